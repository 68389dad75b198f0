import PyProof.Rows.All
import Wide.All
import OpenK.AllK
import Wide.FinOn
import Lean
import PyProof.EqAt
import PyProof.EqKinds
import PyProof.TupleCall
import PyProof.ZipIter
import PyProof.TupleIter
import PyProof.AttrMiss
import PyProof.TupleKey
import PyProof.DictFindH
import KE.KDictOf
import PyProof.DictIter
import PyProof.DictWalks
import PyProof.ListRange
import KE.KDictList
import PyProof.CompUse
import KE.KTryMore
import PyProof.WalkInts
import KE.KIntText
import PyProof.StrLawsTight
import PyProof.Rows.StrIntSpec
import KE.KxMul
import KE.KEqDict
import PyProof.DictValues
import PyProof.StrLawsChain
import KE.KSortTup
import KE.KLam
import KE.KNestM
import PyProof.ExcInit
import PyProof.InstStoreFacts
import PyProof.EnumMake
import PyProof.EnumFor
import KE.KUnpack
import KE.KRevIter
import PySem.Challenge.RW_plymap_k23_spots_and_cuts
set_option Elab.async false
set_option linter.all false
set_option maxHeartbeats 4000000
set_option maxRecDepth 100000
namespace L2
open PySem PySem.Spec PyProof.Rows
abbrev Key:=Sum Int Str
def kK:Key->Value->Bool
  | .inl k,v=>Value.isInt k v
  | .inr x,v=>Value.isStrOf x v
def xG (w:World):Key->Int
  | .inl k=>hashInt k
  | .inr x=>hashStr w x
theorem ca:∀{k:Key} {v:Value},kK k v=true->(∃i t,k=Sum.inl i/\v=Value.int i t)∨(∃x t,k=Sum.inr x/\v=Value.str x t)
  | .inl i,v,h=>by
    obtain⟨t,e⟩:=Value.isInt_shape (k:=i) (v:=v) h
    exact .inl ⟨i,t,rfl,e⟩
  | .inr x,v,h=>by
    obtain⟨t,e⟩:=Value.isStrOf_shape (x:=x) (v:=v) h
    exact .inr ⟨x,t,rfl,e⟩
theorem rn (i:Int)(t:Tok):kK (.inl i) (.int i t)=true:=by simp[kK,Value.isInt]
theorem rm (x:Str)(t:Tok):kK (.inr x) (.str x t)=true:=by simp[kK,Value.isStrOf]
theorem wP (a b:Int):decide ((Sum.inl a:Key)=Sum.inl b)=(a == b):=by
  by_cases e:a=b
  · subst e;simp
  · have h:¬(Sum.inl a:Key)=Sum.inl b:=fun q=>e (Sum.inl.inj q)
    rw[decide_eq_false h]
    exact (beq_eq_false_iff_ne.mpr e).symm
theorem wL (a b:Str):decide ((Sum.inr a:Key)=Sum.inr b)=decide (a=b):=by
  by_cases e:a=b
  · subst e;simp
  · have h:¬(Sum.inr a:Key)=Sum.inr b:=fun q=>e (Sum.inr.inj q)
    rw[decide_eq_false h,decide_eq_false e]
theorem wO (a:Int)(b:Str):decide ((Sum.inl a:Key)=Sum.inr b)=false:=decide_eq_false (fun q=>nomatch q)
theorem wM (a:Str)(b:Int):decide ((Sum.inr a:Key)=Sum.inl b)=false:=decide_eq_false (fun q=>nomatch q)
def cF (prog:Program)(w:World):PySem.KeyKind prog w Key where
  is:=kK
  hash:=xG w
  inj:=fun v a b ha hb=>by
    rcases ca ha with⟨i,t,rfl,rfl⟩|⟨x,t,rfl,rfl⟩
    · rcases ca hb with⟨j,u,rfl,e⟩|⟨y,u,rfl,e⟩
      · injection e with e1 _;rw[e1]
      · exact nomatch e
    · rcases ca hb with⟨j,u,rfl,e⟩|⟨y,u,rfl,e⟩
      · exact nomatch e
      · injection e with e1 _;rw[e1]
  byValue:=fun k v h=>by
    rcases ca h with⟨i,t,rfl,rfl⟩|⟨x,t,rfl,rfl⟩ <;> rfl
  pyHash:=fun hv h=>by
    rcases ca hv with⟨i,t,rfl,rfl⟩|⟨x,t,rfl,rfl⟩
    · exact wpAny_pyHash_int h
    · exact wpAny_pyHash_str h
  eqBool:=fun hu hv h=>by
    rcases ca hu with⟨i,t,rfl,rfl⟩|⟨x,t,rfl,rfl⟩
    · rcases ca hv with⟨j,u,rfl,rfl⟩|⟨y,u,rfl,rfl⟩
      · rw[wP] at h;exact wpAny_eqBool_int h
      · rw[wO] at h;exact SeqAt.EqAt.int_str i t y u _ _ _ _ h
    · rcases ca hv with⟨j,u,rfl,rfl⟩|⟨y,u,rfl,rfl⟩
      · rw[wM] at h;exact SeqAt.EqAt.str_int x t j u _ _ _ _ h
      · rw[wL] at h;exact wpAny_eqBool_str h
  «strs»:=fun k x t v h=>by
    rcases ca h with⟨i,u,rfl,e⟩|⟨y,u,rfl,e⟩
    · exact nomatch e
    · injection e with e1 _
      subst e1
      cases v <;> rfl
theorem nc (prog:Program)(w:World)(i:Int)(t:Tok):(cF prog w).is (.inl i) (.int i t)=true:=rn i t
theorem m9 (prog:Program)(w:World)(x:Str)(t:Tok):(cF prog w).is (.inr x) (.str x t)=true:=rm x t
inductive V where
  | non | bl (b:Bool) | int (i:Int) | str (x:Str) | byt (b:Array UInt8) | flt (b:UInt64) | ref (a:Addr) | ty (n:String)
  deriving DecidableEq
def RelV:V->Value->Prop
  | .non,u=>u=Value.none
  | .bl b,u=>u=Value.bool b
  | .int i,u=>∃t,u=Value.int i t
  | .str x,u=>∃t,u=Value.str x t
  | .byt b,u=>∃t,u=Value.bytes b t
  | .flt b,u=>∃t,u=Value.float b t
  | .ref a,u=>u=Value.ref a
  | .ty n,u=>u=Value.type n
abbrev Vals:List V->List Value->Prop:=Paired RelV
theorem Vals.length {xs:List V}{us:List Value}(r:Vals xs us):xs.length=us.length:=Paired.length r
theorem Vals.get:∀{xs:List V} {us:List Value} {i:Nat} {x:V},Vals xs us->xs[i]?=some x->∃u,us[i]?=some u/\RelV x u
  | _,_,_,_,.nil,e=>by simp at e
  | _,_,0,_,.cons r _,e=>by simp at e;subst e;exact⟨_,rfl,r⟩
  | _,_,i+1,x,.cons _ t,e=>by
    obtain⟨u,h1,h2⟩:=Vals.get (i:=i) (x:=x) t (by simpa using e)
    exact⟨u,by simpa using h1,h2⟩
theorem Vals.set {x:V}{u:Value}(r:RelV x u):∀{xs:List V} {us:List Value} (i:Nat),Vals xs us->Vals (xs.set i x) (us.set i u)
  | _,_,_,.nil=>.nil
  | _,_,0,.cons _ t=>.cons r t
  | _,_,i+1,.cons q t=>.cons q (Vals.set r i t)
theorem Vals.append:∀{xs ys:List V} {us ws:List Value},Vals xs us->Vals ys ws->Vals (xs++ys) (us++ws)
  | _,_,_,_,.nil,s=>s
  | _,_,_,_,.cons r t,s=>.cons r (Vals.append t s)
theorem Vals.take:∀{xs:List V} {us:List Value} (n:Nat),Vals xs us->Vals (xs.take n) (us.take n)
  | _,_,0,_=>.nil
  | _,_,_+1,.nil=>.nil
  | _,_,n+1,.cons r t=>.cons r (Vals.take n t)
theorem Vals.drop:∀{xs:List V} {us:List Value} (n:Nat),Vals xs us->Vals (xs.drop n) (us.drop n)
  | _,_,0,r=>r
  | _,_,_+1,.nil=>.nil
  | _,_,n+1,.cons _ t=>Vals.drop n t
theorem Vals.none_of:∀{xs:List V} {us:List Value} {i:Nat},Vals xs us->xs[i]?=none->us[i]?=none:=fun {xs us i} r e=>by
  have h1:=r.length
  have h2:xs.length<=i:=List.getElem?_eq_none_iff.mp e
  exact List.getElem?_eq_none_iff.mpr (by omega)
def RelO:Option V->Option Value->Prop
  | some v,some u=>RelV v u
  | none,none=>True
  | _,_=>False
def KV {κ:Type}:List (κ×V)->List (κ×Value)->Prop:=Paired fun (p:κ×V) (q:κ×Value)=>p.1=q.1/\RelV p.2 q.2
def kV:Key->V
  | .inl i=>.int i
  | .inr x=>.str x
inductive HO where
  | lst (xs:List V)
  | tup (xs:List V)
  | dK (kvs:List (Key×V)) | dT (kvs:List (List Key×V))
  | set (S:Int->Bool) (n:Nat)
  | ins (C dx:Addr) (fs:List (Str×V))
  | own (x:Addr)
  | xd (fs:List (Str×V))
  | met (f x:Addr)
  | rng (lo hi:Int)
  | frz (o:Obj) (u:HO)
  | tbl (ps:Array Value)
  | ext (φ:Heap->Prop)
abbrev Hp:=Addr->Option HO
def upd (H:Hp)(a:Addr)(o:HO):Hp:=fun b=>if b=a then some o else H b
theorem ak {H:Hp}{a:Addr}{o:HO}:upd H a o a=some o:=by unfold upd;rw[if_pos rfl]
theorem aF {H:Hp}{a b:Addr}{o:HO}(h:b≠a):upd H a o b=H b:=by unfold upd;rw[if_neg h]
theorem uN {H:Hp}{a:Addr}{o u:HO}:upd (upd H a o) a u=upd H a u:=by
  funext b;unfold upd;split <;> rfl
theorem m6 {H:Hp}{a b:Addr}{o u:HO}(h:H a=some o)(h':H b=some u)(d:o≠u):a≠b:=by
  intro e;subst e;rw[h] at h';exact d (Option.some.inj h')
theorem aV {H:Hp}{a b:Addr}{o:HO}(h:H a=some o)(h':H b=none):a≠b:=by
  intro e;subst e;rw[h] at h';cases h'
section
variable (P:Program)(w:World)
def ObjOk (H:Hp)(h:Heap)(a:Addr):HO->Prop
  | .lst xs=>xs.length<=sizeLine/\∃(its:List Value) (n:Nat),Vals xs its/\h.get? a=some { cls:=.type "list",data:=.seq its.toArray n }
  | .tup xs=>xs.length<=sizeLine/\∃its:List Value,Vals xs its/\IsTup h a its.toArray
  | .dK kvs=>kvs.length<=sizeLine/\(a == sysModules)=false/\∃vs,KV kvs vs/\h.DictOf (cF P w) a vs
  | .dT kvs=>kvs.length<=sizeLine/\(a == sysModules)=false/\∃xs:List (List Key×Addr×Value),
      Paired (fun (p:List Key×V) (q:List Key×Addr×Value)=>p.1=q.1/\H q.2.1=some (.tup (p.1.map kV))/\RelV p.2 q.2.2) kvs xs/\
      ∃o es ep,h.get? a=some o/\o.ExactDict/\o.data=.dict es ep/\es.toList=xs.map (entryOfKey (tupleKind (cF P w)))/\(xs.map (·.1)).Nodup
  | .set S n=>h.SetOf (intKind P w) a S n
  | .ins C dx fs=>H dx=some (.own a)/\fs.length<=1000/\dx≠a/\h.get? a=some (PySem.W.instObj C dx)/\
      ∃mA,h.Ns1 dx mA/\(∀f,RelO (fs.lookup f) (mA f))/\PySem.Within mA (fs.map (·.1))
  | .own _=>∃o,h.get? a=some o
  | .xd fs=>∃mA,h.Ns1 a mA/\∀f,RelO (fs.lookup f) (mA f)
  | .rng lo hi=>∃t u v,h.get? a=some { cls:=.type "range",data:=.fields #[.int lo t,.int hi u,.int 1 v] }
  | .frz o u=>h.get? a=some o/\ObjOk H h a u
  | .tbl ps=>h.get? a=some { cls:=.none,data:=.fields ps }
  | .met f x=>h.get? a=some (PySem.W.methodObj (.ref f) (.ref x))
  | .ext φ=>φ h/\(∃o,h.get? a=some o)/\∀h1 h2:Heap,φ h1->(∀o,h1.get? a=some o->h2.get? a=some o)->φ h2
def HOk (H:Hp)(h:Heap):Prop:=∀a o,H a=some o->ObjOk P w H h a o
end
section
variable {P:Program}{w:World}{H H':Hp}{h h':Heap}{a:Addr}{o:HO}
theorem ObjOk.lt (x:ObjOk P w H h a o):a<h.objs.size:=by
  cases o with
  | lst xs=>obtain⟨_,_,_,_,e⟩:=x;exact Heap.lt_size e
  | tup xs=>obtain⟨_,_,_,p⟩:=x;exact p.lt
  | dK kvs=>obtain⟨_,_,_,_,o,_,_,e,_⟩:=x;exact Heap.lt_size e
  | dT kvs=>obtain⟨_,_,_,_,o,_,_,e,_⟩:=x;exact Heap.lt_size e
  | set S n=>obtain⟨o,_,_,_,e,_⟩:=x;exact Heap.lt_size e
  | ins C dx fs=>obtain⟨_,_,_,e,_⟩:=x;exact Heap.lt_size e
  | own y=>obtain⟨_,e⟩:=x;exact Heap.lt_size e
  | xd fs=>obtain⟨_,⟨_,_,_,e,_⟩,_⟩:=x;exact Heap.lt_size e
  | rng lo hi=>obtain⟨_,_,_,e⟩:=x;exact Heap.lt_size e
  | frz ob u=>obtain⟨e,_⟩:=x;exact Heap.lt_size e
  | tbl ps=>exact Heap.lt_size (show h.get? a=some _ from x)
  | met f y=>exact Heap.lt_size (show h.get? a=some _ from x)
  | ext φ=>obtain⟨_,⟨_,e⟩,_⟩:=x;exact Heap.lt_size e
theorem Paired.mapP {α β:Type}{F G:α->β->Prop}:∀{l₁:List α} {l₂:List β},Paired F l₁ l₂->(∀a b,F a b->G a b)->Paired G l₁ l₂
  | _,_,.nil,_=>.nil
  | _,_,.cons r t,f=>.cons (f _ _ r) (Paired.mapP t f)
theorem ObjOk.stay (x:ObjOk P w H h a o)(k:∀b u,(b=a∨H b=some (.own a))->h.get? b=some u->h'.get? b=some u)
    (ho:∀b,H b=some (.own a)->H' b=some (.own a)) (ht:∀b xs,H b=some (.tup xs)->H' b=some (.tup xs)):ObjOk P w H' h' a o:=by
  induction o with
  | lst xs=>obtain⟨z,its,n,r,e⟩:=x;exact⟨z,its,n,r,k _ _ (.inl rfl) e⟩
  | tup xs=>obtain⟨z,its,r,ob,e,c⟩:=x;exact⟨z,its,r,ob,k _ _ (.inl rfl) e,c⟩
  | dK kvs=>obtain⟨z,y,vs,r,ob,es,ep,e,c⟩:=x;exact⟨z,y,vs,r,ob,es,ep,k _ _ (.inl rfl) e,c⟩
  | dT kvs=>
    obtain⟨z,y,xs,r,ob,es,ep,e,c⟩:=x
    exact⟨z,y,xs,Paired.mapP r fun p q z=>⟨z.1,ht _ _ z.2.1,z.2.2⟩,ob,es,ep,k _ _ (.inl rfl) e,c⟩
  | set S n=>obtain⟨ob,es,ep,t,e,c⟩:=x;exact⟨ob,es,ep,t,k _ _ (.inl rfl) e,c⟩
  | ins C dx fs=>
    obtain⟨d,z,ne,e,mA,⟨od,es,ep,e2,c⟩,r⟩:=x
    exact⟨ho _ d,z,ne,k _ _ (.inl rfl) e,mA,⟨od,es,ep,k _ _ (.inr d) e2,c⟩,r⟩
  | own y=>obtain⟨ob,e⟩:=x;exact⟨ob,k _ _ (.inl rfl) e⟩
  | xd fs=>obtain⟨mA,⟨od,es,ep,e,c⟩,r⟩:=x;exact⟨mA,⟨od,es,ep,k _ _ (.inl rfl) e,c⟩,r⟩
  | rng lo hi=>obtain⟨t,u,v,e⟩:=x;exact⟨t,u,v,k _ _ (.inl rfl) e⟩
  | frz ob u ih=>obtain⟨e,q⟩:=x;exact⟨k _ _ (.inl rfl) e,ih q⟩
  | tbl ps=>
    have e:h.get? a=some { cls:=.none,data:=.fields ps }:=x
    show h'.get? a=some { cls:=.none,data:=.fields ps }
    exact k a _ (.inl rfl) e
  | met f y=>
    have e:h.get? a=some (PySem.W.methodObj (.ref f) (.ref y)):=x
    show h'.get? a=some (PySem.W.methodObj (.ref f) (.ref y))
    exact k a _ (.inl rfl) e
  | ext φ=>obtain⟨p,⟨o,e⟩,st⟩:=x;exact⟨st _ _ p fun o q=>k _ _ (.inl rfl) q,⟨o,k _ _ (.inl rfl) e⟩,st⟩
theorem HOk.lt (x:HOk P w H h)(e:H a=some o):a<h.objs.size:=(x a o e).lt
theorem HOk.fresh (x:HOk P w H h)(e:h.objs.size<=a):H a=none:=by
  cases q:H a with
  | none=>rfl
  | some u=>exact absurd (Nat.lt_of_lt_of_le (x.lt q) e) (Nat.lt_irrefl _)
theorem HOk.kept (x:HOk P w H h)(k:∀b u,h.get? b=some u->h'.get? b=some u):HOk P w H h':=fun a o e=>
  (x a o e).stay (fun b u _ q=>k b u q) (fun _ q=>q) fun _ _ q=>q
theorem HOk.laid (x:HOk P w H h)(k:∀b u,h.get? b=some u->h'.get? b=some u)(hp:h.objs.size<=a)(new:ObjOk P w (upd H a o) h' a o):HOk P w (upd H a o) h':=fun b u e=>by
  have hn:=x.fresh hp
  by_cases hb:b=a
  · subst hb;rw[ak] at e;cases e;exact new
  · rw[aF hb] at e
    exact (x b u e).stay (fun c v _ q=>k c v q) (fun c q=>by rw[aF (aV q hn)];exact q) fun c xs q=>by rw[aF (aV q hn)];exact q
end
def Rd (H:Hp)(a:Addr)(u:HO):Prop:=H a=some u∨∃o,H a=some (.frz o u)
theorem Rd.ok {P:Program}{w:World}{H:Hp}{h:Heap}{a:Addr}{u:HO}(r:Rd H a u)(x:HOk P w H h):ObjOk P w H h a u:=by
  rcases r with r|⟨o,r⟩
  · exact x a u r
  · obtain⟨_,q⟩:=x a _ r
    exact q
def Mut:Option HO->Prop
  | some (.lst _)=>True
  | some (.dK _)=>True
  | some (.dT _)=>True
  | some (.set _ _)=>True
  | some (.ins _ _ _)=>True
  | some (.ext _)=>True
  | _=>False
section
variable {P:Program}{w:World}{H:Hp}{h h':Heap}{x e:Addr}{o':HO}
theorem HOk.write (ok:HOk P w H h)(mu:Mut (H x))(he:e=x∨H e=some (.own x))(k:∀b u,b≠e->h.get? b=some u->h'.get? b=some u)(heo:∃u,h'.get? e=some u)
    (new:ObjOk P w (upd H x o') h' x o'):HOk P w (upd H x o') h':=fun b u q=>by
  have nown:∀c y,H c=some (.own y)->c≠x:=fun c y r z=>by subst z;rw[r] at mu;exact mu
  have ntup:∀c xs,H c=some (.tup xs)->c≠x:=fun c xs r z=>by subst z;rw[r] at mu;exact mu
  by_cases hb:b=x
  · subst hb;rw[ak] at q;cases q;exact new
  · rw[aF hb] at q
    by_cases hbe:b=e
    · have q':H b=some (.own x):=by
        rcases he with z|z
        · exact absurd (hbe.trans z) hb
        · rw[hbe];exact z
      rw[q] at q';cases q'
      obtain⟨v,hv⟩:=heo
      exact⟨v,by rw[hbe];exact hv⟩
    · refine (ok b u q).stay (fun c v hc r=>k c v ?_ r) (fun c r=>by rw[aF (nown c b r)];exact r) fun c xs r=>by rw[aF (ntup c xs r)];exact r
      rcases hc with rfl|hc
      · exact hbe
      · rintro rfl
        rcases he with z|z
        · exact nown c b hc z
        · rw[hc] at z;cases z;exact hb rfl
end
structure Un (fs ex:List Addr)(H H':Hp)(h h':Heap):Prop where
  keep:∀b o,h.get? b=some o->H b=none->b∉fs->b∉ex->h'.get? b=some o
  slot:∀b o,h.get? b=some o->H b=none->b∈fs->b∉ex->∃sl,h'.get? b=some { o with slots:=sl }
  free:∀b o,h.get? b=some o->H b=none->b∉ex->H' b=none
  there:∀b o,h.get? b=some o->b∉ex->∃o',h'.get? b=some o'
  tups:∀b xs,H b=some (.tup xs)->H' b=some (.tup xs)
  frzs:∀b o u,H b=some (.frz o u)->H' b=some (.frz o u)
  tbls:∀b ps,H b=some (.tbl ps)->∃more,H' b=some (.tbl (ps++more))
section
variable {fs fs' ex ex':List Addr}{H H1 H2:Hp}{h h1 h2 h':Heap}{a x e:Addr}{o:HO}
theorem Un.any (u:Un fs ex H H1 h h1){b:Addr}{ob:Obj}(q:h.get? b=some ob)(n:H b=none)(hx:b∉ex):∃sl,h1.get? b=some { ob with slots:=sl }:=by
  by_cases hb:b∈fs
  · exact u.slot b ob q n hb hx
  · exact⟨ob.slots,u.keep b ob q n hb hx⟩
theorem Un.kept (k:∀b u,h.get? b=some u->h'.get? b=some u):Un fs ex H H h h':=
  ⟨fun b ob q _ _ _=>k b ob q,fun b ob q _ _ _=>⟨ob.slots,k b ob q⟩,fun _ _ _ n _=>n,fun b ob q _=>⟨ob,k b ob q⟩,fun _ _ q=>q,fun _ _ _ q=>q,fun _ ps q=>⟨#[],by rw[q];simp⟩⟩
theorem Un.refl:Un fs ex H H h h:=Un.kept fun _ _ q=>q
theorem Un.laid (k:∀b u,h.get? b=some u->h'.get? b=some u)(hp:h.objs.size<=a)(hn:H a=none):Un fs ex H (upd H a o) h h' where
  keep:=fun b u q _ _ _=>k b u q
  slot:=fun b u q _ _ _=>⟨u.slots,k b u q⟩
  free:=fun b u q n _=>by rw[aF (Nat.ne_of_lt (Nat.lt_of_lt_of_le (Heap.lt_size q) hp))];exact n
  there:=fun b u q _=>⟨u,k b u q⟩
  tups:=fun b xs q=>by rw[aF (aV q hn)];exact q
  frzs:=fun b u xs q=>by rw[aF (aV q hn)];exact q
  tbls:=fun b ps q=>⟨#[],by rw[aF (aV q hn),q];simp⟩
theorem Un.write (mu:Mut (H x))(he:e=x∨H e=some (.own x))(k:∀b u,b≠e->h.get? b=some u->h'.get? b=some u)(heo:∃u,h'.get? e=some u):Un fs ex H (upd H x o) h h':=by
  have hx:∀b,H b=none->b≠x:=fun b n z=>by subst z;rw[n] at mu;exact mu
  have hb:∀b,H b=none->b≠e:=fun b n z=>by
    subst z
    rcases he with r|r
    · exact hx b n r
    · rw[n] at r;cases r
  have hm:∀b u,H b=some u->¬Mut (some u)->b≠x:=fun b u q nm z=>by subst z;rw[q] at mu;exact nm mu
  refine⟨fun b u q n _ _=>k b u (hb b n) q,fun b u q n _ _=>⟨u.slots,k b u (hb b n) q⟩,fun b u q n _=>by rw[aF (hx b n)];exact n,fun b u q _=>?_,
    fun b xs q=>by rw[aF (hm b _ q fun z=>z)];exact q,fun b u xs q=>by rw[aF (hm b _ q fun z=>z)];exact q,fun b ps q=>⟨#[],by rw[aF (hm b _ q fun z=>z),q];simp⟩⟩
  by_cases hbe:b=e
  · subst hbe;exact heo
  · exact⟨u,k b u hbe q⟩
end
def trk (h:Heap)(H:Hp):List Addr:=(List.range h.objs.size).filter fun a=>(H a).isSome
def lX (h:Heap)(H:Hp):Heap:=PySem.W.hideAll h (trk h H)
theorem rA (h:Heap)(H:Hp):(lX h H).objs.size=h.objs.size:=PySem.W.hideAll_size _ _
theorem jR {h:Heap}{H:Hp}{b:Addr}{o:Obj}(e:h.get? b=some o)(n:H b=none):(lX h H).get? b=some o:=
  PySem.W.hideAll_get _ e fun hm=>by
    have q:(H b).isSome=true:=(List.mem_filter.mp hm).2
    rw[n] at q;simp at q
theorem vt {h:Heap}{H:Hp}{b:Addr}{o:Obj}(e:(lX h H).get? b=some o):h.get? b=some o/\H b=none:=by
  have e':h.get? b=some o:=PySem.W.of_hideAll (trk h H) e
  refine⟨e',?_⟩
  cases q:H b with
  | none=>rfl
  | some x=>
    have hm:b∈trk h H:=List.mem_filter.mpr ⟨List.mem_range.mpr (Heap.lt_size e'),by simp[q]⟩
    have z:(lX h H).get? b=none:=PySem.W.hideAll_none (trk h H) hm
    rw[z] at e;cases e
structure Mod (K:PySem.W.Frag)(mg:Str->Option Value)(base:Heap):Prop where
  kin:K.In base
  glob:base.Ns mainGlobals mg
  blt:∃mb,base.Ns builtinsNs mb/\∀x:Str,x≠"__name__"->mb x=bootBuiltins x
  nolimit:base.NoLimit
structure Cx where
  prog:Program
  w:World
  K:PySem.W.Frag
  mg:Str->Option Value
  base:Heap
  A:Around
  N:List Str
  s₀:Shared
  H₀:Hp
  env:Env
  outer:List Env
  stack:List Env
  ex:List Addr
  fn:Str->Bool
  calm:Bool
  pn:List (Addr×Obj)
  xe:Value->Shared->Prop
def frs (l:List Env):List Addr:=l.filterMap (·.frame)
abbrev Cx.fs (X:Cx):List Addr:=frs X.outer
def Vis (sc:Scope)(x:Str):Prop:=sc.names.lookup x=some .local∨sc.names.lookup x=some .cell∨sc.names.lookup x=some .free
def Loc (sc:Scope)(x:Str):Prop:=sc.names.lookup x=some .local∨sc.names.lookup x=some .cell
def xK (env:Env)(h:Heap)(m:Str->Option Value)(x:Str)(u:Value):Prop:=
  (env.kindOf x=some .local/\m x=some u)∨((env.kindOf x=some .cell∨env.kindOf x=some .free)/\∃c,env.cells.lookup x=some c/\h.IsCell c (some u))
structure Cx.Ok (X:Cx):Prop where
  mod:Mod X.K X.mg X.base
  kind:X.env.scope.kind=.function
  glob:X.env.globals=mainGlobals
  blt:X.env.builtins=builtinsNs
  above:X.s₀.heap.objs.size<=X.env.locals
  inj:∀x y c,X.env.cells.lookup x=some c->X.env.cells.lookup y=some c->x=y
  has:∀x,(X.env.kindOf x=some .cell∨X.env.kindOf x=some .free)->∃c,X.env.cells.lookup x=some c
  cab:∀x c,X.fn x=true->X.env.cells.lookup x=some c->X.s₀.heap.objs.size<=c
  hd:X.calm=true->X.A.handled=none
  frames:X.A.frames=some X.stack
  stk:X.stack=X.outer∨(X.stack=X.env::X.outer/\X.env.frame=some X.env.locals)
  exf:∀b∈X.ex,b≠X.env.locals/\∀x c,X.env.cells.lookup x=some c->c≠b
  bs:∀b o,X.base.get? b=some o->X.s₀.heap.get? b=some o/\X.H₀ b=none
  bsz:X.base.objs.size<=X.s₀.heap.objs.size
  noex:∀b o,X.base.get? b=some o->b∉X.ex
  exfs:∀b∈X.ex,b∉X.fs
  funs:X.s₀.heap.FunFrames X.base X.outer
  frf:∀b∈X.fs,X.H₀ b=none
structure Inv (X:Cx)(pins:List (Addr×Obj))(σ:List (Option V))(H:Hp)(s:Shared):Prop where
  ok:X.Ok
  os:s.os=X.s₀.os
  bare:AllBare s.gens
  base:Un X.fs X.ex X.H₀ H X.s₀.heap s.heap
  loc:∃m,s.heap.Ns X.env.locals m/\∀(i:Nat) (x:Str) (v:V),X.N[i]?=some x->σ[i]?=some (some v)->Vis X.env.scope x->∃u,RelV v u/\xK X.env s.heap m x u
  cell:∀x c,X.env.cells.lookup x=some c->∃v,s.heap.IsCell c v
  free:H X.env.locals=none
  freeC:∀x c,X.env.cells.lookup x=some c->H c=none
  pin:∀p∈X.pn++pins,s.heap.get? p.1=some p.2/\H p.1=none/\p.1≠X.env.locals/\p.1∉X.fs/\∀v,p.2.data≠.cell v
  hok:HOk X.prog X.w H s.heap
  len:σ.length=X.N.length
section
variable {X:Cx}{pins:List (Addr×Obj)}{σ:List (Option V)}{H H':Hp}{s:Shared}{h':Heap}
theorem Cx.Ok.nofr (ok:X.Ok){b:Addr}{o:Obj}(e:X.base.get? b=some o):b∉X.fs:=fun hb=>by
  have:=(ok.funs.mem hb).1
  rw[e] at this;cases this
theorem Inv.bs (I:Inv X pins σ H s):∀b o,X.base.get? b=some o->s.heap.get? b=some o/\H b=none:=fun b o e=>
  ⟨I.base.keep b o (I.ok.bs b o e).1 (I.ok.bs b o e).2 (I.ok.nofr e) (I.ok.noex b o e),I.base.free b o (I.ok.bs b o e).1 (I.ok.bs b o e).2 (I.ok.noex b o e)⟩
theorem Inv.bk (I:Inv X pins σ H s):∀b o,X.base.get? b=some o->s.heap.get? b=some o:=fun b o e=>(I.bs b o e).1
theorem Inv.mod (I:Inv X pins σ H s):Mod X.K X.mg X.base:=I.ok.mod
theorem Inv.kIn (I:Inv X pins σ H s):X.K.In s.heap:=I.ok.mod.kin.keeps I.bk
theorem Inv.nolimit (I:Inv X pins σ H s):s.heap.NoLimit:=I.ok.mod.nolimit.keeps I.bk
theorem Inv.lt (I:Inv X pins σ H s):X.env.locals<s.heap.objs.size:=let ⟨_,hn,_⟩:=I.loc;hn.lt
theorem Inv.sz (I:Inv X pins σ H s):X.s₀.heap.objs.size<=s.heap.objs.size:=Nat.le_trans I.ok.above (Nat.le_of_lt I.lt)
theorem Inv.nofs (I:Inv X pins σ H s){a:Addr}(h:s.heap.objs.size<=a):a∉X.fs:=fun hb=>by
  obtain⟨_,o,ho,_⟩:=I.ok.funs.mem hb
  exact absurd (Nat.lt_of_lt_of_le (Heap.lt_size ho) (Nat.le_trans I.sz h)) (Nat.lt_irrefl _)
theorem Inv.cne (I:Inv X pins σ H s):∀x c,X.env.cells.lookup x=some c->c≠X.env.locals:=fun x c e z=>by
  obtain⟨v,o,ho,hd⟩:=I.cell x c e
  obtain⟨m,⟨o',es,ep,ho',hd',_⟩,_⟩:=I.loc
  rw[z,ho'] at ho;cases ho;rw[hd'] at hd;cases hd
theorem Inv.funs (I:Inv X pins σ H s):s.heap.FunFrames X.base X.outer:=by
  have all:∀(l:List Env),(∀b∈frs l,b∈X.fs)->X.s₀.heap.FunFrames X.base l->s.heap.FunFrames X.base l:=by
    intro l
    induction l with
    | nil=>intro _ _;trivial
    | cons env r ih=>
      intro hs hl
      obtain⟨hk,⟨L,o,hf,hn,ho,hd⟩,hr⟩:=hl
      have hL:L∈X.fs:=hs L (by unfold frs;rw[List.filterMap_cons,hf];exact List.mem_cons_self)
      obtain⟨sl,e⟩:=I.base.slot L o ho (I.ok.frf L hL) hL fun z=>I.ok.exfs L z hL
      exact⟨hk,⟨L,_,hf,hn,e,hd⟩,ih (fun b hb=>hs b (by unfold frs;rw[List.filterMap_cons,hf];exact List.mem_cons_of_mem _ hb)) hr⟩
  exact all X.outer (fun _ hb=>hb) I.ok.funs
theorem Inv.stack (I:Inv X pins σ H s):s.heap.FunFrames X.base X.stack:=by
  rcases I.ok.stk with e|⟨e,hf⟩
  · rw[e];exact I.funs
  · rw[e]
    obtain⟨m,hn,_⟩:=I.loc
    refine .cons (by rw[I.ok.kind];decide) hf hn ?_ I.funs
    exact Heap.get?_none_of_le (Nat.le_trans I.ok.bsz I.ok.above)
theorem Inv.stkSub (I:Inv X pins σ H s):∀b∈frs X.stack,b∈X.env.locals::X.fs:=fun b hb=>by
  rcases I.ok.stk with e|⟨e,hf⟩
  · rw[e] at hb;exact List.mem_cons_of_mem _ hb
  · rw[e] at hb
    unfold frs at hb
    rw[List.filterMap_cons,hf] at hb
    exact hb
theorem Inv.stkFree (I:Inv X pins σ H s):∀b∈frs X.stack,H b=none:=fun b hb=>by
  rcases List.mem_cons.mp (I.stkSub b hb) with e|hb
  · rw[e];exact I.free
  · obtain⟨_,o,ho,_⟩:=I.ok.funs.mem hb
    exact I.base.free b o ho (I.ok.frf b hb) fun z=>I.ok.exfs b z hb
theorem Inv.step {g':Array GenState}{t':Nat}{d':Drawn}{ch:List Addr}(I:Inv X pins σ H s)
    (hch:∀b∈ch,(b∈X.ex∨X.s₀.heap.objs.size<=b)/\b≠X.env.locals/\(∀x c,X.env.cells.lookup x=some c->c≠b)/\∀p∈X.pn++pins,p.1≠b)
    (keep:∀b o,b≠X.env.locals->b∉X.fs->b∉ch->s.heap.get? b=some o->H b=none->h'.get? b=some o)
    (slot:∀b o,b≠X.env.locals->b∈X.fs->b∉ch->s.heap.get? b=some o->H b=none->∃sl,h'.get? b=some { o with slots:=sl }) (free:∀b o,b∉ch->s.heap.get? b=some o->H b=none->H' b=none)
    (there:∀b o,b∉ch->s.heap.get? b=some o->∃o',h'.get? b=some o')
    (tups:∀b xs,H b=some (.tup xs)->H' b=some (.tup xs)) (frzs:∀b o u,H b=some (.frz o u)->H' b=some (.frz o u)) (tbls:∀b ps,H b=some (.tbl ps)->∃more,H' b=some (.tbl (ps++more)))
    (ns:∀m,s.heap.Ns X.env.locals m->h'.Ns X.env.locals m) (hok:HOk X.prog X.w H' h') (hg:AllBare g') :
    Inv X pins σ H' { s with heap:=h',gens:=g',drawn:=d',toks:=t' }:=by
  have neL:∀b o,X.s₀.heap.get? b=some o->b≠X.env.locals:=fun b o e=>Nat.ne_of_lt (Nat.lt_of_lt_of_le (Heap.lt_size e) I.ok.above)
  have neC:∀b o,X.s₀.heap.get? b=some o->b∉X.ex->b∉ch:=fun b o e hx hb=>by
    rcases (hch b hb).1 with z|z
    · exact hx z
    · exact absurd (Nat.lt_of_lt_of_le (Heap.lt_size e) z) (Nat.lt_irrefl _)
  have cellK:∀x c,X.env.cells.lookup x=some c->∀v,s.heap.IsCell c v->h'.IsCell c v:=fun x c e v ⟨o,ho,hd⟩=>by
    have nch:c∉ch:=fun z=>(hch c z).2.2.1 x c e rfl
    by_cases hc:c∈X.fs
    · obtain⟨sl,q⟩:=slot c o (I.cne x c e) hc nch ho (I.freeC x c e)
      exact⟨_,q,hd⟩
    · exact⟨o,keep c o (I.cne x c e) hc nch ho (I.freeC x c e),hd⟩
  refine⟨I.ok,I.os,hg,⟨fun b o e n hb hx=>?_,fun b o e n hb hx=>?_,fun b o e n hx=>?_,fun b o e hx=>?_,fun b xs e=>tups b xs (I.base.tups b xs e),fun b o xs e=>frzs b o xs (I.base.frzs b o xs e),fun b ps e=>?_⟩,?_,fun x c e=>?_,?_,fun x c e=>?_,fun p hp=>?_,hok,I.len⟩
  · exact keep b o (neL b o e) hb (neC b o e hx) (I.base.keep b o e n hb hx) (I.base.free b o e n hx)
  · obtain⟨sl,e1⟩:=I.base.slot b o e n hb hx
    obtain⟨sl',e2⟩:=slot b _ (neL b o e) hb (neC b o e hx) e1 (I.base.free b o e n hx)
    exact⟨sl',e2⟩
  · obtain⟨o',e1⟩:=I.base.there b o e hx
    exact free b o' (neC b o e hx) e1 (I.base.free b o e n hx)
  · obtain⟨o',e1⟩:=I.base.there b o e hx
    exact there b o' (neC b o e hx) e1
  · obtain⟨m1,e1⟩:=I.base.tbls b ps e
    obtain⟨m2,e2⟩:=tbls b _ e1
    exact⟨m1++m2,by rw[e2,Array.append_assoc]⟩
  · obtain⟨m,hn,hl⟩:=I.loc
    refine⟨m,ns m hn,fun i x v e1 e2 e3=>?_⟩
    obtain⟨u,r,l⟩:=hl i x v e1 e2 e3
    refine⟨u,r,?_⟩
    rcases l with l|⟨k,c,e,z⟩
    · exact .inl l
    · exact .inr ⟨k,c,e,cellK x c e _ z⟩
  · obtain⟨v,z⟩:=I.cell x c e
    exact⟨v,cellK x c e v z⟩
  · obtain⟨m,⟨o,_,_,ho,_⟩,_⟩:=I.loc
    exact free _ o (fun z=>(hch _ z).2.1 rfl) ho I.free
  · obtain⟨v,o,ho,hd⟩:=I.cell x c e
    exact free c o (fun z=>(hch c z).2.2.1 x c e rfl) ho (I.freeC x c e)
  · obtain⟨e,n,ne,nf,d⟩:=I.pin p hp
    have nch:p.1∉ch:=fun z=>(hch p.1 z).2.2.2 p hp rfl
    exact⟨keep p.1 p.2 ne nf nch e n,free p.1 p.2 nch e n,ne,nf,d⟩
theorem Inv.un {t':Nat}(I:Inv X pins σ H s)(u:Un X.fs [] H H' s.heap h')(hok:HOk X.prog X.w H' h'):Inv X pins σ H' { s with heap:=h',toks:=t' }:=by
  obtain⟨m,⟨o,es,ep,ho,r⟩,_⟩:=id I.loc
  obtain⟨sl,hL⟩:=u.any ho I.free (by simp)
  exact I.step (g':=s.gens) (d':=s.drawn) (ch:=[]) (fun _ z=>nomatch z) (fun b o _ hb _ e n=>u.keep b o e n hb (by simp)) (fun b o _ hb _ e n=>u.slot b o e n hb (by simp)) (fun b o _ e n=>u.free b o e n (by simp)) (fun b o _ e=>u.there b o e (by simp)) u.tups u.frzs u.tbls (fun m' hm=>by
    obtain⟨o',es',ep',ho',r'⟩:=hm
    rw[ho] at ho';cases ho'
    exact⟨_,es',ep',hL,r'⟩) hok I.bare
theorem Inv.call {g':Array GenState}{t':Nat}{d':Drawn}{ch:List Addr}(I:Inv X pins σ H s)(u:Un (frs X.stack) ch H H' s.heap h')(hok:HOk X.prog X.w H' h')(hg:AllBare g')
    (hch:∀b∈ch,(b∈X.ex∨X.s₀.heap.objs.size<=b)/\b≠X.env.locals/\(∀x c,X.env.cells.lookup x=some c->c≠b)/\∀p∈X.pn++pins,p.1≠b) :
    Inv X pins σ H' { s with heap:=h',gens:=g',drawn:=d',toks:=t' }:=by
  obtain⟨m,⟨o,es,ep,ho,r⟩,_⟩:=id I.loc
  obtain⟨sl,hL⟩:=u.any ho I.free fun z=>(hch _ z).2.1 rfl
  exact I.step (ch:=ch) hch (fun b o hL hb hc e n=>u.keep b o e n (fun z=>(List.mem_cons.mp (I.stkSub b z)).elim hL hb) hc) (fun b o _ _ hc e n=>u.any e n hc) (fun b o hc e n=>u.free b o e n hc) (fun b o hc e=>u.there b o e hc) u.tups u.frzs u.tbls (fun m' hm=>by
    obtain⟨o',es',ep',ho',r'⟩:=hm
    rw[ho] at ho';cases ho'
    exact⟨_,es',ep',hL,r'⟩) hok hg
theorem Inv.turned {t':Nat}{it:Addr}(I:Inv X pins σ H s)(k:∀b o,b≠it->s.heap.get? b=some o->h'.get? b=some o)(hn:H it=none)(hL:it≠X.env.locals)
    (h1:it∈X.ex∨X.s₀.heap.objs.size<=it) (h2:∀x c,X.env.cells.lookup x=some c->c≠it) (h3:∀p∈X.pn++pins,p.1≠it):Inv X pins σ H { s with heap:=h',toks:=t' }:=by
  have nit:∀b u,H b=some u->b≠it:=fun b u e z=>by rw[z,hn] at e;cases e
  refine I.step (g':=s.gens) (d':=s.drawn) (ch:=[it]) (fun b hb=>?_) (fun b o _ _ hc e _=>k b o (fun z=>hc (by simp[z])) e) (fun b o _ _ hc e _=>⟨o.slots,k b o (fun z=>hc (by simp[z])) e⟩) (fun _ _ _ _ n=>n)
    (fun b o hc e=>⟨o,k b o (fun z=>hc (by simp[z])) e⟩) (fun _ _ e=>e) (fun _ _ _ e=>e) (fun b ps e=>⟨#[],by rw[e];simp⟩) (fun m hm=>?_) (fun b u e=>?_) I.bare
  · have e:b=it:=by simpa using hb
    subst e
    exact⟨h1,hL,h2,h3⟩
  · obtain⟨o,es,ep,ho,r⟩:=hm
    exact⟨o,es,ep,k _ o (Ne.symm hL) ho,r⟩
  · refine (I.hok b u e).stay (fun c v hc q=>k c v ?_ q) (fun _ q=>q) fun _ _ q=>q
    rcases hc with z|z
    · rw[z];exact nit b u e
    · exact nit c _ z
theorem Inv.tok (I:Inv X pins σ H s)(t:Nat):Inv X pins σ H { s with toks:=t }:=I.un (h':=s.heap) (t':=t) Un.refl I.hok
theorem Inv.kept {t':Nat}(I:Inv X pins σ H s)(k:∀b u,s.heap.get? b=some u->h'.get? b=some u):Inv X pins σ H { s with heap:=h',toks:=t' }:=I.un (Un.kept k) (I.hok.kept k)
theorem Inv.laid {a:Addr}{o:HO}{t':Nat}(I:Inv X pins σ H s)(k:∀b u,s.heap.get? b=some u->h'.get? b=some u)(hp:s.heap.objs.size<=a)(new:ObjOk X.prog X.w (upd H a o) h' a o) :
    Inv X pins σ (upd H a o) { s with heap:=h',toks:=t' }:=I.un (Un.laid k hp (I.hok.fresh hp)) (I.hok.laid k hp new)
theorem Inv.write {x e:Addr}{o:HO}{t':Nat}(I:Inv X pins σ H s)(mu:Mut (H x))(he:e=x∨H e=some (.own x))(k:∀b u,b≠e->s.heap.get? b=some u->h'.get? b=some u)(heo:∃u,h'.get? e=some u)
    (new:ObjOk X.prog X.w (upd H x o) h' x o):Inv X pins σ (upd H x o) { s with heap:=h',toks:=t' }:=I.un (Un.write mu he k heo) (I.hok.write mu he k heo new)
theorem Inv.weak {σ':List (Option V)}(I:Inv X pins σ H s)(hl:σ'.length=σ.length)(w:∀(i:Nat) v,σ'[i]?=some (some v)->σ[i]?=some (some v)):Inv X pins σ' H s:=
  ⟨I.ok,I.os,I.bare,I.base,let ⟨m,hn,hl'⟩:=I.loc;⟨m,hn,fun i x v e1 e2 e3=>hl' i x v e1 (w i v e2) e3⟩,I.cell,I.free,I.freeC,I.pin,I.hok,hl.trans I.len⟩
theorem Inv.pins_of {pins':List (Addr×Obj)}(I:Inv X pins σ H s)(h:∀p∈pins',s.heap.get? p.1=some p.2/\H p.1=none/\p.1≠X.env.locals/\p.1∉X.fs/\∀v,p.2.data≠.cell v):Inv X pins' σ H s:=
  ⟨I.ok,I.os,I.bare,I.base,I.loc,I.cell,I.free,I.freeC,fun p hp=>(List.mem_append.mp hp).elim (fun z=>I.pin p (List.mem_append_left _ z)) (h p),I.hok,I.len⟩
theorem m5 {N:List Str}(hN:N.Nodup){i j:Nat}{x:Str}(a:N[i]?=some x)(b:N[j]?=some x):i=j:=by
  obtain⟨h1,e1⟩:=List.getElem?_eq_some_iff.mp a
  obtain⟨h2,e2⟩:=List.getElem?_eq_some_iff.mp b
  exact (List.getElem_inj hN).mp (e1.trans e2.symm)
theorem kj {M:Model}{A:Around}{E:Value->Shared->Prop}{i:Nat}{x:Str}{v:V}{u:Value}{Q:Unit->Shared->Prop}(I:Inv X pins σ H s)(hN:X.N.Nodup)(hi:X.N[i]?=some x)(hx:Loc X.env.scope x)(r:RelV v u)
    (h:∀s',Inv X pins (σ.set i (some v)) H s'->(∃a,Heap.SameBut a s.heap s'.heap/\(a=X.env.locals∨X.env.cells.lookup x=some a))->Q () s') (hf:X.fn x=true∨X.env.scope.names.lookup x=some .local:=by first | exact .inl rfl | exact .inr rfl | assumption):wpAny M A (storeName X.env x u) Q E s:=by
  obtain⟨m,hn,hl⟩:=id I.loc
  have hcls:(X.env.scope.kind == .class || (X.env.scope.kind == .module && X.env.locals != X.env.globals))=false:=by rw[I.ok.kind];rfl
  have hiσ:i<σ.length:=by rw[I.len];exact (List.getElem?_eq_some_iff.mp hi).1
  have cne:=I.cne
  have tracked:∀{a:Addr} {h':Heap},(∃o,s.heap.get? a=some o/\H a=none)->Heap.SameBut a s.heap h'->HOk X.prog X.w H h':=fun {a h'} ha hs b ob e=>by
    obtain⟨_,_,hfree⟩:=ha
    refine (I.hok b ob e).stay (fun c w' hc q=>(hs.2 c ?_).trans q) (fun _ q=>q) fun _ _ q=>q
    rintro rfl
    rcases hc with rfl|hc
    · rw[hfree] at e;cases e
    · rw[hfree] at hc;cases hc
  rcases hx with hk|hk
  · refine wpAny_storeName_local hk hn (fun h' hn' hs=>?_) hcls
    obtain⟨oL,_,_,hoL,_⟩:=id hn
    refine h _ ⟨I.ok,I.os,I.bare,⟨fun b o e n hb hx=>?_,fun b o e n hb hx=>?_,I.base.free,fun b o e hx=>?_,I.base.tups,I.base.frzs,I.base.tbls⟩,⟨_,hn',fun j y v' e1 e2 e3=>?_⟩,fun y c e=>?_,I.free,I.freeC,fun p hp=>?_,tracked ⟨oL,hoL,I.free⟩ hs,by simpa using I.len⟩ ⟨_,hs,.inl rfl⟩
    · exact (hs.2 b (Nat.ne_of_lt (Nat.lt_of_lt_of_le (Heap.lt_size e) I.ok.above))).trans (I.base.keep b o e n hb hx)
    · obtain⟨sl,e1⟩:=I.base.slot b o e n hb hx
      exact⟨sl,(hs.2 b (Nat.ne_of_lt (Nat.lt_of_lt_of_le (Heap.lt_size e) I.ok.above))).trans e1⟩
    · obtain⟨o',e1⟩:=I.base.there b o e hx
      exact⟨o',(hs.2 b (Nat.ne_of_lt (Nat.lt_of_lt_of_le (Heap.lt_size e) I.ok.above))).trans e1⟩
    · by_cases hj:j=i
      · subst hj
        rw[hi] at e1;cases e1
        rw[List.getElem?_set_self hiσ] at e2
        cases e2
        exact⟨u,r,.inl ⟨hk,by simp⟩⟩
      · rw[List.getElem?_set_ne (Ne.symm hj)] at e2
        obtain⟨u',r',q⟩:=hl j y v' e1 e2 e3
        refine⟨u',r',?_⟩
        rcases q with⟨k,e⟩|⟨k,c,e,z⟩
        · refine .inl ⟨k,?_⟩
          have:y≠x:=fun e=>hj (m5 hN e1 (e▸hi))
          simp[this,e]
        · exact .inr ⟨k,c,e,z.sameBut hs (cne y c e)⟩
    · obtain⟨w',z⟩:=I.cell y c e
      exact⟨w',z.sameBut hs (cne y c e)⟩
    · obtain⟨e,n,ne,nf,d⟩:=I.pin p hp
      exact⟨(hs.2 p.1 ne).trans e,n,ne,nf,d⟩
  · have hfn:X.fn x=true:=by
      rcases hf with z|z
      · exact z
      · rw[z] at hk;cases hk
    obtain⟨c,hc⟩:=I.ok.has x (.inl hk)
    obtain⟨w',z⟩:=I.cell x c hc
    refine wpAny_storeName_cell I.ok.kind hk hc z (fun h' hc' hs=>?_)
    obtain⟨oc,hoc,hocd⟩:=id z
    refine h { s with heap:=h' } ⟨I.ok,I.os,I.bare,⟨fun b o e n hb hx=>?_,fun b o e n hb hx=>?_,I.base.free,fun b o e hx=>?_,I.base.tups,I.base.frzs,I.base.tbls⟩,⟨m,hn.sameBut hs (Ne.symm (cne x c hc)),fun j y v' e1 e2 e3=>?_⟩,fun y c' e=>?_,I.free,I.freeC,fun p hp=>?_,tracked ⟨oc,hoc,I.freeC x c hc⟩ hs,by simpa using I.len⟩ ⟨c,hs,.inr hc⟩
    · exact (hs.2 b (Nat.ne_of_lt (Nat.lt_of_lt_of_le (Heap.lt_size e) (I.ok.cab x c hfn hc)))).trans (I.base.keep b o e n hb hx)
    · obtain⟨sl,e1⟩:=I.base.slot b o e n hb hx
      exact⟨sl,(hs.2 b (Nat.ne_of_lt (Nat.lt_of_lt_of_le (Heap.lt_size e) (I.ok.cab x c hfn hc)))).trans e1⟩
    · obtain⟨o',e1⟩:=I.base.there b o e hx
      exact⟨o',(hs.2 b (Nat.ne_of_lt (Nat.lt_of_lt_of_le (Heap.lt_size e) (I.ok.cab x c hfn hc)))).trans e1⟩
    · by_cases hj:j=i
      · subst hj
        rw[hi] at e1;cases e1
        rw[List.getElem?_set_self hiσ] at e2
        cases e2
        exact⟨u,r,.inr ⟨.inl hk,c,hc,hc'⟩⟩
      · rw[List.getElem?_set_ne (Ne.symm hj)] at e2
        obtain⟨u',r',q⟩:=hl j y v' e1 e2 e3
        refine⟨u',r',?_⟩
        rcases q with q|⟨k,c',e,z'⟩
        · exact .inl q
        · refine .inr ⟨k,c',e,z'.sameBut hs ?_⟩
          rintro rfl
          exact hj (m5 hN e1 (I.ok.inj _ _ _ e hc▸hi))
    · by_cases hcc:c'=c
      · subst hcc;exact⟨_,hc'⟩
      · obtain⟨w2,z2⟩:=I.cell y c' e
        exact⟨w2,z2.sameBut hs hcc⟩
    · obtain⟨e,n,ne,nf,d⟩:=I.pin p hp
      refine⟨(hs.2 p.1 ?_).trans e,n,ne,nf,d⟩
      intro q
      rw[q,hoc] at e
      have q':oc=p.2:=Option.some.inj e
      exact d w' (by rw[←q'];exact hocd)
theorem fS {M:Model}{A:Around}{E:Value->Shared->Prop}{i:Nat}{x:Str}{v:V}{u:Value}{Q:Unit->Shared->Prop}(I:Inv X pins σ H s)(hN:X.N.Nodup)(hi:X.N[i]?=some x)(hx:Loc X.env.scope x)(r:RelV v u)
    (h:∀s',Inv X pins (σ.set i (some v)) H s'->Q () s') (hf:X.fn x=true∨X.env.scope.names.lookup x=some .local:=by first | exact .inl rfl | exact .inr rfl | assumption):wpAny M A (storeName X.env x u) Q E s:=
  kj I hN hi hx r (fun s' I' _=>h s' I') hf
theorem Inv.call' {s':Shared}{ch:List Addr}(I:Inv X pins σ H s)(ho:s'.os=s.os)(u:Un (frs X.stack) ch H H' s.heap s'.heap)(hok:HOk X.prog X.w H' s'.heap)(hg:AllBare s'.gens)
    (hch:∀b∈ch,(b∈X.ex∨X.s₀.heap.objs.size<=b)/\b≠X.env.locals/\(∀x c,X.env.cells.lookup x=some c->c≠b)/\∀p∈X.pn++pins,p.1≠b):Inv X pins σ H' s':=by
  obtain⟨h',g',d',t',o'⟩:=s'
  have e:o'=s.os:=ho
  subst e
  exact I.call (g':=g') (t':=t') (d':=d') u hok hg hch
end
abbrev XK:=Value->Option Addr->Hp->Prop
abbrev St:=List (Option V)
abbrev VK:=V->Hp->Prop
abbrev TE:=St->Hp->VK->Prop
abbrev TT:=St->Hp->(Bool->Hp->Prop)->Prop
abbrev TA:=St->Hp->(List V->Hp->Prop)->Prop
structure Ends where
  nx:St->Hp->Prop
  rt:VK
  bk:St->Hp->Prop:=fun _ _=>False
  ct:St->Hp->Prop:=fun _ _=>False
abbrev TS:=Ends->St->Hp->Prop
def EP (X:Cx)(pins:List (Addr×Obj))(σ:St)(Q:VK)(u:Value)(s':Shared):Prop:=∃v H',Inv X pins σ H' s'/\RelV v u/\Q v H'
def TP (X:Cx)(pins:List (Addr×Obj))(σ:St)(Q:Bool->Hp->Prop)(b:Bool)(s':Shared):Prop:=∃H',Inv X pins σ H' s'/\Q b H'
def AP (X:Cx)(pins:List (Addr×Obj))(σ:St)(Q:List V->Hp->Prop)(us:List Value)(s':Shared):Prop:=∃vs H',Inv X pins σ H' s'/\Vals vs us/\Q vs H'
def SP (X:Cx)(pins:List (Addr×Obj))(D:Ends)(f:Flow)(s':Shared):Prop:=
  match f with
  | .next=>∃σ' H',Inv X pins σ' H' s'/\D.nx σ' H'
  | .brk=>∃σ' H',Inv X pins σ' H' s'/\D.bk σ' H'
  | .cont=>∃σ' H',Inv X pins σ' H' s'/\D.ct σ' H'
  | .ret u=>∃v σ' H',Inv X pins σ' H' s'/\RelV v u/\D.rt v H'
def PE (X:Cx)(e:Expr)(t:TE):Prop:=
  ∀(pins:List (Addr×Obj)) (s:Shared) (σ:St) (H:Hp) (Q:VK),Inv X pins σ H s->t σ H Q->wpAny (model X.prog X.w) X.A (eval e X.env) (EP X pins σ Q) X.xe s
def PT (X:Cx)(e:Expr)(t:TT):Prop:=
  ∀(pins:List (Addr×Obj)) (s:Shared) (σ:St) (H:Hp) (Q:Bool->Hp->Prop),Inv X pins σ H s->t σ H Q->wpAny (model X.prog X.w) X.A (isTrue e X.env (eval e X.env)) (TP X pins σ Q) X.xe s
def PW (X:Cx)(e:Expr)(t:TT):Prop:=
  ∀(whole:Sem Value) (pins:List (Addr×Obj)) (s:Shared) (σ:St) (H:Hp) (Q:Bool->Hp->Prop),Inv X pins σ H s->t σ H Q->wpAny (model X.prog X.w) X.A (isTrue e X.env whole) (TP X pins σ Q) X.xe s
theorem PW.pt {X:Cx}{e:Expr}{t:TT}(h:PW X e t):PT X e t:=h _
def PA (X:Cx)(es:List Expr)(t:TA):Prop:=
  ∀(pos:Pos) (pins:List (Addr×Obj)) (s:Shared) (σ:St) (H:Hp) (Q:List V->Hp->Prop),Inv X pins σ H s->t σ H Q->wpAny (model X.prog X.w) X.A (spliced (backTo pos (starEach es X.env))) (AP X pins σ Q) X.xe s
def PS (X:Cx)(st:Stmt)(t:TS):Prop:=
  ∀(pins:List (Addr×Obj)) (s:Shared) (σ:St) (H:Hp) (D:Ends),Inv X pins σ H s->t D σ H->wpAny (model X.prog X.w) X.A (exec st X.env) (SP X pins D) X.xe s
def PSs (X:Cx)(st:List Stmt)(t:TS):Prop:=
  ∀(pins:List (Addr×Obj)) (s:Shared) (σ:St) (H:Hp) (D:Ends),Inv X pins σ H s->t D σ H->wpAny (model X.prog X.w) X.A (execs st X.env) (SP X pins D) X.xe s
theorem thn {α:Type}{t:Sem α}{Q Q':α->Shared->Prop}{M:Model}{A:Around}{E:Value->Shared->Prop}{s:Shared}(h:wpAny M A t Q E s)(hQ:∀a s,Q a s->Q' a s):wpAny M A t Q' E s:=wpAny_mono h hQ fun _ _ x=>x
section
variable {X:Cx}
def cm (i:Nat):TE:=fun σ H Q=>∃v,σ[i]?=some (some v)/\Q v H
def tC (v:V):TE:=fun _ H Q=>Q v H
theorem wH {i:Nat}{x:Str}{pos:Pos}(hN:X.N[i]?=some x)(hv:Vis X.env.scope x)(hd:(x == ("__debug__" : Str))=false:=by decide)(hcd:(x == ("__classdict__" : Str))=false:=by decide):PE X (.Name x pos) (cm i):=by
  intro pins s σ H Q I h
  obtain⟨v,e,h⟩:=h
  obtain⟨m,hn,hl⟩:=I.loc
  obtain⟨u,r,l⟩:=hl i x v hN e hv
  have fin:EP X pins σ Q u s:=⟨v,H,I,r,h⟩
  rcases l with⟨hk,hm⟩|⟨hk,c,hc,hcell⟩
  · exact wpAny_Name (wpAny_loadName_local I.ok.kind hk hn hm fin) hd
  · rcases hk with hk|hk
    · exact wpAny_Name (wpAny_loadName_cell I.ok.kind hk hc hcell fin) hd
    · exact wpAny_Name (wpAny_loadName_free I.ok.kind hk hc hcell fin hcd) hd
theorem ag {i j pos}:PE X (.Constant (.int i) j pos) (tC (.int i)):=fun _ _ _ H _ I h=>wpAny_Constant_int ⟨.int i,H,I.tok _,⟨_,rfl⟩,h⟩
theorem hV {b j pos}:PE X (.Constant (.bool b) j pos) (tC (.bl b)):=fun _ _ _ H _ I h=>Constant_bool ⟨.bl b,H,I,rfl,h⟩
def Gl (X:Cx)(x:Str):Prop:=X.env.kindOf x=some .globalImplicit
theorem qb {E:Value->Shared->Prop}{pins:List (Addr×Obj)}{s:Shared}{σ:St}{H:Hp}{x:Str}{u:Value}{pos:Pos}{Q:Value->Shared->Prop}(I:Inv X pins σ H s)(hg:Gl X x)(hm:X.mg x=some u)(h:Q u s)
    (hd:(x == ("__debug__" : Str))=false:=by decide):wpAny (model X.prog X.w) X.A (eval (.Name x pos) X.env) Q E s:=
  Calls.Name_function_global I.ok.kind hg (Calls.loadGlobal_global (by rw[I.ok.glob];exact I.mod.glob.keeps I.bk) hm h) hd
theorem fI {E:Value->Shared->Prop}{pins:List (Addr×Obj)}{s:Shared}{σ:St}{H:Hp}{x:Str}{u:Value}{pos:Pos}{Q:Value->Shared->Prop}(I:Inv X pins σ H s)(hg:Gl X x)(hm:X.mg x=none)(hv:bootBuiltins x=some u)(h:Q u s)
    (hn:x≠"__name__":=by decide) (hd:(x == ("__debug__" : Str))=false:=by decide):wpAny (model X.prog X.w) X.A (eval (.Name x pos) X.env) Q E s:=by
  obtain⟨mb,h1,h2⟩:=I.mod.blt
  exact Calls.Name_function_global I.ok.kind hg (Calls.loadGlobal_builtin (by rw[I.ok.glob];exact I.mod.glob.keeps I.bk) hm (by rw[I.ok.blt];exact h1.keeps I.bk) ((h2 x hn).trans hv) h) hd
theorem vh {x:Str}{v:V}{u:Value}{pos:Pos}(hg:Gl X x)(hm:X.mg x=none)(hv:bootBuiltins x=some u)(r:RelV v u)(hn:x≠"__name__":=by decide)(hd:(x == ("__debug__" : Str))=false:=by decide):PE X (.Name x pos) (tC v):=
  fun _ _ _ H _ I h=>fI I hg hm hv ⟨v,H,I,r,h⟩ hn hd
variable {a b:Expr}{ta tb:TE}{pos:Pos}
def tB (t:TE):TT:=fun σ H Q=>t σ H fun x H1=>∃c,x=.bl c/\Q c H1
theorem cH {e:Expr}{t:TE}(h:PE X e t)(he:∀whole,isTrue e X.env whole=(do let v ←whole;standAt e.pos;holding [v] (truthy v)):=by intro _;rfl):PT X e (tB t):=by
  intro pins s σ H Q I hw
  refine isTrue_plain (thn (h pins s σ H _ I hw) fun v s1 ⟨x,H1,I1,r1,q1⟩=>?_) (he _)
  obtain⟨d,rfl,q⟩:=q1
  cases r1
  exact wpAny_truthy_bool ⟨H1,I1,q⟩
variable {tA tB':TT}{rest:List Expr}
def wt (t u:TT):TT:=fun σ H Q=>t σ H fun c H1=>if c=true then u σ H1 Q else Q false H1
def tOr (t u:TT):TT:=fun σ H Q=>t σ H fun c H1=>if c=true then Q true H1 else u σ H1 Q
def wp (t:TT):TT:=fun σ H Q=>t σ H fun c H1=>Q (!c) H1
theorem db (ha:PT X a tA):PW X (.BoolOp .And [a] pos) tA:=by
  intro wh pins s σ H Q I h
  refine isTrue_and (thn (ha pins s σ H Q I h) fun c s1 e=>?_)
  cases c with
  | true=>exact isTrue_and_nil e
  | false=>exact e
theorem jB (ha:PT X a tA):PW X (.BoolOp .Or [a] pos) tA:=by
  intro wh pins s σ H Q I h
  refine isTrue_or (thn (ha pins s σ H Q I h) fun c s1 e=>?_)
  cases c with
  | false=>exact isTrue_or_nil e
  | true=>exact e
theorem eg (ha:PT X a tA)(hb:PW X (.BoolOp .And (b::rest) pos) tB'):PW X (.BoolOp .And (a::b::rest) pos) (wt tA tB'):=by
  intro wh pins s σ H Q I h
  refine isTrue_and (thn (ha pins s σ H _ I h) fun c s1 ⟨H1,I1,q1⟩=>?_)
  cases c with
  | true=>exact hb wh pins s1 σ H1 Q I1 q1
  | false=>exact⟨H1,I1,q1⟩
theorem mQ (ha:PT X a tA)(hb:PW X (.BoolOp .Or (b::rest) pos) tB'):PW X (.BoolOp .Or (a::b::rest) pos) (tOr tA tB'):=by
  intro wh pins s σ H Q I h
  refine isTrue_or (thn (ha pins s σ H _ I h) fun c s1 ⟨H1,I1,q1⟩=>?_)
  cases c with
  | true=>exact⟨H1,I1,q1⟩
  | false=>exact hb wh pins s1 σ H1 Q I1 q1
theorem jE (ha:PT X a tA):PT X (.UnaryOp .Not a pos) (wp tA):=by
  intro pins s σ H Q I h
  exact isTrue_not (ha pins s σ H (fun c H1=>Q (!c) H1) I h)
def rZ (ta tb:TE):TE:=fun σ H Q=>ta σ H fun x H1=>∃c,x=.bl c/\if c=true then tb σ H1 Q else Q (.bl false) H1
def vS (ta:TE):TE:=fun σ H Q=>ta σ H fun x H1=>∃c,x=.bl c/\Q (.bl (!c)) H1
theorem jF {op}{t:TE}(h:PE X a t):PE X (.BoolOp op [a] pos) t:=fun pins s σ H Q I hw=>BoolOp_one (h pins s σ H Q I hw)
theorem jH (ha:PE X a ta)(hb:PE X (.BoolOp .And (b::rest) pos) tb):PE X (.BoolOp .And (a::b::rest) pos) (rZ ta tb):=by
  intro pins s σ H Q I h
  refine BoolOp_and (thn (ha pins s σ H _ I h) fun v s1 ⟨x,H1,I1,r1,q1⟩=>?_)
  obtain⟨c,rfl,q1⟩:=q1
  cases r1
  refine wpAny_truthy_bool ?_
  cases c with
  | true=>exact hb pins s1 σ H1 Q I1 q1
  | false=>exact⟨.bl false,H1,I1,rfl,q1⟩
theorem gc (ha:PE X a ta):PE X (.UnaryOp .Not a pos) (vS ta):=by
  intro pins s σ H Q I h
  refine UnaryOp_ (thn (ha pins s σ H _ I h) fun v s1 ⟨x,H1,I1,r1,q1⟩=>?_)
  obtain⟨c,rfl,q1⟩:=q1
  cases r1
  exact not_of (wpAny_truthy_bool ⟨.bl (!c),H1,I1,rfl,q1⟩)
def tIf (t:TT)(ta tb:TE):TE:=fun σ H Q=>t σ H fun c H1=>if c=true then ta σ H1 Q else tb σ H1 Q
theorem eA {c:Expr}(hc:PT X c tA)(ha:PE X a ta)(hb:PE X b tb):PE X (.IfExp c a b pos) (tIf tA ta tb):=by
  intro pins s σ H Q I h
  refine wpAny_IfExp (thn (hc pins s σ H _ I h) fun d s1 ⟨H1,I1,q1⟩=>?_)
  cases d with
  | true=>exact ha pins s1 σ H1 Q I1 q1
  | false=>exact hb pins s1 σ H1 Q I1 q1
end
def SqL (K:PySem.W.Frag)(H:Hp)(a:Addr)(xs:List V):Prop:=
  Rd H a (.lst xs)∨
    ∃(o:Obj) (its:Array Value) (n:Nat),K.lookup a=some o/\o.cls=.type "list"/\o.dict=none/\o.data=.seq its n/\its.size<=sizeLine/\Vals xs its.toList
def SqT (K:PySem.W.Frag)(H:Hp)(a:Addr)(xs:List V):Prop:=
  Rd H a (.tup xs)∨
    ∃(o:Obj) (its:Array Value) (n:Nat),K.lookup a=some o/\o.cls=.type "tuple"/\o.data=.seq its n/\its.size<=sizeLine/\Vals xs its.toList
def xI:Value->Option V
  | .none=>some .non
  | .bool b=>some (.bl b)
  | .int i _=>some (.int i)
  | .str x _=>some (.str x)
  | .bytes b _=>some (.byt b)
  | .float b _=>some (.flt b)
  | .ref a=>some (.ref a)
  | .type n=>some (.ty n)
  | _=>none
theorem RelV.abs {x:V}{u:Value}(r:RelV x u):xI u=some x:=by
  cases x with
  | non=>cases r;rfl
  | bl _=>cases r;rfl
  | int _=>obtain⟨t,rfl⟩:=r;rfl
  | str _=>obtain⟨t,rfl⟩:=r;rfl
  | byt _=>obtain⟨t,rfl⟩:=r;rfl
  | flt _=>obtain⟨t,rfl⟩:=r;rfl
  | ref _=>cases r;rfl
  | ty _=>cases r;rfl
theorem RelV.inj {x y:V}{u:Value}(r:RelV x u)(q:RelV y u):x=y:=Option.some.inj (r.abs.symm.trans q.abs)
theorem Vals.inj:∀{xs ys:List V} {us:List Value},Vals xs us->Vals ys us->xs=ys
  | _,_,_,.nil,.nil=>rfl
  | _,_,_,.cons r t,.cons r' t'=>by rw[r.inj r',Vals.inj t t']
section
variable {X:Cx}{pins:List (Addr×Obj)}{σ:St}{H:Hp}{s:Shared}{a:Addr}{xs ys:List V}
theorem SqL.of {K:PySem.W.Frag}(h:H a=some (.lst xs)):SqL K H a xs:=.inl (.inl h)
theorem SqT.of {K:PySem.W.Frag}(h:H a=some (.tup xs)):SqT K H a xs:=.inl (.inl h)
theorem Inv.list (I:Inv X pins σ H s)(h:SqL X.K H a xs):∃its:List Value,Vals xs its/\PlainL s.heap a its.toArray/\xs.length<=sizeLine:=by
  rcases h with h|⟨o,its,n,hk,hc,hd,hs,hz,r⟩
  · obtain⟨z,its,n,r,e⟩:=h.ok I.hok
    exact⟨its,r,⟨_,n,e,rfl,rfl,rfl⟩,z⟩
  · refine⟨its.toList,r,⟨o,n,I.kIn a o hk,hc,hd,by simpa using hs⟩,?_⟩
    have e:=r.length
    simp only[Array.length_toList] at e
    omega
theorem Inv.tuple (I:Inv X pins σ H s)(h:SqT X.K H a xs):∃its:List Value,Vals xs its/\IsTup s.heap a its.toArray/\xs.length<=sizeLine:=by
  rcases h with h|⟨o,its,n,hk,hc,hs,hz,r⟩
  · obtain⟨z,its,r,p⟩:=h.ok I.hok
    exact⟨its,r,p,z⟩
  · refine⟨its.toList,r,⟨o,I.kIn a o hk,hc,n,by simpa using hs⟩,?_⟩
    have e:=r.length
    simp only[Array.length_toList] at e
    omega
theorem Inv.list_inj (I:Inv X pins σ H s)(h:SqL X.K H a xs)(h':SqL X.K H a ys):xs=ys:=by
  obtain⟨its,r,⟨o,n,e,_,_,d⟩,_⟩:=I.list h
  obtain⟨its',r',⟨o',n',e',_,_,d'⟩,_⟩:=I.list h'
  rw[e] at e';cases e'
  rw[d] at d'
  injection d' with d1 _
  have:its=its':=by simpa using congrArg Array.toList d1
  subst this
  exact r.inj r'
theorem Inv.tuple_inj (I:Inv X pins σ H s)(h:SqT X.K H a xs)(h':SqT X.K H a ys):xs=ys:=by
  obtain⟨its,r,⟨o,e,_,n,d⟩,_⟩:=I.tuple h
  obtain⟨its',r',⟨o',e',_,n',d'⟩,_⟩:=I.tuple h'
  rw[e] at e';cases e'
  rw[d] at d'
  injection d' with d1 _
  have:its=its':=by simpa using congrArg Array.toList d1
  subst this
  exact r.inj r'
end
abbrev Cx.wish (X:Cx)(E:Value->Shared->Prop):Cx:={ X with xe:=E }
abbrev Cx.nox (X:Cx):Cx:=X.wish fun _ _=>False
theorem Cx.Ok.wish {X:Cx}(ok:X.Ok)(E:Value->Shared->Prop):(X.wish E).Ok:=
  ⟨ok.mod,ok.kind,ok.glob,ok.blt,ok.above,ok.inj,ok.has,ok.cab,ok.hd,ok.frames,ok.stk,ok.exf,ok.bs,ok.bsz,ok.noex,ok.exfs,ok.funs,ok.frf⟩
theorem Cx.Ok.unwish {X:Cx}{E:Value->Shared->Prop}(ok:(X.wish E).Ok):X.Ok:=
  ⟨ok.mod,ok.kind,ok.glob,ok.blt,ok.above,ok.inj,ok.has,ok.cab,ok.hd,ok.frames,ok.stk,ok.exf,ok.bs,ok.bsz,ok.noex,ok.exfs,ok.funs,ok.frf⟩
section
variable {X:Cx}{pins:List (Addr×Obj)}{σ:St}{H:Hp}{s:Shared}{E:Value->Shared->Prop}
theorem Inv.wish (I:Inv X pins σ H s)(E:Value->Shared->Prop):Inv (X.wish E) pins σ H s:=⟨I.ok.wish E,I.os,I.bare,I.base,I.loc,I.cell,I.free,I.freeC,I.pin,I.hok,I.len⟩
theorem Inv.unwish (I:Inv (X.wish E) pins σ H s):Inv X pins σ H s:=⟨I.ok.unwish,I.os,I.bare,I.base,I.loc,I.cell,I.free,I.freeC,I.pin,I.hok,I.len⟩
theorem SP.unwish {D:Ends}{f:Flow}{s':Shared}(h:SP (X.wish E) pins D f s'):SP X pins D f s':=by
  cases f with
  | next=>obtain⟨σ',H',I,q⟩:=h;exact⟨σ',H',I.unwish,q⟩
  | brk=>obtain⟨σ',H',I,q⟩:=h;exact⟨σ',H',I.unwish,q⟩
  | cont=>obtain⟨σ',H',I,q⟩:=h;exact⟨σ',H',I.unwish,q⟩
  | ret u=>obtain⟨v,σ',H',I,r,q⟩:=h;exact⟨v,σ',H',I.unwish,r,q⟩
theorem PSs.nox {st:List Stmt}{t:TS}(h:PSs X.nox st t):PSs X st t:=fun pins s σ H D I hw=>
  wpAny_mono (h pins s σ H D (I.wish _) hw) (fun _ _ q=>q.unwish) fun _ _ z=>False.elim z
end
section
variable {X:Cx}{st:Stmt}{rest:List Stmt}{t u:TS}{e:Expr}{te:TE}{pos:Pos}
def gU:TS:=fun D σ H=>D.nx σ H
def dQ (t u:TS):TS:=fun D σ H=>t { D with nx:=u D } σ H
theorem be:PSs X [] gU:=fun _ _ σ H _ I h=>wpAny_execs_nil ⟨σ,H,I,h⟩
theorem aj (h1:PS X st t)(h2:PSs X rest u):PSs X (st::rest) (dQ t u):=by
  intro pins s σ H D I h
  refine wpAny_execs_cons (thn (h1 pins s σ H { D with nx:=u D } I h) fun f s1 q=>?_)
  cases f with
  | next=>
    obtain⟨σ',H',I',q⟩:=q
    exact h2 pins s1 σ' H' D I' q
  | ret v=>exact q
  | brk=>exact q
  | cont=>exact q
theorem ay (h1:PS X st t):PSs X [st] t:=by
  intro pins s σ H D I h
  refine wpAny_execs_cons (thn (h1 pins s σ H D I h) fun f s1 q=>?_)
  cases f with
  | next=>exact wpAny_execs_nil q
  | ret v=>exact q
  | brk=>exact q
  | cont=>exact q
theorem Inv.quiet {pins:List (Addr×Obj)}{σ:St}{H:Hp}{s:Shared}(I:Inv X pins σ H s):interactive X.env=false:=by simp[interactive,I.ok.kind]
def fM (te:TE):TS:=fun D σ H=>te σ H fun _ H1=>D.nx σ H1
theorem bu (he:PE X e te)(hs:swapsWith e none pos.line X.env=pure false:=by rfl):PS X (.Expr e pos) (fM te):=by
  intro pins s σ H D I h
  exact wpAny_Expr_any (thn (he pins s σ H _ I h) fun v s1 ⟨x,H1,I1,r1,q1⟩=>⟨σ,H1,I1,q1⟩) I.quiet hs
def wo (te:TE):TS:=fun D σ H=>te σ H D.rt
theorem aL (he:PE X e te):PS X (.Return (some e) pos) (wo te):=by
  intro pins s σ H D I h
  exact wpAny_Return_some (thn (he pins s σ H _ I h) fun v s1 ⟨x,H1,I1,r1,q1⟩=>⟨x,σ,H1,I1,r1,q1⟩)
def i7 (c:TT)(t u:TS):TS:=fun D σ H=>c σ H fun b H1=>if b=true then t D σ H1 else u D σ H1
theorem bB {c:Expr}{a b:List Stmt}{tc:TT}(hc:PT X c tc)(ha:PSs X a t)(hb:PSs X b u):PS X (.If c a b pos) (i7 tc t u):=by
  intro pins s σ H D I h
  refine wpAny_If (thn (hc pins s σ H _ I h) fun d s1 ⟨H1,I1,q1⟩=>?_)
  cases d with
  | true=>exact ha pins s1 σ H1 D I1 q1
  | false=>exact hb pins s1 σ H1 D I1 q1
def wq:TS:=fun _ _ _=>False
theorem sS:PS X st wq:=fun _ _ _ _ _ _ h=>h.elim
end
abbrev TG:=V->St->Hp->(St->Hp->Prop)->Prop
abbrev TGs:=List V->St->Hp->(St->Hp->Prop)->Prop
def PG (X:Cx)(target:Expr)(t:TG):Prop:=
  ∀(pins:List (Addr×Obj)) (s:Shared) (σ:St) (H:Hp) (v:V) (u:Value) (Q:St->Hp->Prop),Inv X pins σ H s->RelV v u->t v σ H Q->
    wpAny (model X.prog X.w) X.A (assign target X.env u) (fun _ s'=>∃σ' H',Inv X pins σ' H' s'/\Q σ' H') X.xe s
def PGs (X:Cx)(ts:List Expr)(t:TGs):Prop:=
  ∀(pins:List (Addr×Obj)) (s:Shared) (σ:St) (H:Hp) (vs:List V) (us:List Value) (Q:St->Hp->Prop),Inv X pins σ H s->Vals vs us->t vs σ H Q->
    wpAny (model X.prog X.w) X.A (assignInOrder ((assignEach ts X.env).map (·.2)) us) (fun _ s'=>∃σ' H',Inv X pins σ' H' s'/\Q σ' H') X.xe s
abbrev uH:=V->V->V->Hp->(Hp->Prop)->Prop
def w6 (X:Cx)(t:uH):Prop:=
  ∀(pins:List (Addr×Obj)) (s:Shared) (σ:St) (H:Hp) (o i v:V) (ov iv u:Value) (Q:Hp->Prop),Inv X pins σ H s->RelV o ov->RelV i iv->RelV v u->t o i v H Q->
    wpAny (model X.prog X.w) X.A (setItem ov iv u) (fun _ s'=>∃H',Inv X pins σ H' s'/\Q H') X.xe s
abbrev TIp:=V->V->Hp->VK->Prop
def PIp (X:Cx)(op:Operator)(t:TIp):Prop:=
  ∀(pins:List (Addr×Obj)) (s:Shared) (σ:St) (H:Hp) (x y:V) (v u:Value) (Q:VK),Inv X pins σ H s->RelV x v->RelV y u->t x y H Q->
    wpAny (model X.prog X.w) X.A (inplaceOp op v u) (EP X pins σ Q) X.xe s
section
variable {X:Cx}{pos:Pos}
def bV (i:Nat):TG:=fun v σ H Q=>Q (σ.set i (some v)) H
theorem aM {i:Nat}{x:Str}(hN:X.N.Nodup)(hi:X.N[i]?=some x)(hx:Loc X.env.scope x)(hf:X.fn x=true∨X.env.scope.names.lookup x=some .local:=by first | exact .inl rfl | exact .inr rfl | assumption):PG X (.Name x pos) (bV i):=by
  intro pins s σ H v u Q I r h
  exact wpAny_assign_Name (fS I hN hi hx r (fun s' I'=>⟨_,H,I',h⟩) hf)
def oV:TGs:=fun vs σ H Q=>vs=[]/\Q σ H
def eL (t:TG)(u:TGs):TGs:=fun vs σ H Q=>∃v r,vs=v::r/\t v σ H fun σ' H'=>u r σ' H' Q
theorem cg:PGs X [] oV:=by
  intro pins s σ H vs us Q I r h
  obtain⟨e,h⟩:=h
  subst e
  cases r
  exact assignInOrder_nil ⟨σ,H,I,h⟩
theorem aU {e:Expr}{es:List Expr}{t:TG}{u:TGs}(h1:PG X e t)(h2:PGs X es u)
    (hs:(assignEach (e::es) X.env).map (·.2)=assign e X.env::(assignEach es X.env).map (·.2):=by rfl):PGs X (e::es) (eL t u):=by
  intro pins s σ H vs us Q I r h
  obtain⟨v,vr,e1,h⟩:=h
  subst e1
  cases r with
  | cons r rr=>
    rw[hs]
    refine assignInOrder_cons (thn (h1 pins s σ H _ _ _ I r h) fun _ s1 ⟨σ1,H1,I1,q1⟩=>?_)
    exact h2 pins s1 σ1 H1 _ _ Q I1 rr q1
def oU (K:PySem.W.Frag)(n:Nat)(t:TGs):TG:=fun v σ H Q=>∃a xs,v=.ref a/\SqT K H a xs/\xs.length=n/\t xs σ H Q
theorem gb {es:List Expr}{k:Nat}{t:TGs}{n:Nat}(hc:X.calm=true)(h:PGs X es t)
    (hn:(assignEach es X.env).length=n:=by rfl) (hst:(assignEach es X.env).findIdx? (·.1)=none:=by rfl):PG X (.Tuple es k pos) (oU X.K n t):=by
  intro pins s σ H v u Q I r hw
  obtain⟨a,xs,e1,hq,hl,hw⟩:=hw
  subst e1
  cases r
  obtain⟨its,rv,ht,hz⟩:=I.tuple hq
  refine assign_Tuple_tuple (I.ok.hd hc) ht (by simp[hn,←hl,rv.length]) hst fun h' hx=>?_
  have I1:Inv X pins σ H { s with heap:=h' }:=I.kept (t':=s.toks) fun b o e=>hx b o (Nat.ne_of_lt (Heap.lt_size e)) e
  exact h pins _ σ H xs _ Q I1 (by simpa using rv) hw
def wU (to ti:TE)(t:uH):TG:=fun v σ H Q=>to σ H fun o H1=>ti σ H1 fun i H2=>t o i v H2 fun H3=>Q σ H3
theorem gN {o i:Expr}{to ti:TE}{t:uH}(ho:PE X o to)(hi:PE X i ti)(hs:w6 X t)
    (ha:∀v,assign (.Subscript o i pos) X.env v=(do
      let ov ←holding [v] (eval o X.env)
      let iv ←holding [v,ov] (eval i X.env)
      standAt pos
      holding [v,ov,iv] (setItem ov iv v)
      release [v,ov,iv] []):=by intro _;rfl):PG X (.Subscript o i pos) (wU to ti t):=by
  intro pins s σ H v u Q I r h
  rw[ha]
  refine wpAny_bind (wpAny_holding (thn (ho pins s σ H _ I h) fun ov s1 ⟨x,H1,I1,r1,q1⟩=>?_))
  refine wpAny_bind (wpAny_holding (thn (hi pins s1 σ H1 _ I1 q1) fun iv s2 ⟨y,H2,I2,r2,q2⟩=>?_))
  refine wpAny_bind (wpAny_standAt (wpAny_bind (wpAny_holding (thn (hs pins s2 σ H2 x y v ov iv u _ I2 r1 r2 r q2) fun _ s3 ⟨H3,I3,q3⟩=>?_))))
  exact wpAny_release ⟨σ,H3,I3,q3⟩
def i9 (te:TE)(g:TG):TS:=fun D σ H=>te σ H fun x H1=>g x σ H1 D.nx
theorem dD {tg e:Expr}{te:TE}{g:TG}(he:PE X e te)(hg:PG X tg g)(hs:swapsWithSole [tg] e pos.line X.env=pure false:=by rfl)(hw:swappedStores [tg] e X.env=pure none:=by rfl)
    (h1:(assignEach [tg] X.env).map (·.2)=[assign tg X.env]:=by rfl):PS X (.Assign [tg] e pos) (i9 te g):=by
  intro pins s σ H D I h
  refine wpAny_Assign_stores (thn (he pins s σ H _ I h) fun v s1 ⟨x,H1,I1,r1,q1⟩=>?_) hs hw
  rw[h1]
  exact thn (hg pins s1 σ H1 x v _ I1 r1 q1) fun _ s2 q=>q
theorem aE {i:Nat}{x:Str}{e:Expr}{te:TE}{pos':Pos}(hN:X.N.Nodup)(hi:X.N[i]?=some x)(hx:Loc X.env.scope x)(he:PE X e te)(hs:swapsWith e (some (.Name x pos')) pos.line X.env=pure false:=by rfl)(hf:X.fn x=true∨X.env.scope.names.lookup x=some .local:=by first | exact .inl rfl | exact .inr rfl | assumption) :
    PS X (.Assign [.Name x pos'] e pos) (i9 te (bV i)):=by
  intro pins s σ H D I h
  refine wpAny_Assign_Name (thn (he pins s σ H _ I h) fun v s1 ⟨y,H1,I1,r1,q1⟩=>?_) hs
  exact fS I1 hN hi hx r1 (fun s2 I2=>⟨_,H1,I2,q1⟩) hf
def xD (i j:Nat)(ta:TA):TS:=fun D σ H=>ta σ H fun vs H1=>∃v w,vs=[v,w]/\D.nx ((σ.set i (some v)).set j (some w)) H1
theorem wD {i j:Nat}{x y:Str}{a b:Expr}{ta:TA}{px py pt:Pos}{kt k2 pt2}(hc:X.calm=true)(hN:X.N.Nodup)(hi:X.N[i]?=some x)(hj:X.N[j]?=some y)(hij:i≠j)
    (hx:X.env.scope.names.lookup x=some .local) (hy:X.env.scope.names.lookup y=some .local) (ha:PA X [a,b] ta)
    (hw:swappedStores [.Tuple [.Name x px,.Name y py] kt pt] (.Tuple [a,b] k2 pt2) X.env=pure (some [x,y]))
    (hs:swapsWithSole [.Tuple [.Name x px,.Name y py] kt pt] (.Tuple [a,b] k2 pt2) pos.line X.env=pure false:=by rfl) :
    PS X (.Assign [.Tuple [.Name x px,.Name y py] kt pt] (.Tuple [a,b] k2 pt2) pos) (xD i j ta):=by
  intro pins s σ H D I h
  rw[exec_Assign_arm]
  refine wpAny_bind (wpAny_standAt ?_)
  rw[hs]
  refine wpAny_bind (wpAny_pure ?_)
  rw[if_neg (by decide)]
  refine wpAny_bind (Tuple_ (thn (ha _ pins s σ H _ I h) fun us s1 ⟨vs,H1,I1,r1,q1⟩=>?_))
  obtain⟨v,w,e1,q1⟩:=q1
  subst e1
  obtain⟨u1,u2,rfl,rv,rw'⟩:∃u1 u2,us=[u1,u2]/\RelV v u1/\RelV w u2:=by
    cases r1 with
    | cons p q=>
      cases q with
      | cons p' q'=>
        cases q'
        exact⟨_,_,rfl,p,p'⟩
  refine wpAny_newObj_type ?_ (by show 2<=sizeLine;decide)
  have I2:Inv X pins σ H1 { s1 with heap:=s1.heap.push { cls:=.type "tuple",data:=.seq [u1,u2].toArray } }:=I1.kept (t':=s1.toks) fun b o e=>Heap.get?_push_of_some _ e
  rw[hw]
  refine wpAny_bind (wpAny_pure ?_)
  show wpAny (model X.prog X.w) X.A (do rule "assign.swapped-stores";let items ←unpackItems (.ref s1.heap.objs.size) 2 none;assignInOrder [fun v=>bindName X.env y v,fun v=>bindName X.env x v] items.reverse;pure Flow.next) _ _ _
  refine wpAny_bind (wpAny_rule (wpAny_bind (unpackItems_tuple (items:=#[u1,u2]) (I.ok.hd hc) (IsTup.new s1.heap _) fun h' hx'=>?_)))
  have I3:=I2.kept (h':=h') (t':=s1.toks) fun b o e=>hx' b o (Nat.ne_of_lt (Heap.lt_size e)) e
  show wpAny _ _ (assignInOrder [fun v=>bindName X.env y v,fun v=>bindName X.env x v] [u2,u1] >>= fun _=>pure Flow.next) _ _ _
  refine wpAny_bind (assignInOrder_cons (wpAny_bindName (fS I3 hN hj (.inl hy) rw' (fun s2 I4=>?_) (.inr hy))))
  refine assignInOrder_cons (wpAny_bindName (fS I4 hN hi (.inl hx) rv (fun s3 I5=>assignInOrder_nil (wpAny_pure ?_)) (.inr hx)))
  rw[List.set_comm _ _ (Ne.symm hij)] at I5
  exact⟨_,H1,I5,q1⟩
def xf (i:Nat)(te:TE)(ti:TIp):TS:=fun D σ H=>∃x,σ[i]?=some (some x)/\te σ H fun y H1=>ti x y H1 fun z H2=>D.nx (σ.set i (some z)) H2
theorem wE {i:Nat}{x:Str}{e:Expr}{te:TE}{op:Operator}{ti:TIp}{pos':Pos}(hN:X.N.Nodup)(hi:X.N[i]?=some x)(hx:Loc X.env.scope x)(he:PE X e te)(ho:PIp X op ti)(hf:X.fn x=true∨X.env.scope.names.lookup x=some .local:=by first | exact .inl rfl | exact .inr rfl | assumption) :
    PS X (.AugAssign (.Name x pos') op e pos) (xf i te ti):=by
  intro pins s σ H D I h
  obtain⟨v,e1,h⟩:=h
  obtain⟨m,hn,hl⟩:=I.loc
  have vis:Vis X.env.scope x:=by rcases hx with k | k;exact .inl k;exact .inr (.inl k)
  obtain⟨u,r,l⟩:=hl i x v hi e1 vis
  refine wpAny_AugAssign_Name ?_
  have go:wpAny (model X.prog X.w) X.A (eval e X.env) (fun w s₂=>wpAny (model X.prog X.w) X.A (inplaceOp op u w) (fun r s₃=>wpAny (model X.prog X.w) X.A (storeName X.env x r) (fun _=>SP X pins D .next) X.xe s₃) X.xe s₂) X.xe s:=by
    refine thn (he pins s σ H _ I h) fun w s1 ⟨y,H1,I1,r1,q1⟩=>?_
    refine thn (ho pins s1 σ H1 v y u w _ I1 r r1 q1) fun z s2 ⟨zv,H2,I2,r2,q2⟩=>?_
    exact fS I2 hN hi hx r2 (fun s3 I3=>⟨_,H2,I3,q2⟩) hf
  rcases l with⟨hk,hm⟩|⟨hk,c,hc,hcell⟩
  · exact wpAny_loadName_local I.ok.kind hk hn hm go
  · rcases hk with hk|hk
    · exact wpAny_loadName_cell I.ok.kind hk hc hcell go
    · rcases hx with k|k
      · have:X.env.scope.names.lookup x=some .free:=hk
        rw[k] at this;cases this
      · have:X.env.scope.names.lookup x=some .free:=hk
        rw[k] at this;cases this
def vT (to ti te:TE)(tget:V->V->Hp->VK->Prop)(tip:TIp)(tset:uH):TS:=fun D σ H=>to σ H fun o H1=>ti σ H1 fun i H2=>tget o i H2 fun x H3=>te σ H3 fun y H4=>tip x y H4 fun z H5=>tset o i z H5 fun H6=>D.nx σ H6
def xz (X:Cx)(t:V->V->Hp->VK->Prop):Prop:=
  ∀(pins:List (Addr×Obj)) (s:Shared) (σ:St) (H:Hp) (o i:V) (ov iv:Value) (Q:VK),Inv X pins σ H s->RelV o ov->RelV i iv->t o i H Q->
    wpAny (model X.prog X.w) X.A (getItem ov iv) (EP X pins σ Q) X.xe s
theorem pS {o i e:Expr}{to ti te:TE}{tget:V->V->Hp->VK->Prop}{tip:TIp}{tset:uH}{op:Operator}{tpos:Pos}(ho:PE X o to)(hi:PE X i ti)(hg:xz X tget)(he:PE X e te)(hp:PIp X op tip)(hs:w6 X tset)
    (ha:∀ov iv new,augStore i ov iv new=(do holding [new,ov,iv] (setItem ov iv new);release [new,ov,iv] [];pure .next):=by intros;rfl):PS X (.AugAssign (.Subscript o i tpos) op e pos) (vT to ti te tget tip tset):=by
  intro pins s σ H D I h
  refine wpAny_AugAssign_SubscriptAny (thn (ho pins s σ H _ I h) fun ov s1 ⟨x1,H1,I1,r1,q1⟩=>?_) ha
  refine thn (hi pins s1 σ H1 _ I1 q1) fun iv s2 ⟨x2,H2,I2,r2,q2⟩=>?_
  refine thn (hg pins s2 σ H2 x1 x2 ov iv _ I2 r1 r2 q2) fun old s3 ⟨x3,H3,I3,r3,q3⟩=>?_
  refine thn (he pins s3 σ H3 _ I3 q3) fun v s4 ⟨x4,H4,I4,r4,q4⟩=>?_
  refine thn (hp pins s4 σ H4 x3 x4 old v _ I4 r3 r4 q4) fun new s5 ⟨x5,H5,I5,r5,q5⟩=>?_
  exact thn (hs pins s5 σ H5 x1 x2 x5 ov iv new _ I5 r1 r2 r5 q5) fun _ s6 ⟨H6,I6,q6⟩=>⟨σ,H6,I6,q6⟩
def ipI (f:Int->Int->Int):TIp:=fun x y H Q=>∃i j,x=.int i/\y=.int j/\Q (.int (f i j)) H
theorem wR:PIp X .Add (ipI fun i j=>i+j):=by
  intro pins s σ H x y v u Q I r1 r2 h
  obtain⟨i,j,e1,e2,q⟩:=h
  subst e1;subst e2
  obtain⟨t,rfl⟩:=r1
  obtain⟨t',rfl⟩:=r2
  exact iadd_int ⟨.int _,H,I.tok _,⟨_,rfl⟩,q⟩
theorem ub:PIp X .Sub (ipI fun i j=>i - j):=by
  intro pins s σ H x y v u Q I r1 r2 h
  obtain⟨i,j,e1,e2,q⟩:=h
  subst e1;subst e2
  obtain⟨t,rfl⟩:=r1
  obtain⟨t',rfl⟩:=r2
  exact isub_int ⟨.int _,H,I.tok _,⟨_,rfl⟩,q⟩
end
section
variable {X:Cx}{pos:Pos}
def nV (c:TT)(tb:TS):TS:=fun D σ H=>∃W:Nat->St->Hp->Prop,(∃m,W m σ H)/\∀m σ H,W m σ H->
  c σ H fun b H1=>if b=true then ∃N:St->Hp->Prop,(∀σ' H',N σ' H'->∃m',m'<m/\W m' σ' H')/\tb { D with nx:=N,ct:=N,bk:=D.nx } σ H1 else D.nx σ H1
theorem er {c:Expr}{body:List Stmt}{tc:TT}{tb:TS}(hp:PassesOwn (model X.prog X.w) X.A X.env X.xe)(hc:PT X c tc)(hb:PSs X body tb):PS X (.While c body [] pos) (nV tc tb):=by
  intro pins s σ H D I h
  obtain⟨W,⟨m0,w0⟩,turn⟩:=h
  refine wpAny_While (codeAny_whileLoop (fun n s'=>∃σ' H',Inv X pins σ' H' s'/\W n σ' H') ?_ m0 ⟨σ,H,I,w0⟩)
  rintro n s1 ⟨σ1,H1,I1,w1⟩
  refine wpAny_passesOwn hp (thn (hc pins s1 σ1 H1 _ I1 (turn n σ1 H1 w1)) fun b s2 ⟨H2,I2,q2⟩=>?_)
  cases b with
  | true=>
    obtain⟨N,hN,q2⟩:=q2
    rw[if_pos rfl]
    refine wpAny_passesOwn hp (thn (hb pins s2 σ1 H2 _ I2 q2) fun f s3 q3=>?_)
    cases f with
    | next=>
      obtain⟨σ3,H3,I3,n3⟩:=q3
      obtain⟨m',hm,w3⟩:=hN σ3 H3 n3
      exact⟨m',hm,σ3,H3,I3,w3⟩
    | cont=>
      obtain⟨σ3,H3,I3,n3⟩:=q3
      obtain⟨m',hm,w3⟩:=hN σ3 H3 n3
      exact⟨m',hm,σ3,H3,I3,w3⟩
    | brk=>exact q3
    | ret v=>exact q3
  | false=>
    rw[if_neg Bool.false_ne_true]
    exact wpAny_execs_nil ⟨σ1,H2,I2,q2⟩
end
structure It where
  go:Nat->Hp->Prop
  yld:Nat->Hp->V->Hp->Prop
  stop:Nat->Hp->Prop
def eF (X:Cx)(pins:List (Addr×Obj))(H:Hp)(b:Addr):Prop:=
  H b=none/\b≠X.env.locals/\b∉X.fs/\(b∈X.ex∨X.s₀.heap.objs.size<=b)/\(∀x c,X.env.cells.lookup x=some c->c≠b)/\∀p∈X.pn++pins,p.1≠b
theorem Inv.fpOk {X:Cx}{pins:List (Addr×Obj)}{σ:St}{H H':Hp}{s:Shared}{b:Addr}(I:Inv X pins σ H s)(hb:s.heap.objs.size<=b)(hn:H' b=none):eF X pins H' b:=by
  refine⟨hn,Nat.ne_of_gt (Nat.lt_of_lt_of_le I.lt hb),I.nofs hb,.inr (Nat.le_trans I.sz hb),fun x c e z=>?_,fun p hp z=>?_⟩
  · obtain⟨v,q⟩:=I.cell x c e
    exact absurd (Nat.lt_of_lt_of_le q.lt (by rw[z];exact hb)) (Nat.lt_irrefl _)
  · exact absurd (Nat.lt_of_lt_of_le (Heap.lt_size (I.pin p hp).1) (by rw[z];exact hb)) (Nat.lt_irrefl _)
structure Turn (P:Program)(w:World)(K:PySem.W.Frag)(tg:Expr)(J:It)(fp:List Addr)(it:Addr)(tn:Nat->Heap->Prop):Prop where
  mem:it∈fp
  obj:∀i h,tn i h->∀b∈fp,∃o,h.get? b=some o/\∀v,o.data≠.cell v
  keep:∀i h h',tn i h->(∀b∈fp,∀o,h.get? b=some o->h'.get? b=some o)->tn i h'
  item:∀(X:Cx),X.prog=P->X.w=w->X.K=K->X.calm=true->∀(i:Nat) (pins:List (Addr×Obj)) (s:Shared) (σ:St) (H:Hp) (E:Value->Shared->Prop),Inv X pins σ H s->(∀b∈fp,eF X pins H b)->tn i s.heap->J.go i H->
    wpAny (model P w) X.A (pyNext (.ref it)) (fun r s1=>∃u,r=some u/\
      wpAny (model P w) X.A (letOwnedTupleGo tg (.ref it) u) (fun _ s2=>∃x H',Inv X pins σ H' s2/\RelV x u/\J.yld i H x H'/\tn (i+1) s2.heap/\∀b∈fp,H' b=none) E s1) E s
  done:∀(X:Cx),X.prog=P->X.w=w->X.K=K->X.calm=true->∀(i:Nat) (pins:List (Addr×Obj)) (s:Shared) (σ:St) (H:Hp) (E:Value->Shared->Prop),Inv X pins σ H s->(∀b∈fp,eF X pins H b)->tn i s.heap->J.stop i H->
    wpAny (model P w) X.A (pyNext (.ref it)) (fun r s1=>r=none/\Inv X pins σ H s1) E s
  self:∀(A:Around) (i:Nat) (s:Shared) (Q:Value->Shared->Prop) (E:Value->Shared->Prop),tn i s.heap->Q (.ref it) s->wpAny (model P w) A (pyIter (.ref it)) Q E s
abbrev TI:=St->Hp->(It->Hp->Prop)->Prop
def PIE (X:Cx)(pins:List (Addr×Obj))(σ:St)(tg:Expr)(R:It->Hp->Prop)(itv:Value)(s2:Shared):Prop:=
  ∃(it:Addr) (fp:List Addr) (tn:Nat->Heap->Prop) (J:It) (H':Hp),itv=.ref it/\Inv X pins σ H' s2/\Turn X.prog X.w X.K tg J fp it tn/\tn 0 s2.heap/\(∀b∈fp,eF X pins H' b)/\R J H'
def PI (X:Cx)(tg iter:Expr)(wi:TI):Prop:=
  ∀(pins:List (Addr×Obj)) (s:Shared) (σ:St) (H:Hp) (R:It->Hp->Prop),Inv X pins σ H s->wi σ H R->
    wpAny (model X.prog X.w) X.A (eval iter X.env) (fun v s1=>wpAny (model X.prog X.w) X.A (pyIter v) (PIE X pins σ tg R) X.xe s1) X.xe s
theorem ut {M:Model}{A:Around}{E:Value->Shared->Prop}{s:Shared}{tg:Expr}{it:Addr}{u:Value}{o:Obj}{n:String}{vs:Array Value}{Q:Unit->Shared->Prop}(ho:s.heap.get? it=some o)(hc:o.cls=.type n)(hd:o.data=.fields vs)
    (hn:["enumerate","zip","dict_itemiterator","dict_reverseitemiterator","odict_iterator","itertools.zip_longest","itertools.pairwise"].contains n=false) (hQ:Q () s):wpAny M A (letOwnedTupleGo tg (.ref it) u) Q E s:=by
  unfold letOwnedTupleGo
  cases tg <;> first
    | exact wpAny_pure hQ
    | (cases u <;> first
        | exact wpAny_pure hQ
        | (refine wpAny_bind (wpAny_load ho ?_)
           rw[hc,hd]
           show wpAny M A (if (["enumerate","zip","dict_itemiterator","dict_reverseitemiterator","odict_iterator","itertools.zip_longest","itertools.pairwise"].contains n && vs[0]? == some (rawInt _))=true then _ else _) Q E s
           rw[if_neg (by intro h;rw[hn,Bool.false_and] at h;cases h)]
           exact wpAny_pure hQ))
def Itl (K:PySem.W.Frag)(a:Addr):It:=
  ⟨fun i H=>∃xs x,SqL K H a xs/\xs[i]?=some x,fun i H x H'=>H'=H/\∀xs,SqL K H a xs->xs[i]?=some x,fun i H=>∃xs,SqL K H a xs/\xs.length<=i⟩
def Itt (K:PySem.W.Frag)(a:Addr):It:=
  ⟨fun i H=>∃xs x,SqT K H a xs/\xs[i]?=some x,fun i H x H'=>H'=H/\∀xs,SqT K H a xs->xs[i]?=some x,fun i H=>∃xs,SqT K H a xs/\xs.length<=i⟩
def Itr (lo:Int)(n:Nat):It:=⟨fun i _=>i<n,fun i H x H'=>H'=H/\x=.int (lo+i),fun i _=>n<=i⟩
theorem qx {P:Program}{w:World}{K:PySem.W.Frag}{tg:Expr}(a it:Addr):Turn P w K tg (Itl K a) [it] it (fun i h=>h.IsListIter it a i) where
  mem:=by simp
  obj:=fun i h st b hb=>by
    have e:b=it:=by simpa using hb
    subst e
    obtain⟨o,e,c,d⟩:=st
    exact⟨o,e,fun v z=>by rw[d] at z;cases z⟩
  keep:=fun i h h' st k=>st.at fun o e=>k it (by simp) o e
  item:=by
    intro X hP hw hK hc i pins s σ H E I hf st hg
    subst hP hw hK
    obtain⟨xs,x,hq,hx⟩:=hg
    obtain⟨its,rv,p,hz⟩:=I.list hq
    obtain⟨u,hu,ru⟩:=rv.get hx
    obtain⟨f0,f1,f2,f3,f4,f5⟩:=hf it (by simp)
    refine wpAny_pyNext_list_item st p.isList (x:=u) (by simpa using hu) fun h' st' sb=>?_
    have I1:Inv X pins σ H { s with heap:=h' }:=I.turned (t':=s.toks) (fun b o hb e=>(sb.2 b hb).trans e) f0 f1 f3 f4 f5
    obtain⟨o,e,c,d⟩:=id st'
    exact⟨u,rfl,ut (s:={ s with heap:=h' }) e c d (by decide) ⟨x,H,I1,ru,⟨rfl,fun ys hy=>by rw[I.list_inj hy hq];exact hx⟩,st',fun b hb=>(hf b hb).1⟩⟩
  done:=by
    intro X hP hw hK hc i pins s σ H E I hf st hg
    subst hP hw hK
    obtain⟨xs,hq,hx⟩:=hg
    obtain⟨its,rv,p,hz⟩:=I.list hq
    obtain⟨f0,f1,f2,f3,f4,f5⟩:=hf it (by simp)
    have hl:=rv.length
    exact wpAny_pyNext_list_end (I.ok.hd hc) st p.isList (by simp;omega) fun h' eb=>⟨rfl,I.turned (t':=s.toks) (fun b o hb e=>eb b o hb e) f0 f1 f3 f4 f5⟩
  self:=fun _ _ _ _ _ st h=>wpAny_pyIter_listiter st h
theorem nS {P:Program}{w:World}{K:PySem.W.Frag}{tg:Expr}(a it:Addr):Turn P w K tg (Itt K a) [it] it (fun i h=>h.IsTupleIter it a i) where
  mem:=by simp
  obj:=fun i h st b hb=>by
    have e:b=it:=by simpa using hb
    subst e
    obtain⟨o,e,c,d⟩:=st
    exact⟨o,e,fun v z=>by rw[d] at z;cases z⟩
  keep:=fun i h h' st k=>st.at fun o e=>k it (by simp) o e
  item:=by
    intro X hP hw hK hc i pins s σ H E I hf st hg
    subst hP hw hK
    obtain⟨xs,x,hq,hx⟩:=hg
    obtain⟨its,rv,p,hz⟩:=I.tuple hq
    obtain⟨u,hu,ru⟩:=rv.get hx
    obtain⟨f0,f1,f2,f3,f4,f5⟩:=hf it (by simp)
    refine wpAny_pyNext_tuple_item st (show s.heap.IsTuple a its.toArray from p) (x:=u) (by simpa using hu) fun h' st' sb=>?_
    have I1:Inv X pins σ H { s with heap:=h' }:=I.turned (t':=s.toks) (fun b o hb e=>(sb.2 b hb).trans e) f0 f1 f3 f4 f5
    obtain⟨o,e,c,d⟩:=id st'
    exact⟨u,rfl,ut (s:={ s with heap:=h' }) e c d (by decide) ⟨x,H,I1,ru,⟨rfl,fun ys hy=>by rw[I.tuple_inj hy hq];exact hx⟩,st',fun b hb=>(hf b hb).1⟩⟩
  done:=by
    intro X hP hw hK hc i pins s σ H E I hf st hg
    subst hP hw hK
    obtain⟨xs,hq,hx⟩:=hg
    obtain⟨its,rv,p,hz⟩:=I.tuple hq
    obtain⟨f0,f1,f2,f3,f4,f5⟩:=hf it (by simp)
    have hl:=rv.length
    exact wpAny_pyNext_tuple_end (I.ok.hd hc) st (show s.heap.IsTuple a its.toArray from p) (by simp;omega) fun h' eb=>⟨rfl,I.turned (t':=s.toks) (fun b o hb e=>eb b o hb e) f0 f1 f3 f4 f5⟩
  self:=fun _ _ _ _ _ st h=>wpAny_pyIter_tupleiter st h
theorem nU {P:Program}{w:World}{K:PySem.W.Frag}{tg:Expr}(it:Addr)(lo:Int)(n:Nat):Turn P w K tg (Itr lo n) [it] it (fun i h=>IsRangeIter h it (lo+(i:Nat)*1) ((n:Int) - (i:Nat)) 1) where
  mem:=by simp
  obj:=fun i h st b hb=>by
    have e:b=it:=by simpa using hb
    subst e
    exact⟨_,st,fun v z=>by
      have z':Data.fields _=Data.cell v:=z
      cases z'⟩
  keep:=fun i h h' st k=>k it (by simp) _ st
  item:=by
    intro X hP hw hK hc i pins s σ H E I hf st hg
    subst hP hw hK
    obtain⟨f0,f1,f2,f3,f4,f5⟩:=hf it (by simp)
    have W:=Walks.range (prog:=X.prog) (w:=X.w) (I.ok.hd hc) it lo 1 n
    refine W.item i s _ _ hg st fun v h' tk hv st' kk=>?_
    obtain⟨t,rfl⟩:=hv
    have I1:Inv X pins σ H { s with heap:=h',toks:=tk }:=I.turned (fun b o hb e=>kk b o (by simpa using hb) e) f0 f1 f3 f4 f5
    refine⟨_,rfl,ut (s:={ s with heap:=h',toks:=tk }) (n:="range_iterator") st' rfl rfl (by decide) ⟨.int (lo+i),H,I1,⟨t,?_⟩,⟨rfl,rfl⟩,st',fun b hb=>(hf b hb).1⟩⟩
    rw[Int.mul_one]
  done:=by
    intro X hP hw hK hc i pins s σ H E I hf st hg
    subst hP hw hK
    obtain⟨f0,f1,f2,f3,f4,f5⟩:=hf it (by simp)
    exact wpAny_pyNext_range_end (I.ok.hd hc) st (by have:n<=i:=hg;omega) fun h' eb=>⟨rfl,I.turned (t':=s.toks) (fun b o hb e=>eb b o hb e) f0 f1 f3 f4 f5⟩
  self:=fun _ _ _ _ _ st h=>wpAny_pyIter_rangeiter st h
section
variable {X:Cx}{tg:Expr}
def gJ (K:PySem.W.Frag)(tl:TE):TI:=fun σ H R=>tl σ H fun x H1=>∃a,x=.ref a/\(∃xs,SqL K H1 a xs)/\R (Itl K a) H1
def vG (K:PySem.W.Frag)(tl:TE):TI:=fun σ H R=>tl σ H fun x H1=>∃a,x=.ref a/\(∃xs,SqT K H1 a xs)/\R (Itt K a) H1
theorem cf {l:Expr}{tl:TE}(hl:PE X l tl):PI X tg l (gJ X.K tl):=by
  intro pins s σ H R I h
  refine thn (hl pins s σ H _ I h) fun v s1 ⟨x,H1,I1,r1,q1⟩=>?_
  obtain⟨a,e,⟨xs,hq⟩,q⟩:=q1
  subst e
  cases r1
  obtain⟨its,rv,p,hz⟩:=I1.list hq
  refine wpAny_pyIter_list p.isList ?_
  refine⟨s1.heap.objs.size,[s1.heap.objs.size],_,_,H1,rfl,I1.kept (t':=s1.toks) fun b o e=>Heap.get?_push_of_some _ e,qx a _,⟨_,Heap.get?_push_size _ rfl,rfl,rfl⟩,fun b hb=>?_,q⟩
  have e:b=s1.heap.objs.size:=by simpa using hb
  subst e
  exact I1.fpOk (Nat.le_refl _) (I1.hok.fresh (Nat.le_refl _))
theorem wG {l:Expr}{tl:TE}(hl:PE X l tl):PI X tg l (vG X.K tl):=by
  intro pins s σ H R I h
  refine thn (hl pins s σ H _ I h) fun v s1 ⟨x,H1,I1,r1,q1⟩=>?_
  obtain⟨a,e,⟨xs,hq⟩,q⟩:=q1
  subst e
  cases r1
  obtain⟨its,rv,p,hz⟩:=I1.tuple hq
  refine wpAny_pyIter_tuple (show s1.heap.IsTuple a its.toArray from p) ?_
  refine⟨s1.heap.objs.size,[s1.heap.objs.size],_,_,H1,rfl,I1.kept (t':=s1.toks) fun b o e=>Heap.get?_push_of_some _ e,nS a _,⟨_,Heap.get?_push_size _ rfl,rfl,rfl⟩,fun b hb=>?_,q⟩
  have e:b=s1.heap.objs.size:=by simpa using hb
  subst e
  exact I1.fpOk (Nat.le_refl _) (I1.hok.fresh (Nat.le_refl _))
theorem sF {pins:List (Addr×Obj)}{σ:St}{H:Hp}{s:Shared}{R:It->Hp->Prop}{E:Value->Shared->Prop}{lo hi:Int}{t u v:Tok}{tk:Nat}(I:Inv X pins σ H s)(h1 : -(2 ^ 62)<=lo)(h2:lo<2 ^ 62)(h3 : -(2 ^ 62)<=hi)(h4:hi<2 ^ 62)
    (q:R (Itr lo (hi - lo).toNat) H):wpAny (model X.prog X.w) X.A (pyIter (.ref s.heap.objs.size)) (PIE X pins σ tg R) E { s with heap:=s.heap.push { cls:=.type "range",data:=.fields #[.int lo t,.int hi u,.int 1 v] },toks:=tk }:=by
  refine wpAny_pyIter_range (IsRange.new ..) (small_one h1 h2 h3 h4) ?_
  have I1:Inv X pins σ H { s with heap:=s.heap.push { cls:=.type "range",data:=.fields #[.int lo t,.int hi u,.int 1 v] },toks:=tk }:=I.kept fun b o e=>Heap.get?_push_of_some _ e
  refine⟨(s.heap.push { cls:=.type "range",data:=.fields #[.int lo t,.int hi u,.int 1 v] }).objs.size,[(s.heap.push { cls:=.type "range",data:=.fields #[.int lo t,.int hi u,.int 1 v] }).objs.size],_,_,H,rfl,
    I1.kept (t':=tk) fun b o e=>Heap.get?_push_of_some _ e,nU _ lo (hi - lo).toNat,?_,fun b hb=>?_,q⟩
  · have e1:lo+((0:Nat):Int)*1=lo:=by simp
    have e2:(((hi - lo).toNat:Nat):Int) - ((0:Nat):Int)=Builtin.Range.rangeSize lo hi 1:=by rw[rangeSize_one];split <;> omega
    show IsRangeIter _ _ (lo+((0:Nat):Int)*1) ((((hi - lo).toNat:Nat):Int) - ((0:Nat):Int)) 1
    rw[e1,e2]
    exact Heap.get?_push_size _ rfl
  · have e:b=(s.heap.push { cls:=.type "range",data:=.fields #[.int lo t,.int hi u,.int 1 v] }).objs.size:=by simpa using hb
    subst e
    exact I1.fpOk (Nat.le_refl _) (I1.hok.fresh (Nat.le_refl _))
def uh (ta:TA):TI:=fun σ H R=>ta σ H fun vs H1=>∃j:Int,vs=[.int j]/\-(2 ^ 62)<=j/\j<2 ^ 62/\R (Itr 0 j.toNat) H1
theorem fi {a:Expr}{ta:TA}{p pos:Pos}(hg:Gl X "range")(hm:X.mg "range" = none)(ha:PA X [a] ta)(hs:starEach [a] X.env=[(false,eval a X.env)]:=by rfl):PI X tg (.Call (.Name "range" p) [a] [] pos) (uh ta):=by
  intro pins s σ H R I h
  refine Call_ (fI I hg hm boot_range (PyProof.Rows.callWith_type1 (thn (ha pos pins s σ H _ I h) fun us s1 ⟨vs,H1,I1,r1,q1⟩=>?_) hs rfl))
  obtain⟨j,e,q1,q2,q⟩:=q1
  subst e
  cases r1 with
  | cons r rr=>
    cases rr
    obtain⟨t,rfl⟩:=r
    exact call_range_1 (sF I1 (by omega) (by omega) q1 q2 (by simpa using q))
def nY (wi:TI)(g:TG)(tb:TS):TS:=fun D σ H=>wi σ H fun J H1=>∃W:Nat->Nat->St->Hp->Prop,(∃m,W 0 m σ H1)/\∀i m σ H,W i m σ H->
  (J.stop i H/\D.nx σ H)∨(J.go i H/\∃N:St->Hp->Prop,(∀σ' H',N σ' H'->∃m',m'<m/\W (i+1) m' σ' H')/\∀x H',J.yld i H x H'->g x σ H' fun σ2 H2=>tb { D with nx:=N,ct:=N,bk:=D.nx } σ2 H2)
def lS (fp:List Addr)(h:Heap):List (Addr×Obj):=fp.filterMap fun b=>(h.get? b).map fun o=>(b,o)
theorem cb {fp:List Addr}{h:Heap}{b:Addr}{o:Obj}(hb:b∈fp)(e:h.get? b=some o):(b,o)∈lS fp h:=List.mem_filterMap.mpr ⟨b,hb,by rw[e];rfl⟩
theorem qY {fp:List Addr}{h:Heap}{p:Addr×Obj}(hp:p∈lS fp h):p.1∈fp/\h.get? p.1=some p.2:=by
  obtain⟨b,hb,e⟩:=List.mem_filterMap.mp hp
  cases q:h.get? b with
  | none=>rw[q] at e;cases e
  | some o=>
    rw[q] at e
    have e':(b,o)=p:=Option.some.inj e
    subst e'
    exact⟨hb,q⟩
theorem Inv.pinned {pins:List (Addr×Obj)}{σ:St}{H:Hp}{s:Shared}{fp:List Addr}(I:Inv X pins σ H s)(hf:∀b∈fp,eF X pins H b)(ho:∀b∈fp,∃o,s.heap.get? b=some o/\∀v,o.data≠.cell v):Inv X (pins++lS fp s.heap) σ H s:=
  I.pins_of fun p hp=>(List.mem_append.mp hp).elim (fun z=>I.pin p (List.mem_append_right _ z)) fun z=>by
    obtain⟨hb,e⟩:=qY z
    obtain⟨f0,f1,f2,_⟩:=hf p.1 hb
    obtain⟨o,e',d⟩:=ho p.1 hb
    rw[e] at e';cases e'
    exact⟨e,f0,f1,f2,d⟩
theorem Inv.unpinned {pins pl:List (Addr×Obj)}{σ:St}{H:Hp}{s:Shared}(I:Inv X (pins++pl) σ H s):Inv X pins σ H s:=I.pins_of fun p hp=>I.pin p (List.mem_append_right _ (List.mem_append_left _ hp))
theorem eP {iter:Expr}{body:List Stmt}{wi:TI}{g:TG}{tb:TS}{pos:Pos}(hp:PassesOwn (model X.prog X.w) X.A X.env X.xe)(hc:X.calm=true)(hi:PI X tg iter wi)(hg:PG X tg g)(hb:PSs X body tb)
    (hs:∀x,foldedSetIterable iter X.env x=pure x:=by intro _;rfl):PS X (.For tg iter body [] pos) (nY wi g tb):=by
  intro pins s σ H D I h
  refine wpAny_For (thn (hi pins s σ H _ I h) fun v s1 h1=>thn h1 fun itv s2 h2=>?_) hs
  obtain⟨it,fp,tn,J,H2,e,I2,T,st2,f2,W,⟨m0,w0⟩,turn⟩:=h2
  subst e
  have stat:∀{H':Hp},(∀b∈fp,H' b=none)->∀b∈fp,eF X pins H' b:=fun hn b hb=>⟨hn b hb,(f2 b hb).2⟩
  refine codeAny_forLoop_any (fun n s'=>∃i σ' H',Inv X pins σ' H' s'/\tn i s'.heap/\(∀b∈fp,H' b=none)/\W i n σ' H') ?_ m0 ⟨0,σ,H2,I2,st2,fun b hb=>(f2 b hb).1,w0⟩
  rintro n s3 ⟨i,σ3,H3,I3,st3,fr3,w3⟩
  rcases turn i n σ3 H3 w3 with⟨stop,qn⟩|⟨go,N,hN,step⟩
  · refine wpAny_passesOwn hp (thn (T.done X rfl rfl rfl hc i pins s3 σ3 H3 X.xe I3 (stat fr3) st3 stop) fun r s4 ⟨hr,I4⟩=>?_)
    subst hr
    exact wpAny_execs_nil ⟨σ3,H3,I4,qn⟩
  · refine wpAny_passesOwn hp (thn (T.item X rfl rfl rfl hc i pins s3 σ3 H3 X.xe I3 (stat fr3) st3 go) fun r s4 ⟨u,hr,h4⟩=>?_)
    subst hr
    refine wpAny_passesOwn hp (thn h4 fun _ s5 ⟨x,H5,I5,r5,y5,st5,fr5⟩=>?_)
    have I5':=I5.pinned (stat fr5) (T.obj _ _ st5)
    refine wpAny_passesOwn hp (thn (hg _ s5 σ3 H5 x u _ I5' r5 (step x H5 y5)) fun _ s6 ⟨σ6,H6,I6,q6⟩=>?_)
    refine wpAny_passesOwn hp (thn (hb _ s6 σ6 H6 _ I6 q6) fun f s7 q7=>?_)
    have again:∀{σ7:St} {H7:Hp},Inv X (pins++lS fp s5.heap) σ7 H7 s7->N σ7 H7->∃m,m<n/\∃i σ' H',Inv X pins σ' H' s7/\tn i s7.heap/\(∀b∈fp,H' b=none)/\W i m σ' H':=fun {σ7 H7} I7 n7=>by
      obtain⟨m',hm,w7⟩:=hN σ7 H7 n7
      refine⟨m',hm,i+1,σ7,H7,I7.unpinned,T.keep _ _ _ st5 fun b hb o e=>(I7.pin (b,o) (List.mem_append_right _ (List.mem_append_right _ (cb hb e)))).1,fun b hb=>?_,w7⟩
      obtain⟨o,e,d⟩:=T.obj _ _ st5 b hb
      exact (I7.pin (b,o) (List.mem_append_right _ (List.mem_append_right _ (cb hb e)))).2.1
    cases f with
    | next=>obtain⟨σ7,H7,I7,n7⟩:=q7;exact again I7 n7
    | cont=>obtain⟨σ7,H7,I7,n7⟩:=q7;exact again I7 n7
    | brk=>obtain⟨σ7,H7,I7,q7⟩:=q7;exact⟨σ7,H7,I7.unpinned,q7⟩
    | ret v=>obtain⟨x7,σ7,H7,I7,r7,q7⟩:=q7;exact⟨x7,σ7,H7,I7.unpinned,r7,q7⟩
end
theorem jT {K:PySem.W.Frag}{a:Addr}{xs:List V}{g:TG}{tb:TS}{D:Ends}{σ:St}{H:Hp}(Pv:Nat->St->Hp->Prop)(h0:Pv 0 σ H)(hl:∀i σ H,i<=xs.length->Pv i σ H->SqL K H a xs)
    (hs:∀i x σ H,xs[i]?=some x->Pv i σ H->g x σ H fun σ2 H2=>tb { D with nx:=Pv (i+1),ct:=Pv (i+1),bk:=D.nx } σ2 H2) (hd:∀σ H,Pv xs.length σ H->D.nx σ H) :
    ∃W:Nat->Nat->St->Hp->Prop,(∃m,W 0 m σ H)/\∀i m σ H,W i m σ H->
      ((Itl K a).stop i H/\D.nx σ H)∨((Itl K a).go i H/\∃N:St->Hp->Prop,(∀σ' H',N σ' H'->∃m',m'<m/\W (i+1) m' σ' H')/\∀x H',(Itl K a).yld i H x H'->g x σ H' fun σ2 H2=>tb { D with nx:=N,ct:=N,bk:=D.nx } σ2 H2):=by
  refine⟨fun i m σ H=>m=xs.length - i/\i<=xs.length/\Pv i σ H,⟨xs.length,by simp,Nat.zero_le _,h0⟩,?_⟩
  rintro i m σ H ⟨rfl,hi,p⟩
  have q:=hl i σ H hi p
  by_cases hlt:i<xs.length
  · refine .inr ⟨⟨xs,xs[i],q,by simp[hlt]⟩,Pv (i+1),fun σ' H' p'=>⟨xs.length - (i+1),by omega,rfl,hlt,p'⟩,fun x H' y=>?_⟩
    obtain⟨e,y⟩:=y
    subst e
    exact hs i x σ _ (y xs q) p
  · have e:i=xs.length:=by omega
    subst e
    exact .inl ⟨⟨xs,q,Nat.le_refl _⟩,hd σ H p⟩
theorem rF {lo:Int}{n:Nat}{g:TG}{tb:TS}{D:Ends}{σ:St}{H:Hp}(Pv:Nat->St->Hp->Prop)(h0:Pv 0 σ H)
    (hs:∀i σ H,i<n->Pv i σ H->g (.int (lo+i)) σ H fun σ2 H2=>tb { D with nx:=Pv (i+1),ct:=Pv (i+1),bk:=D.nx } σ2 H2) (hd:∀σ H,Pv n σ H->D.nx σ H) :
    ∃W:Nat->Nat->St->Hp->Prop,(∃m,W 0 m σ H)/\∀i m σ H,W i m σ H->
      ((Itr lo n).stop i H/\D.nx σ H)∨((Itr lo n).go i H/\∃N:St->Hp->Prop,(∀σ' H',N σ' H'->∃m',m'<m/\W (i+1) m' σ' H')/\∀x H',(Itr lo n).yld i H x H'->g x σ H' fun σ2 H2=>tb { D with nx:=N,ct:=N,bk:=D.nx } σ2 H2):=by
  refine⟨fun i m σ H=>m=n - i/\i<=n/\Pv i σ H,⟨n,by simp,Nat.zero_le _,h0⟩,?_⟩
  rintro i m σ H ⟨rfl,hi,p⟩
  by_cases hlt:i<n
  · refine .inr ⟨hlt,Pv (i+1),fun σ' H' p'=>⟨n - (i+1),by omega,rfl,hlt,p'⟩,fun x H' y=>?_⟩
    obtain⟨e,y⟩:=y
    subst e y
    exact hs i σ _ hlt p
  · have e:i=n:=by omega
    subst e
    exact .inl ⟨Nat.le_refl _,hd σ H p⟩
abbrev R2:=V->V->Hp->VK->Prop
def OpR (X:Cx)(f:Value->Value->Sem Value)(r:R2):Prop:=
  ∀(pins:List (Addr×Obj)) (s:Shared) (σ:St) (H:Hp) (x y:V) (v u:Value) (Q:VK),Inv X pins σ H s->RelV x v->RelV y u->r x y H Q->
    wpAny (model X.prog X.w) X.A (f v u) (EP X pins σ Q) X.xe s
def UnR (X:Cx)(f:Value->Sem Value)(r:V->Hp->VK->Prop):Prop:=
  ∀(pins:List (Addr×Obj)) (s:Shared) (σ:St) (H:Hp) (x:V) (v:Value) (Q:VK),Inv X pins σ H s->RelV x v->r x H Q->
    wpAny (model X.prog X.w) X.A (f v) (EP X pins σ Q) X.xe s
def eM (X:Cx)(f:Value)(r:List V->Hp->VK->Prop):Prop:=
  ∀(pins:List (Addr×Obj)) (s:Shared) (σ:St) (H:Hp) (xs:List V) (us:List Value) (Q:VK),Inv X pins σ H s->Vals xs us->r xs H Q->
    wpAny (model X.prog X.w) X.A (call f us) (EP X pins σ Q) X.xe s
def xJ (X:Cx)(r:V->Hp->(Bool->Hp->Prop)->Prop):Prop:=
  ∀(pins:List (Addr×Obj)) (s:Shared) (σ:St) (H:Hp) (x:V) (v:Value) (Q:Bool->Hp->Prop),Inv X pins σ H s->RelV x v->r x H Q->
    wpAny (model X.prog X.w) X.A (truthy v) (TP X pins σ Q) X.xe s
def tOp (r:R2)(ta tb:TE):TE:=fun σ H Q=>ta σ H fun x H1=>tb σ H1 fun y H2=>r x y H2 Q
def tUn (r:V->Hp->VK->Prop)(ta:TE):TE:=fun σ H Q=>ta σ H fun x H1=>r x H1 Q
def rI (C:Int->Int->Prop)(g:Int->Int->V):R2:=fun x y H Q=>∃i j,x=.int i/\y=.int j/\C i j/\Q (g i j) H
def rI0 (g:Int->Int->V):R2:=fun x y H Q=>∃i j,x=.int i/\y=.int j/\Q (g i j) H
def rU (g:Int->V):V->Hp->VK->Prop:=fun x H Q=>∃i,x=.int i/\Q (g i) H
section
variable {X:Cx}{a b c:Expr}{ta tb tc:TE}{pos:Pos}
theorem wX (ha:PE X a ta)(hb:PE X b tb){pins:List (Addr×Obj)}{s:Shared}{σ:St}{H:Hp}{R:V->V->Hp->Prop}(I:Inv X pins σ H s)
    (h:ta σ H fun x H1=>tb σ H1 fun y H2=>R x y H2) {Q:Value->Shared->Prop} {f:Value->Value->Sem Value}
    (hf:∀v u s2 x y H2,Inv X pins σ H2 s2->RelV x v->RelV y u->R x y H2->wpAny (model X.prog X.w) X.A (f v u) Q X.xe s2) :
    wpAny (model X.prog X.w) X.A (eval a X.env) (fun v s₁=>wpAny (model X.prog X.w) X.A (eval b X.env) (fun u s₂=>wpAny (model X.prog X.w) X.A (f v u) Q X.xe s₂) X.xe s₁) X.xe s:=by
  refine thn (ha pins s σ H _ I h) fun v s1 ⟨x,H1,I1,r1,q1⟩=>?_
  refine thn (hb pins s1 σ H1 _ I1 q1) fun u s2 ⟨y,H2,I2,r2,q2⟩=>?_
  exact hf v u s2 x y H2 I2 r1 r2 q2
theorem az {op:Operator}{r:R2}(ho:OpR X (binaryOp op) r)(ha:PE X a ta)(hb:PE X b tb):PE X (.BinOp a op b pos) (tOp r ta tb):=by
  intro pins s σ H Q I h
  exact wpAny_BinOp (wX ha hb I h fun v u s2 x y H2 I2 rx ry q=>ho pins s2 σ H2 x y v u Q I2 rx ry q)
theorem gF {op:UnaryOp}{r:V->Hp->VK->Prop}(ho:UnR X (unaryOp op) r)(ha:PE X a ta):PE X (.UnaryOp op a pos) (tUn r ta):=by
  intro pins s σ H Q I h
  exact UnaryOp_ (thn (ha pins s σ H _ I h) fun v s1 ⟨x,H1,I1,r1,q1⟩=>ho pins s1 σ H1 x v Q I1 r1 q1)
theorem opI {f:Value->Value->Sem Value}{C:Int->Int->Prop}{g:Int->Int->Int}
    (rule:∀(i j:Int) (t u:Tok) (s:Shared) (Q:Value->Shared->Prop) (E:Value->Shared->Prop),C i j->Q (.int (g i j) s.toks) { s with toks:=s.toks+1 }->wpAny (model X.prog X.w) X.A (f (.int i t) (.int j u)) Q E s) :
    OpR X f (rI C fun i j=>.int (g i j)):=by
  intro pins s σ H x y v u Q I rx ry h
  obtain⟨i,j,rfl,rfl,hc,q⟩:=h
  obtain⟨t,rfl⟩:=rx
  obtain⟨t',rfl⟩:=ry
  exact rule i j t t' s _ _ hc ⟨.int (g i j),H,I.tok _,⟨_,rfl⟩,q⟩
theorem xr {f:Value->Value->Sem Value}{g:Int->Int->Int}
    (rule:∀(i j:Int) (t u:Tok) (s:Shared) (Q:Value->Shared->Prop) (E:Value->Shared->Prop),Q (.int (g i j) s.toks) { s with toks:=s.toks+1 }->wpAny (model X.prog X.w) X.A (f (.int i t) (.int j u)) Q E s) :
    OpR X f (rI0 fun i j=>.int (g i j)):=by
  intro pins s σ H x y v u Q I rx ry h
  obtain⟨i,j,rfl,rfl,q⟩:=h
  obtain⟨t,rfl⟩:=rx
  obtain⟨t',rfl⟩:=ry
  exact rule i j t t' s _ _ ⟨.int (g i j),H,I.tok _,⟨_,rfl⟩,q⟩
theorem vj {f:Value->Value->Sem Value}{g:Int->Int->Bool}
    (rule:∀(i j:Int) (t u:Tok) (s:Shared) (Q:Value->Shared->Prop) (E:Value->Shared->Prop),Q (.bool (g i j)) s->wpAny (model X.prog X.w) X.A (f (.int i t) (.int j u)) Q E s) :
    OpR X f (rI0 fun i j=>.bl (g i j)):=by
  intro pins s σ H x y v u Q I rx ry h
  obtain⟨i,j,rfl,rfl,q⟩:=h
  obtain⟨t,rfl⟩:=rx
  obtain⟨t',rfl⟩:=ry
  exact rule i j t t' s _ _ ⟨.bl (g i j),H,I,rfl,q⟩
def pj (i j:Int):Prop:=0<=j/\j<=1000000/\i.natAbs<2 ^ 64
theorem bP:OpR X (binaryOp .Add) (rI0 fun i j=>.int (i+j)):=xr fun _ _ _ _ _ _ _ q=>add_int q
theorem bO:OpR X (binaryOp .Sub) (rI0 fun i j=>.int (i - j)):=xr fun _ _ _ _ _ _ _ q=>sub_int q
theorem de:OpR X (binaryOp .Mod) (rI (fun _ j=>j≠0) fun i j=>.int (i.fmod j)):=opI fun _ _ _ _ _ _ _ hc q=>mod_int' hc q
theorem eB:OpR X (binaryOp .Pow) (rI pj fun i j=>.int (i ^ j.toNat)):=opI fun _ _ _ _ _ _ _ hc q=>pow_int_small hc.1 hc.2.1 hc.2.2 q
theorem unI {f:Value->Sem Value}{g:Int->Int}
    (rule:∀(i:Int) (t:Tok) (s:Shared) (Q:Value->Shared->Prop) (E:Value->Shared->Prop),Q (.int (g i) s.toks) { s with toks:=s.toks+1 }->wpAny (model X.prog X.w) X.A (f (.int i t)) Q E s) :
    UnR X f (rU fun i=>.int (g i)):=by
  intro pins s σ H x v Q I rx h
  obtain⟨i,rfl,q⟩:=h
  obtain⟨t,rfl⟩:=rx
  exact rule i t s _ _ ⟨.int (g i),H,I.tok _,⟨_,rfl⟩,q⟩
theorem eN:UnR X (unaryOp .USub) (rU fun i=>.int (-i)):=unI fun _ _ _ _ _ q=>neg_int q
end
def xh:V->V->Bool
  | .non,.non=>true | .non,.int _=>true | .int _,.non=>true | .non,.bl _=>true | .bl _,.non=>true | .non,.str _=>true | .str _,.non=>true
  | .int _,.int _=>true | .bl _,.bl _=>true | .str _,.str _=>true | .byt _,.byt _=>true
  | .int _,.str _=>true | .str _,.int _=>true | .bl _,.str _=>true | .str _,.bl _=>true
  | _,_=>false
def rEq:R2:=fun x y H Q=>xh x y=true/\Q (.bl (decide (x=y))) H
def rNe:R2:=fun x y H Q=>xh x y=true/\Q (.bl (!decide (x=y))) H
theorem il {i j:Int}:decide (V.int i=V.int j)=(i == j):=by
  rw[Bool.eq_iff_iff]
  simp
theorem uC {i j:Bool}:decide (V.bl i=V.bl j)=(i == j):=by
  rw[Bool.eq_iff_iff]
  simp
theorem qo {i j:Str}:decide (V.str i=V.str j)=(i == j):=by
  rw[Bool.eq_iff_iff]
  simp
theorem qp {i j:Array UInt8}:decide (V.byt i=V.byt j)=(i.toList == j.toList):=by
  rw[Bool.eq_iff_iff]
  cases i
  cases j
  simp
section
variable {X:Cx}{a b c:Expr}{ta tb tc:TE}{pos:Pos}
theorem bq {pins:List (Addr×Obj)}{σ:St}{H:Hp}{s:Shared}{Q:VK}{k k':Bool}(I:Inv X pins σ H s)(q:Q (.bl k) H)(e:k=k'):EP X pins σ Q (.bool k') s:=by
  subst e
  exact⟨.bl k,H,I,rfl,q⟩
theorem di:OpR X (compareOp .Eq) rEq:=by
  intro pins s σ H x y v u Q I rx ry h
  obtain⟨hs,q⟩:=h
  cases x with
  | non=>
    cases rx
    cases y with
    | non=>cases ry;exact PySem.EqNone.eq_none_none (bq I q (by simp))
    | bl j=>cases ry;exact PySem.EqNone.eq_none_bool (bq I q (by simp))
    | int j=>obtain⟨t',rfl⟩:=ry;exact PySem.EqNone.eq_none_int (bq I q (by simp))
    | str j=>obtain⟨t',rfl⟩:=ry;exact PySem.EqNone.eq_none_str (bq I q (by simp))
    | _=>exact absurd (show false=true from hs) Bool.false_ne_true
  | bl i=>
    cases rx
    cases y with
    | non=>cases ry;exact PySem.EqNone.eq_bool_none (bq I q (by simp))
    | bl j=>cases ry;exact eq_bool (bq I q uC)
    | str j=>obtain⟨t',rfl⟩:=ry;exact PySem.EqMixed.eq_bool_str (bq I q (by simp))
    | _=>exact absurd (show false=true from hs) Bool.false_ne_true
  | int i=>
    obtain⟨t,rfl⟩:=rx
    cases y with
    | non=>cases ry;exact PySem.EqNone.eq_int_none (bq I q (by simp))
    | int j=>obtain⟨t',rfl⟩:=ry;exact eq_int (bq I q il)
    | str j=>obtain⟨t',rfl⟩:=ry;exact PySem.EqMixed.eq_int_str (bq I q (by simp))
    | _=>exact absurd (show false=true from hs) Bool.false_ne_true
  | str i=>
    obtain⟨t,rfl⟩:=rx
    cases y with
    | non=>cases ry;exact PySem.EqNone.eq_str_none (bq I q (by simp))
    | bl j=>cases ry;exact PySem.EqMixed.eq_str_bool (bq I q (by simp))
    | int j=>obtain⟨t',rfl⟩:=ry;exact PySem.EqMixed.eq_str_int (bq I q (by simp))
    | str j=>obtain⟨t',rfl⟩:=ry;exact eq_str (bq I q qo)
    | _=>exact absurd (show false=true from hs) Bool.false_ne_true
  | byt i=>
    obtain⟨t,rfl⟩:=rx
    cases y with
    | byt j=>obtain⟨t',rfl⟩:=ry;exact PySem.W.eq_bytes (bq I q qp)
    | _=>exact absurd (show false=true from hs) Bool.false_ne_true
  | _=>cases y <;> exact absurd (show false=true from hs) Bool.false_ne_true
theorem kB:OpR X (compareOp .NotEq) rNe:=by
  intro pins s σ H x y v u Q I rx ry h
  obtain⟨hs,q⟩:=h
  cases x with
  | non=>
    cases rx
    cases y with
    | non=>cases ry;exact PySem.EqNone.ne_none_none (bq I q (by simp))
    | bl j=>cases ry;exact PySem.EqNone.ne_none_bool (bq I q (by simp))
    | int j=>obtain⟨t',rfl⟩:=ry;exact PySem.EqNone.ne_none_int (bq I q (by simp))
    | str j=>obtain⟨t',rfl⟩:=ry;exact PySem.EqNone.ne_none_str (bq I q (by simp))
    | _=>exact absurd (show false=true from hs) Bool.false_ne_true
  | bl i=>
    cases rx
    cases y with
    | non=>cases ry;exact PySem.EqNone.ne_bool_none (bq I q (by simp))
    | bl j=>cases ry;exact ne_bool (bq I q (congrArg not uC))
    | str j=>obtain⟨t',rfl⟩:=ry;exact PySem.EqMixed.ne_bool_str (bq I q (by simp))
    | _=>exact absurd (show false=true from hs) Bool.false_ne_true
  | int i=>
    obtain⟨t,rfl⟩:=rx
    cases y with
    | non=>cases ry;exact PySem.EqNone.ne_int_none (bq I q (by simp))
    | int j=>obtain⟨t',rfl⟩:=ry;exact ne_int (bq I q (congrArg not il))
    | str j=>obtain⟨t',rfl⟩:=ry;exact PySem.EqMixed.ne_int_str (bq I q (by simp))
    | _=>exact absurd (show false=true from hs) Bool.false_ne_true
  | str i=>
    obtain⟨t,rfl⟩:=rx
    cases y with
    | non=>cases ry;exact PySem.EqNone.ne_str_none (bq I q (by simp))
    | bl j=>cases ry;exact PySem.EqMixed.ne_str_bool (bq I q (by simp))
    | int j=>obtain⟨t',rfl⟩:=ry;exact PySem.EqMixed.ne_str_int (bq I q (by simp))
    | str j=>obtain⟨t',rfl⟩:=ry;exact ne_str (bq I q (congrArg not qo))
    | _=>exact absurd (show false=true from hs) Bool.false_ne_true
  | byt i=>
    obtain⟨t,rfl⟩:=rx
    cases y with
    | byt j=>obtain⟨t',rfl⟩:=ry;exact PySem.W.ne_bytes (bq I q (congrArg not qp))
    | _=>exact absurd (show false=true from hs) Bool.false_ne_true
  | _=>cases y <;> exact absurd (show false=true from hs) Bool.false_ne_true
theorem eJ:OpR X (compareOp .Lt) (rI0 fun i j=>.bl (decide (i<j))):=vj fun _ _ _ _ _ _ _ q=>lt_int q
theorem tF:OpR X (compareOp .LtE) (rI0 fun i j=>.bl (decide (i<=j))):=vj fun _ _ _ _ _ _ _ q=>le_int q
theorem fP:OpR X (compareOp .Gt) (rI0 fun i j=>.bl (decide (j<i))):=vj fun _ _ _ _ _ _ _ q=>gt_int q
theorem xq:OpR X (compareOp .GtE) (rI0 fun i j=>.bl (decide (j<=i))):=vj fun _ _ _ _ _ _ _ q=>ge_int q
theorem aQ (b:Expr){op:CmpOp}(h:op≠.In:=by decide)(h2:op≠.NotIn:=by decide):behindInMarks op b=false:=by
  have e1:(op == CmpOp.In)=false:=by cases op <;> first | rfl | exact absurd rfl h
  have e2:(op == CmpOp.NotIn)=false:=by cases op <;> first | rfl | exact absurd rfl h2
  cases b <;> simp[behindInMarks,e1,e2]
theorem gx {op:CmpOp}{r:R2}(ho:OpR X (compareOp op) r)(ha:PE X a ta)(hb:PE X b tb)(hm:behindInMarks op b=false):PE X (.Compare a [op] [b] pos) (tOp r ta tb):=by
  intro pins s σ H Q I h
  exact wpAny_Compare1 (wX ha hb I h fun v u s2 x y H2 I2 rx ry q=>ho pins s2 σ H2 x y v u Q I2 rx ry q) hm
def pC (t:TE):TT:=fun σ H Q=>t σ H fun x H'=>∃k,x=.bl k/\Q k H'
theorem aG {op:CmpOp}{r:R2}(ho:OpR X (compareOp op) r)(ha:PE X a ta)(hb:PE X b tb)(hm:behindInMarks op b=false):PT X (.Compare a [op] [b] pos) (pC (tOp r ta tb)):=by
  intro pins s σ H Q I h
  refine wpAny_isTrue_Compare1 (thn (ha pins s σ H _ I h) fun v s1 ⟨x,H1,I1,r1,q1⟩=>thn (hb pins s1 σ H1 _ I1 q1) fun u s2 ⟨y,H2,I2,r2,q2⟩=>
    thn (ho pins s2 σ H2 x y v u _ I2 r1 r2 q2) fun c s3 ⟨z,H3,I3,r3,k,e,q3⟩=>?_) hm
  subst e
  cases r3
  exact wpAny_truthy_bool ⟨H3,I3,q3⟩
def wY (K:PySem.W.Frag)(x:V)(H:Hp)(k:Bool):Prop:=
  match x with
  | .non=>k=false
  | .bl b=>k=b
  | .int i=>k=(i != 0)
  | .str y=>y.length<=sizeLine/\k=((y.length:Int) != 0)
  | .byt y=>y.size<=sizeLine/\k=((y.size:Int) != 0)
  | .ref p=>(∃xs,SqL K H p xs/\k = !xs.isEmpty)∨(∃xs,SqT K H p xs/\k = !xs.isEmpty)∨∃kvs,H p=some (.dK kvs)/\k = !kvs.isEmpty
  | _=>False
theorem oQ {κ:Type}{kvs:List (κ×V)}{vs:List (κ×Value)}(r:KV kvs vs):(!vs.isEmpty) = !kvs.isEmpty:=by
  cases r <;> rfl
theorem jP {xs:List V}{its:List Value}(r:Vals xs its):(!its.toArray.isEmpty) = !xs.isEmpty:=by
  cases r <;> simp
theorem iH:(sizeLine:Nat)<2 ^ 63:=by rw[sizeLine_eq];decide
theorem wl:xJ X (fun x H Q=>∃k,wY X.K x H k/\Q k H):=by
  intro pins s σ H x v Q I rx h
  obtain⟨k,e,q⟩:=h
  have hl:=iH
  have hs:sizeLine=16777216:=sizeLine_eq
  cases x with
  | non=>
    cases rx
    have e':k=false:=e
    subst e'
    exact truthy_none ⟨H,I,q⟩
  | bl b=>
    cases rx
    have e':k=b:=e
    subst e'
    exact wpAny_truthy_bool ⟨H,I,q⟩
  | int i=>
    obtain⟨t,rfl⟩:=rx
    have e':k=(i != 0):=e
    subst e'
    exact PySem.P.truthy_int ⟨H,I,q⟩
  | str y=>
    obtain⟨t,rfl⟩:=rx
    obtain⟨hy,e'⟩:y.length<=sizeLine/\k=((y.length:Int) != 0):=e
    subst e'
    exact PySem.P.truthy_str (by omega) ⟨H,I.tok _,q⟩
  | byt y=>
    obtain⟨t,rfl⟩:=rx
    obtain⟨hy,e'⟩:y.size<=sizeLine/\k=((y.size:Int) != 0):=e
    subst e'
    exact PySem.W.truthy_bytes (by omega) ⟨H,I.tok _,q⟩
  | ref p=>
    cases rx
    have e':(∃xs,SqL X.K H p xs/\k = !xs.isEmpty)∨(∃xs,SqT X.K H p xs/\k = !xs.isEmpty)∨∃kvs,H p=some (.dK kvs)/\k = !kvs.isEmpty:=e
    rcases e' with⟨xs,hx,e'⟩|⟨xs,hx,e'⟩|⟨kvs,hx,e'⟩
    · subst e'
      obtain⟨its,r,pl,hz⟩:=I.list hx
      have hlen:=r.length
      exact wpAny_truthy_list pl.isList (by simp only[List.size_toArray];omega) ⟨H,I.tok _,by rw[jP r];exact q⟩
    · subst e'
      obtain⟨its,r,pl,hz⟩:=I.tuple hx
      have hlen:=r.length
      exact truthy_tuple pl (by simp only[List.size_toArray];omega) ⟨H,I.tok _,by rw[jP r];exact q⟩
    · subst e'
      obtain⟨hz,hS,vs,r,m⟩:kvs.length<=sizeLine/\(p == sysModules)=false/\∃vs,KV kvs vs/\s.heap.DictOf (cF X.prog X.w) p vs:=I.hok p _ hx
      have hlen:kvs.length=vs.length:=Paired.length r
      exact wpAny_truthy_dict hS m (by omega) ⟨H,I.tok _,by rw[oQ r];exact q⟩
  | _=>exact (show False from e).elim
theorem sR (ha:PE X a ta)(he:∀whole,isTrue a X.env whole=(do let v ←whole;standAt a.pos;holding [v] (truthy v))) :
    PT X a (fun σ H Q=>ta σ H fun x H'=>∃k,wY X.K x H' k/\Q k H'):=by
  intro pins s σ H Q I h
  exact isTrue_plain (thn (ha pins s σ H _ I h) fun v s1 ⟨x,H1,I1,r1,q1⟩=>wl pins s1 σ H1 x v Q I1 r1 q1) (he _)
theorem fL {x:V}{us:List Value}(r:Vals [x] us):∃u,us=[u]/\RelV x u:=by
  cases r with
  | cons r1 r2=>cases r2;exact⟨_,rfl,r1⟩
theorem rP {x y:V}{us:List Value}(r:Vals [x,y] us):∃u w',us=[u,w']/\RelV x u/\RelV y w':=by
  cases r with
  | cons r1 r2=>
    cases r2 with
    | cons r3 r4=>cases r4;exact⟨_,_,rfl,r1,r3⟩
theorem gh:eM X (.builtin "abs") (fun xs H Q=>∃i,xs=[.int i]/\Q (.int (if i<0 then -i else i)) H):=by
  intro pins s σ H xs us Q I r h
  obtain⟨i,rfl,q⟩:=h
  obtain⟨u,rfl,t,rfl⟩:=fL r
  exact call_abs_int fun u tk=>⟨.int (if i<0 then -i else i),H,I.tok _,⟨_,rfl⟩,q⟩
theorem rM (hc:X.calm=true):eM X (.builtin "max") (fun xs H Q=>∃i j,xs=[.int i,.int j]/\Q (.int (if j > i then j else i)) H):=by
  intro pins s σ H xs us Q I r h
  obtain⟨i,j,rfl,q⟩:=h
  obtain⟨u,w',rfl,⟨t,rfl⟩,⟨t',rfl⟩⟩:=rP r
  refine max_two_ints (I.ok.hd hc) fun h' tk k=>⟨_,H,I.kept k,?_,q⟩
  by_cases hj:j > i
  · rw[if_pos hj,if_pos hj];exact⟨_,rfl⟩
  · rw[if_neg hj,if_neg hj];exact⟨_,rfl⟩
theorem rL (hc:X.calm=true):eM X (.builtin "min") (fun xs H Q=>∃i j,xs=[.int i,.int j]/\Q (.int (if j<i then j else i)) H):=by
  intro pins s σ H xs us Q I r h
  obtain⟨i,j,rfl,q⟩:=h
  obtain⟨u,w',rfl,⟨t,rfl⟩,⟨t',rfl⟩⟩:=rP r
  refine min_two_ints (I.ok.hd hc) fun h' tk k=>⟨_,H,I.kept k,?_,q⟩
  by_cases hj:j<i
  · rw[if_pos hj,if_pos hj];exact⟨_,rfl⟩
  · rw[if_neg hj,if_neg hj];exact⟨_,rfl⟩
theorem kU:eM X (.type "int") (fun xs H Q=>(∃i,xs=[.int i]/\Q (.int i) H)∨∃k,xs=[.bl k]/\Q (.int (if k then 1 else 0)) H):=by
  intro pins s σ H xs us Q I r h
  rcases h with⟨i,rfl,q⟩|⟨k,rfl,q⟩
  · obtain⟨u,rfl,t,rfl⟩:=fL r
    exact call_int_int ⟨.int i,H,I,⟨_,rfl⟩,q⟩
  · obtain⟨u,rfl,r1⟩:=fL r
    cases r1
    exact call_int_bool ⟨.int (if k then 1 else 0),H,I.tok _,⟨_,rfl⟩,q⟩
end
structure ObjM (h:Heap)(x dx C:Addr)(mA:Str->Option Value):Prop where
  obj:h.get? x=some (PySem.W.instObj C dx)
  ns:h.Ns1 dx mA
  ne:dx≠x
theorem rf {h:Heap}{dx:Addr}{mA:Str->Option Value}(n:h.Ns1 dx mA):∃od,h.get? dx=some od/\∀name,PySem.W.lookIn name od=some (mA name):=by
  obtain⟨o,es,ep,ho,hd,hk,_,hm⟩:=n
  refine⟨o,ho,fun name=>?_⟩
  have e:=hm name
  unfold nsFind findBy at e
  rw[←Array.find?_toList] at e
  unfold PySem.W.lookIn
  rw[hd]
  dsimp only
  split
  · rename_i y q
    rw[q] at e
    exact congrArg some e
  · rename_i q
    rw[q] at e
    have a:es.toList.any (·.refKey)=false:=by
      rw[List.any_eq_false]
      intro y hy
      obtain⟨z,t,hkey⟩:=hk y (Array.mem_toList_iff.mp hy)
      simp[DictEntry.refKey,hkey]
    have a':¬es.toList.any (·.refKey)=true:=by rw[a];exact Bool.false_ne_true
    rw[if_neg a']
    exact congrArg some e
theorem ObjM.look {h:Heap}{x dx C:Addr}{mA:Str->Option Value}(I:ObjM h x dx C mA):∃od,PySem.W.InstAt h x (PySem.W.instObj C dx) C (some od)/\∀name,PySem.W.lookIn name od=some (mA name):=
  let ⟨od,ho,hl⟩:=rf I.ns
  ⟨od,⟨I.obj,rfl,rfl,ho⟩,hl⟩
theorem RelO.some_of {v:V}{o:Option Value}(r:RelO (some v) o):∃u,o=some u/\RelV v u:=by
  cases o with
  | none=>exact (show False from r).elim
  | some u=>exact⟨u,rfl,r⟩
section
variable {P:Program}{w:World}{H H':Hp}{h h':Heap}{a C dx:Addr}{fs fs':List (Str×V)}
theorem vF (hok:HOk P w H h)(e:H a=some (.ins C dx fs)):∃mA,ObjM h a dx C mA/\(∀f,RelO (fs.lookup f) (mA f))/\PySem.Within mA (fs.map (·.1))/\fs.length<=1000/\H dx=some (.own a):=by
  obtain⟨d,z,ne,ob,mA,n,r,q⟩:=(show ObjOk P w H h a (.ins C dx fs) from hok a _ e)
  exact⟨mA,⟨ob,n,ne⟩,r,q,z,d⟩
end
structure Cls (K:PySem.W.Frag)(C:Addr):Prop where
  pg:PySem.W.plainGet K C Str.empty=true
  hd:PySem.W.hasDictIn K C=true
  po:PySem.W.plainOver K C=true
  sa:PySem.W.findIn K (.ref C) "__setattr__" = some (some (.builtin "object.__setattr__"))
theorem Cls.get {K:PySem.W.Frag}{C:Addr}(c:Cls K C)(f:Str):PySem.W.plainGet K C f=true:=c.pg
section
variable {X:Cx}{pins:List (Addr×Obj)}{σ:St}{H:Hp}{s:Shared}{A:Around}{E:Value->Shared->Prop}{Q:Value->Shared->Prop}{c:Value}{b:Bool}
inductive TyOf (K:PySem.W.Frag) (H:Hp):V->Value->Prop where
  | non:TyOf K H .non (.type "NoneType")
  | bl (x:Bool):TyOf K H (.bl x) (.type "bool")
  | int (i:Int):TyOf K H (.int i) (.type "int")
  | str (x:Str):TyOf K H (.str x) (.type "str")
  | flt (x:UInt64):TyOf K H (.flt x) (.type "float")
  | lst {a:Addr} {xs:List V} (e:H a=some (.lst xs)):TyOf K H (.ref a) (.type "list")
  | frz {a:Addr} {o:Obj} {xs:List V} (e:H a=some (.frz o (.lst xs))):TyOf K H (.ref a) (.type "list")
  | tup {a:Addr} {xs:List V} (e:H a=some (.tup xs)):TyOf K H (.ref a) (.type "tuple")
  | dK {a:Addr} {kvs:List (Key×V)} (e:H a=some (.dK kvs)):TyOf K H (.ref a) (.type "dict")
  | dT {a:Addr} {kvs:List (List Key×V)} (e:H a=some (.dT kvs)):TyOf K H (.ref a) (.type "dict")
  | ins {a C dx:Addr} {fs:List (Str×V)} (e:H a=some (.ins C dx fs)) (cl:Cls K C) (ha:PySem.W.findIn K (.ref C) "__class__" = some (some (.builtin "object.__class__")))
      (hn:PySem.W.specialIn K (.builtin "object.__class__") "__get__" = some (some (.builtin "getset_descriptor.__get__"))) (htk:PySem.W.takesIn K (.builtin "object.__class__")=some true)
      (hm:PySem.W.mroIn K C (.type "object")=some true):TyOf K H (.ref a) (.ref C)
theorem rp {x:V}{u t:Value}(I:Inv X pins σ H s)(rx:RelV x u)(ty:TyOf X.K H x t)(e:PySem.W.kitOne X.K t c=some b)(h:∀tk,Q (.bool b) { s with toks:=tk }) :
    wpAny (model X.prog X.w) A (call (.builtin "isinstance") [u,c]) Q E s:=by
  cases ty with
  | non=>cases (show u=Value.none from rx);exact PySem.W.kia_one PySem.W.kitx_none I.kIn True.intro e (fun z=>nomatch z) h
  | bl y=>cases (show u=Value.bool y from rx);exact PySem.W.kia_one PySem.W.kitx_bool I.kIn True.intro e (fun z=>nomatch z) h
  | int i=>obtain⟨t,q⟩:=(show ∃t,u=Value.int i t from rx);cases q;exact PySem.W.kia_one PySem.W.kitx_int I.kIn True.intro e (fun z=>nomatch z) h
  | str y=>obtain⟨t,q⟩:=(show ∃t,u=Value.str y t from rx);cases q;exact PySem.W.kia_one PySem.W.kitx_str I.kIn True.intro e (fun z=>nomatch z) h
  | flt y=>obtain⟨t,q⟩:=(show ∃t,u=Value.float y t from rx);cases q;exact PySem.W.kia_one PySem.W.kitx_float I.kIn True.intro e (fun z=>nomatch z) h
  | @lst a xs ea=>
    cases (show u=Value.ref a from rx)
    obtain⟨_,_,n,_,h1⟩:=(show ObjOk X.prog X.w H s.heap a (.lst xs) from I.hok a _ ea)
    exact PySem.W.kia_one PySem.W.kitx_list I.kIn ⟨_,h1,rfl⟩ e (fun z=>nomatch z) h
  | @frz a ob xs ea=>
    cases (show u=Value.ref a from rx)
    obtain⟨_,_,_,n,_,h1⟩:=(show ObjOk X.prog X.w H s.heap a (.frz ob (.lst xs)) from I.hok a _ ea)
    exact PySem.W.kia_one PySem.W.kitx_list I.kIn ⟨_,h1,rfl⟩ e (fun z=>nomatch z) h
  | @tup a xs ea=>
    cases (show u=Value.ref a from rx)
    obtain⟨_,_,_,p⟩:=(show ObjOk X.prog X.w H s.heap a (.tup xs) from I.hok a _ ea)
    obtain⟨o,h1,h2,_⟩:=p
    exact PySem.W.kia_one PySem.W.kitx_tuple I.kIn ⟨o,h1,h2⟩ e (fun z=>nomatch z) h
  | @dK a kvs ea=>
    cases (show u=Value.ref a from rx)
    obtain⟨_,_,vs,_,p⟩:=(show ObjOk X.prog X.w H s.heap a (.dK kvs) from I.hok a _ ea)
    obtain⟨o,es,ep,h1,h2,_⟩:=p
    exact PySem.W.kia_one PySem.W.kitx_dict I.kIn ⟨o,h1,h2.1⟩ e (fun z=>nomatch z) h
  | @dT a kvs ea=>
    cases (show u=Value.ref a from rx)
    obtain⟨_,_,xs,_,o,es,ep,h1,h2,_⟩:=(show ObjOk X.prog X.w H s.heap a (.dT kvs) from I.hok a _ ea)
    exact PySem.W.kia_one PySem.W.kitx_dict I.kIn ⟨o,h1,h2.1⟩ e (fun z=>nomatch z) h
  | @ins a C dx fs ea cl ha hn htk hm=>
    cases (show u=Value.ref a from rx)
    obtain⟨mA,O,_⟩:=vF I.hok ea
    obtain⟨od,J,_⟩:=O.look
    exact PySem.W.kia_one (PySem.W.kitx_own (cl.get _) cl.hd ha hn htk hm) I.kIn J e (fun z=>nomatch z) h
end
structure Room (k:Nat)(A:Around):Prop where
  hd:A.handled=none
  dp:A.depth+3*k+5<recursionLimit
  un:A.units+16*k+200<cLine
theorem Room.mono {j k:Nat}{A:Around}(r:Room k A)(h:j<=k):Room j A:=⟨r.hd,by have:=r.dp;omega,by have:=r.un;omega⟩
theorem Room.deeper {k:Nat}{A:Around}(r:Room (k+1) A)(env:Env):Room k (A.deeper env):=
  ⟨r.hd,by have:=r.dp;show A.depth+1+3*k+5<_;omega,by have:=r.un;show A.units+3+16*k+200<_;omega⟩
theorem Room.in1 {k:Nat}{A:Around}(r:Room (k+1) A):Room k A.in1:=
  ⟨r.hd,by have:=r.dp;show A.depth+3*k+5<_;omega,by have:=r.un;show A.units+1+16*k+200<_;omega⟩
theorem Room.depth {k:Nat}{A:Around}(r:Room k A):A.depth<recursionLimit:=by have:=r.dp;omega
theorem Room.units {k:Nat}{A:Around}(r:Room k A):A.units+64<cLine:=by have:=r.un;omega
def df:TA:=fun _ H Q=>Q [] H
def bG (ta:TE)(tr:TA):TA:=fun σ H Q=>ta σ H fun x H1=>tr σ H1 fun xs H2=>Q (x::xs) H2
section
variable {X:Cx}{e:Expr}{es:List Expr}{te:TE}{t:TA}{pos:Pos}
theorem ai:PA X [] df:=fun _ _ _ _ H Q I h=>Calls.spliced_nil ⟨[],H,I,.nil,h⟩
theorem ae (ha:PE X e te)(hr:PA X es t)(hs:starEach (e::es) X.env=(false,eval e X.env)::starEach es X.env:=by rfl):PA X (e::es) (bG te t):=by
  intro pos pins s σ H Q I h
  rw[hs]
  show wpAny _ _ (spliced ((false,eval e X.env)::backTo pos (starEach es X.env))) _ _ s
  refine Calls.spliced_cons (thn (ha pins s σ H _ I h) fun u s1 ⟨x,H1,I1,r1,q1⟩=>?_)
  exact thn (hr pos pins s1 σ H1 _ I1 q1) fun us s2 ⟨xs,H2,I2,r2,q2⟩=>⟨x::xs,H2,I2,.cons r1 r2,q2⟩
def nW (t:TA):TE:=fun σ H Q=>t σ H fun xs H1=>xs.length<=sizeLine/\∀p,H1 p=none->Q (.ref p) (upd H1 p (.tup xs))
def wr (t:TA):TE:=fun σ H Q=>t σ H fun xs H1=>xs.length<=sizeLine/\∀p,H1 p=none->Q (.ref p) (upd H1 p (.lst xs))
theorem bN {x1}(h:PA X es t):PE X (.Tuple es x1 pos) (nW t):=by
  intro pins s σ H Q I hq
  refine wpAny_Tuple_spliced (thn (h pos pins s σ H _ I hq) fun us s1 ⟨xs,H1,I1,r,z,q⟩=>⟨by rw[←r.length];exact z,?_⟩)
  have hf:H1 s1.heap.objs.size=none:=I1.hok.fresh (Nat.le_refl _)
  refine⟨.ref s1.heap.objs.size,upd H1 s1.heap.objs.size (.tup xs),I1.laid (t':=s1.toks) (fun b u e=>Heap.get?_push_of_some _ e) (Nat.le_refl _) ?_,rfl,q _ hf⟩
  exact⟨z,us,r,⟨_,Heap.get?_push_size _ rfl,rfl,_,rfl⟩⟩
theorem cD (h:PA X es t):PE X (.List es pos) (wr t):=by
  intro pins s σ H Q I hq
  refine wpAny_List_spliced (thn (h pos pins s σ H _ I hq) fun us s1 ⟨xs,H1,I1,r,z,q⟩=>⟨by rw[←r.length];exact z,?_⟩)
  have hf:H1 s1.heap.objs.size=none:=I1.hok.fresh (Nat.le_refl _)
  refine⟨.ref s1.heap.objs.size,upd H1 s1.heap.objs.size (.lst xs),I1.laid (t':=s1.toks) (fun b u e=>Heap.get?_push_of_some _ e) (Nat.le_refl _) ?_,rfl,q _ hf⟩
  exact⟨z,us,0,r,Heap.get?_push_size _ rfl⟩
end
abbrev Sp:=List V->Hp->VK->XK->Prop
abbrev CXT:=List Env->Hp->Shared->XK->Value->Shared->Prop
structure Env0 (P:Program)(w:World)(K:PySem.W.Frag)(mg:Str->Option Value)(base:Heap)(A:Around)(outer:List Env)(s:Shared)(H:Hp):Prop where
  frames:A.frames=some outer
  mod:Mod K mg base
  bs:∀b o,base.get? b=some o->s.heap.get? b=some o/\H b=none
  bsz:base.objs.size<=s.heap.objs.size
  funs:s.heap.FunFrames base outer
  frf:∀b∈frs outer,H b=none
  hok:HOk P w H s.heap
  bare:AllBare s.gens
def CE (outer:List Env)(P:Program)(w:World)(H:Hp)(s:Shared)(Q:VK)(u:Value)(s':Shared):Prop:=
  ∃v H',s'.os=s.os/\AllBare s'.gens/\Un (frs outer) [] H H' s.heap s'.heap/\HOk P w H' s'.heap/\RelV v u/\Q v H'
def CR (CX:CXT)(outer:List Env)(P:Program)(w:World)(H:Hp)(s:Shared)(Q:VK)(E:XK)(r:Result)(s':Shared):Prop:=
  match r with
  | .ok (.ret u)=>CE outer P w H s Q u s'
  | .ok _=>False
  | .error e=>CX outer H s E e s'
structure FnOk (P:Program)(w:World)(K:PySem.W.Frag)(mg:Str->Option Value)(base:Heap)(CX:CXT)(k:Nat)(f:Addr)(fd:FuncData)(ps:List Str)(sp:Sp):Prop where
  len:∀vs H Q E,sp vs H Q E->vs.length=ps.length
  run:∀(A:Around) (outer:List Env) (s:Shared) (H:Hp) (args:Args) (us:List Value) (vs:List V) (Q:VK) (E:XK),Room k A->Env0 P w K mg base A outer s H->BindsTo s fd args (ps.zip us)->Vals vs us->sp vs H Q E->
    codeAny (model P w) A (.call (.ref f) args) (CR CX outer P w H s Q E) s
section
variable {X:Cx}{pins:List (Addr×Obj)}{σ:St}{H:Hp}{s s':Shared}
theorem Inv.env0 (I:Inv X pins σ H s):Env0 X.prog X.w X.K X.mg X.base X.A X.stack s H:=
  ⟨I.ok.frames,I.ok.mod,I.bs,Nat.le_trans I.ok.bsz I.sz,I.stack,I.stkFree,I.hok,I.bare⟩
theorem Inv.after {Q:VK}{u:Value}(I:Inv X pins σ H s)(h:CE X.stack X.prog X.w H s Q u s'):EP X pins σ Q u s':=by
  obtain⟨v,H',os,bare,un,hok,r,q⟩:=h
  obtain⟨hh,g,d,t,os'⟩:=s'
  obtain rfl:os'=s.os:=os
  exact⟨v,H',I.call (h':=hh) (g':=g) (d':=d) (t':=t) (ch:=[]) un hok bare (fun b z=>absurd z (by simp)),r,q⟩
end
def ce (sp:Sp)(dvs:List V)(E:XK)(t:TA):TE:=fun σ H Q=>t σ H fun vs H1=>sp (vs++dvs) H1 Q E
def Binds (K:PySem.W.Frag)(fd:FuncData)(ps:List Str)(ds:List Value):Prop:=
  ∀(s:Shared) (us:List Value),K.In s.heap->(us++ds).length=ps.length->BindsTo s fd ⟨us,[]⟩ (ps.zip (us++ds))
theorem Binds.all {K:PySem.W.Frag}{fd:FuncData}{ps:List Str}(h:∀us:List Value,us.length=ps.length->bindArgs fd ⟨us,[]⟩=pure (ps.zip us)):Binds K fd ps []:=fun s us _ hl=>by
  rw[List.append_nil] at hl ⊢
  exact .of_eq (h us hl)
def mh (CX:CXT)(X:Cx)(E:XK):Prop:=∀(pins:List (Addr×Obj)) (σ:St) (H:Hp) (s:Shared) (e:Value) (s':Shared),Inv X pins σ H s->CX X.stack H s E e s'->X.xe e s'
section
variable {X:Cx}{CX:CXT}{k:Nat}{f C:Addr}{fd:FuncData}{ps:List Str}{sp:Sp}{dvs:List V}{ds:List Value}{E:XK}{x m:Str}{p pos apos:Pos}{e o:Expr}{es:List Expr}{ta:TE}{t:TA}
theorem sD {pins:List (Addr×Obj)}{σ:St}{H:Hp}{s:Shared}{Q:VK}{us:List Value}{vs:List V}(F:FnOk X.prog X.w X.K X.mg X.base CX k f fd ps sp)(hr:Room k X.A)(hb:Binds X.K fd ps ds)(hd:Vals dvs ds)(hx:mh CX X E)
    (I:Inv X pins σ H s) (r:Vals vs us) (h:sp (vs++dvs) H Q E):wpAny (model X.prog X.w) X.A (call (.ref f) us) (EP X pins σ Q) X.xe s:=by
  have r2:Vals (vs++dvs) (us++ds):=r.append hd
  have hl:(us++ds).length=ps.length:=by rw[←r2.length];exact F.len _ _ _ _ h
  refine wpAny_call (codeAny_mono (F.run X.A X.stack s H ⟨us,[]⟩ (us++ds) (vs++dvs) Q E hr I.env0 (hb s us I.kIn hl) r2 h) fun r s' hq=>?_)
  cases r with
  | error e=>exact hx pins σ H s e s' I hq
  | ok fl=>
    cases fl with
    | ret u=>exact I.after hq
    | next=>exact False.elim hq
    | brk=>exact False.elim hq
    | cont=>exact False.elim hq
theorem vf (F:FnOk X.prog X.w X.K X.mg X.base CX k f fd ps sp)(hr:Room k X.A)(hg:Gl X x)(hm:X.mg x=some (.ref f))(hk:PySem.W.keepIn X.K (.ref f)=true)(hb:Binds X.K fd ps ds)(hd:Vals dvs ds)(hx:mh CX X E)
    (ha:PA X (e::es) t) (hdb:(x == ("__debug__" : Str))=false:=by decide) (he:starEach (e::es) X.env=(false,eval e X.env)::starEach es X.env:=by rfl) (hpl:(backTo pos (starEach es X.env)).any (·.1)=false:=by rfl) :
    PE X (.Call (.Name x p) (e::es) [] pos) (ce sp dvs E t):=by
  intro pins s σ H Q I h
  refine wpAny_Call_Name_kw (qb I hg hm ?_ hdb)
  refine PySem.W.callWith_K (h₀:=X.base) I.ok.mod.kin hk (thn (ha pos pins s σ H _ I h) fun us s1 ⟨vs,H1,I1,r,q⟩=>⟨I1.kIn,?_⟩) he hpl
  exact sD F hr hb hd hx I1 r q
end
structure FnScope (N P:List Str)(sc:Scope):Prop where
  kind:sc.kind=.function
  co:sc.isCoroutine=false
  gen:sc.isGenerator=false
  nd:N.Nodup
  pre:N.take P.length=P
  par:∀x∈P,sc.names.lookup x=some .local∨sc.names.lookup x=some .cell
  nofree:∀y∈sc.names,y.2≠.free
theorem kW {kindOf:Str->Option NameKind}{x:Str}:∀{binds:List (Str×Value)} {m:Str->Option Value},(∀v,(x,v)∉binds)->bindL kindOf binds m x=m x
  | [],_,_=>rfl
  | (n,v)::r,m,h=>by
    unfold bindL
    rw[kW fun w hw=>h w (List.mem_cons_of_mem _ hw)]
    split
    · have:x≠n:=by rintro rfl;exact h v List.mem_cons_self
      simp[this]
    · rfl
theorem kY {kindOf:Str->Option NameKind}{x:Str}:∀{binds:List (Str×Value)} {m:Str->Option Value},(∀v,(x,v)∉binds)->bindC kindOf binds m x=m x
  | [],_,_=>rfl
  | (n,v)::r,m,h=>by
    unfold bindC
    rw[kY fun w hw=>h w (List.mem_cons_of_mem _ hw)]
    split
    · rfl
    · have:x≠n:=by rintro rfl;exact h v List.mem_cons_self
      simp[this]
theorem kX {kindOf:Str->Option NameKind}{x:Str}{v:Value}:∀{P:List Str} {vs:List Value} {i:Nat} {m:Str->Option Value},P.Nodup->P[i]?=some x->vs[i]?=some v->kindOf x=some .local->
    bindL kindOf (P.zip vs) m x=some v
  | [],_,_,_,_,h,_,_=>by simp at h
  | _::_,[],_,_,_,_,h,_=>by simp at h
  | p::P,w::vs,0,m,nd,h1,h2,hk=>by
    simp at h1 h2;subst h1;subst h2
    show bindL kindOf ((p,w)::P.zip vs) m p=_
    unfold bindL
    rw[kW fun v hv=>(List.nodup_cons.mp nd).1 (List.of_mem_zip hv).1,if_pos hk]
    simp
  | p::P,w::vs,i+1,m,nd,h1,h2,hk=>by
    show bindL kindOf ((p,w)::P.zip vs) m x=_
    unfold bindL
    exact kX (i:=i) (List.nodup_cons.mp nd).2 (by simpa using h1) (by simpa using h2) hk
theorem kZ {kindOf:Str->Option NameKind}{x:Str}{v:Value}:∀{P:List Str} {vs:List Value} {i:Nat} {m:Str->Option Value},P.Nodup->P[i]?=some x->vs[i]?=some v->kindOf x≠some .local->
    bindC kindOf (P.zip vs) m x=some v
  | [],_,_,_,_,h,_,_=>by simp at h
  | _::_,[],_,_,_,_,h,_=>by simp at h
  | p::P,w::vs,0,m,nd,h1,h2,hk=>by
    simp at h1 h2;subst h1;subst h2
    show bindC kindOf ((p,w)::P.zip vs) m p=_
    unfold bindC
    rw[kY fun v hv=>(List.nodup_cons.mp nd).1 (List.of_mem_zip hv).1,if_neg hk]
    simp
  | p::P,w::vs,i+1,m,nd,h1,h2,hk=>by
    show bindC kindOf ((p,w)::P.zip vs) m x=_
    unfold bindC
    exact kZ (i:=i) (List.nodup_cons.mp nd).2 (by simpa using h1) (by simpa using h2) hk
def start (N:List Str)(vs:List V):St:=vs.map some++List.replicate (N.length - vs.length) none
def o0 (CX:CXT)(P:Program)(w:World)(K:PySem.W.Frag)(mg:Str->Option Value)(base:Heap)(N:List Str)(qual:Str)(scope:Scope)(f:Addr)(cd:Value)(A:Around)(outer:List Env)(s:Shared)(H:Hp)(E:XK):Cx where
  prog:=P
  w:=w
  K:=K
  mg:=mg
  base:=base
  A:=A.deeper (envOfC qual scope s.heap.objs.size f cd)
  N:=N
  s₀:=s
  H₀:=H
  env:=envOfC qual scope s.heap.objs.size f cd
  outer:=outer
  stack:=envOfC qual scope s.heap.objs.size f cd::outer
  ex:=[]
  calm:=true
  fn:=fun _=>true
  pn:=[]
  xe:=fun e s'=>wpAny (model P w) (A.deeper (envOfC qual scope s.heap.objs.size f cd)) (leaving (envOfC qual scope s.heap.objs.size f cd) e) (fun _ s''=>CX outer H s E e s'') (fun e' s''=>CX outer H s E e' s'') s'
theorem nJ {sc:Scope}{n:Nat}{x:Str}(h:sc.names.lookup x=some .cell):∃c,(cellsFrom n sc.names []).lookup x=some c:=by
  have q:=PySem.W.cellsFrom_some sc.names n [] (.inl h)
  exact Option.isSome_iff_exists.mp q
theorem rq {CX:CXT}{P:Program}{w:World}{K:PySem.W.Frag}{mg:Str->Option Value}{base:Heap}{N ps:List Str}{qual:Str}{scope:Scope}{f:Addr}{cd:Value}{A:Around}{outer:List Env}{s s1:Shared}{H:Hp}{E:XK}{us:List Value}{vs:List V}
    (S:FnScope N ps scope) (hd:A.handled=none) (e0:Env0 P w K mg base A outer s H) (hl:vs.length=ps.length) (r:Vals vs us)
    (x:InCallC s s.heap.objs.size (bindL (envOfC qual scope s.heap.objs.size f cd).kindOf (ps.zip us) fun _=>none) (cellsFrom (s.heap.objs.size+1) scope.names []) (bindC (envOfC qual scope s.heap.objs.size f cd).kindOf (ps.zip us) fun _=>none) s1) :
    Inv (o0 CX P w K mg base N qual scope f cd A outer s H E) [] (start N vs) H s1:=by
  have hpl:ps.length<=N.length:=by have:=congrArg List.length S.pre;rw[List.length_take] at this;omega
  obtain⟨h1,tk,rfl,hk⟩:=x.done
  have noA:∀b:Addr,b∉(o0 CX P w K mg base N qual scope f cd A outer s H E).ex:=fun b z=>absurd (show b∈([]:List Addr) from z) (by simp)
  refine⟨⟨e0.mod,S.kind,rfl,rfl,Nat.le_refl _,fun y z c h1 h2=>?_,fun y hy=>?_,fun y c _ h=>?_,fun _=>hd,Around.frames_deeper e0.frames,.inr ⟨rfl,rfl⟩,fun b z=>absurd z (noA b),e0.bs,e0.bsz,fun b _ _=>noA b,fun b z=>absurd z (noA b),e0.funs,e0.frf⟩,
    rfl,e0.bare,Un.kept hk,⟨_,x.toInCall.ns,fun i y v h1 h2 h3=>?_⟩,fun y c h=>⟨_,x.cell y c h⟩,e0.hok.fresh (Nat.le_refl _),fun y c h=>?_,fun p hp=>absurd (show p∈([]:List (Addr×Obj)) from hp) (by simp),e0.hok.kept hk,?_⟩
  · exact name_of_addr x.apart (PySem.mem_of_lookup h1) (PySem.mem_of_lookup h2)
  · have hy:scope.names.lookup y=some .cell∨scope.names.lookup y=some .free:=hy
    rcases hy with hy|hy
    · exact nJ hy
    · exact absurd rfl (S.nofree _ (PySem.mem_of_lookup hy))
  · exact Nat.le_of_lt (x.above y c (PySem.mem_of_lookup h))
  · have hi:i<vs.length:=by
      unfold start at h2
      by_cases hi:i<vs.length
      · exact hi
      · rw[List.getElem?_append_right (by simpa using hi)] at h2
        rw[List.getElem?_replicate] at h2
        split at h2 <;> cases h2
    have ha:vs[i]?=some v:=by
      unfold start at h2
      rw[List.getElem?_append_left (by simpa using hi),List.getElem?_map] at h2
      cases e:vs[i]? with
      | none=>rw[e] at h2;cases h2
      | some a=>rw[e] at h2;cases h2;rfl
    obtain⟨u,hu,rv⟩:=r.get ha
    have hp:ps[i]?=some y:=by
      rw[←S.pre,List.getElem?_take_of_lt (by omega)];exact h1
    have ndP:ps.Nodup:=by rw[←S.pre];exact S.nd.sublist (List.take_sublist _ _)
    refine⟨u,rv,?_⟩
    rcases S.par y (List.mem_of_getElem? hp) with k|k
    · exact .inl ⟨k,kX ndP hp hu k⟩
    · obtain⟨c,e⟩:=nJ (n:=s.heap.objs.size+1) k
      refine .inr ⟨.inl k,c,e,?_⟩
      have q:=x.cell y c e
      rw[kZ ndP hp hu (by show scope.names.lookup y≠_;rw[k];decide)] at q
      exact q
  · exact e0.hok.fresh (Nat.le_of_lt (x.above y c (PySem.mem_of_lookup h)))
  · unfold start
    show _=N.length
    rw[List.length_append,List.length_map,List.length_replicate]
    omega
theorem wa {CX:CXT}{P:Program}{w:World}{K:PySem.W.Frag}{mg:Str->Option Value}{base:Heap}{k:Nat}{f:Addr}{name qual:Str}{params:Arguments}{body:List Stmt}{scope:Scope}{dV kV doc pm cdv ct oc:Value}{an od:Option Addr}
    {osl:Array (Option Value)} {N ps:List Str} {sp:Sp} (lk:K.lookup f=some ⟨oc,od,.func (PySem.W.fnOf name qual params body scope dV kV doc pm an cdv ct),osl⟩) (hcd:PySem.W.codeIn K cdv qual=true) (S:FnScope N ps scope)
    (len:∀vs H Q E,sp vs H Q E->vs.length=ps.length)
    (hbody:∀(A:Around) (outer:List Env) (s:Shared) (H:Hp) (vs:List V) (Q:VK) (E:XK),Room k (A.deeper (envOfC qual scope s.heap.objs.size f cdv))->sp vs H Q E->
      ∃t,PSs (o0 CX P w K mg base N qual scope f cdv A outer s H E) body t/\t { nx:=fun _ H'=>Q .non H',rt:=Q } (start N vs) H) :
    FnOk P w K mg base CX (k+1) f (PySem.W.fnOf name qual params body scope dV kV doc pm an cdv ct) ps sp:=by
  refine⟨len,fun A outer s H args us vs Q E hr e0 hb r hsp=>?_⟩
  have hl:=len _ _ _ _ hsp
  have KX:K.In s.heap:=e0.mod.kin.keeps fun b o e=>(e0.bs b o e).1
  have lim:s.heap.NoLimit:=e0.mod.nolimit.keeps fun b o e=>(e0.bs b o e).1
  have hkind:∀y∈ps.zip us,scope.names.lookup y.1=some .local∨(scope.names.lookup y.1=some .cell/\((cellsFrom (s.heap.objs.size+1) scope.names []).lookup y.1).isSome=true):=fun ⟨n,v⟩ hy=>by
    rcases S.par n (List.of_mem_zip hy).1 with q|q
    · exact .inl q
    · exact .inr ⟨q,PySem.W.cellsFrom_some _ _ _ (.inl q)⟩
  refine codeAny_call_function hr.depth (KX _ _ lk) rfl S.co S.gen rfl (PySem.W.codeRec_of KX hcd) (hb _ _ _ _ ?_)
  refine wpAny_newFunctionEnv_cells S.kind hkind fun env he s1 x=>?_
  subst he
  refine⟨lim.keeps x.toInCall.keep,codeAny_func ?_⟩
  obtain⟨t,ht,hq⟩:=hbody A outer s H vs Q E (hr.deeper _) hsp
  have I:Inv (o0 CX P w K mg base N qual scope f cdv A outer s H E) [] (start N vs) H s1:=rq S hr.hd e0 hl r x
  refine wpAny_mono (ht [] s1 (start N vs) H _ I hq) (fun fl s' hs=>?_) fun e s' hs=>hs
  have fin:∀{σ':St} {H':Hp} {v:V} {u:Value},Inv (o0 CX P w K mg base N qual scope f cdv A outer s H E) [] σ' H' s'->RelV v u->Q v H'->CE outer P w H s Q u s':=
    fun {σ' H' v u} J rv q=>⟨v,H',J.os,J.bare,J.base,J.hok,rv,q⟩
  cases fl with
  | ret u=>
    obtain⟨v,σ',H',J,rv,q⟩:=hs
    exact fin J rv q
  | next=>
    obtain⟨σ',H',J,q⟩:=hs
    exact fin (v:=V.non) (u:=Value.none) J rfl q
  | brk=>
    obtain⟨_,_,_,q⟩:=hs
    exact False.elim q
  | cont=>
    obtain⟨_,_,_,q⟩:=hs
    exact False.elim q
section
variable {X:Cx}{x:Str}{p pos:Pos}{e:Expr}{es:List Expr}{t:TA}{id T:String}{r:List V->Hp->VK->Prop}
def tCB (r:List V->Hp->VK->Prop)(t:TA):TE:=fun σ H Q=>t σ H fun vs H1=>r vs H1 Q
theorem aY (hc:eM X (.builtin id) r)(hg:Gl X x)(hm:X.mg x=none)(hv:bootBuiltins x=some (.builtin id))(ha:PA X (e::es) t)(hn:x≠"__name__":=by decide)(hdb:(x == ("__debug__" : Str))=false:=by decide)
    (he:starEach (e::es) X.env=(false,eval e X.env)::starEach es X.env:=by rfl) (hpl:(backTo pos (starEach es X.env)).any (·.1)=false:=by rfl):PE X (.Call (.Name x p) (e::es) [] pos) (tCB r t):=by
  intro pins s σ H Q I h
  refine wpAny_Call_Name_kw (fI I hg hm hv ?_ hn hdb)
  exact PyProof.Rows.callWith_builtin1 (thn (ha pos pins s σ H _ I h) fun us s1 ⟨vs,H1,I1,r1,q1⟩=>hc pins s1 σ H1 vs us Q I1 r1 q1) he hpl
theorem cC (hc:eM X (.type T) r)(hg:Gl X x)(hm:X.mg x=none)(hv:bootBuiltins x=some (.type T))(ha:PA X (e::es) t)(hn:x≠"__name__":=by decide)(hdb:(x == ("__debug__" : Str))=false:=by decide)
    (he:starEach (e::es) X.env=(false,eval e X.env)::starEach es X.env:=by rfl) (hpl:(backTo pos (starEach es X.env)).any (·.1)=false:=by rfl):PE X (.Call (.Name x p) (e::es) [] pos) (tCB r t):=by
  intro pins s σ H Q I h
  refine wpAny_Call_Name_kw (fI I hg hm hv ?_ hn hdb)
  exact PyProof.Rows.callWith_type1 (thn (ha pos pins s σ H _ I h) fun us s1 ⟨vs,H1,I1,r1,q1⟩=>hc pins s1 σ H1 vs us Q I1 r1 q1) he hpl
end
end L2
namespace HT
open PySem PyProof.Rows
def lexLt:List Int->List Int->Bool
  | [],[]=>false
  | [],_::_=>true
  | _::_,[]=>false
  | x::xs,y::ys=>if x=y then lexLt xs ys else decide (x<y)
theorem lexLt_cons (x y:Int)(xs ys:List Int):lexLt (x::xs) (y::ys)=if x=y then lexLt xs ys else decide (x<y):=rfl
theorem lexLt_nil_nil:lexLt [] []=false:=rfl
section
variable {prog:Program}{w:World}{A:Around}{E:Value->Shared->Prop}{s:Shared}
def sIx (n d:Nat):Option Int->Nat
  | none=>d
  | some v=>if v<0 then (v+(n:Int)).toNat else min v.toNat n
theorem sIx_none (n d:Nat):sIx n d none=d:=rfl
theorem sIx_nat (n d k:Nat):sIx n d (some (k:Int))=min k n:=by
  show (if (k:Int)<0 then ((k:Int)+(n:Int)).toNat else min (k:Int).toNat n)=min k n
  rw[if_neg (by omega),Int.toNat_natCast]
theorem wy (n d:Nat)(hd:d<=n)(o:Option Int):sIx n d o<=n:=by
  cases o with
  | none=>exact hd
  | some v=>
    show (if v<0 then (v+(n:Int)).toNat else min v.toNat n)<=n
    by_cases hv:v<0
    · rw[if_pos hv];omega
    · rw[if_neg hv];exact Nat.min_le_right _ _
theorem qt (v:Int)(n d:Nat):(if v<0 then max (v+(n:Int)) 0 else min v (n:Int))=((sIx n d (some v):Nat):Int):=by
  show (if v<0 then max (v+(n:Int)) 0 else min v (n:Int))=(((if v<0 then (v+(n:Int)).toNat else min v.toNat n):Nat):Int)
  by_cases hv:v<0
  · simp only[if_pos hv];omega
  · simp only[if_neg hv];omega
theorem pe (lo hi:Option Int)(n:Nat):Builtin.Slice.sliceAdjust lo hi 1 (n:Int)=(((sIx n 0 lo:Nat):Int),((sIx n n hi:Nat):Int)):=by
  have h1:¬((1:Int)<0):=by omega
  unfold Builtin.Slice.sliceAdjust
  simp only[h1,if_false]
  refine Prod.ext ?_ ?_
  · cases lo with
    | none=>rfl
    | some v=>exact qt v n 0
  · cases hi with
    | none=>rfl
    | some v=>exact qt v n n
theorem ou (i j:Nat):Builtin.Slice.slicePlaces (i:Int) (j:Int) 1=j - i:=by
  unfold Builtin.Slice.slicePlaces
  have h1:(1:Int) > 0:=by omega
  simp only[h1,if_true,Int.ediv_one]
  split <;> omega
theorem slicePart_ {v:Value}{o:Option Int}{Q:Option Int->Shared->Prop}(p:IsPart v o)(h:Q o s):wpAny (model prog w) A (Builtin.Slice.slicePartIndex v) Q E s:=by
  cases p with
  | none=>exact slicePart_none h
  | int i t=>exact slicePart_int h
theorem iu {sl:Addr}{vl vu:Value}{lo hi:Option Int}{n:Nat}{Q:Int×Int×Nat->Shared->Prop}(hs:s.heap.IsSliceOf sl vl vu .none)(pl:IsPart vl lo)(pu:IsPart vu hi)
    (h:Q (((sIx n 0 lo:Nat):Int),1,sIx n n hi - sIx n 0 lo) s):wpAny (model prog w) A (Builtin.Slice.sliceApplied (.ref sl) (pure (n:Int))) Q E s:=by
  obtain⟨os,hos,hcs,hds⟩:=id hs
  unfold Builtin.Slice.sliceApplied Builtin.Slice.sliceFields
  refine wpAny_bind (wpAny_bind (wpAny_field hos hds (x:=vl) rfl (wpAny_bind (wpAny_field hos hds (x:=vu) rfl (wpAny_bind (wpAny_field hos hds (x:=.none) rfl (wpAny_pure ?_)))))))
  refine wpAny_bind (slicePart_none ?_)
  show wpAny _ _ (if ((1:Int) == 0)=true then _ else _) _ _ s
  rw[if_neg (by decide)]
  refine wpAny_bind (slicePart_ pl (wpAny_bind (slicePart_ pu (wpAny_bind (wpAny_pure ?_)))))
  show wpAny _ _ (match Builtin.Slice.sliceAdjust lo hi 1 (n:Int) with | (lo,hi)=>pure (lo,(1:Int),Builtin.Slice.slicePlaces lo hi 1)) _ _ s
  rw[pe lo hi n]
  show wpAny _ _ (pure (((sIx n 0 lo:Nat):Int),(1:Int),Builtin.Slice.slicePlaces ((sIx n 0 lo:Nat):Int) ((sIx n n hi:Nat):Int) 1)) _ _ s
  rw[ou]
  exact wpAny_pure h
theorem sW (xs:Array Value)(i k:Nat):((List.range k).filterMap fun (m:Nat)=>xs[((i:Int)+(m:Int)*1).toNat]?).toArray=((xs.toList.drop i).take k).toArray:=by
  have e:(fun (m:Nat)=>xs[((i:Int)+(m:Int)*1).toNat]?)=fun m=>xs[i+m]?:=by
    funext m
    have:((i:Int)+(m:Int)*1).toNat=i+m:=by omega
    rw[this]
  rw[e]
  have:=pick_run xs i k
  rw[List.filterMap_map] at this
  have e2:((fun x=>xs[x]?)∘fun x=>i+x)=fun m=>xs[i+m]?:=rfl
  rw[e2] at this
  rw[this]
theorem getItem_tuple_cut {t sl:Addr}{items:Array Value}{vl vu:Value}{lo hi:Option Int}{Q:Value->Shared->Prop}(ht:IsTup s.heap t items)(hs:s.heap.IsSliceOf sl vl vu .none)(pl:IsPart vl lo)(pu:IsPart vu hi)
    (hw:¬(sIx items.size 0 lo=0/\sIx items.size items.size hi=items.size))
    (h:Q (.ref s.heap.objs.size) { s with heap:=s.heap.push { cls:=.type "tuple",data:=.seq ((items.toList.drop (sIx items.size 0 lo)).take (sIx items.size items.size hi - sIx items.size 0 lo)).toArray } })
    (hsz:items.size<=sizeLine):wpAny (model prog w) A (getItem (.ref t) (.ref sl)) Q E s:=by
  have htake:sizeOk (.seq ((items.toList.drop (sIx items.size 0 lo)).take (sIx items.size items.size hi - sIx items.size 0 lo)).toArray):=by
    show ((items.toList.drop (sIx items.size 0 lo)).take (sIx items.size items.size hi - sIx items.size 0 lo)).toArray.size<=sizeLine
    rw[List.size_toArray,List.length_take,List.length_drop,Array.length_toList]
    omega
  have hj:sIx items.size items.size hi<=items.size:=wy _ _ (Nat.le_refl _) hi
  obtain⟨os,hos,hcs,hds⟩:=id hs
  have hTs:s.TypeIs (.ref sl) "slice":=⟨os,hos,hcs⟩
  unfold getItem
  try with_reducible refine wpAny_holding ?_
  first | refine wpAny_bind (wpAny_pure ?_) | skip
  refine wpAny_bind (wpAny_sequenceKey ht.typeIs (by decide) ?_)
  refine wpAny_bind (wpAny_callSpecial?_slot (name:=Str.ofString "__getitem__") ht.typeIs PyProof.Rows.slot_tuple_getitem
    (wpAny_call_entry PyProof.Rows.slot_tuple_getitem ht.typeIs entry_tuple_getitem ?_ (args_tuple_getitem _ _)))
  show wpAny _ _ (Builtin.Tuple.tupleItemsOf (.ref t) >>= _) _ _ s
  refine wpAny_bind (tupleItemsOf_ ht ?_)
  refine wpAny_bind (wpAny_typeOf hTs ?_)
  rw[if_pos (by decide)]
  refine wpAny_bind (iu hs pl pu ?_)
  have hno:¬((((sIx items.size 0 lo:Nat):Int) == 0 && (1:Int) == 1 && (sIx items.size items.size hi - sIx items.size 0 lo) == items.size)=true):=by
    intro q
    rw[Bool.and_eq_true,Bool.and_eq_true] at q
    have q1:((sIx items.size 0 lo:Nat):Int)=0:=eq_of_beq q.1.1
    have q2:sIx items.size items.size hi - sIx items.size 0 lo=items.size:=eq_of_beq q.2
    exact hw ⟨by omega,by omega⟩
  show wpAny _ _ (if (((sIx items.size 0 lo:Nat):Int) == 0 && (1:Int) == 1 && (sIx items.size items.size hi - sIx items.size 0 lo) == items.size)=true then _ else _) _ _ s
  rw[if_neg hno,sW]
  first
    | exact wpAny_bind (m:=Builtin.Tuple.tupleExact _) (wpAny_newObj_type (wpAny_pure ⟨_,rfl,wpAny_pure h⟩) htake)
    | exact wpAny_bind (m:=Builtin.Tuple.tupleExact _) (wpAny_newObj_type (wpAny_bind (wpAny_pure (wpAny_pure ⟨_,rfl,wpAny_pure h⟩))) htake)
    | exact wpAny_bind (wpAny_bind (m:=Builtin.Tuple.tupleExact _) (wpAny_newObj_type (wpAny_pure (wpAny_pure ⟨_,rfl,wpAny_pure h⟩)) htake))
    | exact wpAny_bind (wpAny_bind (m:=Builtin.Tuple.tupleExact _) (wpAny_newObj_type (wpAny_pure ⟨_,rfl,wpAny_pure h⟩) htake))
end
end HT
namespace L2
open PySem PySem.Spec PyProof.Rows
abbrev TO:=St->Hp->(Option Int->Hp->Prop)->Prop
def PO (X:Cx)(e:Option Expr)(t:TO):Prop:=
  ∀(pins:List (Addr×Obj)) (s:Shared) (σ:St) (H:Hp) (Q:Option Int->Hp->Prop),Inv X pins σ H s->t σ H Q->
    wpAny (model X.prog X.w) X.A (evalPart e X.env) (fun u s'=>∃o H',Inv X pins σ H' s'/\IsPart u o/\Q o H') X.xe s
def eG:TO:=fun _ H Q=>Q none H
def iL (t:TE):TO:=fun σ H Q=>t σ H fun x H1=>∃i,x=.int i/\Q (some i) H1
theorem oR {ns:List Int}:∀{us:List Value},Vals (ns.map V.int) us->IntsAre us ns:=by
  induction ns with
  | nil=>intro us r;rw[List.map_nil] at r;cases r;exact .nil
  | cons n ns ih=>
    intro us r
    rw[List.map_cons] at r
    cases r with
    | cons r1 r2=>
      obtain⟨t,e⟩:=r1
      subst e
      exact .cons n t (ih r2)
section
variable {X:Cx}{e:Expr}{te:TE}{lo hi:Option Expr}{tl th:TO}{pos p2:Pos}
theorem cw:PO X none eG:=by
  intro pins s σ H Q I h
  rw[evalPart_none]
  exact wpAny_pure ⟨none,H,I,.none,h⟩
theorem cE (h:PE X e te):PO X (some e) (iL te):=by
  intro pins s σ H Q I hw
  rw[evalPart_some]
  refine thn (h pins s σ H _ I hw) fun u s1 ⟨x,H1,I1,r1,q1⟩=>?_
  obtain⟨i,rfl,q⟩:=q1
  obtain⟨t,rfl⟩:=r1
  exact⟨some i,H1,I1,.int i t,q⟩
def SlR (X:Cx)(r:V->Option Int->Option Int->Hp->VK->Prop):Prop:=
  ∀(pins:List (Addr×Obj)) (s:Shared) (σ:St) (H:Hp) (x:V) (v vl vu:Value) (lo hi:Option Int) (sl:Addr) (Q:VK),Inv X pins σ H s->RelV x v->s.heap.IsSliceOf sl vl vu .none->IsPart vl lo->IsPart vu hi->r x lo hi H Q->
    ∃T id,typeLookup (.type T) "__getitem__" = pure (some (.builtin id))/\s.TypeIs v T/\wpAny (model X.prog X.w) X.A (getItem v (.ref sl)) (EP X pins σ Q) X.xe s
def tSl (r:V->Option Int->Option Int->Hp->VK->Prop)(te:TE)(tl th:TO):TE:=fun σ H Q=>te σ H fun x H1=>tl σ H1 fun l H2=>th σ H2 fun u H3=>r x l u H3 Q
theorem eu {r:V->Option Int->Option Int->Hp->VK->Prop}(hr:SlR X r)(he:PE X e te)(hl:PO X lo tl)(hu:PO X hi th):PE X (.Subscript e (.Slice lo hi none p2) pos) (tSl r te tl th):=by
  intro pins s σ H Q I h
  refine Subscript_ (thn (he pins s σ H _ I h) fun v s1 ⟨x,H1,I1,r1,q1⟩=>?_)
  refine wpAny_Slice (thn (hl pins s1 σ H1 _ I1 q1) fun vl s2 ⟨l,H2,I2,pl,q2⟩=>thn (hu pins s2 σ H2 _ I2 q2) fun vu s3 ⟨u,H3,I3,pu,q3⟩=>?_)
  rw[evalPart_none]
  refine wpAny_pure ?_
  have I4:Inv X pins σ H3 { s3 with heap:=s3.heap.push { cls:=.type "slice",data:=.fields #[vl,vu,.none] } }:=I3.kept (t':=s3.toks) fun b ob q=>Heap.get?_push_of_some _ q
  obtain⟨T,id,hT,ht,hg⟩:=hr pins { s3 with heap:=s3.heap.push { cls:=.type "slice",data:=.fields #[vl,vu,.none] } } σ H3 x v vl vu l u s3.heap.objs.size Q I4 r1 (Heap.IsSliceOf.new ..) pl pu q3
  show wpAny (model X.prog X.w) X.A (subscriptTail e (.Slice lo hi none p2) v (.ref s3.heap.objs.size)) (EP X pins σ Q) X.xe { s3 with heap:=s3.heap.push { cls:=.type "slice",data:=.fields #[vl,vu,.none] } }
  exact tail_any (ops:=[.ref s3.heap.objs.size,v]) ht hT hg (by with_unfolding_all rfl)
def iI (xs:List V)(lo hi:Option Int):List V:=(xs.drop (HT.sIx xs.length 0 lo)).take (HT.sIx xs.length xs.length hi - HT.sIx xs.length 0 lo)
theorem iZ (xs:List V)(lo hi:Option Int):(iI xs lo hi).length<=xs.length:=by
  unfold iI
  rw[List.length_take,List.length_drop]
  omega
def xi (K:PySem.W.Frag):V->Option Int->Option Int->Hp->VK->Prop:=fun x lo hi H Q=>∃a xs,x=.ref a/\SqT K H a xs/\
  ¬(HT.sIx xs.length 0 lo=0/\HT.sIx xs.length xs.length hi=xs.length)/\∀p,H p=none->Q (.ref p) (upd H p (.tup (iI xs lo hi)))
theorem lG:SlR X (xi X.K):=by
  intro pins s σ H x v vl vu lo hi sl Q I rx hs pl pu h
  obtain⟨a,xs,rfl,hx,hw,q⟩:=h
  cases rx
  obtain⟨its,r,ht,hz⟩:=I.tuple hx
  have hlen:its.toArray.size=xs.length:=by rw[List.size_toArray];exact r.length.symm
  refine⟨"tuple",_,PyProof.Rows.slot_tuple_getitem.lookup,ht.typeIs,?_⟩
  refine HT.getItem_tuple_cut ht hs pl pu (by rw[hlen];exact hw) ?_ (by rw[hlen];exact hz)
  rw[hlen]
  refine⟨.ref s.heap.objs.size,_,I.laid (t':=s.toks) (o:=.tup (iI xs lo hi)) (fun b ob q=>Heap.get?_push_of_some _ q) (Nat.le_refl _) ?_,rfl,q _ (I.hok.fresh (Nat.le_refl _))⟩
  exact⟨Nat.le_trans (iZ xs lo hi) hz,_,(r.drop (HT.sIx xs.length 0 lo)).take (HT.sIx xs.length xs.length hi - HT.sIx xs.length 0 lo),IsTup.new _ _⟩
end
def ixN (n:Nat)(i:Int):Option Nat:=if 0<=i then (if i<n then some i.toNat else none) else if -(n:Int)<=i then some (i+n).toNat else none
def atI {α:Type}(xs:List α)(i:Int):Option α:=(ixN xs.length i).bind fun j=>xs[j]?
theorem qe {n:Nat}{i:Int}{j:Nat}(h:ixN n i=some j):seqIndex? i n=some j/\j<n/\-(n:Int)<=i/\i<n:=by
  unfold ixN at h
  by_cases h0:0<=i
  · rw[if_pos h0] at h
    by_cases h1:i<n
    · rw[if_pos h1] at h
      have e:i.toNat=j:=Option.some.inj h
      exact⟨by rw[seqIndex_of h0 h1,e],by omega,by omega,h1⟩
    · rw[if_neg h1] at h;cases h
  · rw[if_neg h0] at h
    by_cases h1 : -(n:Int)<=i
    · rw[if_pos h1] at h
      have e:(i+n).toNat=j:=Option.some.inj h
      exact⟨by rw[seqIndex_neg (by omega) h1,e],by omega,h1,by omega⟩
    · rw[if_neg h1] at h;cases h
theorem me {α:Type}{xs:List α}{i:Int}{v:α}(h:atI xs i=some v):∃j,seqIndex? i xs.length=some j/\xs[j]?=some v/\j<xs.length/\-(xs.length:Int)<=i/\i<xs.length:=by
  unfold atI at h
  cases e:ixN xs.length i with
  | none=>rw[e] at h;cases h
  | some j=>
    rw[e] at h
    obtain⟨h1,h2,h3,h4⟩:=qe e
    exact⟨j,h1,h,h2,h3,h4⟩
theorem bA {α:Type}{xs:List α}{j:Nat}{v:α}(h:xs[j]?=some v):atI xs (j:Int)=some v:=by
  have hj:j<xs.length:=(List.getElem?_eq_some_iff.mp h).1
  have e:ixN xs.length (j:Int)=some j:=by
    unfold ixN
    rw[if_pos (by omega),if_pos (by omega)];simp
  unfold atI;rw[e];exact h
theorem uE {α:Type}(xs:List α)(v:α):atI (xs++[v]) (-1)=some v:=by
  have hl:(xs++[v]).length=xs.length+1:=by simp
  have e:ixN (xs++[v]).length (-1)=some xs.length:=by
    unfold ixN
    rw[hl,if_neg (by decide),if_pos (by omega)]
    congr 1
    omega
  unfold atI
  rw[e]
  show (xs++[v])[xs.length]?=some v
  simp
def vQ (b:Expr):Prop:=∀o i,subscripted b false o i=operate [o,i] (getItem o i)
def IxR (X:Cx)(r:R2):Prop:=
  ∀(value slice:Expr) (pins:List (Addr×Obj)) (s:Shared) (σ:St) (H:Hp) (x y:V) (v u:Value) (Q:VK),Inv X pins σ H s->RelV x v->RelV y u->r x y H Q->
    subscripted slice false v u=operate [v,u] (getItem v u)->wpAny (model X.prog X.w) X.A (subscriptTail value slice v u) (EP X pins σ Q) X.xe s
def MtR (X:Cx)(id:String)(r:V->List V->Hp->VK->Prop):Prop:=
  ∀(pins:List (Addr×Obj)) (s:Shared) (σ:St) (H:Hp) (x:V) (xs:List V) (v:Value) (us:List Value) (Q:VK),Inv X pins σ H s->RelV x v->Vals xs us->r x xs H Q->
    wpAny (model X.prog X.w) X.A (call (.builtin id) (v::us)) (EP X pins σ Q) X.xe s
section
variable {X:Cx}{a b:Expr}{ta tb:TE}{pos:Pos}
theorem au {r:R2}(hr:IxR X r)(ha:PE X a ta)(hb:PE X b tb)(hs:vQ b):PE X (.Subscript a b pos) (tOp r ta tb):=by
  intro pins s σ H Q I h
  exact Subscript_ (wX ha hb I h fun v u s2 x y H2 I2 rx ry q=>hr a b pins s2 σ H2 x y v u Q I2 rx ry q (hs _ _))
def iE (K:PySem.W.Frag):R2:=fun x y H Q=>∃p xs i v,x=.ref p/\y=.int i/\SqL K H p xs/\atI xs i=some v/\Q v H
def wA (K:PySem.W.Frag):R2:=fun x y H Q=>∃p xs i v,x=.ref p/\y=.int i/\SqT K H p xs/\atI xs i=some v/\Q v H
theorem aI:IxR X (iE X.K):=by
  intro value slice pins s σ H x y v u Q I rx ry h hs
  obtain⟨p,xs,i,z,rfl,rfl,hq,he,q⟩:=h
  cases rx
  obtain⟨t,rfl⟩:=ry
  obtain⟨its,r,pl,hz⟩:=I.list hq
  obtain⟨j,h1,h2,h3,h4,h5⟩:=me he
  obtain⟨w,ew,rw'⟩:=r.get h2
  have hl:=r.length
  have hn:=iH
  have fin:EP X pins σ Q w s:=⟨z,H,I,rw',q⟩
  by_cases h0:0<=i
  · have hj:i.toNat=j:=by
      rw[seqIndex_of h0 h5] at h1
      exact Option.some.inj h1
    exact item_listR pl.isList h0 (by omega) (by rw[hj];simpa using ew) fin hs
  · have hj:(i+(its.toArray.size:Int)).toNat=j:=by
      rw[seqIndex_neg (by omega) h4] at h1
      rw[List.size_toArray,←hl]
      exact Option.some.inj h1
    exact subscriptTail_builtinR (x:=w) pl.isList.typeIs slot_list_getitem.lookup
      (wpAny_getItem_list_neg (Q:=fun r s'=>r=w/\EP X pins σ Q r s') pl.isList (by omega) (by rw[List.size_toArray] <;> omega) (by omega) (by rw[hj];simpa using ew) ⟨rfl,fin⟩) hs
theorem ax:IxR X (wA X.K):=by
  intro value slice pins s σ H x y v u Q I rx ry h hs
  obtain⟨p,xs,i,z,rfl,rfl,hq,he,q⟩:=h
  cases rx
  obtain⟨t,rfl⟩:=ry
  obtain⟨its,r,pl,hz⟩:=I.tuple hq
  obtain⟨j,h1,h2,h3,h4,h5⟩:=me he
  obtain⟨w,ew,rw'⟩:=r.get h2
  have hl:=r.length
  have hn:=iH
  have fin:EP X pins σ Q w s:=⟨z,H,I,rw',q⟩
  exact subscriptTail_builtinR (x:=w) pl.typeIs slot_tuple_getitem.lookup
    (getItem_tuple (j:=j) (Q:=fun r s'=>r=w/\EP X pins σ Q r s') pl (by omega) (by omega) (by rw[List.size_toArray,←hl];exact h1) (by simpa using ew) ⟨rfl,fin⟩) hs
theorem oN (its:List Value)(n j:Nat)(u:Value):Obj.mapSeq (·.setIfInBounds j u) { cls:=.type "list",data:=.seq its.toArray n }={ cls:=.type "list",data:=.seq (its.set j u).toArray n }:=by
  simp[Obj.mapSeq]
theorem Inv.lst {pins:List (Addr×Obj)}{σ:St}{H:Hp}{s:Shared}{p:Addr}{xs:List V}(I:Inv X pins σ H s)(h:H p=some (.lst xs)) :
    ∃(its:List Value) (n:Nat),Vals xs its/\s.heap.get? p=some { cls:=.type "list",data:=.seq its.toArray n }/\xs.length<=sizeLine:=by
  obtain⟨z,its,n,r,e⟩:=I.hok p _ h
  exact⟨its,n,r,e,z⟩
theorem Inv.lstUpd {pins:List (Addr×Obj)}{σ:St}{H:Hp}{s:Shared}{p:Addr}{xs ys:List V}{its its':List Value}{n n':Nat}{f:Obj->Obj}(I:Inv X pins σ H s)(h:H p=some (.lst xs))
    (ho:s.heap.get? p=some { cls:=.type "list",data:=.seq its.toArray n }) (hf:f { cls:=.type "list",data:=.seq its.toArray n }={ cls:=.type "list",data:=.seq its'.toArray n' }) (r:Vals ys its') (hz:ys.length<=sizeLine) (t:Nat) :
    Inv X pins σ (upd H p (.lst ys)) { s with heap:=s.heap.update p f,toks:=t }:=by
  have e:(s.heap.update p f).get? p=some { cls:=.type "list",data:=.seq its'.toArray n' }:=by
    rw[Heap.get?_update_self f ho (by rw[hf] <;> rfl),hf]
  refine I.write (x:=p) (e:=p) (by rw[h];trivial) (.inl rfl) (fun b u hb q=>(Heap.get?_update_other _ _ (Ne.symm hb)).trans q) ⟨_,e⟩ ?_
  exact⟨hz,its',n',r,e⟩
def pP:V->V->V->Hp->(Hp->Prop)->Prop:=fun o i v H Q=>∃p xs k j,o=.ref p/\i=.int k/\H p=some (.lst xs)/\ixN xs.length k=some j/\Q (upd H p (.lst (xs.set j v)))
theorem da:w6 X pP:=by
  intro pins s σ H o i v ov iv u Q I ro ri rv h
  obtain⟨p,xs,k,j,rfl,rfl,hp,hj,q⟩:=h
  cases ro
  obtain⟨t,rfl⟩:=ri
  obtain⟨its,n,r,ho,hz⟩:=I.lst hp
  obtain⟨h1,h2,h3,h4⟩:=qe hj
  have hl:=r.length
  have hn:=iH
  have I':Inv X pins σ (upd H p (.lst (xs.set j v))) { s with heap:=s.heap.update p (Obj.mapSeq (·.setIfInBounds j u)) }:=
    I.lstUpd hp ho (oN its n j u) (r.set rv j) (by rw[List.length_set];exact hz) s.toks
  by_cases h0:0<=k
  · have hk:k.toNat=j:=by
      rw[seqIndex_of h0 h4] at h1
      exact Option.some.inj h1
    exact PySem.W.ki_setAt ho h0 (by omega) (by rw[List.size_toArray,←hl];exact h4) (by rw[hk];exact⟨_,I',q⟩)
  · have hk:(k+(its.toArray.size:Int)).toNat=j:=by
      rw[seqIndex_neg (by omega) h3] at h1
      rw[List.size_toArray,←hl]
      exact Option.some.inj h1
    exact PySem.W.ki_setBack ho (by omega) (by rw[List.size_toArray,←hl];exact h3) (by omega) (by rw[hk];exact⟨_,I',q⟩)
theorem lF (lo hi:Option Int)(n:Nat):(sliceBounds lo hi none n).1=((HT.sIx n 0 lo:Nat):Int)/\(sliceBounds lo hi none n).2.1=((HT.sIx n n hi:Nat):Int)/\(sliceBounds lo hi none n).2.2=1:=by
  refine⟨?_,?_,rfl⟩
  · cases lo with
    | none=>simp[sliceBounds,HT.sIx]
    | some i=>
      simp only[sliceBounds,HT.sIx,Option.getD_none,show (1:Int) > 0 by decide,if_true]
      by_cases h:i<0
      · simp only[h,if_true] <;> omega
      · simp only[h,if_false] <;> omega
  · cases hi with
    | none=>simp[sliceBounds,HT.sIx]
    | some i=>
      simp only[sliceBounds,HT.sIx,Option.getD_none,show (1:Int) > 0 by decide,if_true]
      by_cases h:i<0
      · simp only[h,if_true] <;> omega
      · simp only[h,if_false] <;> omega
theorem j7 (its:List Value)(lo hi:Option Int):slicePick its.toArray lo hi none=((its.drop (HT.sIx its.length 0 lo)).take (HT.sIx its.length its.length hi - HT.sIx its.length 0 lo)).toArray:=by
  obtain⟨h1,h2,h3⟩:=lF lo hi its.toArray.size
  unfold slicePick
  rw[h1,h2,h3]
  simp only[sliceRange_one,pick_run,List.size_toArray] <;> rfl
def xk (K:PySem.W.Frag):V->Option Int->Option Int->Hp->VK->Prop:=fun x lo hi H Q=>∃a xs,x=.ref a/\SqL K H a xs/\∀p,H p=none->Q (.ref p) (upd H p (.lst (iI xs lo hi)))
theorem lH:SlR X (xk X.K):=by
  intro pins s σ H x v vl vu lo hi sl Q I rx hs pl pu h
  obtain⟨a,xs,rfl,hx,q⟩:=h
  cases rx
  obtain⟨its,r,ht,hz⟩:=I.list hx
  have hlen:=r.length
  refine⟨"list",_,slot_list_getitem.lookup,ht.isList.typeIs,?_⟩
  refine wpAny_getItem_list_slice ht.isList hs pl pu .none (by simp) ?_ (by rw[List.size_toArray] <;> omega)
  rw[j7,←hlen]
  refine⟨.ref s.heap.objs.size,_,I.laid (t':=s.toks) (o:=.lst (iI xs lo hi)) (fun b ob q=>Heap.get?_push_of_some _ q) (Nat.le_refl _) ?_,rfl,q _ (I.hok.fresh (Nat.le_refl _))⟩
  exact⟨Nat.le_trans (iZ xs lo hi) hz,_,0,(r.drop (HT.sIx xs.length 0 lo)).take (HT.sIx xs.length xs.length hi - HT.sIx xs.length 0 lo),Heap.get?_push_size _ rfl⟩
theorem aS:eM X (.builtin "len") (fun xs H Q=>∃p ys,xs=[.ref p]/\(SqL X.K H p ys∨SqT X.K H p ys)/\Q (.int ys.length) H):=by
  intro pins s σ H xs us Q I r h
  obtain⟨p,ys,rfl,hq,q⟩:=h
  obtain⟨u,rfl,rx⟩:=fL r
  cases rx
  have hn:=iH
  rcases hq with hq|hq
  · obtain⟨its,r',pl,hz⟩:=I.list hq
    have hlen:=r'.length
    exact Calls.call_len_list pl.isList (by simp only[List.size_toArray] <;> omega) ⟨.int ys.length,H,I.tok _,⟨s.toks+1,by rw[List.size_toArray,hlen]⟩,q⟩
  · obtain⟨its,r',pl,hz⟩:=I.tuple hq
    have hlen:=r'.length
    exact len_tuple pl (by simp only[List.size_toArray] <;> omega) ⟨.int ys.length,H,I.tok _,⟨s.toks+1,by rw[List.size_toArray,hlen]⟩,q⟩
theorem fK:eM X (.type "list") (fun xs H Q=>∃p ys,xs=[.ref p]/\(SqL X.K H p ys∨SqT X.K H p ys)/\∀l,H l=none->Q (.ref l) (upd H l (.lst ys))):=by
  intro pins s σ H xs us Q I r h
  obtain⟨p,ys,rfl,hq,q⟩:=h
  obtain⟨u,rfl,rx⟩:=fL r
  cases rx
  have fin:∀(its:List Value),Vals ys its->ys.length<=sizeLine->∀(h':Heap) (c':Nat),(∀b o',s.heap.get? b=some o'->h'.get? b=some o')->
      h'.get? s.heap.objs.size=some { cls:=.type "list",dict:=none,data:=.seq its.toArray c',slots:=#[] }->EP X pins σ Q (.ref s.heap.objs.size) { s with heap:=h' }:=fun its r' hz h' c' kp e=>
    ⟨.ref s.heap.objs.size,_,I.laid (t':=s.toks) kp (Nat.le_refl _) (show ObjOk X.prog X.w _ h' _ (.lst ys) from ⟨hz,its,c',r',e⟩),rfl,q _ (I.hok.fresh (Nat.le_refl _))⟩
  rcases hq with hq|hq
  · obtain⟨its,r',pl,hz⟩:=I.list hq
    have hlen:=r'.length
    obtain⟨o,ho,hc,n,hd⟩:=pl.isList
    exact call_list_seq p (.inl rfl) ho hc hd (fun h' c' kp e=>fin its r' hz h' c' kp e) (by simp only[List.size_toArray] <;> omega)
  · obtain⟨its,r',pl,hz⟩:=I.tuple hq
    have hlen:=r'.length
    obtain⟨o,ho,hc,n,hd⟩:=pl
    exact call_list_seq p (.inr rfl) ho hc hd (fun h' c' kp e=>fin its r' hz h' c' kp e) (by simp only[List.size_toArray] <;> omega)
theorem kd:eM X (.type "tuple") (fun xs H Q=>∃p ys,xs=[.ref p]/\((SqL X.K H p ys/\∀l,H l=none->Q (.ref l) (upd H l (.tup ys)))∨(SqT X.K H p ys/\Q (.ref p) H))):=by
  intro pins s σ H xs us Q I r h
  obtain⟨p,ys,rfl,h⟩:=h
  obtain⟨u,rfl,rx⟩:=fL r
  cases rx
  rcases h with⟨hq,q⟩|⟨hq,q⟩
  · obtain⟨its,r',pl,hz⟩:=I.list hq
    have hlen:=r'.length
    refine call_tuple_list pl.isList (fun h' kp=>?_) (by simp only[List.size_toArray] <;> omega)
    have I1:Inv X pins σ H { s with heap:=h' }:=I.kept (t':=s.toks) kp
    have I2:Inv X pins σ (upd H h'.objs.size (.tup ys)) { s with heap:=h'.push { cls:=.type "tuple",data:=.seq its.toArray } }:=
      I1.laid (t':=s.toks) (fun b o e=>Heap.get?_push_of_some _ e) (Nat.le_refl _) (show ObjOk X.prog X.w _ _ _ (.tup ys) from ⟨hz,its,r',IsTup.new _ _⟩)
    exact⟨.ref h'.objs.size,_,I2,rfl,q _ (I1.hok.fresh (Nat.le_refl _))⟩
  · obtain⟨its,r',pl,hz⟩:=I.tuple hq
    exact call_tuple_same pl ⟨.ref p,H,I,rfl,q⟩
def tyV (K:PySem.W.Frag)(T:String)(x:V)(H:Hp):Prop:=match x with
  | .str _=>T = "str"
  | .int _=>T = "int"
  | .ref p=>(T = "list"/\∃xs,SqL K H p xs)∨(T = "tuple"/\∃o,K.lookup p=some o/\o.cls=.type "tuple"/\o.dict=none)∨
      (T = "dict"/\((∃kvs,H p=some (.dK kvs))∨∃kvs,H p=some (.dT kvs)))∨(T = "set"/\∃S n,H p=some (.set S n))
  | _=>False
theorem rQ {pins:List (Addr×Obj)}{σ:St}{H:Hp}{s:Shared}{T:String}{x:V}{v:Value}(I:Inv X pins σ H s)(r:RelV x v)(ty:tyV X.K T x H) :
    s.TypeIs v T/\∀a,v=.ref a->∃ob,s.heap.get? a=some ob/\ob.dict=none:=by
  cases x with
  | str z=>
    obtain⟨t,rfl⟩:=r
    cases (show T = "str" from ty)
    exact⟨typeIs_str s z t,fun _ e=>nomatch e⟩
  | int i=>
    obtain⟨t,rfl⟩:=r
    cases (show T = "int" from ty)
    exact⟨typeIs_int s i t,fun _ e=>nomatch e⟩
  | ref p=>
    cases r
    rcases ty with⟨rfl,xs,hq⟩|⟨rfl,o,hk,hc,hd⟩|⟨rfl,hk⟩|⟨rfl,S,n,hk⟩
    · obtain⟨its,_,pl,_⟩:=I.list hq
      refine⟨pl.isList.typeIs,fun a e=>?_⟩
      cases e
      obtain⟨o,n,e,c,hd,_⟩:=pl
      exact⟨o,e,hd⟩
    · refine⟨⟨o,I.kIn p o hk,hc⟩,fun a e=>?_⟩
      cases e
      exact⟨o,I.kIn _ o hk,hd⟩
    · have z:∃o,s.heap.get? p=some o/\o.ExactDict:=by
        rcases hk with⟨kvs,hk⟩|⟨kvs,hk⟩
        · obtain⟨_,_,_,_,o,_,_,e,ex,_⟩:=I.hok p _ hk
          exact⟨o,e,ex⟩
        · obtain⟨_,_,_,_,o,_,_,e,ex,_⟩:=I.hok p _ hk
          exact⟨o,e,ex⟩
      obtain⟨o,e,ex⟩:=z
      refine⟨⟨o,e,ex.1⟩,fun a e2=>?_⟩
      cases e2
      exact⟨o,e,ex.2.1⟩
    · obtain⟨o,_,_,_,e,ex,_⟩:=I.hok p _ hk
      refine⟨⟨o,e,ex.1⟩,fun a e2=>?_⟩
      cases e2
      exact⟨o,e,ex.2.1⟩
  | _=>exact False.elim ty
def xc (K:PySem.W.Frag)(T:String)(r:V->List V->Hp->VK->Prop)(to:TE):TE:=fun σ H Q=>to σ H fun x H1=>tyV K T x H1/\r x [] H1 Q
def tBM (K:PySem.W.Frag)(T:String)(r:V->List V->Hp->VK->Prop)(to:TE)(t:TA):TE:=fun σ H Q=>to σ H fun x H1=>tyV K T x H1/\t σ H1 fun xs H2=>r x xs H2 Q
variable {o e:Expr}{es:List Expr}{to:TE}{t:TA}{name:Str}{apos cpos:Pos}{T id:String}{r:V->List V->Hp->VK->Prop}
theorem tj (pa:PlainAttrs T)(slot:Slot T name id)(hty:typeOf (.builtin id)=pure (.type "method_descriptor"))(hm:MtR X id r)(ho:PE X o to)
    (hbase:attributeBase o name X.env (eval o X.env)=eval o X.env:=by rfl) (hline:(apos.endLine == cpos.line)=true:=by rfl):PE X (.Call (.Attribute o name apos) [] [] cpos) (xc X.K T r to):=by
  intro pins s σ H Q I h
  refine wpAny_Call_method0_late hbase hline (thn (ho pins s σ H _ I h) fun v s1 ⟨x,H1,I1,r1,ty,q1⟩=>?_)
  obtain⟨h1,h2⟩:=rQ I1 r1 ty
  exact⟨T,id,pa,slot,hty,h1,h2,Calls.callWith_builtin rfl (PySem.evalArgs_none (hm pins s1 σ H1 x [] v [] Q I1 r1 .nil q1))⟩
theorem cY (pa:PlainAttrs T)(slot:Slot T name id)(hty:typeOf (.builtin id)=pure (.type "method_descriptor"))(hm:MtR X id r)(ho:PE X o to)(ha:PA X (e::es) t)
    (hbase:attributeBase o name X.env (eval o X.env)=eval o X.env:=by rfl)
    (hfew:((backTo cpos (starEach (e::es) X.env)).all (fun x=>!x.1) && (backToKw cpos (keywordEach [] X.env)).all (fun x=>x.1.isSome)
      && decide ((e::es).length+([]:List Keyword).length+(if ([]:List Keyword).isEmpty then 0 else 1)<30))=true:=by rfl)
    (hline:(apos.endLine == cpos.line)=true:=by rfl) (hs:starEach (e::es) X.env=(false,eval e X.env)::starEach es X.env:=by rfl) (hplain:(backTo cpos (starEach es X.env)).any (·.1)=false:=by rfl) :
    PE X (.Call (.Attribute o name apos) (e::es) [] cpos) (tBM X.K T r to t):=by
  intro pins s σ H Q I h
  refine wpAny_Call_method_late hbase hfew hline rfl (thn (ho pins s σ H _ I h) fun v s1 ⟨x,H1,I1,r1,ty,q1⟩=>?_)
  obtain⟨h1,h2⟩:=rQ I1 r1 ty
  refine⟨T,id,pa,slot,hty,h1,h2,?_⟩
  have hA:=ha cpos pins s1 σ H1 _ I1 q1
  rw[hs] at hA ⊢
  refine Calls.callWith_builtin (by show (false || (backTo cpos (starEach es X.env)).any (·.1))=false;rw[hplain] <;> rfl) (Calls.evalArgs_plain ?_)
  exact thn hA fun us s2 ⟨vs,H2,I2,r2,q2⟩=>hm pins s2 σ H2 x vs v us Q I2 r1 r2 q2
end
def MtM (X:Cx)(id:String)(r:V->List V->Hp->VK->Prop):Prop:=
  ∀(pins:List (Addr×Obj)) (s:Shared) (σ:St) (H:Hp) (x:V) (xs:List V) (v:Value) (us:List Value) (Q:VK),Inv X pins σ H s->RelV x v->Vals xs us->r x xs H Q->
    wpAny (model X.prog X.w) X.A (call (.builtin id) (v::us)) (EP X pins σ Q) X.xe s
theorem Vals.one:∀{x:V} {us:List Value},Vals [x] us->∃u,us=[u]/\RelV x u
  | _,_,.cons r .nil=>⟨_,rfl,r⟩
theorem Vals.zero:∀{us:List Value},Vals [] us->us=[]
  | _,.nil=>rfl
theorem Vals.reverse {xs:List V}{us:List Value}(h:Vals xs us):Vals xs.reverse us.reverse:=by
  induction h with
  | nil=>exact .nil
  | cons r t ih=>rw[List.reverse_cons,List.reverse_cons];exact Vals.append ih (.cons r .nil)
section
variable {X:Cx}{pins:List (Addr×Obj)}{σ:St}{H:Hp}{s:Shared}{l b:Addr}{xs ys zs:List V}
theorem Inv.lset {its its':List Value}{n:Nat}{f:Array Value->Array Value}{t':Nat}(I:Inv X pins σ H s)(hH:H l=some (.lst xs))
    (e:s.heap.get? l=some { cls:=.type "list",data:=.seq its.toArray n }) (hf:f its.toArray=its'.toArray) (hv:Vals ys its') (hz:ys.length<=sizeLine) :
    Inv X pins σ (upd H l (.lst ys)) { s with heap:=s.heap.update l (Obj.mapSeq f),toks:=t' }:=by
  have q:=PySem.IsL.update e f
  rw[hf] at q
  refine I.write (x:=l) (e:=l) (by rw[hH];exact trivial) (.inl rfl) (fun b' u hb hu=>(Heap.get?_update_other s.heap (Obj.mapSeq f) (Ne.symm hb)).trans hu) ⟨_,q⟩ ?_
  exact⟨hz,its',_,hv,q⟩
theorem Inv.lnew {its:List Value}{t':Nat}(I:Inv X pins σ H s)(hv:Vals ys its)(hz:ys.length<=sizeLine) :
    Inv X pins σ (upd H s.heap.objs.size (.lst ys)) { s with heap:=s.heap.push { cls:=.type "list",data:=.seq its.toArray },toks:=t' }:=
  I.laid (fun _ _ q=>Heap.get?_push_of_some _ q) (Nat.le_refl _) ⟨hz,its,0,hv,Heap.get?_push_size _ rfl⟩
theorem Inv.fresh (I:Inv X pins σ H s):H s.heap.objs.size=none:=I.hok.fresh (Nat.le_refl _)
theorem Inv.lstM (I:Inv X pins σ H s)(hH:H l=some (.lst xs)):xs.length<=sizeLine/\∃(its:List Value) (n:Nat),Vals xs its/\xs.length=its.length/\s.heap.get? l=some { cls:=.type "list",data:=.seq its.toArray n }:=by
  obtain⟨z,its,n,r,e⟩:=I.hok l _ hH
  exact⟨z,its,n,r,r.length,e⟩
theorem mZ {n:Nat}(h:n<=sizeLine):Builtin.List.listTooLong n=false:=by
  unfold Builtin.List.listTooLong
  exact decide_eq_false (by omega)
end
section
variable {X:Cx}
def lL:V->List V->Hp->VK->Prop:=fun x vs H Q=>∃l xs y,x=.ref l/\vs=[y]/\H l=some (.lst xs)/\xs.length<sizeLine/\Q .non (upd H l (.lst (xs++[y])))
theorem br:MtM X "list.append" lL:=by
  intro pins s σ H x vs v us Q I rx rv h
  obtain⟨l,xs,y,rfl,rfl,hH,hz,q⟩:=h
  cases rx
  obtain⟨u,rfl,ru⟩:=rv.one
  obtain⟨z,its,n,r,hl,e⟩:=I.lstM hH
  refine call_meets F.slot_list_append ⟨_,e,rfl⟩ F.entry_list_append (F.args_list_append_2 _ _) (PySem.list_append l its.toArray n u (by rw[List.size_toArray];omega)) ⟨e,?_⟩
  refine⟨.non,_,I.lset (its':=its++[u]) hH e (by simp) (r.append (.cons ru .nil)) ?_,rfl,q⟩
  rw[List.length_append,List.length_singleton]
  omega
def lK:V->List V->Hp->VK->Prop:=fun x vs H Q=>∃l b xs zs,x=.ref l/\vs=[.ref b]/\H l=some (.lst xs)/\H b=some (.lst zs)/\xs.length+zs.length<=sizeLine/\Q .non (upd H l (.lst (xs++zs)))
theorem kH:MtM X "list.extend" lK:=by
  intro pins s σ H x vs v us Q I rx rv h
  obtain⟨l,b,xs,zs,rfl,rfl,hH,hB,hz,q⟩:=h
  cases rx
  obtain⟨u,rfl,ru⟩:=rv.one
  cases ru
  obtain⟨z,its,n,r,hl,e⟩:=I.lstM hH
  obtain⟨z2,its2,n2,r2,hl2,e2⟩:=I.lstM hB
  have hsz:its.toArray.size+its2.toArray.size<=sizeLine:=by rw[List.size_toArray,List.size_toArray];omega
  have hlong:¬(!its.toArray.isEmpty && Builtin.List.listTooLong (its.toArray.size+its2.toArray.size))=true:=by
    rw[mZ hsz,Bool.and_false]
    exact Bool.false_ne_true
  refine call_meets F.slot_list_extend ⟨_,e,rfl⟩ F.entry_list_extend (F.args_list_extend_2 _ _)
    (AutoSeq1.list_extend_list_list_0 l its.toArray n b its2.toArray n2 hlong (by rw[List.size_toArray];omega) (by omega)) ⟨e,e2,?_⟩
  refine⟨.non,_,I.lset (its':=its++its2) hH e (by simp) (r.append r2) ?_,rfl,q⟩
  rw[List.length_append]
  omega
def sG:V->List V->Hp->VK->Prop:=fun x vs H Q=>∃l xs,x=.ref l/\vs=[]/\H l=some (.lst xs)/\Q .non (upd H l (.lst []))
theorem m7:MtM X "list.clear" sG:=by
  intro pins s σ H x vs v us Q I rx rv h
  obtain⟨l,xs,rfl,rfl,hH,q⟩:=h
  cases rx
  have hus:=rv.zero
  subst hus
  obtain⟨z,its,n,r,hl,e⟩:=I.lstM hH
  refine call_meets F.slot_list_clear ⟨_,e,rfl⟩ F.entry_list_clear (F.args_list_clear_1 _) (AutoSeq1.list_clear_list_0 l its.toArray n (by rw[List.size_toArray];omega)) ⟨e,?_⟩
  exact⟨.non,_,I.lset (its':=[]) (ys:=[]) hH e rfl .nil (Nat.zero_le _),rfl,q⟩
def xF:R2:=fun x y H Q=>∃l b xs zs,x=.ref l/\y=.ref b/\H l=some (.lst xs)/\H b=some (.lst zs)/\xs.length+zs.length<=sizeLine/\∀p,H p=none->Q (.ref p) (upd H p (.lst (xs++zs)))
theorem oC:OpR X (binaryOp .Add) xF:=by
  intro pins s σ H x y v u Q I rx ry h
  obtain⟨l,b,xs,zs,rfl,rfl,hH,hB,hz,q⟩:=h
  cases rx
  cases ry
  obtain⟨z,its,n,r,hl,e⟩:=I.lstM hH
  obtain⟨z2,its2,n2,r2,hl2,e2⟩:=I.lstM hB
  refine PySem.P.add_list e e2 ?_ (by rw[List.size_toArray,List.size_toArray];omega)
  have ea:its.toArray++its2.toArray=(its++its2).toArray:=by simp
  rw[ea]
  exact⟨.ref _,_,I.lnew (t':=s.toks) (r.append r2) (by rw[List.length_append];omega),rfl,q _ I.fresh⟩
end
section
variable {prog:Program}{w:World}{A:Around}{E:Value->Shared->Prop}{s:Shared}
set_option maxRecDepth 100000 in
end
end L2
namespace Att
open PySem PySem.W PySem.Calls PyProof.Rows
theorem jd {P:Params}{h:Heap}:∀(ns:List Int) (vs:List Value),WellAll P h vs (ns.map WData.int)->IntsAre vs ns:=by
  intro ns
  induction ns with
  | nil=>
    intro vs w
    rw[List.map_nil] at w
    cases w
    exact .nil
  | cons n ns ih=>
    intro vs w
    rw[List.map_cons] at w
    cases w with
    | cons a b=>
      cases a
      exact .cons _ _ (ih _ b)
theorem qN {l:OpenLaw}{n:Nat}(hn:l.most=some n){P:Params}{h:Heap}{args:List WData}{vals:List Value}
    (hpre:l.row.toRowW.claim.pre args=true) (hwl:WellAll P h vals args) :
    ∃a vs ns,vals=[Value.ref a]/\args=[WData.list (ns.map WData.int)]/\h.get? a=some { cls:=.type "list",data:=.seq vs.toArray }/\IntsAre vs ns/\ns.length<=n:=by
  have hsh:WShape.hasAll [] args [.list .int]=true:=(pre_splitW hpre).1
  have hc:l.pre.holds [] { args:=args }=true:=(pre_splitW hpre).2
  obtain⟨d,r,rfl,h1,h2⟩:=hasAllW_cons hsh
  obtain rfl:=hasAllW_nil h2
  obtain⟨xs,rfl,h3⟩:=hasW_list h1
  obtain⟨ns,rfl⟩:=items_int h3
  have hlen:ns.length<=n:=by
    unfold OpenLaw.pre at hc
    have h4:(WTm.not (.lt (.lit (.int (n:Int))) (.len (.arg 0)))).holds [] { args:=[.list (ns.map .int)] }=true:=by
      have h4:=(holds_andW hc).1
      rw[hn] at h4
      exact h4
    have h5:=condW_of h4 (w_not (w_lt w_lit (w_len_list (w_arg rfl))))
    rw[List.length_map] at h5
    refine Nat.le_of_not_lt fun q=>?_
    have q':(n:Int)<((ns.length:Nat):Int):=by omega
    first
      | (rw[decide_eq_true q'] at h5;exact absurd h5 (by decide))
      | (simp at h5;omega)
  cases hwl with
  | cons w1 w2=>
    cases w2
    cases w1 with
    | list ho hall=>exact⟨_,_,ns,rfl,rfl,ho,jd ns _ hall,hlen⟩
theorem qQ (l:OpenLaw)(args:List WData):l.row.toRowW.claim.post args (.bool true) args=true:=
  postW_of (r:=l.row.toRowW) (X:=(true == true))
    (show WShape.has [] (.bool true) .bool=true by first | rfl | decide | simp[WShape.has,WShape.arms,WShape.armsAll])
    (show (WTm.eq .res (.lit (.bool true))).value [] { args:=args,res:=some (.bool true),after:=args }=some (.bool (true == true)) from w_eq_bool (w_res rfl) w_lit) rfl
theorem attach_call {l:OpenLaw}{n:Nat}{q:Program}{loose:List Str}{XP:(Str->Option Value)->Heap->Prop}{YP:World->Heap->Prop}{d:DefRec}
    (hn:l.most=some n) (hdf:d.params.defaults=[])
    (call:∀(w:World) (s₀ s₁:Shared) (mg mb:Str->Option Value) (fa:Addr) (o:Obj) (pm cd doc:Value) (a:Addr) (vs:List Value) (ns:List Int),
      Ground q loose [] XP w s₀ mg mb s₁.heap->YP w s₁.heap->
      s₁.heap.get? fa=some o->o.data=.func (docDef d.name d.params d.body d.scope pm cd doc)->s₁.heap.CodeRec cd d.name->mg d.name=some (.ref fa)->
      s₁.heap.get? a=some { cls:=.type "list",data:=.seq vs.toArray }->IntsAre vs ns->ns.length<=n->s₁.gens = #[]->
      codeAny (model l.prog w) callerA (.call (.ref fa) ⟨[.ref a],[]⟩) (fun r s'=>r=.ok (.ret (.bool true))/\OldK s₁.heap s'.heap/\s'.os=s₁.os/\AllBare s'.gens) s₁) :
    WalkO q loose XP YP l.row.toRowW d [] (fun f vs=>PySem.call f vs):=by
  intro w s₀ s₁ mg mb G Y fa o pm cd doc dV kV ho hd hcd hD hmg hg args vals as hpre hlay hrd hwl hlo
  obtain rfl:dV=.none:=Dflts.none hD hdf
  obtain rfl:kV=.none:=Dflts.noKw hD
  obtain⟨a,vs,ns,rfl,rfl,hobj,hints,hlen⟩:=qN hn hpre hwl
  refine enter_call (codeAny_mono (call w s₀ s₁ mg mb fa o pm cd doc a vs ns G Y ho (fd_plain hd) hcd hmg hobj hints hlen hg) fun r s' hq=>?_)
  obtain⟨rfl,h2,h3,h4⟩:=hq
  exact⟨.inl ⟨.bool true,.bool true,[],rfl,fun _=>rfl,.bool true,qQ l _,fun _=>⟨List.Pairwise.nil,fun _ hm=>(nomatch hm)⟩⟩,h2,h3,h4⟩
end Att
namespace L2
open PySem PySem.Spec PyProof.Rows
theorem kg:∀{vs:List Value} {ns:List Int},IntsAre vs ns->Vals (ns.map V.int) vs
  | _,_,.nil=>.nil
  | _,_,.cons n t h=>.cons ⟨t,rfl⟩ (kg h)
def aP (s:Stmt):Arguments:=match s with
  | .FunctionDef _ a _ _ _ _ _ _ _ _=>a
  | _=>{ posonlyargs:=[],args:=[],vararg:=none,kwonlyargs:=[],kw_defaults:=[],kwarg:=none,defaults:=[] }
def aN (s:Stmt):List Stmt:=match s with
  | .FunctionDef _ _ b _ _ _ _ _ _ _=>b
  | _=>[]
def av (s:Stmt):Scope:=match s with
  | .FunctionDef _ _ _ _ _ _ sc _ _ _=>sc
  | _=>{ kind:=.function,names:=[],isGenerator:=false,isCoroutine:=false }
abbrev CX0:CXT:=fun _ _ _ _ _ _=>False
abbrev E0:XK:=fun _ _ _=>False
theorem vY {X:Cx}:mh CX0 X E0:=fun _ _ _ _ _ _ _ h=>h.elim
structure Fun (K:PySem.W.Frag)(x qual:Str)(st:Stmt)(f:Addr)(fd:FuncData):Prop where
  ex:∃(oc:Value) (od:Option Addr) (kV doc pm:Value) (an:Option Addr) (cdv ct:Value) (osl:Array (Option Value)),
    fd=PySem.W.fnOf x qual (aP st) (aN st) (av st) .none kV doc pm an cdv ct/\K.lookup f=some ⟨oc,od,.func fd,osl⟩/\PySem.W.codeIn K cdv qual=true
  kp:PySem.W.keepIn K (.ref f)=true
section
variable {P:Program}{w:World}{K:PySem.W.Frag}{mg:Str->Option Value}{base:Heap}
theorem Fun.ok {x qual:Str}{st:Stmt}{f:Addr}{fd:FuncData}{N ps:List Str}{k:Nat}{sp:Sp}(F:Fun K x qual st f fd)(S:FnScope N ps (av st))(len:∀vs H Q E,sp vs H Q E->vs.length=ps.length)
    (hbody:∀(cdv:Value) (A:Around) (outer:List Env) (s:Shared) (H:Hp) (vs:List V) (Q:VK) (E:XK),Room k (A.deeper (envOfC qual (av st) s.heap.objs.size f cdv))->sp vs H Q E->
      ∃t,PSs (o0 CX0 P w K mg base N qual (av st) f cdv A outer s H E).nox (aN st) t/\t { nx:=fun _ H'=>Q .non H',rt:=Q } (start N vs) H):FnOk P w K mg base CX0 (k+1) f fd ps sp:=by
  obtain⟨oc,od,kV,doc,pm,an,cdv,ct,osl,rfl,lk,hcd⟩:=F.ex
  refine wa lk hcd S len fun A outer s H vs Q E hr hsp=>?_
  obtain⟨t,h,q⟩:=hbody cdv A outer s H vs Q E hr hsp
  exact⟨t,h.nox,q⟩
theorem Fun.binds {x qual:Str}{st:Stmt}{f:Addr}{fd:FuncData}{ps:List Str}(F:Fun K x qual st f fd)
    (h:∀(kV doc pm:Value) (an:Option Addr) (cdv ct:Value) (us:List Value),us.length=ps.length->bindArgs (PySem.W.fnOf x qual (aP st) (aN st) (av st) .none kV doc pm an cdv ct) ⟨us,[]⟩=pure (ps.zip us)):Binds K fd ps []:=by
  obtain⟨oc,od,kV,doc,pm,an,cdv,ct,osl,rfl,lk,hcd⟩:=F.ex
  exact .all (h kV doc pm an cdv ct)
theorem bj {x qual:Str}{st:Stmt}{f:Addr}{oc:Value}{od an:Option Addr}{osl:Array (Option Value)}{kV doc pm cdv ct:Value}(l:K.lookup f=some ⟨oc,od,.func (PySem.W.fnOf x qual (aP st) (aN st) (av st) .none kV doc pm an cdv ct),osl⟩)
    (c:PySem.W.codeIn K cdv qual=true) (k:PySem.W.keepIn K (.ref f)=true):Fun K x qual st f (PySem.W.fnOf x qual (aP st) (aN st) (av st) .none kV doc pm an cdv ct):=⟨⟨oc,od,kV,doc,pm,an,cdv,ct,osl,rfl,l,c⟩,k⟩
end
theorem qg {A:Around}{k:Nat}(hr:Room k A):A.units+1<cLine:=Nat.lt_of_le_of_lt (Nat.add_le_add_left (by decide:1<=64) _) hr.units
theorem aZ {n:Nat}(h:n<=1000):n<sizeLine:=Nat.lt_of_le_of_lt h (by decide)
section
variable {X:Cx}
theorem pv (i:Nat){x:Str}{pos:Pos}(hN:X.N[i]?=some x:=by rfl)(hv:Vis X.env.scope x:=by first | exact Or.inl rfl | exact Or.inr (Or.inl rfl) | exact Or.inr (Or.inr rfl))(hd:(x == ("__debug__" : Str))=false:=by decide)
    (hcd:(x == ("__classdict__" : Str))=false:=by decide):PE X (.Name x pos) (cm i):=wH hN hv hd hcd
end
def Same (H H':Hp):Prop:=∀b o,H b=some o->H' b=some o
theorem Same.refl (H:Hp):Same H H:=fun _ _ h=>h
theorem Same.trans {H H1 H2:Hp}(a:Same H H1)(b:Same H1 H2):Same H H2:=fun c o h=>b c o (a c o h)
theorem Same.free {H H':Hp}(e:Same H H'){l:Addr}(h:H' l=Option.none):H l=Option.none:=by
  cases q:H l with
  | none=>rfl
  | some o=>
    rw[e l o q] at h
    cases h
def Bd (n:Nat)(i:Int):Prop:=i.natAbs<2 ^ n
theorem Bd.mono {m n:Nat}{i:Int}(h:Bd m i)(e:m<=n):Bd n i:=Nat.lt_of_lt_of_le h (Nat.pow_le_pow_right (by decide) e)
theorem Bd.mul {m n:Nat}{i j:Int}(h:Bd m i)(g:Bd n j):Bd (m+n) (i*j):=by
  unfold Bd at *
  rw [Int.natAbs_mul, Nat.pow_add]
  by_cases e:i.natAbs=0
  · rw[e,Nat.zero_mul];exact Nat.mul_pos (Nat.pow_pos (by decide)) (Nat.pow_pos (by decide))
  · exact Nat.mul_lt_mul_of_lt_of_le h (Nat.le_of_lt g) (Nat.pow_pos (by decide))
theorem Bd.add {m:Nat}{i j:Int}(h:Bd m i)(g:Bd m j):Bd (m+1) (i+j):=by
  unfold Bd at *
  have:=Int.natAbs_add_le i j
  rw[Nat.pow_succ];omega
theorem Bd.neg {m:Nat}{i:Int}(h:Bd m i):Bd m (-i):=by
  unfold Bd at *;rw[Int.natAbs_neg];exact h
theorem Bd.sub {m:Nat}{i j:Int}(h:Bd m i)(g:Bd m j):Bd (m+1) (i - j):=by
  rw[Int.sub_eq_add_neg];exact h.add g.neg
theorem Bd.bits {m:Nat}{i:Int}(h:Bd m i):Builtin.Int.intBits i<=m:=by
  unfold Bd at h
  unfold Builtin.Int.intBits
  split
  · exact Nat.zero_le _
  · rename_i hz
    have hn:i.natAbs≠0:=by
      intro e;apply hz;have:i=0:=Int.natAbs_eq_zero.mp e
      subst this;rfl
    have:=(Nat.log2_lt hn).mpr h
    omega
theorem Bd.log {m:Nat}{i:Int}(h:Bd m i)(hm:0<m):i.natAbs.log2<m:=by
  unfold Bd at h
  by_cases e:i.natAbs=0
  · rw[e];simpa using hm
  · exact (Nat.log2_lt e).mpr h
theorem Bd.le {m:Nat}{i j:Int}(h:Bd m j)(e:i.natAbs<=j.natAbs):Bd m i:=Nat.lt_of_le_of_lt e h
theorem aC {m n:Nat}{i j:Int}(h:Bd m i)(g:Bd n j)(e:m+n<=134217728):IntMulOk i j:=by
  unfold IntMulOk
  intro z
  rw[Bool.and_eq_true,Bool.and_eq_true] at z
  obtain⟨_,z⟩:=z
  unfold Builtin.Int.intTooBig at z
  have hz:=of_decide_eq_true z
  have h1:=h.bits
  have h2:=g.bits
  have h3:(bitsLine:Int)=134217728:=by decide +kernel
  rw[h3] at hz
  omega
def uM (_ j:Int):Prop:=j≠0/\Bd 9000 j
section
variable {X:Cx}
theorem aD:OpR X (binaryOp .Mult) (rI IntMulOk fun i j=>.int (i*j)):=opI fun _ _ _ _ _ _ _ hc q=>mul_int q hc
theorem eC:OpR X (binaryOp .FloorDiv) (rI uM fun i j=>.int (i.fdiv j)):=opI fun _ _ _ _ _ _ _ hc q=>floordiv_int hc.1 q (.inl (PyProof.noPylong_of_log2 (hc.2.log (by decide))))
theorem i5:eM X (.builtin "isinstance") (fun xs H Q=>∃x n t b,xs=[x,.ty n]/\TyOf X.K H x t/\PySem.W.kitOne X.K t (.type n)=some b/\Q (.bl b) H):=by
  intro pins s σ H xs us Q I r h
  obtain⟨x,n,t,b,rfl,ty,e,q⟩:=h
  obtain⟨u,v,rfl,ru,rv⟩:=rP r
  cases (show v=Value.type n from rv)
  exact rp I ru ty e fun tk=>⟨.bl b,H,I.tok _,rfl,q⟩
theorem nj {K:PySem.W.Frag}{n:String}:PySem.W.kitOne K (.type n) (.type n)=some true:=by
  unfold PySem.W.kitOne;rw[if_pos (beq_self_eq_true _)]
end
def TupI (K:PySem.W.Frag)(H:Hp)(v:V)(ns:List Int):Prop:=∃a,v=.ref a/\SqT K H a (ns.map V.int)
section
open PySem.SeqAt PyProof.V
variable {X:Cx}{pins:List (Addr×Obj)}{σ:St}{H:Hp}{s:Shared}
theorem j8 {h:Heap}:∀{ns:List Int} {us:List Value},Vals (ns.map V.int) us->ReadsAll h us (ns.map PyData.int) []:=by
  intro ns
  induction ns with
  | nil=>intro us h;cases h;exact .nil
  | cons n ns ih=>
    intro us hv
    cases hv with
    | cons r t=>
      obtain⟨k,rfl⟩:=(show ∃t,_=Value.int n t from r)
      have:=ReadsAll.cons (Reads.int (h:=h) n k) (ih t)
      simpa using this
theorem Inv.tupI {v:V}{u:Value}{ns:List Int}(I:Inv X pins σ H s)(r:RelV v u)(t:TupI X.K H v ns):Reads s.heap u (.tuple (ns.map PyData.int)) []:=by
  obtain⟨a,rfl,h⟩:=t
  cases r
  obtain⟨its,rv,p,_⟩:=I.tuple h
  obtain⟨o,ho,hc,n,hd⟩:=p
  exact Reads.tuple ho hc hd (by simpa using j8 rv)
theorem gu (ns:List Int):shaped (.tuple (ns.map PyData.int))=true:=by
  have h1:=PySem.W.depthAll_ints ns
  have h2:PyData.depth (.tuple (ns.map PyData.int))<=64:=by simp only[PyData.depth];omega
  show (PyData.canLay0 (.tuple (ns.map PyData.int)) && decide (PyData.depth (.tuple (ns.map PyData.int))<=64))=true
  rw[Bool.and_eq_true]
  exact⟨by simp only[PyData.canLay0];exact PySem.W.canLayAll0_ints ns,decide_eq_true h2⟩
end
section
open PySem.SeqAt PyProof.V
variable {X:Cx}
def pR (K:PySem.W.Frag)(neg:Bool):R2:=fun x y H Q=>∃ns ms,TupI K H x ns/\TupI K H y ms/\Q (.bl (if neg then !decide (ns=ms) else decide (ns=ms))) H
theorem pX (hu:X.A.units+64<cLine):OpR X (compareOp .Eq) (pR X.K false):=by
  intro pins s σ H x y v u Q I rx ry h
  obtain⟨ns,ms,h1,h2,q⟩:=h
  refine eq_dataH_same (I.tupI rx h1) (I.tupI ry h2) (gu ns) (gu ms) hu (by simp only[noMix];exact PySem.W.noMix_ints ns ms) (bq I q ?_)
  simp only[PySem.Spec.same];rw[PySem.W.same_ints];rfl
theorem pW (hu:X.A.units+64<cLine):OpR X (compareOp .NotEq) (pR X.K true):=by
  intro pins s σ H x y v u Q I rx ry h
  obtain⟨ns,ms,h1,h2,q⟩:=h
  refine ne_dataH_same (I.tupI rx h1) (I.tupI ry h2) (gu ns) (gu ms) hu (by simp only[noMix];exact PySem.W.noMix_ints ns ms) (bq I q ?_)
  simp only[PySem.Spec.same];rw[PySem.W.same_ints];rfl
end
def blk (X:Cx)(N':List Str)(scope:Scope)(cl:List (Str×Addr))(C:Addr)(fp:List Addr)(s0:Shared)(H0:Hp):Cx:=
  { X with N:=N',s₀:=s0,H₀:=H0,env:=compEnvC scope cl C X.env,outer:=X.stack,stack:=X.stack,ex:=fp,fn:=fun _=>false,pn:=[],xe:=fun _ _=>False }
def KeepS (a b:St):Prop:=b.length=a.length/\∀(i:Nat) v,a[i]?=some (some v)->b[i]?=some (some v)
theorem KeepS.none1 {v:Option V}:KeepS [none] [v]:=⟨rfl,fun i w h=>by
  cases i with
  | zero=>cases h
  | succ i=>simp at h⟩
theorem KeepS.cons {a b:St}(h:KeepS a b)(v:Option V):KeepS (none::a) (v::b):=⟨by simp[h.1],fun i w e=>by
  cases i with
  | zero=>cases e
  | succ i=>simpa using h.2 i w (by simpa using e)⟩
theorem KeepS.refl (a:St):KeepS a a:=⟨rfl,fun _ _ h=>h⟩
def dJ (wi:TI)(fr:St->St)(g:TG)(te:TE):TE:=fun σ H Q=>wi σ H fun J H1=>∀D,H1 D=none->∃W:Nat->Nat->List V->Hp->Prop,(∃m,W 0 m [] (upd H1 D (.lst [])))/\
  ∀i m ys H2,W i m ys H2->(J.stop i H2/\Q (.ref D) H2)∨(J.go i H2/\ys.length<sizeLine/\∀x H3,J.yld i H2 x H3->g x (fr σ) H3 fun σ2 H3'=>KeepS (fr σ) σ2/\te σ2 H3' fun y H4=>
    H4 D=some (.lst ys)/\∃m',m'<m/\W (i+1) m' (ys++[y]) (upd H4 D (.lst (ys++[y]))))
section
variable {X:Cx}
theorem o9 {pins:List (Addr×Obj)}{σ:St}{H:Hp}{s:Shared}{N':List Str}{scope:Scope}{cl:List (Str×Addr)}{fp:List Addr}(I:Inv X pins σ H s)(hkind:scope.kind=.function)
    (hcl:∀y c,cl.lookup y=some c->X.env.cells.lookup y=some c) (hhas:∀y,((relabel scope X.env).names.lookup y=some .cell∨(relabel scope X.env).names.lookup y=some .free)->∃c,cl.lookup y=some c)
    (hf:∀b∈fp,eF X pins H b) (hlt:∀b∈fp,b<s.heap.objs.size):(blk X N' scope cl s.heap.objs.size fp s H).Ok where
  mod:=I.ok.mod
  kind:=by simp[blk,compEnvC,relabel,hkind]
  glob:=I.ok.glob
  blt:=I.ok.blt
  above:=Nat.le_refl _
  inj:=fun x y c h1 h2=>I.ok.inj x y c (hcl x c h1) (hcl y c h2)
  has:=fun x h=>hhas x h
  cab:=fun x c h=>nomatch h
  hd:=I.ok.hd
  frames:=I.ok.frames
  stk:=.inl rfl
  exf:=fun b hb=>⟨Nat.ne_of_lt (hlt b hb),fun x c e=>(hf b hb).2.2.2.2.1 x c (hcl x c e)⟩
  bs:=I.bs
  bsz:=Nat.le_trans I.ok.bsz I.sz
  noex:=fun b o e hb=>by
    rcases (hf b hb).2.2.2.1 with z|z
    · exact I.ok.noex b o e z
    · exact absurd (Nat.lt_of_lt_of_le (Heap.lt_size e) (Nat.le_trans I.ok.bsz z)) (Nat.lt_irrefl _)
  exfs:=fun b hb z=>by
    rcases List.mem_cons.mp (I.stkSub b z) with e|e
    · exact (hf b hb).2.1 e
    · exact (hf b hb).2.2.1 e
  funs:=I.stack
  frf:=I.stkFree
theorem dc {tg elt iter:Expr}{scope:Scope}{cl:List (Str×Addr)}{pos:Pos}{N':List Str}{wi:TI}{fr:St->St}{g:TG}{te:TE}
    (hc:X.calm=true) (hi:PI X tg iter wi)
    (hg:∀C fp s0 H0,PG (blk X N' scope cl C fp s0 H0) tg g) (he:∀C fp s0 H0,PE (blk X N' scope cl C fp s0 H0) elt te)
    (hclos:closureFor scope X.env=pure cl) (hkind:scope.kind=.function) (hnames:∀x∈scope.names,x.2=.local->scope.names.lookup x.1=some .local) (hcell:∀y∈scope.names,y.2≠.cell)
    (hcl:∀y c,cl.lookup y=some c->X.env.cells.lookup y=some c) (hhas:∀y,((relabel scope X.env).names.lookup y=some .cell∨(relabel scope X.env).names.lookup y=some .free)->∃c,cl.lookup y=some c)
    (hfl:∀σ:St,σ.length=X.N.length->(fr σ).length=N'.length)
    (hfr:∀(σ:St) (i:Nat) (y:Str) (v:V),N'[i]?=some y->(fr σ)[i]?=some (some v)->∃j:Nat,X.N[j]?=some y/\σ[j]?=some (some v)/\X.env.kindOf y=some .cell/\(relabel scope X.env).names.lookup y=some .cell)
    (hs:∀x,foldedSetIterable iter X.env x=pure x:=by intro _;rfl) :
    PE X (.ListComp elt [⟨tg,iter,[],0⟩] scope pos) (dJ wi fr g te):=by
  intro pins s σ H Q I h
  rw[eval_ListComp]
  refine wpAny_comprehension_free (use:=none) rfl hs hclos hkind hnames ?_
  refine thn (hi pins s σ H _ I h) fun v s1 h1=>thn h1 fun itv s2 h2=>?_
  obtain⟨it,fp,tn,J,H2,rfl,I2,T,st2,f2,q2⟩:=h2
  have D0:H2 s2.heap.objs.size=none:=I2.hok.fresh (Nat.le_refl _)
  obtain⟨W,⟨m0,w0⟩,turn⟩:=q2 _ D0
  refine wpAny_newObj_type (wpAny_newFunctionEnv hcell (by intro y hy; simp at hy) (fun h₁ hns₁ hsb₁ => ?_) hkind)
  dsimp only at hns₁ hsb₁ ⊢
  have I3:Inv X pins σ (upd H2 s2.heap.objs.size (.lst [])) { s2 with heap:=s2.heap.push { cls:=.type "list",dict:=none,data:=.seq ([]:List Value).toArray } }:=
    I2.laid (t':=s2.toks) (fun b u e=>Heap.get?_push_of_some _ e) (Nat.le_refl _) ⟨Nat.zero_le _,[],_,.nil,Heap.get?_push_size _ rfl⟩
  generalize hH3:upd H2 s2.heap.objs.size (.lst [])=H3 at I3 w0
  generalize hs3:({ s2 with heap:=s2.heap.push { cls:=.type "list",dict:=none,data:=.seq ([]:List Value).toArray } }:Shared)=s3 at I3
  have eh:s3.heap=s2.heap.push { cls:=.type "list",dict:=none,data:=.seq ([]:List Value).toArray }:=by rw[←hs3]
  have fl:∀b∈fp,b<s2.heap.objs.size:=fun b hb=>by
    obtain⟨o,e,_⟩:=T.obj 0 _ st2 b hb
    exact Heap.lt_size e
  have fn:∀b∈fp,H3 b=none:=fun b hb=>by
    rw[←hH3,aF (Nat.ne_of_lt (fl b hb))];exact (f2 b hb).1
  have f3:∀b∈fp,eF X pins H3 b:=fun b hb=>⟨fn b hb,(f2 b hb).2⟩
  have old:∀b u,s3.heap.get? b=some u->h₁.get? b=some u:=fun b u e=>by
    refine hsb₁.extBut b u ?_ (Heap.get?_push_of_some _ (by rw[←eh];exact e))
    have:=Heap.lt_size e
    rw[eh] at this
    exact Nat.ne_of_lt this
  have up:∀b u,s2.heap.get? b=some u->s3.heap.get? b=some u:=fun b u e=>by rw[eh];exact Heap.get?_push_of_some _ e
  have ok:=o9 (N':=N') (scope:=scope) (cl:=cl) (fp:=fp) I3 hkind hcl hhas f3 fun b hb=>by rw[eh,Heap.size_push];exact Nat.lt_succ_of_lt (fl b hb)
  rw[←eh] at hns₁ ⊢
  have IB:Inv (blk X N' scope cl s3.heap.objs.size fp s3 H3) [] (fr σ) H3 { s3 with heap:=h₁,toks:=s2.toks+([]:List (Str×Value)).length }:=by
    refine⟨ok,rfl,I3.bare,Un.kept old,⟨_,hns₁,fun i y v e1 e2 e3=>?_⟩,fun x c e=>?_,I3.hok.fresh (Nat.le_refl _),fun x c e=>I3.freeC x c (hcl x c e),fun p hp=>by simp[blk] at hp,I3.hok.kept old,hfl σ I3.len⟩
    · obtain⟨j,n1,n2,n3,n4⟩:=hfr σ i y v e1 e2
      obtain⟨m,_,hl⟩:=I3.loc
      obtain⟨u,r,l⟩:=hl j y v n1 n2 (.inr (.inl n3))
      refine⟨u,r,.inr ⟨.inl n4,?_⟩⟩
      rcases l with⟨k,_⟩|⟨_,c,e,ic⟩
      · rw[n3] at k;cases k
      · obtain⟨c',e'⟩:=hhas y (.inl n4)
        have e'':=hcl y c' e'
        rw[e] at e'';cases e''
        obtain⟨o,ho,hd⟩:=ic
        exact⟨c,e',o,old c o ho,hd⟩
    · obtain⟨v,o,ho,hd⟩:=I3.cell x c (hcl x c e)
      exact⟨v,o,old c o ho,hd⟩
  have stB:tn 0 h₁:=T.keep _ _ _ st2 fun b hb o e=>old b o (up b o e)
  have D2:s2.heap.objs.size<s3.heap.objs.size:=by rw[eh,Heap.size_push];exact Nat.lt_succ_self _
  have stat:∀{H':Hp},(∀b∈fp,H' b=none)->∀b∈fp,eF (blk X N' scope cl s3.heap.objs.size fp s3 H3) [] H' b:=fun hn b hb=>
    ⟨hn b hb,Nat.ne_of_lt (Nat.lt_trans (fl b hb) D2),ok.exfs b hb,.inl hb,fun x c e=>(ok.exf b hb).2 x c e,fun p hp=>by simp[blk] at hp⟩
  have loop:codeAny (model X.prog X.w) X.A (.compLoop (.ListComp elt [⟨tg,iter,[],0⟩] scope pos) 0 (.ref it) (.ref s2.heap.objs.size) (compEnvC scope cl s3.heap.objs.size X.env))
      (compPost (model X.prog X.w) X.A X.xe none (EP X pins σ Q) (.ref s2.heap.objs.size) s3.heap.objs.size) { s3 with heap:=h₁,toks:=s2.toks+([]:List (Str×Value)).length }:=by
    refine codeAny_loop rfl (fun n s'=>∃i ys H',Inv (blk X N' scope cl s3.heap.objs.size fp s3 H3) [] (fr σ) H' s'/\tn i s'.heap/\(∀b∈fp,H' b=none)/\W i n ys H') ?_ m0 ⟨0,[],H3,IB,stB,fn,w0⟩
    rintro n s4 ⟨i,ys,H4,I4,st4,fr4,w4⟩
    show wpAny _ _ ((compTurn (.ListComp elt [⟨tg,iter,[],0⟩] scope pos) 0 (.ref it) (.ref s2.heap.objs.size) (compEnvC scope cl s3.heap.objs.size X.env)).onRaise (fun x=>do noteFrame x (compEnvC scope cl s3.heap.objs.size X.env);theTreesLotGoes x)) _ _ s4
    refine wpAny_noted ?_
    rw[compTurn_list1]
    refine wpAny_bind (wpAny_standAt (wpAny_bind ?_))
    rcases turn i n ys H4 w4 with⟨stop,qn⟩|⟨go,hz,step⟩
    · refine thn (T.done (blk X N' scope cl s3.heap.objs.size fp s3 H3) rfl rfl rfl hc i [] s4 (fr σ) H4 _ I4 (stat fr4) st4 stop) fun r s5 ⟨hr,I5⟩=>?_
      subst hr
      refine wpAny_pure ?_
      obtain⟨m,hn,_⟩:=I5.loc
      refine⟨m,hn,fun h' sb=>⟨.ref s2.heap.objs.size,H4,?_,rfl,qn⟩⟩
      have hb:∀b u,b≠s3.heap.objs.size->s5.heap.get? b=some u->h'.get? b=some u:=fun b u n e=>sb.extBut b u n e
      have hlt:∀b u,s3.heap.get? b=some u->b≠s3.heap.objs.size:=fun b u e=>Nat.ne_of_lt (Heap.lt_size e)
      have B:=I5.base
      refine I3.call' (s':={ s5 with heap:=h' }) (ch:=fp) I5.os ⟨fun b o e n1 n2 n3=>hb b o (hlt b o e) (B.keep b o e n1 n2 n3),fun b o e n1 n2 n3=>?_,B.free,fun b o e n1=>?_,B.tups,B.frzs,B.tbls⟩ (fun a o e=>?_) I5.bare (fun b hb'=>?_)
      · obtain⟨sl,z⟩:=B.slot b o e n1 n2 n3
        exact⟨sl,hb b _ (hlt b o e) z⟩
      · obtain⟨o',z⟩:=B.there b o e n1
        exact⟨o',hb b _ (hlt b o e) z⟩
      · have nC:∀c u,H4 c=some u->c≠s3.heap.objs.size:=fun c u z w=>by
          have:=I5.free
          rw[show (blk X N' scope cl s3.heap.objs.size fp s3 H3).env.locals=s3.heap.objs.size from rfl,←w,z] at this
          cases this
        refine (I5.hok a o e).stay (fun c u hcu q=>hb c u ?_ q) (fun _ q=>q) fun _ _ q=>q
        rcases hcu with z|z
        · rw[z];exact nC a o e
        · exact nC c _ z
      · exact⟨(f2 b hb').2.2.2.1,(f2 b hb').2.1,(f2 b hb').2.2.2.2.1,(f2 b hb').2.2.2.2.2⟩
    · refine thn (T.item (blk X N' scope cl s3.heap.objs.size fp s3 H3) rfl rfl rfl hc i [] s4 (fr σ) H4 _ I4 (stat fr4) st4 go) fun r s5 ⟨u,hr,h5⟩=>?_
      subst hr
      refine wpAny_bind (thn h5 fun _ s6 ⟨x,H6,I6,r6,y6,st6,fr6⟩=>?_)
      have I6':=I6.pinned (stat fr6) (T.obj _ _ st6)
      refine wpAny_bind (wpAny_mono (hg s3.heap.objs.size fp s3 H3 _ s6 (fr σ) H6 x u _ I6' r6 (step x H6 y6)) (fun _ s7 ⟨σ7,H7,I7,kp,q7⟩=>?_) fun _ _ z=>z.elim)
      refine wpAny_bind (wpAny_bind (wpAny_mono (he s3.heap.objs.size fp s3 H3 _ s7 σ7 H7 _ I7 q7) (fun v8 s8 ⟨y8,H8,I8,r8,hD,m',hm,w8⟩=>?_) fun _ _ z=>z.elim))
      have ap:=br (X:=blk X N' scope cl s3.heap.objs.size fp s3 H3) _ s8 σ7 H8 (.ref s2.heap.objs.size) [y8] (.ref s2.heap.objs.size) [v8] (fun _ H9=>W (i+1) m' (ys++[y8]) H9) I8 rfl (.cons r8 .nil) ⟨_,ys,y8,rfl,rfl,hD,hz,w8⟩
      refine wpAny_bind (wpAny_mono ap (fun _ s9 ⟨_,H9,I9,_,w9⟩=>wpAny_pure (wpAny_pure ⟨rfl,m',hm,i+1,ys++[y8],H9,?_,?_,?_,w9⟩)) fun _ _ z=>z.elim)
      · exact I9.unpinned.weak (by rw[kp.1]) kp.2
      · exact T.keep _ _ _ st6 fun b hb o e=>(I9.pin (b,o) (List.mem_append_right _ (List.mem_append_right _ (cb hb e)))).1
      · intro b hb
        obtain⟨o,e,d⟩:=T.obj _ _ st6 b hb
        exact (I9.pin (b,o) (List.mem_append_right _ (List.mem_append_right _ (cb hb e)))).2.1
  subst hs3
  exact codeAny_compStart_list loop (T.self X.A 0 _ _ _ stB loop)
end
def Gv (t:TE)(σ:St)(H:Hp)(R:V->Hp->Prop):Prop:=∀Q:VK,(∀v H',R v H'->Q v H')->t σ H Q
def GvT (t:TT)(σ:St)(H:Hp)(R:Bool->Hp->Prop):Prop:=∀Q:Bool->Hp->Prop,(∀v H',R v H'->Q v H')->t σ H Q
def GvA (t:TA)(σ:St)(H:Hp)(R:List V->Hp->Prop):Prop:=∀Q:List V->Hp->Prop,(∀v H',R v H'->Q v H')->t σ H Q
def Pu (t:TE)(σ:St)(H:Hp)(v:V):Prop:=∀Q:VK,Q v H->t σ H Q
def PuT (t:TT)(σ:St)(H:Hp)(b:Bool):Prop:=∀Q:Bool->Hp->Prop,Q b H->t σ H Q
def PuA (t:TA)(σ:St)(H:Hp)(vs:List V):Prop:=∀Q:List V->Hp->Prop,Q vs H->t σ H Q
def Is1 (v:V)(H:Hp):V->Hp->Prop:=fun w H'=>w=v/\H'=H
section
variable {σ:St}{H:Hp}{t ta tb tc:TE}{x y z v:V}{i j:Int}{b c:Bool}
theorem Pu.gv (h:Pu t σ H v):Gv t σ H (Is1 v H):=fun Q q=>h Q (q v H ⟨rfl,rfl⟩)
theorem Pu.gv' {R:V->Hp->Prop}(h:Pu t σ H v)(r:R v H):Gv t σ H R:=fun Q q=>h Q (q v H r)
theorem Gv.imp {R R':V->Hp->Prop}(h:Gv t σ H R)(f:∀v H',R v H'->R' v H'):Gv t σ H R':=fun Q q=>h Q fun v H' r=>q v H' (f v H' r)
theorem ah {k:Nat}(h:σ[k]?=some (some v)):Pu (cm k) σ H v:=fun _ q=>⟨v,h,q⟩
theorem pu_c:Pu (tC v) σ H v:=fun _ q=>q
theorem cv (ha:Pu ta σ H (.int i))(hb:Pu tb σ H (.int j)):Pu (tOp (rI0 fun i j=>.int (i+j)) ta tb) σ H (.int (i+j)):=fun _ q=>ha _ (hb _ ⟨i,j,rfl,rfl,q⟩)
theorem cq (ha:Pu ta σ H (.int i))(hb:Pu tb σ H (.int j)):Pu (tOp (rI0 fun i j=>.int (i - j)) ta tb) σ H (.int (i - j)):=fun _ q=>ha _ (hb _ ⟨i,j,rfl,rfl,q⟩)
theorem aJ (ha:Pu ta σ H (.int i))(hb:Pu tb σ H (.int j))(hm:IntMulOk i j):Pu (tOp (rI IntMulOk fun i j=>.int (i*j)) ta tb) σ H (.int (i*j)):=fun _ q=>ha _ (hb _ ⟨i,j,rfl,rfl,hm,q⟩)
theorem fF (ha:Pu ta σ H (.int i))(hb:Pu tb σ H (.int j))(hm:uM i j):Pu (tOp (rI uM fun i j=>.int (i.fdiv j)) ta tb) σ H (.int (i.fdiv j)):=fun _ q=>ha _ (hb _ ⟨i,j,rfl,rfl,hm,q⟩)
theorem ek (ha:Pu ta σ H (.int i))(hb:Pu tb σ H (.int j))(hm:j≠0):Pu (tOp (rI (fun _ j=>j≠0) fun i j=>.int (i.fmod j)) ta tb) σ H (.int (i.fmod j)):=fun _ q=>ha _ (hb _ ⟨i,j,rfl,rfl,hm,q⟩)
theorem gK (ha:Pu ta σ H (.int i))(hb:Pu tb σ H (.int j))(hm:pj i j):Pu (tOp (rI pj fun i j=>.int (i ^ j.toNat)) ta tb) σ H (.int (i ^ j.toNat)):=fun _ q=>ha _ (hb _ ⟨i,j,rfl,rfl,hm,q⟩)
theorem gL (ha:Pu ta σ H (.int i)):Pu (tUn (rU fun i=>.int (-i)) ta) σ H (.int (-i)):=fun _ q=>ha _ ⟨i,rfl,q⟩
theorem em (ha:Pu ta σ H (.int i))(hb:Pu tb σ H (.int j)):Pu (tOp (rI0 fun i j=>.bl (decide (i<j))) ta tb) σ H (.bl (decide (i<j))):=fun _ q=>ha _ (hb _ ⟨i,j,rfl,rfl,q⟩)
theorem sM (ha:Pu ta σ H (.int i))(hb:Pu tb σ H (.int j)):Pu (tOp (rI0 fun i j=>.bl (decide (i<=j))) ta tb) σ H (.bl (decide (i<=j))):=fun _ q=>ha _ (hb _ ⟨i,j,rfl,rfl,q⟩)
theorem fO (ha:Pu ta σ H (.int i))(hb:Pu tb σ H (.int j)):Pu (tOp (rI0 fun i j=>.bl (decide (j<i))) ta tb) σ H (.bl (decide (j<i))):=fun _ q=>ha _ (hb _ ⟨i,j,rfl,rfl,q⟩)
theorem xo (ha:Pu ta σ H (.int i))(hb:Pu tb σ H (.int j)):Pu (tOp (rI0 fun i j=>.bl (decide (j<=i))) ta tb) σ H (.bl (decide (j<=i))):=fun _ q=>ha _ (hb _ ⟨i,j,rfl,rfl,q⟩)
theorem cS (ha:Pu ta σ H (.int i))(hb:Pu tb σ H (.int j)):Pu (tOp rEq ta tb) σ H (.bl (decide (i=j))):=fun _ q=>ha _ (hb _ ⟨rfl,by rw[il,Bool.beq_eq_decide_eq];exact q⟩)
theorem jC (ha:Pu ta σ H (.int i))(hb:Pu tb σ H (.int j)):Pu (tOp rNe ta tb) σ H (.bl (!decide (i=j))):=fun _ q=>ha _ (hb _ ⟨rfl,by rw[il,Bool.beq_eq_decide_eq];exact q⟩)
theorem aw {K:PySem.W.Frag}{p:Addr}{xs:List V}(ha:Pu ta σ H (.ref p))(hb:Pu tb σ H (.int i))(h:SqT K H p xs)(e:atI xs i=some v):Pu (tOp (wA K) ta tb) σ H v:=fun _ q=>ha _ (hb _ ⟨p,xs,i,v,rfl,rfl,h,e,q⟩)
theorem bp {K:PySem.W.Frag}{p:Addr}{xs:List V}(ha:Pu ta σ H (.ref p))(hb:Pu tb σ H (.int i))(h:SqL K H p xs)(e:atI xs i=some v):Pu (tOp (iE K) ta tb) σ H v:=fun _ q=>ha _ (hb _ ⟨p,xs,i,v,rfl,rfl,h,e,q⟩)
theorem aB:PuA df σ H []:=fun _ q=>q
theorem ar {tr:TA}{vs:List V}(ha:Pu ta σ H x)(hr:PuA tr σ H vs):PuA (bG ta tr) σ H (x::vs):=fun _ q=>ha _ (hr _ q)
theorem bD {K:PySem.W.Frag}{p:Addr}{ys:List V}{t:TA}(ha:PuA t σ H [.ref p])(h:SqL K H p ys):Pu (tCB (fun xs H Q=>∃p ys,xs=[.ref p]/\(SqL K H p ys∨SqT K H p ys)/\Q (.int ys.length) H) t) σ H (.int ys.length):=fun _ q=>ha _ ⟨p,ys,rfl,.inl h,q⟩
theorem jD {t:TA}(ha:PuA t σ H [.int i]):Pu (tCB (fun xs H Q=>∃i,xs=[.int i]/\Q (.int (if i<0 then -i else i)) H) t) σ H (.int (i.natAbs:Int)):=fun _ q=>ha _ ⟨i,rfl,by
  rw[show (if i<0 then -i else i)=(i.natAbs:Int) by split <;> omega];exact q⟩
theorem sN {K:PySem.W.Frag}{n:String}{u:Value}{t:TA}(ha:PuA t σ H [x,.ty n])(ty:TyOf K H x u)(e:PySem.W.kitOne K u (.type n)=some b) :
    Pu (tCB (fun xs H Q=>∃x n t b,xs=[x,.ty n]/\TyOf K H x t/\PySem.W.kitOne K t (.type n)=some b/\Q (.bl b) H) t) σ H (.bl b):=fun _ q=>ha _ ⟨x,n,u,b,rfl,ty,e,q⟩
theorem sP {K:PySem.W.Frag}{ns ms:List Int}(ha:Pu ta σ H x)(hb:Pu tb σ H y)(h1:TupI K H x ns)(h2:TupI K H y ms):Pu (tOp (pR K false) ta tb) σ H (.bl (decide (ns=ms))):=fun _ q=>ha _ (hb _ ⟨ns,ms,h1,h2,q⟩)
theorem sI {K:PySem.W.Frag}{ns ms:List Int}(ha:Pu ta σ H x)(hb:Pu tb σ H y)(h1:TupI K H x ns)(h2:TupI K H y ms):Pu (tOp (pR K true) ta tb) σ H (.bl (!decide (ns=ms))):=fun _ q=>ha _ (hb _ ⟨ns,ms,h1,h2,q⟩)
theorem bM (h:Pu t σ H (.bl b)):PuT (pC t) σ H b:=fun _ q=>h _ ⟨b,rfl,q⟩
theorem gM (h:Pu t σ H (.bl b)):PuT (tB t) σ H b:=fun _ q=>h _ ⟨b,rfl,q⟩
theorem u7 {t:TT}(h:PuT t σ H b):PuT (wp t) σ H (!b):=fun _ q=>h _ q
theorem dR {t u:TT}(h:PuT t σ H b)(g:b=true->PuT u σ H c):PuT (wt t u) σ H (b && c):=fun Q q=>h _ (by
  cases b with
  | true=>rw[if_pos rfl];exact g rfl Q (by simpa using q)
  | false=>rw[if_neg Bool.false_ne_true];simpa using q)
theorem kx {t u:TT}(h:PuT t σ H b)(g:b=false->PuT u σ H c):PuT (tOr t u) σ H (b || c):=fun Q q=>h _ (by
  cases b with
  | false=>rw[if_neg Bool.false_ne_true];exact g rfl Q (by simpa using q)
  | true=>rw[if_pos rfl];simpa using q)
theorem lM (h:Pu ta σ H (.bl b))(g:b=true->Pu tb σ H (.bl c)):Pu (rZ ta tb) σ H (.bl (b && c)):=fun Q q=>h _ ⟨b,rfl,by
  cases b with
  | true=>rw[if_pos rfl];exact g rfl Q (by simpa using q)
  | false=>rw[if_neg Bool.false_ne_true];simpa using q⟩
theorem ga (h:Pu ta σ H (.bl b)):Pu (vS ta) σ H (.bl (!b)):=fun _ q=>h _ ⟨b,rfl,q⟩
theorem xx {R:V->Hp->Prop}(h:Gv t σ H R)(f:∀v H',R v H'->∃c,v=.bl c):GvT (tB t) σ H (fun c H'=>R (.bl c) H'):=fun Q q=>h _ fun v H' r=>by
  obtain⟨c,rfl⟩:=f v H' r
  exact⟨c,rfl,q c H' r⟩
theorem xH {t:TT}{R:Bool->Hp->Prop}(h:GvT t σ H R):GvT (wp t) σ H (fun c H'=>R (!c) H'):=fun Q q=>h _ fun v H' r=>q _ H' (by simpa using r)
theorem ur {t u:TT}{R R':Bool->Hp->Prop}(h:GvT t σ H R)(g:∀H',R true H'->GvT u σ H' R')(e:∀H',R false H'->R' false H'):GvT (wt t u) σ H R':=fun Q q=>h _ fun v H' r=>by
  cases v with
  | true=>rw[if_pos rfl];exact g H' r Q q
  | false=>rw[if_neg Bool.false_ne_true];exact q _ _ (e H' r)
theorem PuT.gt {t:TT}{R:Bool->Hp->Prop}(h:PuT t σ H b)(r:R b H):GvT t σ H R:=fun Q q=>h Q (q _ _ r)
variable {te:TE}{D:Ends}{rest u:TS}{k:Nat}
theorem bH (h:Pu te σ H v)(q:rest D (σ.set k (some v)) H):dQ (i9 te (bV k)) rest D σ H:=h _ q
theorem aH {R:V->Hp->Prop}(h:Gv te σ H R)(q:∀v H',R v H'->rest D (σ.set k (some v)) H'):dQ (i9 te (bV k)) rest D σ H:=h _ q
theorem fC (h:Pu te σ H v)(q:D.nx (σ.set k (some v)) H):i9 te (bV k) D σ H:=h _ q
theorem sf {R:V->Hp->Prop}(h:Gv te σ H R)(q:∀v H',R v H'->D.nx (σ.set k (some v)) H'):i9 te (bV k) D σ H:=h _ q
theorem bL (h:Pu te σ H v)(q:D.rt v H):wo te D σ H:=h _ q
theorem bn {R:V->Hp->Prop}(h:Gv te σ H R)(q:∀v H',R v H'->D.rt v H'):wo te D σ H:=h _ q
theorem so {R:V->Hp->Prop}(h:Gv te σ H R)(q:∀v H',R v H'->rest D σ H'):dQ (fM te) rest D σ H:=h _ q
theorem kn {R:V->Hp->Prop}(h:Gv te σ H R)(q:∀v H',R v H'->D.nx σ H'):fM te D σ H:=h _ q
theorem mw {tc:TT}{t u:TS}(h:PuT tc σ H b)(q1:b=true->t { D with nx:=rest D } σ H)(q2:b=false->u { D with nx:=rest D } σ H):dQ (i7 tc t u) rest D σ H:=h _ (by
  cases b with
  | true=>rw[if_pos rfl];exact q1 rfl
  | false=>rw[if_neg Bool.false_ne_true];exact q2 rfl)
theorem lD {tc:TT}{t u:TS}(h:PuT tc σ H b)(q1:b=true->t D σ H)(q2:b=false->u D σ H):i7 tc t u D σ H:=h _ (by
  cases b with
  | true=>rw[if_pos rfl];exact q1 rfl
  | false=>rw[if_neg Bool.false_ne_true];exact q2 rfl)
theorem ww {tc:TT}{t u:TS}{R:Bool->Hp->Prop}(h:GvT tc σ H R)(q1:∀H',R true H'->t { D with nx:=rest D } σ H')(q2:∀H',R false H'->u { D with nx:=rest D } σ H'):dQ (i7 tc t u) rest D σ H:=h _ fun b H' r=>by
  cases b with
  | true=>rw[if_pos rfl];exact q1 H' r
  | false=>rw[if_neg Bool.false_ne_true];exact q2 H' r
variable {sp:Sp}{E:XK}
theorem cu {t:TA}{vs:List V}(h:PuA t σ H vs)(hs:∀Q,Q v H->sp (vs++[]) H Q E):Pu (ce sp [] E t) σ H v:=fun Q q=>h _ (hs Q q)
theorem aX {t:TA}{vs:List V}{R:V->Hp->Prop}(h:PuA t σ H vs)(hs:∀Q:VK,(∀v H',R v H'->Q v H')->sp (vs++[]) H Q E):Gv (ce sp [] E t) σ H R:=fun Q q=>h _ (hs Q q)
theorem bR {t:TA}{R:V->Hp->Prop}{RA:List V->Hp->Prop}(h:GvA t σ H RA)(hs:∀vs H1,RA vs H1->∀Q:VK,(∀v H',R v H'->Q v H')->sp (vs++[]) H1 Q E):Gv (ce sp [] E t) σ H R:=fun Q q=>h _ fun vs H1 r=>hs vs H1 r Q q
theorem cU:GvA df σ H (fun vs H'=>vs=[]/\H'=H):=fun Q q=>q _ _ ⟨rfl,rfl⟩
theorem bi {tr:TA}{R1:V->Hp->Prop}{R2:V->Hp->List V->Hp->Prop}(h:Gv ta σ H R1)(g:∀x H1,R1 x H1->GvA tr σ H1 (R2 x H1)) :
    GvA (bG ta tr) σ H (fun vs H'=>∃x H1 r,vs=x::r/\R1 x H1/\R2 x H1 r H'):=fun Q q=>h _ fun x H1 r1=>g x H1 r1 _ fun r H' r2=>q _ _ ⟨x,H1,r,rfl,r1,r2⟩
theorem v4 {t:TA}{vs:List V}(h:PuA t σ H vs):GvA t σ H (fun ws H'=>ws=vs/\H'=H):=fun Q q=>h _ (q _ _ ⟨rfl,rfl⟩)
theorem cx {t:TA}{vs:List V}(h:PuA t σ H vs)(hz:vs.length<=sizeLine):Gv (nW t) σ H (fun v H'=>∃p,H p=none/\v=.ref p/\H'=upd H p (.tup vs)):=fun Q q=>h _ ⟨hz,fun p hp=>q _ _ ⟨p,hp,rfl,rfl⟩⟩
theorem cO {t:TA}{vs:List V}(h:PuA t σ H vs)(hz:vs.length<=sizeLine):Gv (wr t) σ H (fun v H'=>∃p,H p=none/\v=.ref p/\H'=upd H p (.lst vs)):=fun Q q=>h _ ⟨hz,fun p hp=>q _ _ ⟨p,hp,rfl,rfl⟩⟩
end
theorem Same.upd {H:Hp}{p:Addr}{o:HO}(h:H p=none):Same H (upd H p o):=fun b u e=>by rw[aF (aV e h)];exact e
def SameB (l:Addr)(H H':Hp):Prop:=∀b o,H b=some o->b≠l->H' b=some o
theorem Same.b {H H':Hp}{l:Addr}(e:Same H H'):SameB l H H':=fun b o h _=>e b o h
theorem SameB.refl (l:Addr)(H:Hp):SameB l H H:=fun _ _ h _=>h
theorem SameB.trans {l:Addr}{H H1 H2:Hp}(a:SameB l H H1)(b:SameB l H1 H2):SameB l H H2:=fun c o h n=>b c o (a c o h n) n
theorem SameB.upd {l:Addr}{H:Hp}{o:HO}:SameB l H (upd H l o):=fun b u e n=>by rw[aF n];exact e
theorem TupI.of {K:PySem.W.Frag}{H:Hp}{a:Addr}{ns:List Int}(h:H a=some (.tup (ns.map V.int))):TupI K H (.ref a) ns:=⟨a,rfl,SqT.of h⟩
structure Fn (K:PySem.W.Frag)(mg:Str->Option Value)(x:Str)(st:Stmt)(f:Addr)(fd:FuncData)(ps:List Str):Prop where
  F:Fun K x x st f fd
  b:Binds K fd ps []
  m:mg x=some (.ref f)
section
variable {X:Cx}{x:Str}{st:Stmt}{f:Addr}{fd:FuncData}{ps:List Str}{sp:Sp}{k j:Nat}{e:Expr}{es:List Expr}{t:TA}{p pos:Pos}
theorem aA (T:Fn X.K X.mg x st f fd ps)(G:FnOk X.prog X.w X.K X.mg X.base CX0 k f fd ps sp)(hr:Room j X.A)(hj:k<=j)(ha:PA X (e::es) t)(hg:Gl X x:=by rfl)(hdb:(x == ("__debug__" : Str))=false:=by decide)
    (he:starEach (e::es) X.env=(false,eval e X.env)::starEach es X.env:=by rfl) (hpl:(backTo pos (starEach es X.env)).any (·.1)=false:=by rfl):PE X (.Call (.Name x p) (e::es) [] pos) (ce sp [] E0 t):=
  vf G (hr.mono hj) hg T.m T.F.kp T.b .nil vY ha hdb he hpl
theorem vX {n:Str}{T:String}{pos:Pos}(hm:X.mg n=none)(hv:bootBuiltins n=some (.type T))(hg:Gl X n:=by rfl)(hn:n≠"__name__":=by decide)(hd:(n == ("__debug__" : Str))=false:=by decide):PE X (.Name n pos) (tC (.ty T)):=
  vh hg hm hv rfl hn hd
end
end L2
namespace L2
theorem dI {k x:Int}(h:k≠0):(k*x).fdiv k=x:=Int.mul_fdiv_cancel_left x h
structure Pt3 where
  x:Int
  y:Int
  z:Int
def lex (w u:Int):Bool:=if w=0 then decide (0<u) else decide (0<w)
def ahd (p q:Pt3):Bool:=if p.x*q.z=q.x*p.z then decide (p.y*q.z<q.y*p.z) else decide (p.x*q.z<q.x*p.z)
def sgn (x:Int):Int:=if 0<x then 1 else if x<0 then -1 else 0
def det (p q r:Pt3):Int:=(p.y*q.z - p.z*q.y)*r.x+(p.z*q.x - p.x*q.z)*r.y+(p.x*q.y - p.y*q.x)*r.z
def onB (p a b:Pt3):Bool:=if det a b p=0 then (if ahd a b=true then !ahd p a && !ahd b p else !ahd p b && !ahd a p) else false
structure Is3 (A B C:Int)(r:Pt3):Prop where
  pos:0<r.z
  cop:Int.gcd (Int.gcd r.z r.x) r.y=1
  ex:∃d,0<d/\A=d*r.x/\B=d*r.y/\C=d*r.z
def bS (p q:Pt3):Prop:=¬(p.x*q.z=q.x*p.z/\p.y*q.z=q.y*p.z)
theorem dG {k w u:Int}(h:0<k):lex (k*w) (k*u)=lex w u:=by
  unfold lex
  by_cases hw:w=0
  · subst hw
    simp only[Int.mul_zero,if_true]
    by_cases hu:0<u
    · simp[hu,Int.mul_pos h hu]
    · have:¬0<k*u:=by
        have:=Int.mul_nonpos_of_nonneg_of_nonpos (a:=k) (b:=u) (by omega) (by omega)
        omega
      simp[hu,this]
  · have hk:k*w≠0:=Int.mul_ne_zero (by omega) hw
    rw[if_neg hk,if_neg hw]
    by_cases hp:0<w
    · simp[hp,Int.mul_pos h hp]
    · have:¬0<k*w:=by
        have:=Int.mul_nonpos_of_nonneg_of_nonpos (a:=k) (b:=w) (by omega) (by omega)
        omega
      simp[hp,this]
theorem tW:lex 0 0=false:=by decide
theorem p9 {w u:Int}(h:¬(w=0/\u=0)):lex (-w) (-u) = !lex w u:=by
  unfold lex
  by_cases hw:w=0
  · subst hw
    have hu:u≠0:=fun e=>h ⟨rfl,e⟩
    rw[if_pos (by omega),if_pos rfl]
    by_cases hu':0<u
    · rw[decide_eq_true hu',decide_eq_false (show ¬0 < -u by omega)];rfl
    · rw[decide_eq_false hu',decide_eq_true (show 0 < -u by omega)];rfl
  · rw[if_neg (by omega),if_neg hw]
    by_cases hp:0<w
    · rw[decide_eq_true hp,decide_eq_false (show ¬0 < -w by omega)];rfl
    · rw[decide_eq_false hp,decide_eq_true (show 0 < -w by omega)];rfl
theorem jm (p q:Pt3):ahd p q=lex (q.x*p.z - p.x*q.z) (q.y*p.z - p.y*q.z):=by
  unfold ahd lex
  by_cases h:p.x*q.z=q.x*p.z
  · rw[if_pos h,if_pos (by omega)]
    congr 1
    exact propext ⟨fun h=>by omega,fun h=>by omega⟩
  · rw [if_neg h, if_neg (by omega)]
    congr 1
    exact propext ⟨fun h=>by omega,fun h=>by omega⟩
theorem qM {k x:Int}(h:0<k):sgn (k*x)=sgn x:=by
  unfold sgn
  by_cases h1:0<x
  · rw[if_pos (Int.mul_pos h h1),if_pos h1]
  · have n1:¬0<k*x:=by
      have:=Int.mul_nonpos_of_nonneg_of_nonpos (a:=k) (b:=x) (by omega) (by omega)
      omega
    rw[if_neg n1,if_neg h1]
    by_cases h2:x<0
    · rw[if_pos (Int.mul_neg_of_pos_of_neg h h2),if_pos h2]
    · have:x=0:=by omega
      subst this
      simp
theorem sgn_eq0 {x:Int}:sgn x=0↔x=0:=by
  unfold sgn
  by_cases h1:0<x
  · rw[if_pos h1];omega
  · rw[if_neg h1]
    by_cases h2:x<0
    · rw[if_pos h2];omega
    · rw[if_neg h2];omega
theorem uB (p q r:Pt3):(q.x*p.z - p.x*q.z)*(r.y*p.z - p.y*r.z) - (q.y*p.z - p.y*q.z)*(r.x*p.z - p.x*r.z)=p.z*det p q r:=by
  unfold det;grind
theorem nI (p q r:Pt3):det q p r = - det p q r:=by
  unfold det;grind
theorem gi {a b:Pt3}(h:bS a b):ahd b a = !ahd a b:=by
  rw[jm,jm]
  have e1:a.x*b.z - b.x*a.z = -(b.x*a.z - a.x*b.z):=by omega
  have e2:a.y*b.z - b.y*a.z = -(b.y*a.z - a.y*b.z):=by omega
  rw[e1,e2]
  exact p9 fun z=>h ⟨by omega,by omega⟩
theorem tJ {p a b:Pt3}(h:bS a b):onB p b a=onB p a b:=by
  unfold onB
  have e:(det b a p=0)=(det a b p=0):=by rw[nI];exact propext ⟨fun h=>by omega,fun h=>by omega⟩
  simp only[e,gi h]
  cases ahd a b <;> simp
theorem xa {p q:Pt3}(hp:0<p.z)(hq:0<q.z)(gp:Int.gcd (Int.gcd p.z p.x) p.y=1)(gq:Int.gcd (Int.gcd q.z q.x) q.y=1)(h:¬bS p q):p.x=q.x/\p.y=q.y/\p.z=q.z:=by
  have h':p.x*q.z=q.x*p.z/\p.y*q.z=q.y*p.z:=by
    unfold bS at h;exact Decidable.of_not_not h
  have key:∀(a b:Pt3),Int.gcd (Int.gcd a.z a.x) a.y=1->a.x*b.z=b.x*a.z->a.y*b.z=b.y*a.z->a.z ∣ b.z:=by
    intro a b g h1 h2
    have d1:a.z ∣ ((Int.gcd a.z a.x:Nat):Int)*b.z:=by
      rw[←Int.dvd_natAbs,Int.natAbs_mul,Int.natAbs_natCast,←Int.gcd_mul_right]
      exact Int.dvd_coe_gcd ⟨b.z,rfl⟩ ⟨b.x,by rw[h1,Int.mul_comm]⟩
    have d2:a.z ∣ a.y*b.z:=⟨b.y,by rw[h2,Int.mul_comm]⟩
    have d3:a.z ∣ ((Int.gcd ((Int.gcd a.z a.x:Nat):Int) a.y:Nat):Int)*b.z:=by
      rw[←Int.dvd_natAbs,Int.natAbs_mul,Int.natAbs_natCast,←Int.gcd_mul_right]
      exact Int.dvd_coe_gcd d1 d2
    rw[g] at d3
    simpa using d3
  have z1:=key p q gp h'.1 h'.2
  have z2:=key q p gq h'.1.symm h'.2.symm
  have ez:p.z=q.z:=Int.dvd_antisymm (by omega) (by omega) z1 z2
  refine⟨?_,?_,ez⟩
  · have:=h'.1
    rw[ez] at this
    exact Int.eq_of_mul_eq_mul_right (by omega) this
  · have:=h'.2
    rw[ez] at this
    exact Int.eq_of_mul_eq_mul_right (by omega) this
theorem uF {a b r:Pt3}{s t:Int}(ha:0<a.z)(hb:0<b.z)(ht:0<t)(hab:bS a b)
    (h:Is3 (a.x*b.z*t+(b.x*a.z - a.x*b.z)*s) (a.y*b.z*t+(b.y*a.z - a.y*b.z)*s) (a.z*b.z*t) r) :
    det a b r=0/\onB r a b=(decide (0<=s) && decide (s<=t)):=by
  obtain⟨d,hd,e1,e2,e3⟩:=h.ex
  have hdet:det a b r=0:=by
    have:d*det a b r=0:=by
      have h1:d*det a b r=(a.y*b.z - a.z*b.y)*(d*r.x)+(a.z*b.x - a.x*b.z)*(d*r.y)+(a.x*b.y - a.y*b.x)*(d*r.z):=by unfold det;grind
      rw[h1,←e1,←e2,←e3];grind
    rcases Int.mul_eq_zero.mp this with z|z
    · omega
    · exact z
  refine⟨hdet,?_⟩
  unfold onB
  rw[if_pos hdet]
  simp only[jm]
  generalize hW:b.x*a.z - a.x*b.z=W
  generalize hU:b.y*a.z - a.y*b.z=U
  have hWU:¬(W=0/\U=0):=fun z=>hab ⟨by omega,by omega⟩
  rw[hW] at e1
  rw[hU] at e2
  have c1:lex (a.x*r.z - r.x*a.z) (a.y*r.z - r.y*a.z)=lex (-(s*W)) (-(s*U)):=by
    rw[←dG (k:=d) hd,←dG (k:=a.z) ha (w:=-(s*W))]
    congr 1
    · have:d*(a.x*r.z - r.x*a.z)=a.x*(d*r.z) - (d*r.x)*a.z:=by grind
      rw[this,←e1,←e3];grind
    · have:d*(a.y*r.z - r.y*a.z)=a.y*(d*r.z) - (d*r.y)*a.z:=by grind
      rw[this,←e2,←e3];grind
  have c2:lex (r.x*b.z - b.x*r.z) (r.y*b.z - b.y*r.z)=lex (-((t - s)*W)) (-((t - s)*U)):=by
    rw[←dG (k:=d) hd,←dG (k:=b.z) hb (w:=-((t - s)*W))]
    congr 1
    · have:d*(r.x*b.z - b.x*r.z)=(d*r.x)*b.z - b.x*(d*r.z):=by grind
      rw[this,←e1,←e3,←hW];grind
    · have:d*(r.y*b.z - b.y*r.z)=(d*r.y)*b.z - b.y*(d*r.z):=by grind
      rw[this,←e2,←e3,←hU];grind
  have c3:lex (b.x*r.z - r.x*b.z) (b.y*r.z - r.y*b.z)=lex ((t - s)*W) ((t - s)*U):=by
    rw[←dG (k:=d) hd,←dG (k:=b.z) hb (w:=(t - s)*W)]
    congr 1
    · have:d*(b.x*r.z - r.x*b.z)=b.x*(d*r.z) - (d*r.x)*b.z:=by grind
      rw[this,←e1,←e3,←hW];grind
    · have:d*(b.y*r.z - r.y*b.z)=b.y*(d*r.z) - (d*r.y)*b.z:=by grind
      rw[this,←e2,←e3,←hU];grind
  have c4:lex (r.x*a.z - a.x*r.z) (r.y*a.z - a.y*r.z)=lex (s*W) (s*U):=by
    rw[←dG (k:=d) hd,←dG (k:=a.z) ha (w:=s*W)]
    congr 1
    · have:d*(r.x*a.z - a.x*r.z)=(d*r.x)*a.z - a.x*(d*r.z):=by grind
      rw[this,←e1,←e3];grind
    · have:d*(r.y*a.z - a.y*r.z)=(d*r.y)*a.z - a.y*(d*r.z):=by grind
      rw[this,←e2,←e3];grind
  have sg:∀k:Int,lex (k*W) (k*U)=if 0<k then lex W U else if k<0 then !lex W U else false:=by
    intro k
    by_cases h1:0<k
    · rw[if_pos h1,dG h1]
    · rw[if_neg h1]
      by_cases h2:k<0
      · rw[if_pos h2]
        have e1:k*W=(-k)*(-W):=by grind
        have e2:k*U=(-k)*(-U):=by grind
        rw[e1,e2,dG (by omega),p9 hWU]
      · rw[if_neg h2]
        have:k=0:=by omega
        subst this
        simp[tW]
  have sn:∀k:Int,lex (-(k*W)) (-(k*U))=if 0<k then !lex W U else if k<0 then lex W U else false:=by
    intro k
    have e1 : -(k*W)=(-k)*W:=by grind
    have e2 : -(k*U)=(-k)*U:=by grind
    rw[e1,e2,sg]
    by_cases h1:0<k
    · rw[if_neg (by omega),if_pos (by omega),if_pos h1]
    · by_cases h2:k<0
      · rw[if_pos (by omega),if_neg h1,if_pos h2]
      · rw[if_neg (by omega),if_neg (by omega),if_neg h1,if_neg h2]
  have e5:(r.x*b.z - b.x*r.z)=(r.x*b.z - b.x*r.z):=rfl
  rw[c1,c2,c3,c4,sg,sg,sn,sn]
  generalize lex W U=L
  clear c1 c2 c3 c4 sg sn e5 e1 e2 e3 hWU hdet
  by_cases q1:0<s
  · have z1:decide (0<=s)=true:=decide_eq_true (by omega)
    by_cases q2:0<t - s
    · have z2:decide (s<=t)=true:=decide_eq_true (by omega)
      rw[if_pos q1,if_pos q1,if_pos q2,if_pos q2,z1,z2]
      cases L <;> rfl
    · by_cases q3:t - s<0
      · have z2:decide (s<=t)=false:=decide_eq_false (by omega)
        rw[if_pos q1,if_pos q1,if_neg q2,if_neg q2,if_pos q3,if_pos q3,z1,z2]
        cases L <;> rfl
      · have z2:decide (s<=t)=true:=decide_eq_true (by omega)
        rw[if_pos q1,if_pos q1,if_neg q2,if_neg q2,if_neg q3,if_neg q3,z1,z2]
        cases L <;> rfl
  · have q2:0<t - s:=by omega
    have z2:decide (s<=t)=true:=decide_eq_true (by omega)
    by_cases q4:s<0
    · have z1:decide (0<=s)=false:=decide_eq_false (by omega)
      rw[if_neg q1,if_neg q1,if_pos q4,if_pos q4,if_pos q2,if_pos q2,z1,z2]
      cases L <;> rfl
    · have z1:decide (0<=s)=true:=decide_eq_true (by omega)
      rw[if_neg q1,if_neg q1,if_neg q4,if_neg q4,if_pos q2,if_pos q2,z1,z2]
      cases L <;> rfl
theorem sqn (a:Int):0<=a*a:=by
  rcases Int.le_total 0 a with h|h
  · exact Int.mul_nonneg h h
  · exact Int.mul_nonneg_of_nonpos_of_nonpos h h
theorem lO {a b c:Int}(hc:0<c):let d:Int:=Int.gcd (Int.gcd c a) b;Is3 a b c ⟨a.fdiv d,b.fdiv d,c.fdiv d⟩/\0<d:=by
  intro d
  have p1:0<Int.gcd c a:=Int.gcd_pos_of_ne_zero_left a (by omega)
  have p2:0<Int.gcd ((Int.gcd c a:Nat):Int) b:=Int.gcd_pos_of_ne_zero_left b (by omega)
  have hd:0<d:=by show 0<((Int.gcd ((Int.gcd c a:Nat):Int) b:Nat):Int);omega
  have dg:d ∣ ((Int.gcd c a:Nat):Int):=Int.gcd_dvd_left _ _
  obtain⟨z,hz⟩:d ∣ c:=Int.dvd_trans dg (Int.gcd_dvd_left c a)
  obtain⟨x,hx⟩:d ∣ a:=Int.dvd_trans dg (Int.gcd_dvd_right c a)
  obtain⟨y,hy⟩:d ∣ b:=Int.gcd_dvd_right _ _
  have ex:a.fdiv d=x:=by
    conv=>lhs;arg 1;rw[hx]
    exact dI (by omega)
  have ey:b.fdiv d=y:=by
    conv=>lhs;arg 1;rw[hy]
    exact dI (by omega)
  have ez:c.fdiv d=z:=by
    conv=>lhs;arg 1;rw[hz]
    exact dI (by omega)
  rw[ex,ey,ez]
  refine⟨⟨?_,?_,d,hd,hx,hy,hz⟩,hd⟩
  · show 0<z
    by_cases h:0<z
    · exact h
    · have:=Int.mul_nonpos_of_nonneg_of_nonpos (a:=d) (b:=z) (by omega) (by omega)
      omega
  · show Int.gcd ((Int.gcd z x:Nat):Int) y=1
    have h1:Int.gcd c a=d.natAbs*Int.gcd z x:=by
      conv=>lhs;rw[hz,hx]
      exact Int.gcd_mul_left d z x
    have h2:d.natAbs=d.natAbs*Int.gcd ((Int.gcd z x:Nat):Int) y:=by
      have h3:((Int.gcd c a:Nat):Int)=d*((Int.gcd z x:Nat):Int):=by
        rw[h1]
        have:((d.natAbs:Nat):Int)=d:=by omega
        rw[Int.natCast_mul,this]
      have h4:Int.gcd ((Int.gcd c a:Nat):Int) b=d.natAbs*Int.gcd ((Int.gcd z x:Nat):Int) y:=by
        conv=>lhs;rw[h3,hy]
        exact Int.gcd_mul_left d _ y
      exact h4
    have h5:d.natAbs*1=d.natAbs*Int.gcd ((Int.gcd z x:Nat):Int) y:=by rw[Nat.mul_one];exact h2
    exact (Nat.eq_of_mul_eq_mul_left (by omega) h5).symm
theorem Is3.le {A B C:Int}{r:Pt3}(h:Is3 A B C r):r.x.natAbs<=A.natAbs/\r.y.natAbs<=B.natAbs/\r.z.natAbs<=C.natAbs:=by
  obtain⟨d,hd,e1,e2,e3⟩:=h.ex
  have key:∀z,z.natAbs<=(d*z).natAbs:=fun z=>by
    rw[Int.natAbs_mul]
    calc z.natAbs=1*z.natAbs:=(Nat.one_mul _).symm
      _<=d.natAbs*z.natAbs:=Nat.mul_le_mul_right _ (by omega)
  exact⟨by rw[e1];exact key _,by rw[e2];exact key _,by rw[e3];exact key _⟩
end L2
namespace L2
open PySem PySem.Spec PyProof.Rows
section
variable {X:Cx}
def vW (K:PySem.W.Frag):V->V->Hp->VK->Prop:=fun x y H Q=>∃p xs i v,x=.ref p/\y=.int i/\0<=i/\SqL K H p xs/\atI xs i=some v/\Q v H
theorem nA:xz X (vW X.K):=by
  intro pins s σ H x y v u Q I rx ry h
  obtain⟨p,xs,i,z,rfl,rfl,h0,hq,he,q⟩:=h
  cases rx
  obtain⟨t,rfl⟩:=ry
  obtain⟨its,r,pl,hz⟩:=I.list hq
  obtain⟨j,h1,h2,h3,h4,h5⟩:=me he
  obtain⟨w,ew,rw'⟩:=r.get h2
  have hn:=iH
  have hj:i.toNat=j:=by
    rw[seqIndex_of h0 h5] at h1
    exact Option.some.inj h1
  exact wpAny_getItem_list pl.isList h0 (by omega) (by rw[hj];simpa using ew) ⟨z,H,I,rw',q⟩
end
section
variable {σ:St}{H:Hp}{D:Ends}{rest:TS}{te to ti:TE}{v:V}{p:Addr}{xs:List V}{k i:Int}{j:Nat}
theorem jt (h:Pu te σ H v)(ho:Pu to σ H (.ref p))(hi:Pu ti σ H (.int k))(hp:H p=some (.lst xs))(hj:ixN xs.length k=some j)(q:rest D σ (upd H p (.lst (xs.set j v)))):dQ (i9 te (wU to ti pP)) rest D σ H:=
  h _ (ho _ (hi _ ⟨p,xs,k,j,rfl,rfl,hp,hj,q⟩))
theorem pF (h:Pu te σ H v)(ho:Pu to σ H (.ref p))(hi:Pu ti σ H (.int k))(hp:H p=some (.lst xs))(hj:ixN xs.length k=some j)(q:D.nx σ (upd H p (.lst (xs.set j v)))):i9 te (wU to ti pP) D σ H:=
  h _ (ho _ (hi _ ⟨p,xs,k,j,rfl,rfl,hp,hj,q⟩))
theorem pJ {K:PySem.W.Frag}{f:Int->Int->Int}{a b:Int}(ho:Pu to σ H (.ref p))(hi:Pu ti σ H (.int k))(h0:0<=k)(hp:H p=some (.lst xs))(ha:atI xs k=some (.int a))(h:Pu te σ H (.int b))(hj:ixN xs.length k=some j)
    (q:rest D σ (upd H p (.lst (xs.set j (.int (f a b)))))):dQ (vT to ti te (vW K) (ipI f) pP) rest D σ H:=
  ho _ (hi _ ⟨p,xs,k,.int a,rfl,rfl,h0,SqL.of hp,ha,h _ ⟨a,b,rfl,rfl,p,xs,k,j,rfl,rfl,hp,hj,q⟩⟩)
theorem eS {c:TT}{tb:TS}(Pv:St->Hp->Prop)(μ:St->Hp->Nat)(h0:Pv σ H)
    (hs:∀σ H,Pv σ H->∃b,PuT c σ H b/\(b=true->tb { D with nx:=fun σ' H'=>Pv σ' H'/\μ σ' H'<μ σ H,ct:=fun σ' H'=>Pv σ' H'/\μ σ' H'<μ σ H,bk:=rest D } σ H)/\(b=false->rest D σ H)) :
    dQ (nV c tb) rest D σ H:=by
  refine⟨fun m σ H=>m=μ σ H/\Pv σ H,⟨_,rfl,h0⟩,?_⟩
  rintro m σ H ⟨rfl,p⟩
  obtain⟨b,hb,h1,h2⟩:=hs σ H p
  refine hb _ ?_
  cases b with
  | true=>rw[if_pos rfl];exact⟨_,fun σ' H' ⟨p',l⟩=>⟨_,l,rfl,p'⟩,h1 rfl⟩
  | false=>rw[if_neg Bool.false_ne_true];exact h2 rfl
theorem gk {g:TG}{tb:TS}{ta:TA}{R:List V->Hp->Prop}(ha:GvA ta σ H R)
    (hr:∀vs H1,R vs H1->∃n:Int,vs=[.int n]/\-(2 ^ 62)<=n/\n<2 ^ 62/\∃Pv:Nat->St->Hp->Prop,Pv 0 σ H1/\
    (∀(i:Nat) σ H,i<n.toNat->Pv i σ H->g (.int (0+i)) σ H fun σ2 H2=>tb { D with nx:=Pv (i+1),ct:=Pv (i+1),bk:=rest D } σ2 H2)/\(∀σ H,Pv n.toNat σ H->rest D σ H)) :
    dQ (nY (uh ta) g tb) rest D σ H:=
  ha _ fun vs H1 r=>by
    obtain⟨n,rfl,h1,h2,Pv,h0,hs,hd⟩:=hr vs H1 r
    exact⟨n,rfl,h1,h2,rF (D:={ D with nx:=rest D }) Pv h0 hs hd⟩
theorem pG {K:PySem.W.Frag}{g:TG}{tb:TS}{a:Addr}(ha:Pu te σ H (.ref a))(Pv:Nat->St->Hp->Prop)(h0:Pv 0 σ H)(hl:∀i σ H,i<=xs.length->Pv i σ H->SqL K H a xs)
    (hs:∀(i:Nat) x σ H,xs[i]?=some x->Pv i σ H->g x σ H fun σ2 H2=>tb { D with nx:=Pv (i+1),ct:=Pv (i+1),bk:=rest D } σ2 H2) (hd:∀σ H,Pv xs.length σ H->rest D σ H) :
    dQ (nY (gJ K te) g tb) rest D σ H:=
  ha _ ⟨a,rfl,⟨xs,hl 0 σ H (Nat.zero_le _) h0⟩,jT (D:={ D with nx:=rest D }) Pv h0 hl hs hd⟩
end
def TupT (H:Hp)(v:V)(ns:List Int):Prop:=∃a,v=.ref a/\H a=some (.tup (ns.map V.int))
theorem TupT.i {K:PySem.W.Frag}{H:Hp}{v:V}{ns:List Int}(h:TupT H v ns):TupI K H v ns:=by
  obtain⟨a,rfl,h⟩:=h
  exact⟨a,rfl,SqT.of h⟩
theorem TupT.same {H H':Hp}{v:V}{ns:List Int}(h:TupT H v ns)(e:Same H H'):TupT H' v ns:=by
  obtain⟨a,rfl,h⟩:=h
  exact⟨a,rfl,e _ _ h⟩
theorem TupT.sameB {H H':Hp}{l:Addr}{ys:List V}{v:V}{ns:List Int}(h:TupT H v ns)(e:SameB l H H')(hl:H l=some (.lst ys)):TupT H' v ns:=by
  obtain⟨a,rfl,h⟩:=h
  exact⟨a,rfl,e _ _ h (m6 h hl (by intro z;cases z))⟩
theorem TupT.of {H:Hp}{a:Addr}{ns:List Int}(h:H a=some (.tup (ns.map V.int))):TupT H (.ref a) ns:=⟨a,rfl,h⟩
theorem Bd.small {i:Int}{n:Nat}(h:i.natAbs<2 ^ 64:=by decide)(e:64<=n:=by decide):Bd n i:=Bd.mono (m:=64) h e
theorem eK {names:List (Str×NameKind)}{cl:List (Str×Addr)}(h:(names.all fun p=>p.2 != .cell && p.2 != .free)=true):∀y,(names.lookup y=some .cell∨names.lookup y=some .free)->∃c,cl.lookup y=some c:=by
  intro y hy
  exfalso
  have key:∀(l:List (Str×NameKind)) (k:NameKind),l.lookup y=some k->∃p∈l,p.2=k:=by
    intro l k
    induction l with
    | nil=>intro e;cases e
    | cons p r ih=>
      intro e
      rw[List.lookup_cons] at e
      split at e
      · exact⟨p,List.mem_cons_self,Option.some.inj e⟩
      · obtain⟨q,hq,eq⟩:=ih e
        exact⟨q,List.mem_cons_of_mem _ hq,eq⟩
  rw[List.all_eq_true] at h
  rcases hy with e|e
  · obtain⟨p,hp,eq⟩:=key _ _ e
    have:=h p hp
    rw[eq] at this
    exact absurd this (by decide)
  · obtain⟨p,hp,eq⟩:=key _ _ e
    have:=h p hp
    rw[eq] at this
    exact absurd this (by decide)
theorem nE {x y:Int}(h1:0<=x)(h2:0<=y):Int.gcd y (x.fmod y)=Int.gcd x y:=by
  rw[Int.fmod_eq_emod_of_nonneg _ h2]
  obtain⟨m,rfl⟩:=Int.eq_ofNat_of_zero_le h1
  obtain⟨n,rfl⟩:=Int.eq_ofNat_of_zero_le h2
  rw[←Int.natCast_emod]
  show Nat.gcd n (m % n)=Nat.gcd m n
  rw[Nat.gcd_comm,←Nat.gcd_rec,Nat.gcd_comm]
theorem jk {x y:Int}(h2:0<y):0<=x.fmod y/\x.fmod y<y:=by
  rw[Int.fmod_eq_emod_of_nonneg _ (Int.le_of_lt h2)]
  exact⟨Int.emod_nonneg _ (by omega),Int.emod_lt_of_pos _ h2⟩
theorem nB (x:Int)(h:0<=x):((Int.gcd x 0:Nat):Int)=x:=by
  rw[Int.gcd_zero_right];omega
theorem Bd.gcd_right {n:Nat}{a b:Int}(hb:b≠0)(h:Bd n b):Bd n (Int.gcd a b:Int):=by
  refine h.le ?_
  exact Nat.le_of_dvd (by omega) (Int.gcd_dvd_natAbs_right a b)
section
variable {σ:St}{H:Hp}{D:Ends}{rest:TS}{te:TE}{b:Bool}{k:Nat}{v0:V}
theorem cn {tc:TT}{t:TS}(h:PuT tc σ H b)(q1:b=true->t { D with nx:=rest D } σ H)(q2:b=false->rest D σ H):dQ (i7 tc t gU) rest D σ H:=mw h q1 q2
theorem gl {tc:TT}{t:TS}{R:Bool->Hp->Prop}(h:GvT tc σ H R)(q1:∀H',R true H'->t { D with nx:=rest D } σ H')(q2:∀H',R false H'->rest D σ H'):dQ (i7 tc t gU) rest D σ H:=ww h q1 q2
theorem je {tc:TT}{t:TS}(h:PuT tc σ H b)(q1:b=true->t D σ H)(q2:b=false->D.nx σ H):i7 tc t gU D σ H:=lD h q1 q2
theorem fT {tc:TT}{R:V->Hp->Prop}(hc:PuT tc σ H b)(he:b=true->Gv te σ H R)(h0:σ.set k (some v0)=σ)(r0:b=false->R v0 H)(q:∀v H',R v H'->rest D (σ.set k (some v)) H') :
    dQ (i7 tc (i9 te (bV k)) gU) rest D σ H:=by
  refine mw hc (fun e=>sf (he e) q) fun e=>?_
  have:=q v0 H (r0 e)
  rw[h0] at this
  exact this
end
section
variable {σ:St}{H:Hp}{D:Ends}{rest:TS}{te to:TE}{l:Addr}{xs:List V}{K:PySem.W.Frag}
theorem cQ {R:V->Hp->Prop}(ho:Pu to σ H (.ref l))(hl:H l=some (.lst xs))(he:Gv te σ H R)(q:∀v H',R v H'->∃ys,H' l=some (.lst ys)/\ys.length<sizeLine/\D.nx σ (upd H' l (.lst (ys++[v])))) :
    fM (tBM K "list" lL to (bG te df)) D σ H:=
  ho _ ⟨.inl ⟨rfl,_,SqL.of hl⟩,he _ fun v H' r=>by
    obtain⟨ys,h1,h2,h3⟩:=q v H' r
    exact⟨l,ys,v,rfl,rfl,h1,h2,h3⟩⟩
end
section
variable {σ:St}{H:Hp}{te tl:TE}{fr:St->St}{k:Nat}{K:PySem.W.Frag}
theorem uq {ta:TA}{n:Int}(Pv:Addr->Nat->List V->Hp->Prop)(ha:PuA ta σ H [.int n])(h1 : -(2 ^ 62)<=n)(h2:n<2 ^ 62)(hk:∀x,KeepS (fr σ) ((fr σ).set k (some x)))
    (h0:∀D,H D=none->Pv D 0 [] (upd H D (.lst [])))
    (hs:∀D (i:Nat) ys H',H D=none->i<n.toNat->Pv D i ys H'->ys.length<sizeLine/\Gv te ((fr σ).set k (some (.int (0+i)))) H' (fun y H4=>H4 D=some (.lst ys)/\Pv D (i+1) (ys++[y]) (upd H4 D (.lst (ys++[y]))))) :
    Gv (dJ (uh ta) fr (bV k) te) σ H (fun v H'=>∃D ys,H D=none/\v=.ref D/\Pv D n.toNat ys H'):=by
  intro Q g
  refine ha _ ⟨n,rfl,h1,h2,fun D hD=>?_⟩
  refine⟨fun i m ys H'=>m=n.toNat - i/\i<=n.toNat/\Pv D i ys H',⟨_,rfl,Nat.zero_le _,h0 D hD⟩,?_⟩
  rintro i m ys H' ⟨rfl,hi,p⟩
  by_cases hlt:i<n.toNat
  · obtain⟨z1,z2⟩:=hs D i ys H' hD hlt p
    refine .inr ⟨hlt,z1,fun x H3 y=>?_⟩
    obtain⟨e,y⟩:=y
    subst e y
    exact⟨hk _,z2 _ fun v H4 r=>⟨r.1,n.toNat - (i+1),by omega,rfl,hlt,r.2⟩⟩
  · have e:i=n.toNat:=by omega
    subst e
    exact .inl ⟨Nat.le_refl _,g _ _ ⟨D,ys,hD,rfl,p⟩⟩
theorem vJ {ta tb:TE}{R R':V->Hp->Prop}(h:Gv ta σ H R)(f:∀v H',R v H'->∃c,v=.bl c/\(c=true->Gv tb σ H' R')/\(c=false->R' (.bl false) H')):Gv (rZ ta tb) σ H R':=by
  intro Q g
  refine h _ fun v H' r=>?_
  obtain⟨c,rfl,h1,h2⟩:=f v H' r
  refine⟨c,rfl,?_⟩
  cases c with
  | true=>rw[if_pos rfl];exact h1 rfl Q g
  | false=>rw[if_neg Bool.false_ne_true];exact g _ _ (h2 rfl)
end
def TupsT (H:Hp)(vs:List V)(nss:List (List Int)):Prop:=Paired (TupT H) vs nss
theorem TupsT.mono {H H':Hp}{vs:List V}{nss:List (List Int)}(h:TupsT H vs nss)(f:∀v ns,TupT H v ns->TupT H' v ns):TupsT H' vs nss:=Paired.mapP h f
theorem TupsT.get {H:Hp}:∀{vs:List V} {nss:List (List Int)} {i:Nat} {ns:List Int},TupsT H vs nss->nss[i]?=some ns->∃v,vs[i]?=some v/\TupT H v ns
  | _,_,_,_,.nil,e=>by simp at e
  | _,_,0,_,.cons r _,e=>by simp at e;subst e;exact⟨_,rfl,r⟩
  | _,_,i+1,ns,.cons _ t,e=>by
    obtain⟨u,h1,h2⟩:=TupsT.get (i:=i) (ns:=ns) t (by simpa using e)
    exact⟨u,by simpa using h1,h2⟩
theorem TupsT.get' {H:Hp}{vs:List V}{nss:List (List Int)}{i:Nat}{v:V}(h:TupsT H vs nss)(e:vs[i]?=some v):∃ns,nss[i]?=some ns/\TupT H v ns:=by
  have hl:=Paired.length h
  have hi:i<nss.length:=by rw[←hl];exact (List.getElem?_eq_some_iff.mp e).1
  obtain⟨w,h1,h2⟩:=h.get (List.getElem?_eq_getElem hi)
  rw[h1] at e;cases e
  exact⟨_,List.getElem?_eq_getElem hi,h2⟩
theorem TupsT.snoc {H:Hp}{vs:List V}{nss:List (List Int)}{v:V}{ns:List Int}(h:TupsT H vs nss)(x:TupT H v ns):TupsT H (vs++[v]) (nss++[ns]):=Paired.snoc h x
theorem TupsT.len {H:Hp}{vs:List V}{nss:List (List Int)}(h:TupsT H vs nss):vs.length=nss.length:=Paired.length h
def HandAt (H:Hp)(hd sc:Addr):Prop:=∃(ns:List Int) (i b c p q:Int),H hd=some (.lst [.ref sc,.int i,.int b,.int c,.int p,.int q])/\H sc=some (.lst (ns.map V.int))/\0<=i
theorem HandAt.ne {H:Hp}{hd sc:Addr}{ns:List Int}{i b c p q:Int}(h1:H hd=some (.lst [.ref sc,.int i,.int b,.int c,.int p,.int q]))(h2:H sc=some (.lst (ns.map V.int))):sc≠hd:=by
  intro e
  subst e
  rw[h1] at h2
  cases ns with
  | nil=>simp at h2
  | cons n r=>simp at h2
theorem HandAt.same {H H':Hp}{hd sc:Addr}(h:HandAt H hd sc)(e:Same H H'):HandAt H' hd sc:=by
  obtain⟨ns,i,b,c,p,q,h1,h2,h0⟩:=h
  exact⟨ns,i,b,c,p,q,e _ _ h1,e _ _ h2,h0⟩
theorem HandAt.ls {H:Hp}{hd sc:Addr}(h:HandAt H hd sc):∃ys,H hd=some (.lst ys):=by
  obtain⟨ns,i,b,c,p,q,h1,_⟩:=h
  exact⟨_,h1⟩
theorem HandAt.fresh {H:Hp}{hd sc l:Addr}(h:HandAt H hd sc)(hl:H l=none):l≠hd/\l≠sc:=by
  obtain⟨ns,i,b,c,p,q,h1,h2,_⟩:=h
  exact⟨Ne.symm (aV h1 hl),Ne.symm (aV h2 hl)⟩
theorem HandAt.upd {H:Hp}{hd sc l:Addr}{o:HO}(h:HandAt H hd sc)(n:l≠hd/\l≠sc):HandAt (upd H l o) hd sc:=by
  obtain⟨ns,i,b,c,p,q,h1,h2,h0⟩:=h
  exact⟨ns,i,b,c,p,q,by rw[aF (Ne.symm n.1)];exact h1,by rw[aF (Ne.symm n.2)];exact h2,h0⟩
def AtP (H:Hp)(v:V)(p:Pt3):Prop:=TupT H v [p.x,p.y,p.z]
structure Sz (n:Nat)(p:Pt3):Prop where
  x:Bd n p.x
  y:Bd n p.y
  z:Bd n p.z
theorem Sz.mono {m n:Nat}{p:Pt3}(h:Sz m p)(e:m<=n):Sz n p:=⟨h.x.mono e,h.y.mono e,h.z.mono e⟩
theorem Sz.is3 {n:Nat}{A B C:Int}{r:Pt3}(h:Is3 A B C r)(a:Bd n A)(b:Bd n B)(c:Bd n C):Sz n r:=⟨a.le h.le.1,b.le h.le.2.1,c.le h.le.2.2⟩
theorem rB {H H':Hp}{hd sc:Addr}{v:V}{p:Pt3}(h:AtP H v p)(hh:HandAt H hd sc)(s:SameB hd H H'):AtP H' v p:=by
  obtain⟨ys,hy⟩:=hh.ls
  exact TupT.sameB h s hy
def L3 (p:Pt3):List Int:=[p.x,p.y,p.z]
theorem eD {y y':Str}{c c':Addr}(h:List.lookup y' [(y,c)]=some c'):y'=y/\c'=c:=by
  rw[List.lookup_cons] at h
  split at h
  · rename_i e
    exact⟨eq_of_beq e,(Option.some.inj h).symm⟩
  · cases h
theorem dF {names:List (Str×NameKind)}{y:Str}{k:NameKind}(e:names.lookup y=some k):(y,k)∈names:=by
  induction names with
  | nil=>cases e
  | cons p r ih=>
    rw[List.lookup_cons] at e
    split at e
    · rename_i h
      have h':y=p.1:=eq_of_beq h
      have e':p.2=k:=Option.some.inj e
      rw[h',←e']
      exact List.mem_cons_self
    · exact List.mem_cons_of_mem _ (ih e)
section
variable {X:Cx}
theorem kA {x y:Str}{px:Pos}{elt iter:Expr}{scope:Scope}{c:Addr}{pos:Pos}{wi:TI}{te:TE}(j:Nat)
    (hc:X.calm=true) (hi:PI X (.Name x px) iter wi)
    (hg:∀C fp s0 H0,PG (blk X [x,y] scope [(y,c)] C fp s0 H0) (.Name x px) (bV 0)) (he:∀C fp s0 H0,PE (blk X [x,y] scope [(y,c)] C fp s0 H0) elt te)
    (hclos:closureFor scope X.env=pure [(y,c)]) (hkind:scope.kind=.function) (hnames:∀x∈scope.names,x.2=.local->scope.names.lookup x.1=some .local) (hcell:∀y∈scope.names,y.2≠.cell)
    (hcy:X.env.cells.lookup y=some c) (hNj:X.N[j]?=some y) (hk:X.env.kindOf y=some .cell) (hrel:(relabel scope X.env).names.lookup y=some .cell)
    (hall:((relabel scope X.env).names.all fun p=>(p.2 != .cell && p.2 != .free) || p.1 == y)=true)
    (hs:∀x,foldedSetIterable iter X.env x=pure x:=by intro _;rfl) :
    PE X (.ListComp elt [⟨.Name x px,iter,[],0⟩] scope pos) (dJ wi (fun σ=>[none,(σ[j]?).join]) (bV 0) te):=by
  refine dc (N':=[x,y]) (cl:=[(y,c)]) hc hi hg he hclos hkind hnames hcell (fun y' c' h=>?_) (fun y' h=>?_) (fun _ _=>rfl) (fun σ i y' v e1 e2=>?_) hs
  · obtain⟨rfl,rfl⟩:=eD h
    exact hcy
  · rw[List.all_eq_true] at hall
    have key:∀k,(k=.cell∨k=.free)->(relabel scope X.env).names.lookup y'=some k->y'=y:=fun k hk e=>by
      have:=hall _ (dF e)
      rcases hk with rfl|rfl
      · simpa using this
      · simpa using this
    have e:y'=y:=by
      rcases h with h|h
      · exact key _ (.inl rfl) h
      · exact key _ (.inr rfl) h
    subst e
    exact⟨c,by rw[List.lookup_cons,beq_self_eq_true]⟩
  · match i,e1,e2 with
    | 0,_,e2=>cases e2
    | 1,e1,e2=>
      have e1':y=y':=by simpa using e1
      subst e1'
      have e2':(σ[j]?).join=some v:=by simpa using e2
      refine⟨j,hNj,?_,hk,hrel⟩
      cases h:σ[j]? with
      | none=>rw[h] at e2';cases e2'
      | some o=>rw[h] at e2';have:o=some v:=e2';rw[this]
    | i+2,e1,_=>simp at e1
end
theorem ua {X:Cx}{K:PySem.W.Frag}(h:X.K=K):IxR X (iE K):=by
  subst h;exact aI
theorem lW {X:Cx}{K:PySem.W.Frag}(h:X.K=K):IxR X (wA K):=by
  subst h;exact ax
def pt0:Pt3:=⟨0,0,1⟩
theorem jS {ps:List Pt3}{k:Nat}(h:k<ps.length):ps.getD k pt0∈ps/\ps[k]?=some (ps.getD k pt0):=by
  rw[List.getD_eq_getElem?_getD,List.getElem?_eq_getElem h]
  exact⟨List.getElem_mem h,rfl⟩
def LP (H:Hp)(l:Addr)(ps:List Pt3):Prop:=∃ys,H l=some (.lst ys)/\TupsT H ys (ps.map L3)
theorem LP.same {H H':Hp}{l:Addr}{ps:List Pt3}(h:LP H l ps)(s:Same H H'):LP H' l ps:=by
  obtain⟨ys,h1,h2⟩:=h
  exact⟨ys,s _ _ h1,h2.mono fun _ _ x=>x.same s⟩
end L2
namespace L2
theorem Pt3.ext' {p q:Pt3}(h1:p.x=q.x)(h2:p.y=q.y)(h3:p.z=q.z):p=q:=by
  cases p;cases q;simp only at h1 h2 h3;subst h1 h2 h3;rfl
structure Lp (p:Pt3):Prop where
  pos:0<p.z
  cop:Int.gcd (Int.gcd p.z p.x) p.y=1
theorem Lp.eq {p q:Pt3}(hp:Lp p)(hq:Lp q)(h:¬bS p q):p=q:=by
  obtain⟨h1,h2,h3⟩:=xa hp.pos hq.pos hp.cop hq.cop h
  exact Pt3.ext' h1 h2 h3
def bh (a b:Pt3):Pt3×Pt3:=if ahd a b=true then (a,b) else (b,a)
def dh (p q:Pt3):Pt3:=if ahd p q=true then q else p
def dE (p q:Pt3):Pt3:=if ahd p q=true then p else q
noncomputable instance:DecidableEq Pt3:=fun a b=>if h:a.x=b.x/\a.y=b.y/\a.z=b.z then .isTrue (Pt3.ext' h.1 h.2.1 h.2.2) else .isFalse fun e=>h ⟨by rw[e],by rw[e],by rw[e]⟩
noncomputable def cJ (a b c d:Pt3):List Pt3:=
  if dh (bh a b).1 (bh c d).1=dE (bh a b).2 (bh c d).2 then [dh (bh a b).1 (bh c d).1]
  else if ahd (dh (bh a b).1 (bh c d).1) (dE (bh a b).2 (bh c d).2)=true then [dh (bh a b).1 (bh c d).1,dE (bh a b).2 (bh c d).2] else []
def gS3 (a b c:Int):Int:=if c<0 then -(Int.gcd (Int.gcd a b) c:Int) else (Int.gcd (Int.gcd a b) c:Int)
def pbF (a b c:Int):Pt3:=⟨a.fdiv (gS3 a b c),b.fdiv (gS3 a b c),c.fdiv (gS3 a b c)⟩
def ao (p q:Pt3):Pt3:=⟨p.y*q.z - p.z*q.y,p.z*q.x - p.x*q.z,p.x*q.y - p.y*q.x⟩
noncomputable def cP (a b c d:Pt3):List Pt3:=
  if sgn (det a b c)=sgn (det a b d) then (if sgn (det a b c)=0 then cJ a b c d else [])
  else if sgn (det c d a)=sgn (det c d b) then []
  else [pbF (ao (ao a b) (ao c d)).x (ao (ao a b) (ao c d)).y (ao (ao a b) (ao c d)).z]
theorem uv {a b c:Int}(h:c≠0):gS3 a b c≠0:=by
  have:=Int.gcd_pos_of_ne_zero_right ((Int.gcd a b:Nat):Int) h
  unfold gS3;split <;> omega
theorem uu (x y z:Int):Int.gcd ((Int.gcd x y:Nat):Int) z=Int.gcd ((Int.gcd z x:Nat):Int) y:=by
  rw[Int.gcd_comm,←Int.gcd_assoc]
theorem gd {a b c:Int}(h:c≠0):Lp (pbF a b c)/\∃k,k≠0/\a=k*(pbF a b c).x/\b=k*(pbF a b c).y/\c=k*(pbF a b c).z:=by
  have hg:=uv (a:=a) (b:=b) h
  have hp:=Int.gcd_pos_of_ne_zero_right ((Int.gcd a b:Nat):Int) h
  have key:∀z,((Int.gcd ((Int.gcd a b:Nat):Int) c:Nat):Int) ∣ z->z=gS3 a b c*z.fdiv (gS3 a b c):=by
    intro z hz
    have:gS3 a b c ∣ z:=by
      unfold gS3;split
      · exact Int.neg_dvd.mpr hz
      · exact hz
    obtain⟨w,hw⟩:=this
    have e:z.fdiv (gS3 a b c)=w:=by
      conv=>lhs;arg 1;rw[hw]
      exact dI hg
    rw[e];exact hw
  have dg:((Int.gcd ((Int.gcd a b:Nat):Int) c:Nat):Int) ∣ ((Int.gcd a b:Nat):Int):=Int.gcd_dvd_left _ _
  have ea:=key a (Int.dvd_trans dg (Int.gcd_dvd_left a b))
  have eb:=key b (Int.dvd_trans dg (Int.gcd_dvd_right a b))
  have ec:=key c (Int.gcd_dvd_right _ _)
  refine⟨⟨?_,?_⟩,gS3 a b c,hg,ea,eb,ec⟩
  · show 0<c.fdiv (gS3 a b c)
    by_cases hc:c<0
    · have hG:gS3 a b c<0:=by unfold gS3;rw[if_pos hc];omega
      by_cases h2:0<c.fdiv (gS3 a b c)
      · exact h2
      · have:=Int.mul_nonneg_of_nonpos_of_nonpos (a:=gS3 a b c) (b:=c.fdiv (gS3 a b c)) (by omega) (by omega)
        omega
    · have hG:0<gS3 a b c:=by unfold gS3;rw[if_neg hc];omega
      by_cases h2:0<c.fdiv (gS3 a b c)
      · exact h2
      · have:=Int.mul_nonpos_of_nonneg_of_nonpos (a:=gS3 a b c) (b:=c.fdiv (gS3 a b c)) (by omega) (by omega)
        omega
  · show Int.gcd ((Int.gcd (c.fdiv (gS3 a b c)) (a.fdiv (gS3 a b c)):Nat):Int) (b.fdiv (gS3 a b c))=1
    rw[←uu]
    generalize hx:a.fdiv (gS3 a b c)=x at *
    generalize hy:b.fdiv (gS3 a b c)=y at *
    generalize hz:c.fdiv (gS3 a b c)=z at *
    have hab:(gS3 a b c).natAbs=Int.gcd ((Int.gcd a b:Nat):Int) c:=by unfold gS3;split <;> omega
    generalize gS3 a b c=G at *
    have h1:Int.gcd a b=G.natAbs*Int.gcd x y:=by
      conv=>lhs;rw[ea,eb]
      exact Int.gcd_mul_left G x y
    have h2:Int.gcd ((Int.gcd a b:Nat):Int) c=G.natAbs*Int.gcd ((Int.gcd x y:Nat):Int) z:=by
      have e1:Int.gcd ((Int.gcd a b:Nat):Int) c=Int.gcd (G*((Int.gcd x y:Nat):Int)) (G*z):=by
        rw[←ec]
        unfold Int.gcd
        rw[Int.natAbs_mul,Int.natAbs_natCast,Int.natAbs_natCast]
        congr 1
      rw[e1,Int.gcd_mul_left]
    rw[←hab] at h2
    have h5:G.natAbs*1=G.natAbs*Int.gcd ((Int.gcd x y:Nat):Int) z:=by rw[Nat.mul_one];exact h2
    exact (Nat.eq_of_mul_eq_mul_left (by omega) h5).symm
theorem pV {a b c a' b' c':Int}{m n:Int}(h:c≠0)(h':c'≠0)(hm:m≠0)(hn:n≠0)(e1:m*a=n*a')(e2:m*b=n*b')(e3:m*c=n*c'):pbF a b c=pbF a' b' c':=by
  obtain⟨l1,k,hk,f1,f2,f3⟩:=gd (a:=a) (b:=b) h
  obtain⟨l2,k',hk',g1,g2,g3⟩:=gd (a:=a') (b:=b') h'
  refine l1.eq l2 fun ap=>ap ?_
  generalize pbF a b c=p at *
  generalize pbF a' b' c'=q at *
  have q3:m*k*p.z=n*k'*q.z:=by rw[Int.mul_assoc,Int.mul_assoc,←f3,←g3,e3]
  have q1:m*k*p.x=n*k'*q.x:=by rw[Int.mul_assoc,Int.mul_assoc,←f1,←g1,e1]
  have q2:m*k*p.y=n*k'*q.y:=by rw[Int.mul_assoc,Int.mul_assoc,←f2,←g2,e2]
  have hmk:m*k≠0:=Int.mul_ne_zero hm hk
  constructor
  · have:(m*k)*(p.x*q.z)=(m*k)*(q.x*p.z):=by
      have h1:(m*k)*(p.x*q.z)=(m*k*p.x)*q.z:=by grind
      have h2:(m*k)*(q.x*p.z)=(m*k*p.z)*q.x:=by grind
      rw[h1,h2,q1,q3];grind
    exact Int.eq_of_mul_eq_mul_left hmk this
  · have:(m*k)*(p.y*q.z)=(m*k)*(q.y*p.z):=by
      have h1:(m*k)*(p.y*q.z)=(m*k*p.y)*q.z:=by grind
      have h2:(m*k)*(q.y*p.z)=(m*k*p.z)*q.y:=by grind
      rw[h1,h2,q2,q3];grind
    exact Int.eq_of_mul_eq_mul_left hmk this
theorem qr {a b r:Pt3}{u v k:Int}(ha:0<a.z)(hb:0<b.z)(hr:Lp r)(hab:bS a b)(hu:0<=u)(hv:0<=v)(huv:0<u+v)(hk:0<k)
    (e1:u*a.x+v*b.x=k*r.x) (e2:u*a.y+v*b.y=k*r.y) (e3:u*a.z+v*b.z=k*r.z):onB r a b=true:=by
  have p1:0<=u*a.z:=Int.mul_nonneg hu (by omega)
  have p2:0<=v*b.z:=Int.mul_nonneg hv (by omega)
  have p3:0<u*a.z+v*b.z:=by
    by_cases h:0<u
    · have:=Int.mul_pos h ha;omega
    · have:0<v:=by omega
      have:=Int.mul_pos this hb;omega
  have hz:=Int.mul_pos ha hb
  have:=(uF (a:=a) (b:=b) (r:=r) (s:=v*b.z) (t:=u*a.z+v*b.z) ha hb p3 hab ⟨hr.pos,hr.cop,a.z*b.z*k,Int.mul_pos hz hk,?_,?_,?_⟩).2
  · rw[this,decide_eq_true p2,decide_eq_true (show v*b.z<=u*a.z+v*b.z by omega)];rfl
  · have h1:a.z*b.z*k*r.x=a.z*b.z*(k*r.x):=by grind
    rw[h1,←e1];grind
  · have h1:a.z*b.z*k*r.y=a.z*b.z*(k*r.y):=by grind
    rw[h1,←e2];grind
  · have h1:a.z*b.z*k*r.z=a.z*b.z*(k*r.z):=by grind
    rw[h1,←e3] <;> grind
theorem eE {a b c d:Pt3}(hc:0<c.z)(hd:0<d.z)(hcd:bS c d)(h:sgn (det a b c)≠sgn (det a b d)) :
    (ao (ao a b) (ao c d)).z≠0/\onB (pbF (ao (ao a b) (ao c d)).x (ao (ao a b) (ao c d)).y (ao (ao a b) (ao c d)).z) c d=true:=by
  have f1:(ao (ao a b) (ao c d)).x=det a b d*c.x - det a b c*d.x:=by unfold ao det;grind
  have f2:(ao (ao a b) (ao c d)).y=det a b d*c.y - det a b c*d.y:=by unfold ao det;grind
  have f3:(ao (ao a b) (ao c d)).z=det a b d*c.z - det a b c*d.z:=by unfold ao det;grind
  generalize ao (ao a b) (ao c d)=X at *
  generalize det a b c=C at *
  generalize det a b d=E at *
  have cs:(C<=0/\0<=E/\0<E - C)∨(0<=C/\E<=0/\0<C - E):=by
    unfold sgn at h
    by_cases h1:0<C
    · rw[if_pos h1] at h
      have:¬0<E:=fun z=>by rw[if_pos z] at h;exact h rfl
      right;omega
    · rw[if_neg h1] at h
      by_cases h2:C<0
      · rw[if_pos h2] at h
        have:¬E<0:=fun z=>by rw[if_neg (by omega),if_pos z] at h;exact h rfl
        left;omega
      · rw[if_neg h2] at h
        have hE:E≠0:=fun z=>by subst z;simp at h
        by_cases h3:0<E
        · left;omega
        · right;omega
  have main:∀(u v sg:Int),0<=u->0<=v->0<u+v->(sg=1∨sg = -1)->X.x=sg*(u*c.x+v*d.x)->X.y=sg*(u*c.y+v*d.y)->X.z=sg*(u*c.z+v*d.z)->X.z≠0/\onB (pbF X.x X.y X.z) c d=true:=by
    intro u v sg hu hv huv hs g1 g2 g3
    have p1:0<=u*c.z:=Int.mul_nonneg hu (by omega)
    have p2:0<=v*d.z:=Int.mul_nonneg hv (by omega)
    have p3:0<u*c.z+v*d.z:=by
      by_cases h:0<u
      · have:=Int.mul_pos h hc;omega
      · have:0<v:=by omega
        have:=Int.mul_pos this hd;omega
    have hz:X.z≠0:=by rw[g3];rcases hs with rfl | rfl <;> omega
    refine⟨hz,?_⟩
    obtain⟨lp,k,hk,k1,k2,k3⟩:=gd (a:=X.x) (b:=X.y) hz
    generalize pbF X.x X.y X.z=r at *
    have hss:sg*sg=1:=by rcases hs with rfl | rfl <;> rfl
    have q1:u*c.x+v*d.x=(sg*k)*r.x:=by
      rw[Int.mul_assoc,←k1,g1,←Int.mul_assoc,hss,Int.one_mul]
    have q2:u*c.y+v*d.y=(sg*k)*r.y:=by
      rw[Int.mul_assoc,←k2,g2,←Int.mul_assoc,hss,Int.one_mul]
    have q3:u*c.z+v*d.z=(sg*k)*r.z:=by
      rw[Int.mul_assoc,←k3,g3,←Int.mul_assoc,hss,Int.one_mul]
    have kp:0<sg*k:=by
      by_cases h:0<sg*k
      · exact h
      · have:=Int.mul_nonpos_of_nonpos_of_nonneg (a:=sg*k) (b:=r.z) (by omega) (by have:=lp.pos;omega)
        omega
    exact qr hc hd lp hcd hu hv huv kp q1 q2 q3
  rcases cs with⟨c1,c2,c3⟩|⟨c1,c2,c3⟩
  · exact main E (-C) 1 c2 (by omega) (by omega) (.inl rfl) (by rw[f1];grind) (by rw[f2];grind) (by rw[f3];grind)
  · exact main (-E) C (-1) (by omega) c1 (by omega) (.inr rfl) (by rw[f1];grind) (by rw[f2];grind) (by rw[f3];grind)
theorem gD (p:Pt3):ahd p p=false:=by rw[jm];simp[lex]
theorem iJ {p q r:Pt3}(hp:0<p.z)(hq:0<q.z)(hr:0<r.z)(h1:ahd p q=true)(h2:ahd q r=true):ahd p r=true:=by
  have key:∀(p q:Pt3),ahd p q=true↔(p.x*q.z<q.x*p.z∨(p.x*q.z=q.x*p.z/\p.y*q.z<q.y*p.z)):=by
    intro p q
    unfold ahd
    by_cases h:p.x*q.z=q.x*p.z
    · rw[if_pos h,decide_eq_true_iff];omega
    · rw[if_neg h,decide_eq_true_iff];omega
  rw[key] at h1 h2 ⊢
  have lt:∀{a b c d e f:Int},a*d<c*b->c*f<=e*d->0<b->0<f->0<d->a*f<e*b:=by
    intro a b c d e f g1 g2 hb hf hd
    have m1:(a*d)*f<(c*b)*f:=Int.mul_lt_mul_of_pos_right g1 hf
    have m2:(c*f)*b<=(e*d)*b:=Int.mul_le_mul_of_nonneg_right g2 (by omega)
    have:d*(a*f)<d*(e*b):=by
      have e1:d*(a*f)=(a*d)*f:=by grind
      have e2:d*(e*b)=(e*d)*b:=by grind
      have e3:(c*b)*f=(c*f)*b:=by grind
      omega
    exact Int.lt_of_mul_lt_mul_left this (by omega)
  have le:∀{a b c d e f:Int},a*d<=c*b->c*f<e*d->0<b->0<f->0<d->a*f<e*b:=by
    intro a b c d e f g1 g2 hb hf hd
    have m1:(a*d)*f<=(c*b)*f:=Int.mul_le_mul_of_nonneg_right g1 (by omega)
    have m2:(c*f)*b<(e*d)*b:=Int.mul_lt_mul_of_pos_right g2 hb
    have:d*(a*f)<d*(e*b):=by
      have e1:d*(a*f)=(a*d)*f:=by grind
      have e2:d*(e*b)=(e*d)*b:=by grind
      have e3:(c*b)*f=(c*f)*b:=by grind
      omega
    exact Int.lt_of_mul_lt_mul_left this (by omega)
  have eq:∀{a b c d e f:Int},a*d=c*b->c*f=e*d->0<d->a*f=e*b:=by
    intro a b c d e f g1 g2 hd
    have:d*(a*f)=d*(e*b):=by
      have e1:d*(a*f)=(a*d)*f:=by grind
      have e2:d*(e*b)=(e*d)*b:=by grind
      rw[e1,e2,g1,←g2];grind
    exact Int.eq_of_mul_eq_mul_left (by omega) this
  rcases h1 with a1|⟨a1,b1⟩
  · rcases h2 with a2|⟨a2,b2⟩
    · exact .inl (lt a1 (Int.le_of_lt a2) hp hr hq)
    · exact .inl (lt a1 (Int.le_of_eq a2) hp hr hq)
  · rcases h2 with a2|⟨a2,b2⟩
    · exact .inl (le (Int.le_of_eq a1) a2 hp hr hq)
    · exact .inr ⟨eq a1 a2 hq,lt b1 (Int.le_of_lt b2) hp hr hq⟩
def leP (p q:Pt3):Prop:=ahd q p=false
theorem fu (p:Pt3):leP p p:=gD p
theorem ee {p q:Pt3}(hp:Lp p)(hq:Lp q):p=q∨ahd p q=true∨ahd q p=true:=by
  by_cases h:bS p q
  · have:=gi h
    cases e:ahd p q with
    | true=>exact .inr (.inl rfl)
    | false=>right;right;rw[this,e];rfl
  · exact .inl (hp.eq hq h)
theorem dH {p q:Pt3}(hp:Lp p)(hq:Lp q):leP p q↔p=q∨ahd p q=true:=by
  constructor
  · intro h
    rcases ee hp hq with e|e|e
    · exact .inl e
    · exact .inr e
    · unfold leP at h;rw[h] at e;cases e
  · rintro (rfl|e)
    · exact fu _
    · unfold leP
      cases e2:ahd q p with
      | false=>rfl
      | true=>
        have:=iJ hp.pos hq.pos hp.pos e e2
        rw[gD] at this;cases this
theorem fq {p q r:Pt3}(hp:Lp p)(hq:Lp q)(hr:Lp r)(h1:leP p q)(h2:leP q r):leP p r:=by
  rw[dH hp hq] at h1
  rw[dH hq hr] at h2
  rw[dH hp hr]
  rcases h1 with rfl|h1
  · exact h2
  · rcases h2 with rfl|h2
    · exact .inr h1
    · exact .inr (iJ hp.pos hq.pos hr.pos h1 h2)
theorem bQ (a b:Pt3):((bh a b).1=a/\(bh a b).2=b)∨((bh a b).1=b/\(bh a b).2=a):=by
  unfold bh;split <;> simp
theorem gy {p a b:Pt3}(h0:det a b p=0):onB p a b=true↔leP (bh a b).1 p/\leP p (bh a b).2:=by
  unfold onB leP bh
  rw[if_pos h0]
  split <;> simp
theorem tP {p q:Pt3}(hp:Lp p)(hq:Lp q):Lp (dh p q)/\leP p (dh p q)/\leP q (dh p q)/\(dh p q=p∨dh p q=q):=by
  unfold dh
  by_cases h:ahd p q=true
  · rw[if_pos h]
    exact⟨hq,(dH hp hq).mpr (.inr h),fu _,.inr rfl⟩
  · rw[if_neg h]
    exact⟨hp,fu _,(by unfold leP;simpa using h),.inl rfl⟩
theorem tK {p q:Pt3}(hp:Lp p)(hq:Lp q):Lp (dE p q)/\leP (dE p q) p/\leP (dE p q) q/\(dE p q=p∨dE p q=q):=by
  unfold dE
  by_cases h:ahd p q=true
  · rw[if_pos h]
    exact⟨hp,fu _,(dH hp hq).mpr (.inr h),.inl rfl⟩
  · rw[if_neg h]
    exact⟨hq,(by unfold leP;simpa using h),fu _,.inr rfl⟩
theorem re {p q:Pt3}(hp:Lp p)(hq:Lp q):dh q p=dh p q:=by
  unfold dh
  rcases ee hp hq with e|e|e
  · subst e;rfl
  · have:ahd q p=false:=(dH hp hq).mpr (.inr e)
    rw[if_pos e,if_neg (by rw[this];decide)]
  · have:ahd p q=false:=(dH hq hp).mpr (.inr e)
    rw[if_pos e,if_neg (by rw[this];decide)]
theorem q9 {p q:Pt3}(hp:Lp p)(hq:Lp q):dE q p=dE p q:=by
  unfold dE
  rcases ee hp hq with e|e|e
  · subst e;rfl
  · have:ahd q p=false:=(dH hp hq).mpr (.inr e)
    rw[if_pos e,if_neg (by rw[this];decide)]
  · have:ahd p q=false:=(dH hq hp).mpr (.inr e)
    rw[if_pos e,if_neg (by rw[this];decide)]
theorem jO {a b c d:Pt3}(hab:bS a b)(h1:det a b c=0)(h2:det a b d=0):det c d a=0/\det c d b=0:=by
  have i1:det c d a*(a.y*b.z - a.z*b.y)=det a b c*(d.y*a.z - d.z*a.y)+det a b d*(a.y*c.z - a.z*c.y):=by unfold det;grind
  have i2:det c d a*(a.z*b.x - a.x*b.z)=det a b c*(d.z*a.x - d.x*a.z)+det a b d*(a.z*c.x - a.x*c.z):=by unfold det;grind
  have j1:det c d b*(a.y*b.z - a.z*b.y)=det a b c*(d.y*b.z - d.z*b.y)+det a b d*(b.y*c.z - b.z*c.y):=by unfold det;grind
  have j2:det c d b*(a.z*b.x - a.x*b.z)=det a b c*(d.z*b.x - d.x*b.z)+det a b d*(b.z*c.x - b.x*c.z):=by unfold det;grind
  rw[h1,h2,Int.zero_mul,Int.zero_mul,Int.add_zero] at i1 i2 j1 j2
  have hn:a.y*b.z - a.z*b.y≠0∨a.z*b.x - a.x*b.z≠0:=by
    by_cases z:a.z*b.x - a.x*b.z=0
    · left
      intro z2
      exact hab ⟨by have:=Int.mul_comm a.z b.x;omega,by have:=Int.mul_comm a.z b.y;omega⟩
    · exact .inr z
  rcases hn with hn|hn
  · exact⟨(Int.mul_eq_zero.mp i1).resolve_right hn,(Int.mul_eq_zero.mp j1).resolve_right hn⟩
  · exact⟨(Int.mul_eq_zero.mp i2).resolve_right hn,(Int.mul_eq_zero.mp j2).resolve_right hn⟩
theorem ik (a b:Pt3):det a b a=0/\det a b b=0:=⟨by unfold det;grind,by unfold det;grind⟩
def wZ (res:List Pt3)(a b c d:Pt3):Prop:=res.length<=2/\(∀p∈res,Lp p/\onB p a b=true/\onB p c d=true)/\(∀p q,res=[p,q]->ahd p q=true)
theorem mJ {a b c d:Pt3}(ha:Lp a)(hb:Lp b)(hc:Lp c)(hd:Lp d)(hab:bS a b)(hcd:bS c d)(h1:det a b c=0)(h2:det a b d=0):wZ (cJ a b c d) a b c d:=by
  obtain⟨c1,c2⟩:=jO hab h1 h2
  have la:Lp (bh a b).1/\Lp (bh a b).2:=by rcases bQ a b with⟨e1,e2⟩ | ⟨e1,e2⟩ <;> rw[e1,e2] <;> exact⟨by assumption,by assumption⟩
  have lc:Lp (bh c d).1/\Lp (bh c d).2:=by rcases bQ c d with⟨e1,e2⟩ | ⟨e1,e2⟩ <;> rw[e1,e2] <;> exact⟨by assumption,by assumption⟩
  have mx:=tP la.1 lc.1
  have mn:=tK la.2 lc.2
  have zero:∀p,(p=a∨p=b∨p=c∨p=d)->det a b p=0/\det c d p=0:=by
    rintro p (rfl|rfl|rfl|rfl)
    · exact⟨(ik _ _).1,c1⟩
    · exact⟨(ik _ _).2,c2⟩
    · exact⟨h1,(ik _ _).1⟩
    · exact⟨h2,(ik _ _).2⟩
  have am:∀p,(p=(bh a b).1∨p=(bh c d).1∨p=(bh a b).2∨p=(bh c d).2)->(p=a∨p=b∨p=c∨p=d):=by
    intro p hp
    rcases bQ a b with⟨e1,e2⟩|⟨e1,e2⟩ <;> rcases bQ c d with⟨e3,e4⟩|⟨e3,e4⟩ <;> rw[e1,e2,e3,e4] at hp <;> rcases hp with h|h|h|h <;> simp[h]
  have z1:=zero _ (am (dh (bh a b).1 (bh c d).1) (mx.2.2.2.elim (fun e=>.inl e) fun e=>.inr (.inl e)))
  have z2:=zero _ (am (dE (bh a b).2 (bh c d).2) (mn.2.2.2.elim (fun e=>.inr (.inr (.inl e))) fun e=>.inr (.inr (.inr e))))
  unfold cJ
  generalize hlo:dh (bh a b).1 (bh c d).1=lo at *
  generalize hhi:dE (bh a b).2 (bh c d).2=hi at *
  have both:leP lo hi->(onB lo a b=true/\onB lo c d=true)/\(onB hi a b=true/\onB hi c d=true):=by
    intro hle
    refine⟨⟨(gy z1.1).mpr ⟨mx.2.1,fq mx.1 mn.1 la.2 hle mn.2.1⟩,(gy z1.2).mpr ⟨mx.2.2.1,fq mx.1 mn.1 lc.2 hle mn.2.2.1⟩⟩,⟨(gy z2.1).mpr ⟨fq la.1 mx.1 mn.1 mx.2.1 hle,mn.2.1⟩,(gy z2.2).mpr ⟨fq lc.1 mx.1 mn.1 mx.2.2.1 hle,mn.2.2.1⟩⟩⟩
  by_cases e:lo=hi
  · rw[if_pos e]
    have:=(both (by rw[e];exact fu _)).1
    refine⟨by show 1<=2;decide,fun p hp=>?_,fun p q h=>by simp at h⟩
    rw[List.mem_singleton.mp hp]
    exact⟨mx.1,this⟩
  · rw[if_neg e]
    by_cases e2:ahd lo hi=true
    · rw[if_pos e2]
      have:=both ((dH mx.1 mn.1).mpr (.inr e2))
      refine⟨by show 2<=2;decide,fun p hp=>?_,fun p q h=>?_⟩
      · rcases List.mem_cons.mp hp with h|h
        · rw[h];exact⟨mx.1,this.1⟩
        · rw[List.mem_singleton.mp h];exact⟨mn.1,this.2⟩
      · simp only[List.cons.injEq,and_true] at h
        rw[←h.1,←h.2];exact e2
    · rw[if_neg e2]
      exact⟨by show 0<=2;decide,fun p hp=>(nomatch hp),fun p q h=>by simp at h⟩
theorem i4 (p q:Pt3):(ao q p).x = -(ao p q).x/\(ao q p).y = -(ao p q).y/\(ao q p).z = -(ao p q).z:=⟨by unfold ao;grind,by unfold ao;grind,by unfold ao;grind⟩
theorem iG {a b c d:Pt3}(ha:Lp a)(hb:Lp b)(hc:Lp c)(hd:Lp d)(hab:bS a b)(hcd:bS c d):wZ (cP a b c d) a b c d:=by
  have none:wZ [] a b c d:=⟨by show 0<=2;decide,fun p hp=>(nomatch hp),fun p q h=>by simp at h⟩
  unfold cP
  by_cases h1:sgn (det a b c)=sgn (det a b d)
  · rw[if_pos h1]
    by_cases h2:sgn (det a b c)=0
    · rw[if_pos h2]
      exact mJ ha hb hc hd hab hcd (sgn_eq0.mp h2) (sgn_eq0.mp (by rw[←h1];exact h2))
    · rw[if_neg h2];exact none
  · rw[if_neg h1]
    by_cases h2:sgn (det c d a)=sgn (det c d b)
    · rw[if_pos h2];exact none
    · rw[if_neg h2]
      obtain⟨z1,o1⟩:=eE hc.pos hd.pos hcd h1
      obtain⟨z2,o2⟩:=eE (a:=c) (b:=d) (c:=a) (d:=b) ha.pos hb.pos hab h2
      obtain⟨x1,x2,x3⟩:=i4 (ao a b) (ao c d)
      have e:=pV (a:=(ao (ao a b) (ao c d)).x) (b:=(ao (ao a b) (ao c d)).y) (a':=(ao (ao c d) (ao a b)).x) (b':=(ao (ao c d) (ao a b)).y) (m:=-1) (n:=1) z1 z2 (by decide) (by decide) (by rw[x1];omega) (by rw[x2];omega) (by rw[x3];omega)
      rw[←e] at o2
      refine⟨by show 1<=2;decide,fun p hp=>?_,fun p q h=>by simp at h⟩
      rw[List.mem_singleton.mp hp]
      exact⟨(gd z1).1,o2,o1⟩
theorem mK {a b c d:Pt3}(ha:Lp a)(hb:Lp b)(hc:Lp c)(hd:Lp d):cJ c d a b=cJ a b c d:=by
  have la:Lp (bh a b).1/\Lp (bh a b).2:=by rcases bQ a b with⟨e1,e2⟩ | ⟨e1,e2⟩ <;> rw[e1,e2] <;> exact⟨by assumption,by assumption⟩
  have lc:Lp (bh c d).1/\Lp (bh c d).2:=by rcases bQ c d with⟨e1,e2⟩ | ⟨e1,e2⟩ <;> rw[e1,e2] <;> exact⟨by assumption,by assumption⟩
  unfold cJ
  rw[re la.1 lc.1,q9 la.2 lc.2]
theorem kI {a b c d:Pt3}(ha:Lp a)(hb:Lp b)(hc:Lp c)(hd:Lp d)(hab:bS a b)(hcd:bS c d):cP c d a b=cP a b c d:=by
  unfold cP
  have col:sgn (det a b c)=0->sgn (det a b d)=0->sgn (det c d a)=0/\sgn (det c d b)=0:=fun z1 z2=>by
    obtain⟨x,y⟩:=jO hab (sgn_eq0.mp z1) (sgn_eq0.mp z2)
    rw[x,y];exact⟨rfl,rfl⟩
  have col':sgn (det c d a)=0->sgn (det c d b)=0->sgn (det a b c)=0/\sgn (det a b d)=0:=fun z1 z2=>by
    obtain⟨x,y⟩:=jO hcd (sgn_eq0.mp z1) (sgn_eq0.mp z2)
    rw[x,y];exact⟨rfl,rfl⟩
  by_cases h1:sgn (det a b c)=sgn (det a b d)
  · by_cases h2:sgn (det a b c)=0
    · obtain⟨y1,y2⟩:=col h2 (by rw[←h1];exact h2)
      have h3:sgn (det c d a)=sgn (det c d b):=by rw[y1,y2]
      simp only[if_pos h1,if_pos h2,if_pos h3,if_pos y1]
      exact mK ha hb hc hd
    · by_cases h3:sgn (det c d a)=sgn (det c d b)
      · by_cases h4:sgn (det c d a)=0
        · exact absurd (col' h4 (by rw[←h3];exact h4)).1 h2
        · simp only[if_pos h1,if_neg h2,if_pos h3,if_neg h4]
      · simp only[if_pos h1,if_neg h2,if_neg h3]
  · by_cases h3:sgn (det c d a)=sgn (det c d b)
    · by_cases h4:sgn (det c d a)=0
      · obtain⟨y1,y2⟩:=col' h4 (by rw[←h3];exact h4)
        exact absurd (by rw[y1,y2]) h1
      · simp only[if_neg h1,if_pos h3,if_neg h4]
    · obtain⟨z1,_⟩:=eE hc.pos hd.pos hcd h1
      obtain⟨x1,x2,x3⟩:=i4 (ao a b) (ao c d)
      have e:=pV (a:=(ao (ao a b) (ao c d)).x) (b:=(ao (ao a b) (ao c d)).y) (a':=(ao (ao c d) (ao a b)).x) (b':=(ao (ao c d) (ao a b)).y) (c':=(ao (ao c d) (ao a b)).z) (m:=-1) (n:=1) z1 (by omega) (by decide) (by decide) (by rw[x1];omega) (by rw[x2];omega) (by rw[x3];omega)
      simp only[if_neg h1,if_neg h3]
      rw[e]
end L2
namespace L2
open PySem PySem.Spec PyProof.Rows
def pf (H:Hp)(v:V)(ps:List Pt3):Prop:=∃a vs,v=.ref a/\H a=some (.tup vs)/\TupsT H vs (ps.map L3)
section
variable {σ:St}{H:Hp}{ta tb te:TE}{K:PySem.W.Frag}{x y:V}{b:Bool}{D:Ends}{rest:TS}
theorem gR {tc:TT}{R:V->Hp->Prop}(h:PuT tc σ H b)(h1:b=true->Gv ta σ H R)(h2:b=false->Gv tb σ H R):Gv (tIf tc ta tb) σ H R:=fun Q q=>h _ (by
  cases b with
  | true=>rw[if_pos rfl];exact h1 rfl Q q
  | false=>rw[if_neg Bool.false_ne_true];exact h2 rfl Q q)
end
theorem eH {t:TE}{σ:St}{H:Hp}{v w:V}(h:Pu t σ H v)(e:v=w):Pu t σ H w:=by rw[←e];exact h
theorem GvT.imp {t:TT}{σ:St}{H:Hp}{R R':Bool->Hp->Prop}(h:GvT t σ H R)(f:∀v H',R v H'->R' v H'):GvT t σ H R':=fun Q q=>h Q fun v H' r=>q v H' (f v H' r)
theorem xp {n:Nat}{a b c:Int}(h:c≠0)(ha:Bd n a)(hb:Bd n b)(hc:Bd n c):Sz n (pbF a b c):=by
  obtain⟨_,k,hk,e1,e2,e3⟩:=gd (a:=a) (b:=b) h
  have key:∀z,z.natAbs<=(k*z).natAbs:=fun z=>by
    rw[Int.natAbs_mul]
    calc z.natAbs=1*z.natAbs:=(Nat.one_mul _).symm
      _<=k.natAbs*z.natAbs:=Nat.mul_le_mul_right _ (by omega)
  exact ⟨ha.le (by conv => rhs; rw [e1]
                   exact key _), hb.le (by conv => rhs; rw [e2]
                                           exact key _), hc.le (by conv => rhs; rw [e3]
                                                                   exact key _)⟩
theorem ip {a b:Pt3}{m n:Nat}(za:Sz m a)(zb:Sz n b):Sz (m+n+1) (ao a b):=by
  have h:∀{p q r s:Int},Bd m p->Bd n q->Bd m r->Bd n s->Bd (m+n+1) (p*q - r*s):=fun a b c d=>(a.mul b).sub (c.mul d)
  exact⟨h za.y zb.z za.z zb.y,h za.z zb.x za.x zb.z,h za.x zb.y za.y zb.x⟩
theorem p8 {a b c d:Pt3}(za:Sz 900 a)(zb:Sz 900 b)(zc:Sz 900 c)(zd:Sz 900 d)(hc:Lp c)(hd:Lp d)(hcd:bS c d):∀p∈cP a b c d,Sz 4000 p:=by
  have zo:∀{a b:Pt3},Sz 900 a->Sz 900 b->Sz 900 (bh a b).1/\Sz 900 (bh a b).2:=fun {a b} h1 h2=>by
    rcases bQ a b with⟨e1,e2⟩|⟨e1,e2⟩ <;> rw[e1,e2]
    · exact⟨h1,h2⟩
    · exact⟨h2,h1⟩
  have zlo:Sz 900 (dh (bh a b).1 (bh c d).1):=by
    unfold dh;split
    · exact (zo zc zd).1
    · exact (zo za zb).1
  have zhi:Sz 900 (dE (bh a b).2 (bh c d).2):=by
    unfold dE;split
    · exact (zo za zb).2
    · exact (zo zc zd).2
  intro p hp
  unfold cP at hp
  by_cases h1:sgn (det a b c)=sgn (det a b d)
  · rw[if_pos h1] at hp
    by_cases h2:sgn (det a b c)=0
    · rw[if_pos h2] at hp
      unfold cJ at hp
      split at hp
      · rw[List.mem_singleton.mp hp];exact zlo.mono (by decide)
      · split at hp
        · rcases List.mem_cons.mp hp with h|h
          · rw[h];exact zlo.mono (by decide)
          · rw[List.mem_singleton.mp h];exact zhi.mono (by decide)
        · cases hp
    · rw[if_neg h2] at hp;cases hp
  · rw[if_neg h1] at hp
    by_cases h2:sgn (det c d a)=sgn (det c d b)
    · rw[if_pos h2] at hp;cases hp
    · rw[if_neg h2] at hp
      rw[List.mem_singleton.mp hp]
      have z:=ip (ip za zb) (ip zc zd)
      exact (xp (eE hc.pos hd.pos hcd h1).1 z.x z.y z.z).mono (by decide)
end L2
namespace L2
theorem qu {p q:Pt3}(h:ahd p q=false):q.x*p.z<p.x*q.z∨(p.x*q.z=q.x*p.z/\q.y*p.z<=p.y*q.z):=by
  unfold ahd at h
  by_cases e:p.x*q.z=q.x*p.z
  · rw[if_pos e] at h
    have:=of_decide_eq_false h
    right;omega
  · rw[if_neg e] at h
    have:=of_decide_eq_false h
    left;omega
theorem xy {p q:Pt3}(h:ahd p q=true):p.x*q.z<q.x*p.z∨(p.x*q.z=q.x*p.z/\p.y*q.z<q.y*p.z):=by
  unfold ahd at h
  by_cases e:p.x*q.z=q.x*p.z
  · rw[if_pos e] at h
    have:=of_decide_eq_true h
    right;omega
  · rw[if_neg e] at h
    have:=of_decide_eq_true h
    left;omega
theorem mT {p c d:Pt3}(hp:0<p.z)(hc:0<c.z)(hd:0<d.z)(h0:det c d p=0)(hcd:ahd c d=true)(h1:ahd p c=false)(h2:ahd d p=false) :
    ∃u v k:Int,0<=u/\0<=v/\0<k/\k*p.x=u*c.x+v*d.x/\k*p.y=u*c.y+v*d.y/\k*p.z=u*c.z+v*d.z:=by
  have i1:c.z*det c d p=(c.y*d.z - c.z*d.y)*(c.z*p.x - c.x*p.z)+(c.z*d.x - c.x*d.z)*(c.z*p.y - c.y*p.z):=by unfold det;grind
  have i2:d.z*det c d p=(c.y*d.z - c.z*d.y)*(d.z*p.x - d.x*p.z)+(c.z*d.x - c.x*d.z)*(d.z*p.y - d.y*p.z):=by unfold det;grind
  have i3:(d.x*c.z - c.x*d.z)*p.y - ((d.x*p.z - p.x*d.z)*c.y+(p.x*c.z - c.x*p.z)*d.y)=det c d p:=by unfold det;grind
  rw[h0,Int.mul_zero] at i1 i2
  rw[h0] at i3
  rcases xy hcd with e|⟨e,e'⟩
  · refine⟨d.x*p.z - p.x*d.z,p.x*c.z - c.x*p.z,d.x*c.z - c.x*d.z,?_,?_,by omega,by grind,by omega,by grind⟩
    · rcases qu h2 with f|⟨f,_⟩ <;> omega
    · rcases qu h1 with f|⟨f,_⟩ <;> omega
  · have z:c.z*d.x - c.x*d.z=0:=by rw[Int.mul_comm c.z];omega
    have w:c.y*d.z - c.z*d.y≠0:=by rw[Int.mul_comm c.z];omega
    rw[z,Int.zero_mul,Int.add_zero] at i1 i2
    have j1:=(Int.mul_eq_zero.mp i1.symm).resolve_left w
    have j2:=(Int.mul_eq_zero.mp i2.symm).resolve_left w
    have y1:c.y*p.z<=p.y*c.z:=by
      rcases qu h1 with f|⟨_,f⟩
      · have:c.z*p.x=p.x*c.z:=Int.mul_comm _ _
        omega
      · exact f
    have y2:p.y*d.z<=d.y*p.z:=by
      rcases qu h2 with f|⟨_,f⟩
      · have:d.z*p.x=p.x*d.z:=Int.mul_comm _ _
        omega
      · exact f
    refine⟨d.y*p.z - p.y*d.z,p.y*c.z - c.y*p.z,d.y*c.z - c.y*d.z,by omega,by omega,by omega,?_,by grind,by grind⟩
    have k1:c.x*p.z=c.z*p.x:=by omega
    have k2:d.x*p.z=d.z*p.x:=by omega
    have g1:(d.y*p.z - p.y*d.z)*c.x+(p.y*c.z - c.y*p.z)*d.x=d.y*(c.x*p.z) - p.y*(c.x*d.z)+p.y*(d.x*c.z) - c.y*(d.x*p.z):=by grind
    rw[g1,k1,k2,e];grind
theorem vk {p c d:Pt3}(hp:0<p.z)(hc:0<c.z)(hd:0<d.z)(hcd:bS c d)(h:onB p c d=true) :
    ∃u v k:Int,0<=u/\0<=v/\0<k/\k*p.x=u*c.x+v*d.x/\k*p.y=u*c.y+v*d.y/\k*p.z=u*c.z+v*d.z:=by
  unfold onB at h
  by_cases h0:det c d p=0
  · rw[if_pos h0] at h
    by_cases e:ahd c d=true
    · rw[if_pos e] at h
      simp only [Bool.and_eq_true, Bool.not_eq_true'] at h
      exact mT hp hc hd h0 e h.1 h.2
    · rw[if_neg e] at h
      simp only [Bool.and_eq_true, Bool.not_eq_true'] at h
      have e':ahd d c=true:=by rw[gi hcd];simpa using e
      obtain⟨u,v,k,hu,hv,hk,e1,e2,e3⟩:=mT hp hd hc (by rw[nI];omega) e' h.1 h.2
      exact⟨v,u,k,hv,hu,hk,by omega,by omega,by omega⟩
  · rw[if_neg h0] at h;cases h
theorem iw (x:Int):(sgn x=1/\0<x)∨(sgn x = -1/\x<0)∨(sgn x=0/\x=0):=by
  unfold sgn
  by_cases h1:0<x
  · rw[if_pos h1];exact .inl ⟨rfl,h1⟩
  · rw[if_neg h1]
    by_cases h2:x<0
    · rw[if_pos h2];exact .inr (.inl ⟨rfl,h2⟩)
    · rw[if_neg h2];exact .inr (.inr ⟨rfl,by omega⟩)
theorem tI {p a b:Pt3}(h:onB p a b=true):det a b p=0:=by
  unfold onB at h
  by_cases e:det a b p=0
  · exact e
  · rw[if_neg e] at h;cases h
theorem kT {a b c d:Pt3}(hc:Lp c)(hd:Lp d)(hcd:bS c d)(h:sgn (det a b c)≠sgn (det a b d)) :
    (det a b c=0->pbF (ao (ao a b) (ao c d)).x (ao (ao a b) (ao c d)).y (ao (ao a b) (ao c d)).z=c)/\
    (det a b d=0->pbF (ao (ao a b) (ao c d)).x (ao (ao a b) (ao c d)).y (ao (ao a b) (ao c d)).z=d):=by
  have f1:(ao (ao a b) (ao c d)).x=det a b d*c.x - det a b c*d.x:=by unfold ao det;grind
  have f2:(ao (ao a b) (ao c d)).y=det a b d*c.y - det a b c*d.y:=by unfold ao det;grind
  have f3:(ao (ao a b) (ao c d)).z=det a b d*c.z - det a b c*d.z:=by unfold ao det;grind
  have z:=(eE hc.pos hd.pos hcd h).1
  obtain⟨lp,k,hk,k1,k2,k3⟩:=gd (a:=(ao (ao a b) (ao c d)).x) (b:=(ao (ao a b) (ao c d)).y) z
  generalize pbF (ao (ao a b) (ao c d)).x (ao (ao a b) (ao c d)).y (ao (ao a b) (ao c d)).z=r at *
  have main:∀(q:Pt3) (m:Int),Lp q->m≠0->m*q.x=k*r.x->m*q.y=k*r.y->m*q.z=k*r.z->r=q:=by
    intro q m lq hm e1 e2 e3
    refine lp.eq lq fun ap=>ap ⟨?_,?_⟩
    · have:(k*m)*(r.x*q.z)=(k*m)*(q.x*r.z):=by
        have h1:(k*m)*(r.x*q.z)=(k*r.x)*(m*q.z):=by grind
        have h2:(k*m)*(q.x*r.z)=(m*q.x)*(k*r.z):=by grind
        rw[h1,h2,e1,e3]
      exact Int.eq_of_mul_eq_mul_left (Int.mul_ne_zero hk hm) this
    · have:(k*m)*(r.y*q.z)=(k*m)*(q.y*r.z):=by
        have h1:(k*m)*(r.y*q.z)=(k*r.y)*(m*q.z):=by grind
        have h2:(k*m)*(q.y*r.z)=(m*q.y)*(k*r.z):=by grind
        rw[h1,h2,e2,e3]
      exact Int.eq_of_mul_eq_mul_left (Int.mul_ne_zero hk hm) this
  constructor
  · intro e
    have hD:det a b d≠0:=fun w=>h (by rw[e,w])
    exact main c (det a b d) hc hD (by rw[←k1,f1,e];omega) (by rw[←k2,f2,e];omega) (by rw[←k3,f3,e];omega)
  · intro e
    have hC:det a b c≠0:=fun w=>h (by rw[e,w])
    refine main d (-det a b c) hd (by omega) ?_ ?_ ?_
    · rw[←k1,f1,e,Int.neg_mul];omega
    · rw[←k2,f2,e,Int.neg_mul];omega
    · rw[←k3,f3,e,Int.neg_mul];omega
end L2
namespace L2
open PySem PySem.Spec PyProof.Rows
section
variable {prog:Program}{w:World}{A:Around}{E:Value->Shared->Prop}{s:Shared}
structure Src (prog:Program)(w:World)(j l:Addr)(tu:Nat->Heap->Prop)(has:Array Value->Heap->Prop):Prop where
  tk:∀k h h',tu k h->(∀o,h.get? j=some o->h'.get? j=some o)->tu k h'
  hk:∀xs h h',has xs h->(∀o,h.get? l=some o->h'.get? l=some o)->has xs h'
  item:∀(A:Around) (k:Nat) (xs:Array Value) (x:Value) (s:Shared) (Q:Value->Shared->Prop) (E:Value->Shared->Prop),tu k s.heap->has xs s.heap->xs[k]?=some x->
    (∀h',tu (k+1) h'->Heap.SameBut j s.heap h'->Q x { s with heap:=h' })->wpAny (model prog w) A (Builtin.SmallTypes.nextOf (.ref j)) Q E s
  stop:∀(A:Around) (k:Nat) (xs:Array Value) (s:Shared) (Q:Value->Shared->Prop) (E:Value->Shared->Prop),A.handled=none->tu k s.heap->has xs s.heap->xs[k]?=none->
    (∀h' x,Heap.ExtBut j s.heap h'->(∃o,h'.get? x=some o/\o.cls=.type "StopIteration")->E (.ref x) { s with heap:=h' })->wpAny (model prog w) A (Builtin.SmallTypes.nextOf (.ref j)) Q E s
  obj:∀k h,tu k h->∃o,h.get? j=some o/\∀v,o.data≠.cell v
theorem sv (j l:Addr):Src prog w j l (fun k h=>h.IsListIter j l k) (fun xs h=>h.IsList l xs) where
  tk:=fun k h h' st f=>st.at fun o e=>f o e
  hk:=fun xs h h' st f=>st.at fun o e=>f o e
  item:=fun A k xs x s Q E st hl e q=>wpAny_nextOf_list_item st hl e q
  stop:=fun A k xs s Q E hd st hl e q=>wpAny_nextOf_list_end hd st hl e q
  obj:=fun k h st=>by
    obtain⟨o,e,_,d⟩:=st
    exact⟨o,e,fun v z=>by rw[d] at z;cases z⟩
variable {z TI TO i1 i2 l1 l2:Addr}{k1 k2:Nat}{xs ys:Array Value}{x y a b:Value}{tu1 tu2:Nat->Heap->Prop}{has1 has2:Array Value->Heap->Prop}
theorem wf {Q:Value->Shared->Prop}{g:Heap}(hz:IsZip g z TI TO .ellipsis)(q:∀g',IsZip g' z TI TO (rawInt g.objs.size)->IsPair g' g.objs.size x y->(∀c o,c≠z->g.get? c=some o->g'.get? c=some o)->Q (.ref g.objs.size) { s with heap:=g' }) :
    wpAny (model prog w) A (newTuple [x,y] >>= fun v=>Builtin.SmallTypes.ownedTupleHandOut (.ref z) v >>= fun _=>ret v) (fun fin s'=>∃v,fin=.done (.ret v)/\Q v s') E { s with heap:=g }:=by
  have zl:z≠g.objs.size:=Nat.ne_of_lt (Heap.lt_size hz)
  refine wpAny_bind (wpAny_newTuple (wpAny_bind ?_))
  unfold Builtin.SmallTypes.ownedTupleHandOut
  have p0:IsPair (g.push { cls:=.type "tuple",data:=.seq #[x,y] }) g.objs.size x y:=Heap.get?_push_size _ rfl
  refine wpAny_bind (wpAny_setField_rec (Heap.get?_push_of_some _ hz) (by simp) fun _ z1 b1=>wpAny_setField_rec z1 (by simp) fun _ z2 b2=>wpAny_pure ⟨_,rfl,q _ z2 ?_ fun c o n e=>?_⟩)
  · exact b2.extBut _ _ zl.symm (b1.extBut _ _ zl.symm p0)
  · exact b2.extBut _ _ n (b1.extBut _ _ n (Heap.get?_push_of_some _ e))
theorem pk {Q:Value->Shared->Prop}(D:ZipApart z TI TO i1 i2 l1 l2)(S1:Src prog w i1 l1 tu1 has1)(S2:Src prog w i2 l2 tu2 has2)(hz:IsZip s.heap z TI TO .none)(hI:IsPair s.heap TI (.ref i1) (.ref i2))(hO:IsPair s.heap TO a b)
    (t1:tu1 k1 s.heap) (t2:tu2 k2 s.heap) (c1:has1 xs s.heap) (c2:has2 ys s.heap) (hd:xs[k1]?=none∨ys[k2]?=none->A.handled=none)
    (it:∀x y h',xs[k1]?=some x->ys[k2]?=some y->IsZip h' z TI TO (rawInt s.heap.objs.size)->IsPair h' TO x y->tu1 (k1+1) h'->tu2 (k2+1) h'->IsPair h' s.heap.objs.size x y->
      (∀c o,c≠z/\c≠TO/\c≠i1/\c≠i2->s.heap.get? c=some o->h'.get? c=some o)->Q (.ref s.heap.objs.size) { s with heap:=h' })
    (en:∀h' e,xs[k1]?=none∨ys[k2]?=none->(∀c o,c≠z/\c≠i1/\c≠TO/\c≠i2->s.heap.get? c=some o->h'.get? c=some o)->(∃o,h'.get? e=some o/\o.cls=.type "StopIteration")->E (.ref e) { s with heap:=h' }) :
    wpAny (model prog w) A (Builtin.«zip.__next__» ⟨[.ref z], []⟩) (fun fin s' => ∃ v, fin = .done (.ret v) ∧ Q v s') E s := by
  have rd:∀{β:Type} {f:Nat} {x:Value} {k:Value->Sem β} {R:β->Shared->Prop},(#[Value.none,.bool false,.bool false,.ref TI,.ref TO]:Array Value)[f]?=some x->wpAny (model prog w) A (k x) R E s->wpAny (model prog w) A (field (.ref z) f >>= k) R E s:=fun e h=>wpAny_bind (wpAny_field hz rfl e h)
  refine rd (f:=2) rfl (rd (f:=3) rfl (wpAny_bind (wpAny_seqItems hI rfl (wpAny_bind (rd (f:=0) rfl (wpAny_pure ?_))))))
  rw[if_pos (by rfl)]
  refine wpAny_bind (wpAny_rule (rd (f:=4) rfl (wpAny_bind (wpAny_setField_rec hz (by simp) fun g hg bg=>wpAny_bind ?_))))
  have hg':IsZip g z TI TO .ellipsis:=hg
  have hO1:IsPair g TO a b:=bg.extBut _ _ D.TOz hO
  have pass:∀{g1 g2:Heap} {e:Addr},IsZip g1 z TI TO .ellipsis->(∃o,g1.get? e=some o/\o.cls=.type "StopIteration")->Heap.SameBut z g1 g2->∃o,g2.get? e=some o/\o.cls=.type "StopIteration":=fun iz ⟨o,h1,h2⟩ bb=>⟨o,bb.extBut _ _ (fun ez=>by rw[ez,iz] at h1;cases h1;simp at h2) h1,h2⟩
  dsimp only[List.zipIdx_cons,List.zipIdx_nil]
  rw[List.forIn_cons]
  refine wpAny_bind (wpAny_bind (wpAny_onRaise (m:=Builtin.SmallTypes.nextOf (.ref i1) >>= _) (wpAny_bind ?_)))
  have a1:=S1.tk _ _ _ t1 fun o e=>bg.extBut _ o D.i1z e
  have a2:=S1.hk _ _ _ c1 fun o e=>bg.extBut _ o D.l1z e
  cases hx:xs[k1]? with
  | none=>exact S1.stop _ k1 xs { s with heap:=g } _ _ (hd (.inl hx)) a1 a2 hx fun g' e bx he=>wpAny_setField_rec (bx _ _ D.i1z.symm hg') (by simp) fun g2 _ b2=>en g2 e (.inl hx) (fun c o n f=>b2.extBut _ _ n.1 (bx _ _ n.2.1 (bg.extBut _ _ n.1 f))) (pass (bx _ _ D.i1z.symm hg') he b2)
  | some x=>
    refine S1.item _ k1 xs x { s with heap:=g } _ _ a1 a2 hx fun g' u1 bx=>wpAny_pure ?_
    have o1:IsPair g' TO a b:=bx.extBut _ _ D.TOi1 hO1
    refine wpAny_bind (wpAny_seqItems o1 rfl (wpAny_bind (wpAny_updateSeq_pair o1 fun g2 o2 b2=>wpAny_bind (wpAny_letGo (wpAny_pure ?_)))))
    dsimp only
    rw[List.forIn_cons]
    refine wpAny_bind (wpAny_bind (wpAny_onRaise (m:=Builtin.SmallTypes.nextOf (.ref i2) >>= _) (wpAny_bind ?_)))
    have up:∀c o,c≠z->c≠i1->c≠TO->s.heap.get? c=some o->g2.get? c=some o:=fun c o n1 n2 n3 e=>b2.extBut _ _ n3 (bx.extBut _ _ n2 (bg.extBut _ _ n1 e))
    have d1:=S2.tk _ _ _ t2 fun o e=>up _ o D.i2z D.i12.symm D.TOi2.symm e
    have d2:=S2.hk _ _ _ c2 fun o e=>up _ o D.l2z D.l2i1 D.l2TO e
    have zg2:IsZip g2 z TI TO .ellipsis:=b2.extBut _ _ D.TOz.symm (bx.extBut _ _ D.i1z.symm hg')
    cases hy:ys[k2]? with
    | none=>exact S2.stop _ k2 ys { s with heap:=g2 } _ _ (hd (.inr hy)) d1 d2 hy fun g' e by_ he=>wpAny_setField_rec (by_ _ _ D.i2z.symm zg2) (by simp) fun g3 _ b3=>en g3 e (.inr hy) (fun c o n f=>b3.extBut _ _ n.1 (by_ _ _ n.2.2.2 (up c o n.1 n.2.1 n.2.2.1 f))) (pass (by_ _ _ D.i2z.symm zg2) he b3)
    | some y=>
      refine S2.item _ k2 ys y { s with heap:=g2 } _ _ d1 d2 hy fun g3 u2 by_=>wpAny_pure ?_
      have o3:IsPair g3 TO x b:=by_.extBut _ _ D.TOi2 o2
      refine wpAny_bind (wpAny_seqItems o3 rfl (wpAny_bind (wpAny_updateSeq_pair o3 fun g4 o4 b4=>wpAny_bind (wpAny_letGo (wpAny_pure ?_)))))
      dsimp only
      rw[List.forIn_nil]
      have o4':IsPair g4 TO x y:=o4
      have sz:g4.objs.size=s.heap.objs.size:=b4.1.trans (by_.1.trans (b2.1.trans (bx.1.trans bg.1)))
      have v1:=S1.tk _ _ _ u1 fun o e=>b4.extBut _ o D.TOi1.symm (by_.extBut _ o D.i12 (b2.extBut _ o D.TOi1.symm e))
      have v2:=S2.tk _ _ _ u2 fun o e=>b4.extBut _ o D.TOi2.symm e
      refine wpAny_pure (wpAny_bind (wpAny_seqItems o4' rfl (wf (s:=s) (x:=x) (y:=y) (b4.extBut _ _ D.TOz.symm (by_.extBut _ _ D.i2z.symm zg2)) fun g5 e1 e2 e3=>?_)))
      rw[sz] at e1 e2 ⊢
      exact it x y g5 hx hy e1 (e3 _ _ D.TOz o4') (S1.tk _ _ _ v1 fun o e=>e3 _ o D.i1z e) (S2.tk _ _ _ v2 fun o e=>e3 _ o D.i2z e) e2 fun c o n f=>e3 _ _ n.1 (b4.extBut _ _ n.2.1 (by_.extBut _ _ n.2.2.2 (up c o n.1 n.2.2.1 n.2.1 f)))
theorem mi {Q:Option Value->Shared->Prop}(D:ZipApart z TI TO i1 i2 l1 l2)(S1:Src prog w i1 l1 tu1 has1)(S2:Src prog w i2 l2 tu2 has2)(hz:IsZip s.heap z TI TO .none)(hI:IsPair s.heap TI (.ref i1) (.ref i2))(hO:IsPair s.heap TO a b)
    (t1:tu1 k1 s.heap) (t2:tu2 k2 s.heap) (c1:has1 xs s.heap) (c2:has2 ys s.heap) (ex:xs[k1]?=some x) (ey:ys[k2]?=some y)
    (q:∀h',IsZip h' z TI TO (rawInt s.heap.objs.size)->IsPair h' TO x y->tu1 (k1+1) h'->tu2 (k2+1) h'->IsPair h' s.heap.objs.size x y->
      (∀c o,c≠z->c≠TO->c≠i1->c≠i2->s.heap.get? c=some o->h'.get? c=some o)->Q (some (.ref s.heap.objs.size)) { s with heap:=h' }):wpAny (model prog w) A (pyNext (.ref z)) Q E s:=by
  have ty:s.TypeIs (.ref z) "zip":=⟨_,hz,rfl⟩
  unfold pyNext
  have no:¬(xs[k1]?=none∨ys[k2]?=none):=by rw[ex,ey];rintro (h | h) <;> cases h
  refine wpAny_bind (wpAny_attempt (wpAny_callSpecial?_slot (name:=Str.ofString "__next__") ty F.slot_zip_next (wpAny_call_entry F.slot_zip_next ty F.entry_zip_next (pk D S1 S2 hz hI hO t1 t2 c1 c2 (fun h=>absurd h no) (fun x' y' h' e1 e2 a1 a2 a3 a4 a5 a6=>?_) fun _ _ h=>absurd h no) (F.args_zip_next_1 _))))
  rw[ex] at e1
  rw[ey] at e2
  cases e1
  cases e2
  exact wpAny_pure (q h' a1 a2 a3 a4 a5 fun c o n1 n2 n3 n4=>a6 c o ⟨n1,n2,n3,n4⟩)
theorem nO {Q:Option Value->Shared->Prop}(hd:A.handled=none)(D:ZipApart z TI TO i1 i2 l1 l2)(S1:Src prog w i1 l1 tu1 has1)(S2:Src prog w i2 l2 tu2 has2)(hz:IsZip s.heap z TI TO .none)(hI:IsPair s.heap TI (.ref i1) (.ref i2))(hO:IsPair s.heap TO a b)
    (t1:tu1 k1 s.heap) (t2:tu2 k2 s.heap) (c1:has1 xs s.heap) (c2:has2 ys s.heap) (en:xs[k1]?=none∨ys[k2]?=none)
    (q:∀h',(∀c o,c≠z->c≠TO->c≠i1->c≠i2->s.heap.get? c=some o->h'.get? c=some o)->Q none { s with heap:=h' }):wpAny (model prog w) A (pyNext (.ref z)) Q E s:=by
  have ty:s.TypeIs (.ref z) "zip":=⟨_,hz,rfl⟩
  unfold pyNext
  refine wpAny_bind (wpAny_attempt (wpAny_callSpecial?_slot (name:=Str.ofString "__next__") ty F.slot_zip_next (wpAny_call_entry F.slot_zip_next ty F.entry_zip_next (pk D S1 S2 hz hI hO t1 t2 c1 c2 (fun _=>hd) (fun x y h' e1 e2=>?_) fun h' e _ hk he=>?_) (F.args_zip_next_1 _))))
  · rw[e1,e2] at en
    rcases en with h|h <;> cases h
  · obtain⟨o,ho,hc⟩:=he
    exact wpAny_bind (wpAny_isInstance (T:="StopIteration") (b:=true) ⟨o,ho,hc⟩ isSubtype_stop (wpAny_pure (q _ fun c o n1 n2 n3 n4=>hk c o ⟨n1,n3,n2,n4⟩)))
end
section
variable {X:Cx}{pins:List (Addr×Obj)}{σ:St}{H:Hp}{s:Shared}{h':Heap}{ch:List Addr}
theorem Inv.turnedL (I:Inv X pins σ H s)(k:∀b o,b∉ch->s.heap.get? b=some o->h'.get? b=some o)(f:∀b∈ch,eF X pins H b):Inv X pins σ H { s with heap:=h' }:=by
  have no:∀b u,H b=some u->b∉ch:=fun b u e hb=>by have:=(f b hb).1;rw[e] at this;cases this
  refine I.call' (s':={ s with heap:=h' }) (ch:=ch) rfl ⟨fun b o e _ _ n=>k b o n e,fun b o e _ _ n=>⟨o.slots,k b o n e⟩,fun _ _ _ n _=>n,fun b o e n=>⟨o,k b o n e⟩,fun _ _ e=>e,fun _ _ _ e=>e,fun b ps e=>⟨#[],by rw[e];simp⟩⟩ (fun a o e=>?_) I.bare fun b hb=>?_
  · refine (I.hok a o e).stay (fun c u hc q=>k c u ?_ q) (fun _ q=>q) fun _ _ q=>q
    rcases hc with rfl|hc
    · exact no _ _ e
    · exact no _ _ hc
  · exact⟨(f b hb).2.2.2.1,(f b hb).2.1,(f b hb).2.2.2.2.1,(f b hb).2.2.2.2.2⟩
theorem Inv.turnedT {x y:V}{u v:Value}(I:Inv X pins σ H s)(k:∀b o,b∉ch->s.heap.get? b=some o->h'.get? b=some o)(f:∀b∈ch,eF X pins H b)(hT:IsPair h' s.heap.objs.size u v)(ru:RelV x u)(rv:RelV y v) :
    Inv X pins σ (upd H s.heap.objs.size (.tup [x,y])) { s with heap:=h' }:=by
  have no:∀b u,H b=some u->b∉ch:=fun b u e hb=>by have:=(f b hb).1;rw[e] at this;cases this
  have hn:H s.heap.objs.size=none:=I.hok.fresh (Nat.le_refl _)
  have ne:∀{b:Addr} {o:Obj},s.heap.get? b=some o->b≠s.heap.objs.size:=fun e=>Nat.ne_of_lt (Heap.lt_size e)
  refine I.call' (s':={ s with heap:=h' }) (ch:=ch) rfl ⟨fun b o e _ _ n=>k b o n e,fun b o e _ _ n=>⟨o.slots,k b o n e⟩,fun b o e n _=>by rw[aF (ne e)];exact n,fun b o e n=>⟨o,k b o n e⟩,fun b xs e=>by rw[aF (aV e hn)];exact e,fun b o u e=>by rw[aF (aV e hn)];exact e,fun b ps e=>⟨#[],by rw[aF (aV e hn),e];simp⟩⟩ (fun a o e=>?_) I.bare fun b hb=>?_
  · by_cases ha:a=s.heap.objs.size
    · subst ha
      rw[ak] at e
      cases e
      exact⟨by show 2<=sizeLine;decide,[u,v],.cons ru (.cons rv .nil),⟨_,hT,rfl,_,rfl⟩⟩
    · rw[aF ha] at e
      refine (I.hok a o e).stay (fun c u hc q=>k c u ?_ q) (fun c q=>by rw[aF (aV q hn)];exact q) fun c xs q=>by rw[aF (aV q hn)];exact q
      rcases hc with rfl|hc
      · exact no _ _ e
      · exact no _ _ hc
  · exact⟨(f b hb).2.2.2.1,(f b hb).2.1,(f b hb).2.2.2.2.1,(f b hb).2.2.2.2.2⟩
end
structure SrcK (c:List V->HO)(tu:Addr->Addr->Nat->Heap->Prop)(has:Addr->Array Value->Heap->Prop):Prop where
  src:∀(prog:Program) (w:World) (j l:Addr),Src prog w j l (tu j l) (has l)
  of:∀{P:Program} {w:World} {H:Hp} {h:Heap} {a:Addr} {xs:List V},ObjOk P w H h a (c xs)->∃its:List Value,Vals xs its/\has a its.toArray h
  inj:∀{xs ys:List V},c xs=c ys->xs=ys
theorem pN:SrcK HO.lst (fun j l k h=>h.IsListIter j l k) (fun l xs h=>h.IsList l xs) where
  src:=fun _ _ j l=>sv j l
  of:=fun x=>by
    obtain⟨_,its,n,r,e⟩:=x
    exact⟨its,r,⟨_,e,rfl,n,rfl⟩⟩
  inj:=fun e=>by cases e;rfl
def Itz (c d:List V->HO)(a b:Addr):It:=
  ⟨fun i H=>∃xs ys x y,H a=some (c xs)/\H b=some (d ys)/\xs[i]?=some x/\ys[i]?=some y,
   fun i H v H'=>∃p x y,H p=none/\v=.ref p/\H'=upd H p (.tup [x,y])/\(∀xs,H a=some (c xs)->xs[i]?=some x)/\∀ys,H b=some (d ys)->ys[i]?=some y,
   fun i H=>∃xs ys,H a=some (c xs)/\H b=some (d ys)/\(xs.length<=i∨ys.length<=i)⟩
theorem rR {P:Program}{w:World}{K:PySem.W.Frag}{es:List Expr}{n1}{pos:Pos}{c d:List V->HO}{tu1 tu2:Addr->Addr->Nat->Heap->Prop}{has1 has2:Addr->Array Value->Heap->Prop}(K1:SrcK c tu1 has1)(K2:SrcK d tu2 has2)
    {z TI TO i1 i2 a b:Addr} (D:ZipApart z TI TO i1 i2 a b):Turn P w K (.Tuple es n1 pos) (Itz c d a b) [z,TI,TO,i1,i2] z (fun i h=>IsZip h z TI TO .none/\IsPair h TI (.ref i1) (.ref i2)/\(∃x y,IsPair h TO x y)/\tu1 i1 a i h/\tu2 i2 b i h) where
  mem:=by simp
  obj:=fun i h st e he=>by
    obtain⟨hz,hI,⟨x,y,hO⟩,t1,t2⟩:=st
    simp only[List.mem_cons,List.not_mem_nil,or_false] at he
    rcases he with rfl|rfl|rfl|rfl|rfl
    · exact⟨_,hz,fun v z=>nomatch z⟩
    · exact⟨_,hI,fun v z=>nomatch z⟩
    · exact⟨_,hO,fun v z=>nomatch z⟩
    · exact (K1.src P w _ a).obj i h t1
    · exact (K2.src P w _ b).obj i h t2
  keep:=fun i h h' st k=>by
    obtain⟨hz,hI,⟨x,y,hO⟩,t1,t2⟩:=st
    exact⟨k z (by simp) _ hz,k TI (by simp) _ hI,⟨x,y,k TO (by simp) _ hO⟩,(K1.src P w i1 a).tk _ _ _ t1 fun o e=>k i1 (by simp) o e,(K2.src P w i2 b).tk _ _ _ t2 fun o e=>k i2 (by simp) o e⟩
  item:=by
    intro X hP hw hK hc i pins s σ H E I hf st hg
    subst hP hw hK
    obtain⟨xs,ys,x,y,ha,hb,ex,ey⟩:=hg
    obtain⟨hz,hI,⟨p,q,hO⟩,t1,t2⟩:=st
    obtain⟨us,ru,c1⟩:=K1.of (I.hok a _ ha)
    obtain⟨vs,rv,c2⟩:=K2.of (I.hok b _ hb)
    obtain⟨u,hu,rxu⟩:=ru.get ex
    obtain⟨v,hv,ryv⟩:=rv.get ey
    refine mi D (K1.src _ _ i1 a) (K2.src _ _ i2 b) hz hI hO t1 t2 c1 c2 (x:=u) (y:=v) (by simpa using hu) (by simpa using hv) fun h1 a1 a2 a3 a4 a5 a6=>⟨_,rfl,?_⟩
    refine wpAny_letOwnedTupleGo_zip (s:={ s with heap:=h1 }) a1 fun h2 hz2 sb=>?_
    have zl:=Heap.lt_size hz
    have fr:H s.heap.objs.size=none:=I.hok.fresh (Nat.le_refl _)
    have ne:∀{e:Addr} {o:Obj},s.heap.get? e=some o->e≠s.heap.objs.size:=fun h=>Nat.ne_of_lt (Heap.lt_size h)
    have up:∀e o,e≠z->h1.get? e=some o->h2.get? e=some o:=fun e o n g=>sb.extBut _ _ n g
    refine⟨.ref s.heap.objs.size,upd H s.heap.objs.size (.tup [x,y]),?_,rfl,⟨_,x,y,fr,rfl,rfl,fun xs' h=>?_,fun ys' h=>?_⟩,⟨hz2,up _ _ D.TIz (a6 _ _ D.TIz D.TITO D.TIi1 D.TIi2 hI),⟨_,_,up _ _ D.TOz a2⟩,(K1.src X.prog X.w i1 a).tk _ _ _ a3 fun o e=>up _ o D.i1z e,(K2.src X.prog X.w i2 b).tk _ _ _ a4 fun o e=>up _ o D.i2z e⟩,fun e he=>?_⟩
    · refine I.turnedT (ch:=[z,TI,TO,i1,i2]) (fun e o n g=>?_) hf (up _ _ (Nat.ne_of_gt zl) a5) rxu ryv
      simp only[List.mem_cons,List.not_mem_nil,or_false,not_or] at n
      exact up e o n.1 (a6 e o n.1 n.2.2.1 n.2.2.2.1 n.2.2.2.2 g)
    · rw[ha] at h
      rw[←K1.inj (Option.some.inj h)];exact ex
    · rw[hb] at h
      rw[←K2.inj (Option.some.inj h)];exact ey
    · have:e≠s.heap.objs.size:=by
        simp only[List.mem_cons,List.not_mem_nil,or_false] at he
        rcases he with rfl|rfl|rfl|rfl|rfl
        · exact ne hz
        · exact ne hI
        · exact ne hO
        · obtain⟨o,h,_⟩:=(K1.src X.prog X.w _ a).obj _ _ t1;exact ne h
        · obtain⟨o,h,_⟩:=(K2.src X.prog X.w _ b).obj _ _ t2;exact ne h
      rw[aF this];exact (hf e he).1
  done:=by
    intro X hP hw hK hc i pins s σ H E I hf st hg
    subst hP hw hK
    obtain⟨xs,ys,ha,hb,hl⟩:=hg
    obtain⟨hz,hI,⟨p,q,hO⟩,t1,t2⟩:=st
    obtain⟨us,ru,c1⟩:=K1.of (I.hok a _ ha)
    obtain⟨vs,rv,c2⟩:=K2.of (I.hok b _ hb)
    have l1:=ru.length
    have l2:=rv.length
    refine nO (I.ok.hd hc) D (K1.src _ _ i1 a) (K2.src _ _ i2 b) hz hI hO t1 t2 c1 c2 ?_ fun h1 a6=>⟨rfl,I.turnedL (ch:=[z,TI,TO,i1,i2]) (fun e o n g=>?_) hf⟩
    · rcases hl with h|h
      · left;simp;omega
      · right;simp;omega
    · simp only[List.mem_cons,List.not_mem_nil,or_false,not_or] at n
      exact a6 e o n.1 n.2.2.1 n.2.2.2.1 n.2.2.2.2 g
  self:=fun _ _ _ _ _ st h=>wpAny_pyIter_zip st.1 h
section
variable {prog:Program}{w:World}{A:Around}{E:Value->Shared->Prop}{s:Shared}
theorem qv {n a b:Nat}(ha:a<n)(hb:b<n):ZipApart (n+4) (n+2) (n+3) n (n+1) a b:=by
  constructor <;> (first | exact Nat.ne_of_lt (by omega) | exact Nat.ne_of_gt (by omega))
end
section
variable {X:Cx}
def wS (c d:List V->HO)(t:TA):TI:=fun σ H R=>t σ H fun vs H1=>∃a b xs ys,vs=[.ref a,.ref b]/\H1 a=some (c xs)/\H1 b=some (d ys)/\R (Itz c d a b) H1
theorem wF {c d:List V->HO}{tu1 tu2:Addr->Addr->Nat->Heap->Prop}{has1 has2:Addr->Array Value->Heap->Prop}(K1:SrcK c tu1 has1)(K2:SrcK d tu2 has2)
    (mk:∀{prog:Program} {w:World} {A:Around} {E:Value->Shared->Prop} {s:Shared} {a b:Addr} {xs ys:Array Value} {Q:Value->Shared->Prop},has1 a xs s.heap->has2 b ys s.heap->
      (∀h',IsZip h' (s.heap.objs.size+4) (s.heap.objs.size+2) (s.heap.objs.size+3) .none->IsPair h' (s.heap.objs.size+2) (.ref s.heap.objs.size) (.ref (s.heap.objs.size+1))->
        IsPair h' (s.heap.objs.size+3) .none .none->tu1 s.heap.objs.size a 0 h'->tu2 (s.heap.objs.size+1) b 0 h'->(∀c o,s.heap.get? c=some o->h'.get? c=some o)->Q (.ref (s.heap.objs.size+4)) { s with heap:=h' })->
      wpAny (model prog w) A (call (.type "zip") [.ref a,.ref b]) Q E s)
    {es:List Expr} {n1} {tp:Pos} {e1 e2:Expr} {ta:TA} {p pos:Pos} (hg:Gl X "zip") (hm:X.mg "zip" = none) (hb:bootBuiltins "zip" = some (.type "zip")) (ha:PA X [e1,e2] ta)
    (hs:starEach [e1,e2] X.env=[(false,eval e1 X.env),(false,eval e2 X.env)]:=by rfl) (hs2:starEach [e2] X.env=[(false,eval e2 X.env)]:=by rfl) :
    PI X (.Tuple es n1 tp) (.Call (.Name "zip" p) [e1,e2] [] pos) (wS c d ta):=by
  intro pins s σ H R I h
  refine Call_ (fI I hg hm hb (PyProof.Rows.callWith_type1 (thn (ha pos pins s σ H _ I h) fun us s1 ⟨vs,H1,I1,r1,q1⟩=>?_) (by rw[hs,hs2]) (by rw[hs2];rfl)))
  obtain⟨a,b,xs,ys,rfl,h1,h2,q⟩:=q1
  cases r1 with
  | cons r rr=>
    cases rr with
    | cons r' rr=>
      cases rr
      cases r
      cases r'
      obtain⟨us1,_,c1⟩:=K1.of (I1.hok a _ h1)
      obtain⟨us2,_,c2⟩:=K2.of (I1.hok b _ h2)
      have la:=(I1.hok a _ h1).lt
      have lb:=(I1.hok b _ h2).lt
      refine mk c1 c2 fun h' z1 z2 z3 z4 z5 k=>?_
      refine wpAny_pyIter_zip (s:={ s1 with heap:=h' }) z1 ?_
      refine⟨s1.heap.objs.size+4,[s1.heap.objs.size+4,s1.heap.objs.size+2,s1.heap.objs.size+3,s1.heap.objs.size,s1.heap.objs.size+1],_,_,H1,rfl,I1.kept (t':=s1.toks) k,rR K1 K2 (qv la lb),⟨z1,z2,⟨_,_,z3⟩,z4,z5⟩,fun e he=>?_,q⟩
      have ge:s1.heap.objs.size<=e:=by
        simp only[List.mem_cons,List.not_mem_nil,or_false] at he
        rcases he with rfl|rfl|rfl|rfl|rfl <;> omega
      exact I1.fpOk ge (I1.hok.fresh ge)
theorem sX {es:List Expr}{n1}{tp:Pos}{e1 e2:Expr}{ta:TA}{p pos:Pos}(hg:Gl X "zip")(hm:X.mg "zip" = none)(hb:bootBuiltins "zip" = some (.type "zip"))(ha:PA X [e1,e2] ta)
    (hs:starEach [e1,e2] X.env=[(false,eval e1 X.env),(false,eval e2 X.env)]:=by rfl) (hs2:starEach [e2] X.env=[(false,eval e2 X.env)]:=by rfl) :
    PI X (.Tuple es n1 tp) (.Call (.Name "zip" p) [e1,e2] [] pos) (wS HO.lst HO.lst ta):=
  wF pN pN (fun c1 c2 q=>call_zip_2 c1 c2 fun h' a1 a2 a3 a4 a5 _ a7=>q h' a1 a2 a3 a4 a5 a7) hg hm hb ha hs hs2
end
theorem eI {X:Cx}{K:PySem.W.Frag}{es:List Expr}{k:Nat}{t:TGs}{n:Nat}{pos:Pos}(hK:X.K=K)(hc:X.calm=true)(h:PGs X es t)(hn:(assignEach es X.env).length=n:=by rfl)(hst:(assignEach es X.env).findIdx? (·.1)=none:=by rfl):PG X (.Tuple es k pos) (oU K n t):=by
  subst hK;exact gb hc h hn hst
section
variable {σ:St}{H:Hp}{t:TA}{i j:Int}{K:PySem.W.Frag}
theorem KeepS.none2 {v w:Option V}:KeepS [none,none] [v,w]:=⟨rfl,fun i u h=>by rcases i with _ | _ | i <;> simp at h⟩
end
end L2
namespace L2
theorem kC {p r:Pt3}{k d a b c:Int}(lp:Lp p)(lr:Lp r)(hk:k≠0)(hd:d≠0)(a1:a=k*p.x)(b1:b=k*p.y)(c1:c=k*p.z)(a2:a=d*r.x)(b2:b=d*r.y)(c2:c=d*r.z):p=r:=by
  refine lp.eq lr fun ap=>ap ⟨?_,?_⟩
  · have:(k*d)*(p.x*r.z)=(k*d)*(r.x*p.z):=by
      have h1:(k*d)*(p.x*r.z)=(k*p.x)*(d*r.z):=by grind
      have h2:(k*d)*(r.x*p.z)=(d*r.x)*(k*p.z):=by grind
      rw[h1,h2,←a1,←c1,←a2,←c2]
    exact Int.eq_of_mul_eq_mul_left (Int.mul_ne_zero hk hd) this
  · have:(k*d)*(p.y*r.z)=(k*d)*(r.y*p.z):=by
      have h1:(k*d)*(p.y*r.z)=(k*p.y)*(d*r.z):=by grind
      have h2:(k*d)*(r.y*p.z)=(d*r.y)*(k*p.z):=by grind
      rw[h1,h2,←b1,←c1,←b2,←c2]
    exact Int.eq_of_mul_eq_mul_left (Int.mul_ne_zero hk hd) this
theorem tm {a b c:Int}{r:Pt3}(hc:c≠0)(h:Is3 a b c r):pbF a b c=r:=by
  obtain⟨lp,k,hk,e1,e2,e3⟩:=gd (a:=a) (b:=b) hc
  obtain⟨d,hd,f1,f2,f3⟩:=h.ex
  exact kC lp ⟨h.pos,h.cop⟩ hk (by omega) e1 e2 e3 f1 f2 f3
theorem vi {a b c:Int}{r:Pt3}(hc:c≠0)(h:Is3 (0 - a) (0 - b) (0 - c) r):pbF a b c=r:=by
  obtain⟨lp,k,hk,e1,e2,e3⟩:=gd (a:=a) (b:=b) hc
  obtain⟨d,hd,f1,f2,f3⟩:=h.ex
  exact kC (d:=-d) lp ⟨h.pos,h.cop⟩ hk (by omega) e1 e2 e3 (by rw[Int.neg_mul];omega) (by rw[Int.neg_mul];omega) (by rw[Int.neg_mul];omega)
def Srt (l:List Pt3):Prop:=(∀p∈l,Lp p)/\l.Pairwise (fun p q=>ahd p q=true)
theorem mf {p q r:Pt3}(hp:Lp p)(hq:Lp q)(hr:Lp r)(h1:ahd p q=true)(h2:ahd q r=true):ahd p r=true:=iJ hp.pos hq.pos hr.pos h1 h2
theorem uG {p q:Pt3}(hp:Lp p)(hq:Lp q)(h1:ahd p q=true)(h2:ahd q p=true):False:=by
  have:=mf hp hq hp h1 h2
  rw[gD] at this
  cases this
theorem Srt.tail {p:Pt3}{l:List Pt3}(h:Srt (p::l)):Srt l:=⟨fun q hq=>h.1 q (List.mem_cons_of_mem _ hq),(List.pairwise_cons.mp h.2).2⟩
theorem Srt.head {p:Pt3}{l:List Pt3}(h:Srt (p::l)){q:Pt3}(hq:q∈l):ahd p q=true:=(List.pairwise_cons.mp h.2).1 q hq
theorem Srt.nil:Srt []:=⟨fun p h=>(nomatch h),.nil⟩
theorem Srt.single {p:Pt3}(h:Lp p):Srt [p]:=by
  refine⟨fun q hq=>?_,by simp⟩
  have e:q=p:=by simpa using hq
  subst e
  exact h
theorem gm:∀{l m:List Pt3},Srt l->Srt m->(∀p,p∈l↔p∈m)->l=m
  | [],[],_,_,_=>rfl
  | [],q::m,_,_,h=>nomatch (h q).mpr (by simp)
  | p::l,[],_,_,h=>nomatch (h p).mp (by simp)
  | p::l,q::m,hl,hm,h=>by
    have lp:=hl.1 p (by simp)
    have lq:=hm.1 q (by simp)
    have e:p=q:=by
      have a:=(h p).mp (by simp)
      have b:=(h q).mpr (by simp)
      rcases List.mem_cons.mp a with a|a
      · exact a
      · rcases List.mem_cons.mp b with b|b
        · exact b.symm
        · exact (uG lp lq (hl.head b) (hm.head a)).elim
    subst e
    have t:∀r,r∈l↔r∈m:=fun r=>by
      constructor
      · intro hr
        rcases List.mem_cons.mp ((h r).mp (List.mem_cons_of_mem _ hr)) with e|q
        · subst e
          have:=hl.head hr
          rw[gD] at this
          cases this
        · exact q
      · intro hr
        rcases List.mem_cons.mp ((h r).mpr (List.mem_cons_of_mem _ hr)) with e|q
        · subst e
          have:=hm.head hr
          rw[gD] at this
          cases this
        · exact q
    rw[gm hl.tail hm.tail t]
theorem Srt.nodup {l:List Pt3}(h:Srt l):l.Nodup:=h.2.imp fun {p q} a e=>by subst e;rw[gD] at a;cases a
theorem Srt.split {l:List Pt3}(h:Srt l){p:Pt3}(hp:Lp p):∀{q},q∈l.dropWhile (fun q=>ahd q p)->ahd q p=false:=by
  induction l with
  | nil=>intro q hq;cases hq
  | cons a l ih=>
    intro q hq
    rw[List.dropWhile_cons] at hq
    split at hq
    · exact ih h.tail hq
    · rename_i na
      have na':ahd a p=false:=by simpa using na
      rcases List.mem_cons.mp hq with rfl | hq
      · exact na'
      · cases e:ahd q p with
        | false=>rfl
        | true=>
          have:=mf (h.1 a (by simp)) (h.1 q (List.mem_cons_of_mem _ hq)) hp (h.head hq) e
          rw[na'] at this
          cases this
theorem tN {l:List Pt3}{f:Pt3->Bool}{q:Pt3}(h:q∈l.takeWhile f):f q=true:=by
  induction l with
  | nil=>cases h
  | cons a l ih=>
    rw[List.takeWhile_cons] at h
    split at h
    · rename_i e
      rcases List.mem_cons.mp h with rfl | h
      · exact e
      · exact ih h
    · cases h
theorem iK (l:List Pt3)(f:Pt3->Bool):l.takeWhile f++l.dropWhile f=l:=List.takeWhile_append_dropWhile
theorem Srt.parts {l m:List Pt3}(h:Srt (l++m)):Srt l/\Srt m/\∀p∈l,∀q∈m,ahd p q=true:=by
  obtain⟨a,b⟩:=h
  obtain⟨b1,b2,b3⟩:=List.pairwise_append.mp b
  exact⟨⟨fun p hp=>a p (List.mem_append_left _ hp),b1⟩,⟨fun p hp=>a p (List.mem_append_right _ hp),b2⟩,b3⟩
theorem Srt.join {l m:List Pt3}(h1:Srt l)(h2:Srt m)(h:∀p∈l,∀q∈m,ahd p q=true):Srt (l++m):=
  ⟨fun p hp=>(List.mem_append.mp hp).elim (h1.1 p) (h2.1 p),List.pairwise_append.mpr ⟨h1.2,h2.2,h⟩⟩
theorem Srt.cons {p:Pt3}{l:List Pt3}(hp:Lp p)(h:Srt l)(ha:∀q∈l,ahd p q=true):Srt (p::l):=Srt.join (l:=[p]) (Srt.single hp) h fun a e q hq=>by
  have:a=p:=by simpa using e
  subst this
  exact ha q hq
def mrg:List Pt3->List Pt3->List Pt3
  | one,[]=>one
  | one,t::other=>one.takeWhile (fun q=>ahd q t)++t::mrg (one.dropWhile (fun q=>ahd q t)) other
theorem jh:∀(one other:List Pt3) (p:Pt3),p∈mrg one other↔p∈one∨p∈other
  | one,[],p=>by simp[mrg]
  | one,t::other,p=>by
    unfold mrg
    rw[List.mem_append,List.mem_cons,jh,List.mem_cons]
    have e:p∈one↔p∈one.takeWhile (fun q=>ahd q t)∨p∈one.dropWhile (fun q=>ahd q t):=by rw[←List.mem_append,iK]
    rw[e]
    grind
theorem p5:∀{one other:List Pt3},Srt one->Srt other->(∀p∈one,p∉other)->Srt (mrg one other)
  | one,[],h1,_,_=>by unfold mrg;exact h1
  | one,t::other,h1,h2,hd=>by
    unfold mrg
    have lt:=h2.1 t (by simp)
    have sp:=fun {q}=>h1.split lt (q:=q)
    have hh:Srt (one.takeWhile (fun q=>ahd q t)++one.dropWhile (fun q=>ahd q t)):=by rw[iK];exact h1
    obtain⟨s1,s2,s3⟩:=hh.parts
    have sub:∀q∈one.dropWhile (fun q=>ahd q t),q∈one:=fun q hq=>by rw[←iK one (fun q=>ahd q t)];exact List.mem_append_right _ hq
    have ih:=p5 s2 h2.tail fun p hp hq=>hd p (sub p hp) (List.mem_cons_of_mem _ hq)
    have beh:∀q∈mrg (one.dropWhile (fun q=>ahd q t)) other,ahd t q=true:=fun q hq=>by
      rcases (jh _ _ _).mp hq with hq|hq
      · rcases ee lt (h1.1 q (sub q hq)) with e|e|e
        · subst e;exact (hd _ (sub _ hq) (by simp)).elim
        · exact e
        · rw[sp hq] at e;cases e
      · exact h2.head hq
    refine s1.join (Srt.cons lt ih beh) fun p hp q hq=>?_
    have pa:=tN hp
    rcases List.mem_cons.mp hq with rfl | hq
    · exact pa
    · exact mf (s1.1 p hp) lt (ih.1 q hq) pa (beh q hq)
noncomputable def jQ (row:List Pt3)(p:Pt3):List Pt3:=if (row.dropWhile (fun q=>ahd q p)).head?=some p then row else row.takeWhile (fun q=>ahd q p)++p::row.dropWhile (fun q=>ahd q p)
theorem ug {row:List Pt3}{p:Pt3}(h:Srt row)(hp:Lp p):Srt (jQ row p)/\∀q,q∈jQ row p↔q∈row∨q=p:=by
  have hh:Srt (row.takeWhile (fun q=>ahd q p)++row.dropWhile (fun q=>ahd q p)):=by rw[iK];exact h
  obtain⟨s1,s2,s3⟩:=hh.parts
  have sub:∀q∈row.dropWhile (fun q=>ahd q p),q∈row:=fun q hq=>by rw[←iK row (fun q=>ahd q p)];exact List.mem_append_right _ hq
  unfold jQ
  split
  · rename_i e
    have m:p∈row:=sub p (List.mem_of_mem_head? (by rw[e];rfl))
    exact⟨h,fun q=>⟨.inl,fun z=>z.elim id fun e=>by subst e;exact m⟩⟩
  · rename_i ne
    have beh:∀q∈row.dropWhile (fun q=>ahd q p),ahd p q=true:=by
      intro q hq
      rcases ee hp (h.1 q (sub q hq)) with e|e|e
      · subst e
        cases hd:row.dropWhile (fun q=>ahd q p) with
        | nil=>rw[hd] at hq;cases hq
        | cons a l=>
          rw[hd] at hq ne s2
          rcases List.mem_cons.mp hq with rfl | hq
          · exact (ne rfl).elim
          · have f:=h.split hp (q:=a) (by rw[hd];simp)
            have g:=s2.head hq
            rw[f] at g
            cases g
      · exact e
      · rw[h.split hp hq] at e;cases e
    refine⟨s1.join (Srt.cons hp s2 beh) fun a ha q hq=>?_,fun q=>?_⟩
    · have pa:=tN ha
      rcases List.mem_cons.mp hq with rfl | hq
      · exact pa
      · exact s3 a ha q hq
    · rw[List.mem_append,List.mem_cons]
      have e:q∈row↔q∈row.takeWhile (fun q=>ahd q p)∨q∈row.dropWhile (fun q=>ahd q p):=by rw[←List.mem_append,iK]
      rw[e]
      grind
noncomputable def bo (ps:List Pt3):List Pt3:=ps.foldl jQ []
theorem cV {ps:List Pt3}(h:∀p∈ps,Lp p):Srt (bo ps)/\∀q,q∈bo ps↔q∈ps:=by
  have g:∀(ps row:List Pt3),(∀p∈ps,Lp p)->Srt row->Srt (ps.foldl jQ row)/\∀q,q∈ps.foldl jQ row↔q∈row∨q∈ps:=by
    intro ps
    induction ps with
    | nil=>intro row _ s;exact⟨s,by simp⟩
    | cons p ps ih=>
      intro row hl s
      obtain⟨a,b⟩:=ug s (hl p (by simp))
      obtain⟨c,d⟩:=ih (jQ row p) (fun q hq=>hl q (List.mem_cons_of_mem _ hq)) a
      exact⟨c,fun q=>by rw[List.foldl_cons,d,b,List.mem_cons,or_assoc]⟩
  obtain⟨a,b⟩:=g ps [] h Srt.nil
  exact⟨a,fun q=>(b q).trans ⟨fun z=>z.elim (fun n=>nomatch n) id,.inr⟩⟩
def bE:List (List Pt3)->List (List Pt3)
  | a::b::l=>mrg a b::bE l
  | l=>l
def Rows (l:List (List Pt3)):Prop:=(∀r∈l,Srt r)/\l.Pairwise (fun r t=>∀p∈r,p∉t)
theorem gO:∀(l:List (List Pt3)) (p:Pt3),(∃r∈bE l,p∈r)↔∃r∈l,p∈r
  | [],p=>by simp[bE]
  | [a],p=>by simp[bE]
  | a::b::l,p=>by
    have ih:=gO l p
    simp only[bE,List.mem_cons,exists_eq_or_imp,jh,ih,or_assoc]
theorem iT:∀{l:List (List Pt3)},Rows l->Rows (bE l)
  | [],h=>h
  | [a],h=>h
  | a::b::l,h=>by
    obtain⟨h1,h2⟩:=h
    obtain⟨p1,p2⟩:=List.pairwise_cons.mp h2
    obtain⟨p3,p4⟩:=List.pairwise_cons.mp p2
    have ih:=iT (l:=l) ⟨fun r hr=>h1 r (by simp[hr]),p4⟩
    have m:=p5 (h1 a (by simp)) (h1 b (by simp)) (p1 b (by simp))
    unfold bE
    refine⟨fun r hr=>?_,List.pairwise_cons.mpr ⟨fun t ht p hp hq=>?_,ih.2⟩⟩
    · rcases List.mem_cons.mp hr with rfl|hr
      · exact m
      · exact ih.1 r hr
    · obtain⟨r,hr,hpr⟩:=(gO l p).mp ⟨t,ht,hq⟩
      rcases (jh _ _ _).mp hp with hp|hp
      · exact p1 r (List.mem_cons_of_mem _ hr) p hp hpr
      · exact p3 r hr p hp hpr
theorem jI:∀{l:List (List Pt3)},1<l.length->(bE l).length<l.length
  | [],h=>by simp at h
  | [a],h=>by simp at h
  | [a,b],_=>by simp[bE]
  | [a,b,c],_=>by simp[bE]
  | a::b::c::d::l,_=>by
    have:=jI (l:=c::d::l) (by simp)
    simp only[bE,List.length_cons] at this ⊢
    omega
theorem iS:∀{ps:List Pt3},(∀p∈ps,Lp p)->ps.Nodup->Rows (ps.map fun p=>[p])
  | [],_,_=>⟨fun r h=>(nomatch h),.nil⟩
  | p::ps,h,n=>by
    obtain⟨n1,n2⟩:=List.nodup_cons.mp n
    obtain⟨a,b⟩:=iS (ps:=ps) (fun q hq=>h q (List.mem_cons_of_mem _ hq)) n2
    refine⟨fun r hr=>?_,?_⟩
    · rcases List.mem_cons.mp hr with rfl|hr
      · exact Srt.single (h p (by simp))
      · exact a r hr
    · refine List.pairwise_cons.mpr ⟨fun t ht q hq hqt=>?_,b⟩
      obtain⟨u,hu,rfl⟩:=List.mem_map.mp ht
      have e1:q=p:=by simpa using hq
      have e2:q=u:=by simpa using hqt
      subst e1
      subst e2
      exact n1 hu
theorem sE {ps:List Pt3}{rows:List (List Pt3)}(h:∀p∈ps,Lp p)(hr:Rows rows)(hm:∀p,(∃r∈rows,p∈r)↔p∈ps)(h1:rows.length<=1):rows.headD []=bo ps:=by
  obtain⟨s,m⟩:=cV h
  match rows,h1 with
  | [],_=>exact gm Srt.nil s fun p=>by rw[m];have:=hm p;simpa using this
  | [r],_=>exact gm (hr.1 r (by simp)) s fun p=>by rw[m];have:=hm p;simpa using this
end L2
namespace L2
open PySem PySem.Spec PyProof.Rows
section
variable {X:Cx}
theorem wI {n:Str}{C:Addr}{pos:Pos}(hm:X.mg n=some (.ref C))(hg:Gl X n:=by rfl)(hd:(n == ("__debug__" : Str))=false:=by decide):PE X (.Name n pos) (tC (.ref C)):=
  fun pins s σ H Q I h=>qb I hg hm ⟨.ref C,H,I,rfl,h⟩ hd
end
theorem vw:typeLookup (.type "list") "keys" = pure none:=by rw[typeLookup_type,builtinLookup_eq_fast];kernel_rfl
theorem oK:typeLookup (.type "list") "__getattr__" = pure none:=by rw[typeLookup_type,builtinLookup_eq_fast];kernel_rfl
section
variable {prog:Program}{w:World}{A:Around}{E:Value->Shared->Prop}{s:Shared}
theorem vv {h:Heap}{g:Array GenState}{d:Drawn}{t:Nat}{os:OsState}{a:Addr}{its:Array Value}{n:Nat}{u:Tok}{R:Result->Shared->Prop}(hx:h.get? a=some { cls:=.type "list",data:=.seq its n })(hA:A.handled=none)
    (q:∀h' tk e,Heap.NewAttrErr h h' e (.ref a) "keys"->R (.error (.ref e)) ⟨h',g,d,tk,os⟩) :
    codeAny (model prog w) A (.call (.builtin "list.__getattribute__") ⟨[.ref a,.str "keys" u],[]⟩) R ⟨h,g,d,t,os⟩:=by
  have hT:(⟨h,g,d,t,os⟩:Shared).TypeIs (.ref a) "list":=⟨_,hx,rfl⟩
  have f4:=vw
  refine codeAny_call_builtin F.slot_list_getattribute.plain F.entry_list_ga (F.slot_list_getattribute.check _ _ _ _ _ _ _ _ hT (F.args_list_getattribute_2 _ _) ?_)
  unfold Builtin.«object.__getattribute__»
  repeat (any_goals (first | assumption | wp_step))
  exact wpAny_raiseAttrError hA (fun h' tk e hx=>q h' tk e hx) (attrMsg_fits (by decide +kernel) (by decide +kernel))
theorem xt {h:Heap}{g:Array GenState}{d:Drawn}{t:Nat}{os:OsState}{a:Addr}{its:Array Value}{n:Nat}{u:Tok}{Q:Value->Shared->Prop}(hx:h.get? a=some { cls:=.type "list",data:=.seq its n })(hA:A.handled=none)
    (q:∀h' tk e,Heap.NewAttrErr h h' e (.ref a) "keys"->E (.ref e) ⟨h',g,d,tk,os⟩):wpAny (model prog w) A (getAttrBy (.ref a) (.str "keys" u) false) Q E ⟨h,g,d,t,os⟩:=by
  have hT:(⟨h,g,d,t,os⟩:Shared).TypeIs (.ref a) "list":=⟨_,hx,rfl⟩
  have f1:=sub_AttributeError
  have f2 := F.slot_list_getattribute.lookup
  have f3 := F.slot_list_getattribute.bind (.ref a)
  have f5:=oK
  repeat (any_goals (first | assumption | wp_step))
  refine vv hx hA fun h' tk e hn=>?_
  obtain⟨t',u',he⟩:=hn.there
  show wpAny _ _ (getattributeRaised _ _ _ _ _ _ _) _ _ _
  unfold getattributeRaised
  repeat (any_goals (first | assumption | wp_step))
  exact q _ _ _ hn
theorem vx {a:Addr}{its:Array Value}{n:Nat}{Q:Option Value->Shared->Prop}(hx:s.heap.get? a=some { cls:=.type "list",data:=.seq its n })(hA:A.handled=none)
    (q:∀h' tk,(∀b u,s.heap.get? b=some u->h'.get? b=some u)->Q none { s with heap:=h',toks:=tk }):wpAny (model prog w) A (getAttr? (.ref a) "keys") Q E s:=by
  obtain⟨h,g,d,t,os⟩:=s
  have f1:=sub_AttributeError
  unfold getAttr? getAttrBy?
  refine wpAny_bind (wpAny_mkText (wpAny_bind (wpAny_attempt (xt hx hA fun h' tk e hn=>?_))))
  obtain⟨t',u',he⟩:=hn.there
  refine wpAny_bind (wpAny_isInstance (T:="AttributeError") (b:=true) ⟨_,he,rfl⟩ f1 (wpAny_pure (q h' tk hn.keeps)))
end
theorem uA:entryFor table "dict.update.loop" = some Builtin.«dict.update.loop»:=entryFor_of_tree (by kernel_rfl)
theorem lR:plainId "dict.update.loop" = true:=by decide +kernel
section
variable {prog:Program}{w:World}{A:Around}{E:Value->Shared->Prop}{K:Type}[DecidableEq K]{knd:KeyKind prog w K}
def PairAt (knd:KeyKind prog w K)(h:Heap)(p:Value)(x:List K×Addr×Value):Prop:=∃pa,p=.ref pa/\IsTup h pa #[.ref x.2.1,x.2.2]/\IsTupleKey knd h x.1 x.2.1
theorem PairAt.at {h h':Heap}{p:Value}{x:List K×Addr×Value}(q:PairAt knd h p x)(k:∀b o,(p=.ref b∨b=x.2.1)->h.get? b=some o->h'.get? b=some o):PairAt knd h' p x:=by
  obtain⟨pa,rfl,⟨o,e,r⟩,⟨o2,its,n,e2,r2⟩⟩:=q
  exact⟨pa,rfl,⟨o,k _ _ (.inl rfl) e,r⟩,⟨o2,its,n,k _ _ (.inr rfl) e2,r2⟩⟩
theorem rN {xs:List (List K×Addr×Value)}{k:List K}{a:Addr}{v:Value}:(storedH xs k a v).length<=xs.length+1:=by
  unfold storedH;split <;> simp
theorem kP {h h':Heap}{d it l:Addr}{i:Nat}{ys:List (List K×Addr×Value)}(hD:h.DictOfH (tupleKind knd) d ys)(hit:h.IsListIter it l i)(k:∀b o,b≠it->h.get? b=some o->h'.get? b=some o):h'.DictOfH (tupleKind knd) d ys:=by
  obtain⟨oi,hoi,_,hdi⟩:=hit
  obtain⟨o,es,ep,ho,r1,r2,r3,r4,r5⟩:=hD
  have ne:∀{b:Addr} {u:Obj},h.get? b=some u->(∀vs,u.data≠.fields vs)->b≠it:=fun e n z=>by
    subst z
    rw[hoi] at e
    cases e
    exact n _ hdi
  refine⟨o,es,ep,k _ _ (ne ho fun vs z=>by rw[r2] at z;cases z) ho,r1,r2,r3,fun x hx=>?_,r5⟩
  obtain⟨o2,t2,n2,e2,c2,d2,r⟩:=(show IsTupleKey knd h x.1 x.2.1 from r4 x hx)
  exact (show IsTupleKey knd h' x.1 x.2.1 from ⟨o2,t2,n2,k _ _ (ne e2 fun vs z=>by rw[d2] at z;cases z) e2,c2,d2,r⟩)
theorem vN {it l d:Addr}{its:Array Value}{xs:List (List K×Addr×Value)}{res:Value}{R:Result->Shared->Prop}(hh:A.handled=none)(hu:A.in1.units<cLine)(hdl:l≠d)(hdi:d≠it)(hli:l≠it)(hsz:its.size=xs.length)(hz:xs.length<=1000) :
    ∀(k i:Nat) (s:Shared) (ys:List (List K×Addr×Value)),xs.length - i=k->i<=xs.length->(∀(j:Nat) x,xs[j]?=some x->∃p,its[j]?=some p/\PairAt knd s.heap p x/\p≠.ref d/\p≠.ref it/\x.2.1≠d/\x.2.1≠it)->
      s.heap.IsListIter it l i->s.heap.IsList l its->s.heap.DictOfH (tupleKind knd) d ys->ys.length<=i->
      (∀h' tk,h'.DictOfH (tupleKind knd) d ((xs.drop i).foldl (fun ys x=>storedH ys x.1 x.2.1 x.2.2) ys)->(∀b o,b≠d->b≠it->s.heap.get? b=some o->h'.get? b=some o)->R (.ok (.ret res)) { s with heap:=h',toks:=tk })->
      codeAny (model prog w) A (.builtin "dict.update.loop" ⟨[.ref d,.ref it,rawInt i,res],[]⟩) R s:=by
  intro k
  induction k with
  | zero=>
    intro i s ys hk hi hp hit hl hD hy q
    have e:i=xs.length:=by omega
    subst e
    refine codeAny_builtin uA ?_
    rw[Around.under_plainId lR _]
    refine (show wpAny _ A.in1 (pyNext (.ref it) >>= _) _ _ s from wpAny_bind (wpAny_pyNext_list_end hh hit hl (by rw[←hsz];simp) fun h' eb=>?_))
    refine (show wpAny _ A.in1 (Builtin.Dict.addKeywords d [] >>= _) _ _ _ from wpAny_bind ?_)
    unfold Builtin.Dict.addKeywords
    refine wpAny_pure (wpAny_pure ?_)
    have:=q h' s.toks ?_ fun b o _ n e=>eb b o n e
    · exact this
    · rw[List.drop_length]
      exact kP hD hit fun b o n e=>eb b o n e
  | succ k ih=>
    intro i s ys hk hi hp hit hl hD hy q
    have hlt : i < xs.length := by omega
    obtain⟨p,hpi,⟨pa,rfl,⟨op,hop,hpc,np,hpd⟩,hkey⟩,n1,n2,n3,n4⟩:=hp i xs[i] (List.getElem?_eq_getElem hlt)
    refine codeAny_builtin uA ?_
    rw[Around.under_plainId lR _]
    refine (show wpAny _ A.in1 (pyNext (.ref it) >>= _) _ _ s from wpAny_bind (wpAny_pyNext_list_item hit hl hpi fun h1 hit1 sb1=>?_))
    have np':pa≠it:=fun z=>n2 (by rw[z])
    have hop1:h1.get? pa=some op:=(sb1.2 pa np').trans hop
    refine (show wpAny _ A.in1 (holding [Value.ref pa] _ >>= _) _ _ _ from wpAny_bind (wpAny_holding ?_))
    refine wpAny_bind (wpAny_tryCatch ?_)
    unfold Builtin.Dict.pairItems
    refine wpAny_bind (wpAny_typeOf (T:="tuple") ⟨_,hop1,hpc⟩ ?_)
    rw[if_pos (by decide)]
    refine wpAny_bind (wpAny_seqItems hop1 hpd (wpAny_pure ?_))
    have hkey1:IsTupleKey knd h1 xs[i].1 xs[i].2.1:=by
      obtain⟨o2,t2,m2,e2,r⟩:=hkey
      exact⟨o2,t2,m2,(sb1.2 _ n4).trans e2,r⟩
    have hD1:h1.DictOfH (tupleKind knd) d ys:=kP hD hit fun b o n e=>(sb1.2 b n).trans e
    refine (show wpAny _ A.in1 (holding [Value.ref xs[i].2.1,xs[i].2.2] (dictSet d (.ref xs[i].2.1) xs[i].2.2)) _ _ _ from wpAny_holding (wpAny_dictSet_heap (s:={ s with heap:=h1 }) (knd:=tupleKind knd) hu hkey1 hD1 (fun h2 hD2 sb2=>?_) (Nat.le_of_lt (aZ (by omega)))))
    have up:∀b o,b≠d->b≠it->s.heap.get? b=some o->h2.get? b=some o:=fun b o m1 m2 e=>(sb2.2 b m1).trans ((sb1.2 b m2).trans e)
    obtain⟨oi,hoi,ri⟩:=id hit1
    obtain⟨ol,hol,rl⟩:=id hl
    refine wpAny_pure ⟨plainId_quiet lR _,?_⟩
    have:=ih (i+1) { s with heap:=h2,toks:=s.toks+(tupleKind knd).draws xs[i].1 } (storedH ys xs[i].1 xs[i].2.1 xs[i].2.2) (by omega) (by omega) (fun j x hj=>?_) ⟨oi,(sb2.2 it (Ne.symm hdi)).trans hoi,ri⟩ ⟨ol,up l ol hdl hli hol,rl⟩ hD2 (Nat.le_trans rN (by omega)) (fun h3 tk hD3 k3=>?_)
    · exact this
    · obtain⟨p,e1,pq,m1,m2,m3,m4⟩:=hp j x hj
      refine⟨p,e1,pq.at fun b o hb e=>up b o ?_ ?_ e,m1,m2,m3,m4⟩
      · rintro rfl
        rcases hb with hb|hb
        · exact m1 hb
        · exact m3 hb.symm
      · rintro rfl
        rcases hb with hb|hb
        · exact m2 hb
        · exact m4 hb.symm
    · refine q h3 tk ?_ fun b o m1 m2 e=>k3 b o m1 m2 (up b o m1 m2 e)
      rw[List.drop_eq_getElem_cons hlt,List.foldl_cons]
      exact hD3
end
section
variable {prog:Program}{w:World}{A:Around}{E:Value->Shared->Prop}{s:Shared}{K:Type}[DecidableEq K]{knd:KeyKind prog w K}
def qm (xs:List (List K×Addr×Value)):List (List K×Addr×Value):=xs.foldl (fun ys x=>storedH ys x.1 x.2.1 x.2.2) []
theorem jX {l:Addr}{its:Array Value}{n:Nat}{xs:List (List K×Addr×Value)}{Q:Value->Shared->Prop}(hh:A.handled=none)(hu:A.units+64<cLine)(hl:s.heap.get? l=some { cls:=.type "list",data:=.seq its n })(hsz:its.size=xs.length)(hz:xs.length<=1000)
    (hp:∀(j:Nat) x,xs[j]?=some x->∃p,its[j]?=some p/\PairAt knd s.heap p x)
    (q:∀h' tk d,h'.DictOfH (tupleKind knd) d (qm xs)->s.heap.objs.size<=d->(∀b o,s.heap.get? b=some o->h'.get? b=some o)->Q (.ref d) { s with heap:=h',toks:=tk }) :
    wpAny (model prog w) A (call (.type "dict") [.ref l]) Q E s:=by
  refine callType_codes (Q₁ := fun obj s₁ => obj = .ref s.heap.objs.size ∧ s₁ = { s with heap := s.heap.push { cls := .type "dict", data := .dict #[] } }) F.kt_called_dict (F.kt_typeCall_dict_1 _) F.entry_dict_init (kt_code_dict_new _ ⟨rfl, rfl⟩) ?_
  rintro obj s₁ ⟨rfl,rfl⟩
  have hnew:(s.heap.push { cls:=.type "dict",data:=.dict #[] }).DictOfH (tupleKind knd) s.heap.objs.size []:=Heap.DictOfH.new s.heap
  have hl1:(s.heap.push { cls:=.type "dict",data:=.dict #[] }).get? l=some { cls:=.type "list",data:=.seq its n }:=Heap.get?_push_of_some _ hl
  have ll:=Heap.lt_size hl
  refine⟨hnew.typeIs (s:={ s with heap:=s.heap.push { cls:=.type "dict",data:=.dict #[] } }),F.args_dict_init_2 _ _,?_⟩
  unfold Builtin.«dict.__init__»
  refine wpAny_bind ?_
  unfold Builtin.Dict.selfAndRest
  refine wpAny_bind (wpAny_notOrdered_dict (hnew.typeIs (s:={ s with heap:=s.heap.push { cls:=.type "dict",data:=.dict #[] } })) ?_)
  refine (show wpAny _ _ (pure (s.heap.objs.size,[Value.ref l])) _ _ _ from wpAny_pure ?_)
  show wpAny _ _ (Builtin.Dict.updateFrom "dict.__init__" s.heap.objs.size (.ref l) [] .none) _ _ _
  unfold Builtin.Dict.updateFrom
  refine wpAny_bind (wpAny_typeOf (T:="list") ⟨_,hl1,rfl⟩ ?_)
  rw[if_pos (by decide)]
  refine wpAny_bind (vx (s:={ s with heap:=s.heap.push { cls:=.type "dict",data:=.dict #[] } }) hl1 hh fun h2 tk2 k2=>?_)
  rw[if_pos (c:=(none:Option Value).isNone=true) rfl]
  have up:∀b o,s.heap.get? b=some o->h2.get? b=some o:=fun b o e=>k2 b o (Heap.get?_push_of_some _ e)
  obtain⟨od,es,ep,hod,r1,r2,r3,_,r5⟩:=hnew
  have hd2:=k2 _ _ hod
  have dlt:s.heap.objs.size<h2.objs.size:=Heap.lt_size hd2
  have lt2:∀{b:Addr} {o:Obj},s.heap.get? b=some o->b≠s.heap.objs.size/\b≠h2.objs.size:=fun e=>⟨Nat.ne_of_lt (Heap.lt_size e),Nat.ne_of_lt (Heap.lt_size (up _ _ e))⟩
  refine wpAny_bind (wpAny_rule (wpAny_bind (wpAny_pyIter_list (s:={ s with heap:=h2,toks:=tk2 }) (items:=its) ⟨_,up _ _ hl,rfl,n,rfl⟩ ?_)))
  refine wpAny_pure ⟨plainId_quiet lR _,?_⟩
  refine vN (knd:=knd) (A:=A.in1) (its:=its) (xs:=xs) hh (by show A.in1.in1.units<cLine;simp only[Around.in1];omega) (lt2 hl).1 (Nat.ne_of_lt dlt) (lt2 hl).2 hsz hz xs.length 0 _ [] rfl (Nat.zero_le _) (fun j x hj=>?_) ⟨_,Heap.get?_push_size _ rfl,rfl,rfl⟩ ⟨_,Heap.get?_push_of_some _ (up _ _ hl),rfl,n,rfl⟩ ⟨od,es,ep,Heap.get?_push_of_some _ hd2,r1,r2,r3,fun x hx=>(nomatch hx),r5⟩ (Nat.le_refl _) (fun h' tk hD k=>⟨rfl,?_⟩)
  · obtain⟨p,e1,pq⟩:=hp j x hj
    obtain⟨pa,rfl,⟨op,hop,_⟩,⟨ok,_,_,hok,_⟩⟩:=id pq
    exact⟨_,e1,pq.at fun b o _ e=>Heap.get?_push_of_some _ (up b o e),fun z=>(lt2 hop).1 (Value.ref.inj z),fun z=>(lt2 hop).2 (Value.ref.inj z),(lt2 hok).1,(lt2 hok).2⟩
  · exact q h' tk _ hD (Nat.le_refl _) fun b o e=>k b o (lt2 e).1 (lt2 e).2 (Heap.get?_push_of_some _ (up b o e))
end
section
variable {prog:Program}{w:World}{A:Around}{E:Value->Shared->Prop}{s:Shared}
def DictE (h:Heap)(d:Addr)(es:Array DictEntry)(ep:Nat):Prop:=∃o,h.get? d=some o/\o.ExactDict/\o.data=.dict es ep
theorem DictE.ty {d:Addr}{es:Array DictEntry}{ep:Nat}(x:DictE s.heap d es ep):s.TypeIs (.ref d) "dict":=let ⟨o,e,c,_⟩:=x;⟨o,e,c.1⟩
theorem vD {d:Addr}{es:Array DictEntry}{ep:Nat}{Q:Value->Shared->Prop}(hs:(d == sysModules)=false)(x:DictE s.heap d es ep)
    (q:Q (.ref s.heap.objs.size) { s with heap:=s.heap.push { cls:=.type "dict_keyiterator",data:=.fields #[.ref d,.int 0 0,.int es.size 0,.int ep 0] } }):wpAny (model prog w) A (pyIter (.ref d)) Q E s:=by
  have ty:=x.ty
  obtain⟨u,hu,uc,ud⟩:=x
  refine wpAny_pyIter_slot ty F.slot_dict_iter (wpAny_call_entry F.slot_dict_iter ty F.entry_dict_iter ?_ (F.args_dict_iter_1 _))
  unfold Builtin.«dict.__iter__»
  refine wpAny_bind ?_
  unfold Builtin.Dict.dictSlotNone
  refine wpAny_bind (wpAny_notOrdered_dict ty (show wpAny _ _ (pure (Value.ref d)) _ _ s from wpAny_pure ?_))
  refine (show wpAny _ _ (Builtin.Dict.showsAll d >>= _) _ _ s from wpAny_bind ?_)
  unfold Builtin.Dict.showsAll
  rw[if_neg (c:=(d == sysModules)=true) (by rw[hs];decide)]
  refine wpAny_pure (wpAny_bind (wpAny_dictEntries hu ud (wpAny_bind (wpAny_dictEpoch hu ud (wpAny_bind (wpAny_newObj_type (wpAny_pure ⟨_,rfl,"dict_keyiterator",_,⟨_,Heap.get?_push_size _ rfl,rfl⟩,F.slot_dict_keyiterator_next.lookup,?_⟩)))))))
  simpa [rawInt] using q
theorem vE {j d:Addr}{i ep:Nat}{es:Array DictEntry}{Q:Option Value->Shared->Prop}(st:s.heap.IsKeyIter j d i es.size ep)(x:DictE s.heap d es ep)(hi:i<es.size)
    (q:∀h',h'.IsKeyIter j d (i+1) es.size ep->Heap.SameBut j s.heap h'->Q (some es[i].key) { s with heap:=h' }):wpAny (model prog w) A (pyNext (.ref j)) Q E s:=by
  obtain⟨v,hv,vc,vd⟩:=id st
  obtain⟨u,hu,uc,ud⟩:=x
  unfold pyNext
  refine wpAny_bind (wpAny_attempt (wpAny_callSpecial?_slot (name:=Str.ofString "__next__") st.typeIs F.slot_dict_keyiterator_next (wpAny_call_entry F.slot_dict_keyiterator_next st.typeIs F.entry_dict_keyiterator_next ?_ (F.args_dict_keyiterator_next_1 _))))
  refine wpAny_bind (wpAny_pure (wpAny_bind (wpAny_bind ?_)))
  first | refine wpAny_bind (wpAny_typeNameOfWhole_keyiter st.typeIs (wpAny_pure ?_)) | refine wpAny_bind (wpAny_typeNameOf_keyiter st.typeIs (wpAny_pure ?_))
  refine wpAny_bind (wpAny_fieldsOf hv vd ?_)
  have own:Builtin.Dict_items.ownsTuple "dict_keyiterator" = false:=by decide
  simp only[own,Bool.false_eq_true,if_false]
  refine (show wpAny _ _ (ite ((Value.ref d == Value.none)=true) _ _) _ _ s from ?_)
  rw[if_neg (c:=(Value.ref d == Value.none)=true) (by exact Bool.false_ne_true)]
  refine wpAny_bind (wpAny_pure (wpAny_bind (wpAny_dictEntries hu ud ?_)))
  rw[if_neg (by simp)]
  refine wpAny_bind (wpAny_pure (wpAny_bind (wpAny_dictEpoch hu ud ?_)))
  rw[if_neg (by simp)]
  refine wpAny_pure ?_
  simp only[show ¬((i:Int)<0) from by omega,if_false,Int.toNat_natCast,Array.getElem?_eq_getElem hi]
  refine wpAny_bind ?_
  first | refine wpAny_bind (wpAny_typeNameOfWhole_keyiter st.typeIs (wpAny_pure ?_)) | refine wpAny_bind (wpAny_typeNameOf_keyiter st.typeIs (wpAny_pure ?_))
  refine wpAny_bind (wpAny_isOneOf_keyiter st.typeIs (show wpAny _ _ (setField (.ref j) 1 (rawInt ((i:Int)+1)) >>= _) _ _ s from wpAny_bind (wpAny_setField hv vd (by simp) ?_)))
  have st':(s.heap.update j (Obj.mapFields (·.setIfInBounds 1 (rawInt ((i:Int)+1))))).IsKeyIter j d (i+1) es.size ep:=by
    refine⟨_,Heap.get?_update_self _ hv (Obj.isFreed_of_fields (Obj.data_mapFields vd _)),(Obj.cls_mapFields ..).trans vc,?_⟩
    rw[Obj.data_mapFields vd];simp[rawInt]
  refine wpAny_bind (wpAny_holding (wpAny_bind (wpAny_isOneOf_keyiter (s:={ s with heap:=s.heap.update j (Obj.mapFields (·.setIfInBounds 1 (rawInt ((i:Int)+1)))) }) st'.typeIs ?_)))
  exact (show wpAny _ _ (pure es[i].key) _ _ _ from wpAny_pure (wpAny_pure ⟨_,rfl,wpAny_pure (q _ st' (Heap.SameBut.update ..))⟩))
theorem wQ {j d:Addr}{i ep:Nat}{es:Array DictEntry}{Q:Option Value->Shared->Prop}(hd:A.handled=none)(st:s.heap.IsKeyIter j d i es.size ep)(x:DictE s.heap d es ep)(hi:es.size<=i)
    (q:∀h',Heap.ExtBut j s.heap h'->Q none { s with heap:=h' }):wpAny (model prog w) A (pyNext (.ref j)) Q E s:=by
  obtain⟨v,hv,vc,vd⟩:=id st
  obtain⟨u,hu,uc,ud⟩:=x
  unfold pyNext
  refine wpAny_bind (wpAny_attempt (wpAny_callSpecial?_slot (name:=Str.ofString "__next__") st.typeIs F.slot_dict_keyiterator_next (wpAny_call_entry F.slot_dict_keyiterator_next st.typeIs F.entry_dict_keyiterator_next ?_ (F.args_dict_keyiterator_next_1 _))))
  refine wpAny_bind (wpAny_pure (wpAny_bind (wpAny_bind ?_)))
  first | refine wpAny_bind (wpAny_typeNameOfWhole_keyiter st.typeIs (wpAny_pure ?_)) | refine wpAny_bind (wpAny_typeNameOf_keyiter st.typeIs (wpAny_pure ?_))
  refine wpAny_bind (wpAny_fieldsOf hv vd ?_)
  have own:Builtin.Dict_items.ownsTuple "dict_keyiterator" = false:=by decide
  simp only[own,Bool.false_eq_true,if_false]
  refine (show wpAny _ _ (ite ((Value.ref d == Value.none)=true) _ _) _ _ s from ?_)
  rw[if_neg (c:=(Value.ref d == Value.none)=true) (by exact Bool.false_ne_true)]
  refine wpAny_bind (wpAny_pure (wpAny_bind (wpAny_dictEntries hu ud ?_)))
  rw[if_neg (by simp)]
  refine wpAny_bind (wpAny_pure (wpAny_bind (wpAny_dictEpoch hu ud ?_)))
  rw[if_neg (by simp)]
  refine wpAny_pure ?_
  simp only[show ¬((i:Int)<0) from by omega,if_false,Int.toNat_natCast,Array.getElem?_eq_none hi]
  refine wpAny_bind ?_
  first | refine wpAny_bind (wpAny_typeNameOfWhole_keyiter st.typeIs (wpAny_pure ?_)) | refine wpAny_bind (wpAny_typeNameOf_keyiter st.typeIs (wpAny_pure ?_))
  refine (show wpAny _ _ (setField (.ref j) 0 .none >>= _) _ _ s from wpAny_bind (wpAny_setField hv vd (by simp) ?_))
  refine wpAny_bind (m:=newExc (.type "StopIteration") []) ?_
  simp only[newExc,newTuple]
  refine wpAny_bind (wpAny_newObj_type (wpAny_bind (m:=firstArgMember _ _) (wpAny_of_eq (a:=Value.none) (by first | rfl | (simp only[firstArgMember];rfl)) (wpAny_newObj_type ?_ (by size_fits)))) (by size_fits))
  simp only[raiseNew]
  refine wpAny_bind (wpAny_handled ?_)
  first | rw[show A.in1.handled=none from hd] | rw[hd]
  refine wpAny_bind (wpAny_pure (wpAny_throw ?_))
  exact wpAny_bind (wpAny_isInstance (T:="StopIteration") (b:=true) ⟨_,Heap.get?_push_size _ rfl,rfl⟩ isSubtype_stop (wpAny_pure (q _ (((Heap.SameBut.update ..).extBut.push _).push _))))
end
theorem boot_dict : bootBuiltins "dict" = some (.type "dict") := by decide +kernel
theorem Inv.bigS {X:Cx}{pins:List (Addr×Obj)}{σ:St}{H:Hp}{s:Shared}(I:Inv X pins σ H s):sysModules<s.heap.objs.size:=by
  have h:mainGlobals<s.heap.objs.size:=(I.mod.glob.keeps I.bk).lt
  exact Nat.lt_trans (by decide) h
theorem nw {P:Program}{w:World}:∀{ks:List Int} {us:List Value},Vals (ks.map V.int) us->ItemsAre (intKind P w) ks us
  | [],_,r=>by rw[List.map_nil] at r;cases r;exact .nil
  | k::ks,_,r=>by
    rw[List.map_cons] at r
    cases r with
    | cons h t=>
      obtain⟨u,rfl⟩:=h
      exact .cons (show Value.isInt k (.int k u)=true by simp[Value.isInt]) (nw t)
abbrev KA:=List (List Int×Addr)
def gZ (ys:KA)(x:List Int×Addr):KA:=if ys.any (fun y=>decide (y.1=x.1)) then ys else ys++[x]
def gH (xs:KA):KA:=xs.foldl gZ []
def eQ (x:List Int×Addr):List Int×Addr×Value:=(x.1,x.2,.bool true)
theorem n5 (ys:KA)(x:List Int×Addr):storedH (ys.map eQ) x.1 x.2 (.bool true)=(gZ ys x).map eQ:=by
  have e:(atKey (ys.map eQ) x.1).isSome=ys.any (fun y=>decide (y.1=x.1)):=by
    unfold atKey
    rw[Option.isSome_map]
    induction ys with
    | nil=>rfl
    | cons y ys ih=>
      rw[List.map_cons,List.find?_cons,List.any_cons]
      by_cases h:y.1=x.1
      · simp[eQ,h]
      · have e1:decide ((eQ y).1=x.1)=false:=decide_eq_false h
        have e2:decide (y.1=x.1)=false:=decide_eq_false h
        rw[e1,e2,Bool.false_or]
        exact ih
  unfold storedH gZ
  rw[e]
  split
  · rw[List.map_map]
    refine List.map_congr_left fun y hy=>?_
    simp only[Function.comp,eQ,putAt]
    exact ite_self _
  · simp[eQ]
theorem oZ (xs:KA):qm (xs.map eQ)=(gH xs).map eQ:=by
  have g:∀(xs ys:KA),(xs.map eQ).foldl (fun ys x=>storedH ys x.1 x.2.1 x.2.2) (ys.map eQ)=(xs.foldl gZ ys).map eQ:=by
    intro xs
    induction xs with
    | nil=>intro ys;rfl
    | cons x xs ih=>
      intro ys
      rw[List.map_cons,List.foldl_cons,List.foldl_cons]
      have q:=n5 ys x
      rw[show storedH (ys.map eQ) (eQ x).1 (eQ x).2.1 (eQ x).2.2=(gZ ys x).map eQ from q]
      exact ih _
  exact g xs []
theorem tO {ys:KA}{x y:List Int×Addr}(h:y∈gZ ys x):y∈ys∨y=x:=by
  unfold gZ at h
  split at h
  · exact .inl h
  · simpa using h
theorem rj {ys:KA}{x:List Int×Addr}{k:List Int}:k∈(gZ ys x).map (·.1)↔k∈ys.map (·.1)∨k=x.1:=by
  unfold gZ
  split
  · rename_i h
    refine⟨.inl,fun z=>?_⟩
    rcases z with z|rfl
    · exact z
    · obtain⟨y,hy,e⟩:=List.any_eq_true.mp h
      exact List.mem_map.mpr ⟨y,hy,of_decide_eq_true e⟩
  · simp
theorem oJ {ys:KA}{x:List Int×Addr}(h:(ys.map (·.1)).Nodup):((gZ ys x).map (·.1)).Nodup:=by
  unfold gZ
  split
  · exact h
  · rename_i q
    rw [List.map_append, List.nodup_append]
    refine⟨h,by simp,fun a ha b hb=>?_⟩
    have e:b=x.1:=by simpa using hb
    subst e
    rintro rfl
    obtain⟨y,hy,e⟩:=List.mem_map.mp ha
    exact q (List.any_eq_true.mpr ⟨y,hy,decide_eq_true e⟩)
theorem tH {xs:KA}{y:List Int×Addr}(h:y∈gH xs):y∈xs:=by
  have g:∀(xs ys:KA),y∈xs.foldl gZ ys->y∈ys∨y∈xs:=by
    intro xs
    induction xs with
    | nil=>intro ys h;exact .inl h
    | cons x xs ih=>
      intro ys h
      rcases ih _ h with q|q
      · rcases tO q with q|rfl
        · exact .inl q
        · exact .inr (by simp)
      · exact .inr (List.mem_cons_of_mem _ q)
  rcases g xs [] h with q|q
  · cases q
  · exact q
theorem once_keys {xs:KA}{k:List Int}:k∈(gH xs).map (·.1)↔k∈xs.map (·.1):=by
  have g:∀(xs ys:KA),k∈(xs.foldl gZ ys).map (·.1)↔k∈ys.map (·.1)∨k∈xs.map (·.1):=by
    intro xs
    induction xs with
    | nil=>intro ys;simp
    | cons x xs ih=>
      intro ys
      rw[List.foldl_cons,ih,rj,List.map_cons,List.mem_cons,or_assoc]
  have q:=g xs []
  rw[List.map_nil] at q
  exact q.trans ⟨fun z=>z.elim (fun n=>nomatch n) id,.inr⟩
theorem oD (xs:KA):((gH xs).map (·.1)).Nodup:=by
  have g:∀(xs ys:KA),(ys.map (·.1)).Nodup->((xs.foldl gZ ys).map (·.1)).Nodup:=by
    intro xs
    induction xs with
    | nil=>intro ys h;exact h
    | cons x xs ih=>intro ys h;exact ih _ (oJ h)
  exact g xs [] (by simp)
section
variable {X:Cx}{tg:Expr}
theorem rh {es:Array DictEntry}{knd:HeapKind X.prog X.w (List Int)}{ys:KA}(h:es.toList=(ys.map eQ).map (entryOfKey knd)):Vals (ys.map fun x=>V.ref x.2) (es.toList.map (·.key)):=by
  rw[h]
  clear h
  induction ys with
  | nil=>exact .nil
  | cons y ys ih=>exact .cons rfl ih
end
def ev {α:Type}:List α->List α
  | []=>[]
  | [a]=>[a]
  | a::_::l=>a::ev l
theorem pT {α:Type}:∀(xs:List α),((List.range ((xs.length+1) / 2)).map (fun j=>2*j)).filterMap (xs[·]?)=ev xs
  | []=>by simp[ev]
  | [a]=>by simp[ev]
  | a::b::l=>by
    have e:((a::b::l).length+1) / 2=(l.length+1) / 2+1:=by simp only[List.length_cons];omega
    rw[e,List.range_succ_eq_map,List.map_cons,List.filterMap_cons]
    simp only[Nat.mul_zero,List.getElem?_cons_zero,ev]
    congr 1
    rw[←pT l,List.map_map,List.filterMap_map,List.filterMap_map]
    refine congrArg (fun f=>List.filterMap f _) (funext fun j=>?_)
    simp only[Function.comp,Nat.succ_eq_add_one]
    rw[show 2*(j+1)=2*j+1+1 from by omega,List.getElem?_cons_succ,List.getElem?_cons_succ]
theorem oY {α:Type}:∀(xs:List α),(ev xs).length<=xs.length
  | []=>Nat.le_refl _
  | [a]=>Nat.le_refl _
  | a::b::l=>by have:=oY l;simp only[ev,List.length_cons];omega
theorem pp:∀{xs:List V} {us:List Value},Vals xs us->Vals (ev xs) (ev us)
  | _,_,.nil=>.nil
  | _,_,.cons r .nil=>.cons r .nil
  | _,_,.cons r (.cons _ t)=>.cons r (pp t)
theorem sU (its:List Value){k:Nat}(hk:k<=1):slicePick its.toArray (some (k:Int)) none (some 2)=(ev (its.drop k)).toArray:=by
  unfold slicePick
  congr 1
  have b1:(sliceBounds (some (k:Int)) none (some 2) its.toArray.size).1=((min k its.length:Nat):Int):=by
    simp only[sliceBounds,Option.getD_some,show (2:Int) > 0 by decide,if_true,List.size_toArray]
    rw[if_neg (by omega)]
    omega
  have b2:(sliceBounds (some (k:Int)) none (some 2) its.toArray.size).2.1=(its.length:Int):=by
    simp only[sliceBounds,Option.getD_some,show (2:Int) > 0 by decide,if_true,List.size_toArray]
  have b3:(sliceBounds (some (k:Int)) none (some 2) its.toArray.size).2.2=2:=rfl
  rw[b1,b2,b3]
  have e:sliceRange ((min k its.length:Nat):Int) (its.length:Int) 2=(List.range (((its.drop k).length+1) / 2)).map (fun j=>k+2*j):=by
    unfold sliceRange
    simp only[show (2:Int) > 0 by decide,if_true,List.length_drop]
    by_cases h:k<its.length
    · rw[if_pos (by omega)]
      have c:(((its.length:Int) - ((min k its.length:Nat):Int)+2 - 1) / 2).toNat=(its.length - k+1) / 2:=by omega
      rw[c]
      refine List.map_congr_left fun j hj=>?_
      omega
    · rw[if_neg (by omega),show (its.length - k+1) / 2=0 from by omega]
      rfl
  rw[e,←pT,List.filterMap_map,List.filterMap_map]
  refine congrArg (fun f=>List.filterMap f _) (funext fun j=>?_)
  simp only[Function.comp,List.getElem?_drop]
  rw[←Array.getElem?_toList]
section
variable {X:Cx}{e:Expr}{te:TE}{lo hi st:Option Expr}{tl th ts:TO}{pos p2:Pos}
def rW (r:V->Option Int->Option Int->Option Int->Hp->VK->Prop)(te:TE)(tl th ts:TO):TE:=fun σ H Q=>te σ H fun x H1=>tl σ H1 fun l H2=>th σ H2 fun u H3=>ts σ H3 fun g H4=>r x l u g H4 Q
def xm (K:PySem.W.Frag):V->Option Int->Option Int->Option Int->Hp->VK->Prop:=fun x lo hi g H Q=>
  ∃a xs,∃k:Nat,x=.ref a/\lo=some (k:Int)/\hi=none/\g=some 2/\k<=1/\SqL K H a xs/\∀p,H p=none->Q (.ref p) (upd H p (.lst (ev (xs.drop k))))
theorem kz {g:Expr}(he:PE X e te)(hl:PO X lo tl)(hu:PO X hi th)(hg:PO X (some g) ts):PE X (.Subscript e (.Slice lo hi (some g) p2) pos) (rW (xm X.K) te tl th ts):=by
  intro pins s σ H Q I h
  refine Subscript_ (thn (he pins s σ H _ I h) fun v s1 ⟨x,H1,I1,r1,q1⟩=>?_)
  refine wpAny_Slice (thn (hl pins s1 σ H1 _ I1 q1) fun vl s2 ⟨l,H2,I2,pl,q2⟩=>thn (hu pins s2 σ H2 _ I2 q2) fun vu s3 ⟨u,H3,I3,pu,q3⟩=>thn (hg pins s3 σ H3 _ I3 q3) fun vg s4 ⟨g',H4,I4,pg,q4⟩=>?_)
  have I5:Inv X pins σ H4 { s4 with heap:=s4.heap.push { cls:=.type "slice",data:=.fields #[vl,vu,vg] } }:=I4.kept (t':=s4.toks) fun b ob q=>Heap.get?_push_of_some _ q
  obtain⟨a,xs,k,rfl,rfl,rfl,rfl,hk,hx,q⟩:=q4
  cases r1
  obtain⟨its,r,ht,hz⟩:=I5.list hx
  have hlen:=r.length
  refine tail_any (ops:=[.ref a,.ref s4.heap.objs.size]) ht.isList.typeIs slot_list_getitem.lookup ?_ (by with_unfolding_all rfl)
  refine wpAny_getItem_list_slice ht.isList (Heap.IsSliceOf.new ..) pl pu pg (by simp) ?_ (by rw[List.size_toArray] <;> omega)
  rw[sU its hk]
  refine⟨.ref _,_,I5.laid (t':=s4.toks) (o:=.lst (ev (xs.drop k))) (fun b ob q=>Heap.get?_push_of_some _ q) (Nat.le_refl _) ?_,rfl,q _ (I5.hok.fresh (Nat.le_refl _))⟩
  refine⟨?_,_,0,pp (r.drop k),Heap.get?_push_size _ rfl⟩
  have:=oY (xs.drop k)
  rw[List.length_drop] at this
  omega
end
section
variable {X:Cx}
def pQ:V->List V->Hp->VK->Prop:=fun x vs H Q=>∃l xs y,∃k:Nat,x=.ref l/\vs=[.int k,y]/\H l=some (.lst xs)/\k<=xs.length/\xs.length<1000000/\Q .non (upd H l (.lst (xs.take k++y::xs.drop k)))
theorem ue {pins:List (Addr×Obj)}{s:Shared}{σ:St}{H:Hp}{l:Addr}{xs:List V}{k:Nat}{x:Int}{t:Tok}{y:V}{u:Value}{Q:VK}(hx:(k:Int)=x)(I:Inv X pins σ H s)(hH:H l=some (.lst xs))(ru:RelV y u)(hk:k<=xs.length)(hz:xs.length<1000000)
    (q:Q .non (upd H l (.lst (xs.take k++y::xs.drop k)))):wpAny (model X.prog X.w) X.A (call (.builtin "list.insert") [.ref l,.int x t,u]) (EP X pins σ Q) X.xe s:=by
  obtain⟨z,its,n,r,hl,e⟩:=I.lstM hH
  have hm:1000000<=sizeLine:=by rw[sizeLine_eq];omega
  have fit:¬(!Builtin.List.listFitsIndex x)=true:=by
    have:Builtin.List.listFitsIndex x=true:=by
      unfold Builtin.List.listFitsIndex
      simp only [Bool.and_eq_true, decide_eq_true_eq]
      omega
    rw[this]
    decide
  have hsz:its.toArray.size<=sizeLine:=by rw[List.size_toArray,←hl];exact z
  have hn:¬x<0:=by omega
  have hx2:x.toNat=k:=by omega
  have M:=AutoSeq1.list_insert_list_int_val_1 l its.toArray n x t u fit hsz
  refine call_meets F.slot_list_insert ⟨_,e,rfl⟩ F.entry_list_insert (F.args_list_insert_3 _ _ _) M ⟨e,?_⟩
  refine⟨.non,_,I.lset (its':=its.take k++u::its.drop k) hH e ?_ ((r.take k).append (.cons ru (r.drop k))) ?_,rfl,q⟩
  · rw[if_neg hn,hx2]
    have e1:min k its.toArray.size=k:=by rw[List.size_toArray];omega
    rw[e1]
    simp
    exact List.take_of_length_le (by rw[List.length_drop];exact Nat.le_refl _)
  · simp only[List.length_append,List.length_take,List.length_cons,List.length_drop]
    omega
theorem qZ:MtM X "list.insert" pQ:=by
  intro pins s σ H x vs v us Q I rx rv h
  obtain⟨l,xs,y,k,rfl,rfl,hH,hk,hz,q⟩:=h
  cases rx
  cases rv with
  | cons ra rb=>
    cases rb with
    | @cons _ u _ _ ru rc=>
      cases rc
      obtain⟨t,rfl⟩:=ra
      exact ue rfl I hH ru hk hz q
end
section
variable {X:Cx}{CX:CXT}{k j:Nat}{f:Addr}{fd:FuncData}{ps:List Str}{sp:Sp}{dvs:List V}{ds:List Value}{E:XK}{x:Str}{p pos:Pos}{e:Expr}{es:List Expr}{tx:TE}{t:TA}
def rY (f:Addr)(sp:Sp)(dvs:List V)(E:XK)(tx:TE)(t:TA):TE:=fun σ H Q=>tx σ H fun v H1=>v=.ref f/\t σ H1 fun vs H2=>sp (vs++dvs) H2 Q E
theorem sZ (F:FnOk X.prog X.w X.K X.mg X.base CX k f fd ps sp)(hr:Room k X.A)(hn:PE X (.Name x p) tx)(hk:PySem.W.keepIn X.K (.ref f)=true)(hb:Binds X.K fd ps ds)(hd:Vals dvs ds)(hx:mh CX X E)
    (ha:PA X (e::es) t) (he:starEach (e::es) X.env=(false,eval e X.env)::starEach es X.env:=by rfl) (hpl:(backTo pos (starEach es X.env)).any (·.1)=false:=by rfl) :
    PE X (.Call (.Name x p) (e::es) [] pos) (rY f sp dvs E tx t):=by
  intro pins s σ H Q I h
  refine wpAny_Call_Name_kw (thn (hn pins s σ H _ I h) fun v s0 ⟨y,H0,I0,r0,q0⟩=>?_)
  obtain⟨rfl,h⟩:=q0
  cases r0
  refine PySem.W.callWith_K (h₀:=X.base) I.ok.mod.kin hk (thn (ha pos pins s0 σ H0 _ I0 h) fun us s1 ⟨vs,H1,I1,r,q⟩=>⟨I1.kIn,?_⟩) he hpl
  exact sD F hr hb hd hx I1 r q
end
end L2
namespace L2
open PySem PySem.Spec PyProof.Rows PySem.W
section
variable {prog:Program}{w:World}{A:Around}{E:Value->Shared->Prop}{s:Shared}
theorem nQ (hh:A.handled=none){j d:Addr}(hjd:j≠d)(es:Array DictEntry)(ep:Nat) :
    Walks prog w A j [j,d] [j] es.size (fun i v=>∃x,es[i]?=some x/\v=x.key) (fun i h=>h.IsKeyIter j d i es.size ep/\DictE h d es ep) where
  sub := fun b hb => by simp at hb; simp [hb]
  frame:=fun _ _ _ st hk=>by
    obtain⟨s1,⟨u,h2,r⟩⟩:=st
    exact⟨s1.at fun o e=>hk j (by simp) o e,⟨u,hk d (by simp) u h2,r⟩⟩
  item := fun i s Q E hi st hQ => by
    obtain⟨s1,⟨u,h2,r⟩⟩:=st
    refine vE s1 ⟨u,h2,r⟩ hi fun h' st' sb=>?_
    exact hQ _ h' s.toks ⟨es[i],Array.getElem?_eq_getElem hi,rfl⟩ ⟨st',⟨u,(sb.2 d (Ne.symm hjd)).trans h2,r⟩⟩ fun b o hb e=>(sb.2 b (fun z=>hb (by simp[z]))).trans e
  done:=fun s Q E st hQ=>wQ hh st.1 st.2 (Nat.le_refl _) fun h' eb=>hQ h' s.toks fun b o hb e=>eb b o (fun z=>hb (by simp[z])) e
  self := fun _ _ _ _ st hQ => wpAny_pyIter_keyiter st.1 hQ
theorem sA {d:Addr}{es:Array DictEntry}{ep:Nat}(hd:(d == sysModules)=false):KdlSrc prog w "dict" d d es.size (fun i v=>∃x,es[i]?=some x/\v=x.key) (fun h=>DictE h d es ep) where
  type _ x:=x.ty
  there _ x:=let ⟨_,e,_⟩:=x;⟨Heap.lt_size e,Heap.lt_size e⟩
  keep _ _ x k:=let ⟨u,e,r⟩:=x;⟨u,k d (.inl rfl) u e,r⟩
  notList:=by decide
  notTuple:=by decide
  hint _ _ _ _ x q:=kdl_hint_dict x.ty q
  iter A s hh x:=by
    obtain⟨u,e,r⟩:=id x
    exact⟨_,_,fun E Q q=>vD hd x q,nQ hh (Nat.ne_of_gt (Heap.lt_size e)) es ep,⟨_,Heap.get?_push_size _ rfl,rfl,rfl⟩,u,Heap.get?_push_of_some _ e,r⟩
theorem jW {Q:Value->Shared->Prop}{d:Addr}{es:Array DictEntry}{ep:Nat}(hh:A.handled=none)(hd:(d == sysModules)=false)(x:DictE s.heap d es ep)(hlen:es.size<=sizeLine)
    (hQ : ∀ h' tk acc' c', (∀ b o, s.heap.get? b = some o → h'.get? b = some o) →
      h'.get? s.heap.objs.size=some { cls:=.type "list",dict:=none,data:=.seq acc' c',slots:=#[] }->ItemsOf (fun i v=>∃x,es[i]?=some x/\v=x.key) acc' es.size->Q (.ref s.heap.objs.size) { s with heap:=h',toks:=tk }) :
    wpAny (model prog w) A (call (.type "list") [.ref d]) Q E s:=kdl_call (sA hd) hh x hlen hQ
end
end L2
namespace L2
open PySem PySem.Spec PyProof.Rows
def jZ (d:Addr)(ys:List V):Heap->Prop:=fun h=>(d == sysModules)=false/\∃es ep,DictE h d es ep/\Vals ys (es.toList.map (·.key))
theorem oP {ys:List V}{us:List Value}:∀{acc:List Value},Vals ys us->acc.length=us.length->(∀(j:Nat) v,acc[j]?=some v->us[j]?=some v)->Vals ys acc:=by
  intro acc r hl h
  have e:acc=us:=by
    refine List.ext_getElem? fun j=>?_
    cases h1:acc[j]? with
    | some v=>exact (h j v h1).symm
    | none=>
      have:us.length<=j:=by rw[←hl];exact List.getElem?_eq_none_iff.mp h1
      exact (List.getElem?_eq_none this).symm
  rw[e]
  exact r
section
variable {X:Cx}
def wC:List V->Hp->VK->Prop:=fun xs H Q=>∃(l:Addr) (ks:List ((List Int×Addr)×Addr)),xs=[.ref l]/\H l=some (.lst (ks.map fun k=>.ref k.2))/\ks.length<=1000/\
  (∀k∈ks,H k.2=some (.tup [.ref k.1.2,.bl true])/\H k.1.2=some (.tup (k.1.1.map V.int)))/\∀d,H d=none->Q (.ref d) (upd H d (.ext (jZ d ((gH (ks.map (·.1))).map fun x=>.ref x.2))))
theorem o8 (hc:X.calm=true)(hu:X.A.units+64<cLine):eM X (.type "dict") wC:=by
  intro pins s1 σ H1 vs us Q I1 r1 q1
  obtain⟨l,ks,e,hl,hz,hk,q⟩:=q1
  subst e
  obtain⟨u,rfl,ru⟩:=fL r1
  cases ru
  obtain⟨_,its,n,rv,ol⟩:=(show ObjOk X.prog X.w H1 s1.heap l (.lst (ks.map fun k=>.ref k.2)) from I1.hok l _ hl)
  have hlen:its.length=ks.length:=by have:=rv.length;simpa using this.symm
  refine jX (knd:=intKind X.prog X.w) (xs:=(ks.map (·.1)).map eQ) (I1.ok.hd hc) hu ol (by simpa using hlen) (by simpa using hz) (fun j x hj=>?_) fun h' tk d hD hd kp=>?_
  · rw[List.getElem?_map,List.getElem?_map] at hj
    cases hkj:ks[j]? with
    | none=>rw[hkj] at hj;cases hj
    | some k=>
      rw[hkj] at hj
      have e:x=eQ k.1:=(Option.some.inj hj).symm
      subst e
      obtain⟨u,hu,ru⟩:=rv.get (i:=j) (x:=.ref k.2) (by rw[List.getElem?_map,hkj];rfl)
      cases ru
      obtain⟨t1,t2⟩:=hk k (List.mem_of_getElem? hkj)
      obtain⟨_,i1,v1,o1⟩:=(show ObjOk X.prog X.w H1 s1.heap k.2 (.tup [.ref k.1.2,.bl true]) from I1.hok _ _ t1)
      obtain⟨_,i2,v2,o2,e2,c2,n2,d2⟩:=(show ObjOk X.prog X.w H1 s1.heap k.1.2 (.tup (k.1.1.map V.int)) from I1.hok _ _ t2)
      refine⟨.ref k.2,by simpa using hu,k.2,rfl,?_,o2,i2.toArray,n2,e2,c2,d2,(show ItemsAre (intKind X.prog X.w) k.1.1 i2.toArray.toList by simpa using nw v2)⟩
      cases v1 with
      | cons ra rb=>
        cases rb with
        | cons rb rc=>
          cases rc
          cases ra
          cases rb
          exact o1
  · rw[oZ] at hD
    obtain⟨o,es,ep,ho,r1,r2,r3,r4,r5⟩:=hD
    have hne:(d == sysModules)=false:=by
      have b1:sysModules<d:=Nat.lt_of_lt_of_le I1.bigS hd
      exact beq_eq_false_iff_ne.mpr (Nat.ne_of_gt b1)
    refine⟨.ref d,_,I1.laid (t':=tk) (o:=.ext (jZ d ((gH (ks.map (·.1))).map fun x=>.ref x.2))) kp hd ?_,rfl,q _ (I1.hok.fresh hd)⟩
    refine⟨⟨hne,es,ep,⟨o,ho,r1,r2⟩,rh r3⟩,⟨o,ho⟩,fun h1 h2 p k=>?_⟩
    obtain⟨p0,es,ep,⟨o,a,b⟩,c⟩:=p
    exact⟨p0,es,ep,⟨o,k o a,b⟩,c⟩
def wz:List V->Hp->VK->Prop:=fun xs H Q=>∃(d:Addr) (ys:List V),xs=[.ref d]/\H d=some (.ext (jZ d ys))/\ys.length<=sizeLine/\∀l,H l=none->Q (.ref l) (upd H l (.lst ys))
theorem o6 (hc:X.calm=true):eM X (.type "list") wz:=by
  intro pins s σ H vs us Q I r q
  obtain⟨d,ys,rfl,hd,hz,q⟩:=q
  obtain⟨u,rfl,ru⟩:=fL r
  cases ru
  obtain⟨⟨hne,es,ep,x,rv⟩,_,_⟩:=(show ObjOk X.prog X.w H s.heap d (.ext (jZ d ys)) from I.hok d _ hd)
  have hlen:ys.length=es.size:=by have:=rv.length;simpa using this
  refine jW (I.ok.hd hc) hne x (by omega) fun h' tk acc' c' kp e it=>?_
  refine⟨.ref s.heap.objs.size,_,I.laid (t':=tk) kp (Nat.le_refl _) (show ObjOk X.prog X.w _ h' _ (.lst ys) from ⟨hz,acc'.toList,c',oP rv (by simpa using it.1) fun j v hj=>?_,by simpa using e⟩),rfl,q _ (I.hok.fresh (Nat.le_refl _))⟩
  obtain⟨y,h1,h2⟩:=it.2 j v (by simpa using hj)
  rw[h2,List.getElem?_map,Array.getElem?_toList,h1]
  rfl
end
theorem wK {a t:Pt3}{l o:List Pt3}(h:ahd a t=true):mrg (a::l) (t::o)=a::mrg l (t::o):=by
  simp[mrg,h]
theorem m8 {t:Pt3}{l o:List Pt3}(h:∀a,l.head?=some a->ahd a t=false):mrg l (t::o)=t::mrg l o:=by
  cases l with
  | nil=>simp[mrg]
  | cons a l=>
    have:=h a rfl
    simp[mrg,this]
theorem rK (xs:List V){k:Nat}(h:k<=xs.length):iI xs (some (k:Int)) none=xs.drop k:=by
  have e1:HT.sIx xs.length 0 (some (k:Int))=k:=by
    unfold HT.sIx
    simp only[]
    split <;> omega
  have e2:HT.sIx xs.length xs.length none=xs.length:=rfl
  unfold iI
  rw[e1,e2]
  exact List.take_of_length_le (by rw[List.length_drop];exact Nat.le_refl _)
theorem TupsT.lstUpd {H:Hp}{r:Addr}{zs ws:List V}{vs:List V}{nss:List (List Int)}(h:TupsT H vs nss)(e:H r=some (.lst zs)):TupsT (upd H r (.lst ws)) vs nss:=h.mono fun v ns x=>by
  obtain⟨a,rfl,ha⟩:=x
  refine⟨a,rfl,?_⟩
  rw[aF (fun z=>by subst z;rw[e] at ha;cases ha)]
  exact ha
theorem bZ {H H':Hp}{r:Addr}{o:HO}(s:Same H H')(h:H r=none):Same H (L2.upd H' r o):=fun b u e=>by
  rw[aF (aV e h)]
  exact s b u e
theorem TupsT.drop {H:Hp}:∀{vs:List V} {nss:List (List Int)} (k:Nat),TupsT H vs nss->TupsT H (vs.drop k) (nss.drop k)
  | _,_,0,h=>h
  | _,_,_+1,.nil=>.nil
  | _,_,k+1,.cons _ t=>TupsT.drop k t
theorem TupsT.app {H:Hp}:∀{vs ws:List V} {nss mss:List (List Int)},TupsT H vs nss->TupsT H ws mss->TupsT H (vs++ws) (nss++mss)
  | _,_,_,_,.nil,g=>g
  | _,_,_,_,.cons r t,g=>.cons r (TupsT.app t g)
section
variable {σ:St}{H:Hp}{D:Ends}{rest:TS}{te to:TE}{l:Addr}{xs:List V}{K:PySem.W.Frag}
theorem ju {R:V->Hp->Prop}(ho:Pu to σ H (.ref l))(hl:H l=some (.lst xs))(he:Gv te σ H R)(q:∀v H',R v H'->∃ys,H' l=some (.lst ys)/\ys.length<sizeLine/\rest D σ (upd H' l (.lst (ys++[v])))) :
    dQ (fM (tBM K "list" lL to (bG te df))) rest D σ H:=cQ (D:={ D with nx:=rest D }) ho hl he q
theorem wx {R:V->Hp->Prop}(ho:Pu to σ H (.ref l))(hl:H l=some (.lst xs))(he:Gv te σ H R)(q:∀v H',R v H'->∃b ys zs,v=.ref b/\H' l=some (.lst ys)/\H' b=some (.lst zs)/\ys.length+zs.length<=sizeLine/\rest D σ (upd H' l (.lst (ys++zs)))) :
    dQ (fM (tBM K "list" lK to (bG te df))) rest D σ H:=
  ho _ ⟨.inl ⟨rfl,_,SqL.of hl⟩,he _ fun v H' r=>by
    obtain⟨b,ys,zs,rfl,h1,h2,h3,h4⟩:=q v H' r
    exact⟨l,b,ys,zs,rfl,rfl,h1,h2,h3,h4⟩⟩
theorem vI {k:Nat}{tk:TE}(ho:Pu to σ H (.ref l))(hk:Pu tk σ H (.int k))(hl:SqL K H l xs)(hkl:k<=xs.length):Gv (tSl (xk K) to (iL tk) eG) σ H (fun v H'=>∃p,H p=none/\v=.ref p/\H'=upd H p (.lst (xs.drop k))):=fun Q q=>
  ho _ (hk _ ⟨k,rfl,l,xs,rfl,hl,fun p hp=>by rw[rK xs hkl];exact q _ _ ⟨p,hp,rfl,rfl⟩⟩)
theorem sQ {f:Addr}{sp:Sp}{tx:TE}{t:TA}{vs:List V}{v:V}{E:XK}(hx:Pu tx σ H (.ref f))(h:PuA t σ H vs)(hs:∀Q:VK,Q v H->sp (vs++[]) H Q E):Pu (rY f sp [] E tx t) σ H v:=fun Q q=>hx _ ⟨rfl,h _ (hs Q q)⟩
end
theorem ph {p q:Pt3}(h:L3 p=L3 q):p=q:=by
  cases p;cases q
  simp only[L3,List.cons.injEq,and_true] at h
  obtain⟨a,b,c⟩:=h
  subst a b c
  rfl
theorem uf (row:List Pt3)(p:Pt3):(jQ row p).length<=row.length+1:=by
  unfold jQ
  split
  · omega
  · have:=congrArg List.length (iK row (fun q=>ahd q p))
    rw[List.length_append] at this
    rw[List.length_append,List.length_cons]
    omega
theorem nG:∀(ps row:List Pt3),(ps.foldl jQ row).length<=row.length+ps.length
  | [],row=>Nat.le_refl _
  | p::ps,row=>by
    have:=nG ps (jQ row p)
    have:=uf row p
    rw [List.foldl_cons, List.length_cons]
    omega
theorem TupsT.take {H:Hp}:∀{vs:List V} {nss:List (List Int)} (k:Nat),TupsT H vs nss->TupsT H (vs.take k) (nss.take k)
  | _,_,0,_=>.nil
  | _,_,_+1,.nil=>.nil
  | _,_,k+1,.cons r t=>.cons r (TupsT.take k t)
section
variable {σ:St}{H:Hp}{D:Ends}{rest:TS}{to ti te:TE}{l:Addr}{xs:List V}{K:PySem.W.Frag}{i:Nat}{a:Int}{b:Int}
theorem pH {j:Nat}{v:V}(ho:Pu to σ H (.ref l))(hl:H l=some (.lst xs))(hi:Pu ti σ H (.int j))(he:Pu te σ H v)(hj:j<=xs.length)(hz:xs.length<1000000)(q:D.nx σ (upd H l (.lst (xs.take j++v::xs.drop j)))) :
    fM (tBM K "list" pQ to (bG ti (bG te df))) D σ H:=
  ho _ ⟨.inl ⟨rfl,_,SqL.of hl⟩,hi _ (he _ ⟨l,xs,v,j,rfl,rfl,hl,hj,hz,q⟩)⟩
end
section
variable {X:Cx}
theorem oA {x1 x2 y:Str}{tg elt iter:Expr}{g:TG}{scope:Scope}{c:Addr}{pos:Pos}{wi:TI}{te:TE}(j:Nat)
    (hc:X.calm=true) (hi:PI X tg iter wi)
    (hg:∀C fp s0 H0,PG (blk X [x1,x2,y] scope [(y,c)] C fp s0 H0) tg g) (he:∀C fp s0 H0,PE (blk X [x1,x2,y] scope [(y,c)] C fp s0 H0) elt te)
    (hclos:closureFor scope X.env=pure [(y,c)]) (hkind:scope.kind=.function) (hnames:∀x∈scope.names,x.2=.local->scope.names.lookup x.1=some .local) (hcell:∀y∈scope.names,y.2≠.cell)
    (hcy:X.env.cells.lookup y=some c) (hNj:X.N[j]?=some y) (hk:X.env.kindOf y=some .cell) (hrel:(relabel scope X.env).names.lookup y=some .cell)
    (hall:((relabel scope X.env).names.all fun p=>(p.2 != .cell && p.2 != .free) || p.1 == y)=true)
    (hs:∀x,foldedSetIterable iter X.env x=pure x:=by intro _;rfl) :
    PE X (.ListComp elt [⟨tg,iter,[],0⟩] scope pos) (dJ wi (fun σ=>[none,none,(σ[j]?).join]) g te):=by
  refine dc (N':=[x1,x2,y]) (cl:=[(y,c)]) hc hi hg he hclos hkind hnames hcell (fun y' c' h=>?_) (fun y' h=>?_) (fun _ _=>rfl) (fun σ i y' v e1 e2=>?_) hs
  · obtain⟨rfl,rfl⟩:=eD h
    exact hcy
  · rw[List.all_eq_true] at hall
    have key:∀k,(k=.cell∨k=.free)->(relabel scope X.env).names.lookup y'=some k->y'=y:=fun k hk e=>by
      have:=hall _ (dF e)
      rcases hk with rfl|rfl
      · simpa using this
      · simpa using this
    have e:y'=y:=by
      rcases h with h|h
      · exact key _ (.inl rfl) h
      · exact key _ (.inr rfl) h
    subst e
    exact⟨c,by rw[List.lookup_cons,beq_self_eq_true]⟩
  · match i,e1,e2 with
    | 0,_,e2=>cases e2
    | 1,_,e2=>cases e2
    | 2,e1,e2=>
      have e1':y=y':=by simpa using e1
      subst e1'
      have e2':(σ[j]?).join=some v:=by simpa using e2
      refine⟨j,hNj,?_,hk,hrel⟩
      cases h:σ[j]? with
      | none=>rw[h] at e2';cases e2'
      | some o=>rw[h] at e2';have:o=some v:=e2';rw[this]
    | i+3,e1,_=>simp at e1
end
structure Stays (R:Hp->Nat->Addr->Prop):Prop where
  same:∀{H1 H2:Hp} {i:Nat} {p:Addr},R H1 i p->Same H1 H2->R H2 i p
  but:∀{H1 H2:Hp} {i:Nat} {p D:Addr} {ys:List V},R H1 i p->p≠D->H1 D=some (.lst ys)->SameB D H1 H2->R H2 i p
  here:∀{H1:Hp} {i:Nat} {p:Addr},R H1 i p->H1 p≠none
section
variable {σ:St}{H:Hp}{te tl:TE}{fr:St->St}{k:Nat}{K:PySem.W.Frag}{R:Hp->Nat->Addr->Prop}
def xB (R:Hp->Nat->Addr->Prop)(H:Hp)(n:Nat)(v:V)(H':Hp):Prop:=Same H H'/\∃(D:Addr) (ps:List Addr),v=.ref D/\H D=none/\H' D=some (.lst (ps.map V.ref))/\ps.length=n/\(∀i p,ps[i]?=some p->R H' i p/\p≠D/\H p=none)
theorem gA (S:Stays R){H2 H3 H4:Hp}{D p:Addr}{ps:List Addr}{i:Nat}(hD:H D=none)(s2:Same H H2)(hD2:H2 D=some (.lst (ps.map V.ref)))(hl:ps.length=i)(hp:∀i p,ps[i]?=some p->R H2 i p/\p≠D/\H p=none)(s3:Same H2 H3)(s4:Same H3 H4)(np:H3 p=none)(r:R H4 i p) :
    H4 D=some (.lst (ps.map V.ref))/\Same H (upd H4 D (.lst ((ps++[p]).map V.ref)))/\(∀i q,(ps++[p])[i]?=some q->R (upd H4 D (.lst ((ps++[p]).map V.ref))) i q/\q≠D/\H q=none):=by
  have d3:=s3 _ _ hD2
  have d4:=s4 _ _ d3
  have pD:p≠D:=fun e=>by subst e;rw[d3] at np;cases np
  have hpn:H p=none:=by
    cases e:H p with
    | none=>rfl
    | some o=>rw[s3 _ _ (s2 _ _ e)] at np;cases np
  refine⟨d4,bZ (s2.trans (s3.trans s4)) hD,fun j q hq=>?_⟩
  by_cases hj:j<ps.length
  · rw[List.getElem?_append_left hj] at hq
    obtain⟨r1,n1,f1⟩:=hp j q hq
    exact⟨S.but (S.same r1 (s3.trans s4)) n1 d4 SameB.upd,n1,f1⟩
  · rw[List.getElem?_append_right (by omega)] at hq
    have e:j - ps.length=0:=by
      rcases Nat.eq_zero_or_pos (j - ps.length) with e|e
      · exact e
      · rw[List.getElem?_eq_none (by simp;omega)] at hq;cases hq
    rw[e] at hq
    have e2:p=q:=by simpa using hq
    subst e2
    have e3:j=i:=by omega
    subst e3
    exact⟨S.but r pD d4 SameB.upd,pD,hpn⟩
theorem kN (S:Stays R){a:Addr}{xs:List V}(hl:Pu tl σ H (.ref a))(ha:H a=some (.lst xs))(hz:xs.length<=1000)(hk:∀x,KeepS (fr σ) ((fr σ).set k (some x)))
    (hs:∀i x H',xs[i]?=some x->Same H H'->Gv te ((fr σ).set k (some x)) H' (fun v H''=>Same H' H''/\∃p,v=.ref p/\H' p=none/\R H'' i p)) :
    Gv (dJ (gJ K tl) fr (bV k) te) σ H (xB R H xs.length):=by
  intro Q g
  refine hl _ ⟨a,rfl,⟨xs,SqL.of ha⟩,fun D hD=>?_⟩
  refine⟨fun i m ys H2=>m=xs.length - i/\i<=xs.length/\Same H H2/\∃ps:List Addr,ys=ps.map V.ref/\H2 D=some (.lst ys)/\ps.length=i/\∀i p,ps[i]?=some p->R H2 i p/\p≠D/\H p=none,⟨_,rfl,Nat.zero_le _,Same.upd hD,[],rfl,ak,rfl,fun i p h=>by simp at h⟩,?_⟩
  rintro i m ys H2 ⟨rfl,hi,s2,ps,rfl,hD2,hpl,hps⟩
  by_cases hlt:i<xs.length
  · refine .inr ⟨⟨xs,xs[i],SqL.of (s2 _ _ ha),by simp[hlt]⟩,?_,fun x H3 y=>?_⟩
    · rw[List.length_map];exact aZ (by omega)
    obtain⟨e,y⟩:=y
    subst e
    have ex:=y xs (SqL.of (s2 _ _ ha))
    refine⟨hk x,hs i x _ ex s2 _ fun v H4 ⟨s4,p,e,np,r⟩=>?_⟩
    subst e
    obtain⟨d4,s5,h5⟩:=gA S hD s2 hD2 hpl hps (fun _ _ z=>z) s4 np r
    exact⟨d4,xs.length - (i+1),by omega,rfl,hlt,by simpa using s5,ps++[p],by simp,ak,by simp[hpl],by simpa using h5⟩
  · have e:i=xs.length:=by omega
    subst e
    exact .inl ⟨⟨xs,SqL.of (s2 _ _ ha),Nat.le_refl _⟩,g _ _ ⟨s2,D,ps,rfl,hD,hD2,hpl,hps⟩⟩
theorem KeepS.none3 {v w f:Option V}:KeepS [none,none,f] [v,w,f]:=⟨rfl,fun i u h=>by rcases i with _ | _ | _ | i <;> simp_all⟩
theorem rC (S:Stays R){t:TA}{xs ys:List V}{f:Option V}{RA:List V->Hp->Prop}(hf:fr σ=[none,none,f])(ha:GvA t σ H RA)(hra:∀vs H1,RA vs H1->∃a b,vs=[.ref a,.ref b]/\Same H H1/\H1 a=some (.lst xs)/\H1 b=some (.lst ys))(hz:xs.length<=1000)
    (hs:∀i x y H',xs[i]?=some x->ys[i]?=some y->Same H H'->Gv te [some x,some y,f] H' (fun v H''=>Same H' H''/\∃p,v=.ref p/\H' p=none/\R H'' i p)) :
    Gv (dJ (wS HO.lst HO.lst t) fr (oU K 2 (eL (bV 0) (eL (bV 1) oV))) te) σ H (xB R H (min xs.length ys.length)):=by
  intro Q g
  refine ha _ fun vs H1 r1=>?_
  obtain⟨a,b,rfl,s1,ha,hb⟩:=hra vs H1 r1
  refine⟨a,b,xs,ys,rfl,ha,hb,fun D hD=>?_⟩
  have hD0:H D=none:=by
    cases e:H D with
    | none=>rfl
    | some o=>rw[s1 _ _ e] at hD;cases hD
  refine⟨fun i m zs H2=>m=min xs.length ys.length - i/\i<=min xs.length ys.length/\Same H1 H2/\∃ps:List Addr,zs=ps.map V.ref/\H2 D=some (.lst zs)/\ps.length=i/\∀i p,ps[i]?=some p->R H2 i p/\p≠D/\H1 p=none,⟨_,rfl,Nat.zero_le _,Same.upd hD,[],rfl,ak,rfl,fun i p h=>by simp at h⟩,?_⟩
  rintro i m zs H2 ⟨rfl,hi,s2,ps,rfl,hD2,hpl,hps⟩
  have ha2:=s2 _ _ ha
  have hb2:=s2 _ _ hb
  by_cases hlt:i<min xs.length ys.length
  · have l1:i<xs.length:=by omega
    have l2:i<ys.length:=by omega
    refine .inr ⟨⟨xs,ys,xs[i],ys[i],ha2,hb2,by simp[l1],by simp[l2]⟩,?_,?_⟩
    · rw[List.length_map];exact aZ (by omega)
    rintro v H3 ⟨p,x,y,hp,rfl,rfl,hx,hy⟩
    have s3:Same H2 (upd H2 p (.tup [x,y])):=Same.upd hp
    rw[hf]
    refine⟨p,[x,y],rfl,SqT.of ak,rfl,x,[y],rfl,y,[],rfl,rfl,KeepS.none3,?_⟩
    refine hs i x y _ (hx xs ha2) (hy ys hb2) (s1.trans (s2.trans s3)) _ fun v H4 ⟨s4,q,e,np,r⟩=>?_
    subst e
    obtain⟨d4,s5,h5⟩:=gA S hD s2 hD2 hpl hps s3 s4 np r
    exact⟨d4,min xs.length ys.length - (i+1),by omega,rfl,hlt,by simpa using s5,ps++[q],by simp,ak,by simp[hpl],by simpa using h5⟩
  · have e:i=min xs.length ys.length:=by omega
    subst e
    refine .inl ⟨⟨xs,ys,ha2,hb2,by omega⟩,g _ _ ⟨s1.trans s2,D,ps,rfl,hD0,hD2,hpl,fun i p h=>?_⟩⟩
    obtain⟨r1,r2,r3⟩:=hps i p h
    refine⟨r1,r2,?_⟩
    cases e:H p with
    | none=>rfl
    | some o=>rw[s1 _ _ e] at r3;cases r3
end
theorem iq (rows:List (List Pt3)):Stays (fun H i p=>∃r,rows[i]?=some r/\LP H p r) where
  same:=fun ⟨r,e,h⟩ s=>⟨r,e,h.same s⟩
  but:=fun {H1 H2 i p D ys} ⟨r,e,zs,h1,h2⟩ n d s=>⟨r,e,zs,s _ _ h1 n,h2.mono fun v ns x=>by
    obtain⟨a,rfl,ha⟩:=x
    exact⟨a,rfl,s _ _ ha (fun z=>by subst z;rw[d] at ha;cases ha)⟩⟩
  here:=fun ⟨r,e,zs,h1,h2⟩ z=>by rw[h1] at z;cases z
theorem p7:∀(one other:List Pt3),(mrg one other).length=one.length+other.length
  | one,[]=>by simp[mrg]
  | one,t::other=>by
    unfold mrg
    have e:=congrArg List.length (iK one (fun q=>ahd q t))
    rw[List.length_append] at e
    rw[List.length_append,List.length_cons,p7,List.length_cons]
    omega
def tot:List (List Pt3)->Nat
  | []=>0
  | r::l=>r.length+tot l
theorem io:∀{l:List (List Pt3)} {r:List Pt3},r∈l->r.length<=tot l
  | a::l,r,h=>by
    rcases List.mem_cons.mp h with rfl | h
    · simp only[tot];omega
    · have:=io h;simp only[tot];omega
theorem ki:∀(l:List (List Pt3)),tot (bE l)=tot l
  | []=>rfl
  | [a]=>rfl
  | a::b::l=>by simp only[bE,tot,p7,ki l];omega
theorem jp:∀(ps:List Pt3),tot (ps.map fun p=>[p])=ps.length
  | []=>rfl
  | p::ps=>by simp only[List.map_cons,tot,jp ps,List.length_cons,List.length_nil];omega
theorem gP:∀(l:List (List Pt3)) (i:Nat),(bE l)[i]?=match (ev l)[i]?,(ev (l.drop 1))[i]? with | some a,some b=>some (mrg a b) | some a,none=>some a | none,_=>none
  | [],i=>by simp[bE,ev]
  | [a],0=>by simp[bE,ev]
  | [a],i+1=>by simp[bE,ev]
  | a::b::l,0=>by
    have:(ev (b::l))[0]?=some b:=by cases l <;> simp[ev]
    simp[bE,ev,this]
  | a::b::l,i+1=>by
    have e:(ev (b::l))[i+1]?=(ev (l.drop 1))[i]?:=by cases l <;> simp[ev]
    simp only[bE,ev,List.getElem?_cons_succ,List.drop_succ_cons,List.drop_zero,e]
    exact gP l i
theorem oW {α:Type}:∀{xs:List α} {x:α},x∈ev xs->x∈xs
  | [a],x,h=>by simpa [ev] using h
  | a::b::l,x,h=>by
    simp only[ev,List.mem_cons] at h
    rcases h with h|h
    · simp[h]
    · simp[oW h]
theorem oX {α β:Type}(f:α->β):∀(xs:List α),ev (xs.map f)=(ev xs).map f
  | []=>rfl
  | [a]=>rfl
  | a::b::l=>by simp[ev,oX f l]
theorem gC {α:Type}:∀(xs:List α),(ev xs).length=(xs.length+1) / 2
  | []=>by simp[ev]
  | [a]=>by simp[ev]
  | a::b::l=>by simp only[ev,List.length_cons,gC l];omega
theorem gG:∀(l:List (List Pt3)),(bE l).length=(l.length+1) / 2
  | []=>by simp[bE]
  | [a]=>by simp[bE]
  | a::b::l=>by simp only[bE,List.length_cons,gG l];omega
theorem ql {α:Type}:∀(xs:List α),xs.length % 2=1->(ev xs)[xs.length / 2]?=xs[xs.length - 1]?
  | [],h=>by simp at h
  | [a],h=>by simp[ev]
  | a::b::l,h=>by
    have h':l.length % 2=1:=by simp only[List.length_cons] at h;omega
    have:=ql l h'
    simp only[ev,List.length_cons]
    rw[show (l.length+1+1) / 2=l.length / 2+1 by omega,List.getElem?_cons_succ,this]
    cases l with
    | nil=>simp at h'
    | cons c l=>simp
section
variable {α β:Type}{F:α->β->Prop}
theorem cM:∀{as:List α} {bs:List β},as.length=bs.length->(∀(i:Nat) a,as[i]?=some a->∃b,bs[i]?=some b/\F a b)->Paired F as bs
  | [],[],_,_=>.nil
  | [],b::bs,h,_=>by simp at h
  | a::as,[],h,_=>by simp at h
  | a::as,b::bs,h,g=>by
    obtain⟨c,hc,r⟩:=g 0 a rfl
    have e:b=c:=by simpa using hc
    subst e
    exact .cons r (cM (by simpa using h) fun i x hx=>by
      obtain⟨y,hy,r⟩:=g (i+1) x (by simpa using hx)
      exact⟨y,by simpa using hy,r⟩)
theorem bv:∀{as:List α} {bs:List β} {i:Nat} {a:α},Paired F as bs->as[i]?=some a->∃b,bs[i]?=some b/\F a b
  | _,_,_,_,.nil,h=>by simp at h
  | _,_,0,a,.cons r t,h=>by
    simp only [List.getElem?_cons_zero, Option.some.injEq] at h
    subst h
    exact⟨_,rfl,r⟩
  | _,_,i+1,a,.cons r t,h=>by
    obtain⟨y,hy,r⟩:=bv (i:=i) t (by simpa using h)
    exact⟨y,by simpa using hy,r⟩
theorem dO:∀{as:List α} {bs:List β} {i:Nat} {b:β},Paired F as bs->bs[i]?=some b->∃a,as[i]?=some a/\F a b
  | _,_,_,_,.nil,h=>by simp at h
  | _,_,0,a,.cons r t,h=>by
    simp only [List.getElem?_cons_zero, Option.some.injEq] at h
    subst h
    exact⟨_,rfl,r⟩
  | _,_,i+1,a,.cons r t,h=>by
    obtain⟨y,hy,r⟩:=dO (i:=i) t (by simpa using h)
    exact⟨y,by simpa using hy,r⟩
theorem iF:∀{as:List α} {bs:List β},Paired F as bs->Paired F (ev as) (ev bs)
  | _,_,.nil=>.nil
  | _,_,.cons r .nil=>.cons r .nil
  | _,_,.cons r (.cons _ t)=>.cons r (iF t)
theorem lU:∀{as:List α} {bs:List β},Paired F as bs->Paired F (as.drop 1) (bs.drop 1)
  | _,_,.nil=>.nil
  | _,_,.cons r t=>t
theorem bF:∀{as:List α} {bs:List β},Paired F as bs->as.length=bs.length
  | _,_,.nil=>rfl
  | _,_,.cons r t=>by simp[bF t]
theorem bz {G:α->β->Prop}:∀{as:List α} {bs:List β},Paired F as bs->(∀a b,F a b->G a b)->Paired G as bs
  | _,_,.nil,_=>.nil
  | _,_,.cons r t,f=>.cons (f _ _ r) (bz t f)
theorem iU {a:α}{b:β}:∀{as:List α} {bs:List β},Paired F as bs->F a b->Paired F (as++[a]) (bs++[b])
  | _,_,.nil,r=>.cons r .nil
  | _,_,.cons r t,h=>.cons r (iU t h)
end
section
variable {σ:St}{H:Hp}{to ta tb:TE}{tc:TT}{K:PySem.W.Frag}{a:Addr}{xs:List V}{b:Bool}
theorem uo {k:Nat}{i:Int}(ho:Pu to σ H (.ref a))(ha:H a=some (.lst xs))(hk:k<=1)(hi:i=(k:Int)) :
    Gv (rW (xm K) to (iL (tC (.int i))) eG (iL (tC (.int 2)))) σ H (fun v H'=>∃p,H p=none/\v=.ref p/\H'=upd H p (.lst (ev (xs.drop k)))):=by
  subst hi
  exact fun Q q=>ho _ ⟨(k:Int),rfl,2,rfl,a,xs,k,rfl,rfl,rfl,rfl,hk,SqL.of ha,fun p hp=>q _ _ ⟨p,hp,rfl,rfl⟩⟩
theorem u6 (ho:Pu to σ H (.ref a))(ha:H a=some (.lst xs)):PuT (fun σ H Q=>to σ H fun x H'=>∃k,wY K x H' k/\Q k H') σ H (!xs.isEmpty):=fun Q q=>
  ho _ ⟨_,.inl ⟨xs,SqL.of ha,rfl⟩,q⟩
end
theorem LP.but {H1 H2:Hp}{p D:Addr}{ys:List V}{r:List Pt3}(h:LP H1 p r)(n:p≠D)(d:H1 D=some (.lst ys))(s:SameB D H1 H2):LP H2 p r:=by
  obtain⟨zs,h1,h2⟩:=h
  refine⟨zs,s _ _ h1 n,h2.mono fun v ns x=>?_⟩
  obtain⟨a,rfl,ha⟩:=x
  exact⟨a,rfl,s _ _ ha (fun z=>by subst z;rw[d] at ha;cases ha)⟩
theorem bK {H H':Hp}{p:Addr}(s:Same H H')(h:H' p=none):H p=none:=by
  cases e:H p with
  | none=>rfl
  | some o=>rw[s _ _ e] at h;cases h
section
variable {X:Cx}
def uL (X:Cx)(e:Expr)(scope:Scope)(iter:Expr)(t:TE):Prop:=∀(pins:List (Addr×Obj)) (s:Shared) (σ:St) (H:Hp) (Q:VK) (use:Option (Value->Sem Unit)) (Q':Value->Shared->Prop) (fpos:Pos),Inv X pins σ H s->t σ H Q->
  (∀D C m s5 H4 r,s5.heap.Ns C m->eF X pins H4 C->Inv X pins σ H4 s5->Q (.ref D) H4->compPost (model X.prog X.w) X.A X.xe use Q' (.ref D) C (.ok r) s5)->
  wpAny (model X.prog X.w) X.A (comprehension e scope X.env fpos (newList []) false (eval iter X.env) use) Q' X.xe s
theorem jU {tg elt iter:Expr}{scope:Scope}{cl:List (Str×Addr)}{pos:Pos}{N':List Str}{wi:TI}{fr:St->St}{g:TG}{te:TE}
    (hc:X.calm=true) (hi:PI X tg iter wi)
    (hg:∀C fp s0 H0,PG (blk X N' scope cl C fp s0 H0) tg g) (he:∀C fp s0 H0,PE (blk X N' scope cl C fp s0 H0) elt te)
    (hclos:closureFor scope X.env=pure cl) (hkind:scope.kind=.function) (hnames:∀x∈scope.names,x.2=.local->scope.names.lookup x.1=some .local) (hcell:∀y∈scope.names,y.2≠.cell)
    (hcl:∀y c,cl.lookup y=some c->X.env.cells.lookup y=some c) (hhas:∀y,((relabel scope X.env).names.lookup y=some .cell∨(relabel scope X.env).names.lookup y=some .free)->∃c,cl.lookup y=some c)
    (hfl:∀σ:St,σ.length=X.N.length->(fr σ).length=N'.length)
    (hfr:∀(σ:St) (i:Nat) (y:Str) (v:V),N'[i]?=some y->(fr σ)[i]?=some (some v)->∃j:Nat,X.N[j]?=some y/\σ[j]?=some (some v)/\X.env.kindOf y=some .cell/\(relabel scope X.env).names.lookup y=some .cell)
    (hs:∀x,foldedSetIterable iter X.env x=pure x:=by intro _;rfl) :
    uL X (.ListComp elt [⟨tg,iter,[],0⟩] scope pos) scope iter (dJ wi fr g te):=by
  intro pins s σ H Q use Q' fpos I h fin
  refine wpAny_comprehension_free (use:=use) rfl hs hclos hkind hnames ?_
  refine thn (hi pins s σ H _ I h) fun v s1 h1=>thn h1 fun itv s2 h2=>?_
  obtain⟨it,fp,tn,J,H2,rfl,I2,T,st2,f2,q2⟩:=h2
  have D0:H2 s2.heap.objs.size=none:=I2.hok.fresh (Nat.le_refl _)
  obtain⟨W,⟨m0,w0⟩,turn⟩:=q2 _ D0
  refine wpAny_newObj_type (wpAny_newFunctionEnv hcell (by intro y hy; simp at hy) (fun h₁ hns₁ hsb₁ => ?_) hkind)
  dsimp only at hns₁ hsb₁ ⊢
  have I3:Inv X pins σ (upd H2 s2.heap.objs.size (.lst [])) { s2 with heap:=s2.heap.push { cls:=.type "list",dict:=none,data:=.seq ([]:List Value).toArray } }:=
    I2.laid (t':=s2.toks) (fun b u e=>Heap.get?_push_of_some _ e) (Nat.le_refl _) ⟨Nat.zero_le _,[],_,.nil,Heap.get?_push_size _ rfl⟩
  generalize hH3:upd H2 s2.heap.objs.size (.lst [])=H3 at I3 w0
  generalize hs3:({ s2 with heap:=s2.heap.push { cls:=.type "list",dict:=none,data:=.seq ([]:List Value).toArray } }:Shared)=s3 at I3
  have eh:s3.heap=s2.heap.push { cls:=.type "list",dict:=none,data:=.seq ([]:List Value).toArray }:=by rw[←hs3]
  have fl:∀b∈fp,b<s2.heap.objs.size:=fun b hb=>by
    obtain⟨o,e,_⟩:=T.obj 0 _ st2 b hb
    exact Heap.lt_size e
  have fn:∀b∈fp,H3 b=none:=fun b hb=>by
    rw[←hH3,aF (Nat.ne_of_lt (fl b hb))];exact (f2 b hb).1
  have f3:∀b∈fp,eF X pins H3 b:=fun b hb=>⟨fn b hb,(f2 b hb).2⟩
  have old:∀b u,s3.heap.get? b=some u->h₁.get? b=some u:=fun b u e=>by
    refine hsb₁.extBut b u ?_ (Heap.get?_push_of_some _ (by rw[←eh];exact e))
    have:=Heap.lt_size e
    rw[eh] at this
    exact Nat.ne_of_lt this
  have up:∀b u,s2.heap.get? b=some u->s3.heap.get? b=some u:=fun b u e=>by rw[eh];exact Heap.get?_push_of_some _ e
  have ok:=o9 (N':=N') (scope:=scope) (cl:=cl) (fp:=fp) I3 hkind hcl hhas f3 fun b hb=>by rw[eh,Heap.size_push];exact Nat.lt_succ_of_lt (fl b hb)
  rw[←eh] at hns₁ ⊢
  have IB:Inv (blk X N' scope cl s3.heap.objs.size fp s3 H3) [] (fr σ) H3 { s3 with heap:=h₁,toks:=s2.toks+([]:List (Str×Value)).length }:=by
    refine⟨ok,rfl,I3.bare,Un.kept old,⟨_,hns₁,fun i y v e1 e2 e3=>?_⟩,fun x c e=>?_,I3.hok.fresh (Nat.le_refl _),fun x c e=>I3.freeC x c (hcl x c e),fun p hp=>by simp[blk] at hp,I3.hok.kept old,hfl σ I3.len⟩
    · obtain⟨j,n1,n2,n3,n4⟩:=hfr σ i y v e1 e2
      obtain⟨m,_,hl⟩:=I3.loc
      obtain⟨u,r,l⟩:=hl j y v n1 n2 (.inr (.inl n3))
      refine⟨u,r,.inr ⟨.inl n4,?_⟩⟩
      rcases l with⟨k,_⟩|⟨_,c,e,ic⟩
      · rw[n3] at k;cases k
      · obtain⟨c',e'⟩:=hhas y (.inl n4)
        have e'':=hcl y c' e'
        rw[e] at e'';cases e''
        obtain⟨o,ho,hd⟩:=ic
        exact⟨c,e',o,old c o ho,hd⟩
    · obtain⟨v,o,ho,hd⟩:=I3.cell x c (hcl x c e)
      exact⟨v,o,old c o ho,hd⟩
  have stB:tn 0 h₁:=T.keep _ _ _ st2 fun b hb o e=>old b o (up b o e)
  have D2:s2.heap.objs.size<s3.heap.objs.size:=by rw[eh,Heap.size_push];exact Nat.lt_succ_self _
  have stat:∀{H':Hp},(∀b∈fp,H' b=none)->∀b∈fp,eF (blk X N' scope cl s3.heap.objs.size fp s3 H3) [] H' b:=fun hn b hb=>
    ⟨hn b hb,Nat.ne_of_lt (Nat.lt_trans (fl b hb) D2),ok.exfs b hb,.inl hb,fun x c e=>(ok.exf b hb).2 x c e,fun p hp=>by simp[blk] at hp⟩
  have loop:codeAny (model X.prog X.w) X.A (.compLoop (.ListComp elt [⟨tg,iter,[],0⟩] scope pos) 0 (.ref it) (.ref s2.heap.objs.size) (compEnvC scope cl s3.heap.objs.size X.env))
      (compPost (model X.prog X.w) X.A X.xe use Q' (.ref s2.heap.objs.size) s3.heap.objs.size) { s3 with heap:=h₁,toks:=s2.toks+([]:List (Str×Value)).length }:=by
    refine codeAny_loop rfl (fun n s'=>∃i ys H',Inv (blk X N' scope cl s3.heap.objs.size fp s3 H3) [] (fr σ) H' s'/\tn i s'.heap/\(∀b∈fp,H' b=none)/\W i n ys H') ?_ m0 ⟨0,[],H3,IB,stB,fn,w0⟩
    rintro n s4 ⟨i,ys,H4,I4,st4,fr4,w4⟩
    show wpAny _ _ ((compTurn (.ListComp elt [⟨tg,iter,[],0⟩] scope pos) 0 (.ref it) (.ref s2.heap.objs.size) (compEnvC scope cl s3.heap.objs.size X.env)).onRaise (fun x=>do noteFrame x (compEnvC scope cl s3.heap.objs.size X.env);theTreesLotGoes x)) _ _ s4
    refine wpAny_noted ?_
    rw[compTurn_list1]
    refine wpAny_bind (wpAny_standAt (wpAny_bind ?_))
    rcases turn i n ys H4 w4 with⟨stop,qn⟩|⟨go,hz,step⟩
    · refine thn (T.done (blk X N' scope cl s3.heap.objs.size fp s3 H3) rfl rfl rfl hc i [] s4 (fr σ) H4 _ I4 (stat fr4) st4 stop) fun r s5 ⟨hr,I5⟩=>?_
      subst hr
      refine wpAny_pure ?_
      obtain⟨m,hn,_⟩:=I5.loc
      have hlt:∀b u,s3.heap.get? b=some u->b≠s3.heap.objs.size:=fun b u e=>Nat.ne_of_lt (Heap.lt_size e)
      have B:=I5.base
      refine fin _ _ m s5 H4 _ hn (I3.fpOk (Nat.le_refl _) I5.free) ?_ qn
      refine I3.call' (s':=s5) (ch:=fp) I5.os ⟨fun b o e n1 n2 n3=>B.keep b o e n1 n2 n3,fun b o e n1 n2 n3=>B.slot b o e n1 n2 n3,B.free,fun b o e n1=>B.there b o e n1,B.tups,B.frzs,B.tbls⟩ (fun a o e=>I5.hok a o e) I5.bare (fun b hb'=>?_)
      exact⟨(f2 b hb').2.2.2.1,(f2 b hb').2.1,(f2 b hb').2.2.2.2.1,(f2 b hb').2.2.2.2.2⟩
    · refine thn (T.item (blk X N' scope cl s3.heap.objs.size fp s3 H3) rfl rfl rfl hc i [] s4 (fr σ) H4 _ I4 (stat fr4) st4 go) fun r s5 ⟨u,hr,h5⟩=>?_
      subst hr
      refine wpAny_bind (thn h5 fun _ s6 ⟨x,H6,I6,r6,y6,st6,fr6⟩=>?_)
      have I6':=I6.pinned (stat fr6) (T.obj _ _ st6)
      refine wpAny_bind (wpAny_mono (hg s3.heap.objs.size fp s3 H3 _ s6 (fr σ) H6 x u _ I6' r6 (step x H6 y6)) (fun _ s7 ⟨σ7,H7,I7,kp,q7⟩=>?_) fun _ _ z=>z.elim)
      refine wpAny_bind (wpAny_bind (wpAny_mono (he s3.heap.objs.size fp s3 H3 _ s7 σ7 H7 _ I7 q7) (fun v8 s8 ⟨y8,H8,I8,r8,hD,m',hm,w8⟩=>?_) fun _ _ z=>z.elim))
      have ap:=br (X:=blk X N' scope cl s3.heap.objs.size fp s3 H3) _ s8 σ7 H8 (.ref s2.heap.objs.size) [y8] (.ref s2.heap.objs.size) [v8] (fun _ H9=>W (i+1) m' (ys++[y8]) H9) I8 rfl (.cons r8 .nil) ⟨_,ys,y8,rfl,rfl,hD,hz,w8⟩
      refine wpAny_bind (wpAny_mono ap (fun _ s9 ⟨_,H9,I9,_,w9⟩=>wpAny_pure (wpAny_pure ⟨rfl,m',hm,i+1,ys++[y8],H9,?_,?_,?_,w9⟩)) fun _ _ z=>z.elim)
      · exact I9.unpinned.weak (by rw[kp.1]) kp.2
      · exact T.keep _ _ _ st6 fun b hb o e=>(I9.pin (b,o) (List.mem_append_right _ (List.mem_append_right _ (cb hb e)))).1
      · intro b hb
        obtain⟨o,e,d⟩:=T.obj _ _ st6 b hb
        exact (I9.pin (b,o) (List.mem_append_right _ (List.mem_append_right _ (cb hb e)))).2.1
  subst hs3
  exact codeAny_compStart_list loop (T.self X.A 0 _ _ _ stB loop)
theorem lQ {i:Nat}{y:Str}{py spos:Pos}{elt iter tg:Expr}{scope:Scope}{pos:Pos}{t:TE}(hN:X.N.Nodup)(hi:X.N[i]?=some y)(hx:X.env.scope.names.lookup y=some .local)(h:uL X (.ListComp elt [⟨tg,iter,[],0⟩] scope pos) scope iter t)
    (hsw:swapsWith (.ListComp elt [⟨tg,iter,[],0⟩] scope pos) (some (.Name y py)) spos.line X.env=pure true:=by rfl):PS X (.Assign [.Name y py] (.ListComp elt [⟨tg,iter,[],0⟩] scope pos) spos) (i9 t (bV i)):=by
  intro pins s σ H D I hw
  rw [exec_Assign_Name_used _ _ _ _ hsw]
  refine wpAny_bind (wpAny_standAt (wpAny_bind ?_))
  show wpAny _ _ (do let _ ←comprehension (.ListComp elt [⟨tg,iter,[],0⟩] scope pos) scope X.env _ (newList []) false (eval iter X.env) (some (assign (.Name y py) X.env))) _ _ _
  refine wpAny_bind (wpAny_mono (h pins { s with } σ H _ (some (assign (.Name y py) X.env)) (fun _ s'=>SP X pins D .next s') _ I hw fun D' C m s5 H4 r hn f I5 q=>?_) (fun _ s' hq=>wpAny_pure (wpAny_pure hq)) fun _ _ e=>e)
  refine wpAny_assign_Name (kj I5 hN hi (Or.inl hx) (v:=.ref D') rfl (fun s6 I6 ⟨a,sb,ha⟩=>?_) (.inr hx))
  have na:C≠a:=by
    rcases ha with e|e
    · rw[e];exact f.2.1
    · exact Ne.symm (f.2.2.2.2.1 y a e)
  refine⟨m,hn.sameBut sb na,fun h' sb'=>⟨_,H4,?_,q⟩⟩
  exact I6.turned (t':=s6.toks) (fun b o hb e=>sb'.extBut b o hb e) f.1 f.2.1 f.2.2.2.1 f.2.2.2.2.1 f.2.2.2.2.2
theorem o5 {x1 x2 y:Str}{tg elt iter:Expr}{g:TG}{scope:Scope}{c:Addr}{pos:Pos}{wi:TI}{te:TE}(j:Nat)
    (hc:X.calm=true) (hi:PI X tg iter wi)
    (hg:∀C fp s0 H0,PG (blk X [x1,x2,y] scope [(y,c)] C fp s0 H0) tg g) (he:∀C fp s0 H0,PE (blk X [x1,x2,y] scope [(y,c)] C fp s0 H0) elt te)
    (hclos:closureFor scope X.env=pure [(y,c)]) (hkind:scope.kind=.function) (hnames:∀x∈scope.names,x.2=.local->scope.names.lookup x.1=some .local) (hcell:∀y∈scope.names,y.2≠.cell)
    (hcy:X.env.cells.lookup y=some c) (hNj:X.N[j]?=some y) (hk:X.env.kindOf y=some .cell) (hrel:(relabel scope X.env).names.lookup y=some .cell)
    (hall:((relabel scope X.env).names.all fun p=>(p.2 != .cell && p.2 != .free) || p.1 == y)=true)
    (hs:∀x,foldedSetIterable iter X.env x=pure x:=by intro _;rfl) :
    uL X (.ListComp elt [⟨tg,iter,[],0⟩] scope pos) scope iter (dJ wi (fun σ=>[none,none,(σ[j]?).join]) g te):=by
  refine jU (N':=[x1,x2,y]) (cl:=[(y,c)]) hc hi hg he hclos hkind hnames hcell (fun y' c' h=>?_) (fun y' h=>?_) (fun _ _=>rfl) (fun σ i y' v e1 e2=>?_) hs
  · obtain⟨rfl,rfl⟩:=eD h
    exact hcy
  · rw[List.all_eq_true] at hall
    have key:∀k,(k=.cell∨k=.free)->(relabel scope X.env).names.lookup y'=some k->y'=y:=fun k hk e=>by
      have:=hall _ (dF e)
      rcases hk with rfl|rfl
      · simpa using this
      · simpa using this
    have e:y'=y:=by
      rcases h with h|h
      · exact key _ (.inl rfl) h
      · exact key _ (.inr rfl) h
    subst e
    exact⟨c,by rw[List.lookup_cons,beq_self_eq_true]⟩
  · match i,e1,e2 with
    | 0,_,e2=>cases e2
    | 1,_,e2=>cases e2
    | 2,e1,e2=>
      have e1':y=y':=by simpa using e1
      subst e1'
      have e2':(σ[j]?).join=some v:=by simpa using e2
      refine⟨j,hNj,?_,hk,hrel⟩
      cases h:σ[j]? with
      | none=>rw[h] at e2';cases e2'
      | some o=>rw[h] at e2';have:o=some v:=e2';rw[this]
    | i+3,e1,_=>simp at e1
end
theorem n9 (us:List V):Stays (fun H i p=>∃v,us[i]?=some v/\H p=some (.tup [v,.bl true])) where
  same:=fun ⟨v,e,h⟩ s=>⟨v,e,s _ _ h⟩
  but:=fun ⟨v,e,h⟩ n d s=>⟨v,e,s _ _ h n⟩
  here:=fun ⟨v,e,h⟩ z=>by rw[h] at z;cases z
def wg (l:List Int):Pt3:=⟨l.getD 0 0,l.getD 1 0,l.getD 2 0⟩
theorem lg (p:Pt3):wg (L3 p)=p:=rfl
theorem qd {H:Hp}:∀{us:List V} {ps:List Pt3} {as:List Addr},TupsT H us (ps.map L3)->as.length=us.length->(∀(i:Nat) p,as[i]?=some p->∃v,us[i]?=some v/\H p=some (.tup [v,.bl true]))->
    ∃ks:List ((List Int×Addr)×Addr),ks.map (fun k=>V.ref k.2)=as.map V.ref/\ks.map (·.1.1)=ps.map L3/\ks.length=as.length/\∀k∈ks,H k.2=some (.tup [.ref k.1.2,.bl true])/\H k.1.2=some (.tup (k.1.1.map V.int))
  | us,[],as,t,hl,h=>by
    have:us=[]:=by cases t;rfl
    subst this
    have:as=[]:=List.length_eq_zero_iff.mp hl
    subst this
    exact⟨[],rfl,rfl,rfl,fun k hk=>nomatch hk⟩
  | us,p::ps,as,t,hl,h=>by
    cases t with
    | @cons u _ us _ r t=>
      cases as with
      | nil=>simp at hl
      | cons a as=>
        obtain⟨ks,h1,h2,h3,h4⟩:=qd (as:=as) t (by simpa using hl) fun i q hq=>by
          obtain⟨v,e,z⟩:=h (i+1) q (by simpa using hq)
          exact⟨v,by simpa using e,z⟩
        obtain⟨v,e,z⟩:=h 0 a rfl
        have e':u=v:=by simpa using e
        subst e'
        obtain⟨b,rfl,hb⟩:=r
        refine⟨((L3 p,b),a)::ks,by simp[h1],by simp[h2],by simp[h3],fun k hk=>?_⟩
        rcases List.mem_cons.mp hk with rfl|hk
        · exact⟨z,hb⟩
        · exact h4 k hk
theorem kh {H:Hp}:∀{xs:KA},(∀x∈xs,H x.2=some (.tup (x.1.map V.int)))->TupsT H (xs.map fun x=>.ref x.2) (xs.map (·.1))
  | [],_=>.nil
  | x::xs,h=>.cons ⟨x.2,rfl,h x (by simp)⟩ (kh fun y hy=>h y (List.mem_cons_of_mem _ hy))
theorem qI {ps qs:List Pt3}(h:∀p∈ps,Lp p)(e:∀p,p∈qs↔p∈ps):bo qs=bo ps:=by
  obtain⟨s,m⟩:=cV h
  obtain⟨s',m'⟩:=cV (ps:=qs) fun p hp=>h p ((e p).mp hp)
  exact gm s' s fun p=>by rw[m,m',e]
theorem gr (ps:List Pt3):(bo ps).length<=ps.length:=by
  have:=nG ps []
  simpa [bo] using this
theorem tG {xs:KA}{ps:List Pt3}(h:xs.map (·.1)=ps.map L3):∃qs:List Pt3,(gH xs).map (·.1)=qs.map L3/\qs.Nodup/\∀p,p∈qs↔p∈ps:=by
  have key:∀k∈(gH xs).map (·.1),∃p∈ps,k=L3 p:=fun k hk=>by
    have:=once_keys.mp hk
    rw[h] at this
    obtain⟨p,hp,e⟩:=List.mem_map.mp this
    exact⟨p,hp,e.symm⟩
  have back:∀(l:List (List Int)),(∀k∈l,∃p∈ps,k=L3 p)->l=(l.map wg).map L3:=by
    intro l hl
    induction l with
    | nil=>rfl
    | cons a l ih=>
      obtain⟨p,_,e⟩:=hl a (by simp)
      rw[List.map_cons,List.map_cons,←ih fun k hk=>hl k (List.mem_cons_of_mem _ hk),e,lg]
  have e:=back _ key
  refine⟨((gH xs).map (·.1)).map wg,e,?_,fun p=>?_⟩
  · have n:=oD xs
    rw[e] at n
    exact (List.Pairwise.of_map L3 (fun a b (hab:L3 a≠L3 b) z=>hab (by rw[z])) n)
  · constructor
    · intro hp
      obtain⟨k,hk,rfl⟩:=List.mem_map.mp hp
      obtain⟨q,hq,e⟩:=key k hk
      rw[e,lg];exact hq
    · intro hp
      have:L3 p∈(gH xs).map (·.1):=once_keys.mpr (by rw[h];exact List.mem_map.mpr ⟨p,hp,rfl⟩)
      exact List.mem_map.mpr ⟨_,this,lg p⟩
theorem fH:∀{ps qs:List Pt3},qs.Nodup->(∀p∈qs,p∈ps)->qs.length<=ps.length
  | ps,[],_,_=>Nat.zero_le _
  | ps,q::qs,n,h=>by
    obtain⟨n1,n2⟩:=List.nodup_cons.mp n
    obtain⟨a,b,rfl⟩:=List.append_of_mem (h q (by simp))
    have:=fH (ps:=a++b) n2 fun p hp=>by
      have:=h p (List.mem_cons_of_mem _ hp)
      rcases List.mem_append.mp this with z|z
      · exact List.mem_append_left _ z
      · rcases List.mem_cons.mp z with z|z
        · subst z;exact (n1 hp).elim
        · exact List.mem_append_right _ z
    simp only[List.length_append,List.length_cons] at this ⊢
    omega
theorem oT {σ:St}{H:Hp}{r:List V->Hp->VK->Prop}{te:TE}{R R':V->Hp->Prop}(h:Gv te σ H R)(f:∀v H',R v H'->∀Q:VK,(∀w H'',R' w H''->Q w H'')->r [v] H' Q):Gv (tCB r (bG te df)) σ H R':=fun Q q=>h _ fun v H' rv=>f v H' rv Q q
theorem vH {σ:St}{H:Hp}{t:TA}{RA:List V->Hp->Prop}(h:GvA t σ H RA)(hz:∀vs H1,RA vs H1->vs.length<=sizeLine):Gv (nW t) σ H (fun v H'=>∃vs H1 p,RA vs H1/\H1 p=none/\v=.ref p/\H'=upd H1 p (.tup vs)):=fun Q q=>h _ fun vs H1 r=>⟨hz vs H1 r,fun p hp=>q _ _ ⟨vs,H1,p,r,hp,rfl,rfl⟩⟩
theorem Same.rfl' {H:Hp}:Same H H:=fun _ _ e=>e
section
variable {es:List Expr}{env:Env}
theorem mr {a b c}:starEach (.Tuple a b c::es) env=(false,eval (.Tuple a b c) env)::starEach es env:=rfl
theorem sd {a b}:starEach (.List a b::es) env=(false,eval (.List a b) env)::starEach es env:=rfl
theorem aT {a b c}:starEach (.Constant a b c::es) env=(false,eval (.Constant a b c) env)::starEach es env:=rfl
theorem lw {a b c}:starEach (.UnaryOp a b c::es) env=(false,eval (.UnaryOp a b c) env)::starEach es env:=rfl
theorem aW {a b c d}:starEach (.BinOp a b c d::es) env=(false,eval (.BinOp a b c d) env)::starEach es env:=rfl
theorem af {a b}:starEach (.Name a b::es) env=(false,eval (.Name a b) env)::starEach es env:=rfl
theorem aK {a b c d}:starEach (.Call a b c d::es) env=(false,eval (.Call a b c d) env)::starEach es env:=rfl
theorem aO {a b c}:starEach (.Subscript a b c::es) env=(false,eval (.Subscript a b c) env)::starEach es env:=rfl
theorem mt {a b c d}:starEach (.Compare a b c d::es) env=(false,eval (.Compare a b c d) env)::starEach es env:=rfl
theorem fB {a b c d}:starEach (.ListComp a b c d::es) env=(false,eval (.ListComp a b c d) env)::starEach es env:=rfl
end
def SdAt (H:Hp)(a:Addr)(x:Pt3×Pt3):Prop:=∃u v,H a=some (.tup [u,v])/\AtP H u x.1/\AtP H v x.2
theorem SdAt.same {H H':Hp}{a:Addr}{x:Pt3×Pt3}(h:SdAt H a x)(s:Same H H'):SdAt H' a x:=by
  obtain⟨u,v,h1,h2,h3⟩:=h
  exact⟨u,v,s _ _ h1,TupT.same h2 s,TupT.same h3 s⟩
def SdL (H:Hp)(l:Addr)(xs:List (Pt3×Pt3)):Prop:=∃as:List Addr,H l=some (.lst (as.map V.ref))/\Paired (SdAt H) as xs
mutual
inductive Dat (K:PySem.W.Frag) (H:Hp):Nat->V->PyData->Prop
  | int {k:Nat} (n:Int):Dat K H k (.int n) (.int n)
  | tup {k:Nat} {a:Addr} {vs:List V} {ds:List PyData}:SqT K H a vs->Dats K H k vs ds->Dat K H (k+1) (.ref a) (.tuple ds)
  | lst {k:Nat} {a:Addr} {vs:List V} {ds:List PyData}:SqL K H a vs->Dats K H k vs ds->Dat K H (k+1) (.ref a) (.list ds)
inductive Dats (K:PySem.W.Frag) (H:Hp):Nat->List V->List PyData->Prop
  | nil {k:Nat}:Dats K H k [] []
  | cons {k:Nat} {v:V} {vs:List V} {d:PyData} {ds:List PyData}:Dat K H k v d->Dats K H k vs ds->Dats K H k (v::vs) (d::ds)
end
section
open PySem.SeqAt PyProof.V
variable {K:PySem.W.Frag}{H:Hp}
mutual
theorem Dat.can:∀{k:Nat} {v:V} {d:PyData},Dat K H k v d->d.canLay0=true/\d.depth<=k/\noMix d d=true
  | _,_,_,.int n=>by simp[PyData.canLay0,PyData.depth,noMix]
  | _,_,_,.tup h t=>by
    have:=Dats.can t
    simp only[PyData.canLay0,PyData.depth,noMix]
    exact⟨this.1,by omega,this.2.2⟩
  | _,_,_,.lst h t=>by
    have:=Dats.can t
    simp only[PyData.canLay0,PyData.depth,noMix]
    exact⟨this.1,by omega,this.2.2⟩
theorem Dats.can:∀{k:Nat} {vs:List V} {ds:List PyData},Dats K H k vs ds->PyData.canLayAll0 ds=true/\PyData.depthAll ds<=k/\noMixAll ds ds=true
  | _,_,_,.nil=>by simp[PyData.canLayAll0,PyData.depthAll,noMixAll]
  | _,_,_,.cons h t=>by
    have h1:=Dat.can h
    have h2:=Dats.can t
    simp only[PyData.canLayAll0,PyData.depthAll,noMixAll,Bool.and_eq_true]
    exact⟨⟨h1.1,h2.1⟩,by omega,h1.2.2,h2.2.2⟩
end
theorem Dat.shaped {k:Nat}{v:V}{d:PyData}(h:Dat K H k v d)(hk:k<=64):PySem.SeqAt.shaped d=true:=by
  have:=h.can
  show (PyData.canLay0 d && decide (PyData.depth d<=64))=true
  rw[Bool.and_eq_true]
  exact⟨this.1,decide_eq_true (by omega)⟩
end
section
open PySem.SeqAt PyProof.V
variable {X:Cx}{pins:List (Addr×Obj)}{σ:St}{H:Hp}{s:Shared}
mutual
theorem Inv.dat {K:PySem.W.Frag}(hK:X.K=K)(I:Inv X pins σ H s):∀{k:Nat} {v:V} {d:PyData},Dat K H k v d->∀u,RelV v u->∃as,Reads s.heap u d as
  | _,_,_,.int n,_,r=>by
    obtain⟨t,rfl⟩:=(show ∃t,_=Value.int n t from r)
    exact⟨_,Reads.int n t⟩
  | _,_,_,.tup h t,_,r=>by
    cases r
    obtain⟨its,rv,p,_⟩:=I.tuple (hK▸h)
    obtain⟨o,ho,hc,n,hd⟩:=p
    obtain⟨as,ra⟩:=Inv.dats hK I t _ rv
    exact⟨_,Reads.tuple ho hc hd (by simpa using ra)⟩
  | _,_,_,.lst h t,_,r=>by
    cases r
    obtain⟨its,rv,pl,_⟩:=I.list (hK▸h)
    obtain⟨o,ho,hc,n,hd⟩:=pl.isList
    obtain⟨as,ra⟩:=Inv.dats hK I t _ rv
    exact⟨_,Reads.list ho hc hd (by simpa using ra)⟩
theorem Inv.dats {K:PySem.W.Frag}(hK:X.K=K)(I:Inv X pins σ H s):∀{k:Nat} {vs:List V} {ds:List PyData},Dats K H k vs ds->∀us,Vals vs us->∃as,ReadsAll s.heap us ds as
  | _,_,_,.nil,_,.nil=>⟨_,.nil⟩
  | _,_,_,.cons p q,_,.cons r t=>by
    obtain⟨as,h1⟩:=Inv.dat hK I p _ r
    obtain⟨bs,h2⟩:=Inv.dats hK I q _ t
    exact⟨_,.cons h1 h2⟩
end
def xn (K:PySem.W.Frag)(neg:Bool):R2:=fun x y H Q=>∃d,Dat K H 8 x d/\Dat K H 8 y d/\Q (.bl (!neg)) H
theorem tE (hu:X.A.units+64<cLine):OpR X (compareOp .NotEq) (xn X.K true):=by
  intro pins s σ H x y v u Q I rx ry h
  obtain⟨d,h1,h2,q⟩:=h
  obtain⟨as,r1⟩:=I.dat rfl h1 _ rx
  obtain⟨bs,r2⟩:=I.dat rfl h2 _ ry
  refine ne_dataH_same r1 r2 (h1.shaped (by decide)) (h1.shaped (by decide)) hu h1.can.2.2 (bq I q ?_)
  rw[same_self]
  all_goals rfl
end
section
variable {K:PySem.W.Frag}{H:Hp}
theorem kR:∀{k:Nat} (ns:List Int),Dats K H k (ns.map V.int) (ns.map PyData.int)
  | _,[]=>.nil
  | _,n::ns=>.cons (.int n) (kR ns)
theorem TupT.dat {v:V}{ns:List Int}{k:Nat}(h:TupT H v ns):Dat K H (k+1) v (.tuple (ns.map PyData.int)):=by
  obtain⟨a,rfl,h⟩:=h
  exact .tup (SqT.of h) (kR ns)
theorem TupsT.dats:∀{vs:List V} {nss:List (List Int)} {k:Nat},TupsT H vs nss->Dats K H (k+1) vs (nss.map fun ns=>.tuple (ns.map PyData.int))
  | _,_,_,.nil=>.nil
  | _,_,_,.cons h t=>.cons h.dat (TupsT.dats t)
theorem qq {α:Type}{F:V->α->Prop}{g:α->PyData}{k:Nat}(hF:∀v x,F v x->Dat K H k v (g x)):∀{as:List Addr} {xs:List α},Paired (fun a x=>F (.ref a) x) as xs->Dats K H k (as.map V.ref) (xs.map g)
  | _,_,.nil=>.nil
  | _,_,.cons h t=>.cons (hF _ _ h) (qq hF t)
def dP (p:Pt3):PyData:=.tuple [.int p.x,.int p.y,.int p.z]
theorem AtP.dat {v:V}{p:Pt3}{k:Nat}(h:AtP H v p):Dat K H (k+1) v (dP p):=TupT.dat h
theorem sJ {σ:St}{ta tb:TE}{x y:V}{d:PyData}(ha:Pu ta σ H x)(hb:Pu tb σ H y)(h1:Dat K H 8 x d)(h2:Dat K H 8 y d):Pu (tOp (xn K true) ta tb) σ H (.bl false):=fun _ q=>ha _ (hb _ ⟨d,h1,h2,q⟩)
end
theorem sV (its:List Value):slicePick its.toArray none none (some (-1))=its.reverse.toArray:=by
  unfold slicePick
  congr 1
  have b1:(sliceBounds none none (some (-1)) its.toArray.size).1=(its.length:Int) - 1:=by
    simp only[sliceBounds,Option.getD_some,show ¬((-1:Int) > 0) by decide,if_false,List.size_toArray]
  have b2:(sliceBounds none none (some (-1)) its.toArray.size).2.1 = -1:=by
    simp only[sliceBounds,Option.getD_some,show ¬((-1:Int) > 0) by decide,if_false,List.size_toArray]
  have b3:(sliceBounds none none (some (-1)) its.toArray.size).2.2 = -1:=rfl
  rw[b1,b2,b3]
  have e:sliceRange ((its.length:Int) - 1) (-1) (-1)=(List.range its.length).map (fun j=>its.length - 1 - j):=by
    unfold sliceRange
    simp only[show ¬((-1:Int) > 0) by decide,if_false]
    by_cases h:0<its.length
    · rw[if_pos (by omega)]
      have c:(((its.length:Int) - 1 - -1 - -1 - 1) / (- -1)).toNat=its.length:=by
        rw[show (- -1:Int)=1 from rfl,Int.ediv_one]
        omega
      rw[c]
      refine List.map_congr_left fun j hj=>?_
      have:=List.mem_range.mp hj
      omega
    · rw[if_neg (by omega)]
      have:its.length=0:=by omega
      rw[this];rfl
  rw[e]
  apply List.ext_getElem?
  intro i
  have key:∀(n:Nat),n<=its.length->((List.range n).map fun j=>its.length - 1 - j).filterMap (fun (i:Nat)=>its.toArray[i]?)=(its.reverse).take n:=by
    intro n
    induction n with
    | zero=>intro _;rfl
    | succ n ih=>
      intro hn
      rw[List.range_succ,List.map_append,List.filterMap_append,ih (by omega),List.take_succ]
      congr 1
      simp only[List.map_cons,List.map_nil,List.filterMap_cons,List.filterMap_nil]
      rw[List.getElem?_reverse (by omega)]
      simp only[List.getElem?_toArray]
      cases its[its.length - 1 - n]? <;> rfl
  have:=key its.length (Nat.le_refl _)
  rw[←List.length_reverse,List.take_length] at this
  rw[List.length_reverse] at this
  rw[←this]
section
variable {X:Cx}{e:Expr}{te:TE}{lo hi:Option Expr}{tl th ts:TO}{pos p2:Pos}
def xj (K:PySem.W.Frag):V->Option Int->Option Int->Option Int->Hp->VK->Prop:=fun x lo hi g H Q=>
  ∃a xs,x=.ref a/\lo=none/\hi=none/\g=some (-1)/\SqL K H a xs/\∀p,H p=none->Q (.ref p) (upd H p (.lst xs.reverse))
theorem ky {g:Expr}(he:PE X e te)(hl:PO X lo tl)(hu:PO X hi th)(hg:PO X (some g) ts):PE X (.Subscript e (.Slice lo hi (some g) p2) pos) (rW (xj X.K) te tl th ts):=by
  intro pins s σ H Q I h
  refine Subscript_ (thn (he pins s σ H _ I h) fun v s1 ⟨x,H1,I1,r1,q1⟩=>?_)
  refine wpAny_Slice (thn (hl pins s1 σ H1 _ I1 q1) fun vl s2 ⟨l,H2,I2,pl,q2⟩=>thn (hu pins s2 σ H2 _ I2 q2) fun vu s3 ⟨u,H3,I3,pu,q3⟩=>thn (hg pins s3 σ H3 _ I3 q3) fun vg s4 ⟨g',H4,I4,pg,q4⟩=>?_)
  have I5:Inv X pins σ H4 { s4 with heap:=s4.heap.push { cls:=.type "slice",data:=.fields #[vl,vu,vg] } }:=I4.kept (t':=s4.toks) fun b ob q=>Heap.get?_push_of_some _ q
  obtain⟨a,xs,rfl,rfl,rfl,rfl,hx,q⟩:=q4
  cases r1
  obtain⟨its,r,ht,hz⟩:=I5.list hx
  have hlen:=r.length
  refine tail_any (ops:=[.ref a,.ref s4.heap.objs.size]) ht.isList.typeIs slot_list_getitem.lookup ?_ (by with_unfolding_all rfl)
  refine wpAny_getItem_list_slice ht.isList (Heap.IsSliceOf.new ..) pl pu pg (by simp) ?_ (by rw[List.size_toArray] <;> omega)
  rw[sV its]
  refine⟨.ref _,_,I5.laid (t':=s4.toks) (o:=.lst xs.reverse) (fun b ob q=>Heap.get?_push_of_some _ q) (Nat.le_refl _) ?_,rfl,q _ (I5.hok.fresh (Nat.le_refl _))⟩
  refine⟨?_,_,0,r.reverse,Heap.get?_push_size _ rfl⟩
  rw[List.length_reverse]
  omega
end
section
variable {σ:St}{H:Hp}{D:Ends}{rest:TS}{K:PySem.W.Frag}{to:TE}{a:Addr}{xs:List V}
theorem um (ho:Pu to σ H (.ref a))(ha:H a=some (.lst xs)):Gv (rW (xj K) to eG eG (iL (tUn (rU fun i=>.int (-i)) (tC (.int 1))))) σ H (fun v H'=>∃p,H p=none/\v=.ref p/\H'=upd H p (.lst xs.reverse)):=
  fun Q q=>ho _ ⟨1,rfl,-1,rfl,a,xs,rfl,rfl,rfl,rfl,SqL.of ha,fun p hp=>q _ _ ⟨p,hp,rfl,rfl⟩⟩
theorem my (ho:Pu to σ H (.ref a))(ha:H a=some (.lst xs))(q:rest D σ (upd H a (.lst []))):dQ (fM (xc K "list" sG to)) rest D σ H:=
  ho _ ⟨.inl ⟨rfl,_,SqL.of ha⟩,a,xs,rfl,rfl,ha,q⟩
end
end L2
namespace L2
theorem vL {A B C M X Y:Int}{r:Pt3}(i:Is3 A B C r)(hC:C≠0)(hx:M*A=C*X)(hy:M*B=C*Y):r.z ∣ M:=by
  obtain⟨d,d0,e1,e2,e3⟩:=i.ex
  have hd:d≠0:=by omega
  have k1:M*r.x=r.z*X:=by
    rw[e1,e3] at hx
    have:d*(M*r.x)=d*(r.z*X):=by rw[←Int.mul_assoc d r.z X,←hx,Int.mul_left_comm]
    exact Int.eq_of_mul_eq_mul_left hd this
  have k2:M*r.y=r.z*Y:=by
    rw[e2,e3] at hy
    have:d*(M*r.y)=d*(r.z*Y):=by rw[←Int.mul_assoc d r.z Y,←hy,Int.mul_left_comm]
    exact Int.eq_of_mul_eq_mul_left hd this
  have c:Nat.gcd (Nat.gcd r.z.natAbs r.x.natAbs) r.y.natAbs=1:=i.cop
  have n1:r.z.natAbs ∣ M.natAbs*r.x.natAbs:=by rw[←Int.natAbs_mul,k1,Int.natAbs_mul];exact Nat.dvd_mul_right _ _
  have n2:r.z.natAbs ∣ M.natAbs*r.y.natAbs:=by rw[←Int.natAbs_mul,k2,Int.natAbs_mul];exact Nat.dvd_mul_right _ _
  have n3:r.z.natAbs ∣ M.natAbs*Nat.gcd r.z.natAbs r.x.natAbs:=by
    rw[←Nat.gcd_mul_left]
    exact Nat.dvd_gcd (Nat.dvd_mul_left _ _) n1
  have n4:r.z.natAbs ∣ M.natAbs*Nat.gcd (Nat.gcd r.z.natAbs r.x.natAbs) r.y.natAbs:=by
    rw[←Nat.gcd_mul_left]
    exact Nat.dvd_gcd n3 n2
  rw[c,Nat.mul_one] at n4
  exact Int.natAbs_dvd_natAbs.mp n4
theorem pZ {A B C:Int}{r:Pt3}{m:Nat}(i:Is3 A B C r)(ha:A.natAbs<=m*C.natAbs)(hb:B.natAbs<=m*C.natAbs):r.x.natAbs<=m*r.z.natAbs/\r.y.natAbs<=m*r.z.natAbs:=by
  obtain⟨d,d0,e1,e2,e3⟩:=i.ex
  have hd:0<d.natAbs:=by omega
  rw[e1,e3,Int.natAbs_mul,Int.natAbs_mul,Nat.mul_left_comm] at ha
  rw[e2,e3,Int.natAbs_mul,Int.natAbs_mul,Nat.mul_left_comm] at hb
  exact⟨Nat.le_of_mul_le_mul_left ha hd,Nat.le_of_mul_le_mul_left hb hd⟩
theorem tL {a b c d:Int}{m:Nat}(h1:a.natAbs<=m*b.natAbs)(h2:c.natAbs<=m*d.natAbs):(a*d+c*b).natAbs<=m*(2*b*d).natAbs:=by
  have e1:(a*d).natAbs<=m*(b.natAbs*d.natAbs):=by
    rw[Int.natAbs_mul,←Nat.mul_assoc]
    exact Nat.mul_le_mul_right _ h1
  have e2:(c*b).natAbs<=m*(b.natAbs*d.natAbs):=by
    rw[Int.natAbs_mul,Nat.mul_comm b.natAbs,←Nat.mul_assoc]
    exact Nat.mul_le_mul_right _ h2
  have e3:(2*b*d).natAbs=2*(b.natAbs*d.natAbs):=by
    rw[Int.natAbs_mul,Int.natAbs_mul,Nat.mul_assoc];rfl
  rw[e3,Nat.mul_left_comm]
  revert e1 e2
  generalize m*(b.natAbs*d.natAbs)=z
  intro e1 e2
  omega
end L2
namespace L2
open PySem PySem.Spec PyProof.Rows
section
variable {σ:St}{H:Hp}{te tl:TE}{fr:St->St}{k:Nat}{K:PySem.W.Frag}{D:Ends}{rest:TS}
theorem LP.at {a:Addr}{ps:List Pt3}{i:Nat}{p:Pt3}(h:LP H a ps)(e:ps[i]?=some p):∃xs v,H a=some (.lst xs)/\xs.length=ps.length/\xs[i]?=some v/\AtP H v p:=by
  obtain⟨xs,h1,tx⟩:=h
  obtain⟨v,hv,tv⟩:=tx.get (i:=i) (ns:=L3 p) (by rw[List.getElem?_map,e];rfl)
  exact⟨xs,v,h1,by rw[tx.len,List.length_map],hv,tv⟩
end
def Same2 (a b:Addr)(H H':Hp):Prop:=∀c o,H c=some o->c≠a->c≠b->H' c=some o
section
variable {H H1 H2:Hp}{a b c l:Addr}
theorem Same2.trans (h:Same2 a b H H1)(g:Same2 a b H1 H2):Same2 a b H H2:=fun c o e n m=>g c o (h c o e n m) n m
theorem SameB.two (h:SameB a H H1):Same2 a b H H1:=fun c o e n _=>h c o e n
theorem Same.two (h:Same H H1):Same2 a b H H1:=fun c o e _ _=>h c o e
theorem Same2.at {o:HO}(h:Same2 a b H H1):Same2 a b H (upd H1 b o):=fun c u e n1 n2=>by
  rw[aF n2];exact h c u e n1 n2
theorem LP.snoc {ps:List Pt3}{v:V}{p:Pt3}(h:LP H l ps)(t:AtP H v p):∃ys,H l=some (.lst ys)/\ys.length=ps.length/\LP (upd H l (.lst (ys++[v]))) l (ps++[p]):=by
  obtain⟨ys,h,ty⟩:=h
  refine⟨ys,h,by rw[ty.len,List.length_map],_,ak,?_⟩
  rw[List.map_append]
  exact (ty.snoc t).lstUpd h
theorem LP.ls {ps:List Pt3}(h:LP H l ps):∃ys,H l=some (.lst ys)/\ys.length=ps.length:=by
  obtain⟨ys,h,ty⟩:=h
  exact⟨ys,h,by rw[ty.len,List.length_map]⟩
theorem LP.get {ps:List Pt3}{ys:List V}{i:Nat}{p:Pt3}(h:LP H l ps)(hl:H l=some (.lst ys))(e:ps[i]?=some p):∃v,ys[i]?=some v/\AtP H v p:=by
  obtain⟨zs,h,tz⟩:=h
  rw[h] at hl
  cases hl
  obtain⟨v,hv,tv⟩:=tz.get (i:=i) (ns:=L3 p) (by rw[List.getElem?_map,e];rfl)
  exact⟨v,hv,tv⟩
end
theorem TupsT.reverse {H:Hp}:∀{vs:List V} {nss:List (List Int)},TupsT H vs nss->TupsT H vs.reverse nss.reverse
  | _,_,.nil=>.nil
  | _,_,.cons h t=>by
    rw [List.reverse_cons, List.reverse_cons]
    exact TupsT.snoc (TupsT.reverse t) h
end L2
namespace L2
open PySem PySem.StrLaws PySem.Builtin PySem.Builtin.Str PyProof.Rows
namespace Wi
end Wi
end L2
namespace L2
open PySem PySem.StrLaws PySem.Builtin PySem.Builtin.Str PyProof.Rows
namespace Pa
end Pa
namespace Wi
end Wi
end L2
namespace L2
open PySem PySem.Spec PyProof.Rows
section
variable {κ:Type}[DecidableEq κ]
def i6 (kvs:List (κ×V))(k:κ):Option V:=(kvs.find? fun kv=>decide (kv.1=k)).map (·.2)
theorem jn {p:κ×V}{r:List (κ×V)}{k:κ}(e:p.1=k):i6 (p::r) k=some p.2:=by simp[i6,List.find?_cons,e]
theorem jo {p:κ×V}{r:List (κ×V)}{k:κ}(e:¬p.1=k):i6 (p::r) k=i6 r k:=by simp[i6,List.find?_cons,e]
theorem KV.val {kvs:List (κ×V)}{vs:List (κ×Value)}(r:KV kvs vs)(k:κ):RelO (i6 kvs k) (valueAt vs k):=by
  unfold KV at r
  induction r with
  | nil=>exact True.intro
  | @cons p q ps qs h t ih=>
    obtain⟨h1,h2⟩:=h
    by_cases e:p.1=k
    · have e':q.1=k:=h1.symm.trans e
      have b:valueAt (q::qs) k=some q.2:=by simp[valueAt,List.find?_cons,e']
      rw[jn e,b];exact h2
    · have e':¬q.1=k:=fun z=>e (h1.trans z)
      have b:valueAt (q::qs) k=valueAt qs k:=by simp[valueAt,List.find?_cons,e']
      rw[jo e,b];exact ih
end
theorem v3 {P:Program}{w:World}{k:Key}{u:Value}(r:RelV (kV k) u):(cF P w).is k u=true:=by
  cases k with
  | inl i=>obtain⟨t,e⟩:=(show ∃t,u=Value.int i t from r);subst e;exact nc P w i t
  | inr x=>obtain⟨t,e⟩:=(show ∃t,u=Value.str x t from r);subst e;exact m9 P w x t
theorem kL {P:Program}{w:World}:∀{ks:List Key} {us:List Value},Vals (ks.map kV) us->ItemsAre (cF P w) ks us
  | [],_,r=>by rw[List.map_nil] at r;cases r;exact .nil
  | k::ks,_,r=>by
    rw[List.map_cons] at r
    cases r with
    | cons h t=>exact .cons (v3 h) (kL t)
abbrev KT (H:Hp):List (List Key×V)->List (List Key×Addr×Value)->Prop:=Paired fun p q=>p.1=q.1/\H q.2.1=some (.tup (p.1.map kV))/\RelV p.2 q.2.2
theorem KT.val {H:Hp}{kvs:List (List Key×V)}{xs:List (List Key×Addr×Value)}(r:KT H kvs xs)(k:List Key):RelO (i6 kvs k) ((atKey xs k).map (·.2)):=by
  induction r with
  | nil=>exact True.intro
  | @cons p q ps qs h t ih=>
    obtain⟨h1,_,h2⟩:=h
    by_cases e:p.1=k
    · have e':q.1=k:=h1.symm.trans e
      have b:atKey (q::qs) k=some q.2:=by simp[atKey,List.find?_cons,e']
      rw[jn e,b];exact h2
    · have e':¬q.1=k:=fun z=>e (h1.trans z)
      have b:atKey (q::qs) k=atKey qs k:=by simp[atKey,List.find?_cons,e']
      rw[jo e,b];exact ih
section
variable {P:Program}{w:World}{H:Hp}{h:Heap}{a:Addr}
theorem vV {u:HO}(ok:HOk P w H h)(e:Rd H a u):ObjOk P w H h a u:=e.ok ok
theorem wc {kvs:List (Key×V)}(ok:HOk P w H h)(e:Rd H a (.dK kvs)):kvs.length<=sizeLine/\(a == sysModules)=false/\∃vs,KV kvs vs/\h.DictOf (cF P w) a vs:=
  show ObjOk P w H h a (.dK kvs) from vV ok e
theorem oO {ks:List Key}(ok:HOk P w H h)(e:H a=some (.tup (ks.map kV))):(tupleKind (cF P w)).is h ks a:=by
  obtain⟨_,its,r,o,h1,h2,n,h3⟩:=(show ObjOk P w H h a (.tup (ks.map kV)) from ok a _ e)
  exact⟨o,its.toArray,n,h1,h2,h3,by simpa using kL r⟩
theorem wb {kvs:List (List Key×V)}(ok:HOk P w H h)(e:Rd H a (.dT kvs)):kvs.length<=sizeLine/\(a == sysModules)=false/\
    ∃xs,KT H kvs xs/\h.DictOfH (tupleKind (cF P w)) a xs:=by
  obtain⟨z,y,xs,r,o,es,ep,h1,h2,h3,h4,h5⟩:=(show ObjOk P w H h a (.dT kvs) from vV ok e)
  refine⟨z,y,xs,r,o,es,ep,h1,h2,h3,h4,fun x hx=>?_,h5⟩
  have all:∀{l:List (List Key×V)} {m:List (List Key×Addr×Value)},KT H l m->∀x∈m,(tupleKind (cF P w)).is h x.1 x.2.1:=by
    intro l m q
    induction q with
    | nil=>intro x hx;exact nomatch hx
    | @cons p q ps qs hq t ih=>
      intro x hx
      rcases List.mem_cons.mp hx with e|hx
      · subst e
        exact oO ok (by rw[←hq.1];exact hq.2.1)
      · exact ih x hx
  exact all r x hx
end
def DGet (H:Hp)(a:Addr)(y:V)(r:Option V):Prop:=
  (∃kvs k,Rd H a (.dK kvs)/\y=kV k/\r=i6 kvs k)∨∃kvs k b,Rd H a (.dT kvs)/\y=.ref b/\H b=some (.tup (k.map kV))/\r=i6 kvs k
theorem DGet.t {H:Hp}{a b:Addr}{kvs:List (List Key×V)}{k:List Key}(e:H a=some (.dT kvs))(eb:H b=some (.tup (k.map kV))):DGet H a (.ref b) (i6 kvs k):=.inr ⟨kvs,k,b,.inl e,rfl,eb,rfl⟩
section
variable {X:Cx}{pins:List (Addr×Obj)}{σ:St}{H:Hp}{s:Shared}{a:Addr}{y v:V}{u r:Value}{o:Option V}{A:Around}{E:Value->Shared->Prop}
theorem rH {Q:Value->Shared->Prop}(hu:A.units+1<cLine)(I:Inv X pins σ H s)(g:DGet H a y (some v))(ry:RelV y u)(h:∀w' s',Inv X pins σ H s'->RelV v w'->Q w' s') :
    wpAny (model X.prog X.w) A (getItem (.ref a) u) Q E s:=by
  rcases g with⟨kvs,k,e,ey,l⟩|⟨kvs,k,b,e,ey,eb,l⟩
  · subst ey
    obtain⟨z,hd,vs,rel,dd⟩:=wc I.hok e
    obtain⟨w',hw,rw'⟩:=RelO.some_of (v:=v) (o:=valueAt vs k) (by rw[l];exact rel.val k)
    exact wpAny_getItem_of (v3 ry) dd.mapOf hw (h w' _ (I.tok _) rw')
  · subst ey
    cases (show u=Value.ref b from ry)
    obtain⟨z,hd,xs,rel,dd⟩:=wb I.hok e
    obtain⟨w',hw,rw'⟩:=RelO.some_of (v:=v) (o:=(atKey xs k).map (·.2)) (by rw[l];exact rel.val k)
    obtain⟨p,hp,hp2⟩:=Option.map_eq_some_iff.mp hw
    refine wpAny_getItem_heap (tupleKind_room_in1 hu) (oO I.hok eb) dd hp ?_
    rw[hp2]
    exact h w' _ (I.tok _) rw'
end
def xA (i:Expr):Prop:=∀ov iv,subscripted i false ov iv=operate [ov,iv] (getItem ov iv)
theorem uP {prog:Program}{w:World}{A:Around}{E:Value->Shared->Prop}{s:Shared}{env:Env}{value slice:Expr}{pos:Pos}{T id:String}{Q:Value->Shared->Prop}
    (hl:typeLookup (.type T) "__getitem__" = pure (some (.builtin id))) (hs:xA slice)
    (h:wpAny (model prog w) A (eval value env) (fun o s₁=>wpAny (model prog w) A (eval slice env) (fun i s₂=>s₂.TypeIs o T/\wpAny (model prog w) A (getItem o i) Q E s₂) E s₁) E s) :
    wpAny (model prog w) A (eval (.Subscript value slice pos) env) Q E s:=by
  refine Subscript_ (wpAny_mono h (fun o s₁ h₁=>wpAny_mono h₁ (fun i s₂ h₂=>?_) fun _ _ x=>x) fun _ _ x=>x)
  obtain⟨hT,h₂⟩:=h₂
  unfold subscriptTail
  refine wpAny_bind ?_
  rw[getitemInPython_of_ne hT.not_modules]
  refine wpAny_bind (wpAny_specialOf hT hl ?_)
  have fin:wpAny (model prog w) A (subscripted slice false o i) (fun r s₃=>wpAny (model prog w) A (letTemporaryGo value o r >>= fun _=>pure r) Q E s₃) E s₂:=by
    rw[hs o i]
    exact wpAny_operating (wpAny_mono h₂ (fun r s₃ h₃=>wpAny_bind (wpAny_letTemporaryGo (wpAny_pure h₃))) fun _ _ x=>x)
  first
    | exact wpAny_pure (wpAny_bind fin)
    | exact wpAny_bind (wpAny_pure (wpAny_bind fin))
    | exact wpAny_bind fin
theorem nH {X:Cx}{pins:List (Addr×Obj)}{σ:St}{H:Hp}{s:Shared}{a:Addr}{y:V}{o:Option V}(I:Inv X pins σ H s)(g:DGet H a y o):s.TypeIs (.ref a) "dict":=by
  rcases g with⟨kvs,k,e,_,_⟩|⟨kvs,k,b,e,_,_,_⟩
  · obtain⟨_,_,vs,_,dd⟩:=wc I.hok e
    exact dd.typeIs
  · obtain⟨_,_,xs,_,dd⟩:=wb I.hok e
    exact dd.typeIs
def pE (td ty:TE):TE:=fun σ H Q=>td σ H fun x H1=>ty σ H1 fun y H2=>∃a v,x=.ref a/\DGet H2 a y (some v)/\Q v H2
section
variable {X:Cx}{o i e value:Expr}{pos pos' tpos:Pos}{td ty tv:TE}
theorem jg (hu:X.A.units+1<cLine)(ho:PE X o td)(hi:PE X i ty)(hs:xA i):PE X (.Subscript o i pos) (pE td ty):=by
  intro pins s σ H Q I h
  refine uP PySem.F.slot_dict_getitem.lookup hs (thn (ho pins s σ H _ I h) fun u s1 ⟨x,H1,I1,rx,q1⟩=>thn (hi pins s1 σ H1 _ I1 q1) fun iv s2 ⟨y,H2,I2,ry,a,v,ex,g,q2⟩=>?_)
  subst ex
  obtain rfl:u=Value.ref a:=rx
  exact⟨nH I2 g,rH hu I2 g ry fun w' s3 I3 rw'=>⟨v,H2,I3,rw',q2⟩⟩
end
def nZ (wi:TI)(fr:St->St)(g:TG)(tc:TT)(te:TE):TE:=fun σ H Q=>wi σ H fun J H1=>∀D,H1 D=none->∃W:Nat->Nat->List V->Hp->Prop,(∃m,W 0 m [] (upd H1 D (.lst [])))/\
  ∀i m ys H2,W i m ys H2->(J.stop i H2/\Q (.ref D) H2)∨(J.go i H2/\ys.length<sizeLine/\∀x H3,J.yld i H2 x H3->g x (fr σ) H3 fun σ2 H3'=>KeepS (fr σ) σ2/\tc σ2 H3' fun b H4=>
    match b with
    | false=>∃m',m'<m/\W (i+1) m' ys H4
    | true=>te σ2 H4 fun y H5=>H5 D=some (.lst ys)/\∃m',m'<m/\W (i+1) m' (ys++[y]) (upd H5 D (.lst (ys++[y]))))
section
variable {X:Cx}
theorem qU {tg elt iter cnd:Expr}{scope:Scope}{cl:List (Str×Addr)}{pos:Pos}{N':List Str}{wi:TI}{fr:St->St}{g:TG}{te:TE}{tc:TT}
    (hc:X.calm=true) (hi:PI X tg iter wi)
    (hg:∀C fp s0 H0,PG (blk X N' scope cl C fp s0 H0) tg g) (hq:∀C fp s0 H0,PT (blk X N' scope cl C fp s0 H0) cnd tc) (he:∀C fp s0 H0,PE (blk X N' scope cl C fp s0 H0) elt te)
    (hclos:closureFor scope X.env=pure cl) (hkind:scope.kind=.function) (hnames:∀x∈scope.names,x.2=.local->scope.names.lookup x.1=some .local) (hcell:∀y∈scope.names,y.2≠.cell)
    (hcl:∀y c,cl.lookup y=some c->X.env.cells.lookup y=some c) (hhas:∀y,((relabel scope X.env).names.lookup y=some .cell∨(relabel scope X.env).names.lookup y=some .free)->∃c,cl.lookup y=some c)
    (hfl:∀σ:St,σ.length=X.N.length->(fr σ).length=N'.length)
    (hfr:∀(σ:St) (i:Nat) (y:Str) (v:V),N'[i]?=some y->(fr σ)[i]?=some (some v)->∃j:Nat,X.N[j]?=some y/\σ[j]?=some (some v)/\X.env.kindOf y=some .cell/\(relabel scope X.env).names.lookup y=some .cell)
    (hs:∀x,foldedSetIterable iter X.env x=pure x:=by intro _;rfl) :
    PE X (.ListComp elt [⟨tg,iter,[cnd],0⟩] scope pos) (nZ wi fr g tc te):=by
  intro pins s σ H Q I h
  rw[eval_ListComp]
  refine wpAny_comprehension_free (use:=none) rfl hs hclos hkind hnames ?_
  refine thn (hi pins s σ H _ I h) fun v s1 h1=>thn h1 fun itv s2 h2=>?_
  obtain⟨it,fp,tn,J,H2,rfl,I2,T,st2,f2,q2⟩:=h2
  have D0:H2 s2.heap.objs.size=none:=I2.hok.fresh (Nat.le_refl _)
  obtain⟨W,⟨m0,w0⟩,turn⟩:=q2 _ D0
  refine wpAny_newObj_type (wpAny_newFunctionEnv hcell (by intro y hy; simp at hy) (fun h₁ hns₁ hsb₁ => ?_) hkind)
  dsimp only at hns₁ hsb₁ ⊢
  have I3:Inv X pins σ (upd H2 s2.heap.objs.size (.lst [])) { s2 with heap:=s2.heap.push { cls:=.type "list",dict:=none,data:=.seq ([]:List Value).toArray } }:=
    I2.laid (t':=s2.toks) (fun b u e=>Heap.get?_push_of_some _ e) (Nat.le_refl _) ⟨Nat.zero_le _,[],_,.nil,Heap.get?_push_size _ rfl⟩
  generalize hH3:upd H2 s2.heap.objs.size (.lst [])=H3 at I3 w0
  generalize hs3:({ s2 with heap:=s2.heap.push { cls:=.type "list",dict:=none,data:=.seq ([]:List Value).toArray } }:Shared)=s3 at I3
  have eh:s3.heap=s2.heap.push { cls:=.type "list",dict:=none,data:=.seq ([]:List Value).toArray }:=by rw[←hs3]
  have fl:∀b∈fp,b<s2.heap.objs.size:=fun b hb=>by
    obtain⟨o,e,_⟩:=T.obj 0 _ st2 b hb
    exact Heap.lt_size e
  have fn:∀b∈fp,H3 b=none:=fun b hb=>by
    rw[←hH3,aF (Nat.ne_of_lt (fl b hb))];exact (f2 b hb).1
  have f3:∀b∈fp,eF X pins H3 b:=fun b hb=>⟨fn b hb,(f2 b hb).2⟩
  have old:∀b u,s3.heap.get? b=some u->h₁.get? b=some u:=fun b u e=>by
    refine hsb₁.extBut b u ?_ (Heap.get?_push_of_some _ (by rw[←eh];exact e))
    have:=Heap.lt_size e
    rw[eh] at this
    exact Nat.ne_of_lt this
  have up:∀b u,s2.heap.get? b=some u->s3.heap.get? b=some u:=fun b u e=>by rw[eh];exact Heap.get?_push_of_some _ e
  have ok:=o9 (N':=N') (scope:=scope) (cl:=cl) (fp:=fp) I3 hkind hcl hhas f3 fun b hb=>by rw[eh,Heap.size_push];exact Nat.lt_succ_of_lt (fl b hb)
  rw[←eh] at hns₁ ⊢
  have IB:Inv (blk X N' scope cl s3.heap.objs.size fp s3 H3) [] (fr σ) H3 { s3 with heap:=h₁,toks:=s2.toks+([]:List (Str×Value)).length }:=by
    refine⟨ok,rfl,I3.bare,Un.kept old,⟨_,hns₁,fun i y v e1 e2 e3=>?_⟩,fun x c e=>?_,I3.hok.fresh (Nat.le_refl _),fun x c e=>I3.freeC x c (hcl x c e),fun p hp=>by simp[blk] at hp,I3.hok.kept old,hfl σ I3.len⟩
    · obtain⟨j,n1,n2,n3,n4⟩:=hfr σ i y v e1 e2
      obtain⟨m,_,hl⟩:=I3.loc
      obtain⟨u,r,l⟩:=hl j y v n1 n2 (.inr (.inl n3))
      refine⟨u,r,.inr ⟨.inl n4,?_⟩⟩
      rcases l with⟨k,_⟩|⟨_,c,e,ic⟩
      · rw[n3] at k;cases k
      · obtain⟨c',e'⟩:=hhas y (.inl n4)
        have e'':=hcl y c' e'
        rw[e] at e'';cases e''
        obtain⟨o,ho,hd⟩:=ic
        exact⟨c,e',o,old c o ho,hd⟩
    · obtain⟨v,o,ho,hd⟩:=I3.cell x c (hcl x c e)
      exact⟨v,o,old c o ho,hd⟩
  have stB:tn 0 h₁:=T.keep _ _ _ st2 fun b hb o e=>old b o (up b o e)
  have D2:s2.heap.objs.size<s3.heap.objs.size:=by rw[eh,Heap.size_push];exact Nat.lt_succ_self _
  have stat:∀{H':Hp},(∀b∈fp,H' b=none)->∀b∈fp,eF (blk X N' scope cl s3.heap.objs.size fp s3 H3) [] H' b:=fun hn b hb=>
    ⟨hn b hb,Nat.ne_of_lt (Nat.lt_trans (fl b hb) D2),ok.exfs b hb,.inl hb,fun x c e=>(ok.exf b hb).2 x c e,fun p hp=>by simp[blk] at hp⟩
  have loop:codeAny (model X.prog X.w) X.A (.compLoop (.ListComp elt [⟨tg,iter,[cnd],0⟩] scope pos) 0 (.ref it) (.ref s2.heap.objs.size) (compEnvC scope cl s3.heap.objs.size X.env))
      (compPost (model X.prog X.w) X.A X.xe none (EP X pins σ Q) (.ref s2.heap.objs.size) s3.heap.objs.size) { s3 with heap:=h₁,toks:=s2.toks+([]:List (Str×Value)).length }:=by
    refine codeAny_loop rfl (fun n s'=>∃i ys H',Inv (blk X N' scope cl s3.heap.objs.size fp s3 H3) [] (fr σ) H' s'/\tn i s'.heap/\(∀b∈fp,H' b=none)/\W i n ys H') ?_ m0 ⟨0,[],H3,IB,stB,fn,w0⟩
    rintro n s4 ⟨i,ys,H4,I4,st4,fr4,w4⟩
    show wpAny _ _ ((compTurn (.ListComp elt [⟨tg,iter,[cnd],0⟩] scope pos) 0 (.ref it) (.ref s2.heap.objs.size) (compEnvC scope cl s3.heap.objs.size X.env)).onRaise (fun x=>do noteFrame x (compEnvC scope cl s3.heap.objs.size X.env);theTreesLotGoes x)) _ _ s4
    refine wpAny_noted ?_
    rw[compTurn_list]
    refine wpAny_bind (wpAny_standAt (wpAny_bind ?_))
    rcases turn i n ys H4 w4 with⟨stop,qn⟩|⟨go,hz,step⟩
    · refine thn (T.done (blk X N' scope cl s3.heap.objs.size fp s3 H3) rfl rfl rfl hc i [] s4 (fr σ) H4 _ I4 (stat fr4) st4 stop) fun r s5 ⟨hr,I5⟩=>?_
      subst hr
      refine wpAny_pure ?_
      obtain⟨m,hn,_⟩:=I5.loc
      refine⟨m,hn,fun h' sb=>⟨.ref s2.heap.objs.size,H4,?_,rfl,qn⟩⟩
      have hb:∀b u,b≠s3.heap.objs.size->s5.heap.get? b=some u->h'.get? b=some u:=fun b u n e=>sb.extBut b u n e
      have hlt:∀b u,s3.heap.get? b=some u->b≠s3.heap.objs.size:=fun b u e=>Nat.ne_of_lt (Heap.lt_size e)
      have B:=I5.base
      refine I3.call' (s':={ s5 with heap:=h' }) (ch:=fp) I5.os ⟨fun b o e n1 n2 n3=>hb b o (hlt b o e) (B.keep b o e n1 n2 n3),fun b o e n1 n2 n3=>?_,B.free,fun b o e n1=>?_,B.tups,B.frzs,B.tbls⟩ (fun a o e=>?_) I5.bare (fun b hb'=>?_)
      · obtain⟨sl,z⟩:=B.slot b o e n1 n2 n3
        exact⟨sl,hb b _ (hlt b o e) z⟩
      · obtain⟨o',z⟩:=B.there b o e n1
        exact⟨o',hb b _ (hlt b o e) z⟩
      · have nC:∀c u,H4 c=some u->c≠s3.heap.objs.size:=fun c u z w=>by
          have:=I5.free
          rw[show (blk X N' scope cl s3.heap.objs.size fp s3 H3).env.locals=s3.heap.objs.size from rfl,←w,z] at this
          cases this
        refine (I5.hok a o e).stay (fun c u hcu q=>hb c u ?_ q) (fun _ q=>q) fun _ _ q=>q
        rcases hcu with z|z
        · rw[z];exact nC a o e
        · exact nC c _ z
      · exact⟨(f2 b hb').2.2.2.1,(f2 b hb').2.1,(f2 b hb').2.2.2.2.1,(f2 b hb').2.2.2.2.2⟩
    · refine thn (T.item (blk X N' scope cl s3.heap.objs.size fp s3 H3) rfl rfl rfl hc i [] s4 (fr σ) H4 _ I4 (stat fr4) st4 go) fun r s5 ⟨u,hr,h5⟩=>?_
      subst hr
      refine wpAny_bind (thn h5 fun _ s6 ⟨x,H6,I6,r6,y6,st6,fr6⟩=>?_)
      have I6':=I6.pinned (stat fr6) (T.obj _ _ st6)
      refine wpAny_bind (wpAny_mono (hg s3.heap.objs.size fp s3 H3 _ s6 (fr σ) H6 x u _ I6' r6 (step x H6 y6)) (fun _ s7 ⟨σ7,H7,I7,kp,q7⟩=>?_) fun _ _ z=>z.elim)
      refine wpAny_bind (wpAny_mono (wpAny_tests_one (wpAny_mono (hq s3.heap.objs.size fp s3 H3 _ s7 σ7 H7 _ I7 q7) (fun b s8 hb=>hb) fun _ _ z=>z.elim)) (fun b s8 hb=>?_) fun _ _ z=>z)
      obtain⟨H8,I8,q8⟩:=hb
      cases b with
      | false=>
        obtain⟨m',hm,w8⟩:=q8
        refine wpAny_pure ⟨rfl,m',hm,i+1,ys,H8,?_,?_,?_,w8⟩
        · exact I8.unpinned.weak (by rw[kp.1]) kp.2
        · exact T.keep _ _ _ st6 fun b hb o e=>(I8.pin (b,o) (List.mem_append_right _ (List.mem_append_right _ (cb hb e)))).1
        · intro b hb
          obtain⟨o,e,d⟩:=T.obj _ _ st6 b hb
          exact (I8.pin (b,o) (List.mem_append_right _ (List.mem_append_right _ (cb hb e)))).2.1
      | true=>
      refine wpAny_bind (wpAny_bind (wpAny_mono (he s3.heap.objs.size fp s3 H3 _ s8 σ7 H8 _ I8 q8) (fun v8 s8 ⟨y8,H8,I8,r8,hD,m',hm,w8⟩=>?_) fun _ _ z=>z.elim))
      have ap:=br (X:=blk X N' scope cl s3.heap.objs.size fp s3 H3) _ s8 σ7 H8 (.ref s2.heap.objs.size) [y8] (.ref s2.heap.objs.size) [v8] (fun _ H9=>W (i+1) m' (ys++[y8]) H9) I8 rfl (.cons r8 .nil) ⟨_,ys,y8,rfl,rfl,hD,hz,w8⟩
      refine wpAny_bind (wpAny_mono ap (fun _ s9 ⟨_,H9,I9,_,w9⟩=>wpAny_pure (wpAny_pure ⟨rfl,m',hm,i+1,ys++[y8],H9,?_,?_,?_,w9⟩)) fun _ _ z=>z.elim)
      · exact I9.unpinned.weak (by rw[kp.1]) kp.2
      · exact T.keep _ _ _ st6 fun b hb o e=>(I9.pin (b,o) (List.mem_append_right _ (List.mem_append_right _ (cb hb e)))).1
      · intro b hb
        obtain⟨o,e,d⟩:=T.obj _ _ st6 b hb
        exact (I9.pin (b,o) (List.mem_append_right _ (List.mem_append_right _ (cb hb e)))).2.1
  subst hs3
  exact codeAny_compStart_list loop (T.self X.A 0 _ _ _ stB loop)
end
section
variable {X:Cx}{scope:Scope}
inductive Caught (X:Cx) (scope:Scope):List (Str×Addr×Nat)->Prop
  | nil:Caught X scope []
  | cons {a:Str} {c:Addr} {j:Nat} {ks:List (Str×Addr×Nat)} (h:X.env.cells.lookup a=some c/\X.N[j]?=some a/\X.env.kindOf a=some .cell/\(relabel scope X.env).names.lookup a=some .cell) (t:Caught X scope ks):Caught X scope ((a,c,j)::ks)
theorem Caught.mem {ks:List (Str×Addr×Nat)}(h:Caught X scope ks):∀k∈ks,X.env.cells.lookup k.1=some k.2.1/\X.N[k.2.2]?=some k.1/\X.env.kindOf k.1=some .cell/\(relabel scope X.env).names.lookup k.1=some .cell:=by
  induction h with
  | nil=>intro k hk;cases hk
  | cons h t ih=>
    intro k hk
    rcases List.mem_cons.mp hk with rfl|hk
    · exact h
    · exact ih k hk
theorem tT {ks:List (Str×Addr×Nat)}{y:Str}{c:Addr}(h:(ks.map fun k=>(k.1,k.2.1)).lookup y=some c):∃k∈ks,k.1=y/\k.2.1=c:=by
  induction ks with
  | nil=>cases h
  | cons k ks ih=>
    rw[List.map_cons,List.lookup_cons] at h
    by_cases e:(y == k.1)=true
    · rw[e] at h
      cases h
      exact⟨k,by simp,(beq_iff_eq.mp e).symm,rfl⟩
    · rw[Bool.eq_false_iff.mpr e] at h
      obtain⟨k',hk,h1,h2⟩:=ih h
      exact⟨k',List.mem_cons_of_mem _ hk,h1,h2⟩
theorem tU {ks:List (Str×Addr×Nat)}{y:Str}(h:∃k∈ks,k.1=y):∃c,(ks.map fun k=>(k.1,k.2.1)).lookup y=some c:=by
  induction ks with
  | nil=>obtain⟨k,hk,_⟩:=h;cases hk
  | cons k ks ih=>
    rw[List.map_cons,List.lookup_cons]
    by_cases e:(y == k.1)=true
    · exact⟨k.2.1,by rw[e]⟩
    · rw[Bool.eq_false_iff.mpr e]
      refine ih ?_
      obtain⟨k',hk,h1⟩:=h
      rcases List.mem_cons.mp hk with rfl|hk
      · exact absurd (beq_iff_eq.mpr h1.symm) e
      · exact⟨k',hk,h1⟩
theorem jG {x:Str}{px:Pos}{elt iter cnd:Expr}{pos:Pos}{wi:TI}{te:TE}{tc:TT}(ks:List (Str×Addr×Nat))
    (hc:X.calm=true) (hi:PI X (.Name x px) iter wi)
    (hg:∀C fp s0 H0,PG (blk X (x::ks.map (·.1)) scope (ks.map fun k=>(k.1,k.2.1)) C fp s0 H0) (.Name x px) (bV 0))
    (hq:∀C fp s0 H0,PT (blk X (x::ks.map (·.1)) scope (ks.map fun k=>(k.1,k.2.1)) C fp s0 H0) cnd tc)
    (he:∀C fp s0 H0,PE (blk X (x::ks.map (·.1)) scope (ks.map fun k=>(k.1,k.2.1)) C fp s0 H0) elt te)
    (hclos:closureFor scope X.env=pure (ks.map fun k=>(k.1,k.2.1))) (hkind:scope.kind=.function) (hnames:∀x∈scope.names,x.2=.local->scope.names.lookup x.1=some .local) (hcell:∀y∈scope.names,y.2≠.cell)
    (hks:Caught X scope ks) (hall:((relabel scope X.env).names.all fun p=>(p.2 != .cell && p.2 != .free) || ks.any fun k=>p.1 == k.1)=true)
    (hs:∀x,foldedSetIterable iter X.env x=pure x:=by intro _;rfl) :
    PE X (.ListComp elt [⟨.Name x px,iter,[cnd],0⟩] scope pos) (nZ wi (fun σ=>none::ks.map fun k=>(σ[k.2.2]?).join) (bV 0) tc te):=by
  refine qU (N':=x::ks.map (·.1)) (cl:=ks.map fun k=>(k.1,k.2.1)) hc hi hg hq he hclos hkind hnames hcell (fun y' c' h=>?_) (fun y' h=>?_) (fun _ _=>by simp) (fun σ i y' v e1 e2=>?_) hs
  · obtain⟨k,hk,rfl,rfl⟩:=tT h
    exact (hks.mem k hk).1
  · rw[List.all_eq_true] at hall
    have key:∀k,(k=.cell∨k=.free)->(relabel scope X.env).names.lookup y'=some k->∃k∈ks,k.1=y':=fun k hk e=>by
      have:=hall _ (dF e)
      rw[Bool.or_eq_true] at this
      rcases this with z|z
      · rcases hk with rfl|rfl
        · simp at z
        · simp at z
      · rw[List.any_eq_true] at z
        obtain⟨k',hk',e'⟩:=z
        exact⟨k',hk',(beq_iff_eq.mp e').symm⟩
    refine tU ?_
    rcases h with h|h
    · exact key _ (.inl rfl) h
    · exact key _ (.inr rfl) h
  · have js:∀{j:Nat},(σ[j]?).join=some v->σ[j]?=some (some v):=fun {j} e=>by
      cases h:σ[j]? with
      | none=>rw[h] at e;cases e
      | some o=>rw[h] at e;have:o=some v:=e;rw[this]
    cases i with
    | zero=>cases e2
    | succ i=>
      rw[List.getElem?_cons_succ,List.getElem?_map] at e1 e2
      cases hk:ks[i]? with
      | none=>rw[hk] at e1;cases e1
      | some k=>
        rw[hk] at e1 e2
        have e1':k.1=y':=Option.some.inj e1
        have e2':(σ[k.2.2]?).join=some v:=Option.some.inj e2
        subst e1'
        have:=hks.mem k (List.mem_of_getElem? hk)
        exact⟨k.2.2,this.2.1,js e2',this.2.2.1,this.2.2.2⟩
end
end L2
namespace L2
open PySem PySem.Spec PyProof.Rows PySem.W
structure KO (α:Type) where
  lt:α->α->Bool
  asym:∀{a b:α},lt a b=true->lt b a=false
  trans:∀{a b c:α},lt b a=false->lt c b=false->lt c a=false
  anti:∀{a b:α},lt a b=false->lt b a=false->a=b
namespace KO
variable {α:Type}(O:KO α)
def le (a b:α):Prop:=O.lt b a=false
theorem le_refl (a:α):O.le a a:=by
  cases h:O.lt a a with
  | false=>exact h
  | true=>exact O.asym h
variable {O}
theorem le_trans {a b c:α}(h1:O.le a b)(h2:O.le b c):O.le a c:=O.trans h1 h2
theorem le_of_lt {a b:α}(h:O.lt a b=true):O.le a b:=O.asym h
theorem lt_of_lt_le {a b c:α}(h:O.lt a b=true)(h2:O.le b c):O.lt a c=true:=by
  cases e:O.lt a c with
  | true=>rfl
  | false=>
    have:=O.trans h2 e
    rw[h] at this
    cases this
end KO
def TAll {β:Type}(n:Nat)(lt:Nat->Nat->Bool):KasT β->(β->Prop)->Prop
  | .ret a,Q=>Q a
  | .ask i j k,Q=>i<n/\j<n/\TAll n lt (k (lt i j)) Q
theorem TAll.bind {β γ:Type}{n:Nat}{lt:Nat->Nat->Bool}{f:β->KasT γ}{Q:γ->Prop}:∀{t:KasT β},TAll n lt t (fun a=>TAll n lt (f a) Q)->TAll n lt (t.bind f) Q
  | .ret _,h=>h
  | .ask _ _ _,⟨h1,h2,h3⟩=>⟨h1,h2,TAll.bind h3⟩
theorem TAll.run {β:Type}{n:Nat}{lt:Nat->Nat->Bool}{cmp:Nat->Nat->(Bool->Shared->Prop)->Shared->Prop}{Q:β->Shared->Prop}{s:Shared}(h:∀i j C,i<n->j<n->C (lt i j) s->cmp i j C s) :
    ∀{t:KasT β},TAll n lt t (fun a=>Q a s)->t.kasWp cmp Q s
  | .ret _,q=>q
  | .ask i j k,⟨h1,h2,q⟩=>h i j _ h1 h2 (TAll.run h q)
section
variable {α:Type}{O:KO α}{n:Nat}{key:Nat->α}{p:Array Nat}
def PB (n:Nat)(p:Array Nat):Prop:=p.toList.Perm (List.range n)
theorem PB.size (h:PB n p):p.size=n:=by
  have:=h.length_eq
  simpa using this
theorem PB.lt (h:PB n p){i:Nat}(hi:i<n):p.getD i 0<n:=by
  have hi':i<p.size:=by rw[h.size];exact hi
  have e:p.getD i 0=p[i]:=by simp[Array.getD,hi']
  rw[e]
  have:p[i]∈p.toList:=by simp
  exact List.mem_range.mp (h.mem_iff.mp this)
theorem PB.perm {q:Array Nat}(h:PB n p)(e:q.Perm p):PB n q:=(Array.perm_iff_toList_perm.mp e).trans h
abbrev KQ (key:Nat->α)(p:Array Nat)(i:Nat):α:=key (p.getD i 0)
theorem gj {q:Array Nat}{i j:Nat}(h:p[i]?=q[j]?):KQ key p i=KQ key q j:=by
  unfold KQ
  rw[Array.getD_eq_getD_getElem?,Array.getD_eq_getD_getElem?,h]
theorem lf {src d:Nat}(hs:src<p.size)(hd:d<=src)(k:Nat):KQ key (bubble p src d) k=if k=src - d then KQ key p src else if src - d<k/\k<=src then KQ key p (k - 1) else KQ key p k:=by
  have e := getElem?_bubble hs d hd k
  by_cases h1:k=src - d
  · rw[if_pos h1] at e ⊢;exact gj e
  · rw[if_neg h1] at e ⊢
    by_cases h2 : src - d < k ∧ k ≤ src
    · rw[if_pos h2] at e ⊢;exact gj e
    · rw[if_neg h2] at e ⊢;exact gj e
theorem pi {i j:Nat}(hj:j<=p.size)(k:Nat):KQ key (kas_rev p i j) k=if i<=k/\k<j then KQ key p (i+j - 1 - k) else KQ key p k:=by
  have e := getElem?_mirror_all (i := i) hj k
  unfold kas_rev
  by_cases h1:i<=k/\k<j
  · rw[if_pos h1] at e ⊢;exact gj e
  · rw[if_neg h1] at e ⊢;exact gj e
theorem fA {i j:Nat}{a:α}(hj:j<=p.size)(h:∀k,i<=k->k<j->KQ key p k=a)(k:Nat):KQ key (kas_rev p i j) k=KQ key p k:=by
  rw[pi hj]
  by_cases h1:i<=k/\k<j
  · rw[if_pos h1,h _ (by omega) (by omega),h _ h1.1 h1.2]
  · rw[if_neg h1]
theorem PB.rev (h:PB n p)(i j:Nat):PB n (kas_rev p i j):=h.perm (mirror_perm _ _ _ _)
variable (O key) in
def Up (p:Array Nat)(k:Nat):Prop:=∀i j,i<=j->j<k->O.le (KQ key p i) (KQ key p j)
variable (O key) in
def Dn (p:Array Nat)(k:Nat):Prop:=∀i j,i<=j->j<k->O.le (KQ key p j) (KQ key p i)
variable (O key) in
abbrev lq (i j:Nat):Bool:=O.lt (key i) (key j)
theorem mm {β:Type}{i j:Nat}{k:Bool->KasT β}{Q:β->Prop}(hi:i<n)(hj:j<n)(h1:O.lt (key i) (key j)=true->TAll n (lq O key) (k true) Q)(h2:O.lt (key i) (key j)=false->TAll n (lq O key) (k false) Q):TAll n (lq O key) (.ask i j k) Q:=by
  refine⟨hi,hj,?_⟩
  cases e:lq O key i j with
  | true=>exact h1 e
  | false=>exact h2 e
theorem rV {Q:Nat->Prop}(hp:PB n p):∀(f a:Nat),1<=a->a+f<=n->Up O key p a->(∀m,a<=m->m<=a+f->Up O key p m->(m=a+f∨O.lt (KQ key p m) (KQ key p (m - 1))=true)->Q m)->TAll n (lq O key) (kas_asc p f a) Q
  | 0,a,_,_,hu,h=>h a (Nat.le_refl _) (by omega) hu (.inl rfl)
  | f+1,a,h1,hf,hu,h=>by
    refine mm (hp.lt (by omega)) (hp.lt (by omega)) (fun e=>?_) (fun e=>?_)
    · exact h a (Nat.le_refl _) (by omega) hu (.inr e)
    · skip
      refine rV hp f (a+1) (by omega) (by omega) (fun i j hij hj=>?_) fun m h2 h3 h4 h5=>h m (by omega) (by omega) h4 (h5.imp (fun z=>by omega) id)
      by_cases hja:j<a
      · exact hu i j hij hja
      · obtain rfl:j=a:=by omega
        by_cases hi:i=j
        · subst hi;exact O.le_refl _
        · exact KO.le_trans (hu i (j - 1) (by omega) (by omega)) e
theorem lv {Q:Array Nat×Nat×Nat->Prop}:∀(f:Nat) (p:Array Nat) (a q:Nat),PB n p->1<=a->a+f<=n->Dn O key p a->q+1<=a->(∀i,a - (q+1)<=i->i<a->KQ key p i=KQ key p (a - 1))->
    (∀p' m q',PB n p'->a<=m->m<=a+f->Dn O key p' m->q'+1<=m->(∀i,m - (q'+1)<=i->i<m->KQ key p' i=KQ key p' (m - 1))->Q (p',m,q'))->TAll n (lq O key) (kas_desc f p a q) Q
  | 0,p,a,q,hp,h1,hf,hd,hq,he,h=>h p a q hp (Nat.le_refl _) (by omega) hd hq he
  | f+1,p,a,q,hp,h1,hf,hd,hq,he,h=>by
    refine mm (hp.lt (by omega)) (hp.lt (by omega)) (fun e=>?_) (fun e=>?_)
    have sz:a<=p.size:=by rw[hp.size];omega
    · skip
      have st:∀p':Array Nat,(∀k,KQ key p' k=KQ key p k)->Dn O key p' (a+1):=fun p' hk i j hij hj=>by
        rw[hk,hk]
        by_cases hja:j<a
        · exact hd i j hij hja
        · obtain rfl:j=a:=by omega
          by_cases hi:i=j
          · subst hi;exact O.le_refl _
          · exact KO.le_trans (KO.le_of_lt e) (hd i (j - 1) (by omega) (by omega))
      show TAll n (lq O key) (if true=true then (if q > 0 then kas_desc f (kas_rev p (a - (q+1)) a) (a+1) 0 else kas_desc f p (a+1) 0) else _) Q
      rw[if_pos rfl]
      by_cases hq0:q > 0
      · rw[if_pos hq0]
        exact lv f _ (a+1) 0 (hp.rev _ _) (by omega) (by omega) (st _ (fA sz he)) (by omega) (fun i h2 h3=>by congr 2;omega) fun p' m q' x1 x2 x3=>h p' m q' x1 (by omega) (by omega)
      · rw[if_neg hq0]
        exact lv f _ (a+1) 0 hp (by omega) (by omega) (st _ fun _=>rfl) (by omega) (fun i h2 h3=>by congr 2;omega) fun p' m q' x1 x2 x3=>h p' m q' x1 (by omega) (by omega)
    · skip
      show TAll n (lq O key) (if false=true then _ else KasT.ask (p.getD (a - 1) 0) (p.getD a 0) fun d=>if d=true then .ret (p,a,q) else kas_desc f p (a+1) (q+1)) Q
      rw[if_neg (by decide)]
      refine mm (hp.lt (by omega)) (hp.lt (by omega)) (fun e2=>?_) (fun e2=>?_)
      · exact h p a q hp (Nat.le_refl _) (by omega) hd hq he
      · skip
        have heq:KQ key p a=KQ key p (a - 1):=O.anti e e2
        show TAll n (lq O key) (if false=true then _ else kas_desc f p (a+1) (q+1)) Q
        rw[if_neg (by decide)]
        refine lv f _ (a+1) (q+1) hp (by omega) (by omega) (fun i j hij hj=>?_) (by omega) (fun i h2 h3=>?_) fun p' m q' x1 x2 x3=>h p' m q' x1 (by omega) (by omega)
        · by_cases hja:j<a
          · exact hd i j hij hja
          · obtain rfl:j=a:=by omega
            by_cases hi:i=j
            · subst hi;exact O.le_refl _
            · rw[heq];exact hd i (j - 1) (by omega) (by omega)
        · rw[show a+1 - 1=a by omega]
          by_cases hi:i=a
          · subst hi;rfl
          · rw[heq];exact he i (by omega) (by omega)
theorem pB {Q:Nat×Array Nat->Prop}{m:Nat}(hp:PB n p)(h1:1<=m)(hm:m<=n)(hd:Dn O key p m)(h:∀k p',PB n p'->1<=k->k<=n->Up O key p' k->Q (k,p')):TAll n (lq O key) (kas_tail3 m n p) Q:=by
  have sz:m<=p.size:=by rw[hp.size];exact hm
  refine TAll.bind (rV (hp.rev 0 m) (n - m) m h1 (by omega) (fun i j hij hj=>?_) fun k h2 h3 h4 _=>h k _ (hp.rev 0 m) (by omega) (by omega) h4)
  rw[pi sz,pi sz,if_pos (by omega),if_pos (by omega)]
  exact hd _ _ (by omega) (by omega)
theorem jr {Q:Nat×Array Nat->Prop}{m:Nat}(hp:PB n p)(hm:m+1<=n)(hd:Dn O key p (m+1))(h:∀k p',PB n p'->1<=k->k<=n->Up O key p' k->Q (k,p')):TAll n (lq O key) (kas_descPart m n p) Q:=by
  refine TAll.bind (lv _ p (m+1) 0 hp (by omega) (by omega) hd (by omega) (fun i h2 h3=>by congr 2;omega) fun p' k q hp' h2 h3 hd' hq he=>?_)
  have sz:k<=p'.size:=by rw[hp'.size];omega
  by_cases hq0:q > 0
  · show TAll n (lq O key) (if q > 0 then kas_tail3 k n (kas_rev p' (k - (q+1)) k) else kas_tail3 k n p') Q
    rw[if_pos hq0]
    refine pB (hp'.rev _ _) (by omega) (by omega) (fun i j hij hj=>?_) h
    rw[fA sz he,fA sz he]
    exact hd' i j hij hj
  · show TAll n (lq O key) (if q > 0 then kas_tail3 k n (kas_rev p' (k - (q+1)) k) else kas_tail3 k n p') Q
    rw[if_neg hq0]
    exact pB hp' (by omega) (by omega) hd' h
theorem uO {Q:Nat×Array Nat->Prop}(hp:PB n p)(hn:1<=n)(h:∀k p',PB n p'->1<=k->k<=n->Up O key p' k->Q (k,p')):TAll n (lq O key) (kas_count n p) Q:=by
  refine TAll.bind (rV hp (n - 1) 1 (Nat.le_refl _) (by omega) (fun i j hij hj=>(show i=j by omega)▸O.le_refl _) fun m h1 h2 hu hor=>?_)
  by_cases hm:m=n
  · subst hm
    rw[if_pos (by simp)]
    exact h m p hp h1 (by omega) hu
  · rw[if_neg (by simpa using hm)]
    have hlt:O.lt (KQ key p m) (KQ key p (m - 1))=true:=hor.resolve_left (by omega)
    by_cases h3:m > 1
    · rw[if_pos h3]
      refine mm (hp.lt (by omega)) (hp.lt (by omega)) (fun e=>?_) (fun e=>?_)
      · exact h m p hp h1 (by omega) hu
      · skip
        show TAll n (lq O key) (if false=true then _ else kas_descPart m n (kas_rev p 0 m)) Q
        rw[if_neg (by decide)]
        have sz:m<=p.size:=by rw[hp.size];omega
        have hall:∀k,0<=k->k<m->KQ key p k=KQ key p (m - 1):=fun k _ hk=>by
          have a1:=hu 0 k (by omega) hk
          have a2:=hu k (m - 1) (by omega) (by omega)
          exact O.anti (KO.le_trans (show O.le (KQ key p (m - 1)) (KQ key p 0) from e) a1) a2
        refine jr (hp.rev _ _) (by omega) (fun i j hij hj=>?_) h
        rw[fA sz hall,fA sz hall]
        by_cases hjm:j<m
        · rw[hall i (by omega) (by omega),hall j (by omega) hjm];exact O.le_refl _
        · obtain rfl:j=m:=by omega
          by_cases hi:i=j
          · subst hi;exact O.le_refl _
          · rw[hall i (by omega) (by omega)];exact KO.le_of_lt hlt
    · rw[if_neg h3]
      obtain rfl:m=1:=by omega
      refine jr hp (by omega) (fun i j hij hj=>?_) h
      by_cases hi:i=j
      · subst hi;exact O.le_refl _
      · obtain rfl:i=0:=by omega
        obtain rfl:j=1:=by omega
        exact KO.le_of_lt hlt
theorem lu {Q:Nat->Prop}{k:Nat}(hp:PB n p)(hk:k<n)(hu:Up O key p k):∀(f l r:Nat),l<=r->r<=k->r - l<=f->(∀i,i<l->O.le (KQ key p i) (KQ key p k))->(∀i,r<=i->i<k->O.lt (KQ key p k) (KQ key p i)=true)->
    (∀m,m<=k->(∀i,i<m->O.le (KQ key p i) (KQ key p k))->(∀i,m<=i->i<k->O.lt (KQ key p k) (KQ key p i)=true)->Q m)->TAll n (lq O key) (kas_place p k f l r) Q
  | 0,l,r,h1,h2,h3,h4,h5,h=>by
    obtain rfl:l=r:=by omega
    exact h l h2 h4 h5
  | f+1,l,r,h1,h2,h3,h4,h5,h=>by
    unfold kas_place
    by_cases hge:l≥r
    · rw[if_pos hge]
      obtain rfl:l=r:=by omega
      exact h l h2 h4 h5
    · rw[if_neg hge]
      refine mm (hp.lt hk) (hp.lt (by omega)) (fun e=>?_) (fun e=>?_)
      · exact lu hp hk hu f l ((l+r) / 2) (by omega) (by omega) (by omega) h4 (fun i h6 h7=>KO.lt_of_lt_le e (hu _ _ h6 h7)) h
      · exact lu hp hk hu f ((l+r) / 2+1) r (by omega) (by omega) (by omega) (fun i h6=>KO.le_trans (hu i ((l+r) / 2) (by omega) (by omega)) e) h5 h
theorem vR {Q:Array Nat->Prop}:∀(f:Nat) (p:Array Nat) (k:Nat),PB n p->k+f=n->Up O key p k->(∀p',PB n p'->Up O key p' n->Q p')->TAll n (lq O key) (kas_bin f p k) Q
  | 0,p,k,hp,hk,hu,h=>h p hp (by rw[←hk];exact hu)
  | f+1,p,k,hp,hk,hu,h=>by
    refine TAll.bind (lu hp (by omega) hu k 0 k (by omega) (Nat.le_refl _) (by omega) (fun i h1=>by omega) (fun i h1 h2=>by omega) fun l hl lo hi=>?_)
    have hks:k<p.size:=by rw[hp.size];omega
    refine vR f _ (k+1) (hp.perm (bubble_perm _ _ _)) (by omega) (fun i j hij hj=>?_) h
    rw[lf hks (by omega),lf hks (by omega),show k - (k - l)=l by omega]
    repeat' split
    all_goals first
      | (exfalso;omega)
      | exact O.le_refl _
      | exact lo _ (by omega)
      | exact KO.le_of_lt (hi _ (by omega) (by omega))
      | exact hu _ _ (by omega) (by omega)
theorem wn {Q:Array Nat->Prop}(hn:1<=n)(h:∀p,PB n p->Up O key p n->Q p):TAll n (lq O key) (kas_sort n) Q:=by
  refine TAll.bind (uO (by unfold PB;simp) hn fun k p hp h1 h2 hu=>?_)
  by_cases hk:k<n
  · rw[if_pos hk]
    exact vR _ p _ hp (by omega) (by rw[show max k 1=k by omega];exact hu) h
  · rw[if_neg hk]
    obtain rfl:k=n:=by omega
    exact h p hp hu
end
theorem ng:∀{a b:List Int},HT.lexLt a b=true->HT.lexLt b a=false
  | [],[],_=>rfl
  | [],_::_,_=>rfl
  | _::_,[],h=>by cases h
  | x::a,y::b,h=>by
    rw[HT.lexLt_cons] at h ⊢
    by_cases e:x=y
    · rw[if_pos e] at h
      rw[if_pos e.symm]
      exact ng h
    · rw[if_neg e] at h
      rw[if_neg (Ne.symm e)]
      have:=of_decide_eq_true h
      exact decide_eq_false (by omega)
theorem nh:∀{a b:List Int},HT.lexLt a b=false->HT.lexLt b a=false->a=b
  | [],[],_,_=>rfl
  | [], _ :: _, h, _ => by cases h
  | _ :: _, [], _, h => by cases h
  | x::a,y::b,h,h'=>by
    rw[HT.lexLt_cons] at h h'
    by_cases e:x=y
    · rw[if_pos e] at h
      rw[if_pos e.symm] at h'
      rw[e,nh h h']
    · rw[if_neg e] at h
      rw[if_neg (Ne.symm e)] at h'
      have h1:=of_decide_eq_false h
      have h2:=of_decide_eq_false h'
      omega
theorem kJ:∀{a b c:List Int},HT.lexLt b a=false->HT.lexLt c b=false->HT.lexLt c a=false
  | [],_,[],_,_=>rfl
  | [],[],_::_,_,_=>rfl
  | [], _ :: _, _ :: _, _, _ => rfl
  | _ :: _, [], _, h, _ => by cases h
  | _::_,_::_,[],_,h=>by cases h
  | x :: a, y :: b, z :: c, h, h' => by
    rw[HT.lexLt_cons] at h h' ⊢
    by_cases e1:y=x
    · rw[if_pos e1] at h
      subst e1
      by_cases e2:z=y
      · rw[if_pos e2] at h' ⊢
        exact kJ h h'
      · rw[if_neg e2] at h' ⊢
        exact h'
    · rw[if_neg e1] at h
      have h1:=of_decide_eq_false h
      by_cases e2:z=y
      · subst e2
        rw[if_neg e1]
        exact h
      · rw[if_neg e2] at h'
        have h2:=of_decide_eq_false h'
        rw[if_neg (by omega)]
        exact decide_eq_false (by omega)
def lexO:KO (List Int):=⟨HT.lexLt,ng,kJ,nh⟩
end L2
namespace L2
open PySem PySem.Spec PyProof.Rows PySem.W
def vP (h:Heap)(v:Value)(ns:List Int):Prop:=∃(a:Addr) (its:List Value),v=.ref a/\IsTup h a its.toArray/\IntsAre its ns/\ns≠[]
abbrev TK (h:Heap):List Value->List (List Int)->Prop:=Paired (vP h)
section
variable {prog:Program}{w:World}{A:Around}{E:Value->Shared->Prop}{s:Shared}
theorem tX {Q:Bool->Shared->Prop}{fin:Bool}:∀{its:List Value} {ns:List Int} {js:List Value} {ms:List Int} (i:Nat),IntsAre its ns->IntsAre js ms->fin=decide (its.length<js.length)->Q (HT.lexLt ns ms) s->
    KatLex prog w A true fin Q (its.zip js) i s
  | _,_,_,_,i,.nil,.nil,hf,q=>by
    subst hf
    exact kat_nil q
  | _,_,_,_,i,.nil,.cons n t h,hf,q=>by
    subst hf
    exact kat_nil (by simpa using (show Q true s from q))
  | _,_,_,_,i,.cons n t h,.nil,hf,q=>by
    subst hf
    exact kat_nil (by simpa using (show Q false s from q))
  | _,_,_,_,i,.cons n t h,.cons m u h',hf,q=>by
    rw[List.zip_cons_cons]
    rw[HT.lexLt_cons] at q
    refine kat_cons (wpAny_eqBool_int (kat_go (fun e=>kat_yes ?_) fun e=>kat_no ?_))
    · have e':n=m:=by simpa using e
      rw[if_pos e'] at q
      exact tX (i+1) h h' (by rw[hf];simp) q
    · have e':n≠m:=by simpa using e
      rw[if_neg e'] at q
      by_cases hi:i=0
      · subst hi
        exact oneLt_int q
      · rw[show (true && i == 0)=false by simpa using hi]
        exact kat_one _ _ (lt_int q)
theorem wN {x y:Value}{ns ms:List Int}{Q:Bool->Shared->Prop}(hx:vP s.heap x ns)(hy:vP s.heap y ms)(h:Q (HT.lexLt ns ms) s):wpAny (model prog w) A (keyLt' (tuples' true) x y) Q E s:=by
  obtain⟨a,its,rfl,⟨o,e,c,n,d⟩,hi,_⟩:=hx
  obtain⟨b,js,rfl,⟨o',e',c',n',d'⟩,hj,_⟩:=hy
  refine kat_lt e d e' d' ?_
  rw[List.toList_toArray,List.toList_toArray]
  exact tX 0 hi hj (by simp) h
theorem pw {h:Heap}:∀{ks:List Value} {nss:List (List Int)},TK h ks nss->∃fs,KatTups h ks fs/\fs.length=ks.length/\∀v∈fs,∃i t,v=Value.int i t
  | _,_,.nil=>⟨[],.nil,rfl,fun v hv=>by simp at hv⟩
  | _,_,.cons ⟨a,its,e,⟨o,e1,c,n,d⟩,hi,hne⟩ r=>by
    obtain⟨fs,t,hl,hf⟩:=pw r
    cases hi with
    | nil=>exact absurd rfl hne
    | cons m t' hi=>
      subst e
      exact⟨.int m t'::fs,.cons e1 c d rfl t,by simp[hl],fun v hv=>(List.mem_cons.mp hv).elim (fun z=>⟨m,t',z⟩) (hf v)⟩
theorem t8 {ks:List Value}{nss:List (List Int)}{Q:SortKind->Shared->Prop}(hk:TK s.heap ks nss)(h1:0<ks.length)(h:Q (tuples' true) s):wpAny (model prog w) A (keyKind' ks.toArray) Q E s:=by
  obtain⟨fs,t,hl,hf⟩:=pw hk
  refine kat_kind (T:=Value.type "int") t (by omega) (fun v hv=>?_) rfl h
  obtain⟨i,t,rfl⟩:=hf v hv
  exact .now
def TKI:List Value->List (List Int)->Prop:=Paired fun v ns=>∃n t,v=Value.int n t/\ns=[n]
def TX (b:Bool)(h:Heap)(ks:List Value)(nss:List (List Int)):Prop:=if b=true then TKI ks nss else TK h ks nss
theorem TKI.all:∀{ks:List Value} {nss:List (List Int)},TKI ks nss->∀v∈ks,∃n t,v=Value.int n t
  | _, _, .nil, v, hv => by simp at hv
  | _,_,.cons ⟨n,t,e,_⟩ r,v,hv=>by
    rcases List.mem_cons.mp hv with rfl | hv
    · exact⟨n,t,e⟩
    · exact TKI.all r v hv
theorem TKI.at:∀{ks:List Value} {nss:List (List Int)} {i:Nat},TKI ks nss->i<ks.length->∃n t,ks.getD i Value.none=Value.int n t/\nss.getD i []=[n]
  | _,_,0,.cons r _,_=>r
  | _,_,i+1,.cons _ t,hi=>TKI.at (i:=i) t (by simpa using hi)
theorem qa (n m:Int):HT.lexLt [n] [m]=decide (n<m):=by
  rw[HT.lexLt_cons]
  by_cases h:n=m
  · rw[if_pos h,HT.lexLt_nil_nil]
    exact (decide_eq_false (by omega)).symm
  · rw[if_neg h]
theorem TK.at {h:Heap}:∀{ks:List Value} {nss:List (List Int)} {i:Nat},TK h ks nss->i<ks.length->vP h (ks.getD i Value.none) (nss.getD i [])
  | _,_,0,.cons r _,_=>r
  | _,_,i+1,.cons _ t,hi=>TK.at (i:=i) t (by simpa using hi)
def SortBy {α:Type}(d:α)(vs:List α)(nss:List (List Int))(out:List α):Prop:=∃p:Array Nat,PB vs.length p/\Up lexO (fun i=>nss.getD i []) p vs.length/\out=p.toList.map fun i=>vs.getD i d
theorem SortBy.len {α:Type}{d:α}{vs out:List α}{nss:List (List Int)}(h:SortBy d vs nss out):out.length=vs.length:=by
  obtain⟨p,hp,_,rfl⟩:=h
  rw[List.length_map,Array.length_toList,hp.size]
theorem ot {α:Type}{d:α}(vs:List α):(List.range vs.length).map (fun i=>vs.getD i d)=vs:=by
  refine List.ext_getElem (by simp) fun i h1 h2=>?_
  simp[List.getD_eq_getElem?_getD,List.getElem?_eq_getElem h2]
theorem SortBy.few {α:Type}{d:α}{vs:List α}{nss:List (List Int)}(h:vs.length<2):SortBy d vs nss vs:=
  ⟨(List.range vs.length).toArray,by unfold PB;simp,fun i j hij hj=>(show i=j by omega)▸lexO.le_refl _,by rw[List.toList_toArray];exact (ot vs).symm⟩
theorem SortBy.zip {α:Type}{d:α}{vs out:List α}{nss:List (List Int)}(h:SortBy d vs nss out)(hl:nss.length=vs.length):∃zs:List (α×List Int),zs.Perm (vs.zip nss)/\out=zs.map (·.1)/\zs.Pairwise fun a b=>HT.lexLt b.2 a.2=false:=by
  obtain⟨p,hp,hu,rfl⟩:=h
  refine⟨p.toList.map fun i=>(vs.getD i d,nss.getD i []),?_,by rw[List.map_map];rfl,?_⟩
  · have e:vs.zip nss=(List.range vs.length).map fun i=>(vs.getD i d,nss.getD i []):=by
      refine List.ext_getElem (by simp[hl]) fun i h1 h2=>?_
      have h3:i<vs.length:=by simpa using h2
      have h4:i<nss.length:=by omega
      simp[List.getD_eq_getElem?_getD,List.getElem?_eq_getElem h3,List.getElem?_eq_getElem h4]
    rw[e]
    exact hp.map _
  · rw[List.pairwise_map,List.pairwise_iff_getElem]
    intro i j hi hj hij
    have z:=hu i j (Nat.le_of_lt hij) (by rw[←hp.size];simpa using hj)
    have g:∀k (hk:k<p.toList.length),p.getD k 0=p.toList[k]:=fun k hk=>by
      have hk':k<p.size:=by simpa using hk
      simp[Array.getD,hk']
    unfold KO.le KQ at z
    rw[g i hi,g j hj] at z
    exact z
theorem qw {xs:List V}{us out:List Value}{nss:List (List Int)}(r:Vals xs us)(h:SortBy Value.none us nss out):∃ys,Vals ys out/\SortBy V.non xs nss ys:=by
  obtain⟨p,hp,hu,rfl⟩:=h
  have hl:=r.length
  refine⟨p.toList.map fun i=>xs.getD i V.non,?_,p,by rw[hl];exact hp,by rw[hl];exact hu,rfl⟩
  have lt:∀i∈p.toList,i<us.length:=fun i hi=>List.mem_range.mp (hp.mem_iff.mp hi)
  revert lt
  generalize p.toList=l
  intro lt
  induction l with
  | nil=>exact .nil
  | cons i l ih=>
    refine .cons ?_ (ih fun j hj=>lt j (List.mem_cons_of_mem _ hj))
    have hi:=lt i (List.mem_cons_self ..)
    have hi':i<xs.length:=by omega
    obtain⟨u,e,ru⟩:=r.get (List.getElem?_eq_getElem hi')
    show RelV (xs.getD i V.non) (us.getD i Value.none)
    rw[List.getD_eq_getElem?_getD,List.getElem?_eq_getElem hi',List.getD_eq_getElem?_getD,e]
    exact ru
def kk (b:Bool)(n:Nat):SortKind:=if n<2 then general' else if b=true then oneType' else tuples' true
theorem qJ {b:Bool}{β:Type}{F:SortKind->Sem β}{Q:β->Shared->Prop}{ks:List Value}{nss:List (List Int)}{n:Nat}(hk:TX b s.heap ks nss)(hl:ks.length=n)(h:wpAny (model prog w) A (F (kk b n)) Q E s) :
    wpAny (model prog w) A (if n<2 then pure general' >>= F else keyKind' ks.toArray >>= F) Q E s:=by
  unfold kk at h
  by_cases h2:n<2
  · rw[if_pos h2] at h ⊢
    exact wpAny_bind (wpAny_pure h)
  · rw[if_neg h2] at h ⊢
    cases b with
    | false=>exact wpAny_bind (t8 (show TK s.heap ks nss from hk) (by omega) h)
    | true=>
      refine wpAny_bind (kas_kind (T:=Value.type "int") (by omega) (fun v hv=>?_) rfl rfl h)
      obtain⟨i,t,rfl⟩:=(show TKI ks nss from hk).all v hv
      exact .now
theorem qL {b:Bool}{ks vs:List Value}{nss:List (List Int)}{P:SortSt->Shared->Prop}(hk:TX b s.heap ks nss)(hl:ks.length=vs.length)(h64:vs.length<64)
    (h:∀out st,SortBy Value.none vs nss out->(arrOf st).map (·.2)=out.toArray->failedOf st=none->P st s) :
    wpAny (model prog w) A ((if vs.toArray.size<2 then pure () else sortRuns').run (SortSt.mk' (kk b vs.toArray.size) (ks.toArray.zip vs.toArray) #[] 7 none)) (fun r s'=>P r.2 s') E s:=by
  unfold kk
  by_cases h2 : vs.toArray.size < 2
  · rw[if_pos h2,if_pos h2,StateT.run_pure]
    refine wpAny_pure (h vs _ (.few (by simpa using h2)) ?_ rfl)
    show ((ks.toArray.zip vs.toArray).map (·.2))=_
    apply Array.toList_inj.mp
    rw[Array.toList_map,ksk_zip]
    simp only[List.toList_toArray]
    exact List.map_snd_zip (by omega)
  · rw[if_neg h2,if_neg h2]
    have h2':2<=vs.length:=by simpa using h2
    refine kat_run (Q:=fun st s'=>P st s') (G:=fun p s'=>s'=s/\PB vs.length p/\Up lexO (fun i=>nss.getD i []) p vs.length) hl h2' h64 (fun p st' s' _ ha hf ⟨e,hp,hu⟩=>?_) ?_
    · subst e
      exact h _ st' ⟨p,hp,hu,rfl⟩ (kat_snds hl ha) hf
    · refine TAll.run (lt:=lq lexO fun i=>nss.getD i []) (n:=vs.length) (fun i j C hi hj q=>?_) (wn (by omega) fun p hp hu=>⟨rfl,hp,hu⟩)
      cases b with
      | false=>
        have hk':TK s.heap ks nss:=hk
        exact wN (hk'.at (by omega)) (hk'.at (by omega)) q
      | true=>
        obtain⟨n,t,e1,e2⟩:=(show TKI ks nss from hk).at (i:=i) (by omega)
        obtain⟨m,u,e3,e4⟩:=(show TKI ks nss from hk).at (i:=j) (by omega)
        show wpAny _ _ (keyLt' (if true=true then oneType' else tuples' true) (ks.getD i Value.none) (ks.getD j Value.none)) C _ _
        rw[if_pos rfl,e1,e3]
        refine kat_lt_int ?_
        have q':C (HT.lexLt (nss.getD i []) (nss.getD j [])) s:=q
        rw[e2,e4,qa] at q'
        exact q'
def But (a:Addr)(h h':Heap):Prop:=∀b o,b≠a->h.get? b=some o->h'.get? b=some o
theorem qK {a:Addr}{vs:List Value}{n:Nat}{P:PySem.Fin->Shared->Prop}{rest:Array Value->Nat->Value->Sem PySem.Fin}(ho:s.heap.get? a=some (seqObj "list" vs.toArray n))(hz:vs.length<=sizeLine)
    (k:∀h' kS e,But a s.heap h'->s.heap.objs.size<kS->h'.get? a=some (seqObj "list" #[] e)->h'.get? kS=some (seqObj "list" #[] 0)->wpAny (model prog w) A (rest vs.toArray e (.ref kS)) P E { s with heap:=h' }) :
    wpAny (model prog w) A (Builtin.List.listItems (.ref a) >>= fun items=>Builtin.List.listUpdate (.ref a) (fun _=>#[]) >>= fun _=>seqEpoch a >>= fun e=>newTuple items.toList >>= fun t=>newList [] >>= fun y=>holding [t,y] (rest items e y)) P E s:=by
  refine wpAny_bind (listItems_at ho rfl (wpAny_bind (listUpdate_at ho rfl ?_ hz (Nat.zero_le _))))
  have g:=get?_update_seq ho fun _=>(#[]:Array Value)
  have b0:But a s.heap (s.heap.update a (Obj.mapSeq fun _=>(#[]:Array Value))):=fun b o hb e=>(Heap.get?_update_other _ _ (Ne.symm hb)).trans e
  have z0:(s.heap.update a (Obj.mapSeq fun _=>(#[]:Array Value))).objs.size=s.heap.objs.size:=Heap.size_update ..
  revert g b0 z0
  generalize s.heap.update a (Obj.mapSeq fun _=>(#[]:Array Value))=h1
  intro g b0 z0
  refine wpAny_bind (seqEpoch_at g rfl (wpAny_bind (wpAny_newTuple (wpAny_bind (wpAny_newList (wpAny_holding (k _ _ _ (fun b o hb e=>Heap.get?_push_of_some _ (Heap.get?_push_of_some _ (b0 b o hb e))) ?_ (Heap.get?_push_of_some _ (Heap.get?_push_of_some _ g)) (Heap.get?_push_size _ rfl))) (Nat.zero_le _))) hz)))
  show _<(h1.push (seqObj "tuple" vs.toArray 0)).objs.size
  rw[size_push',z0]
  exact Nat.lt_succ_self _
def j4 (prog:Program)(w:World)(A:Around)(s:Shared)(src:Value)(P:List Value->Prop):Prop:=∀(E:Value->Shared->Prop) (Q:List Value->Shared->Prop),
  (∀vs h' tk,P vs->(∀b o,s.heap.get? b=some o->h'.get? b=some o)->s.heap.objs.size<=h'.objs.size->Q vs { s with heap:=h',toks:=tk })->wpAny (model prog w) A (collect src) Q E s
end
section
variable {prog:Program}{w:World}{A:Around}{E:Value->Shared->Prop}{s:Shared}
theorem nu {f:Value}{kS:Addr}{vs:List Value}{body:Value->PUnit->Sem (ForInStep PUnit)}{Fin:List Value->Nat->Shared->Prop}(J:Nat->List Value->Shared->Prop)(hz:vs.length<64)
    (hb:∀v ks e (s':Shared) (C:Value->Shared->Prop),ks.length<64->wpAny (model prog w) A (call f [v]) (fun k s''=>s''.heap.get? kS=some (seqObj "list" ks.toArray e)/\C k s'') (fun _ _=>False) s'->
      wpAny (model prog w) A (body v ⟨⟩) (fun r s''=>r=.yield ⟨⟩/\∃k s0,C k s0/\s0.heap.get? kS=some (seqObj "list" ks.toArray e)/\∃h' c,s''={ s0 with heap:=h' }/\(∀b o,b≠kS->s0.heap.get? b=some o->h'.get? b=some o)/\h'.get? kS=some (seqObj "list" (ks++[k]).toArray c)) E s')
    (step:∀i v ks e s',vs[i]?=some v->ks.length=i->J i ks s'->s'.heap.get? kS=some (seqObj "list" ks.toArray e)->
      wpAny (model prog w) A (call f [v]) (fun k s''=>s''.heap.get? kS=some (seqObj "list" ks.toArray e)/\∀h' c,(∀b o,b≠kS->s''.heap.get? b=some o->h'.get? b=some o)->h'.get? kS=some (seqObj "list" (ks++[k]).toArray c)->J (i+1) (ks++[k]) { s'' with heap:=h' }) (fun _ _=>False) s')
    (fin:∀ks e s',ks.length=vs.length->J vs.length ks s'->s'.heap.get? kS=some (seqObj "list" ks.toArray e)->Fin ks e s') :
    ∀(r:List Value) (i:Nat) (ks:List Value) (e:Nat) (s:Shared),i+r.length=vs.length->(∀j v,r[j]?=some v->vs[i+j]?=some v)->ks.length=i->J i ks s->s.heap.get? kS=some (seqObj "list" ks.toArray e)->
      wpAny (model prog w) A (forIn r PUnit.unit body) (fun _ s'=>∃ks e,Fin ks e s') E s
  | [],i,ks,e,s,hl,hr,hk,hJ,ho=>by
    rw[List.forIn_nil]
    have e1:i=vs.length:=by simpa using hl
    subst e1
    exact wpAny_pure ⟨ks,e,fin ks e s hk hJ ho⟩
  | v::r,i,ks,e,s,hl,hr,hk,hJ,ho=>by
    rw[List.length_cons] at hl
    rw[List.forIn_cons]
    refine wpAny_bind (wpAny_mono (hb v ks e s _ (by omega) (step i v ks e s (by simpa using hr 0 v rfl) hk hJ ho)) (fun q s' hq=>?_) fun _ _ x=>x)
    obtain⟨rfl,k,s0,hC,h0,h',c,rfl,kp,hk'⟩:=hq
    exact nu J hz hb step fin r (i+1) (ks++[k]) c _ (by omega) (fun j u hj=>by
      have:=hr (j+1) u (by simpa using hj)
      rw[show i+1+j=i+(j+1) by omega]
      exact this) (by simp[hk]) (hC h' c kp hk') hk'
theorem kb {a f:Addr}{vs:List Value}{n:Nat}{P:PySem.Fin->Shared->Prop}(ho:s.heap.get? a=some (seqObj "list" vs.toArray n))(h64:vs.length<64)(J:Addr->Nat->Nat->List Value->Shared->Prop)
    (start:∀h' kS e1,(∀b o,b≠a->s.heap.get? b=some o->h'.get? b=some o)->s.heap.objs.size<=kS->h'.get? a=some (seqObj "list" #[] e1)->h'.get? kS=some (seqObj "list" #[] 0)->kS<h'.objs.size->J kS e1 0 [] { s with heap:=h' })
    (atA:∀kS e1 i ks s',J kS e1 i ks s'->s'.heap.get? a=some (seqObj "list" #[] e1))
    (step:∀kS e1 i v ks e s',a≠kS->vs[i]?=some v->ks.length=i->J kS e1 i ks s'->s'.heap.get? kS=some (seqObj "list" ks.toArray e)->
      wpAny (model prog w) A (call (.ref f) [v]) (fun k s''=>s''.heap.get? kS=some (seqObj "list" ks.toArray e)/\∀h' c,(∀b o,b≠kS->s''.heap.get? b=some o->h'.get? b=some o)->h'.get? kS=some (seqObj "list" (ks++[k]).toArray c)->J kS e1 (i+1) (ks++[k]) { s'' with heap:=h' }) (fun _ _=>False) s')
    (fin:∀kS e1 ks s',a≠kS->J kS e1 vs.length ks s'->ks.length=vs.length->∃bk nss,TX bk s'.heap ks nss/\
      ∀h' c out,SortBy Value.none vs nss out->(∀b o,b≠a->b≠kS->s'.heap.get? b=some o->h'.get? b=some o)->h'.get? a=some (seqObj "list" out.toArray c)->P (.done (.ret .none)) { s' with heap:=h' }) :
    wpAny (model prog w) A (ksk_tree a (.ref f) false) P E s:=by
  have hz:vs.length<=sizeLine:=by rw[sizeLine_eq];omega
  unfold ksk_tree
  refine qK (rest:=fun items e y=>ksk_rest a (.ref f) false items e y) ho hz fun h2 kS e1 keep hlt ho2 hk0=>?_
  have hsz:=Nat.le_of_lt hlt
  have hne:a≠kS:=Nat.ne_of_lt (Nat.lt_trans (Heap.lt_size ho) hlt)
  have J0:=start h2 kS e1 keep hsz ho2 hk0 (Heap.lt_size hk0)
  unfold ksk_rest
  refine wpAny_bind (wpAny_rule ?_)
  rw[List.forIn_toArray]
  refine wpAny_bind (wpAny_mono (nu (kS:=kS) (f:=.ref f) (vs:=vs) (Fin:=fun ks e s'=>ks.length=vs.length/\J kS e1 vs.length ks s'/\s'.heap.get? kS=some (seqObj "list" ks.toArray e)) (J kS e1) h64 (fun v ks e s' C hz hx=>?_) (fun i v ks e s'=>step kS e1 i v ks e s' hne) (fun ks e s' h1 h2 h3=>⟨h1,h2,h3⟩) vs 0 [] 0 _ (by simp) (fun j v hj=>by simpa using hj) rfl J0 hk0) (fun _ s' hd=>?_) fun _ _ x=>x)
  · refine wpAny_bind (wpAny_attempt (wpAny_mono hx (fun k s'' ⟨nk,hC⟩=>?_) fun _ _ z=>z.elim))
    obtain⟨c2,hc2⟩:∃c2,(s''.heap.update kS (Obj.mapSeq (·.push k))).get? kS=some (seqObj "list" (ks++[k]).toArray c2):=⟨_,List.push_toArray ks k▸get?_update_seq nk (·.push k)⟩
    try dsimp only
    refine wpAny_bind (listUpdate_at nk rfl ?_ (by rw[List.size_toArray,sizeLine_eq];omega) (Nat.le_trans (Nat.le_of_eq (Array.size_push ..)) (by rw[List.size_toArray,sizeLine_eq];omega)))
    exact wpAny_pure ⟨rfl,k,s'',hC,nk,_,c2,rfl,fun b o hb e=>(Heap.get?_update_other _ _ (Ne.symm hb)).trans e,hc2⟩
  · obtain⟨ks,e,hl,hJ,hk'⟩:=hd
    obtain⟨bk,nss,hT,hfin⟩:=fin kS e1 ks s' hne hJ hl
    have hA:=atA kS e1 _ ks s' hJ
    try dsimp only
    refine wpAny_bind (listItems_at hk' rfl ?_)
    unfold ksk_end
    dsimp only
    simp only [Bool.false_eq_true, if_false]
    refine qJ hT (by rw[hl];simp) ?_
    refine wpAny_bind (wpAny_mono (qL (P:=fun st s''=>∃out,SortBy Value.none vs nss out/\(arrOf st).map (·.2)=out.toArray/\failedOf st=none/\s''=s') hT hl h64 fun out st a1 a2 a3=>⟨out,a1,a2,a3,rfl⟩) (fun r s'' hr=>?_) fun _ _ x=>x)
    obtain⟨⟨⟩,st⟩:=r
    obtain⟨out,hs,hout,hf,rfl⟩:=hr
    dsimp only at hout hf ⊢
    unfold ksk_tail
    dsimp only
    rw[hout]
    have hlo:=hs.len
    refine wpAny_bind (listUpdate_at hk' rfl ?_ (by rw[List.size_toArray,sizeLine_eq];omega) (Nat.zero_le _))
    have k1:∀b o,b≠kS->s''.heap.get? b=some o->(s''.heap.update kS (Obj.mapSeq fun _=>(#[]:Array Value))).get? b=some o:=fun b o hb e=>(Heap.get?_update_other _ _ (Ne.symm hb)).trans e
    have hA1:=k1 a _ hne hA
    refine wpAny_bind (wpAny_letGo ?_)
    refine wpAny_bind (seqEpoch_at hA1 rfl ?_)
    obtain⟨c2,hc2⟩:∃c2,((s''.heap.update kS (Obj.mapSeq fun _=>(#[]:Array Value))).update a (Obj.mapSeq fun _=>out.toArray)).get? a=some (seqObj "list" out.toArray c2):=⟨_,get?_update_seq hA1 fun _=>out.toArray⟩
    simp only [Bool.false_eq_true, if_false]
    refine wpAny_bind (listUpdate_at hA1 rfl ?_ (Nat.zero_le _) (by rw[List.size_toArray,sizeLine_eq];omega))
    rw[hf]
    simp only [bne_self_eq_false, Bool.false_eq_true, if_false]
    exact wpAny_pure (hfin _ c2 out hs (fun b o hb hb2 e=>(Heap.get?_update_other _ _ (Ne.symm hb)).trans (k1 b o hb2 e)) hc2)
structure KeyRun (prog:Program)(w:World)(A:Around)(s:Shared)(f:Addr)(vs:List Value)(Q:Value->Shared->Prop)(J:Addr->Addr->Nat->Nat->List Value->Shared->Prop):Prop where
  start:∀h' tk a kS e1,(∀b o,s.heap.get? b=some o->h'.get? b=some o)->s.heap.objs.size<=a->a<kS->h'.get? a=some (seqObj "list" #[] e1)->h'.get? kS=some (seqObj "list" #[] 0)->J a kS e1 0 [] { s with heap:=h',toks:=tk }
  atA:∀a kS e1 i ks s',J a kS e1 i ks s'->s'.heap.get? a=some (seqObj "list" #[] e1)
  step:∀a kS e1 i v ks e s',a≠kS->vs[i]?=some v->ks.length=i->J a kS e1 i ks s'->s'.heap.get? kS=some (seqObj "list" ks.toArray e)->
      wpAny (model prog w) A.in1.in1 (call (.ref f) [v]) (fun k s''=>s''.heap.get? kS=some (seqObj "list" ks.toArray e)/\∀h' c,(∀b o,b≠kS->s''.heap.get? b=some o->h'.get? b=some o)->h'.get? kS=some (seqObj "list" (ks++[k]).toArray c)->J a kS e1 (i+1) (ks++[k]) { s'' with heap:=h' }) (fun _ _=>False) s'
  fin:∀a kS e1 ks s',a≠kS->J a kS e1 vs.length ks s'->ks.length=vs.length->∃bk nss,TX bk s'.heap ks nss/\
      ∀h' c out,SortBy Value.none vs nss out->(∀b o,b≠a->b≠kS->s'.heap.get? b=some o->h'.get? b=some o)->h'.get? a=some (seqObj "list" out.toArray c)->Q (.ref a) { s' with heap:=h' }
theorem on {src:Value}{f:Addr}{P:List Value->Prop}{Q:Value->Shared->Prop}(hc:j4 prog w A.in1 s src P)(hP:∀vs,P vs->vs.length<64/\∃J,KeyRun prog w A s f vs Q J) :
    wpAny (model prog w) A (call (.builtin "sorted") [src] [(Str.ofString "key",.ref f)]) Q E s:=by
  refine call_function_entry_kw kind_sorted plain_sorted entry_sorted (ksk_s1 _ _) ?_
  unfold Builtin.«sorted»
  refine wpAny_bind (m := checkCount "sorted" 1 1 _) (wpAny_pure ?_)
  refine wpAny_bind (hc _ _ fun vs h1 tk pv k1 sz=>?_)
  obtain⟨h64,J,R⟩:=hP vs pv
  refine wpAny_bind (wpAny_newList ?_ (by rw [sizeLine_eq]; omega))
  refine wpAny_bind (wpAny_holding (wpAny_call_entry_kw slot_list_sort ⟨_,Heap.get?_push_size _ rfl,rfl⟩ entry_list_sort ?body (ksk_l1 _ _)))
  case body=>
    show wpAny (model prog w) A.in1.in1 (Builtin.«list.sort» ⟨[.ref h1.objs.size],[(Str.ofString "key",.ref f)]⟩) _ _ _
    rw[ksk_t1]
    refine kb (s:={ s with heap:=h1.push (seqObj "list" vs.toArray 0),toks:=tk }) (Heap.get?_push_size _ rfl) h64 (J h1.objs.size) (fun h' kS e1 kp hs2 hA hK _=>?_) (R.atA h1.objs.size) (R.step h1.objs.size) fun kS e1 ks s' hne hJ hl=>?_
    · have hs3:(h1.push (seqObj "list" vs.toArray 0)).objs.size<=kS:=hs2
      rw[size_push'] at hs3
      exact R.start h' tk _ kS e1 (fun b o e=>kp b o (Nat.ne_of_lt (Heap.lt_size (k1 b o e))) (Heap.get?_push_of_some _ (k1 b o e))) sz (by omega) hA hK
    · obtain⟨bk,nss,hT,g⟩:=R.fin _ kS e1 ks s' hne hJ hl
      exact⟨bk,nss,hT,fun h' c out a1 a2 a3=>⟨_,rfl,wpAny_pure ⟨_,rfl,g h' c out a1 a2 a3⟩⟩⟩
end
def TabA (P:Addr)(ps:Array Value):Heap->Prop:=fun h=>h.get? P=some (tabObj ps)
def CodA (c:Addr)(q:Str):Heap->Prop:=fun h=>h.CodeRec (.ref c) q
def FnA (f:Addr)(o:Obj):Heap->Prop:=fun h=>h.get? f=some o
def bW (H:Hp)(P:Addr)(q:Str)(pos:Pos):Prop:=∃ps,H P=some (.ext (TabA P ps))/\(ps = #[]∨∃c,ps = #[rawInt pos.line,rawInt pos.col,.ref c]/\H c=some (.ext (CodA c q)))
def BM (base:Heap)(mg:Str->Option Value):Prop:=∃bm ob,mg "__builtins__" = some (.ref bm)/\bm≠builtinsNs/\base.get? bm=some ob/\ob.cls=.type "module"/\ob.dict=some builtinsNs/\ob.data=.plain
theorem CodA.ok {P:Program}{w:World}{H:Hp}{h:Heap}{c:Addr}{q:Str}(x:h.CodeRec (.ref c) q):ObjOk P w H h c (.ext (CodA c q)):=by
  obtain⟨c',o,vs,t,e,g,r⟩:=id x
  cases e
  refine⟨x,⟨o,g⟩,fun h1 h2 y k=>?_⟩
  obtain⟨c',o,vs,t,e,g,r⟩:=y
  cases e
  exact⟨c,o,vs,t,rfl,k o g,r⟩
theorem TabA.ok {P:Program}{w:World}{H:Hp}{h:Heap}{c:Addr}{ps:Array Value}(x:h.get? c=some (tabObj ps)):ObjOk P w H h c (.ext (TabA c ps)):=⟨x,⟨_,x⟩,fun h1 h2 y k=>k _ y⟩
theorem FnA.ok {P:Program}{w:World}{H:Hp}{h:Heap}{c:Addr}{o:Obj}(x:h.get? c=some o):ObjOk P w H h c (.ext (FnA c o)):=⟨x,⟨_,x⟩,fun h1 h2 y k=>k _ y⟩
section
variable {X:Cx}{pins:List (Addr×Obj)}{σ:St}{H:Hp}{s:Shared}{E:Value->Shared->Prop}
theorem tY {P c:Addr}{params:Arguments}{body:Expr}{scope:Scope}{pos:Pos}{clos:List (Str×Addr)}{Q:Value->Shared->Prop}(I:Inv X pins σ H s)(hcl:closureFor scope X.env=pure clos)(hcode:X.env.code=.ref c)(hC:codeHdIn X.K c P=true)
    (hB:BM X.base X.mg) (hT:bW H P (X.env.qual++"<lambda>") pos) (hdef:defaultsOf params X.env=([],[]))
    (h:∀f c' ctv H' s',Inv X pins σ H' s'->SameB P H H'->bW H' P (X.env.qual++"<lambda>") pos->H f=none->f≠P->H' f=some (.ext (FnA f (kla_obj "<lambda>" (X.env.qual++"<lambda>") params body scope clos ((X.mg "__name__").getD .none) c' ctv)))->
      H' c'=some (.ext (CodA c' (X.env.qual++"<lambda>")))->Q (.ref f) s') :
    wpAny (model X.prog X.w) X.A (eval (.Lambda params body scope pos) X.env) Q E s:=by
  obtain⟨ps,hP,hps⟩:=hT
  have hPh:s.heap.get? P=some (tabObj ps):=(I.hok P _ hP).1
  have hg:s.heap.Ns mainGlobals X.mg:=I.mod.glob.keeps I.bk
  have hgP : mainGlobals ≠ P := fun q => by
    obtain⟨o,es,ep,e,hd,_⟩:=hg
    rw[q,hPh] at e;cases e;cases hd
  have hb:s.heap.BuiltinsAt X.mg P:=by
    obtain⟨bm,ob,b1,b2,b3,b4,b5,b6⟩:=hB
    have b3':=I.bk _ _ b3
    refine⟨bm,ob,b1,b2,fun q=>?_,fun q=>?_,b3',b4,b5,b6⟩
    · obtain⟨o,es,ep,e,hd,_⟩:=hg
      rw[q,e] at b3';cases b3';rw[hd] at b6;cases b6
    · rw[q,hPh] at b3';cases b3';cases b4
  have C:=codeHd_of_K I.kIn hC
  refine kla_eval hdef ?_
  rcases hps with rfl|⟨c0,rfl,hc0⟩
  · refine kla_makeFunction (mg:=X.mg) hcl I.ok.glob hg hcode C hPh trivial rfl hgP hb fun c' ctv h' tk hx hge hlt hrec htb=>?_
    have hcn:H c'=none:=I.hok.fresh hge
    have hcP:c'≠P:=fun z=>by rw[z,hP] at hcn;cases hcn
    have up:∀b,b≠P->b≠c'->upd (upd H P (.ext (TabA P (#[]++#[rawInt pos.line,rawInt pos.col,.ref c'])))) c' (.ext (CodA c' (X.env.qual++"<lambda>"))) b=H b:=fun b h1 h2=>by rw[aF h2,aF h1]
    have neP:∀b u,H b=some u->(∀φ,u≠.ext φ)->b≠P:=fun b u e n z=>by rw[z,hP] at e;cases e;exact n _ rfl
    have neC:∀b u,H b=some u->b≠c':=fun b u e=>aV e hcn
    have nP:∀b,H b=none->b≠P:=fun b e z=>by rw[z,hP] at e;cases e
    have hok:HOk X.prog X.w (upd (upd H P (.ext (TabA P (#[]++#[rawInt pos.line,rawInt pos.col,.ref c'])))) c' (.ext (CodA c' (X.env.qual++"<lambda>")))) h':=fun b u e=>by
      by_cases hb:b=c'
      · subst hb
        rw[ak] at e;cases e
        exact CodA.ok hrec
      · rw[aF hb] at e
        by_cases hb2:b=P
        · subst hb2
          rw[ak] at e;cases e
          exact TabA.ok htb
        · rw[aF hb2] at e
          refine (I.hok b u e).stay (fun d v hd q=>hx d v ?_ q) (fun d q=>by rw[up d (neP d _ q fun _ z=>nomatch z) (neC d _ q)];exact q) fun d xs q=>by rw[up d (neP d _ q fun _ z=>nomatch z) (neC d _ q)];exact q
          rcases hd with z|z
          · rw[z];exact hb2
          · exact neP d _ z fun _ z=>nomatch z
    have un:Un X.fs [] H (upd (upd H P (.ext (TabA P (#[]++#[rawInt pos.line,rawInt pos.col,.ref c'])))) c' (.ext (CodA c' (X.env.qual++"<lambda>")))) s.heap h':=by
      refine⟨fun b o q n _ _=>hx b o (nP b n) q,fun b o q n _ _=>⟨o.slots,hx b o (nP b n) q⟩,fun b o q n _=>?_,fun b o q _=>?_,fun b xs q=>?_,fun b o u q=>?_,fun b ps q=>⟨#[],?_⟩⟩
      · rw[up b (nP b n) (Nat.ne_of_lt (Nat.lt_of_lt_of_le (Heap.lt_size q) hge))];exact n
      · by_cases hb:b=P
        · exact⟨_,by rw[hb];exact htb⟩
        · exact⟨o,hx b o hb q⟩
      · rw[up b (neP b _ q fun _ z=>nomatch z) (neC b _ q)];exact q
      · rw[up b (neP b _ q fun _ z=>nomatch z) (neC b _ q)];exact q
      · rw[up b (neP b _ q fun _ z=>nomatch z) (neC b _ q),q];simp
    have I1:Inv X pins σ _ { s with heap:=h',toks:=tk }:=I.un un hok
    have hfn:=I1.hok.fresh (Nat.le_refl h'.objs.size)
    have I2:=I1.laid (t':=tk) (a:=h'.objs.size) (o:=.ext (FnA h'.objs.size (kla_obj "<lambda>" (X.env.qual++"<lambda>") params body scope clos ((X.mg "__name__").getD .none) c' ctv))) (h':=h'.push (kla_obj "<lambda>" (X.env.qual++"<lambda>") params body scope clos ((X.mg "__name__").getD .none) c' ctv)) (fun b u e=>Heap.get?_push_of_some _ e) (Nat.le_refl _) (FnA.ok (Heap.get?_push_size _ rfl))
    have hfP:h'.objs.size≠P:=fun z=>by
      have:=Heap.lt_size htb
      rw[←z] at this
      exact Nat.lt_irrefl _ this
    have hfc:c'≠h'.objs.size:=Nat.ne_of_lt hlt
    have hfH:H h'.objs.size=none:=by rw[←up _ hfP (Ne.symm hfc)];exact hfn
    refine h _ c' ctv _ _ I2 (fun b o e n=>?_) ⟨_,?_,.inr ⟨c',rfl,?_⟩⟩ hfH hfP ak ?_
    · rw[aF (aV e hfH),up b n (neC b _ e)];exact e
    · rw[aF (Ne.symm hfP),aF (Ne.symm hcP),ak];rfl
    · rw[aF hfc,ak]
    · rw[aF hfc,ak]
  · have hf:codeAmong pos (#[rawInt pos.line,rawInt pos.col,Value.ref c0]:Array Value).toList=some (.ref c0):=codeAmong_snoc [] trivial rfl
    refine kla_makeFunctionHit (mg:=X.mg) hcl I.ok.glob hg hcode C hPh trivial hf hb fun ctv h' tk hk hsz=>?_
    have hfn:H h'.objs.size=none:=I.hok.fresh hsz
    have I2:=I.laid (t':=tk) (a:=h'.objs.size) (o:=.ext (FnA h'.objs.size (kla_obj "<lambda>" (X.env.qual++"<lambda>") params body scope clos ((X.mg "__name__").getD .none) c0 ctv))) (h':=h'.push (kla_obj "<lambda>" (X.env.qual++"<lambda>") params body scope clos ((X.mg "__name__").getD .none) c0 ctv)) (fun b u e=>Heap.get?_push_of_some _ (hk b u e)) hsz (FnA.ok (Heap.get?_push_size _ rfl))
    have hfP:h'.objs.size≠P:=Ne.symm (aV hP hfn)
    have hfc:c0≠h'.objs.size:=aV hc0 hfn
    refine h _ c0 ctv _ _ I2 (fun b o e n=>?_) ⟨_,?_,.inr ⟨c0,rfl,?_⟩⟩ hfn hfP ak ?_
    · rw[aF (aV e hfn)];exact e
    · rw[aF (Ne.symm hfP)];exact hP
    · rw[aF hfc];exact hc0
    · rw[aF hfc];exact hc0
def ni (X:Cx)(N':List Str)(qual:Str)(scope:Scope)(f c':Addr)(cl:List (Str×Addr))(A:Around)(s:Shared)(H:Hp):Cx:=
  { prog:=X.prog,w:=X.w,K:=X.K,mg:=X.mg,base:=X.base,A:=A.deeper (envX qual scope s.heap.objs.size f (.ref c') cl),N:=N',s₀:=s,H₀:=H,env:=envX qual scope s.heap.objs.size f (.ref c') cl,outer:=X.stack,
    stack:=envX qual scope s.heap.objs.size f (.ref c') cl::X.stack,ex:=[],fn:=fun _=>false,calm:=true,pn:=[],xe:=fun _ _=>False }
theorem tZ {A:Around}{k:Nat}{f c':Addr}{name qual x:Str}{params:Arguments}{body:Expr}{scope:Scope}{cl:List (Str×Addr)}{pm ctv u:Value}{v:V}{N':List Str}{fr:St->St}{te:TE}{Q:VK}
    (I:Inv X pins σ H s) (hA:A.frames=some X.stack) (hr:Room (k+1) A) (hf:s.heap.get? f=some (kla_obj name qual params body scope cl pm c' ctv)) (hcd:s.heap.CodeRec (.ref c') qual) (rv:RelV v u)
    (hbind:bindArgs (kla_fn name qual params body scope cl pm (.ref c') ctv) ⟨[u],[]⟩=pure [(x,u)]) (hx:scope.names.lookup x=some .local) (hco:scope.isCoroutine=false) (hgen:scope.isGenerator=false) (hk:scope.kind=.function)
    (hcell:∀y∈scope.names,y.2≠.cell) (hN0:N'[0]?=some x) (hcl:∀y c,cl.lookup y=some c->X.env.cells.lookup y=some c)
    (hhas:∀y,(scope.names.lookup y=some .cell∨scope.names.lookup y=some .free)->∃c,cl.lookup y=some c) (hfl:(fr σ).length+1=N'.length)
    (hfr:∀(i:Nat) (y:Str) (v':V),N'[i+1]?=some y->(fr σ)[i]?=some (some v')->∃j:Nat,X.N[j]?=some y/\σ[j]?=some (some v')/\X.env.kindOf y=some .cell/\scope.names.lookup y=some .free)
    (he:PE (ni X N' qual scope f c' cl A s H) body te) (q:te (some v::fr σ) H Q) :
    wpAny (model X.prog X.w) A (call (.ref f) [u]) (fun u' s'=>∃v' H',Inv X pins σ H' s'/\RelV v' u'/\Q v' H') (fun _ _=>False) s:=by
  refine wpAny_call (kla_callFunE hr.depth hf rfl hco hgen rfl hcd ?_)
  rw[hbind]
  refine wpAny_pure (wpAny_newFunctionEnv hcell (fun y hy=>?_) (fun h₁ hns hsb=>⟨(I.nolimit).fresh _ hsb,?_⟩) hk)
  · have:y=(x,u):=by simpa using hy
    rw[this]
    exact hx
  show codeAny _ _ (.expr body (envX qual scope s.heap.objs.size f (.ref c') cl)) _ _
  have hk₁ : ∀ b o, s.heap.get? b = some o → h₁.get? b = some o := fun b o e => hsb.extBut b o (Nat.ne_of_lt (Heap.lt_size e)) (Heap.get?_push_of_some _ e)
  have nox:∀b:Addr,b∉(ni X N' qual scope f c' cl A s H).ex:=fun b z=>absurd (show b∈([]:List Addr) from z) (by simp)
  have ok:(ni X N' qual scope f c' cl A s H).Ok:=⟨I.ok.mod,hk,rfl,rfl,Nat.le_refl _,fun y z c h1 h2=>I.ok.inj y z c (hcl y c h1) (hcl z c h2),fun y hy=>hhas y hy,fun y c z _=>absurd (show false=true from z) (by decide),fun _=>hr.hd,Around.frames_deeper hA,.inr ⟨rfl,rfl⟩,
    fun b z=>absurd z (nox b),I.bs,Nat.le_trans I.ok.bsz I.sz,fun b _ _=>nox b,fun b z=>absurd z (nox b),I.stack,I.stkFree⟩
  have IB:Inv (ni X N' qual scope f c' cl A s H) [] (some v::fr σ) H { s with heap:=h₁,toks:=s.toks+([(x,u)]:List (Str×Value)).length }:=by
    refine⟨ok,rfl,I.bare,Un.kept hk₁,⟨_,hns,fun i y v' e1 e2 e3=>?_⟩,fun y c e=>?_,I.hok.fresh (Nat.le_refl _),fun y c e=>I.freeC y c (hcl y c e),fun p hp=>by simp[ni] at hp,I.hok.kept hk₁,by simpa [ni] using hfl⟩
    · cases i with
      | zero=>
        have ey:x=y:=Option.some.inj (hN0.symm.trans e1)
        subst ey
        have ev:v=v':=by simpa using e2
        subst ev
        refine⟨u,rv,.inl ⟨hx,?_⟩⟩
        show ([(x,u)]:List (Str×Value)).reverse.lookup x=some u
        simp
      | succ i=>
        obtain⟨j,n1,n2,n3,n4⟩:=hfr i y v' e1 (by simpa using e2)
        obtain⟨m,_,hl⟩:=I.loc
        obtain⟨u',r,l⟩:=hl j y v' n1 n2 (.inr (.inl n3))
        refine⟨u',r,.inr ⟨.inr n4,?_⟩⟩
        rcases l with⟨k,_⟩|⟨_,c,e,ic⟩
        · rw[n3] at k;cases k
        · obtain⟨c2,e'⟩:=hhas y (.inr n4)
          have e'':=hcl y c2 e'
          rw[e] at e'';cases e''
          obtain⟨o,ho,hd⟩:=ic
          exact⟨c,e',o,hk₁ c o ho,hd⟩
    · obtain⟨v',o,ho,hd⟩:=I.cell y c (hcl y c e)
      exact⟨v',o,hk₁ c o ho,hd⟩
  refine kla_codeExpr (wpAny_mono (he [] _ _ H Q IB q) (fun u' s' ⟨v',H',J,r',q'⟩=>?_) fun _ _ z=>z.elim)
  exact⟨v',H',I.call' (s':=s') (ch:=[]) J.os J.base J.hok J.bare (fun b hb=>by simp at hb),r',q'⟩
end
abbrev SRC:=V->Hp->(List V->Prop)->Prop
def uI (X:Cx)(src:SRC):Prop:=∀(pins:List (Addr×Obj)) (s:Shared) (σ:St) (H:Hp) (x:V) (u:Value) (R:List V->Prop),Inv X pins σ H s->RelV x u->src x H R->∃ys,R ys/\j4 X.prog X.w X.A.in1 s u (fun us=>Vals ys us)
section
variable {X:Cx}
theorem Inv.take {pins:List (Addr×Obj)}{σ:St}{H:Hp}{s:Shared}{a kS:Addr}{h':Heap}{ys:List V}{us:List Value}{c:Nat}{t':Nat}(I:Inv X pins σ H s)(fa:eF X pins H a)(fk:eF X pins H kS)(k:∀b o,b≠a->b≠kS->s.heap.get? b=some o->h'.get? b=some o)
    (ho:h'.get? a=some (seqObj "list" us.toArray c)) (rv:Vals ys us) (hz:ys.length<=sizeLine):Inv X pins σ (upd H a (.lst ys)) { s with heap:=h',toks:=t' }:=by
  have na:∀b u,H b=some u->b≠a:=fun b u e=>aV e fa.1
  have nk:∀b u,H b=some u->b≠kS:=fun b u e=>aV e fk.1
  have neL:∀b,b∉([a,kS]:List Addr)->b≠a/\b≠kS:=fun b hb=>⟨fun z=>hb (by simp[z]),fun z=>hb (by simp[z])⟩
  refine I.step (g':=s.gens) (d':=s.drawn) (ch:=[a,kS]) (fun b hb=>?_) (fun b o _ _ hc e _=>k b o (neL b hc).1 (neL b hc).2 e) (fun b o _ _ hc e _=>⟨o.slots,k b o (neL b hc).1 (neL b hc).2 e⟩) (fun b o hc _ n=>by rw[aF (neL b hc).1];exact n)
    (fun b o hc e=>⟨o,k b o (neL b hc).1 (neL b hc).2 e⟩) (fun b xs e=>by rw[aF (na b _ e)];exact e) (fun b o u e=>by rw[aF (na b _ e)];exact e) (fun b ps e=>⟨#[],by rw[aF (na b _ e),e];simp⟩) (fun m hm=>?_) (fun b u e=>?_) I.bare
  · rcases List.mem_cons.mp hb with rfl | hb
    · exact⟨fa.2.2.2.1,fa.2.1,fa.2.2.2.2.1,fa.2.2.2.2.2⟩
    · have e:b=kS:=by simpa using hb
      subst e
      exact⟨fk.2.2.2.1,fk.2.1,fk.2.2.2.2.1,fk.2.2.2.2.2⟩
  · obtain⟨o,es,ep,ho',r⟩:=hm
    exact⟨o,es,ep,k _ o (Ne.symm fa.2.1) (Ne.symm fk.2.1) ho',r⟩
  · by_cases hb:b=a
    · subst hb
      rw[ak] at e;cases e
      exact⟨hz,us,c,rv,ho⟩
    · rw[aF hb] at e
      refine (I.hok b u e).stay (fun d v hd q=>?_) (fun d q=>by rw[aF (na d _ q)];exact q) fun d xs q=>by rw[aF (na d _ q)];exact q
      rcases hd with z|z
      · rw[z] at q ⊢;exact k b v hb (nk b u e) q
      · exact k d v (na d _ z) (nk d _ z) q
theorem mj {pins:List (Addr×Obj)}{σ:St}{H:Hp}{s:Shared}(I:Inv X pins σ H s):∀{kvs:List V} {ks:List Value} {nss:List (List Int)},Vals kvs ks->TupsT H kvs nss->(∀ns∈nss,ns≠[])->TK s.heap ks nss
  | _,_,_,.nil,.nil,_=>.nil
  | _,_,_,.cons r t,.cons z zs,hne=>by
    refine .cons ?_ (mj I t zs fun ns hns=>hne ns (List.mem_cons_of_mem _ hns))
    obtain⟨a,rfl,ha⟩:=z
    cases r
    obtain⟨_,its,rv,ht⟩:=(show ObjOk X.prog X.w H s.heap a (.tup _) from I.hok a _ ha)
    exact⟨a,its,rfl,ht,oR rv,hne _ (List.mem_cons_self ..)⟩
def KeyV (b:Bool)(H:Hp)(k:V)(ns:List Int):Prop:=if b=true then ∃n,k=.int n/\ns=[n] else TupT H k ns
theorem KeyV.same {b:Bool}{H H':Hp}{k:V}{ns:List Int}(h:KeyV b H k ns)(s:Same H H'):KeyV b H' k ns:=by
  cases b with
  | true=>exact h
  | false=>exact TupT.same h s
theorem wj {b:Bool}{pins:List (Addr×Obj)}{σ:St}{H:Hp}{s:Shared}(I:Inv X pins σ H s){kvs:List V}{ks:List Value}{nss:List (List Int)}(rv:Vals kvs ks)(h:Paired (KeyV b H) kvs nss)(hne:∀ns∈nss,ns≠[]):TX b s.heap ks nss:=by
  cases b with
  | false=>exact mj I rv h hne
  | true=>
    show TKI ks nss
    induction h generalizing ks with
    | nil=>cases rv;exact .nil
    | cons p t ih=>
      cases rv with
      | cons r rs=>
        obtain⟨n,rfl,e⟩:=p
        obtain⟨t',e'⟩:=r
        exact .cons ⟨n,t',e',e⟩ (ih rs fun ns h=>hne ns (List.mem_cons_of_mem _ h))
def nX (bk:Bool)(P:Addr)(q:Str)(lp:Pos)(ta:TA)(src:SRC)(fr:St->St)(te:TE):TE:=fun σ H Q=>ta σ H fun xs H1=>∃x,xs=[x]/\bW H1 P q lp/\∀H2,SameB P H1 H2->bW H2 P q lp->src x H2 fun ys=>ys.length<64/\
  ∃kf:V->List Int,(∀y∈ys,kf y≠[]/\∀H3,Same H2 H3->te (some y::fr σ) H3 fun k H4=>Same H3 H4/\KeyV bk H4 k (kf y))/\∀H3 D zs,Same H2 H3->H3 D=none->SortBy .non ys (ys.map kf) zs->Q (.ref D) (upd H3 D (.lst zs))
theorem sY {bk:Bool}{k:Nat}{P c:Addr}{arg body:Expr}{params:Arguments}{scope:Scope}{lp kp p pos:Pos}{x:Str}{clos:List (Str×Addr)}{N':List Str}{fr:St->St}{ta:TA}{te:TE}{src:SRC}{q:Str}
    (hr:Room (k+3) X.A) (hg:Gl X "sorted") (hm:X.mg "sorted" = none) (ha:PA X [arg] ta) (hs:uI X src) (hq:X.env.qual++"<lambda>" = q)
    (hcl:closureFor scope X.env=pure clos) (hcode:X.env.code=.ref c) (hC:codeHdIn X.K c P=true) (hB:BM X.base X.mg) (hdef:defaultsOf params X.env=([],[]))
    (hbind:∀(c':Addr) (ctv u:Value),bindArgs (kla_fn "<lambda>" q params body scope clos ((X.mg "__name__").getD .none) (.ref c') ctv) ⟨[u],[]⟩=pure [(x,u)]) (hx:scope.names.lookup x=some .local) (hco:scope.isCoroutine=false) (hgen:scope.isGenerator=false) (hk:scope.kind=.function)
    (hcell:∀y∈scope.names,y.2≠.cell) (hN0:N'[0]?=some x) (hcl2:∀y c,clos.lookup y=some c->X.env.cells.lookup y=some c)
    (hhas:∀y,(scope.names.lookup y=some .cell∨scope.names.lookup y=some .free)->∃c,clos.lookup y=some c) (hfl:∀σ:St,σ.length=X.N.length->(fr σ).length+1=N'.length)
    (hfr:∀(σ:St) (i:Nat) (y:Str) (v':V),N'[i+1]?=some y->(fr σ)[i]?=some (some v')->∃j:Nat,X.N[j]?=some y/\σ[j]?=some (some v')/\X.env.kindOf y=some .cell/\scope.names.lookup y=some .free)
    (he:∀f c' s0 H0,PE (ni X N' q scope f c' clos X.A.in1.in1 s0 H0) body te)
    (hst:backTo pos (starEach [arg] X.env)=(false,eval arg X.env)::backTo pos (starEach [] X.env):=by rfl) (hpl:(backTo pos (starEach [arg] X.env)).any (·.1)=false:=by rfl) :
    PE X (.Call (.Name "sorted" p) [arg] [⟨some "key",.Lambda params body scope lp,kp⟩] pos) (nX bk P q lp ta src fr te):=by
  intro pins s σ H Q I h
  subst hq
  refine wpAny_Call_Name_kw (fI I hg hm (u:=.builtin "sorted") rfl ?_)
  refine callWith_kw ?_ hst hpl rfl rfl
  refine thn (ha pos pins s σ H _ I h) fun us s1 ⟨xs,H1,I1,r1,z,e,hT,q1⟩=>?_
  subst e
  obtain⟨u,rfl,ru⟩:=fL r1
  refine kws_cons (tY I1 hcl hcode hC hB hT hdef fun f c' ctv H2 s2 I2 sb hT2 hf hfP hf2 hc2=>kws_nil ?_)
  obtain⟨ys,⟨hz,kf,hkey,q2⟩,hc⟩:=hs pins s2 σ H2 z u _ I2 ru (q1 H2 sb hT2)
  show wpAny _ _ (call (.builtin "sorted") [u] [(Str.ofString "key",.ref f)]) _ _ _
  refine on hc fun us rv=>?_
  have hlen:=rv.length
  refine⟨by rw[←hlen];exact hz,fun a kS e1 i ks s'=>∃H3 kvs e,Inv X pins σ H3 s'/\eF X pins H3 a/\eF X pins H3 kS/\s'.heap.get? a=some (seqObj "list" #[] e1)/\s'.heap.get? kS=some (seqObj "list" ks.toArray e)/\Vals kvs ks/\Same H2 H3/\Paired (KeyV bk H3) kvs ((ys.take i).map kf),⟨fun h' tk a kS e1 kp sz lt hA hK=>?_,fun a kS e1 i ks s' ⟨_,_,_,_,_,_,h,_⟩=>h,fun a kS e1 i v ks e s' hne hv hl hJ hK=>?_,fun a kS e1 ks s' hne hJ hl=>?_⟩⟩
  · have szk:s2.heap.objs.size<=kS:=Nat.le_of_lt (Nat.lt_of_le_of_lt sz lt)
    exact⟨H2,[],0,I2.kept (t':=tk) kp,I2.fpOk sz (I2.hok.fresh sz),I2.fpOk szk (I2.hok.fresh szk),hA,hK,.nil,.refl _,by simp;exact .nil⟩
  · obtain⟨H3,kvs,e',I3,fa,fk,hA,hK',rk,sm,tk⟩:=hJ
    obtain⟨y,hy,ry⟩:∃y,ys[i]?=some y/\RelV y v:=by
      cases h1:ys[i]? with
      | none=>rw[Vals.none_of rv h1] at hv;cases hv
      | some y=>
        obtain⟨u',h2,h3⟩:=rv.get h1
        rw[hv] at h2;cases h2
        exact⟨y,rfl,h3⟩
    have hym:y∈ys:=List.mem_of_getElem? hy
    have IP:Inv X (pins++[(a,seqObj "list" #[] e1),(kS,seqObj "list" ks.toArray e)]) σ H3 s':=I3.pins_of fun p hp=>by
      rcases List.mem_append.mp hp with hp | hp
      · exact I3.pin p (List.mem_append_right _ hp)
      · rcases List.mem_cons.mp hp with rfl | hp
        · exact⟨hA,fa.1,fa.2.1,fa.2.2.1,fun _ z=>nomatch z⟩
        · have ep:p=(kS,seqObj "list" ks.toArray e):=by simpa using hp
          subst ep
          exact⟨hK,fk.1,fk.2.1,fk.2.2.1,fun _ z=>nomatch z⟩
    have hfh:s'.heap.get? f=some _:=(I3.hok f _ (sm _ _ hf2)).1
    have hch:s'.heap.CodeRec (.ref c') _:=(I3.hok c' _ (sm _ _ hc2)).1
    refine thn (tZ (A:=X.A.in1.in1) (k:=k) IP I.ok.frames hr.in1.in1 hfh hch ry (hbind c' ctv v) hx hco hgen hk hcell hN0 hcl2 hhas (hfl σ I3.len) (hfr σ) (he f c' s' H3) ((hkey y hym).2 H3 sm)) fun kv s4 ⟨k4,H4,I4,r4,s34,t4⟩=>?_
    have pA:=I4.pin (a,seqObj "list" #[] e1) (List.mem_append_right _ (List.mem_append_right _ (List.mem_cons_self ..)))
    have pK:=I4.pin (kS,seqObj "list" ks.toArray e) (List.mem_append_right _ (List.mem_append_right _ (List.mem_cons_of_mem _ (List.mem_cons_self ..))))
    have I4':Inv X pins σ H4 s4:=I4.unpinned
    refine⟨pK.1,fun h' cc kp hk'=>⟨H4,kvs++[k4],cc,?_,⟨pA.2.1,fa.2⟩,⟨pK.2.1,fk.2⟩,kp _ _ hne pA.1,hk',rk.append (.cons r4 .nil),sm.trans s34,?_⟩⟩
    · exact I4'.turned (t':=s4.toks) kp pK.2.1 fk.2.1 fk.2.2.2.1 fk.2.2.2.2.1 fk.2.2.2.2.2
    · have e5:ys.take (i+1)=ys.take i++[y]:=by
        rw[List.take_add_one,hy];rfl
      rw[e5,List.map_append]
      exact Paired.snoc (Paired.mapP tk fun _ _ z=>KeyV.same z s34) t4
  · obtain⟨H3,kvs,e',I3,fa,fk,hA,hK',rk,sm,tk⟩:=hJ
    rw[←hlen,List.take_length] at tk
    refine⟨bk,ys.map kf,wj I3 rk tk (fun ns hns=>?_),fun h' cc out ho kp hl'=>?_⟩
    · obtain⟨y,hy,rfl⟩:=List.mem_map.mp hns
      exact (hkey y hy).1
    · obtain⟨zs,rz,hzs⟩:=qw rv ho
      have hz2:zs.length<=sizeLine:=by
        rw[hzs.len]
        exact Nat.le_trans (Nat.le_of_lt hz) (by decide)
      exact⟨.ref a,_,I3.take (t':=s'.toks) fa fk kp hl' rz hz2,rfl,q2 H3 a zs sm fa.1 hzs⟩
end
theorem Fun.okL {P:Program}{w:World}{K:PySem.W.Frag}{mg:Str->Option Value}{base:Heap}{x qual:Str}{st:Stmt}{f c:Addr}{fd:FuncData}{N ps:List Str}{k:Nat}{sp:Sp}(F:Fun K x qual st f fd)(hc:fd.code=.ref c)(S:FnScope N ps (av st))
    (len:∀vs H Q E,sp vs H Q E->vs.length=ps.length)
    (hbody:∀(A:Around) (outer:List Env) (s:Shared) (H:Hp) (vs:List V) (Q:VK) (E:XK),Room k (A.deeper (envOfC qual (av st) s.heap.objs.size f (.ref c)))->sp vs H Q E->
      ∃t,PSs (o0 CX0 P w K mg base N qual (av st) f (.ref c) A outer s H E).nox (aN st) t/\t { nx:=fun _ H'=>Q .non H',rt:=Q } (start N vs) H):FnOk P w K mg base CX0 (k+1) f fd ps sp:=by
  obtain⟨oc,od,kV,doc,pm,an,cdv,ct,osl,e,lk,hcd⟩:=F.ex
  subst e
  have e2:cdv=.ref c:=hc
  subst e2
  exact wa lk hcd S len fun A outer s H vs Q E hr hsp=>let ⟨t,h,q⟩:=hbody A outer s H vs Q E hr hsp;⟨t,h.nox,q⟩
theorem rg {P:Program}{w:World}{K:PySem.W.Frag}{mg mb:Str->Option Value}{k:Nat}{fa a:Addr}{fd:FuncData}{x:Str}{sp:Sp}{s₁:Shared}{vs:List Value}{ns:List Int}{ts:List Addr}
    (KX:K.In s₁.heap) (hns:s₁.heap.Ns mainGlobals mg) (hb:s₁.heap.Ns builtinsNs mb) (hbb:∀x:Str,x≠"__name__"->mb x=bootBuiltins x) (hlim:s₁.heap.NoLimit) (hg:s₁.gens = #[])
    (ha:s₁.heap.get? a=some { cls:=.type "list",data:=.seq vs.toArray }) (hi:IntsAre vs ns) (hl:ns.length<=sizeLine) (hr:Room k callerA)
    (hT:∀p∈ts,s₁.heap.get? p=some (tabObj #[])/\K.lookup p=none/\isCodeTable s₁.heap p) (hBM:BM s₁.heap mg)
    (F:∀base:Heap,K.In base->base.Ns mainGlobals mg->BM base mg->FnOk P w K mg base CX0 k fa fd [x] sp) (hbind:∀(s:Shared) (u:Value),BindsTo s fd ⟨[u],[]⟩ [(x,u)])
    (hsp:∀H:Hp,SqL K H a (ns.map V.int)->(∀p∈ts,H p=some (.ext (TabA p #[])))->sp [.ref a] H (fun v H'=>v=.bl true/\∀p∈ts,∃ps,H' p=some (.ext (TabA p ps))) fun _ _ _=>False) :
    codeAny (model P w) callerA (.call (.ref fa) ⟨[.ref a],[]⟩) (fun r s'=>r=.ok (.ret (.bool true))/\OldK s₁.heap s'.heap/\s'.os=s₁.os/\AllBare s'.gens) s₁:=by
  have rv:=kg hi
  have naT:a∉ts:=fun z=>by
    have:=(hT a z).1
    rw[ha] at this;cases this
  have core:∀(Ha:Option HO) (H:Hp),(∀b,H b=if b∈ts then some (.ext (TabA b #[])) else if b=a then Ha else none)->(Ha=none∨∃o xs,Ha=some (.frz o (.lst xs))/\K.lookup a=none)->SqL K H a (ns.map V.int)->HOk P w H s₁.heap->
      codeAny (model P w) callerA (.call (.ref fa) ⟨[.ref a],[]⟩) (fun r s'=>r=.ok (.ret (.bool true))/\OldK s₁.heap s'.heap/\s'.os=s₁.os/\AllBare s'.gens) s₁:=by
    intro Ha H hH hHa hS hok
    have tr:∀b,H b≠none->b∈ts∨(b=a/\K.lookup a=none):=fun b hb=>by
      rw[hH b] at hb
      by_cases h1:b∈ts
      · exact .inl h1
      · rw[if_neg h1] at hb
        by_cases h2:b=a
        · rw[if_pos h2] at hb
          rcases hHa with z|⟨o,xs,z,q⟩
          · exact absurd z hb
          · exact .inr ⟨h2,q⟩
        · rw[if_neg h2] at hb
          exact absurd rfl hb
    have free:∀{b:Addr} {o:Obj},s₁.heap.get? b=some o->(∀ps,o.data≠.fields ps)->(∀xs n,o.data≠.seq xs n)->H b=none:=fun {b o} e n1 n2=>by
      cases q:H b with
      | none=>rfl
      | some u=>
        rcases tr b (by rw[q];simp) with z|⟨z,_⟩
        · have:=(hT b z).1
          rw[e] at this;cases this
          exact absurd rfl (n1 _)
        · subst z
          rw[ha] at e;cases e
          exact absurd rfl (n2 _ _)
    have nsK:∀{b:Addr} {m:Str->Option Value},s₁.heap.Ns b m->(lX s₁.heap H).Ns b m:=fun {b m} ⟨o,es,ep,e,d,r⟩=>⟨o,es,ep,jR e (free e (fun _ z=>by rw[d] at z;cases z) fun _ _ z=>by rw[d] at z;cases z),d,r⟩
    have hKb:K.In (lX s₁.heap H):=fun b o e=>jR (KX b o e) (by
      cases q:H b with
      | none=>rfl
      | some u=>
        rcases tr b (by rw[q];simp) with z|⟨z,z2⟩
        · rw[(hT b z).2.1] at e;cases e
        · rw[z,z2] at e;cases e)
    have hBb:BM (lX s₁.heap H) mg:=by
      obtain⟨bm,ob,b1,b2,b3,b4,b5,b6⟩:=hBM
      exact⟨bm,ob,b1,b2,jR b3 (free b3 (fun _ z=>by rw[b6] at z;cases z) fun _ _ z=>by rw[b6] at z;cases z),b4,b5,b6⟩
    have hM:Mod K mg (lX s₁.heap H):=⟨hKb,nsK hns,⟨mb,nsK hb,hbb⟩,let ⟨mc,h1,h2⟩:=hlim;⟨mc,nsK h1,h2⟩⟩
    have e0:Env0 P w K mg (lX s₁.heap H) callerA [] s₁ H:=⟨rfl,hM,fun b o e=>vt e,Nat.le_of_eq (rA _ _),trivial,fun b hb=>absurd (show b∈([]:List Addr) from hb) (by simp),hok,.of_eq hg⟩
    refine codeAny_mono ((F _ hKb (nsK hns) hBb).run callerA [] s₁ H ⟨[.ref a],[]⟩ [.ref a] [.ref a] _ _ hr e0 (hbind s₁ (.ref a)) (.cons rfl .nil) (hsp H hS fun p hp=>by rw[hH p,if_pos hp])) fun r s' h=>?_
    cases r with
    | error e=>exact False.elim h
    | ok fl=>
      cases fl with
      | next=>exact False.elim h
      | brk=>exact False.elim h
      | cont=>exact False.elim h
      | ret u=>
        obtain⟨v,H',os,bare,un,hok',r',q,qT⟩:=h
        subst q
        obtain rfl:u=Value.bool true:=r'
        have tab:∀p∈ts,∃ps,s'.heap.get? p=some (tabObj ps):=fun p hp=>by
          obtain⟨ps,e⟩:=qT p hp
          exact⟨ps,(hok' p _ e).1⟩
        have old:∀b o,s₁.heap.get? b=some o->b∉ts->s'.heap.get? b=some o:=fun b o e n=>by
          cases q:H b with
          | none=>exact un.keep b o e q (fun z=>absurd (show b∈([]:List Addr) from z) (by simp)) (by simp)
          | some u=>
            rw[hH b,if_neg n] at q
            by_cases h2:b=a
            · rw[if_pos h2] at q
              rcases hHa with z|⟨ob,xs,z,_⟩
              · rw[z] at q;cases q
              · have hb':H b=some (.frz ob (.lst xs)):=by rw[hH b,if_neg n,if_pos h2,z]
                have z2:=un.frzs b ob _ hb'
                obtain⟨e1,_⟩:=hok b _ hb'
                obtain⟨e2,_⟩:=hok' b _ z2
                rw[e] at e1;cases e1
                exact e2
            · rw[if_neg h2] at q;cases q
        refine⟨rfl,⟨fun b o e=>?_,fun b o e=>?_⟩,os,bare⟩
        · by_cases hb:b∈ts
          · obtain⟨ps,e2⟩:=tab b hb
            have e3:=(hT b hb).1
            rw[e] at e3;cases e3
            exact .inr (.inl ⟨(hT b hb).2.2,rfl,#[],ps,rfl,by rw[e2];simp⟩)
          · exact .inl (old b o e hb)
        · by_cases hb:b∈ts
          · obtain⟨ps,e2⟩:=tab b hb
            exact⟨_,e2⟩
          · exact⟨o,old b o e hb⟩
  have lenV:=hi.length
  cases hk:K.lookup a with
  | some o=>
    have e:=KX a o hk
    rw[ha] at e
    cases e
    refine core none (fun b=>if b∈ts then some (.ext (TabA b #[])) else if b=a then none else none) (fun b=>rfl) (.inl rfl) (.inr ⟨_,vs.toArray,_,hk,rfl,rfl,rfl,by rw[List.size_toArray,lenV];exact hl,by simpa using rv⟩) fun b u z=>?_
    by_cases h1:b∈ts
    · have z':=(if_pos h1).symm.trans z
      cases z'
      exact TabA.ok (hT b h1).1
    · have z':=(if_neg h1).symm.trans z
      split at z' <;> cases z'
  | none=>
    refine core (some (.frz { cls:=.type "list",data:=.seq vs.toArray } (.lst (ns.map V.int)))) (fun b=>if b∈ts then some (.ext (TabA b #[])) else if b=a then some (.frz { cls:=.type "list",data:=.seq vs.toArray } (.lst (ns.map V.int))) else none) (fun b=>rfl) (.inr ⟨_,_,rfl,hk⟩) (.inl (.inr ⟨{ cls:=.type "list",data:=.seq vs.toArray },(if_neg naT).trans (if_pos rfl)⟩)) fun b u z=>?_
    by_cases h1:b∈ts
    · have z':=(if_pos h1).symm.trans z
      cases z'
      exact TabA.ok (hT b h1).1
    · have z':=(if_neg h1).symm.trans z
      by_cases hb:b=a
      · have z2:=(if_pos hb).symm.trans z'
        cases z2
        subst hb
        exact⟨ha,by rw[List.length_map];exact hl,vs,_,rv,ha⟩
      · have z2:=(if_neg hb).symm.trans z'
        cases z2
theorem walk_ofT {l:PySem.W.OpenLaw}{n k:Nat}{q:Program}{loose:List Str}{XP:(Str->Option Value)->Heap->Prop}{YP:World->Heap->Prop}{d:DefRec}{K:Params->PySem.W.Frag}{sp:World->Sp}{x:Str}{ts:List Addr}
    (hn:l.most=some n) (hn2:n<=sizeLine) (hdf:d.params.defaults=[]) (hr:Room k callerA) (hY:∀(w:World) (h:Heap),YP w h->(K w.params).In h) (hTs:∀(w:World) (h:Heap),YP w h->∀p∈ts,h.get? p=some (tabObj #[]))
    (F:∀(w:World) (mg:Str->Option Value) (fa:Addr) (h:Heap),(K w.params).In h->h.Ns mainGlobals mg->mg d.name=some (.ref fa)->
      (∀p∈ts,(K w.params).lookup p=none/\∃c,codeHdIn (K w.params) c p=true)/\∃fd:FuncData,(∀(s:Shared) (u:Value),BindsTo s fd ⟨[u],[]⟩ [(x,u)])/\∀base:Heap,(K w.params).In base->base.Ns mainGlobals mg->BM base mg->FnOk l.prog w (K w.params) mg base CX0 k fa fd [x] (sp w))
    (hsp:∀(w:World) (H:Hp) (a:Addr) (ns:List Int),ns.length<=n->SqL (K w.params) H a (ns.map V.int)->(∀p∈ts,H p=some (.ext (TabA p #[])))->sp w [.ref a] H (fun v H'=>v=.bl true/\∀p∈ts,∃ps,H' p=some (.ext (TabA p ps))) fun _ _ _=>False) :
    PySem.W.WalkO q loose XP YP l.row.toRowW d [] (fun f vs=>PySem.call f vs):=by
  refine Att.attach_call hn hdf fun w s₀ s₁ mg mb fa o pm cd doc a vs ns G Y ho hd hcd hmg hobj hints hlen hg=>?_
  have KX:=hY w _ Y
  obtain⟨hKt,fd,hb,hF⟩:=F w mg fa _ KX G.T.g hmg
  refine rg (ts:=ts) KX G.T.g G.T.b G.T.builtins G.T.nolimit hg hobj hints (Nat.le_trans hlen hn2) hr (fun p hp=>⟨hTs w _ Y p hp,(hKt p hp).1,?_⟩) G.T.bmain hF hb fun H hS hT=>hsp w H a ns hlen hS hT
  obtain⟨c,hc⟩:=(hKt p hp).2
  obtain⟨o,vs',file,tf,fl,tg,b,n',tt,e1,e2,e3,e4,_⟩:=codeHd_of_K KX hc
  exact⟨c,o,vs',e1,e2,e3,e4⟩
section
variable {X:Cx}
theorem qR {bk:Bool}{k:Nat}{P c cy:Addr}{arg body:Expr}{params:Arguments}{scope:Scope}{lp kp p pos:Pos}{x y q:Str}{ta:TA}{te:TE}{src:SRC}(j:Nat)
    (hr:Room (k+3) X.A) (hg:Gl X "sorted") (hm:X.mg "sorted" = none) (ha:PA X [arg] ta) (hs:uI X src) (hq:X.env.qual++"<lambda>" = q)
    (hcl:closureFor scope X.env=pure [(y,cy)]) (hcode:X.env.code=.ref c) (hC:codeHdIn X.K c P=true) (hB:BM X.base X.mg) (hdef:defaultsOf params X.env=([],[]))
    (hbind:∀(c':Addr) (ctv u:Value),bindArgs (kla_fn "<lambda>" q params body scope [(y,cy)] ((X.mg "__name__").getD .none) (.ref c') ctv) ⟨[u],[]⟩=pure [(x,u)]) (hx:scope.names.lookup x=some .local) (hco:scope.isCoroutine=false) (hgen:scope.isGenerator=false) (hk:scope.kind=.function)
    (hcell:∀y∈scope.names,y.2≠.cell) (hcy:X.env.cells.lookup y=some cy) (hNj:X.N[j]?=some y) (hky:X.env.kindOf y=some .cell) (hfy:scope.names.lookup y=some .free)
    (hall:(scope.names.all fun p=>(p.2 != .cell && p.2 != .free) || p.1 == y)=true)
    (he:∀f c' s0 H0,PE (ni X [x,y] q scope f c' [(y,cy)] X.A.in1.in1 s0 H0) body te)
    (hst:backTo pos (starEach [arg] X.env)=(false,eval arg X.env)::backTo pos (starEach [] X.env)) (hpl:(backTo pos (starEach [arg] X.env)).any (·.1)=false) :
    PE X (.Call (.Name "sorted" p) [arg] [⟨some "key",.Lambda params body scope lp,kp⟩] pos) (nX bk P q lp ta src (fun σ=>[(σ[j]?).join]) te):=by
  refine sY (N':=[x,y]) (clos:=[(y,cy)]) hr hg hm ha hs hq hcl hcode hC hB hdef hbind hx hco hgen hk hcell rfl (fun y' c' h=>?_) (fun y' h=>?_) (fun _ _=>rfl) (fun σ i y' v e1 e2=>?_) he hst hpl
  · obtain⟨rfl,rfl⟩:=eD h
    exact hcy
  · rw[List.all_eq_true] at hall
    have key:∀k,(k=.cell∨k=.free)->scope.names.lookup y'=some k->y'=y:=fun k hk e=>by
      have:=hall _ (dF e)
      rcases hk with rfl|rfl
      · simpa using this
      · simpa using this
    have e:y'=y:=by
      rcases h with h|h
      · exact key _ (.inl rfl) h
      · exact key _ (.inr rfl) h
    subst e
    exact⟨cy,by rw[List.lookup_cons,beq_self_eq_true]⟩
  · match i,e1,e2 with
    | 0,e1,e2=>
      have e1':y=y':=by simpa using e1
      subst e1'
      have e2':(σ[j]?).join=some v:=by simpa using e2
      refine⟨j,hNj,?_,hky,hfy⟩
      cases h:σ[j]? with
      | none=>rw[h] at e2';cases e2'
      | some o=>rw[h] at e2';have:o=some v:=e2';rw[this]
    | i+1,e1,_=>simp at e1
end
theorem t6 (k:List Int):(k.map Sum.inl:List Key).map kV=k.map V.int:=by
  rw[List.map_map];rfl
def kc (kvs:List (List Int×V)):List (List Key×V):=kvs.map fun p=>(p.1.map Sum.inl,p.2)
theorem xw {a b:List Int}(h:(a.map Sum.inl:List Key)=b.map Sum.inl):a=b:=by
  induction a generalizing b with
  | nil=>cases b with
    | nil=>rfl
    | cons _ _=>cases h
  | cons x a ih=>cases b with
    | nil=>cases h
    | cons y b=>
      simp only[List.map_cons,List.cons.injEq,Sum.inl.injEq] at h
      rw[h.1,ih h.2]
theorem rJ {kvs:List (List Int×V)}{k:List Int}(h:k∈kvs.map (·.1)):∃v,(k,v)∈kvs/\i6 (kc kvs) (k.map Sum.inl)=some v:=by
  induction kvs with
  | nil=>simp at h
  | cons p r ih=>
    by_cases e:p.1=k
    · exact⟨p.2,by rw[←e];exact List.mem_cons_self ..,jn (p:=(p.1.map Sum.inl,p.2)) (by rw[e])⟩
    · have h':k∈r.map (·.1):=by
        rw[List.map_cons] at h
        rcases List.mem_cons.mp h with z|z
        · exact absurd z.symm e
        · exact z
      obtain⟨v,h1,h2⟩:=ih h'
      exact⟨v,List.mem_cons_of_mem _ h1,(jo (p:=(p.1.map Sum.inl,p.2)) (fun z=>e (xw z))).trans h2⟩
end L2
namespace L2
open PySem PySem.Spec PyProof.Rows
def Ite (a:Addr):It:=
  ⟨fun i H=>∃xs x,H a=some (.lst xs)/\xs[i]?=some x,
   fun i H v H'=>∃p x,H p=none/\v=.ref p/\H'=upd H p (.tup [.int i,x])/\∀xs,H a=some (.lst xs)->xs[i]?=some x,
   fun i H=>∃xs,H a=some (.lst xs)/\xs.length<=i⟩
theorem qy {P:Program}{w:World}{K:PySem.W.Frag}{es:List Expr}{n1}{pos:Pos}{e it a:Addr}(hne:e≠it):Turn P w K (.Tuple es n1 pos) (Ite a) [e,it] e (fun i h=>(∃old,IsEnum h e it i old)/\h.IsListIter it a i) where
  mem:=by simp
  obj:=fun i h st b hb=>by
    obtain⟨⟨old,he⟩,o,ho,_,hd⟩:=st
    simp only [List.mem_cons, List.not_mem_nil, or_false] at hb
    rcases hb with rfl|rfl
    · exact⟨_,he,fun v z=>nomatch z⟩
    · exact⟨_,ho,fun v z=>by rw[hd] at z;cases z⟩
  keep:=fun i h h' st k=>by
    obtain⟨⟨old,he⟩,o,ho,r⟩:=st
    exact⟨⟨old,k e (by simp) _ he⟩,o,k it (by simp) _ ho,r⟩
  item:=by
    intro X hP hw hK hc i pins s σ H E I hf st hg
    subst hP hw hK
    obtain⟨xs,x,ha,ex⟩:=hg
    obtain⟨⟨old,he⟩,hit⟩:=st
    obtain⟨_,its,n,ru,e'⟩:=(show ObjOk X.prog X.w H s.heap a (.lst xs) from I.hok a _ ha)
    obtain⟨u,hu,rxu⟩:=ru.get ex
    have hl:s.heap.IsList a its.toArray:=⟨_,e',rfl,n,rfl⟩
    refine wpAny_pyNext_enum_item he hit hl (x:=u) (by simpa using hu) hne fun h1 a1 a2 a3 a4 a5=>⟨_,rfl,?_⟩
    refine wpAny_letOwnedTupleGo_enum (s:={ s with heap:=h1,toks:=s.toks+1 }) a1 fun h2 he2 sb=>?_
    have el:=Heap.lt_size he
    have fr:H s.heap.objs.size=none:=I.hok.fresh (Nat.le_refl _)
    have up:∀b o,b≠e->h1.get? b=some o->h2.get? b=some o:=fun b o n g=>sb.extBut _ _ n g
    have hT:IsPair h2 s.heap.objs.size (.int i s.toks) u:=up _ _ (Nat.ne_of_gt el) a3
    have I2:Inv X pins σ (upd H s.heap.objs.size (.tup [.int i,x])) { s with heap:=h2 }:=I.turnedT (ch:=[e,it]) (fun b o n g=>by
      simp only[List.mem_cons,List.not_mem_nil,or_false,not_or] at n
      exact up b o n.1 (a5 b o n.1 n.2 g)) hf hT ⟨_,rfl⟩ rxu
    refine⟨.ref s.heap.objs.size,upd H s.heap.objs.size (.tup [.int i,x]),I2.tok _,rfl,⟨_,x,fr,rfl,rfl,fun xs' h=>?_⟩,⟨⟨u,?_⟩,a2.at fun o g=>up _ o (Ne.symm hne) g⟩,fun b hb=>?_⟩
    · rw[ha] at h
      cases h
      exact ex
    · exact he2
    · have:b≠s.heap.objs.size:=by
        simp only [List.mem_cons, List.not_mem_nil, or_false] at hb
        rcases hb with rfl|rfl
        · exact Nat.ne_of_lt el
        · obtain⟨o,ho,_⟩:=hit
          exact Nat.ne_of_lt (Heap.lt_size ho)
      rw[aF this];exact (hf b hb).1
  done:=by
    intro X hP hw hK hc i pins s σ H E I hf st hg
    subst hP hw hK
    obtain⟨xs,ha,hl'⟩:=hg
    obtain⟨⟨old,he⟩,hit⟩:=st
    obtain⟨_,its,n,ru,e'⟩:=(show ObjOk X.prog X.w H s.heap a (.lst xs) from I.hok a _ ha)
    have hl:s.heap.IsList a its.toArray:=⟨_,e',rfl,n,rfl⟩
    have l1:=ru.length
    refine wpAny_pyNext_enum_end (I.ok.hd hc) he hit hl (by simp;omega) fun h' ext=>⟨rfl,I.turnedL (ch:=[e,it]) (fun b o n g=>?_) hf⟩
    simp only[List.mem_cons,List.not_mem_nil,or_false,not_or] at n
    exact ext b o n.2 g
  self:=fun _ _ _ _ _ st h=>by
    obtain⟨⟨old,he⟩,_⟩:=st
    exact wpAny_pyIter_enum he h
section
variable {X:Cx}
def qf (t:TA):TI:=fun σ H R=>t σ H fun vs H1=>∃a xs,vs=[.ref a]/\H1 a=some (.lst xs)/\R (Ite a) H1
theorem pU {es:List Expr}{n1}{tp:Pos}{e:Expr}{ta:TA}{p pos:Pos}(hg:Gl X "enumerate")(hm:X.mg "enumerate" = none)(hb:bootBuiltins "enumerate" = some (.type "enumerate"))(ha:PA X [e] ta)
    (hs:starEach [e] X.env=[(false,eval e X.env)]:=by rfl):PI X (.Tuple es n1 tp) (.Call (.Name "enumerate" p) [e] [] pos) (qf ta):=by
  intro pins s σ H R I h
  refine Call_ (fI I hg hm hb (PyProof.Rows.callWith_type1 (thn (ha pos pins s σ H _ I h) fun us s1 ⟨vs,H1,I1,r1,q1⟩=>?_) (by rw[hs];rfl) (by rfl)))
  obtain⟨a,xs,rfl,h1,q⟩:=q1
  cases r1 with
  | cons r rr=>
    cases rr
    cases r
    obtain⟨_,its,n,ru,e'⟩:=(show ObjOk X.prog X.w H1 s1.heap a (.lst xs) from I1.hok a _ h1)
    refine call_enumerate_list (items:=its.toArray) ⟨_,e',rfl,n,rfl⟩ fun h' z1 z2 z3 k=>?_
    refine wpAny_pyIter_enum (s:={ s1 with heap:=h' }) z1 ?_
    refine⟨s1.heap.objs.size+1,[s1.heap.objs.size+1,s1.heap.objs.size],_,_,H1,rfl,I1.kept (t':=s1.toks) k,qy (Nat.ne_of_gt (Nat.lt_succ_self _)),⟨⟨_,z1⟩,z2⟩,fun b hb=>?_,q⟩
    have ge:s1.heap.objs.size<=b:=by
      simp only [List.mem_cons, List.not_mem_nil, or_false] at hb
      rcases hb with rfl|rfl <;> omega
    exact I1.fpOk ge (I1.hok.fresh ge)
end
theorem uy {a:Addr}{xs:List V}{g:TG}{tb:TS}{D:Ends}{σ:St}{H:Hp}(Pv:Nat->St->Hp->Prop)(h0:Pv 0 σ H)(hl:∀i σ H,i<=xs.length->Pv i σ H->H a=some (.lst xs))
    (hs:∀(i:Nat) x σ H p,xs[i]?=some x->Pv i σ H->H p=none->g (.ref p) σ (upd H p (.tup [.int i,x])) fun σ2 H2=>tb { D with nx:=Pv (i+1),ct:=Pv (i+1),bk:=D.nx } σ2 H2) (hd:∀σ H,Pv xs.length σ H->D.nx σ H) (te:TA) (ha:PuA te σ H [.ref a]):nY (qf te) g tb D σ H:=by
  refine ha _ ⟨a,xs,rfl,hl 0 σ H (Nat.zero_le _) h0,?_⟩
  refine⟨fun i m σ H=>m=xs.length - i/\i<=xs.length/\Pv i σ H,⟨_,rfl,Nat.zero_le _,h0⟩,?_⟩
  rintro i m σ H ⟨rfl,hi,p⟩
  have q:=hl i σ H hi p
  by_cases hlt:i<xs.length
  · refine .inr ⟨⟨xs,xs[i],q,by simp[hlt]⟩,Pv (i+1),fun σ' H' p'=>⟨xs.length - (i+1),by omega,rfl,hlt,p'⟩,fun x H' y=>?_⟩
    obtain⟨pa,x',hpa,rfl,rfl,hx⟩:=y
    exact hs i x' σ H pa (hx xs q) p hpa
  · have e:i=xs.length:=by omega
    subst e
    exact .inl ⟨⟨xs,q,Nat.le_refl _⟩,hd σ H p⟩
theorem uS {a:Addr}{xs:List V}{g:TG}{tb rest:TS}{D:Ends}{σ:St}{H:Hp}{te:TA}(ha:PuA te σ H [.ref a])(Pv:Nat->St->Hp->Prop)(h0:Pv 0 σ H)(hl:∀i σ H,i<=xs.length->Pv i σ H->H a=some (.lst xs))
    (hs:∀(i:Nat) x σ H p,xs[i]?=some x->Pv i σ H->H p=none->g (.ref p) σ (upd H p (.tup [.int i,x])) fun σ2 H2=>tb { D with nx:=Pv (i+1),ct:=Pv (i+1),bk:=rest D } σ2 H2) (hd:∀σ H,Pv xs.length σ H->rest D σ H):dQ (nY (qf te) g tb) rest D σ H:=
  uy (D:={ D with nx:=rest D }) Pv h0 hl hs hd te ha
end L2
namespace L2
open PySem PySem.Spec PyProof.Rows PySem.SeqAt PyProof.V
def FW (W:Addr->Prop)(H H':Hp):Prop:=∀b o,H b=some o->¬W b->H' b=some o
theorem FW.trans {W:Addr->Prop}{H H1 H2:Hp}(a:FW W H H1)(b:FW W H1 H2):FW W H H2:=fun c o h n=>b c o (a c o h n) n
theorem Same.fw {W:Addr->Prop}{H H1:Hp}(a:Same H H1):FW W H H1:=fun c o h _=>a c o h
theorem SameB.fw {W:Addr->Prop}{H H1:Hp}{D:Addr}(a:SameB D H H1)(w:W D):FW W H H1:=fun c o h n=>a c o h fun e=>n (e▸w)
end L2
namespace L2
open PySem PySem.Spec PyProof.Rows PySem.W
def jY (a:Addr)(n:Nat):Heap->Prop:=fun h=>∃t u v,IsRange h a 0 n 1 t u v
section
variable {X:Cx}
theorem nK:eM X (.type "range") (fun xs H Q=>∃n:Nat,xs=[.int n]/\∀p,H p=none->Q (.ref p) (upd H p (.ext (jY p n)))):=by
  intro pins s σ H xs us Q I r h
  obtain⟨n,rfl,q⟩:=h
  obtain⟨u,rfl,ru⟩:=fL r
  obtain⟨t,rfl⟩:=(show ∃t,u=Value.int n t from ru)
  refine call_range_1 ⟨.ref _,_,I.laid (t':=s.toks+1+1) (o:=.ext (jY s.heap.objs.size n)) (fun b o e=>Heap.get?_push_of_some _ e) (Nat.le_refl _) ?_,rfl,q _ (I.hok.fresh (Nat.le_refl _))⟩
  exact⟨⟨_,_,_,IsRange.new ..⟩,⟨_,Heap.get?_push_size _ rfl⟩,fun h1 h2 ⟨a,b,c,p⟩ k=>⟨a,b,c,k _ p⟩⟩
end
section
variable {prog:Program}{w:World}{A:Around}{E:Value->Shared->Prop}{s:Shared}
theorem jV {r:Addr}{n:Nat}{t u v:Tok}(hh:A.handled=none)(hr:IsRange s.heap r 0 n 1 t u v)(hn:n<=1000):j4 prog w A s (.ref r) (fun us=>us.length=n/\∀(i:Nat) x,us[i]?=some x->∃t,x=.int i t):=fun E Q h=>by
  unfold collect
  refine wpAny_bind (wpAny_runValue (codeAny_builtin entry_proto_collect' ?_))
  show wpAny _ _ (do again (.builtin "list.__iadd__" ⟨[←newList [],.ref r],[]⟩)) _ _ s
  refine wpAny_bind (wpAny_newList (wpAny_pure ⟨Code.quiet_builtin _ (by decide +kernel), codeAny_builtin entry_list_iadd' ?_⟩))
  show wpAny _ _ (Builtin.List.listExtendWith (.ref s.heap.objs.size) (.ref r) (.ref s.heap.objs.size)) _ _ { s with heap:=s.heap.push (seqObj "list" #[] 0) }
  rw[Around.under_plainId (id:="list.__iadd__") (by decide +kernel)]
  refine wpAny_extend_range (s:={ s with heap:=s.heap.push (seqObj "list" #[] 0) }) (A:=A) (n:=n) (R:=fun r s'=>match r with
    | .ok (.ret v)=>wpAny (model prog w) A (match v with
      | .ref a=>do
        let o ←load a
        match o.data with
        | .seq xs _=>pure xs.toList
        | _ => unsupported "internal:collect"
      | _=>unsupported "internal:collect") Q E s'
    | .ok _=>False
    | .error e=>E e s') (by exact hh) (Heap.get?_push_of_some _ hr) (small_one (by omega) (by omega) (by omega) (by omega)) (by rw[rangeSize_one];split <;> omega) (by omega) _ _ 0 (Heap.get?_push_size _ rfl) fun h' tk acc c hk hS it=>?_
  show wpAny (model prog w) A (do
      let o ←load s.heap.objs.size
      match o.data with
      | .seq xs _=>pure xs.toList
      | _=>unsupported "internal:collect") Q E { s with heap:=h',toks:=tk }
  refine wpAny_bind (wpAny_load hS ?_)
  show wpAny _ _ (pure acc.toList) Q E _
  refine wpAny_pure (h _ h' tk ⟨by simpa using it.1,fun i x hx=>?_⟩ (fun b o e=>hk b o (Nat.ne_of_lt (Heap.lt_size e)) (Heap.get?_push_of_some _ e)) (Nat.le_of_lt (Heap.lt_size hS)))
  obtain⟨t,e⟩:=it.2 i x (by simpa using hx)
  exact⟨t,by rw[e,Int.zero_add,Int.mul_one]⟩
end
def xg:SRC:=fun x H R=>∃a n,x=.ref a/\H a=some (.ext (jY a n))/\n<=1000/\R ((List.range n).map fun (i:Nat)=>V.int i)
theorem nR {n:Nat}{us:List Value}(h1:us.length=n)(h2:∀(i:Nat) x,us[i]?=some x->∃t,x=.int i t):Vals ((List.range n).map fun (i:Nat)=>V.int i) us:=by
  have key:∀(us:List Value) (k:Nat),(∀(i:Nat) x,us[i]?=some x->∃t,x=.int ((k+i:Nat):Int) t)->Vals ((List.range' k us.length).map fun (i:Nat)=>V.int i) us:=by
    intro us
    induction us with
    | nil=>intro k _;exact .nil
    | cons u us ih=>
      intro k h
      rw[List.length_cons,List.range'_succ]
      refine .cons (h 0 u rfl) (ih (k+1) fun i x hx=>?_)
      obtain⟨t,e⟩:=h (i+1) x (by simpa using hx)
      exact⟨t,by rw[e];congr 1;omega⟩
  rw[List.range_eq_range',←h1]
  exact key us 0 fun i x hx=>by obtain⟨t,e⟩:=h2 i x hx;exact⟨t,by rw[e];congr 1;omega⟩
theorem mz {X:Cx}(hc:X.calm=true):uI X xg:=fun pins s σ H x u R I r ⟨a,n,e,h,hn,q⟩=>by
  subst e
  obtain rfl:u=Value.ref a:=r
  obtain⟨⟨t,u,v,hr⟩,_,_⟩:=(show ObjOk X.prog X.w H s.heap a (.ext (jY a n)) from I.hok a _ h)
  exact⟨_,q,fun E Q k=>jV (A:=X.A.in1) (by exact I.ok.hd hc) hr hn E Q fun us h' tk ⟨l,z⟩ kp sz=>k us h' tk (nR l z) kp sz⟩
theorem uk {P:Addr}{q:Str}{lp:Pos}{ta:TA}{fr:St->St}{te:TE}{σ:St}{H:Hp}{n:Nat}{R:VK}{RA:List V->Hp->Prop}(ha:GvA ta σ H RA)(hra:∀vs H1,RA vs H1->∃r,vs=[.ref r]/\r≠P/\H1 r=some (.ext (jY r n))/\bW H1 P q lp/\n<64/\
    ∀H2,SameB P H1 H2->bW H2 P q lp->∃kf:Nat->Int,(∀i<n,∀H3,Same H2 H3->Gv te (some (.int (i:Nat))::fr σ) H3 (fun k H4=>Same H3 H4/\k=.int (kf i)))/\
      ∀H3 D (p:List Nat),Same H2 H3->H3 D=none->p.Perm (List.range n)->p.Pairwise (fun i j=>kf i<=kf j)->R (.ref D) (upd H3 D (.lst (p.map fun i=>.int (i:Nat))))) :
    Gv (nX true P q lp ta xg fr te) σ H R:=fun Q f=>ha _ fun vs H1 r1=>by
  obtain⟨r,rfl,hne,hr,hT,hn,h⟩:=hra vs H1 r1
  refine⟨_,rfl,hT,fun H2 s t=>?_⟩
  obtain⟨kf,h2,h3⟩:=h H2 s t
  refine⟨r,n,rfl,s r _ hr hne,by omega,by simpa using hn,fun v=>match v with | .int i=>[kf i.toNat] | _=>[0],fun y hy=>?_,fun H3 D zs s3 hD hz=>f _ _ ?_⟩
  · obtain⟨i,hi,rfl⟩:=List.mem_map.mp hy
    refine⟨by simp,fun H3 s3=>?_⟩
    refine h2 i (List.mem_range.mp hi) H3 s3 _ fun k H4 ⟨s4,e⟩=>⟨s4,?_⟩
    show ∃n,k=.int n/\[kf ((i:Int)).toNat]=[n]
    exact⟨kf i,e,by simp⟩
  · obtain⟨zs',z1,z2,z3⟩:=hz.zip (by simp)
    have e1:(((List.range n).map fun (i:Nat)=>V.int i).zip (((List.range n).map fun (i:Nat)=>V.int i).map fun v=>match v with | .int i=>[kf i.toNat] | _=>[0]))=(List.range n).map fun i=>(V.int (i:Nat),[kf i]):=by
      rw[List.map_map]
      have:∀l:List Nat,(l.map fun (i:Nat)=>V.int i).zip (l.map ((fun v=>match v with | V.int i=>[kf i.toNat] | _=>[0])∘fun (i:Nat)=>V.int i))=l.map fun i=>(V.int (i:Nat),[kf i]):=by
        intro l
        induction l with
        | nil=>rfl
        | cons a l ih=>simp only[List.map_cons,List.zip_cons_cons,ih,Function.comp];simp
      exact this _
    rw[e1] at z1
    have key:∀{zs:List (V×List Int)} {l:List Nat},zs.Perm (l.map fun i=>(V.int (i:Nat),[kf i]))->∃p:List Nat,p.Perm l/\zs=p.map fun i=>(V.int (i:Nat),[kf i]):=by
      intro zs l h
      refine⟨zs.map fun z=>match z.1 with | .int i=>i.toNat | _=>0,?_,?_⟩
      · have:=h.map (fun z:V×List Int=>match z.1 with | .int i=>i.toNat | _=>0)
        rw[List.map_map] at this
        refine this.trans ?_
        have e:l.map ((fun z:V×List Int=>match z.1 with | .int i=>i.toNat | _=>0)∘fun i=>(V.int (i:Nat),[kf i]))=l:=by
          conv => rhs; rw [← List.map_id l]
          exact List.map_congr_left fun i _ => by simp
        rw[e]
      · have hm:∀z∈zs,∃i:Nat,z=(V.int (i:Nat),[kf i]):=fun z hz=>by
          obtain⟨i,_,e⟩:=List.mem_map.mp (h.mem_iff.mp hz)
          exact⟨i,e.symm⟩
        rw[List.map_map]
        conv=>lhs;rw[←List.map_id zs]
        refine List.map_congr_left fun z hz=>?_
        obtain⟨i,rfl⟩:=hm z hz
        simp
    obtain⟨p,p1,p2⟩:=key z1
    have e3:zs=p.map fun i=>V.int (i:Nat):=by rw[z2,p2,List.map_map];rfl
    rw[e3]
    refine h3 H3 D p s3 hD p1 ?_
    rw[p2,List.pairwise_map] at z3
    refine z3.imp fun {a b} h=>?_
    have:decide (kf b<kf a)=false:=by rw[←qa];exact h
    have:=of_decide_eq_false this
    omega
section
variable {X:Cx}
abbrev KE4:=(List Int×Addr)×(V×Addr)
def wB:List V->Hp->VK->Prop:=fun xs H Q=>∃(l:Addr) (ks:List KE4),xs=[.ref l]/\H l=some (.lst (ks.map fun k=>.ref k.2.2))/\ks.length<=1000/\(ks.map (·.1.1)).Nodup/\
  (∀k∈ks,H k.2.2=some (.tup [.ref k.1.2,k.2.1])/\H k.1.2=some (.tup (k.1.1.map V.int)))/\∀d,H d=none->Q (.ref d) (upd H d (.dT (kc (ks.map fun k=>(k.1.1,k.2.1)))))
theorem n6 {K:Type}[DecidableEq K]{ys:List (List K×Addr×Value)}{k:List K}{a:Addr}{v:Value}(h:k∉ys.map (·.1)):storedH ys k a v=ys++[(k,a,v)]:=by
  unfold storedH
  rw[if_neg]
  intro hs
  have:(ys.find? fun p=>decide (p.1=k))≠none:=by
    intro e
    unfold atKey at hs
    simp[e] at hs
  rw[ne_eq,List.find?_eq_none] at this
  exact this fun y hy e=>h (List.mem_map.mpr ⟨y,hy,by simpa using e⟩)
theorem kQ {K:Type}[DecidableEq K]:∀(xs ys:List (List K×Addr×Value)),((ys++xs).map (·.1)).Nodup->xs.foldl (fun ys x=>storedH ys x.1 x.2.1 x.2.2) ys=ys++xs
  | [],ys,_=>by simp
  | x::xs,ys,h=>by
    have hx:x.1∉ys.map (·.1):=fun hm=>by
      rw[List.map_append,List.nodup_append] at h
      exact h.2.2 _ hm _ (by simp) rfl
    rw[List.foldl_cons,n6 hx,kQ xs _ (by simpa using h)]
    simp
def KP (P:Program)(w:World)(h:Heap)(k:KE4)(x:List Key×Addr×Value):Prop:=x.1=k.1.1.map Sum.inl/\x.2.1=k.1.2/\RelV k.2.1 x.2.2/\IsTup h k.2.2 #[.ref k.1.2,x.2.2]/\(tupleKind (cF P w)).is h x.1 x.2.1
theorem t5 {P:Program}{w:World}{h:Heap}:∀{ks:List KE4},(∀k∈ks,∃u,RelV k.2.1 u/\IsTup h k.2.2 #[.ref k.1.2,u]/\(tupleKind (cF P w)).is h (k.1.1.map Sum.inl) k.1.2)->∃xs,Paired (KP P w h) ks xs
  | [],_=>⟨[],.nil⟩
  | k::ks,h=>by
    obtain⟨xs,hx⟩:=t5 fun k hk'=>h k (List.mem_cons_of_mem _ hk')
    obtain⟨u,w1,w2,w3⟩:=h k List.mem_cons_self
    exact⟨(k.1.1.map Sum.inl,k.1.2,u)::xs,.cons ⟨rfl,rfl,w1,w2,w3⟩ hx⟩
theorem vC {P:Program}{w:World}{h:Heap}{ks:List KE4}{xs:List (List Key×Addr×Value)}(hx:Paired (KP P w h) ks xs):xs.map (·.1)=ks.map fun k=>(k.1.1.map Sum.inl:List Key):=by
  induction hx with
  | nil=>rfl
  | cons h t ih=>rw[List.map_cons,List.map_cons,ih,h.1]
theorem vZ {P:Program}{w:World}{h:Heap}{H:Hp}:∀{ks:List KE4} {xs:List (List Key×Addr×Value)},Paired (KP P w h) ks xs->(∀k∈ks,H k.1.2=some (.tup (k.1.1.map V.int)))->KT H (kc (ks.map fun k=>(k.1.1,k.2.1))) xs
  | _,_,.nil,_=>.nil
  | _,_,.cons h t,g=>.cons ⟨h.1.symm,by rw[h.2.1,t6];exact g _ List.mem_cons_self,h.2.2.1⟩ (vZ t fun k hk=>g k (List.mem_cons_of_mem _ hk))
theorem o7 (hc:X.calm=true)(hu:X.A.units+64<cLine):eM X (.type "dict") wB:=by
  intro pins s1 σ H1 vs us Q I1 r1 q1
  obtain⟨l,ks,e,hl,hz,hnd,hk,q⟩:=q1
  subst e
  obtain⟨u,rfl,ru⟩:=fL r1
  cases ru
  obtain⟨_,its,n,rv,ol⟩:=(show ObjOk X.prog X.w H1 s1.heap l (.lst (ks.map fun k=>.ref k.2.2)) from I1.hok l _ hl)
  have hlen:its.length=ks.length:=by have:=rv.length;simpa using this.symm
  obtain⟨xs,hx⟩:=t5 (P:=X.prog) (w:=X.w) (h:=s1.heap) (ks:=ks) fun k hk'=>by
    obtain⟨t1,t2⟩:=hk k hk'
    obtain⟨_,i1,v1,o1⟩:=(show ObjOk X.prog X.w H1 s1.heap k.2.2 (.tup [.ref k.1.2,k.2.1]) from I1.hok _ _ t1)
    have t2':H1 k.1.2=some (.tup ((k.1.1.map Sum.inl:List Key).map kV)):=by rw[t6];exact t2
    cases v1 with
    | cons ra rb=>
      cases rb with
      | @cons _ w _ _ rb rc=>
        cases rc
        cases ra
        exact⟨w,rb,o1,oO I1.hok t2'⟩
  have hxl:=Paired.length hx
  have hnd':(xs.map (·.1)).Nodup:=by
    rw[vC hx]
    have:(ks.map fun k=>(k.1.1.map Sum.inl:List Key))=(ks.map (·.1.1)).map (fun z=>(z.map Sum.inl:List Key)):=by rw[List.map_map];rfl
    rw[this]
    exact List.Pairwise.map _ (fun a b h e=>h (xw e)) hnd
  refine jX (knd:=cF X.prog X.w) (xs:=xs) (I1.ok.hd hc) hu ol (by simp;omega) (by omega) (fun j x hj=>?_) fun h' tk d hD hd kp=>?_
  · obtain⟨k,hkj,p⟩:=dO hx hj
    obtain⟨u,hu,ru⟩:=rv.get (i:=j) (x:=.ref k.2.2) (by rw[List.getElem?_map,hkj];rfl)
    cases ru
    obtain⟨e1,e2,e3,e4,e5⟩:=p
    exact⟨.ref k.2.2,by simpa using hu,k.2.2,rfl,by rw[e2];exact e4,e5⟩
  · have e0:qm xs=xs:=by
      have:=kQ xs [] (by simpa using hnd')
      simpa [qm] using this
    rw[e0] at hD
    have hne:(d == sysModules)=false:=by
      have b1:sysModules<d:=Nat.lt_of_lt_of_le I1.bigS hd
      exact beq_eq_false_iff_ne.mpr (Nat.ne_of_gt b1)
    have hfr:=I1.hok.fresh hd
    refine⟨.ref d,_,I1.laid (t':=tk) (o:=.dT (kc (ks.map fun k=>(k.1.1,k.2.1)))) kp hd ?_,rfl,q _ hfr⟩
    obtain⟨o,es,ep,ho,r1,r2,r3,r4,r5⟩:=hD
    refine⟨?_,hne,xs,vZ hx fun k hk'=>?_,o,es,ep,ho,r1,r2,r3,r5⟩
    · unfold kc
      rw[List.length_map,List.length_map]
      exact Nat.le_of_lt (aZ hz)
    · exact Same.upd hfr _ _ (hk k hk').2
end
def uJ (R:Hp->Nat->Addr->Prop)(H:Hp)(n:Nat)(v:V)(H':Hp):Prop:=Same H H'/\∃(D:Addr) (ps:List Addr),v=.ref D/\H D=none/\H' D=some (.lst (ps.map V.ref))/\ps.length=n/\(∀i p,ps[i]?=some p->R H' i p/\p≠D/\H p=none)/\ps.Nodup
theorem jL {α:Type}{ps:List α}{p:α}(h:ps.Nodup)(n:p∉ps):(ps++[p]).Nodup:=by
  rw[List.nodup_append]
  exact⟨h,by simp,fun b hb c hc e=>n (by rw[List.mem_singleton.mp hc] at e;exact e▸hb)⟩
section
variable {σ:St}{H:Hp}{te tl:TE}{fr:St->St}{K:PySem.W.Frag}{R:Hp->Nat->Addr->Prop}{g:TG}
theorem fz (S:Stays R){a:Addr}{xs:List V}(hl:Pu tl σ H (.ref a))(ha:H a=some (.lst xs))(hz:xs.length<=1000)
    (hs:∀(i:Nat) x H',xs[i]?=some x->Same H H'->∀Q:VK,(∀p H'',Same H' H''->H' p=none->R H'' i p->Q (.ref p) H'')->g x (fr σ) H' fun σ2 H2=>KeepS (fr σ) σ2/\te σ2 H2 Q) :
    Gv (dJ (gJ K tl) fr g te) σ H (uJ R H xs.length):=by
  intro Q gq
  refine hl _ ⟨a,rfl,⟨xs,SqL.of ha⟩,fun D hD=>?_⟩
  refine⟨fun i m ys H2=>m=xs.length - i/\i<=xs.length/\Same H H2/\∃ps:List Addr,ys=ps.map V.ref/\H2 D=some (.lst ys)/\ps.length=i/\(∀i p,ps[i]?=some p->R H2 i p/\p≠D/\H p=none)/\ps.Nodup,⟨_,rfl,Nat.zero_le _,Same.upd hD,[],rfl,ak,rfl,fun i p h=>by simp at h,List.nodup_nil⟩,?_⟩
  rintro i m ys H2 ⟨rfl,hi,s2,ps,rfl,hD2,hpl,hps,hnd⟩
  by_cases hlt:i<xs.length
  · refine .inr ⟨⟨xs,xs[i],SqL.of (s2 _ _ ha),by simp[hlt]⟩,?_,fun x H3 y=>?_⟩
    · rw[List.length_map];exact aZ (by omega)
    obtain⟨e,y⟩:=y
    subst e
    have ex:=y xs (SqL.of (s2 _ _ ha))
    refine hs i x _ ex s2 _ fun p H4 s4 np r=>?_
    obtain⟨d4,s5,h5⟩:=gA S hD s2 hD2 hpl hps (fun _ _ z=>z) s4 np r
    refine⟨d4,xs.length - (i+1),by omega,rfl,hlt,by simpa using s5,ps++[p],by simp,ak,by simp[hpl],by simpa using h5,jL hnd fun hm=>?_⟩
    obtain ⟨j, hj⟩ := List.getElem?_of_mem hm
    exact S.here (hps j p hj).1 np
  · have e:i=xs.length:=by omega
    subst e
    exact .inl ⟨⟨xs,SqL.of (s2 _ _ ha),Nat.le_refl _⟩,gq _ _ ⟨s2,D,ps,rfl,hD,hD2,hpl,hps,hnd⟩⟩
theorem kM {a:Addr}{xs zs:List V}(hl:Pu tl σ H (.ref a))(ha:H a=some (.lst xs))(hz:xs.length<=1000)(hzl:zs.length=xs.length)
    (hs:∀(i:Nat) x z H',xs[i]?=some x->zs[i]?=some z->Same H H'->∀Q:VK,Q z H'->g x (fr σ) H' fun σ2 H2=>KeepS (fr σ) σ2/\te σ2 H2 Q) :
    Gv (dJ (gJ K tl) fr g te) σ H (fun v H'=>∃D,H D=none/\v=.ref D/\H'=upd H D (.lst zs)):=by
  intro Q gq
  refine hl _ ⟨a,rfl,⟨xs,SqL.of ha⟩,fun D hD=>?_⟩
  refine⟨fun i m ys H'=>m=xs.length - i/\i<=xs.length/\ys=zs.take i/\H'=upd H D (.lst ys),⟨_,rfl,Nat.zero_le _,rfl,rfl⟩,?_⟩
  rintro i m ys H' ⟨rfl,hi,rfl,rfl⟩
  have s':Same H (upd H D (.lst (zs.take i))):=Same.upd hD
  by_cases hlt:i<xs.length
  · refine .inr ⟨⟨xs,xs[i],SqL.of (s' _ _ ha),by simp[hlt]⟩,?_,fun x H3 y=>?_⟩
    · rw[List.length_take];exact aZ (by omega)
    obtain⟨e,y⟩:=y
    subst e
    have ex:=y xs (SqL.of (s' _ _ ha))
    have ez:zs[i]?=some (zs[i]'(by omega)):=List.getElem?_eq_getElem (by omega)
    refine hs i x _ _ ex ez s' _ ⟨ak,xs.length - (i+1),by omega,rfl,hlt,?_,?_⟩
    · rw[List.take_succ,ez];rfl
    · rw[uN]
  · have e:i=xs.length:=by omega
    subst e
    refine .inl ⟨⟨xs,SqL.of (s' _ _ ha),Nat.le_refl _⟩,gq _ _ ⟨D,hD,rfl,by rw[←hzl,List.take_length]⟩⟩
theorem KeepS.noneL3 {v w z:Option V}{f:List (Option V)}:KeepS (none::none::none::f) (v::w::z::f):=⟨rfl,fun i u h=>by
  rcases i with _|_|_|i
  · simp at h
  · simp at h
  · simp at h
  · simpa using h⟩
theorem tg2 {σ:St}{H:Hp}{p:Addr}{x y:V}{i j:Nat}{q:St->Hp->Prop}(h:H p=some (.tup [x,y]))(k:q ((σ.set i (some x)).set j (some y)) H):oU K 2 (eL (bV i) (eL (bV j) oV)) (.ref p) σ H q:=
  ⟨p,[x,y],rfl,SqT.of h,rfl,x,[y],rfl,y,[],rfl,rfl,k⟩
theorem tg3 {σ:St}{H:Hp}{p:Addr}{x y z:V}{i j l:Nat}{q:St->Hp->Prop}(h:H p=some (.tup [x,y,z]))(k:q (((σ.set i (some x)).set j (some y)).set l (some z)) H):oU K 3 (eL (bV i) (eL (bV j) (eL (bV l) oV))) (.ref p) σ H q:=
  ⟨p,[x,y,z],rfl,SqT.of h,rfl,x,[y,z],rfl,y,[z],rfl,z,[],rfl,rfl,k⟩
end
theorem vK (l:Addr)(items:Array Value)(n:Nat)(b:Addr)(items2:Array Value)(hs1:items.size+items2.size<=sizeLine) :
    Meets (Builtin.«list.extend» ⟨[.ref l,.ref b],[]⟩) (fun _ R s=>s.heap.get? l=some { cls:=.type "list",dict:=none,data:=.seq items n,slots:=#[] }/\IsTup s.heap b items2/\R (.ok (.ret Value.none)) { s with heap:=s.heap.update l (Obj.mapSeq fun x=>x++items2),toks:=s.toks }):=
  .of_wp fun prog w A R s h=>by
    obtain⟨hl,⟨o,ho,hc,n2,hd⟩,h⟩:=h
    have e:Builtin.«list.extend» ⟨[.ref l,.ref b],[]⟩=Builtin.List.listExtendWith (.ref l) (.ref b) .none:=rfl
    rw[e]
    unfold Builtin.List.listExtendWith
    refine wpAny_bind (wpAny_typeOf ⟨o, ho, hc⟩ ?_)
    have h1:(Builtin.List.listSameRef (.ref l) (.ref b) || Value.type "tuple" == Value.type "list" || Value.type "tuple" == Value.type "tuple")=true:=by simp
    simp only[h1,if_true]
    refine wpAny_bind ?_
    unfold Builtin.List.listItems
    refine wpAny_bind (wpAny_seqItems ho hd (wpAny_pure ?_))
    refine wpAny_bind ?_
    refine wpAny_bind (wpAny_seqItems hl rfl (wpAny_pure ?_))
    have hlong:¬(!items.isEmpty && Builtin.List.listTooLong (items.size+items2.size))=true:=by
      rw[mZ hs1,Bool.and_false]
      exact Bool.false_ne_true
    rw[if_neg hlong]
    show wpAny _ A.in1 (updateSeq l (·++items2) >>= fun _=>ret .none) _ _ s
    refine wpAny_bind (wpAny_updateSeq hl rfl ?_ (hz:=by omega) (_hz':=by rw[Array.size_append];omega))
    exact wpAny_pure ⟨_,rfl,h⟩
section
variable {X:Cx}
def jA:V->List V->Hp->VK->Prop:=fun x vs H Q=>∃l b xs zs,x=.ref l/\vs=[.ref b]/\H l=some (.lst xs)/\H b=some (.tup zs)/\xs.length+zs.length<=1000/\Q .non (upd H l (.lst (xs++zs)))
theorem jM:MtM X "list.extend" jA:=by
  intro pins s σ H x vs v us Q I rx rv h
  obtain⟨l,b,xs,zs,rfl,rfl,hH,hB,hz,q⟩:=h
  cases rx
  obtain⟨u,rfl,ru⟩:=rv.one
  cases ru
  have hz':xs.length+zs.length<=sizeLine:=Nat.le_of_lt (aZ hz)
  obtain⟨z,its,n,r,hl,e⟩:=I.lstM hH
  obtain⟨_,its2,r2,e2⟩:=(show ObjOk X.prog X.w H s.heap b (.tup zs) from I.hok b _ hB)
  have l2:=r2.length
  have hsz:its.toArray.size+its2.toArray.size<=sizeLine:=by rw[List.size_toArray,List.size_toArray];omega
  refine call_meets F.slot_list_extend ⟨_,e,rfl⟩ F.entry_list_extend (F.args_list_extend_2 _ _) (vK l its.toArray n b its2.toArray hsz) ⟨e,e2,?_⟩
  refine⟨.non,_,I.lset (its':=its++its2) hH e (by simp) (r.append r2) ?_,rfl,q⟩
  rw[List.length_append]
  omega
end
section
variable {σ:St}{H:Hp}{D:Ends}{rest:TS}{to te:TE}{l:Addr}{K:PySem.W.Frag}
theorem uR {R:V->Hp->Prop}{xs:List V}(ho:Pu to σ H (.ref l))(hl:H l=some (.lst xs))(he:Gv te σ H R)(q:∀v H',R v H'->∃b xs zs,v=.ref b/\H' l=some (.lst xs)/\H' b=some (.tup zs)/\xs.length+zs.length<=1000/\rest D σ (upd H' l (.lst (xs++zs)))) :
    dQ (fM (tBM K "list" jA to (bG te df))) rest D σ H:=
  ho _ ⟨.inl ⟨rfl,_,SqL.of hl⟩,he _ fun v H' r=>by
    obtain⟨b,xs,zs,rfl,h1,h2,h3,h4⟩:=q v H' r
    exact⟨l,b,xs,zs,rfl,rfl,h1,h2,h3,h4⟩⟩
theorem si {R:V->Hp->Prop}{xs:List V}(ho:Pu to σ H (.ref l))(hl:H l=some (.lst xs))(he:Gv te σ H R)(q:∀v H',R v H'->∃b xs zs,v=.ref b/\H' l=some (.lst xs)/\H' b=some (.tup zs)/\xs.length+zs.length<=1000/\D.nx σ (upd H' l (.lst (xs++zs)))) :
    fM (tBM K "list" jA to (bG te df)) D σ H:=
  ho _ ⟨.inl ⟨rfl,_,SqL.of hl⟩,he _ fun v H' r=>by
    obtain⟨b,xs,zs,rfl,h1,h2,h3,h4⟩:=q v H' r
    exact⟨l,b,xs,zs,rfl,rfl,h1,h2,h3,h4⟩⟩
theorem sj {R:V->Hp->Prop}{xs:List V}(ho:Pu to σ H (.ref l))(hl:H l=some (.lst xs))(he:Gv te σ H R)(q:∀v H',R v H'->∃b xs zs,v=.ref b/\H' l=some (.lst xs)/\H' b=some (.lst zs)/\xs.length+zs.length<=1000/\D.nx σ (upd H' l (.lst (xs++zs)))) :
    fM (tBM K "list" lK to (bG te df)) D σ H:=
  ho _ ⟨.inl ⟨rfl,_,SqL.of hl⟩,he _ fun v H' r=>by
    obtain⟨b,xs,zs,rfl,h1,h2,h3,h4⟩:=q v H' r
    exact⟨l,b,xs,zs,rfl,rfl,h1,h2,Nat.le_of_lt (aZ h3),h4⟩⟩
end
section
variable {X:Cx}{pos:Pos}
def v5 (K:PySem.W.Frag)(n:Nat)(t:TGs):TG:=fun v σ H Q=>∃a xs,v=.ref a/\SqL K H a xs/\xs.length=n/\t xs σ H Q
theorem ve {es:List Expr}{k:Nat}{t:TGs}{n:Nat}(hc:X.calm=true)(h:PGs X es t)
    (hn:(assignEach es X.env).length=n:=by rfl) (hst:(assignEach es X.env).findIdx? (·.1)=none:=by rfl):PG X (.Tuple es k pos) (v5 X.K n t):=by
  intro pins s σ H v u Q I r hw
  obtain⟨a,xs,e1,hq,hl,hw⟩:=hw
  subst e1
  cases r
  obtain⟨its,rv,ht,hz⟩:=I.list hq
  rw[assign_Tuple]
  refine wpAny_bind (wpAny_standAt ?_)
  unfold unpack
  have hsz:(assignEach es X.env).length=its.toArray.size:=by simp[hn,←hl,rv.length]
  rw[hsz,hst]
  refine wpAny_bind (wpAny_holding (kun_itemsOf (I.ok.hd hc) ht.isList fun h' hx=>?_))
  have I1:Inv X pins σ H { s with heap:=h' }:=I.kept (t':=s.toks) fun b o e=>hx b o (Nat.ne_of_lt (Heap.lt_size e)) e
  exact h pins _ σ H xs _ Q I1 (by simpa using rv) hw
end
section
variable {prog:Program}{w:World}{A:Around}{E:Value->Shared->Prop}{s:Shared}
theorem lY {t sl:Addr}{u v:Value}{tk:Tok}{Q:Value->Shared->Prop}(ht:IsTup s.heap t #[u,v])(hs:s.heap.IsSliceOf sl .none .none (.int (-1) tk))
    (h:Q (.ref s.heap.objs.size) { s with heap:=s.heap.push { cls:=.type "tuple",data:=.seq #[v,u] } }):wpAny (model prog w) A (getItem (.ref t) (.ref sl)) Q E s:=by
  obtain⟨os,hos,hcs,hds⟩:=id hs
  have hTs:s.TypeIs (.ref sl) "slice":=⟨os,hos,hcs⟩
  unfold getItem
  try with_reducible refine wpAny_holding ?_
  first | refine wpAny_bind (wpAny_pure ?_) | skip
  refine wpAny_bind (wpAny_sequenceKey ht.typeIs (by decide) ?_)
  refine wpAny_bind (wpAny_callSpecial?_slot (name:=Str.ofString "__getitem__") ht.typeIs PyProof.Rows.slot_tuple_getitem
    (wpAny_call_entry PyProof.Rows.slot_tuple_getitem ht.typeIs entry_tuple_getitem ?_ (args_tuple_getitem _ _)))
  show wpAny _ _ (Builtin.Tuple.tupleItemsOf (.ref t) >>= _) _ _ s
  refine wpAny_bind (tupleItemsOf_ ht ?_)
  refine wpAny_bind (wpAny_typeOf hTs ?_)
  rw[if_pos (by decide)]
  refine wpAny_bind ?_
  unfold Builtin.Slice.sliceApplied Builtin.Slice.sliceFields
  refine wpAny_bind (wpAny_bind (wpAny_field hos hds (x:=.none) rfl (wpAny_bind (wpAny_field hos hds (x:=.none) rfl (wpAny_bind (wpAny_field hos hds (x:=.int (-1) tk) rfl (wpAny_pure ?_)))))))
  refine wpAny_bind (HT.slicePart_ (.int (-1) tk) ?_)
  show wpAny _ _ (if ((-1:Int) == 0)=true then _ else _) _ _ s
  rw[if_neg (by decide)]
  refine wpAny_bind (HT.slicePart_ .none (wpAny_bind (HT.slicePart_ .none (wpAny_bind (wpAny_pure ?_)))))
  have e1:Builtin.Slice.sliceAdjust none none ((some (-1:Int)).getD 1) (((#[u,v]:Array Value).size:Nat):Int)=((1:Int),(-1:Int)):=by simp[Builtin.Slice.sliceAdjust]
  rw[e1]
  have e2:Builtin.Slice.slicePlaces (1:Int) (-1:Int) ((some (-1:Int)).getD 1)=2:=by decide +kernel
  show wpAny _ _ (pure ((1:Int),(-1:Int),Builtin.Slice.slicePlaces (1:Int) (-1:Int) ((some (-1:Int)).getD 1))) _ _ s
  rw[e2]
  refine wpAny_pure ?_
  show wpAny _ _ (if (((1:Int) == 0) && ((-1:Int) == 1) && ((2:Nat) == 2))=true then _ else _) _ _ s
  rw[if_neg (by decide)]
  have hk:sizeOk (.seq #[v,u]):=by show (2:Nat)<=sizeLine;decide
  have e:((List.range 2).filterMap fun (k:Nat)=>(#[u,v]:Array Value)[((1:Int)+(k:Int)*(-1)).toNat]?).toArray = #[v,u]:=rfl
  show wpAny _ _ (Builtin.Tuple.tupleExact ((List.range 2).filterMap fun (k:Nat)=>(#[u,v]:Array Value)[((1:Int)+(k:Int)*(-1)).toNat]?).toArray >>= _) _ _ s
  rw[e]
  first
    | exact wpAny_bind (m:=Builtin.Tuple.tupleExact _) (wpAny_newObj_type (wpAny_pure ⟨_,rfl,wpAny_pure h⟩) hk)
    | exact wpAny_bind (m:=Builtin.Tuple.tupleExact _) (wpAny_newObj_type (wpAny_bind (wpAny_pure (wpAny_pure ⟨_,rfl,wpAny_pure h⟩))) hk)
end
section
variable {X:Cx}{e:Expr}{te:TE}{lo hi:Option Expr}{tl th ts:TO}{pos p2:Pos}
def xE (K:PySem.W.Frag):V->Option Int->Option Int->Option Int->Hp->VK->Prop:=fun x lo hi g H Q=>
  ∃a u v,x=.ref a/\lo=none/\hi=none/\g=some (-1)/\SqT K H a [u,v]/\∀p,H p=none->Q (.ref p) (upd H p (.tup [v,u]))
theorem qS {g:Expr}(he:PE X e te)(hl:PO X lo tl)(hu:PO X hi th)(hg:PO X (some g) ts):PE X (.Subscript e (.Slice lo hi (some g) p2) pos) (rW (xE X.K) te tl th ts):=by
  intro pins s σ H Q I h
  refine Subscript_ (thn (he pins s σ H _ I h) fun v s1 ⟨x,H1,I1,r1,q1⟩=>?_)
  refine wpAny_Slice (thn (hl pins s1 σ H1 _ I1 q1) fun vl s2 ⟨l,H2,I2,pl,q2⟩=>thn (hu pins s2 σ H2 _ I2 q2) fun vu s3 ⟨u,H3,I3,pu,q3⟩=>thn (hg pins s3 σ H3 _ I3 q3) fun vg s4 ⟨g',H4,I4,pg,q4⟩=>?_)
  have I5:Inv X pins σ H4 { s4 with heap:=s4.heap.push { cls:=.type "slice",data:=.fields #[vl,vu,vg] } }:=I4.kept (t':=s4.toks) fun b ob q=>Heap.get?_push_of_some _ q
  obtain⟨a,x,y,rfl,rfl,rfl,rfl,hx,q⟩:=q4
  cases r1
  cases pl
  cases pu
  cases pg with
  | int i t=>
  obtain⟨its,r,ht,hz⟩:=I5.tuple hx
  cases r with
  | @cons _ u1 _ _ ra rr=>
  cases rr with
  | @cons _ u2 _ _ rb rc=>
  cases rc
  refine tail_any (ops:=[.ref a,.ref s4.heap.objs.size]) ht.typeIs PyProof.Rows.slot_tuple_getitem.lookup ?_ (by with_unfolding_all rfl)
  refine lY ht (Heap.IsSliceOf.new ..) ?_
  refine⟨.ref _,_,I5.laid (t':=s4.toks) (o:=.tup [y,x]) (fun b ob q=>Heap.get?_push_of_some _ q) (Nat.le_refl _) ?_,rfl,q _ (I5.hok.fresh (Nat.le_refl _))⟩
  exact⟨by show (2:Nat)<=sizeLine;decide,[u2,u1],.cons rb (.cons ra .nil),IsTup.new _ _⟩
end
section
variable {X:Cx}
theorem oz {x1 x2 x3 y:Str}{tg elt iter:Expr}{g:TG}{scope:Scope}{c:Addr}{pos:Pos}{wi:TI}{te:TE}(j:Nat)
    (hc:X.calm=true) (hi:PI X tg iter wi)
    (hg:∀C fp s0 H0,PG (blk X [x1,x2,x3,y] scope [(y,c)] C fp s0 H0) tg g) (he:∀C fp s0 H0,PE (blk X [x1,x2,x3,y] scope [(y,c)] C fp s0 H0) elt te)
    (hclos:closureFor scope X.env=pure [(y,c)]) (hkind:scope.kind=.function) (hnames:∀x∈scope.names,x.2=.local->scope.names.lookup x.1=some .local) (hcell:∀y∈scope.names,y.2≠.cell)
    (hcy:X.env.cells.lookup y=some c) (hNj:X.N[j]?=some y) (hk:X.env.kindOf y=some .cell) (hrel:(relabel scope X.env).names.lookup y=some .cell)
    (hall:((relabel scope X.env).names.all fun p=>(p.2 != .cell && p.2 != .free) || p.1 == y)=true)
    (hs:∀x,foldedSetIterable iter X.env x=pure x:=by intro _;rfl) :
    PE X (.ListComp elt [⟨tg,iter,[],0⟩] scope pos) (dJ wi (fun σ=>[none,none,none,(σ[j]?).join]) g te):=by
  refine dc (N':=[x1,x2,x3,y]) (cl:=[(y,c)]) hc hi hg he hclos hkind hnames hcell (fun y' c' h=>?_) (fun y' h=>?_) (fun _ _=>rfl) (fun σ i y' v e1 e2=>?_) hs
  · obtain⟨rfl,rfl⟩:=eD h
    exact hcy
  · rw[List.all_eq_true] at hall
    have key:∀k,(k=.cell∨k=.free)->(relabel scope X.env).names.lookup y'=some k->y'=y:=fun k hk e=>by
      have:=hall _ (dF e)
      rcases hk with rfl|rfl
      · simpa using this
      · simpa using this
    have e:y'=y:=by
      rcases h with h|h
      · exact key _ (.inl rfl) h
      · exact key _ (.inr rfl) h
    subst e
    exact⟨c,by rw[List.lookup_cons,beq_self_eq_true]⟩
  · match i,e1,e2 with
    | 0,_,e2=>cases e2
    | 1,_,e2=>cases e2
    | 2,_,e2=>cases e2
    | 3,e1,e2=>
      have e1':y=y':=by simpa using e1
      subst e1'
      have e2':(σ[j]?).join=some v:=by simpa using e2
      refine⟨j,hNj,?_,hk,hrel⟩
      cases h:σ[j]? with
      | none=>rw[h] at e2';cases e2'
      | some o=>rw[h] at e2';have:o=some v:=e2';rw[this]
    | i+4,e1,_=>simp at e1
end
section
variable {σ:St}{H:Hp}{tl:TE}{tc:TT}{fr:St->St}{K:PySem.W.Frag}{a:Addr}{xs:List V}
theorem kO (b:V->Bool)(hl:Pu tl σ H (.ref a))(ha:H a=some (.lst xs))(hz:xs.length<=1000)(hk:∀x,KeepS (fr σ) ((fr σ).set 0 (some x)))(h0:∀x:V,((fr σ).set 0 (some x))[0]?=some (some x))
    (hs:∀x∈xs,∀H',Same H H'->GvT tc ((fr σ).set 0 (some x)) H' (fun c H''=>c=b x/\Same H' H'')):Gv (nZ (gJ K tl) fr (bV 0) tc (cm 0)) σ H (fun v H'=>∃D,H D=none/\v=.ref D/\Same H H'/\H' D=some (.lst (xs.filter b))):=by
  intro Q g
  refine hl _ ⟨a,rfl,⟨xs,SqL.of ha⟩,fun D hD=>?_⟩
  refine⟨fun i m ys H'=>m=xs.length - i/\i<=xs.length/\ys=(xs.take i).filter b/\Same H H'/\H' D=some (.lst ys),⟨_,rfl,Nat.zero_le _,rfl,Same.upd hD,ak⟩,?_⟩
  rintro i m ys H' ⟨rfl,hi,rfl,s',hD'⟩
  by_cases hlt:i<xs.length
  · refine .inr ⟨⟨xs,xs[i],SqL.of (s' _ _ ha),by simp[hlt]⟩,?_,fun x H3 y=>?_⟩
    · have:=List.length_filter_le b (xs.take i)
      rw[List.length_take] at this
      exact aZ (by omega)
    obtain⟨e,y⟩:=y
    subst e
    have hx:xs[i]?=some x:=y xs (SqL.of (s' _ _ ha))
    have et:xs.take (i+1)=xs.take i++[x]:=by rw[List.take_succ,hx];rfl
    refine⟨hk x,hs x (List.mem_of_getElem? hx) _ s' _ fun c H4 ⟨e,s4⟩=>?_⟩
    subst e
    have hD4:=s4 _ _ hD'
    cases hb:b x with
    | false=>
      refine⟨xs.length - (i+1),by omega,rfl,hlt,?_,s'.trans s4,hD4⟩
      rw[et,List.filter_append]
      simp[hb]
    | true=>
      refine (ah (h0 x):Pu (cm 0) _ _ x) _ ⟨hD4,xs.length - (i+1),by omega,rfl,hlt,?_,bZ (s'.trans s4) hD,ak⟩
      rw[et,List.filter_append]
      simp[hb]
  · have e:i=xs.length:=by omega
    subst e
    exact .inl ⟨⟨xs,SqL.of (s' _ _ ha),Nat.le_refl _⟩,g _ _ ⟨D,hD,rfl,s',by rw[hD',List.take_length]⟩⟩
end
theorem tV:typeLookup (.type "list_reverseiterator") "__length_hint__" = pure (some (.builtin "list_reverseiterator.__length_hint__")):=by rw[typeLookup_type,builtinLookup_eq_fast];kernel_rfl
theorem vB:typeLookup (.type "list_reverseiterator") "__len__" = pure none:=by rw[typeLookup_type,builtinLookup_eq_fast];kernel_rfl
section
variable {prog:Program}{w:World}{A:Around}{E:Value->Shared->Prop}{s:Shared}
theorem uZ {it l:Addr}{i:Int}{Q:Bool->Shared->Prop}(st:s.heap.IsRevIter it l i)(h:Q false s):wpAny (model prog w) A (Builtin.List.listLengthHint (.ref it)) Q E s:=by
  unfold Builtin.List.listLengthHint
  refine wpAny_bind (wpAny_specialOf st.typeIs vB ?_)
  refine wpAny_ite_split (fun hab => absurd hab (by decide +kernel)) (fun _ => ?_)
  refine wpAny_ite_split (fun hab => absurd hab (by decide +kernel)) (fun _ => ?_)
  refine wpAny_bind (wpAny_specialOf st.typeIs tV ?_)
  generalize hid:("list_reverseiterator.__length_hint__" : String)=id0
  wp_delta
  rw[show splitId id0=some ("list_reverseiterator","__length_hint__") from by subst hid;decide +kernel]
  subst hid
  refine wpAny_bind (wpAny_isInstance (T:="list_reverseiterator") (b:=true) st.typeIs (by rw[isSubtype_type];kernel_rfl) ?_)
  refine wpAny_ite_split (fun hab => absurd hab (by decide)) (fun _ => ?_)
  refine wpAny_ite_split (fun _ => ?_) (fun hab => absurd (by decide +kernel) hab)
  refine wpAny_ite_split (fun hab => absurd hab (by decide +kernel)) (fun _ => ?_)
  exact wpAny_pure h
theorem ke {Q:Value->Shared->Prop}{it l:Addr}{items:Array Value}(hh:A.handled=none)(st:s.heap.IsRevIter it l ((items.size:Int) - 1))(hl:s.heap.IsList l items)(hne:it≠l)(hlen:items.size<=sizeLine)
    (hQ:∀h' tk acc' c',(∀b o,b≠it->s.heap.get? b=some o->h'.get? b=some o)->
      h'.get? s.heap.objs.size=some { cls:=.type "list",dict:=none,data:=.seq acc' c',slots:=#[] }->ItemsOf (fun i v=>items[items.size - 1 - i]?=some v) acc' items.size->Q (.ref s.heap.objs.size) { s with heap:=h',toks:=tk }) :
    wpAny (model prog w) A (call (.type "list") [.ref it]) Q E s := by
  obtain⟨od,hod,rd1,rd2⟩:=id st
  obtain⟨ol,hol,rl⟩:=id hl
  refine callType_codes (Q₁ := fun obj s₁ => obj = .ref s.heap.objs.size ∧ s₁ = { s with heap := s.heap.push { cls := .type "list", data := .seq #[] } }) F.called_list (F.typeCall_list_1 _) F.entry_list_init
    (code_list_new _ ⟨rfl, rfl⟩) fun obj s₁ h₁ => ?_
  obtain⟨rfl,rfl⟩:=h₁
  have hS : (s.heap.push { cls := .type "list", data := .seq #[] }).get? s.heap.objs.size = some { cls := .type "list", data := .seq #[] } := Heap.get?_push_size _ rfl
  have n1:it≠s.heap.objs.size:=Nat.ne_of_lt (Heap.lt_size hod)
  have n2:l≠s.heap.objs.size:=Nat.ne_of_lt (Heap.lt_size hol)
  refine⟨⟨_,hS,rfl⟩,F.args_list_init_2 _ _,?_⟩
  show wpAny _ _ (do let old ←Builtin.List.listItems (.ref s.heap.objs.size);Builtin.List.listUpdate (.ref s.heap.objs.size) (fun _=>#[]);letGo old.toList.reverse;Builtin.List.listExtendWith (.ref s.heap.objs.size) (.ref it) .none) _ _ _
  refine wpAny_bind ?_
  unfold Builtin.List.listItems
  refine wpAny_bind (wpAny_seqItems hS rfl (wpAny_pure ?_))
  show wpAny _ _ (updateSeq s.heap.objs.size (fun _=>#[]) >>= fun _=>letGo (#[]:Array Value).toList.reverse >>= fun _=>Builtin.List.listExtendWith (.ref s.heap.objs.size) (.ref it) .none) _ _ _
  refine wpAny_bind (wpAny_updateSeq hS rfl ?_)
  have hS₂ := Heap.get?_update_self (Obj.mapSeq (fun _ => (#[] : Array Value))) hS rfl
  refine wpAny_bind (wpAny_letGo ?_)
  have up:∀b o,b≠s.heap.objs.size->s.heap.get? b=some o->((s.heap.push { cls:=.type "list",data:=.seq #[] }).update s.heap.objs.size (Obj.mapSeq (fun _=>(#[]:Array Value)))).get? b=some o:=fun b o hb e=>(Heap.get?_update_other _ _ (Ne.symm hb)).trans (Heap.get?_push_of_some _ e)
  generalize ((s.heap.push { cls:=.type "list",data:=.seq #[] }).update s.heap.objs.size (Obj.mapSeq (fun _=>(#[]:Array Value))))=h2 at hS₂ up ⊢
  have st2:h2.IsRevIter it l ((items.size:Int) - 1):=⟨od,up _ _ n1 hod,rd1,rd2⟩
  have hl2:h2.IsList l items:=⟨ol,up _ _ n2 hol,rl⟩
  have hSf:s.heap.objs.size∉[it,l]:=fun hm=>by
    rcases List.mem_cons.mp hm with e | hm
    · exact n1 e.symm
    · exact n2 (List.mem_singleton.mp hm).symm
  have W:=(Walks.listRev (prog:=prog) (w:=w) (A:=A.in1.in1) hh it l (Ne.symm hne) items).toS
  unfold Builtin.List.listExtendWith
  refine wpAny_bind (wpAny_typeOf (T:="list_reverseiterator") (s:={ s with heap:=h2 }) st2.typeIs ?_)
  have z1:Builtin.List.listSameRef (.ref s.heap.objs.size) (.ref it)=false:=by simp[Builtin.List.listSameRef,Ne.symm n1]
  have z2:(Value.type "list_reverseiterator" == Value.type "list")=false:=by decide
  have z3:(Value.type "list_reverseiterator" == Value.type "tuple")=false:=by decide
  simp only[z1,z2,z3,Bool.or_false,Bool.false_eq_true,if_false]
  refine wpAny_bind (wpAny_pyIter_revIter (s:={ s with heap:=h2 }) st2 ?_)
  refine wpAny_bind (wpAny_holding (uZ (s:={ s with heap:=h2 }) st2 ?_))
  refine wpAny_ite_split (fun hab => absurd hab (by decide +kernel)) (fun _ => ?_)
  refine wpAny_pure ⟨plainId_quiet F.plain_extend_loop _,?_⟩
  refine codeAny_extend_loopS W hlen s.heap.objs.size hSf .none items.size 0 { s with heap:=h2 } #[] _ rfl (Nat.zero_le _) ⟨Nat.zero_le _,by simpa using st2,hl2⟩ hS₂ (ItemsOf.nil _) fun s' acc' c' hm hS' hacc=>?_
  rw[Moved.eq_with hm]
  refine⟨rfl,hQ s'.heap s'.toks acc' c' (fun b o hb e=>hm.heap b o (fun hmem=>?_) (up b o (Nat.ne_of_lt (Heap.lt_size e)) e)) hS' hacc⟩
  rcases List.mem_cons.mp hmem with e' | hmem
  · exact absurd (Heap.lt_size e) (by rw[e'];exact Nat.lt_irrefl _)
  · exact hb (List.mem_singleton.mp hmem)
end
theorem boot_reversed : bootBuiltins "reversed" = some (.type "reversed") := by decide +kernel
section
variable {X:Cx}
def rX (te:TE):TE:=fun σ H Q=>te σ H fun x H1=>∃a xs,x=.ref a/\H1 a=some (.lst xs)/\∀p,H1 p=none->Q (.ref p) (upd H1 p (.lst xs.reverse))
theorem ow {e:Expr}{te:TE}{p p' pos pos':Pos}(hc:X.calm=true)(hgl:Gl X "list")(hml:X.mg "list" = none)(hgr:Gl X "reversed")(hmr:X.mg "reversed" = none)(he:PE X e te)
    (h1:starEach [.Call (.Name "reversed" p') [e] [] pos'] X.env=(false,eval (.Call (.Name "reversed" p') [e] [] pos') X.env)::starEach [] X.env) (h2:(backTo pos (starEach [] X.env)).any (·.1)=false)
    (h3:starEach [e] X.env=(false,eval e X.env)::starEach [] X.env) (h4:(backTo pos' (starEach [] X.env)).any (·.1)=false):PE X (.Call (.Name "list" p) [.Call (.Name "reversed" p') [e] [] pos'] [] pos) (rX te):=by
  intro pins s σ H Q I h
  refine wpAny_Call_Name_kw (fI I hgl hml PyProof.Rows.boot_list ?_)
  refine PyProof.Rows.callWith_type1 ?_ h1 h2
  rw[h1]
  show wpAny _ _ (spliced ((false,eval (.Call (.Name "reversed" p') [e] [] pos') X.env)::backTo pos (starEach [] X.env))) _ _ s
  refine Calls.spliced_cons (thn (Q:=fun u s2=>∃(it a:Addr) (its:List Value) (xs:List V) (H1:Hp),u=.ref it/\it≠a/\s2.heap.IsRevIter it a ((its.toArray.size:Int) - 1)/\s2.heap.IsList a its.toArray/\Vals xs its/\its.length<=sizeLine/\Inv X pins σ H1 s2/\eF X pins H1 it/\H1 a=some (.lst xs)/\∀p,H1 p=none->Q (.ref p) (upd H1 p (.lst xs.reverse))) ?_ fun u s2 hu=>?_)
  · refine wpAny_Call_Name_kw (fI I hgr hmr boot_reversed ?_)
    refine PyProof.Rows.callWith_type1 ?_ h3 h4
    refine thn (ae he ai h3 pos' pins s σ H (fun vs H1=>match vs with | [x]=>∃a xs,x=.ref a/\H1 a=some (.lst xs)/\∀p,H1 p=none->Q (.ref p) (upd H1 p (.lst xs.reverse)) | _=>False) I h) fun us s1 ⟨vs,H1,I1,r1,q1⟩=>?_
    match vs,q1 with
    | [x],q1=>
      obtain⟨a,xs,rfl,ha,q⟩:=q1
      obtain⟨u,rfl,ru⟩:=fL r1
      cases ru
      obtain⟨hz,its,n,rv,hlen,ol⟩:=I1.lstM ha
      have ll:a<s1.heap.objs.size:=Heap.lt_size ol
      refine call_reversed_list (items:=its.toArray) ⟨_,ol,rfl,n,rfl⟩ ⟨s1.heap.objs.size,a,its,xs,H1,rfl,Nat.ne_of_gt ll,⟨_,Heap.get?_push_size _ rfl,rfl,rfl⟩,⟨_,Heap.get?_push_of_some _ ol,rfl,n,rfl⟩,rv,by omega,I1.kept (t':=s1.toks) (fun b o e=>Heap.get?_push_of_some _ e),I1.fpOk (Nat.le_refl _) (I1.hok.fresh (Nat.le_refl _)),ha,q⟩
  · obtain⟨it,a,its,xs,H1,rfl,hne,st,hl,rv,hz,I2,fk,ha,q⟩:=hu
    refine Calls.spliced_nil ?_
    refine ke (I2.ok.hd hc) st hl hne (by simpa using hz) fun h' tk acc c kp hS hacc=>?_
    have fa:eF X pins H1 s2.heap.objs.size:=I2.fpOk (Nat.le_refl _) (I2.hok.fresh (Nat.le_refl _))
    have eacc:acc.toList=its.reverse:=by
      refine List.ext_getElem? fun j=>?_
      have hs:acc.size=its.length:=by simpa using hacc.1
      by_cases hj:j<its.length
      · have h1:acc.toList[j]?=some (acc[j]'(by omega)):=by simp[hs,hj]
        have h2:=hacc.2 j (acc[j]'(by omega)) (by simp[hs,hj])
        rw[h1,List.getElem?_reverse hj,←h2]
        simp
      · rw[List.getElem?_eq_none (by simp;omega),List.getElem?_eq_none (by simp;omega)]
    refine⟨.ref _,_,I2.take (t':=tk) (c:=c) (us:=its.reverse) fa fk (fun b o _ hb e=>kp b o hb e) ?_ rv.reverse ?_,rfl,q _ fa.1⟩
    · rw[hS,←eacc]
    · rw[List.length_reverse,rv.length];exact hz
end
section
variable {σ:St}{H:Hp}{te tl:TE}{fr:St->St}{K:PySem.W.Frag}{g:TG}
theorem oS {ta:TA}{RA:List V->Hp->Prop}{R':VK}(hl:GvA ta σ H RA)(hra:∀vs H1,RA vs H1->∃(a:Addr) (xs:List V) (R:Hp->Nat->Addr->Prop),vs=[.ref a]/\H1 a=some (.lst xs)/\xs.length<=1000/\Stays R/\
    (∀(i:Nat) x H' p,xs[i]?=some x->Same H1 H'->H' p=some (.tup [.int i,x])->∀Q:VK,(∀p H'',Same H' H''->H' p=none->R H'' i p->Q (.ref p) H'')->g (.ref p) (fr σ) H' fun σ2 H2=>KeepS (fr σ) σ2/\te σ2 H2 Q)/\∀v H',uJ R H1 xs.length v H'->R' v H') :
    Gv (dJ (qf ta) fr g te) σ H R':=by
  intro Q gq
  refine hl _ fun vs H1 r1=>?_
  obtain⟨a,xs,R,rfl,ha,hz,S,hs,hR⟩:=hra vs H1 r1
  refine⟨a,xs,rfl,ha,fun D hD=>?_⟩
  refine⟨fun i m ys H2=>m=xs.length - i/\i<=xs.length/\Same H1 H2/\∃ps:List Addr,ys=ps.map V.ref/\H2 D=some (.lst ys)/\ps.length=i/\(∀i p,ps[i]?=some p->R H2 i p/\p≠D/\H1 p=none)/\ps.Nodup,⟨_,rfl,Nat.zero_le _,Same.upd hD,[],rfl,ak,rfl,fun i p h=>by simp at h,List.nodup_nil⟩,?_⟩
  rintro i m ys H2 ⟨rfl,hi,s2,ps,rfl,hD2,hpl,hps,hnd⟩
  by_cases hlt:i<xs.length
  · refine .inr ⟨⟨xs,xs[i],s2 _ _ ha,by simp[hlt]⟩,?_,fun v H3 y=>?_⟩
    · rw[List.length_map];exact aZ (by omega)
    obtain⟨p,x,hp,rfl,rfl,y⟩:=y
    have ex:=y xs (s2 _ _ ha)
    have s3:Same H2 (upd H2 p (.tup [.int i,x])):=Same.upd hp
    refine hs i x _ p ex (s2.trans s3) ak _ fun q H4 s4 np r=>?_
    obtain⟨d4,s5,h5⟩:=gA S hD s2 hD2 hpl hps s3 s4 np r
    refine⟨d4,xs.length - (i+1),by omega,rfl,hlt,by simpa using s5,ps++[q],by simp,ak,by simp[hpl],by simpa using h5,jL hnd fun hm=>?_⟩
    obtain ⟨j, hj⟩ := List.getElem?_of_mem hm
    exact S.here (S.same (hps j q hj).1 s3) np
  · have e:i=xs.length:=by omega
    subst e
    exact .inl ⟨⟨xs,s2 _ _ ha,Nat.le_refl _⟩,gq _ _ (hR _ _ ⟨s2,D,ps,rfl,hD,hD2,hpl,hps,hnd⟩)⟩
end
theorem km (f:Nat->Option (List V)):Stays (fun H i p=>∃vs,f i=some vs/\H p=some (.tup vs)) where
  same:=fun ⟨vs,e,h⟩ s=>⟨vs,e,s _ _ h⟩
  but:=fun ⟨vs,e,h⟩ _ d s=>⟨vs,e,s _ _ h fun z=>by rw[z,d] at h;cases h⟩
  here:=fun ⟨vs,e,h⟩ z=>by rw[h] at z;cases z
def flp (p:Pt3):Pt3:=⟨p.y,p.x,p.z⟩
theorem dS {p:Pt3}(h:Lp p):Lp (flp p):=⟨h.pos,by
  have:=h.cop
  show Int.gcd (Int.gcd p.z p.y:Nat) p.x=1
  rw[←this]
  unfold Int.gcd
  simp only[Int.natAbs_natCast]
  rw[Nat.gcd_assoc,Nat.gcd_comm p.y.natAbs,←Nat.gcd_assoc]⟩
theorem uz {n:Nat}{p:Pt3}(h:Sz n p):Sz n (flp p):=⟨h.y,h.x,h.z⟩
def bJ (xs:List (Pt3×Pt3)):List Pt3:=xs.map (·.1)++xs.map (·.2)
theorem jN {xs:List (Pt3×Pt3)}{x:Pt3×Pt3}(h:x∈xs):x.1∈bJ xs/\x.2∈bJ xs:=
  ⟨List.mem_append_left _ (List.mem_map_of_mem h),List.mem_append_right _ (List.mem_map_of_mem h)⟩
def Spans (xs:List (Pt3×Pt3))(sp:List (Int×Int)):Prop:=sp.length=xs.length/\∃r:Pt3->Int,(∀p q,p∈bJ xs->q∈bJ xs->leP p q->r p<=r q)/\∀(i:Nat) x s,xs[i]?=some x->sp[i]?=some s->s=(min (r x.1) (r x.2),max (r x.1) (r x.2))
theorem Spans.meet {xs:List (Pt3×Pt3)}{sp:List (Int×Int)}(h:Spans xs sp){i j:Nat}{x y:Pt3×Pt3}{s t:Int×Int}(hx:xs[i]?=some x)(hy:xs[j]?=some y)(hs:sp[i]?=some s)(ht:sp[j]?=some t){p q:Pt3}(hp:p=x.1∨p=x.2)(hq:q=y.1∨q=y.2)(hpq:leP p q):s.1<=t.2:=by
  obtain⟨_,r,hm,hr⟩:=h
  rw[hr i x s hx hs,hr j y t hy ht]
  have ex:=jN (List.mem_of_getElem? hx)
  have ey:=jN (List.mem_of_getElem? hy)
  have:=hm p q (by rcases hp with rfl | rfl;exact ex.1;exact ex.2) (by rcases hq with rfl | rfl;exact ey.1;exact ey.2) hpq
  have h1:min (r x.1) (r x.2)<=r p:=by rcases hp with rfl | rfl <;> omega
  have h2:r q<=max (r y.1) (r y.2):=by rcases hq with rfl | rfl <;> omega
  show min (r x.1) (r x.2)<=max (r y.1) (r y.2)
  omega
open Classical in
noncomputable def eO (row:List Pt3)(p:Pt3):Int:=if h:∃i:Nat,row[i]?=some p then (Classical.choose h:Nat) else 0
theorem lJ {row:List Pt3}(hs:Srt row){i:Nat}{p:Pt3}(h:row[i]?=some p):eO row p=i:=by
  have hex:∃i:Nat,row[i]?=some p:=⟨i,h⟩
  unfold eO
  rw[dif_pos hex]
  have:=Classical.choose_spec hex
  have e:Classical.choose hex=i:=(List.getElem?_inj (List.getElem?_eq_some_iff.mp this).1 hs.nodup).mp (this.trans h.symm)
  rw[e]
theorem u3 {row:List Pt3}(hs:Srt row){p q:Pt3}(hp:p∈row)(hq:q∈row)(h:leP p q):eO row p<=eO row q:=by
  obtain⟨i,hi⟩:=List.getElem?_of_mem hp
  obtain⟨j,hj⟩:=List.getElem?_of_mem hq
  rw[lJ hs hi,lJ hs hj]
  by_cases hlt:j<i
  · exfalso
    have li:=(List.getElem?_eq_some_iff.mp hi)
    have lj:=(List.getElem?_eq_some_iff.mp hj)
    have:=List.pairwise_iff_getElem.mp hs.2 j i lj.1 li.1 hlt
    rw[li.2,lj.2] at this
    rw[show leP p q=(ahd q p=false) from rfl] at h
    rw[this] at h
    cases h
  · omega
end L2
namespace L2
theorem rG {a b:Pt3}(h:bS a b):bS (flp a) (flp b):=fun e=>h ⟨e.2,e.1⟩
theorem pY {p a b:Pt3}(hp:Lp p)(ha:Lp a)(hb:Lp b)(hab:bS a b)(h:onB p a b=true):onB (flp p) (flp a) (flp b)=true:=by
  obtain⟨u,v,k,hu,hv,hk,e1,e2,e3⟩:=vk hp.pos ha.pos hb.pos hab h
  refine qr (u:=u) (v:=v) (k:=k) ha.pos hb.pos (dS hp) (rG hab) hu hv ?_ hk e2.symm e1.symm e3.symm
  rcases Int.lt_or_le 0 (u+v) with h|h
  · exact h
  · have hu0:u=0:=by omega
    have hv0:v=0:=by omega
    rw[hu0,hv0] at e3
    have:=Int.mul_pos hk hp.pos
    omega
theorem rS {X a b c d:Pt3}(hX:Lp X)(ha:Lp a)(hb:Lp b)(hc:Lp c)(hd:Lp d)(h1:onB X a b=true)(h2:onB X c d=true):∃p q,(p=a∨p=b)/\(q=c∨q=d)/\leP p q:=by
  have o1:=(gy (tI h1)).mp h1
  have o2:=(gy (tI h2)).mp h2
  refine⟨(bh a b).1,(bh c d).2,?_,?_,?_⟩
  · rcases bQ a b with h|h
    · exact .inl h.1
    · exact .inr h.1
  · rcases bQ c d with h|h
    · exact .inr h.2
    · exact .inl h.2
  · have l1:Lp (bh a b).1:=by
      rcases bQ a b with h|h
      · rw[h.1];exact ha
      · rw[h.1];exact hb
    have l2:Lp (bh c d).2:=by
      rcases bQ c d with h|h
      · rw[h.2];exact hd
      · rw[h.2];exact hc
    exact fq l1 hX l2 o1.1 o2.2
structure OkS (n:Nat)(x:Pt3×Pt3):Prop where
  a:Lp x.1
  b:Lp x.2
  ab:bS x.1 x.2
  za:Sz n x.1
  zb:Sz n x.2
def Touch (x y:Pt3×Pt3):Prop:=∃X,Lp X/\onB X x.1 x.2=true/\onB X y.1 y.2=true
theorem Touch.symm {x y:Pt3×Pt3}(h:Touch x y):Touch y x:=let ⟨X,a,b,c⟩:=h;⟨X,a,c,b⟩
def flS (x:Pt3×Pt3):Pt3×Pt3:=(flp x.1,flp x.2)
theorem Touch.flip {n:Nat}{x y:Pt3×Pt3}(hx:OkS n x)(hy:OkS n y)(h:Touch x y):Touch (flS x) (flS y):=by
  obtain⟨X,l,h1,h2⟩:=h
  exact⟨flp X,dS l,pY l hx.a hx.b hx.ab h1,pY l hy.a hy.b hy.ab h2⟩
theorem Touch.span {xs:List (Pt3×Pt3)}{sp:List (Int×Int)}(h:Spans xs sp){i j:Nat}{x y:Pt3×Pt3}{s t:Int×Int}(hx:xs[i]?=some x)(hy:xs[j]?=some y)(hs:sp[i]?=some s)(ht:sp[j]?=some t)(lx:Lp x.1/\Lp x.2)(ly:Lp y.1/\Lp y.2)(c:Touch x y):s.1<=t.2:=by
  obtain⟨X,l,h1,h2⟩:=c
  obtain⟨p,q,hp,hq,hpq⟩:=rS l lx.1 lx.2 ly.1 ly.2 h1 h2
  exact h.meet hx hy hs ht hp hq hpq
def rO (ss:List (Pt3×Pt3))(prs:List (Int×Int)):Prop:=prs.length<=ss.length*ss.length/\(∀c∈prs,∃i j:Nat,c=((i:Int),(j:Int))/\i<ss.length/\j<ss.length/\i≠j)/\∀(i j:Nat) x y,i≠j->ss[i]?=some x->ss[j]?=some y->Touch x y->((i:Int),(j:Int))∈prs∨((j:Int),(i:Int))∈prs
def j3 (sp hp:List (Int×Int))(i j:Nat):Prop:=∃s t a b,sp[i]?=some s/\sp[j]?=some t/\hp[i]?=some a/\hp[j]?=some b/\t.1<=s.2/\b.1<=a.2/\a.1<=b.2
theorem vy {ss:List (Pt3×Pt3)}{sp hp prs:List (Int×Int)}{row:List Nat}{n:Nat}(hn:∀x∈ss,OkS n x)(h1:Spans ss sp)(h2:Spans (ss.map flS) hp)(hr:row.Perm (List.range ss.length))
    (hl:prs.length<=ss.length*ss.length) (hv:∀c∈prs,∃i j:Nat,c=((i:Int),(j:Int))/\i<ss.length/\j<ss.length/\i≠j) (hg:∀(a b i j:Nat),a<b->row[a]?=some i->row[b]?=some j->j3 sp hp i j->((i:Int),(j:Int))∈prs):rO ss prs:=by
  have pos:∀{i:Nat},i<ss.length->∃a,row[a]?=some i:=fun {i} hi=>List.getElem?_of_mem (hr.mem_iff.mpr (List.mem_range.mpr hi))
  have good:∀{i j:Nat} {x y:Pt3×Pt3},ss[i]?=some x->ss[j]?=some y->Touch x y->j3 sp hp i j:=fun {i j x y} hx hy t=>by
    have li:=(List.getElem?_eq_some_iff.mp hx).1
    have lj:=(List.getElem?_eq_some_iff.mp hy).1
    have ox:=hn x (List.mem_of_getElem? hx)
    have oy:=hn y (List.mem_of_getElem? hy)
    have l1:=h1.1
    have l2:=h2.1
    rw[List.length_map] at l2
    obtain⟨s,hs⟩:∃s,sp[i]?=some s:=⟨_,List.getElem?_eq_getElem (by omega)⟩
    obtain⟨u,hu⟩:∃s,sp[j]?=some s:=⟨_,List.getElem?_eq_getElem (by omega)⟩
    obtain⟨a,ha⟩:∃s,hp[i]?=some s:=⟨_,List.getElem?_eq_getElem (by omega)⟩
    obtain⟨b,hb⟩:∃s,hp[j]?=some s:=⟨_,List.getElem?_eq_getElem (by omega)⟩
    have fx:(ss.map flS)[i]?=some (flS x):=by rw[List.getElem?_map,hx];rfl
    have fy:(ss.map flS)[j]?=some (flS y):=by rw[List.getElem?_map,hy];rfl
    have ft:=t.flip ox oy
    exact⟨s,u,a,b,hs,hu,ha,hb,t.symm.span h1 hy hx hu hs ⟨oy.a,oy.b⟩ ⟨ox.a,ox.b⟩,ft.symm.span h2 fy fx hb ha ⟨dS oy.a,dS oy.b⟩ ⟨dS ox.a,dS ox.b⟩,ft.span h2 fx fy ha hb ⟨dS ox.a,dS ox.b⟩ ⟨dS oy.a,dS oy.b⟩⟩
  refine⟨hl,hv,fun i j x y hij hx hy t=>?_⟩
  obtain⟨a,ha⟩:=pos (List.getElem?_eq_some_iff.mp hx).1
  obtain⟨b,hb⟩:=pos (List.getElem?_eq_some_iff.mp hy).1
  rcases Nat.lt_trichotomy a b with h|h|h
  · exact .inl (hg a b i j h ha hb (good hx hy t))
  · rw[h,hb] at ha;cases ha;exact absurd rfl hij
  · exact .inr (hg b a j i h hb ha (good hy hx t.symm))
theorem mL {a b c d:Pt3}(ha:Lp a)(hb:Lp b)(hc:Lp c)(hd:Lp d):∀p∈cJ a b c d,p=a∨p=b∨p=c∨p=d:=by
  have lo:dh (bh a b).1 (bh c d).1=a∨dh (bh a b).1 (bh c d).1=b∨dh (bh a b).1 (bh c d).1=c∨dh (bh a b).1 (bh c d).1=d:=by
    unfold dh
    rcases bQ a b with h|h <;> rcases bQ c d with g|g <;> rw[h.1,g.1] <;> split <;> simp
  have hi:dE (bh a b).2 (bh c d).2=a∨dE (bh a b).2 (bh c d).2=b∨dE (bh a b).2 (bh c d).2=c∨dE (bh a b).2 (bh c d).2=d:=by
    unfold dE
    rcases bQ a b with h|h <;> rcases bQ c d with g|g <;> rw[h.2,g.2] <;> split <;> simp
  intro p hp
  unfold cJ at hp
  split at hp
  · rw[List.mem_singleton.mp hp];exact lo
  · split at hp
    · rcases List.mem_cons.mp hp with rfl | hp
      · exact lo
      · rw[List.mem_singleton.mp hp];exact hi
    · cases hp
def Strict (x y:Pt3×Pt3):Prop:=sgn (det x.1 x.2 y.1)*sgn (det x.1 x.2 y.2)<0/\sgn (det y.1 y.2 x.1)*sgn (det y.1 y.2 x.2)<0
def crS (x y:Pt3×Pt3):Pt3:=pbF (ao (ao x.1 x.2) (ao y.1 y.2)).x (ao (ao x.1 x.2) (ao y.1 y.2)).y (ao (ao x.1 x.2) (ao y.1 y.2)).z
theorem Strict.symm {x y:Pt3×Pt3}(h:Strict x y):Strict y x:=⟨h.2,h.1⟩
theorem oB {x y:Int}(h:sgn x*sgn y<0):sgn x≠sgn y:=fun e=>by
  rw[e] at h
  have:=sqn (sgn y)
  omega
theorem tD {x y:Int}(h:sgn x≠sgn y)(hx:x≠0)(hy:y≠0):sgn x*sgn y<0:=by
  rcases iw x with⟨e,h1⟩|⟨e,h1⟩|⟨e,h1⟩ <;> rcases iw y with⟨f,h2⟩|⟨f,h2⟩|⟨f,h2⟩ <;> first|(rw[e,f] at h;exact absurd rfl h)|(rw[e,f];decide)|exact absurd h1 hx|exact absurd h2 hy
theorem Strict.meet {x y:Pt3×Pt3}(h:Strict x y):cP x.1 x.2 y.1 y.2=[crS x y]:=by
  unfold cP crS
  rw[if_neg (oB h.1),if_neg (oB h.2)]
theorem Strict.touch {n:Nat}{x y:Pt3×Pt3}(hx:OkS n x)(hy:OkS n y)(h:Strict x y):Touch x y:=by
  have:=iG hx.a hx.b hy.a hy.b hx.ab hy.ab
  rw[h.meet] at this
  obtain⟨l,a,b⟩:=this.2.1 _ (List.mem_singleton.mpr rfl)
  exact⟨_,l,a,b⟩
theorem Strict.cr {n:Nat}{x y:Pt3×Pt3}(hx:OkS n x)(hy:OkS n y)(h:Strict x y):crS y x=crS x y:=by
  have:=kI hx.a hx.b hy.a hy.b hx.ab hy.ab
  rw[h.meet,h.symm.meet] at this
  exact List.singleton_inj.mp this
theorem oM {n:Nat}{x y:Pt3×Pt3}(hx:OkS n x)(hy:OkS n y){p:Pt3}(hp:p∈cP x.1 x.2 y.1 y.2):(p=x.1∨p=x.2∨p=y.1∨p=y.2)∨(Strict x y/\p=crS x y):=by
  have sw:=kI hx.a hx.b hy.a hy.b hx.ab hy.ab
  by_cases h1:sgn (det x.1 x.2 y.1)=sgn (det x.1 x.2 y.2)
  · unfold cP at hp
    rw[if_pos h1] at hp
    split at hp
    · exact .inl (mL hx.a hx.b hy.a hy.b p hp)
    · cases hp
  · by_cases h2:sgn (det y.1 y.2 x.1)=sgn (det y.1 y.2 x.2)
    · unfold cP at hp
      rw[if_neg h1,if_pos h2] at hp
      cases hp
    · have e1:cP x.1 x.2 y.1 y.2=[crS x y]:=by unfold cP crS;rw[if_neg h1,if_neg h2]
      have e2:cP y.1 y.2 x.1 x.2=[crS y x]:=by unfold cP crS;rw[if_neg h2,if_neg h1]
      rw[e1] at hp sw
      rw[e2] at sw
      have hp:=List.mem_singleton.mp hp
      have es:crS y x=crS x y:=List.singleton_inj.mp sw
      have c1:=kT hy.a hy.b hy.ab h1
      have c2:=kT hx.a hx.b hx.ab h2
      by_cases z1:det x.1 x.2 y.1=0
      · exact .inl (.inr (.inr (.inl (by rw[hp];exact c1.1 z1))))
      by_cases z2:det x.1 x.2 y.2=0
      · exact .inl (.inr (.inr (.inr (by rw[hp];exact c1.2 z2))))
      by_cases z3:det y.1 y.2 x.1=0
      · exact .inl (.inl (by rw[hp,←es];exact c2.1 z3))
      by_cases z4:det y.1 y.2 x.2=0
      · exact .inl (.inr (.inl (by rw[hp,←es];exact c2.2 z4)))
      exact .inr ⟨⟨tD h1 z1 z2,tD h2 z3 z4⟩,hp⟩
def we (ss:List (Pt3×Pt3))(p:Pt3):Prop:=∃s∈ss,p=s.1∨p=s.2
def im (ss:List (Pt3×Pt3))(prs:List (Int×Int))(p:Pt3):Prop:=we ss p∨∃(i j:Nat) (x y:Pt3×Pt3),((i:Int),(j:Int))∈prs/\ss[i]?=some x/\ss[j]?=some y/\p∈cP x.1 x.2 y.1 y.2
def gE (ss:List (Pt3×Pt3))(p:Pt3):Prop:=we ss p∨∃(k o:Nat) (x y:Pt3×Pt3),o<k/\ss[k]?=some x/\ss[o]?=some y/\Strict x y/\p=crS x y
theorem sT {n:Nat}{ss:List (Pt3×Pt3)}{prs:List (Int×Int)}(hn:∀x∈ss,OkS n x)(h:rO ss prs)(p:Pt3):im ss prs p↔gE ss p:=by
  constructor
  · rintro (h1|⟨i,j,x,y,hm,hx,hy,hp⟩)
    · exact .inl h1
    · have ox:=hn x (List.mem_of_getElem? hx)
      have oy:=hn y (List.mem_of_getElem? hy)
      rcases oM ox oy hp with h1|⟨h1,h2⟩
      · refine .inl ?_
        rcases h1 with h1|h1|h1|h1
        · exact⟨x,List.mem_of_getElem? hx,.inl h1⟩
        · exact⟨x,List.mem_of_getElem? hx,.inr h1⟩
        · exact⟨y,List.mem_of_getElem? hy,.inl h1⟩
        · exact⟨y,List.mem_of_getElem? hy,.inr h1⟩
      · obtain⟨i',j',e,_,_,hij⟩:=h.2.1 _ hm
        have e1:i=i':=by have:(i:Int)=(i':Int):=congrArg Prod.fst e;omega
        have e2:j=j':=by have:(j:Int)=(j':Int):=congrArg Prod.snd e;omega
        subst e1 e2
        rcases Nat.lt_or_gt_of_ne hij with hlt|hlt
        · exact .inr ⟨j,i,y,x,hlt,hy,hx,h1.symm,by rw[h2,h1.cr ox oy]⟩
        · exact .inr ⟨i,j,x,y,hlt,hx,hy,h1,h2⟩
  · rintro (h1|⟨k,o,x,y,hlt,hx,hy,st,hp⟩)
    · exact .inl h1
    · have ox:=hn x (List.mem_of_getElem? hx)
      have oy:=hn y (List.mem_of_getElem? hy)
      rcases h.2.2 k o x y (Nat.ne_of_gt hlt) hx hy (st.touch ox oy) with hm|hm
      · exact .inr ⟨k,o,x,y,hm,hx,hy,by rw[st.meet,hp];exact List.mem_singleton.mpr rfl⟩
      · exact .inr ⟨o,k,y,x,hm,hy,hx,by rw[st.symm.meet,hp,st.cr ox oy];exact List.mem_singleton.mpr rfl⟩
theorem Is3.lp {A B C:Int}{r:Pt3}(i:Is3 A B C r):Lp r:=⟨i.pos,i.cop⟩
theorem Is3.dvd {A B C:Int}{r:Pt3}(i:Is3 A B C r):r.z ∣ C:=by
  obtain⟨d,d0,e1,e2,e3⟩:=i.ex
  exact⟨d,by rw[e3,Int.mul_comm]⟩
structure Dp (M:Int)(m:Nat)(p:Pt3):Prop where
  lp:Lp p
  dv:p.z ∣ M
  x:p.x.natAbs<=m*p.z.natAbs
  y:p.y.natAbs<=m*p.z.natAbs
def Dq (n m:Nat)(ps:List Pt3):Prop:=∃M:Int,0<M/\M<2 ^ n/\6 ∣ M/\∀p∈ps,Dp M m p
theorem Dp.dvd {M N:Int}{m m':Nat}{p:Pt3}(h:Dp M m p)(d:M ∣ N)(f:m<=m'):Dp N m' p:=
  ⟨h.lp,Int.dvd_trans h.dv d,Nat.le_trans h.x (Nat.mul_le_mul_right _ f),Nat.le_trans h.y (Nat.mul_le_mul_right _ f)⟩
theorem wk {n n':Nat}(e:n<=n'):(2:Int) ^ n<=2 ^ n':=by
  have h:=Nat.pow_le_pow_right (show 0<2 by decide) e
  have:((2 ^ n:Nat):Int)<=((2 ^ n':Nat):Int):=Int.ofNat_le.mpr h
  simpa using this
theorem Dq.mono {n n' m m':Nat}{ps:List Pt3}(h:Dq n m ps)(e:n<=n')(f:m<=m'):Dq n' m' ps:=by
  obtain⟨M,h0,h1,h2,h3⟩:=h
  exact⟨M,h0,Int.lt_of_lt_of_le h1 (wk e),h2,fun p hp=>(h3 p hp).dvd (Int.dvd_refl _) f⟩
theorem Dq.sub {n m:Nat}{ps qs:List Pt3}(h:Dq n m ps)(s:∀q∈qs,q∈ps):Dq n m qs:=by
  obtain⟨M,h0,h1,h2,h3⟩:=h
  exact⟨M,h0,h1,h2,fun p hp=>h3 p (s p hp)⟩
theorem Dq.nil (m:Nat):Dq 3 m []:=⟨6,by decide,by decide,Int.dvd_refl _,fun _ h=>nomatch h⟩
theorem Dq.cons {M:Int}{n m:Nat}{ps:List Pt3}{r:Pt3}(h0:0<M)(h1:M<2 ^ n)(h2:6 ∣ M)(h3:∀p∈ps,Dp M m p)(hr:Dp M m r):Dq n m (r::ps):=
  ⟨M,h0,h1,h2,fun p hp=>by
    rcases List.mem_cons.mp hp with rfl|hp
    · exact hr
    · exact h3 p hp⟩
theorem Dq.old {n m:Nat}{ps:List Pt3}{r:Pt3}(h:Dq n m ps)(hr:r∈ps):Dq n m (r::ps):=h.sub fun q hq=>by
  rcases List.mem_cons.mp hq with rfl | hq
  · exact hr
  · exact hq
theorem Dq.lp {n m:Nat}{ps:List Pt3}(h:Dq n m ps){p:Pt3}(hp:p∈ps):Lp p:=by
  obtain⟨M,h0,h1,h2,h3⟩:=h
  exact (h3 p hp).lp
theorem wd {n:Nat}{z:Int}(h0:0<z)(h:z<2 ^ n):z.natAbs<2 ^ n:=by
  have:((2 ^ n:Nat):Int)=2 ^ n:=by simp
  omega
theorem Dq.sz {n m:Nat}{ps:List Pt3}(h:Dq n m ps){p:Pt3}(hp:p∈ps)(e:n<=400)(f:m<=2 ^ 50):Sz 450 p:=by
  obtain⟨M,h0,h1,h2,h3⟩:=h.mono e f
  have d:=h3 p hp
  have hz:p.z<=M:=Int.le_of_dvd h0 d.dv
  have hzn:p.z.natAbs<2 ^ 400:=wd d.lp.pos (by omega)
  have b:∀n:Int,n.natAbs<=2 ^ 50*p.z.natAbs->Bd 450 n:=fun n hn=>by
    unfold Bd
    exact Nat.lt_of_le_of_lt hn (Nat.lt_of_lt_of_le (Nat.mul_lt_mul_of_pos_left hzn (by decide)) (by rw[←Nat.pow_add];exact Nat.le_refl _))
  refine⟨b _ d.x,b _ d.y,?_⟩
  unfold Bd
  exact Nat.lt_of_lt_of_le hzn (Nat.pow_le_pow_right (by decide) (by decide))
theorem Dq.mid {n m:Nat}{ps:List Pt3}{p q r:Pt3}(h:Dq n m ps)(h1:p∈ps)(h2:q∈ps)(i:Is3 (p.x*q.z+q.x*p.z) (p.y*q.z+q.y*p.z) (2*p.z*q.z) r):Dq (n+1) m (r::ps):=by
  obtain⟨M,k0,k1,k2,k3⟩:=h
  have hp:=k3 p h1
  have hq:=k3 q h2
  obtain⟨m1,e1⟩:=hp.dv
  obtain⟨m2,e2⟩:=hq.dv
  have hz:2*p.z*q.z≠0:=by
    have h1:=hp.lp.pos
    have h2:=hq.lp.pos
    have:=Int.mul_pos (show 0<2*p.z by omega) h2
    omega
  have nn:=pZ i (tL hp.x hq.x) (tL hp.y hq.y)
  refine Dq.cons (M:=2*M) (by omega) (by rw[Int.pow_succ];omega) (Int.dvd_trans k2 (Int.dvd_mul_left _ _)) (fun z hz=>(k3 z hz).dvd (Int.dvd_mul_left _ _) (Nat.le_refl _)) ⟨i.lp,?_,nn.1,nn.2⟩
  have sw:∀a b:Int,2*M*(a*q.z+b*p.z)=2*p.z*q.z*(a*m1+b*m2):=fun a b=>by
    have f1:2*M*(a*q.z)=2*p.z*q.z*(a*m1):=by rw[e1];grind
    have f2:2*M*(b*p.z)=2*p.z*q.z*(b*m2):=by rw[e2];grind
    rw[Int.mul_add,Int.mul_add,f1,f2]
  exact vL i hz (sw p.x q.x) (sw p.y q.y)
theorem Dq.fresh {n m:Nat}{ps:List Pt3}{a b c:Int}{r:Pt3}(h:Dq n m ps)(i:Is3 a b c r)(hm:9<=m)(ha:0<=a/\a<=9)(hb:0<=b/\b<=9)(hc:1<=c/\c<=3):Dq n m (r::ps):=by
  obtain⟨M,k0,k1,k2,k3⟩:=h
  have nn:=pZ (m:=9) i (by omega) (by omega)
  refine Dq.cons k0 k1 k2 k3 ⟨i.lp,?_,Nat.le_trans nn.1 (Nat.mul_le_mul_right _ hm),Nat.le_trans nn.2 (Nat.mul_le_mul_right _ hm)⟩
  have h2:c ∣ 6:=by
    rcases (show c=1∨c=2∨c=3 by omega) with h|h|h <;> rw[h] <;> decide
  exact Int.dvd_trans i.dvd (Int.dvd_trans h2 k2)
theorem Dq.raw {n m:Nat}{ps:List Pt3}{a b c:Int}{r:Pt3}(h:Dq n m ps)(i:Is3 a b c r)(hm:10 ^ 12<=m)(ha:a.natAbs<=10 ^ 12)(hb:b.natAbs<=10 ^ 12)(hc:1<=c/\c<=10 ^ 6):Dq (n+20) m (r::ps):=by
  obtain⟨M,k0,k1,k2,k3⟩:=h
  have nn:=pZ (m:=10 ^ 12) i (by omega) (by omega)
  refine Dq.cons (M:=M*c) (Int.mul_pos k0 (by omega)) ?_ (Int.dvd_trans k2 (Int.dvd_mul_right _ _)) (fun z hz=>(k3 z hz).dvd (Int.dvd_mul_right _ _) (Nat.le_refl _)) ⟨i.lp,Int.dvd_trans i.dvd (Int.dvd_mul_left _ _),Nat.le_trans nn.1 (Nat.mul_le_mul_right _ hm),Nat.le_trans nn.2 (Nat.mul_le_mul_right _ hm)⟩
  rw[Int.pow_add]
  have h1:M*c<=M*2 ^ 20:=Int.mul_le_mul_of_nonneg_left (by have:=hc.2;omega) (by omega)
  have h2:M*2 ^ 20<2 ^ n*2 ^ 20:=Int.mul_lt_mul_of_pos_right k1 (by decide)
  omega
theorem Dq.step {n m:Nat}{ps:List Pt3}{p r:Pt3}{d:Int}(h:Dq n m ps)(hp:p∈ps)(hd:0<=d/\d<=1)(i:Is3 (p.x+p.z*d) (p.y+p.z) p.z r):Dq n (m+1) (r::ps):=by
  obtain⟨M,k0,k1,k2,k3⟩:=h
  have dp:=k3 p hp
  have h0:=dp.lp.pos
  have nn:=pZ (m:=m+1) i (by
    have:=dp.x
    rw[Nat.succ_mul]
    rcases (show d=0∨d=1 by omega) with h|h <;> rw[h] <;> omega) (by
    have:=dp.y
    rw[Nat.succ_mul]
    omega)
  exact Dq.cons k0 k1 k2 (fun z hz=>(k3 z hz).dvd (Int.dvd_refl _) (Nat.le_succ _)) ⟨i.lp,Int.dvd_trans i.dvd dp.dv,nn.1,nn.2⟩
theorem uQ {p r:Pt3}{d:Int}(h0:0<p.z)(i:Is3 (p.x+p.z*d) (p.y+p.z) p.z r):p≠r:=fun e=>by
  subst e
  obtain⟨k,k0,e1,e2,e3⟩:=i.ex
  have hk:k=1:=by
    have:1*p.z=k*p.z:=by omega
    exact (Int.eq_of_mul_eq_mul_right (by omega) this).symm
  subst hk
  omega
theorem nM {p q:Pt3}(hp:Lp p)(hq:Lp q)(h:p≠q):bS p q:=Classical.byContradiction fun e=>h (hp.eq hq e)
def frP (f a b c:Int)(p:Pt3):Pt3:=pbF (f*p.x+a*p.z) (f*p.y+b*p.z) (p.z*c)
theorem lZ {f a b c:Int}{p r:Pt3}(hp:0<p.z)(hc:0<c)(i:Is3 (f*p.x+a*p.z) (f*p.y+b*p.z) (p.z*c) r):frP f a b c p=r:=tm (by have:=Int.mul_pos hp hc;omega) i
theorem uw {f a b c:Int}{p q r s:Pt3}(hf:0<f)(hc:0<c)(hp:0<p.z)(hq:0<q.z)(h:bS p q)(i:Is3 (f*p.x+a*p.z) (f*p.y+b*p.z) (p.z*c) r)(j:Is3 (f*q.x+a*q.z) (f*q.y+b*q.z) (q.z*c) s):bS r s:=fun e=>h (by
  obtain⟨d,d0,e1,e2,e3⟩:=i.ex
  obtain⟨d',d0',f1,f2,f3⟩:=j.ex
  have key:∀{X Y U V a:Int},f*X+a*p.z=d*U->f*Y+a*q.z=d'*V->U*s.z=V*r.z->X*q.z=Y*p.z:=by
    intro X Y U V a g1 g2 g3
    have:(f*X+a*p.z)*(q.z*c)=(f*Y+a*q.z)*(p.z*c):=by
      rw[g1,g2,f3,e3]
      have l:d*U*(d'*s.z)=d*d'*(U*s.z):=by grind
      have m:d'*V*(d*r.z)=d*d'*(V*r.z):=by grind
      rw[l,m,g3]
    have h2:(f*c)*(X*q.z)=(f*c)*(Y*p.z):=by
      clear g1 g2 g3 e1 e2 e3 f1 f2 f3 e h i j
      grind
    exact Int.eq_of_mul_eq_mul_left (Int.mul_ne_zero (by omega) (by omega)) h2
  exact⟨key e1 f1 e.1,key e2 f2 e.2⟩)
section
open PySem PySem.Spec PyProof.Rows
def TpK (H H':Hp):Prop:=∀b xs,H b=some (.tup xs)->H' b=some (.tup xs)
theorem fR {H H':Hp}{l:Addr}{ys:List V}(s:SameB l H H')(h:H l=some (.lst ys)):TpK H H':=fun b xs hb=>s _ _ hb fun e=>by rw[e,h] at hb;cases hb
theorem wm {H H':Hp}{l m:Addr}{ys zs:List V}(s:Same2 l m H H')(h:H l=some (.lst ys))(g:H m=some (.lst zs)):TpK H H':=fun b xs hb=>s _ _ hb (fun e=>by rw[e,h] at hb;cases hb) fun e=>by rw[e,g] at hb;cases hb
theorem rT {H:Hp}{l:Addr}{ys:List V}{o:HO}(h:H l=some (.lst ys)):TpK H (upd H l o):=fun b xs hb=>by
  rw[aF (fun e=>by rw[e,h] at hb;cases hb)]
  exact hb
theorem TupT.tk {H H':Hp}{v:V}{ns:List Int}(h:TupT H v ns)(s:TpK H H'):TupT H' v ns:=by
  obtain⟨a,rfl,ha⟩:=h
  exact⟨a,rfl,s _ _ ha⟩
end
theorem pd {p q:Pt3}(h:bS p q):bS q p:=fun e=>h ⟨e.1.symm,e.2.symm⟩
theorem OkS.swap {n:Nat}{p q:Pt3}(h:OkS n (p,q)):OkS n (q,p):=⟨h.b,h.a,pd h.ab,h.zb,h.za⟩
end L2
namespace My
open PySem PySem.Spec PyProof.Rows L2
def top (i:Nat):Stmt:=PySem.Challenge.pw_plymap_k23_spots_and_cuts.main.body.getD i (.Pass ⟨0,0,0,0⟩)
def dB:Stmt:=top 10
def eW:Stmt:=top 4
def dY:Stmt:=top 5
def cL:Stmt:=top 7
def dt:Stmt:=top 9
def dC:Stmt:=top 11
def dn:Stmt:=top 12
def cj:Stmt:=top 14
def cW:Stmt:=top 15
def iB:Stmt:=top 16
def dZ:Stmt:=top 17
def bX:Stmt:=top 19
def bT:Stmt:=top 20
def cB:Stmt:=top 21
def iC:Stmt:=top 22
def dm:Stmt:=top 24
def ed:Stmt:=top 25
def cK:Stmt:=top 26
def du:Stmt:=top 27
def dk:Stmt:=top 28
def fh:Stmt:=top 29
def ff:Stmt:=top 31
def fc:Stmt:=top 32
def eY:Stmt:=top 33
def fg:Stmt:=top 34
def cX:Stmt:=top 35
def d6:Stmt:=top 36
def dz:Stmt:=top 37
def d9:Stmt:=top 38
def eX:Stmt:=top 39
def iD:Stmt:=top 40
def eZ:Stmt:=top 41
def d7:Stmt:=top 42
def dA:Stmt:=top 43
def d8:Stmt:=top 44
def dw:Stmt:=top 45
def d5:Stmt:=top 46
def gw:Stmt:=top 47
def fb:Stmt:=top 48
def fe:Stmt:=top 49
def ck:Stmt:=top 50
def dy:Stmt:=top 51
def gY:Stmt:=top 52
structure Adr where
  f_is_ahead:Addr
  d_is_ahead:FuncData
  f_merged:Addr
  d_merged:FuncData
  f_ordered:Addr
  d_ordered:FuncData
  f_divisor_of:Addr
  d_divisor_of:FuncData
  f_point_by:Addr
  d_point_by:FuncData
  f_in_order:Addr
  d_in_order:FuncData
  f_ranks_of:Addr
  d_ranks_of:FuncData
  f_line_through:Addr
  d_line_through:FuncData
  f_turn_from:Addr
  d_turn_from:FuncData
  f_turn:Addr
  d_turn:FuncData
  f_lies_on:Addr
  d_lies_on:FuncData
  f_ends_in_order:Addr
  d_ends_in_order:FuncData
  f_shared_on_line:Addr
  d_shared_on_line:FuncData
  f_crossing_of:Addr
  d_crossing_of:FuncData
  f_meet:Addr
  d_meet:FuncData
  f_spans_of:Addr
  d_spans_of:FuncData
  f_flipped:Addr
  d_flipped:FuncData
  f_near_pairs:Addr
  d_near_pairs:FuncData
  f_marks_of:Addr
  d_marks_of:FuncData
  f_spots_of:Addr
  d_spots_of:FuncData
  f_cut_at:Addr
  d_cut_at:FuncData
  f_l_hand:Addr
  d_l_hand:FuncData
  f_l_next:Addr
  d_l_next:FuncData
  f_l_take:Addr
  d_l_take:FuncData
  f_l_draw:Addr
  d_l_draw:FuncData
  f_l_divisor:Addr
  d_l_divisor:FuncData
  f_l_point:Addr
  d_l_point:FuncData
  f_l_middle:Addr
  d_l_middle:FuncData
  f_l_ahead:Addr
  d_l_ahead:FuncData
  f_l_turn:Addr
  d_l_turn:FuncData
  f_l_on:Addr
  d_l_on:FuncData
  f_l_spot:Addr
  d_l_spot:FuncData
  f_l_frame:Addr
  d_l_frame:FuncData
  f_l_framed:Addr
  d_l_framed:FuncData
  f_l_cross:Addr
  d_l_cross:FuncData
  f_l_sorted:Addr
  d_l_sorted:FuncData
  f_l_spots:Addr
  d_l_spots:FuncData
  f_l_raw:Addr
  d_l_raw:FuncData
  f_l_side:Addr
  d_l_side:FuncData
  f_l_list:Addr
  d_l_list:FuncData
  f_l_strokes_by:Addr
  d_l_strokes_by:FuncData
  f_l_points:Addr
  d_l_points:FuncData
  f_law:Addr
  d_law:FuncData
  p_near_pairs:Addr
  q_near_pairs:Addr
structure Txt (K:PySem.W.Frag)(mg:Str->Option Value)(t:Adr):Prop where
  is_ahead:Fn K mg "is_ahead" dB t.f_is_ahead t.d_is_ahead ["p","q"]
  merged:Fn K mg "merged" eW t.f_merged t.d_merged ["one","other","goes_first"]
  ordered:Fn K mg "ordered" dY t.f_ordered t.d_ordered ["things","goes_first"]
  divisor_of:Fn K mg "divisor_of" cL t.f_divisor_of t.d_divisor_of ["one","other"]
  point_by:Fn K mg "point_by" dt t.f_point_by t.d_point_by ["a","b","c"]
  in_order:Fn K mg "in_order" dC t.f_in_order t.d_in_order ["points"]
  ranks_of:Fn K mg "ranks_of" dn t.f_ranks_of t.d_ranks_of ["points"]
  line_through:Fn K mg "line_through" cj t.f_line_through t.d_line_through ["p","q"]
  turn_from:Fn K mg "turn_from" cW t.f_turn_from t.d_turn_from ["line","r"]
  turn:Fn K mg "turn" iB t.f_turn t.d_turn ["p","q","r"]
  lies_on:Fn K mg "lies_on" dZ t.f_lies_on t.d_lies_on ["p","a","b"]
  ends_in_order:Fn K mg "ends_in_order" bX t.f_ends_in_order t.d_ends_in_order ["a","b"]
  shared_on_line:Fn K mg "shared_on_line" bT t.f_shared_on_line t.d_shared_on_line ["a","b","c","d"]
  crossing_of:Fn K mg "crossing_of" cB t.f_crossing_of t.d_crossing_of ["one","other"]
  meet:Fn K mg "meet" iC t.f_meet t.d_meet ["a","b","c","d"]
  spans_of:Fn K mg "spans_of" dm t.f_spans_of t.d_spans_of ["sides"]
  flipped:Fn K mg "flipped" ed t.f_flipped t.d_flipped ["p"]
  near_pairs:Fn K mg "near_pairs" cK t.f_near_pairs t.d_near_pairs ["strokes"]
  marks_of:Fn K mg "marks_of" du t.f_marks_of t.d_marks_of ["strokes"]
  spots_of:Fn K mg "spots_of" dk t.f_spots_of t.d_spots_of ["strokes"]
  cut_at:Fn K mg "cut_at" fh t.f_cut_at t.d_cut_at ["p","q","points"]
  l_hand:Fn K mg "_law_hand" ff t.f_l_hand t.d_l_hand ["_law_script"]
  l_next:Fn K mg "_law_next" fc t.f_l_next t.d_l_next ["_law_hand_here"]
  l_take:Fn K mg "_law_take" eY t.f_l_take t.d_l_take ["_law_hand_here"]
  l_draw:Fn K mg "_law_draw" fg t.f_l_draw t.d_l_draw ["_law_hand_here","_law_many"]
  l_divisor:Fn K mg "_law_divisor" cX t.f_l_divisor t.d_l_divisor ["_law_one","_law_other"]
  l_point:Fn K mg "_law_point" d6 t.f_l_point t.d_l_point ["_law_a","_law_b","_law_c"]
  l_middle:Fn K mg "_law_middle" dz t.f_l_middle t.d_l_middle ["_law_p","_law_q"]
  l_ahead:Fn K mg "_law_ahead" d9 t.f_l_ahead t.d_l_ahead ["_law_p","_law_q"]
  l_turn:Fn K mg "_law_turn" eX t.f_l_turn t.d_l_turn ["_law_p","_law_q","_law_r"]
  l_on:Fn K mg "_law_on" iD t.f_l_on t.d_l_on ["_law_p","_law_a","_law_b"]
  l_spot:Fn K mg "_law_spot" eZ t.f_l_spot t.d_l_spot ["_law_hand_here","_law_seen","_law_wide"]
  l_frame:Fn K mg "_law_frame" d7 t.f_l_frame t.d_l_frame ["_law_hand_here"]
  l_framed:Fn K mg "_law_framed" dA t.f_l_framed t.d_l_framed ["_law_frame_here","_law_p"]
  l_cross:Fn K mg "_law_cross" d8 t.f_l_cross t.d_l_cross ["_law_a","_law_b","_law_c","_law_d"]
  l_sorted:Fn K mg "_law_sorted" dw t.f_l_sorted t.d_l_sorted ["_law_points_here"]
  l_spots:Fn K mg "_law_spots" d5 t.f_l_spots t.d_l_spots ["_law_strokes"]
  l_raw:Fn K mg "_law_raw" gw t.f_l_raw t.d_l_raw ["_law_hand_here"]
  l_side:Fn K mg "_law_side" fb t.f_l_side t.d_l_side ["_law_hand_here","_law_seen","_law_wide"]
  l_list:Fn K mg "_law_list" fe t.f_l_list t.d_l_list ["_law_found","_law_due"]
  l_strokes_by:Fn K mg "_law_strokes_by" ck t.f_l_strokes_by t.d_l_strokes_by ["_law_hand_here","_law_seen","_law_frame_here"]
  l_points:Fn K mg "_law_points" dy t.f_l_points t.d_l_points ["_law_hand_here","_law_p","_law_q","_law_spots_here"]
  law:Fn K mg "law" gY t.f_law t.d_law ["_law_script"]
  b_abs:mg "abs" = none
  b_dict:mg "dict" = none
  b_enumerate:mg "enumerate" = none
  b_int:mg "int" = none
  b_isinstance:mg "isinstance" = none
  b_len:mg "len" = none
  b_list:mg "list" = none
  b_max:mg "max" = none
  b_min:mg "min" = none
  b_range:mg "range" = none
  b_reversed:mg "reversed" = none
  b_sorted:mg "sorted" = none
  b_tuple:mg "tuple" = none
  b_zip:mg "zip" = none
  lc_near_pairs:t.d_near_pairs.code=.ref t.q_near_pairs
  lh_near_pairs:PySem.W.codeHdIn K t.q_near_pairs t.p_near_pairs=true
section
variable {P:Program}{w:World}{K:PySem.W.Frag}{mg:Str->Option Value}{base:Heap}{t:Adr}
def iP:Sp:=fun vs H Q _=>∃v w p q,vs=[v,w]/\AtP H v p/\AtP H w q/\Sz 4000 p/\Sz 4000 q/\Q (.bl (ahd p q)) H
theorem fG {σ:L2.St}{H:Hp}{t:TA}{v w:V}{p q:Pt3}(ha:PuA t σ H [v,w])(h1:AtP H v p)(h2:AtP H w q)(zp:Sz 4000 p)(zq:Sz 4000 q):Pu (ce iP [] E0 t) σ H (.bl (ahd p q)):=
  cu ha fun Q f=>⟨v,w,p,q,rfl,h1,h2,zp,zq,f⟩
theorem fY:FnScope ["p","q","here","there"] ["p","q"] (av dB):=⟨rfl,rfl,rfl,by decide +kernel,rfl,by decide +kernel,by decide +kernel⟩
theorem bI (T:Txt K mg t):FnOk P w K mg base CX0 1 t.f_is_ahead t.d_is_ahead ["p","q"] iP:=by
  refine T.is_ahead.F.ok (k:=0) fY (fun vs H Q E h=>?_) (fun cdv A outer s H vs Q E hr h=>?_)
  · obtain⟨v,w,p,q,rfl,_⟩:=h
    rfl
  · obtain⟨v,w,p,q,rfl,⟨a,rfl,ha⟩,⟨b,rfl,hb⟩,zp,zq,k⟩:=h
    refine⟨_,(@aj _ _ _ _ _ (@aE _ _ 2 _ _ _ _ fY.nd rfl (Or.inl rfl) (@az _ _ _ _ _ _ _ _ aD (@au _ _ _ _ _ _ _ ax (pv 0) (@ag _ _ _ _) (fun _ _=>rfl)) (@au _ _ _ _ _ _ _ ax (pv 1) (@ag _ _ _ _) (fun _ _=>rfl))) (by rfl) (by first | exact .inl rfl | exact .inr rfl | assumption)) (@aj _ _ _ _ _ (@aE _ _ 3 _ _ _ _ fY.nd rfl (Or.inl rfl) (@az _ _ _ _ _ _ _ _ aD (@au _ _ _ _ _ _ _ ax (pv 1) (@ag _ _ _ _) (fun _ _=>rfl)) (@au _ _ _ _ _ _ _ ax (pv 0) (@ag _ _ _ _) (fun _ _=>rfl))) (by rfl) (by first | exact .inl rfl | exact .inr rfl | assumption)) (@aj _ _ _ _ _ (@bB _ _ _ _ _ _ _ _ (@aG _ _ _ _ _ _ _ _ kB (pv 2) (pv 3) (aQ _)) (@ay _ _ _ (@aL _ _ _ _ (@gx _ _ _ _ _ _ _ _ eJ (pv 2) (pv 3) (aQ _)))) (@be _)) (@ay _ _ _ (@aL _ _ _ _ (@gx _ _ _ _ _ _ _ _ eJ (@az _ _ _ _ _ _ _ _ aD (@au _ _ _ _ _ _ _ ax (pv 0) (@ag _ _ _ _) (fun _ _=>rfl)) (@au _ _ _ _ _ _ _ ax (pv 1) (@ag _ _ _ _) (fun _ _=>rfl))) (@az _ _ _ _ _ _ _ _ aD (@au _ _ _ _ _ _ _ ax (pv 1) (@ag _ _ _ _) (fun _ _=>rfl)) (@au _ _ _ _ _ _ _ ax (pv 0) (@ag _ _ _ _) (fun _ _=>rfl))) (aQ _))))))),?_⟩
    refine bH (aJ (aw (ah rfl) pu_c (SqT.of (ha)) rfl) (aw (ah rfl) pu_c (SqT.of (hb)) rfl) (aC (zp.x) (zq.z) (by decide))) ?_
    refine bH (aJ (aw (ah rfl) pu_c (SqT.of (hb)) rfl) (aw (ah rfl) pu_c (SqT.of (ha)) rfl) (aC (zq.x) (zp.z) (by decide))) ?_
    refine cn (bM (jC (ah rfl) (ah rfl))) (fun e=>bL (em (ah rfl) (ah rfl)) ?_) (fun e=>bL (em (aJ (aw (ah rfl) pu_c (SqT.of (ha)) rfl) (aw (ah rfl) pu_c (SqT.of (hb)) rfl) (aC (zp.y) (zq.z) (by decide))) (aJ (aw (ah rfl) pu_c (SqT.of (hb)) rfl) (aw (ah rfl) pu_c (SqT.of (ha)) rfl) (aC (zq.y) (zp.z) (by decide)))) ?_)
    · have e':¬p.x*q.z=q.x*p.z:=by simpa using e
      rw[ahd,if_neg e'] at k
      exact k
    · have e':p.x*q.z=q.x*p.z:=by simpa using e
      rw[ahd,if_pos e'] at k
      exact k
def qC (t:Adr):Sp:=fun vs H Q _=>∃l m ps qs,vs=[.ref l,.ref m,.ref t.f_is_ahead]/\LP H l ps/\LP H m qs/\(∀p∈ps,Sz 4000 p)/\(∀p∈qs,Sz 4000 p)/\ps.length<=300/\qs.length<=300/\∀r H',H r=none->Same H H'->LP H' r (mrg ps qs)->Q (.ref r) H'
theorem eU:FnScope ["one","other","goes_first","row","at","thing"] ["one","other","goes_first"] (av eW):=⟨rfl,rfl,rfl,by decide +kernel,rfl,by decide +kernel,by decide +kernel⟩
theorem qV (T:Txt K mg t):FnOk P w K mg base CX0 2 t.f_merged t.d_merged ["one","other","goes_first"] (qC t):=by
  refine T.merged.F.ok (k:=1) eU (fun vs H Q E h=>?_) (fun cdv A outer s H vs Q E hr h=>?_)
  · obtain⟨l,m,ps,qs,rfl,_⟩:=h
    rfl
  · obtain⟨l,m,ps,qs,rfl,⟨us,hl,tu⟩,⟨ws,hm,tw⟩,zp,zq,np,nq,k⟩:=h
    refine⟨_,(@aj _ _ _ _ _ (@aE _ _ 3 _ _ _ _ eU.nd rfl (Or.inl rfl) (@cD _ _ _ _ (@ai _)) (by rfl) (by first | exact .inl rfl | exact .inr rfl | assumption)) (@aj _ _ _ _ _ (@aE _ _ 4 _ _ _ _ eU.nd rfl (Or.inl rfl) (@ag _ _ _ _) (by rfl) (by first | exact .inl rfl | exact .inr rfl | assumption)) (@aj _ _ _ _ _ (@eP _ _ _ _ _ _ _ _ PassesOwn.never rfl (@cf _ _ _ _ (pv 1)) (@aM _ _ 5 _ eU.nd rfl (Or.inl rfl) (by first | exact .inl rfl | exact .inr rfl | assumption)) (@aj _ _ _ _ _ (@er _ _ _ _ _ _ PassesOwn.never (PW.pt (@eg _ _ _ _ _ _ _ (@aG _ _ _ _ _ _ _ _ eJ (pv 4) (@aY _ _ _ _ _ _ _ _ _ aS (by rfl) T.b_len PySem.boot_len (@ae _ _ _ _ _ (pv 0) (@ai _) af) (by decide) (by decide) (by rfl) (by rfl)) (aQ _)) (@db _ _ _ _ (@cH _ _ _ (@sZ _ _ _ _ _ _ _ _ _ _ _ _ _ _ _ _ _ (bI T) (hr.mono (by decide)) (pv 2) T.is_ahead.F.kp T.is_ahead.b .nil vY (@ae _ _ _ _ _ (@au _ _ _ _ _ _ _ aI (pv 0) (pv 4) (fun _ _=>rfl)) (@ae _ _ _ _ _ (pv 5) (@ai _) af) aO) (by rfl) (by rfl)) (by intro _;rfl))))) (@aj _ _ _ _ _ (@bu _ _ _ _ (@cY _ _ _ _ _ _ _ _ _ _ _ _ PySem.F.plainAttrs_list PySem.F.slot_list_append PySem.F.type_list_append br (pv 3) (@ae _ _ _ _ _ (@au _ _ _ _ _ _ _ aI (pv 0) (pv 4) (fun _ _=>rfl)) (@ai _) aO) (by rfl) (by rfl) (by rfl) (by rfl) (by rfl)) (by rfl)) (@ay _ _ _ (@aE _ _ 4 _ _ _ _ eU.nd rfl (Or.inl rfl) (@az _ _ _ _ _ _ _ _ bP (pv 4) (@ag _ _ _ _)) (by rfl) (by first | exact .inl rfl | exact .inr rfl | assumption))))) (@ay _ _ _ (@bu _ _ _ _ (@cY _ _ _ _ _ _ _ _ _ _ _ _ PySem.F.plainAttrs_list PySem.F.slot_list_append PySem.F.type_list_append br (pv 3) (@ae _ _ _ _ _ (pv 5) (@ai _) af) (by rfl) (by rfl) (by rfl) (by rfl) (by rfl)) (by rfl)))) (by intro _;rfl)) (@aj _ _ _ _ _ (@bu _ _ _ _ (@cY _ _ _ _ _ _ _ _ _ _ _ _ PySem.F.plainAttrs_list PySem.F.slot_list_extend PySem.F.type_list_extend kH (pv 3) (@ae _ _ _ _ _ (@eu _ _ _ _ _ _ _ _ _ _ lH (pv 0) (@cE _ _ _ (pv 4)) (@cw _)) (@ai _) aO) (by rfl) (by rfl) (by rfl) (by rfl) (by rfl)) (by rfl)) (@ay _ _ _ (@aL _ _ _ _ (pv 3))))))),?_⟩
    have hul:us.length=ps.length:=by rw[tu.len,List.length_map]
    have hwl:ws.length=qs.length:=by rw[tw.len,List.length_map]
    have sz:300+300<=sizeLine:=by decide
    refine aH (cO aB (by show 0<=sizeLine;decide)) ?_
    rintro _ _ ⟨r,hr0,rfl,rfl⟩
    refine bH pu_c ?_
    refine pG (K:=K) (xs:=ws) (ah rfl) (fun i σ H'=>∃(j:Nat) (acc:List Pt3) (zs:List V) (z:Option V),σ=[some (.ref l),some (.ref m),some (.ref t.f_is_ahead),some (.ref r),some (.int j),z]/\Same H H'/\H' r=some (.lst zs)/\TupsT H' zs (acc.map L3)/\j<=ps.length/\acc.length=i+j/\acc++mrg (ps.drop j) (qs.drop i)=mrg ps qs) ⟨0,[],[],none,rfl,Same.upd hr0,ak,.nil,Nat.zero_le _,rfl,rfl⟩ (fun i σ H' _ ⟨_,_,_,_,_,s,_⟩=>SqL.of (s _ _ hm)) ?_ ?_
    · rintro i x σ H' hx ⟨j,acc,zs,z,rfl,s,hr1,tz,hj,ha,hq⟩
      obtain⟨ns,hns,tx⟩:=tw.get' hx
      rw[List.getElem?_map] at hns
      cases hqi:qs[i]? with
      | none=>rw[hqi] at hns;cases hns
      | some q=>
        rw[hqi] at hns
        have en:ns=L3 q:=(Option.some.inj hns).symm
        subst en
        have hil:i<qs.length:=(List.getElem?_eq_some_iff.mp hqi).1
        have hqd:qs.drop i=q::qs.drop (i+1):=by
          rw[List.drop_eq_getElem_cons hil,(List.getElem?_eq_some_iff.mp hqi).2]
        have zq':=zq q (List.mem_of_getElem? hqi)
        rw[hqd] at hq
        refine eS (fun σ H'=>∃(j:Nat) (acc:List Pt3) (zs:List V),σ=[some (.ref l),some (.ref m),some (.ref t.f_is_ahead),some (.ref r),some (.int j),some x]/\Same H H'/\H' r=some (.lst zs)/\TupsT H' zs (acc.map L3)/\j<=ps.length/\acc.length=i+j/\acc++mrg (ps.drop j) (q::qs.drop (i+1))=mrg ps qs) (fun (σ:L2.St) _=>match σ[4]? with | some (some (V.int j))=>ps.length - j.toNat | _=>0) ⟨j,acc,zs,rfl,s,hr1,tz,hj,ha,hq⟩ ?_
        rintro _ H2 ⟨j,acc,zs,rfl,s,hr1,tz,hj,ha,hq⟩
        have hl2:=s _ _ hl
        have tx2:AtP H2 x q:=tx.same s
        have hzl:zs.length=i+j:=by rw[tz.len,List.length_map];exact ha
        by_cases hlt:j<ps.length
        · obtain⟨p,hp⟩:∃p,ps[j]?=some p:=⟨_,List.getElem?_eq_getElem hlt⟩
          have hpd:ps.drop j=p::ps.drop (j+1):=by
            rw[List.drop_eq_getElem_cons hlt,(List.getElem?_eq_some_iff.mp hp).2]
          obtain⟨v,hv,tv⟩:=tu.get (i:=j) (ns:=L3 p) (by rw[List.getElem?_map,hp];rfl)
          have hat:atI us (j:Int)=some v:=by
            rw[bA]
            exact hv
          have I1:∀{tk:TE},Pu tk _ H2 (.int j)->Pu (tOp (iE K) (cm 0) tk) [some (.ref l),some (.ref m),some (.ref t.f_is_ahead),some (.ref r),some (.int j),some x] H2 v:=fun h=>bp (ah rfl) h (SqL.of hl2) hat
          refine⟨_,dR (bM (em (ah rfl) (bD (ar (ah rfl) aB) (SqL.of hl2)))) fun _=>gM (sQ (ah rfl) (ar (I1 (ah rfl)) (ar (ah rfl) aB)) fun Q f=>⟨v,x,p,q,rfl,tv.same s,tx2,zp p (List.mem_of_getElem? hp),zq',f⟩),fun e=>?_,fun e=>?_⟩
          · have e':ahd p q=true:=by
              rw[Bool.and_eq_true] at e
              exact e.2
            refine ju (R:=fun v' H'=>v=v'/\H2=H') (ah rfl) hr1 (fun Q f=>I1 (ah rfl) _ (f _ _ ⟨rfl,rfl⟩)) ?_
            rintro _ _ ⟨rfl,rfl⟩
            refine⟨zs,hr1,by omega,?_⟩
            refine fC (cv (ah rfl) pu_c) ?_
            refine⟨⟨j+1,acc++[p],zs++[v],rfl,bZ s hr0,ak,?_,hlt,by simp;omega,?_⟩,?_⟩
            · rw[List.map_append]
              exact (tz.snoc (tv.same s)).lstUpd hr1
            · rw[hpd,wK e'] at hq
              rw[←hq]
              simp
            · show ps.length - ((j:Int)+1).toNat<ps.length - (j:Int).toNat
              omega
          · have e':ahd p q=false:=by
              have:decide ((j:Int)<(us.length:Int))=true:=decide_eq_true (by omega)
              rw[this,Bool.true_and] at e
              exact e
            refine cQ (R:=fun v' H'=>x=v'/\H2=H') (ah rfl) hr1 (fun Q f=>(ah rfl:Pu (cm 5) _ _ x) _ (f _ _ ⟨rfl,rfl⟩)) ?_
            rintro _ _ ⟨rfl,rfl⟩
            refine⟨zs,hr1,by omega,j,acc++[q],zs++[x],some x,rfl,bZ s hr0,ak,?_,hj,by simp;omega,?_⟩
            · rw[List.map_append]
              exact (tz.snoc tx2).lstUpd hr1
            · rw[m8 (fun a h=>by rw[hpd] at h;cases h;exact e')] at hq
              rw[←hq]
              simp
        · have hje:ps.drop j=[]:=List.drop_eq_nil_of_le (by omega)
          have hf:decide ((j:Int)<(us.length:Int))=false:=decide_eq_false (by omega)
          refine⟨_,dR (c:=false) (bM (em (ah rfl) (bD (ar (ah rfl) aB) (SqL.of hl2)))) (fun e=>by rw[hf] at e;cases e),fun e=>?_,fun _=>?_⟩
          · rw[hf] at e
            cases e
          · refine cQ (R:=fun v' H'=>x=v'/\H2=H') (ah rfl) hr1 (fun Q f=>(ah rfl:Pu (cm 5) _ _ x) _ (f _ _ ⟨rfl,rfl⟩)) ?_
            rintro _ _ ⟨rfl,rfl⟩
            refine⟨zs,hr1,by omega,j,acc++[q],zs++[x],some x,rfl,bZ s hr0,ak,?_,hj,by simp;omega,?_⟩
            · rw[List.map_append]
              exact (tz.snoc tx2).lstUpd hr1
            · rw[m8 (fun a h=>by rw[hje] at h;cases h)] at hq
              rw[←hq]
              simp
    · rintro σ H' ⟨j,acc,zs,z,rfl,s,hr1,tz,hj,ha,hq⟩
      have hl2:=s _ _ hl
      have hzl:zs.length=ws.length+j:=by rw[tz.len,List.length_map];exact ha
      refine wx (ah rfl) hr1 (vI (ah rfl) (ah rfl) (SqL.of hl2) (by omega)) ?_
      rintro _ _ ⟨b,hb,rfl,rfl⟩
      have hrb:r≠b:=fun e=>by subst e;rw[hr1] at hb;cases hb
      have hr2:(upd H' b (.lst (us.drop j))) r=some (.lst zs):=by rw[aF hrb];exact hr1
      refine⟨b,zs,us.drop j,rfl,hr2,ak,by rw[List.length_drop];omega,?_⟩
      refine bL (ah rfl) (k r _ hr0 (bZ (s.trans (Same.upd hb)) hr0) ⟨_,ak,?_⟩)
      rw[hwl,List.drop_length] at hq
      have hq':acc++ps.drop j=mrg ps qs:=by rw[←hq];simp[mrg]
      rw[←hq',List.map_append,List.map_drop]
      refine TupsT.lstUpd (zs:=zs) (TupsT.app (tz.mono fun _ _ x=>x.same (Same.upd hb)) (TupsT.drop j (tu.mono fun _ _ x=>x.same (s.trans (Same.upd hb))))) hr2
def oa (t:Adr):Sp:=fun vs H Q _=>∃l ps,vs=[.ref l,.ref t.f_is_ahead]/\LP H l ps/\(∀p∈ps,Lp p)/\ps.Nodup/\(∀p∈ps,Sz 4000 p)/\ps.length<=300/\∀r H',H r=none->Same H H'->LP H' r (bo ps)->Q (.ref r) H'
def w5 (H:Hp)(ps:List Pt3)(H':Hp)(D:Addr)(as:List Addr)(rws:List (List Pt3)):Prop:=
  Same H H'/\H' D=some (.lst (as.map V.ref))/\Paired (fun p r=>LP H' p r/\H p=none) as rws/\Rows rws/\(∀p,(∃r∈rws,p∈r)↔p∈ps)/\tot rws=ps.length
theorem fD:FnScope ["things","goes_first","rows","halves"] ["things","goes_first"] (av dY):=⟨rfl,rfl,rfl,by decide +kernel,rfl,by decide +kernel,by decide +kernel⟩
theorem oE (T:Txt K mg t):FnOk P w K mg base CX0 3 t.f_ordered t.d_ordered ["things","goes_first"] (oa t):=by
  refine T.ordered.F.ok (k:=2) fD (fun vs H Q E h=>?_) (fun cdv A outer s H vs Q E hr h=>?_)
  · obtain⟨l,ps,rfl,_⟩:=h
    rfl
  · obtain⟨l,ps,rfl,⟨us,hl,tu⟩,lps,nd,sz,np,k⟩:=h
    refine⟨_,(@aj _ _ _ _ _ (@lQ _ 2 _ _ _ _ _ _ _ _ _ fD.nd rfl rfl (@jU _ _ _ _ _ [] _ ["thing"] _ (fun _=>[none]) _ _ rfl (@cf _ _ _ _ (pv 0)) (fun _ _ _ _=>aM (i:=0) (List.nodup_cons.mpr ⟨fun h=>(nomatch h),List.nodup_nil⟩) rfl (Or.inl rfl) (.inr rfl)) (fun _ _ _ _=>(@cD _ _ _ _ (@ae _ _ _ _ _ (pv 0) (@ai _) af))) (closureFor_none (by decide +kernel)) rfl (by decide +kernel) (by decide +kernel) (fun _ _ h=>by cases h) (eK (by rfl)) (fun _ _=>rfl) (fun _ i _ _ _ h=>by cases i with | zero=>cases h | succ i=>simp at h) (by intro _;rfl)) (by rfl)) (@aj _ _ _ _ _ (@er _ _ _ _ _ _ PassesOwn.never (@aG _ _ _ _ _ _ _ _ fP (@aY _ _ _ _ _ _ _ _ _ aS (by rfl) T.b_len PySem.boot_len (@ae _ _ _ _ _ (pv 2) (@ai _) af) (by decide) (by decide) (by rfl) (by rfl)) (@ag _ _ _ _) (aQ _)) (@aj _ _ _ _ _ (@lQ _ 3 _ _ _ _ _ _ _ _ _ fD.nd rfl rfl (@o5 _ "one" "other" "goes_first" _ _ _ _ _ _ _ _ _ 1 rfl (@sX _ _ _ _ _ _ _ _ _ rfl T.b_zip PyProof.Rows.Boot.«zip» (@ae _ _ _ _ _ (@kz _ _ _ _ _ _ _ _ _ _ _ (pv 2) (@cE _ _ _ (@ag _ _ _ _)) (@cw _) (@cE _ _ _ (@ag _ _ _ _))) (@ae _ _ _ _ _ (@kz _ _ _ _ _ _ _ _ _ _ _ (pv 2) (@cE _ _ _ (@ag _ _ _ _)) (@cw _) (@cE _ _ _ (@ag _ _ _ _))) (@ai _) aO) aO) (by rfl) (by rfl)) (fun _ _ _ _=>eI (K:=K) (n:=2) rfl rfl (@aU _ _ _ _ _ (@aM _ _ 0 _ (show (["one","other","goes_first"]:List Str).Nodup from by decide +kernel) rfl (Or.inl rfl) (.inr rfl)) (@aU _ _ _ _ _ (@aM _ _ 1 _ (show (["one","other","goes_first"]:List Str).Nodup from by decide +kernel) rfl (Or.inl rfl) (.inr rfl)) (@cg _) (by rfl)) (by rfl)) rfl rfl) (fun _ _ _ _=>(@aA _ _ _ _ _ _ _ _ _ _ _ _ _ _ T.merged (qV T) hr (by decide) (@ae _ _ _ _ _ (pv 0) (@ae _ _ _ _ _ (pv 1) (@ae _ _ _ _ _ (pv 2) (@ai _) af) af) af) (by rfl) (by decide) (by rfl) (by rfl))) rfl rfl (by decide +kernel) (by decide +kernel) rfl rfl rfl rfl rfl (by intro _;rfl)) (by rfl)) (@aj _ _ _ _ _ (@bB _ _ _ _ _ _ _ _ (@aG _ _ _ _ _ _ _ _ di (@az _ _ _ _ _ _ _ _ de (@aY _ _ _ _ _ _ _ _ _ aS (by rfl) T.b_len PySem.boot_len (@ae _ _ _ _ _ (pv 2) (@ai _) af) (by decide) (by decide) (by rfl) (by rfl)) (@ag _ _ _ _)) (@ag _ _ _ _) (aQ _)) (@ay _ _ _ (@bu _ _ _ _ (@cY _ _ _ _ _ _ _ _ _ _ _ _ PySem.F.plainAttrs_list PySem.F.slot_list_append PySem.F.type_list_append br (pv 3) (@ae _ _ _ _ _ (@au _ _ _ _ _ _ _ aI (pv 2) (@gF _ _ _ _ _ _ eN (@ag _ _ _ _)) (fun _ _=>rfl)) (@ai _) aO) (by rfl) (by rfl) (by rfl) (by rfl) (by rfl)) (by rfl))) (@be _)) (@ay _ _ _ (@aE _ _ 2 _ _ _ _ fD.nd rfl (Or.inl rfl) (pv 3) (by rfl) (by first | exact .inl rfl | exact .inr rfl | assumption)))))) (@ay _ _ _ (@aL _ _ _ _ (@eA _ _ _ _ _ _ _ _ (@sR _ _ _ (pv 2) (fun _=>rfl)) (@au _ _ _ _ _ _ _ aI (pv 2) (@ag _ _ _ _) (fun _ _=>rfl)) (@cD _ _ _ _ (@ai _))))))),?_⟩
    have hul:us.length=ps.length:=by rw[tu.len,List.length_map]
    refine aH (kN (iq (ps.map fun p=>[p])) (ah rfl) hl (by omega) (fun _=>KeepS.none1) ?_) ?_
    · intro i x H' hx s
      obtain⟨ns,hns,tx⟩:=tu.get' hx
      rw[List.getElem?_map] at hns
      cases hpi:ps[i]? with
      | none=>rw[hpi] at hns;cases hns
      | some q=>
        rw[hpi] at hns
        have en:ns=L3 q:=(Option.some.inj hns).symm
        subst en
        refine (cO (ar (ah rfl) aB) (by show 1<=sizeLine;decide)).imp ?_
        rintro v H'' ⟨p,hp,rfl,rfl⟩
        exact⟨Same.upd hp,p,rfl,hp,[q],by rw[List.getElem?_map,hpi];rfl,[x],ak,.cons ((tx.same s).same (Same.upd hp)) .nil⟩
    rintro _ H1 ⟨s1,D,as,rfl,hD,hD1,hal,has⟩
    have hz:(us.length:Nat)<=300:=by omega
    refine eS (fun σ H'=>∃(D:Addr) (as:List Addr) (rws:List (List Pt3)) (z:Option V),σ=[some (.ref l),some (.ref t.f_is_ahead),some (.ref D),z]/\w5 H ps H' D as rws/\rws.length<=300) (fun (σ:L2.St) H'=>match σ[2]? with | some (some (V.ref D))=>(match H' D with | some (.lst zs)=>zs.length | _=>0) | _=>0) ⟨D,as,ps.map fun p=>[p],none,rfl,⟨s1,hD1,?_,iS lps nd,fun p=>?_,jp ps⟩,by rw[List.length_map];omega⟩ ?_
    · refine cM (by rw[List.length_map];omega) fun i p hp=>?_
      obtain⟨⟨r,e,h⟩,_,f⟩:=has i p hp
      exact⟨r,e,h,f⟩
    · constructor
      · rintro⟨r,hr,hp⟩
        obtain⟨q,hq,rfl⟩:=List.mem_map.mp hr
        have e:p=q:=by simpa using hp
        rw[e];exact hq
      · intro hp
        exact⟨[p],List.mem_map.mpr ⟨p,hp,rfl⟩,by simp⟩
    rintro _ H2 ⟨D,as,rws,z,rfl,⟨s2,hD2,pr,hrows,hmem,htot⟩,hlen⟩
    have hal:as.length=rws.length:=bF pr
    have hsz:∀r∈rws,∀p∈r,Sz 4000 p:=fun r hr p hp=>sz p ((hmem p).mp ⟨r,hr,hp⟩)
    refine⟨_,bM (fO (bD (ar (ah rfl) aB) (SqL.of hD2)) pu_c),fun e=>?_,fun e=>?_⟩
    · have h1:1<rws.length:=by
        have:=of_decide_eq_true e
        rw[List.length_map] at this
        omega
      refine aH (rC (f:=some (.ref t.f_is_ahead)) (xs:=ev ((as.map V.ref).drop 0)) (ys:=ev ((as.map V.ref).drop 1)) (iq (bE rws)) rfl (bi (uo (k:=0) (ah rfl) hD2 (by decide) rfl) fun x H3 e3=>bi (R1:=fun v H'=>∃p,H3 p=none/\v=.ref p/\H'=upd H3 p (.lst (ev ((as.map V.ref).drop 1)))) ?_ fun _ _ _=>cU) ?_ ?_ ?_) ?_
      · obtain⟨p,hp,rfl,rfl⟩:=e3
        exact uo (k:=1) (ah rfl) (by rw[aF (aV hD2 hp)];exact hD2) (by decide) rfl
      · rintro vs H4 ⟨x,H3,r,rfl,⟨p,hp,rfl,rfl⟩,y,H5,r2,rfl,⟨q,hq,rfl,rfl⟩,rfl,rfl⟩
        exact⟨p,q,rfl,(Same.upd hp).trans (Same.upd hq),by rw[aF (aV ak hq)];exact ak,ak⟩
      · have:=oY (as.map V.ref)
        rw[List.length_map] at this
        simp only[List.drop_zero]
        omega
      · intro i x y H' hx hy s
        rw[List.drop_zero,oX,List.getElem?_map] at hx
        rw[←List.map_drop,oX,List.getElem?_map] at hy
        cases hxa:(ev as)[i]? with
        | none=>rw[hxa] at hx;cases hx
        | some a=>
        cases hyb:(ev (as.drop 1))[i]? with
        | none=>rw[hyb] at hy;cases hy
        | some b=>
          rw[hxa] at hx
          rw[hyb] at hy
          obtain⟨ra,ea,la,_⟩:=bv (iF pr) hxa
          obtain⟨rb,eb,lb,_⟩:=bv (iF (lU pr)) hyb
          have ma:ra∈rws:=oW (List.mem_of_getElem? ea)
          have mb:rb∈rws:=List.mem_of_mem_drop (oW (List.mem_of_getElem? eb))
          have ta:=io ma
          have tb:=io mb
          have ex:V.ref a=x:=Option.some.inj hx
          have ey:V.ref b=y:=Option.some.inj hy
          subst ex ey
          refine aX (ar (ah rfl) (ar (ah rfl) (ar (ah rfl) aB))) fun Q f=>⟨a,b,ra,rb,rfl,la.same s,lb.same s,hsz ra ma,hsz rb mb,by omega,by omega,fun r H'' nr s' lr=>f _ _ ⟨s',r,rfl,nr,mrg ra rb,?_,lr⟩⟩
          rw[gP,ea,eb]
      rintro _ H3 ⟨s3,D3,hs,rfl,hD30,hD3,hhl,hhs⟩
      have hml:hs.length=rws.length / 2:=by
        rw[hhl]
        have e1:=gC (as.map V.ref)
        have e2:=gC ((as.map V.ref).drop 1)
        rw[List.length_drop] at e2
        rw[List.length_map] at e1 e2
        simp only[List.drop_zero]
        omega
      have s23:=s2.trans s3
      have nD3:H D3=none:=bK s2 hD30
      have hpm:=gG rws
      have htot3:=ki rws
      have hmem3:∀p,(∃r∈bE rws,p∈r)↔p∈ps:=fun p=>(gO rws p).trans (hmem p)
      have hrows3:=iT hrows
      have hlt3:=jI h1
      have hnew:∀i p,hs[i]?=some p->∃r,(bE rws)[i]?=some r/\LP H3 p r/\H p=none:=fun i p hp=>by
        obtain⟨⟨r,e,h⟩,_,f⟩:=hhs i p hp
        exact⟨r,e,h,bK s2 f⟩
      have μ2:(match H2 D with | some (.lst zs)=>zs.length | _=>0)=rws.length:=by rw[hD2];simp[hal]
      refine cn (bM (cS (ek (bD (ar (ah rfl) aB) (SqL.of (s3 _ _ hD2))) pu_c (by decide)) pu_c)) (fun e=>?_) fun e=>?_
      · have hodd:rws.length % 2=1:=by
          have:=of_decide_eq_true e
          rw[List.length_map,hal,Int.fmod_eq_emod_of_nonneg _ (by decide)] at this
          omega
        have hlast:rws.length - 1<as.length:=by omega
        obtain⟨pl,hpl⟩:∃pl,as[rws.length - 1]?=some pl:=⟨_,List.getElem?_eq_getElem hlast⟩
        obtain⟨rl,erl,lrl,frl⟩:=bv pr hpl
        have hat:atI (as.map V.ref) (-1)=some (.ref pl):=by
          unfold atI ixN
          rw[if_neg (by decide),if_pos (by rw[List.length_map];omega)]
          show (as.map V.ref)[(-1+((as.map V.ref).length:Int)).toNat]?=_
          rw[List.length_map,show (-1+(as.length:Int)).toNat=rws.length - 1 by omega,List.getElem?_map,hpl]
          rfl
        refine cQ (R:=fun v' H'=>V.ref pl=v'/\H3=H') (ah rfl) hD3 (fun Q f=>bp (ah rfl) (gL pu_c) (SqL.of (s3 _ _ hD2)) hat _ (f _ _ ⟨rfl,rfl⟩)) ?_
        rintro _ _ ⟨rfl,rfl⟩
        refine⟨hs.map V.ref,hD3,by rw[List.length_map];exact aZ (by omega),?_⟩
        refine fC (ah rfl) ⟨⟨D3,hs++[pl],bE rws,_,rfl,⟨bZ s23 nD3,by rw[ak];simp,?_,hrows3,hmem3,by omega⟩,by omega⟩,?_⟩
        · have plD:pl≠D3:=fun z=>by
            subst z
            obtain⟨zs,hz,_⟩:=lrl
            rw[hz] at hD30
            cases hD30
          refine cM (by rw[List.length_append];simp;omega) fun i p hp=>?_
          by_cases hi:i<hs.length
          · rw[List.getElem?_append_left hi] at hp
            obtain⟨r,e,h,f⟩:=hnew i p hp
            obtain⟨_,nD,_⟩:=hhs i p hp
            exact⟨r,e,h.but nD hD3 SameB.upd,f⟩
          · rw[List.getElem?_append_right (by omega)] at hp
            have e0:i - hs.length=0:=by
              rcases Nat.eq_zero_or_pos (i - hs.length) with e|e
              · exact e
              · rw[List.getElem?_eq_none (by simp;omega)] at hp;cases hp
            rw[e0] at hp
            have ep:pl=p:=by simpa using hp
            subst ep
            refine⟨rl,?_,(lrl.same s3).but plD hD3 SameB.upd,frl⟩
            have ei:i=rws.length / 2:=by omega
            rw[gP,ei,ql rws hodd,erl]
            have en:(ev (rws.drop 1))[rws.length / 2]?=none:=List.getElem?_eq_none (by rw[gC,List.length_drop];omega)
            rw[en]
        · show (match (upd H3 D3 (.lst (hs.map V.ref++[V.ref pl]))) D3 with | some (.lst zs)=>zs.length | _=>0)<(match H2 D with | some (.lst zs)=>zs.length | _=>0)
          rw[μ2,ak]
          simp
          omega
      · have heven:rws.length % 2=0:=by
          have:=of_decide_eq_false e
          rw[List.length_map,hal,Int.fmod_eq_emod_of_nonneg _ (by decide)] at this
          omega
        refine fC (ah rfl) ⟨⟨D3,hs,bE rws,_,rfl,⟨s23,hD3,cM (by omega) fun i p hp=>hnew i p hp,hrows3,hmem3,by omega⟩,by omega⟩,?_⟩
        show (match H3 D3 with | some (.lst zs)=>zs.length | _=>0)<(match H2 D with | some (.lst zs)=>zs.length | _=>0)
        rw[μ2,hD3]
        simp
        omega
    · have h1:rws.length<=1:=by
        have:=of_decide_eq_false e
        rw[List.length_map] at this
        omega
      have he:=sE lps hrows hmem h1
      refine bn (R:=fun v H'=>∃r,v=.ref r/\H r=none/\Same H H'/\LP H' r (bo ps)) (gR (u6 (ah rfl) hD2) (fun e=>?_) fun e=>?_) ?_
      · cases pr with
        | nil=>simp at e
        | @cons a r as rws r1 t1=>
          refine fun Q f=>bp (ah rfl) pu_c (SqL.of hD2) (v:=.ref a) (bA (j:=0) rfl) _ (f _ _ ⟨a,rfl,r1.2,s2,?_⟩)
          rw[←he]
          exact r1.1
      · cases pr with
        | nil=>
          refine (cO aB (by show 0<=sizeLine;decide)).imp ?_
          rintro v H' ⟨p,hp,rfl,rfl⟩
          refine⟨p,rfl,bK s2 hp,s2.trans (Same.upd hp),[],ak,?_⟩
          rw[←he]
          exact .nil
        | cons r1 t1=>simp at e
      · rintro _ H' ⟨r,rfl,nr,s,lr⟩
        exact k r H' nr s lr
def j6:Sp:=fun vs H Q _=>∃a b:Int,vs=[.int a,.int b]/\Q (.int (Int.gcd a b)) H
theorem cA:FnScope ["one","other","rest"] ["one","other"] (av cL):=⟨rfl,rfl,rfl,by decide +kernel,rfl,by decide +kernel,by decide +kernel⟩
theorem gI (T:Txt K mg t):FnOk P w K mg base CX0 1 t.f_divisor_of t.d_divisor_of ["one","other"] j6:=by
  refine T.divisor_of.F.ok (k:=0) cA (fun vs H Q E h=>?_) (fun cdv A outer s H vs Q E hr h=>?_)
  · obtain⟨a,b,rfl,_⟩:=h
    rfl
  · obtain⟨a,b,rfl,k⟩:=h
    refine⟨_,(@aj _ _ _ _ _ (@aE _ _ 0 _ _ _ _ cA.nd rfl (Or.inl rfl) (@aY _ _ _ _ _ _ _ _ _ gh (by rfl) T.b_abs PyProof.Rows.boot_abs (@ae _ _ _ _ _ (pv 0) (@ai _) af) (by decide) (by decide) (by rfl) (by rfl)) (by rfl) (by first | exact .inl rfl | exact .inr rfl | assumption)) (@aj _ _ _ _ _ (@aE _ _ 1 _ _ _ _ cA.nd rfl (Or.inl rfl) (@aY _ _ _ _ _ _ _ _ _ gh (by rfl) T.b_abs PyProof.Rows.boot_abs (@ae _ _ _ _ _ (pv 1) (@ai _) af) (by decide) (by decide) (by rfl) (by rfl)) (by rfl) (by first | exact .inl rfl | exact .inr rfl | assumption)) (@aj _ _ _ _ _ (@er _ _ _ _ _ _ PassesOwn.never (@aG _ _ _ _ _ _ _ _ kB (pv 1) (@ag _ _ _ _) (aQ _)) (@aj _ _ _ _ _ (@aE _ _ 2 _ _ _ _ cA.nd rfl (Or.inl rfl) (@az _ _ _ _ _ _ _ _ de (pv 0) (pv 1)) (by rfl) (by first | exact .inl rfl | exact .inr rfl | assumption)) (@aj _ _ _ _ _ (@aE _ _ 0 _ _ _ _ cA.nd rfl (Or.inl rfl) (pv 1) (by rfl) (by first | exact .inl rfl | exact .inr rfl | assumption)) (@ay _ _ _ (@aE _ _ 1 _ _ _ _ cA.nd rfl (Or.inl rfl) (pv 2) (by rfl) (by first | exact .inl rfl | exact .inr rfl | assumption)))))) (@ay _ _ _ (@aL _ _ _ _ (pv 0)))))),?_⟩
    refine bH (jD (ar (ah rfl) aB)) ?_
    refine bH (jD (ar (ah rfl) aB)) ?_
    refine eS (fun σ H'=>H'=H/\∃(x y:Int) (r:Option V),σ=[some (.int x),some (.int y),r]/\0<=x/\0<=y/\Int.gcd x y=Int.gcd a b) (fun σ _=>match σ with | [_,some (.int y),_]=>y.toNat | _=>0)
      ⟨rfl,a.natAbs,b.natAbs,none,rfl,by omega,by omega,rfl⟩ ?_
    rintro σ H' ⟨rfl,x,y,r,rfl,hx,hy,hg⟩
    refine⟨_,bM (jC (ah rfl) pu_c),fun e=>?_,fun e=>?_⟩
    · have e':y≠0:=by simpa using e
      have hm:=jk (x:=x) (show 0<y by omega)
      refine bH (ek (ah rfl) (ah rfl) e') ?_
      refine bH (ah rfl) ?_
      refine fC (ah rfl) ?_
      exact⟨⟨rfl,y,x.fmod y,_,rfl,hy,hm.1,by rw[nE hx hy];exact hg⟩,by show (x.fmod y).toNat<y.toNat;omega⟩
    · have e':y=0:=by simpa using e
      subst e'
      refine bL (ah rfl) ?_
      rw[←hg,nB x hx] at k
      exact k
def mD:Sp:=fun vs H Q _=>∃a b c:Int,vs=[.int a,.int b,.int c]/\c≠0/\Bd 9000 c/\∀v H',Same H H'->AtP H' v (pbF a b c)->Q v H'
theorem fW:FnScope ["a","b","c","shared"] ["a","b","c"] (av dt):=⟨rfl,rfl,rfl,by decide +kernel,rfl,by decide +kernel,by decide +kernel⟩
theorem mV (T:Txt K mg t):FnOk P w K mg base CX0 2 t.f_point_by t.d_point_by ["a","b","c"] mD:=by
  refine T.point_by.F.ok (k:=1) fW (fun vs H Q E h=>?_) (fun cdv A outer s H vs Q E hr h=>?_)
  · obtain⟨a,b,c,rfl,_⟩:=h
    rfl
  · obtain⟨a,b,c,rfl,hc,hB,k⟩:=h
    refine⟨_,(@aj _ _ _ _ _ (@bB _ _ _ _ _ _ _ _ (@aG _ _ _ _ _ _ _ _ di (pv 2) (@ag _ _ _ _) (aQ _)) (@ay _ _ _ (@sS _ _)) (@be _)) (@aj _ _ _ _ _ (@aE _ _ 3 _ _ _ _ fW.nd rfl (Or.inl rfl) (@aA _ _ _ _ _ _ _ _ _ _ _ _ _ _ T.divisor_of (gI T) hr (by decide) (@ae _ _ _ _ _ (@aA _ _ _ _ _ _ _ _ _ _ _ _ _ _ T.divisor_of (gI T) hr (by decide) (@ae _ _ _ _ _ (pv 0) (@ae _ _ _ _ _ (pv 1) (@ai _) af) af) (by rfl) (by decide) (by rfl) (by rfl)) (@ae _ _ _ _ _ (pv 2) (@ai _) af) aK) (by rfl) (by decide) (by rfl) (by rfl)) (by rfl) (by first | exact .inl rfl | exact .inr rfl | assumption)) (@aj _ _ _ _ _ (@bB _ _ _ _ _ _ _ _ (@aG _ _ _ _ _ _ _ _ eJ (pv 2) (@ag _ _ _ _) (aQ _)) (@ay _ _ _ (@aE _ _ 3 _ _ _ _ fW.nd rfl (Or.inl rfl) (@gF _ _ _ _ _ _ eN (pv 3)) (by rfl) (by first | exact .inl rfl | exact .inr rfl | assumption))) (@be _)) (@ay _ _ _ (@aL _ _ _ _ (@bN _ _ _ _ _ (@ae _ _ _ _ _ (@az _ _ _ _ _ _ _ _ eC (pv 0) (pv 3)) (@ae _ _ _ _ _ (@az _ _ _ _ _ _ _ _ eC (pv 1) (pv 3)) (@ae _ _ _ _ _ (@az _ _ _ _ _ _ _ _ eC (pv 2) (pv 3)) (@ai _) aW) aW) aW))))))),?_⟩
    have hg:=uv (a:=a) (b:=b) hc
    have hgb:Bd 9000 (gS3 a b c):=by
      have:=Bd.gcd_right (a:=((Int.gcd a b:Nat):Int)) hc hB
      unfold gS3;split
      · exact this.neg
      · exact this
    refine cn (bM (cS (ah rfl) pu_c)) (fun e=>absurd (of_decide_eq_true e) hc) fun _=>?_
    refine bH (cu (ar (cu (ar (ah rfl) (ar (ah rfl) aB)) (fun Q q=>⟨a,b,rfl,q⟩)) (ar (ah rfl) aB)) (fun Q q=>⟨_,c,rfl,q⟩)) ?_
    refine fT (R:=fun v H'=>H=H'/\v=.int (gS3 a b c)) (v0:=.int (Int.gcd ((Int.gcd a b:Nat):Int) c)) (bM (em (ah rfl) pu_c)) (fun e=>(gL (ah rfl)).gv' ⟨rfl,?_⟩) rfl (fun e=>⟨rfl,?_⟩) ?_
    · rw[gS3,if_pos (of_decide_eq_true e)]
    · rw[gS3,if_neg (of_decide_eq_false e)]
    rintro v H' ⟨rfl,rfl⟩
    refine bn (cx (ar (fF (ah rfl) (ah rfl) ⟨hg,hgb⟩) (ar (fF (ah rfl) (ah rfl) ⟨hg,hgb⟩) (ar (fF (ah rfl) (ah rfl) ⟨hg,hgb⟩) aB))) (by show 3<=sizeLine;decide)) ?_
    rintro _ _ ⟨p,hp,rfl,rfl⟩
    exact k _ _ (Same.upd hp) (TupT.of ak)
def mI (t:Adr):Sp:=fun vs H Q _=>∃l ps,vs=[.ref l]/\LP H l ps/\(∀p∈ps,Lp p)/\(∀p∈ps,Sz 4000 p)/\ps.length<=300/\∀r H',H r=none->Same H H'->LP H' r (bo ps)->Q (.ref r) H'
theorem mO:FnScope ["points"] ["points"] (av dC):=⟨rfl,rfl,rfl,by decide +kernel,rfl,by decide +kernel,by decide +kernel⟩
theorem gg (T:Txt K mg t):FnOk P w K mg base CX0 4 t.f_in_order t.d_in_order ["points"] (mI t):=by
  refine T.in_order.F.ok (k:=3) mO (fun vs H Q E h=>?_) (fun cdv A outer s H vs Q E hr h=>?_)
  · obtain⟨l,ps,rfl,_⟩:=h
    rfl
  · obtain⟨l,ps,rfl,⟨us,hl,tu⟩,lps,sz,np,k⟩:=h
    refine⟨_,(@ay _ _ _ (@aL _ _ _ _ (@aA _ _ _ _ _ _ _ _ _ _ _ _ _ _ T.ordered (oE T) hr (by decide) (@ae _ _ _ _ _ (@cC _ _ _ _ _ _ _ _ _ (o6 rfl) (by rfl) T.b_list PyProof.Rows.boot_list (@ae _ _ _ _ _ (@cC _ _ _ _ _ _ _ _ _ (o8 rfl hr.units) (by rfl) T.b_dict L2.boot_dict (@ae _ _ _ _ _ (@dc _ _ _ _ _ [] _ ["p"] _ (fun _=>[none]) _ _ rfl (@cf _ _ _ _ (pv 0)) (fun _ _ _ _=>aM (i:=0) (List.nodup_cons.mpr ⟨fun h=>(nomatch h),List.nodup_nil⟩) rfl (Or.inl rfl) (.inr rfl)) (fun _ _ _ _=>(@bN _ _ _ _ _ (@ae _ _ _ _ _ (pv 0) (@ae _ _ _ _ _ (@hV _ _ _ _) (@ai _) aT) af))) (closureFor_none (by decide +kernel)) rfl (by decide +kernel) (by decide +kernel) (fun _ _ h=>by cases h) (eK (by rfl)) (fun _ _=>rfl) (fun _ i _ _ _ h=>by cases i with | zero=>cases h | succ i=>simp at h) (by intro _;rfl)) (@ai _) fB) (by decide) (by decide) (by rfl) (by rfl)) (@ai _) aK) (by decide) (by decide) (by rfl) (by rfl)) (@ae _ _ _ _ _ (@wI _ _ _ _ T.is_ahead.m (by rfl) (by decide)) (@ai _) af) aK) (by rfl) (by decide) (by rfl) (by rfl)))),?_⟩
    have hul:us.length=ps.length:=by rw[tu.len,List.length_map]
    refine bn (R:=fun v H'=>∃r,v=.ref r/\H r=none/\Same H H'/\LP H' r (bo ps)) (bR (bi (R1:=fun v H'=>∃(m:Addr) (qs:List Pt3),v=.ref m/\Same H H'/\LP H' m qs/\qs.Nodup/\∀p,p∈qs↔p∈ps) ?_ fun x H1 e1=>bi (Pu.gv (v:=.ref t.f_is_ahead) pu_c) fun _ _ _=>cU) ?_) ?_
    · refine oT (R:=fun v H'=>∃(d:Addr) (ys:List V) (qs:List Pt3),v=.ref d/\H' d=some (.ext (jZ d ys))/\Same H H'/\TupsT H' ys (qs.map L3)/\qs.Nodup/\∀p,p∈qs↔p∈ps) (oT (kN (n9 us) (ah rfl) hl (by omega) (fun _=>KeepS.none1) (fun i x H' hx s=>?_)) ?_) ?_
      · refine (cx (ar (ah rfl) (ar pu_c aB)) (by show 2<=sizeLine;decide)).imp ?_
        rintro v H'' ⟨p,hp,rfl,rfl⟩
        exact⟨Same.upd hp,p,rfl,hp,x,hx,ak⟩
      · rintro _ H1 ⟨s1,D,as,rfl,hD,hD1,hal,has⟩ Q f
        obtain⟨ks,k1,k2,k3,k4⟩:=qd (H:=H1) (tu.mono fun _ _ x=>x.same s1) hal fun i p hp=>(has i p hp).1
        refine⟨D,ks,rfl,by rw[k1];exact hD1,by omega,k4,fun d hd=>?_⟩
        obtain⟨qs,q1,q2,q3⟩:=tG (xs:=ks.map (·.1)) (ps:=ps) (by rw[List.map_map];exact k2)
        refine f _ _ ⟨d,_,qs,rfl,ak,s1.trans (Same.upd hd),?_,q2,q3⟩
        rw[←q1]
        refine (kh fun x hx=>?_).mono fun _ _ x=>x.same (Same.upd hd)
        obtain⟨k,hk,rfl⟩:=List.mem_map.mp (tH hx)
        exact (k4 k hk).2
      · rintro _ H1 ⟨d,ys,qs,rfl,hd,s1,ty,q2,q3⟩ Q f
        have hql:qs.length<=ps.length:=fH q2 fun p hp=>(q3 p).mp hp
        have hyl:ys.length=qs.length:=by rw[ty.len,List.length_map]
        exact⟨d,ys,rfl,hd,by rw[hyl];exact Nat.le_of_lt (aZ (by omega)),fun m hm=>f _ _ ⟨m,qs,rfl,s1.trans (Same.upd hm),⟨ys,ak,ty.mono fun _ _ x=>x.same (Same.upd hm)⟩,q2,q3⟩⟩
    · rintro vs H4 ⟨x,H3,r,rfl,⟨m,qs,rfl,s3,lm,q2,q3⟩,y,H5,r2,rfl,⟨rfl,rfl⟩,rfl,rfl⟩ Q f
      have hql:qs.length<=ps.length:=fH q2 fun p hp=>(q3 p).mp hp
      refine⟨m,qs,rfl,lm,fun p hp=>lps p ((q3 p).mp hp),q2,fun p hp=>sz p ((q3 p).mp hp),by omega,fun r H' nr s lr=>f _ _ ⟨r,rfl,bK s3 nr,s3.trans s,?_⟩⟩
      rw[←qI lps q3]
      exact lr
    · rintro _ H' ⟨r,rfl,nr,s,lr⟩
      exact k r H' nr s lr
def rkD (row:List Pt3):List (List Int×V):=(List.range row.length).map fun i=>(L3 (row.getD i pt0),.int (i:Nat))
theorem u5 {row:List Pt3}(hs:Srt row){p:Pt3}(hp:p∈row):i6 (kc (rkD row)) ((L3 p).map Sum.inl)=some (.int (eO row p)):=by
  obtain⟨i,hi⟩:=List.getElem?_of_mem hp
  have hl:=(List.getElem?_eq_some_iff.mp hi).1
  have hk:L3 p∈(rkD row).map (·.1):=by
    unfold rkD
    rw[List.map_map]
    exact List.mem_map.mpr ⟨i,List.mem_range.mpr hl,by simp[List.getD,hi]⟩
  obtain⟨v,hv,e⟩:=rJ hk
  rw[e]
  unfold rkD at hv
  obtain⟨j,hj,ej⟩:=List.mem_map.mp hv
  have hj' := List.mem_range.mp hj
  have e1:L3 (row.getD j pt0)=L3 p:=congrArg Prod.fst ej
  have e2:V.int (j:Nat)=v:=congrArg Prod.snd ej
  have e3:row[j]?=some p:=by
    have:=ph e1
    rw[←this]
    exact (jS hj').2
  rw[←e2,lJ hs e3]
def mC:Sp:=fun vs H Q _=>∃l ps,vs=[.ref l]/\LP H l ps/\(∀p∈ps,Lp p)/\(∀p∈ps,Sz 4000 p)/\ps.length<=300/\∀d H',H d=none->Same H H'->H' d=some (.dT (kc (rkD (bo ps))))->Q (.ref d) H'
theorem mM:FnScope ["points"] ["points"] (av dn):=⟨rfl,rfl,rfl,by decide +kernel,rfl,by decide +kernel,by decide +kernel⟩
theorem mU (T:Txt K mg t):FnOk P w K mg base CX0 5 t.f_ranks_of t.d_ranks_of ["points"] mC:=by
  refine T.ranks_of.F.ok (k:=4) mM (fun vs H Q E h=>?_) (fun cdv A outer s H vs Q E hr h=>?_)
  · obtain⟨l,ps,rfl,_⟩:=h
    rfl
  · obtain⟨l,ps,rfl,hl,lps,zp,np,k⟩:=h
    refine⟨_,(@ay _ _ _ (@aL _ _ _ _ (@cC _ _ _ _ _ _ _ _ _ (o7 rfl hr.units) (by rfl) T.b_dict L2.boot_dict (@ae _ _ _ _ _ (@dc _ _ _ _ _ [] _ (["rank","p"]) _ (fun _=>[none,none]) _ _ rfl (pU rfl T.b_enumerate PyProof.Rows.boot_enumerate (@ae _ _ _ _ _ (@aA _ _ _ _ _ _ _ _ _ _ _ _ _ _ T.in_order (gg T) hr (by decide) (@ae _ _ _ _ _ (pv 0) (@ai _) af) (by rfl) (by decide) (by rfl) (by rfl)) (@ai _) aK)) (fun _ _ _ _=>eI (K:=K) (n:=2) rfl rfl (@aU _ _ _ _ _ (@aM _ _ 0 _ (show (["rank","p"]:List Str).Nodup from by decide +kernel) rfl (Or.inl rfl) (.inr rfl)) (@aU _ _ _ _ _ (@aM _ _ 1 _ (show (["rank","p"]:List Str).Nodup from by decide +kernel) rfl (Or.inl rfl) (.inr rfl)) (@cg _) (by rfl)) (by rfl)) rfl rfl) (fun _ _ _ _=>(@bN _ _ _ _ _ (@ae _ _ _ _ _ (pv 1) (@ae _ _ _ _ _ (pv 0) (@ai _) af) af))) (closureFor_none (by decide +kernel)) rfl (by decide +kernel) (by decide +kernel) (fun _ _ h=>by cases h) (eK (by rfl)) (fun _ _=>rfl) (fun _ i _ _ _ h=>by rcases i with _ | _ | _ | i <;> simp at h) (by intro _;rfl)) (@ai _) fB) (by decide) (by decide) (by rfl) (by rfl)))),?_⟩
    obtain⟨srt,hmem⟩:=cV lps
    have hsl:(bo ps).length<=300:=Nat.le_trans (gr ps) np
    refine bn (R:=fun v H'=>∃d,v=.ref d/\H d=none/\Same H H'/\H' d=some (.dT (kc (rkD (bo ps))))) (oT (R:=fun v H2=>∃(D:Addr) (as:List Addr) (xs:List V),v=.ref D/\Same H H2/\H2 D=some (.lst (as.map V.ref))/\as.length=xs.length/\TupsT H2 xs ((bo ps).map L3)/\∀(i:Nat) a,as[i]?=some a->∃x,xs[i]?=some x/\H2 a=some (.tup [x,.int (i:Nat)])) (oS (RA:=fun vs H1=>∃r,vs=[.ref r]/\Same H H1/\LP H1 r (bo ps)) (fun Q q=>?_) fun vs H1 z=>?_) fun v H2 z Q q=>?_) fun v H' z=>by obtain⟨d,rfl,h1,h2,h3⟩:=z;exact k d H' h1 h2 h3
    · dsimp only[bG,df]
      exact (aX (R:=fun v H1=>∃r,v=.ref r/\Same H H1/\LP H1 r (bo ps)) (ar (ah rfl) aB) fun Q q=>⟨l,ps,rfl,hl,lps,zp,np,fun r H' _ s h=>q _ _ ⟨r,rfl,s,h⟩⟩) _ fun v H1 ⟨r,e,s,h⟩=>by subst e;exact q _ _ ⟨r,rfl,s,h⟩
    · obtain⟨r,rfl,s1,xs,hr1,tx⟩:=z
      have xl:xs.length=(bo ps).length:=by rw[tx.len,List.length_map]
      refine⟨r,xs,fun H i p=>∃vs,(xs[i]?).map (fun x=>[x,V.int (i:Nat)])=some vs/\H p=some (.tup vs),rfl,hr1,by omega,km fun i=>(xs[i]?).map (fun x=>[x,V.int (i:Nat)]),fun i x H' p hx s' hp Q q=>?_,fun v H' L=>?_⟩
      · refine tg2 hp ⟨KeepS.none2,?_⟩
        exact cx (ar (ah rfl) (ar (ah rfl) aB)) (by show 2<=sizeLine;decide) _ fun v H2 ⟨p2,hp2,e1,e2⟩=>by
          subst e1 e2
          exact q p2 _ (Same.upd hp2) hp2 ⟨_,by rw[hx];rfl,ak⟩
      · obtain⟨s',D,as,rfl,hD,hD',hl',hr,_⟩:=L
        refine⟨D,as,xs,rfl,s1.trans s',hD',hl',tx.mono fun _ _ t=>t.same s',fun i a ha=>?_⟩
        obtain⟨⟨vs,e1,e2⟩,_⟩:=hr i a ha
        cases hx:xs[i]? with
        | none => rw [hx] at e1; cases e1
        | some x=>rw[hx] at e1;cases e1;exact⟨x,rfl,e2⟩
    · obtain⟨D,as,xs,rfl,s2,hD,hl',tx,hr⟩:=z
      have xl:xs.length=(bo ps).length:=by rw[tx.len,List.length_map]
      have ent:∀i,i<(bo ps).length->∃a ka,as[i]?=some a/\H2 a=some (.tup [.ref ka,.int (i:Nat)])/\H2 ka=some (.tup ((L3 ((bo ps).getD i pt0)).map V.int)):=fun i hi=>by
        obtain⟨a,ha⟩:∃a,as[i]?=some a:=⟨_,List.getElem?_eq_getElem (by omega)⟩
        obtain⟨x,hx,e⟩:=hr i a ha
        obtain⟨ns,hns,t⟩:=tx.get' hx
        obtain⟨ka,rfl,hka⟩:=t
        rw[List.getElem?_map,(jS hi).2] at hns
        cases hns
        exact⟨a,ka,ha,e,hka⟩
      have:∃ks:List KE4,(ks.map fun k=>V.ref k.2.2)=as.map V.ref/\(ks.map fun k=>(k.1.1,k.2.1))=rkD (bo ps)/\∀k∈ks,H2 k.2.2=some (.tup [.ref k.1.2,k.2.1])/\H2 k.1.2=some (.tup (k.1.1.map V.int)):=by
        have key:∀n,n<=(bo ps).length->∃ks:List KE4,(ks.map fun k=>V.ref k.2.2)=(as.take n).map V.ref/\(ks.map fun k=>(k.1.1,k.2.1))=(List.range n).map (fun i=>(L3 ((bo ps).getD i pt0),V.int (i:Nat)))/\∀k∈ks,H2 k.2.2=some (.tup [.ref k.1.2,k.2.1])/\H2 k.1.2=some (.tup (k.1.1.map V.int)):=by
          intro n
          induction n with
          | zero=>intro _;exact⟨[],by simp,by simp,fun _ h=>nomatch h⟩
          | succ n ih=>
            intro hn
            obtain⟨ks,h1,h2,h3⟩:=ih (by omega)
            obtain⟨a,ka,ha,e1,e2⟩:=ent n (by omega)
            refine⟨ks++[((L3 ((bo ps).getD n pt0),ka),(.int (n:Nat),a))],?_,?_,fun k hk=>?_⟩
            · rw[List.map_append,h1,List.take_succ,ha];simp
            · rw[List.map_append,h2,List.range_succ,List.map_append];simp
            · rcases List.mem_append.mp hk with hk|hk
              · exact h3 k hk
              · rw[List.mem_singleton.mp hk];exact⟨e1,e2⟩
        obtain⟨ks,h1,h2,h3⟩:=key (bo ps).length (Nat.le_refl _)
        exact⟨ks,by rw[h1,←xl,←hl',List.take_length],h2,h3⟩
      obtain⟨ks,h1,h2,h3⟩:=this
      have kl:ks.length=(bo ps).length:=by
        have:=congrArg List.length h2
        simpa [rkD] using this
      refine⟨D,ks,rfl,by rw[h1];exact hD,by omega,?_,h3,fun d hd=>q _ _ ⟨d,rfl,bK s2 hd,s2.trans (Same.upd hd),by rw[h2];exact ak⟩⟩
      have e:ks.map (·.1.1)=(bo ps).map L3:=by
        have:ks.map (·.1.1)=(ks.map fun k=>(k.1.1,k.2.1)).map (·.1):=by rw[List.map_map];rfl
        rw[this,h2]
        unfold rkD
        rw[List.map_map]
        apply List.ext_getElem?
        intro i
        rw[List.getElem?_map,List.getElem?_map]
        by_cases hi:i<(bo ps).length
        · rw[List.getElem?_range hi,(jS hi).2];rfl
        · rw[List.getElem?_eq_none (by simp;omega),List.getElem?_eq_none (by omega)];rfl
      rw[e]
      exact List.Pairwise.map _ (fun a b h z=>h (ph z)) srt.nodup
def fN:Sp:=fun vs H Q _=>∃v w p q,vs=[v,w]/\AtP H v p/\AtP H w q/\Sz 4000 p/\Sz 4000 q/\∀r H',Same H H'->TupT H' r [p.y*q.z - p.z*q.y,p.z*q.x - p.x*q.z,p.x*q.y - p.y*q.x]->Q r H'
theorem jl {p q:Pt3}(zp:Sz 4000 p)(zq:Sz 4000 q):Bd 8001 (p.y*q.z - p.z*q.y)/\Bd 8001 (p.z*q.x - p.x*q.z)/\Bd 8001 (p.x*q.y - p.y*q.x):=
  ⟨(zp.y.mul zq.z).sub (zp.z.mul zq.y),(zp.z.mul zq.x).sub (zp.x.mul zq.z),(zp.x.mul zq.y).sub (zp.y.mul zq.x)⟩
theorem ji {σ:L2.St}{H:Hp}{t:TA}{v w:V}{p q:Pt3}(ha:PuA t σ H [v,w])(h1:AtP H v p)(h2:AtP H w q)(zp:Sz 4000 p)(zq:Sz 4000 q):Gv (ce fN [] E0 t) σ H (fun r H'=>Same H H'/\TupT H' r [p.y*q.z - p.z*q.y,p.z*q.x - p.x*q.z,p.x*q.y - p.y*q.x]):=
  aX ha fun Q f=>⟨v,w,p,q,rfl,h1,h2,zp,zq,fun r H' s t=>f _ _ ⟨s,t⟩⟩
theorem jb:FnScope ["p","q"] ["p","q"] (av cj):=⟨rfl,rfl,rfl,by decide +kernel,rfl,by decide +kernel,by decide +kernel⟩
theorem cR (T:Txt K mg t):FnOk P w K mg base CX0 1 t.f_line_through t.d_line_through ["p","q"] fN:=by
  refine T.line_through.F.ok (k:=0) jb (fun vs H Q E h=>?_) (fun cdv A outer s H vs Q E hr h=>?_)
  · obtain⟨v,w,p,q,rfl,_⟩:=h
    rfl
  · obtain⟨v,w,p,q,rfl,⟨a,rfl,ha⟩,⟨b,rfl,hb⟩,zp,zq,k⟩:=h
    refine⟨_,(@ay _ _ _ (@aL _ _ _ _ (@bN _ _ _ _ _ (@ae _ _ _ _ _ (@az _ _ _ _ _ _ _ _ bO (@az _ _ _ _ _ _ _ _ aD (@au _ _ _ _ _ _ _ ax (pv 0) (@ag _ _ _ _) (fun _ _=>rfl)) (@au _ _ _ _ _ _ _ ax (pv 1) (@ag _ _ _ _) (fun _ _=>rfl))) (@az _ _ _ _ _ _ _ _ aD (@au _ _ _ _ _ _ _ ax (pv 0) (@ag _ _ _ _) (fun _ _=>rfl)) (@au _ _ _ _ _ _ _ ax (pv 1) (@ag _ _ _ _) (fun _ _=>rfl)))) (@ae _ _ _ _ _ (@az _ _ _ _ _ _ _ _ bO (@az _ _ _ _ _ _ _ _ aD (@au _ _ _ _ _ _ _ ax (pv 0) (@ag _ _ _ _) (fun _ _=>rfl)) (@au _ _ _ _ _ _ _ ax (pv 1) (@ag _ _ _ _) (fun _ _=>rfl))) (@az _ _ _ _ _ _ _ _ aD (@au _ _ _ _ _ _ _ ax (pv 0) (@ag _ _ _ _) (fun _ _=>rfl)) (@au _ _ _ _ _ _ _ ax (pv 1) (@ag _ _ _ _) (fun _ _=>rfl)))) (@ae _ _ _ _ _ (@az _ _ _ _ _ _ _ _ bO (@az _ _ _ _ _ _ _ _ aD (@au _ _ _ _ _ _ _ ax (pv 0) (@ag _ _ _ _) (fun _ _=>rfl)) (@au _ _ _ _ _ _ _ ax (pv 1) (@ag _ _ _ _) (fun _ _=>rfl))) (@az _ _ _ _ _ _ _ _ aD (@au _ _ _ _ _ _ _ ax (pv 0) (@ag _ _ _ _) (fun _ _=>rfl)) (@au _ _ _ _ _ _ _ ax (pv 1) (@ag _ _ _ _) (fun _ _=>rfl)))) (@ai _) aW) aW) aW)))),?_⟩
    refine bn (cx (ar (cq (aJ (aw (ah rfl) pu_c (SqT.of (ha)) rfl) (aw (ah rfl) pu_c (SqT.of (hb)) rfl) (aC (zp.y) (zq.z) (by decide))) (aJ (aw (ah rfl) pu_c (SqT.of (ha)) rfl) (aw (ah rfl) pu_c (SqT.of (hb)) rfl) (aC (zp.z) (zq.y) (by decide)))) (ar (cq (aJ (aw (ah rfl) pu_c (SqT.of (ha)) rfl) (aw (ah rfl) pu_c (SqT.of (hb)) rfl) (aC (zp.z) (zq.x) (by decide))) (aJ (aw (ah rfl) pu_c (SqT.of (ha)) rfl) (aw (ah rfl) pu_c (SqT.of (hb)) rfl) (aC (zp.x) (zq.z) (by decide)))) (ar (cq (aJ (aw (ah rfl) pu_c (SqT.of (ha)) rfl) (aw (ah rfl) pu_c (SqT.of (hb)) rfl) (aC (zp.x) (zq.y) (by decide))) (aJ (aw (ah rfl) pu_c (SqT.of (ha)) rfl) (aw (ah rfl) pu_c (SqT.of (hb)) rfl) (aC (zp.y) (zq.x) (by decide)))) aB))) (by show 3<=sizeLine;decide)) ?_
    rintro _ _ ⟨r,hr,rfl,rfl⟩
    exact k _ _ (Same.upd hr) (TupT.of ak)
def gV:Sp:=fun vs H Q _=>∃v w l0 l1 l2 r,vs=[v,w]/\TupT H v [l0,l1,l2]/\AtP H w r/\Bd 8001 l0/\Bd 8001 l1/\Bd 8001 l2/\Sz 4000 r/\Q (.int (sgn (l0*r.x+l1*r.y+l2*r.z))) H
theorem gX:FnScope ["line","r","lean"] ["line","r"] (av cW):=⟨rfl,rfl,rfl,by decide +kernel,rfl,by decide +kernel,by decide +kernel⟩
theorem cN (T:Txt K mg t):FnOk P w K mg base CX0 1 t.f_turn_from t.d_turn_from ["line","r"] gV:=by
  refine T.turn_from.F.ok (k:=0) gX (fun vs H Q E h=>?_) (fun cdv A outer s H vs Q E hr h=>?_)
  · obtain⟨v,w,l0,l1,l2,r,rfl,_⟩:=h
    rfl
  · obtain⟨v,w,l0,l1,l2,r,rfl,⟨a,rfl,ha⟩,⟨b,rfl,hb⟩,b0,b1,b2,zr,k⟩:=h
    refine⟨_,(@aj _ _ _ _ _ (@aE _ _ 2 _ _ _ _ gX.nd rfl (Or.inl rfl) (@az _ _ _ _ _ _ _ _ bP (@az _ _ _ _ _ _ _ _ bP (@az _ _ _ _ _ _ _ _ aD (@au _ _ _ _ _ _ _ ax (pv 0) (@ag _ _ _ _) (fun _ _=>rfl)) (@au _ _ _ _ _ _ _ ax (pv 1) (@ag _ _ _ _) (fun _ _=>rfl))) (@az _ _ _ _ _ _ _ _ aD (@au _ _ _ _ _ _ _ ax (pv 0) (@ag _ _ _ _) (fun _ _=>rfl)) (@au _ _ _ _ _ _ _ ax (pv 1) (@ag _ _ _ _) (fun _ _=>rfl)))) (@az _ _ _ _ _ _ _ _ aD (@au _ _ _ _ _ _ _ ax (pv 0) (@ag _ _ _ _) (fun _ _=>rfl)) (@au _ _ _ _ _ _ _ ax (pv 1) (@ag _ _ _ _) (fun _ _=>rfl)))) (by rfl) (by first | exact .inl rfl | exact .inr rfl | assumption)) (@aj _ _ _ _ _ (@bB _ _ _ _ _ _ _ _ (@aG _ _ _ _ _ _ _ _ fP (pv 2) (@ag _ _ _ _) (aQ _)) (@ay _ _ _ (@aL _ _ _ _ (@ag _ _ _ _))) (@be _)) (@aj _ _ _ _ _ (@bB _ _ _ _ _ _ _ _ (@aG _ _ _ _ _ _ _ _ eJ (pv 2) (@ag _ _ _ _) (aQ _)) (@ay _ _ _ (@aL _ _ _ _ (@gF _ _ _ _ _ _ eN (@ag _ _ _ _)))) (@be _)) (@ay _ _ _ (@aL _ _ _ _ (@ag _ _ _ _)))))),?_⟩
    refine bH (cv (cv (aJ (aw (ah rfl) pu_c (SqT.of (ha)) rfl) (aw (ah rfl) pu_c (SqT.of (hb)) rfl) (aC (b0) (zr.x) (by decide))) (aJ (aw (ah rfl) pu_c (SqT.of (ha)) rfl) (aw (ah rfl) pu_c (SqT.of (hb)) rfl) (aC (b1) (zr.y) (by decide)))) (aJ (aw (ah rfl) pu_c (SqT.of (ha)) rfl) (aw (ah rfl) pu_c (SqT.of (hb)) rfl) (aC (b2) (zr.z) (by decide)))) ?_
    refine cn (bM (fO (ah rfl) pu_c)) (fun e=>bL pu_c ?_) (fun e=>cn (bM (em (ah rfl) pu_c)) (fun e2=>bL (gL pu_c) ?_) (fun e2=>bL pu_c ?_))
    · have e':0<l0*r.x+l1*r.y+l2*r.z:=by simpa using e
      rw[sgn,if_pos e'] at k
      exact k
    · have e':¬0<l0*r.x+l1*r.y+l2*r.z:=of_decide_eq_false e
      have e2':l0*r.x+l1*r.y+l2*r.z<0:=of_decide_eq_true e2
      rw[sgn,if_neg e',if_pos e2'] at k
      exact k
    · have e':¬0<l0*r.x+l1*r.y+l2*r.z:=of_decide_eq_false e
      have e2':¬l0*r.x+l1*r.y+l2*r.z<0:=of_decide_eq_false e2
      rw[sgn,if_neg e',if_neg e2'] at k
      exact k
def pM:Sp:=fun vs H Q _=>∃v w u p q r,vs=[v,w,u]/\AtP H v p/\AtP H w q/\AtP H u r/\Sz 4000 p/\Sz 4000 q/\Sz 4000 r/\∀H',Same H H'->Q (.int (sgn (det p q r))) H'
theorem uX:FnScope ["p","q","r"] ["p","q","r"] (av iB):=⟨rfl,rfl,rfl,by decide +kernel,rfl,by decide +kernel,by decide +kernel⟩
theorem vm (T:Txt K mg t):FnOk P w K mg base CX0 2 t.f_turn t.d_turn ["p","q","r"] pM:=by
  refine T.turn.F.ok (k:=1) uX (fun vs H Q E h=>?_) (fun cdv A outer s H vs Q E hr h=>?_)
  · obtain⟨v,w,u,p,q,r,rfl,_⟩:=h
    rfl
  · obtain⟨v,w,u,p,q,r,rfl,hp,hq,hr',zp,zq,zr,k⟩:=h
    refine⟨_,(@ay _ _ _ (@aL _ _ _ _ (@aA _ _ _ _ _ _ _ _ _ _ _ _ _ _ T.turn_from (cN T) hr (by decide) (@ae _ _ _ _ _ (@aA _ _ _ _ _ _ _ _ _ _ _ _ _ _ T.line_through (cR T) hr (by decide) (@ae _ _ _ _ _ (pv 0) (@ae _ _ _ _ _ (pv 1) (@ai _) af) af) (by rfl) (by decide) (by rfl) (by rfl)) (@ae _ _ _ _ _ (pv 2) (@ai _) af) aK) (by rfl) (by decide) (by rfl) (by rfl)))),?_⟩
    refine bn (R:=fun v H'=>v=.int (sgn (det p q r))/\Same H H') (bR (bi (ji (ar (ah rfl) (ar (ah rfl) aB)) hp hq zp zq) fun x H1 r1=>bi (ah rfl).gv fun _ _ _=>cU) ?_) ?_
    · rintro vs H2 ⟨x,H1,r',rfl,⟨s1,t1⟩,y,H3,r2,rfl,⟨rfl,rfl⟩,rfl,rfl⟩ Q f
      obtain⟨b0,b1,b2⟩:=jl zp zq
      exact⟨x,_,_,_,_,r,rfl,t1,TupT.same hr' s1,b0,b1,b2,zr,f _ _ ⟨rfl,s1⟩⟩
    · rintro _ H' ⟨rfl,s⟩
      exact k _ s
def oe:Sp:=fun vs H Q _=>∃v w u p a b,vs=[v,w,u]/\AtP H v p/\AtP H w a/\AtP H u b/\Sz 4000 p/\Sz 4000 a/\Sz 4000 b/\∀H',Same H H'->Q (.bl (onB p a b)) H'
theorem oo:FnScope ["p","a","b"] ["p","a","b"] (av dZ):=⟨rfl,rfl,rfl,by decide +kernel,rfl,by decide +kernel,by decide +kernel⟩
theorem oF (T:Txt K mg t):FnOk P w K mg base CX0 3 t.f_lies_on t.d_lies_on ["p","a","b"] oe:=by
  refine T.lies_on.F.ok (k:=2) oo (fun vs H Q E h=>?_) (fun cdv A outer s H vs Q E hr h=>?_)
  · obtain⟨v,w,u,p,a,b,rfl,_⟩:=h
    rfl
  · obtain⟨v,w,u,p,a,b,rfl,hp,ha,hb,zp,za,zb,k⟩:=h
    refine⟨_,(@aj _ _ _ _ _ (@bB _ _ _ _ _ _ _ _ (@aG _ _ _ _ _ _ _ _ kB (@aA _ _ _ _ _ _ _ _ _ _ _ _ _ _ T.turn (vm T) hr (by decide) (@ae _ _ _ _ _ (pv 1) (@ae _ _ _ _ _ (pv 2) (@ae _ _ _ _ _ (pv 0) (@ai _) af) af) af) (by rfl) (by decide) (by rfl) (by rfl)) (@ag _ _ _ _) (aQ _)) (@ay _ _ _ (@aL _ _ _ _ (@hV _ _ _ _))) (@be _)) (@aj _ _ _ _ _ (@bB _ _ _ _ _ _ _ _ (@cH _ _ _ (@aA _ _ _ _ _ _ _ _ _ _ _ _ _ _ T.is_ahead (bI T) hr (by decide) (@ae _ _ _ _ _ (pv 1) (@ae _ _ _ _ _ (pv 2) (@ai _) af) af) (by rfl) (by decide) (by rfl) (by rfl)) (by intro _;rfl)) (@ay _ _ _ (@aL _ _ _ _ (@jH _ _ _ _ _ _ _ (@gc _ _ _ _ (@aA _ _ _ _ _ _ _ _ _ _ _ _ _ _ T.is_ahead (bI T) hr (by decide) (@ae _ _ _ _ _ (pv 0) (@ae _ _ _ _ _ (pv 1) (@ai _) af) af) (by rfl) (by decide) (by rfl) (by rfl))) (@jF _ _ _ _ _ (@gc _ _ _ _ (@aA _ _ _ _ _ _ _ _ _ _ _ _ _ _ T.is_ahead (bI T) hr (by decide) (@ae _ _ _ _ _ (pv 2) (@ae _ _ _ _ _ (pv 0) (@ai _) af) af) (by rfl) (by decide) (by rfl) (by rfl))))))) (@be _)) (@ay _ _ _ (@aL _ _ _ _ (@jH _ _ _ _ _ _ _ (@gc _ _ _ _ (@aA _ _ _ _ _ _ _ _ _ _ _ _ _ _ T.is_ahead (bI T) hr (by decide) (@ae _ _ _ _ _ (pv 0) (@ae _ _ _ _ _ (pv 2) (@ai _) af) af) (by rfl) (by decide) (by rfl) (by rfl))) (@jF _ _ _ _ _ (@gc _ _ _ _ (@aA _ _ _ _ _ _ _ _ _ _ _ _ _ _ T.is_ahead (bI T) hr (by decide) (@ae _ _ _ _ _ (pv 1) (@ae _ _ _ _ _ (pv 0) (@ai _) af) af) (by rfl) (by decide) (by rfl) (by rfl))))))))),?_⟩
    refine gl (R:=fun c H'=>c=(!decide (sgn (det a b p)=0))/\Same H H') ?_ ?_ ?_
    · intro Q f
      refine aX (sp:=pM) (E:=E0) (R:=fun v H'=>v=.int (sgn (det a b p))/\Same H H') (ar (ah rfl) (ar (ah rfl) (ar (ah rfl) aB))) (fun Q f=>⟨_,_,_,a,b,p,rfl,ha,hb,hp,za,zb,zp,fun H' s=>f _ _ ⟨rfl,s⟩⟩) _ ?_
      rintro _ H1 ⟨rfl,s1⟩
      exact⟨rfl,_,rfl,f _ _ ⟨by rw[il,Bool.beq_eq_decide_eq],s1⟩⟩
    · rintro H1 ⟨e,s1⟩
      have e':¬det a b p=0:=by
        intro z
        rw[z] at e
        exact absurd e (by decide)
      refine bL pu_c ?_
      have:=k H1 s1
      rw[onB,if_neg e'] at this
      exact this
    · rintro H1 ⟨e,s1⟩
      have e':det a b p=0:=by
        have:=e.symm
        rw[Bool.not_eq_false',decide_eq_true_iff] at this
        exact sgn_eq0.mp this
      have k1:=k H1 s1
      rw[onB,if_pos e'] at k1
      have hp1:=TupT.same hp s1
      have ha1:=TupT.same ha s1
      have hb1:=TupT.same hb s1
      refine cn (gM (fG (ar (ah rfl) (ar (ah rfl) aB)) ha1 hb1 za zb)) (fun z=>bL (lM (ga (fG (ar (ah rfl) (ar (ah rfl) aB)) hp1 ha1 zp za)) fun _=>ga (fG (ar (ah rfl) (ar (ah rfl) aB)) hb1 hp1 zb zp)) ?_) (fun z=>bL (lM (ga (fG (ar (ah rfl) (ar (ah rfl) aB)) hp1 hb1 zp zb)) fun _=>ga (fG (ar (ah rfl) (ar (ah rfl) aB)) ha1 hp1 za zp)) ?_)
      · rw[if_pos z] at k1
        exact k1
      · rw[if_neg (by rw[z];decide)] at k1
        exact k1
def eT:Sp:=fun vs H Q _=>∃v w p q,vs=[v,w]/\AtP H v p/\AtP H w q/\Sz 4000 p/\Sz 4000 q/\∀r H' x y,Same H H'->H' r=some (.tup [x,y])->AtP H' x (bh p q).1->AtP H' y (bh p q).2->Q (.ref r) H'
theorem qj {σ:L2.St}{H:Hp}{t:TA}{v w:V}{p q:Pt3}(ha:PuA t σ H [v,w])(h1:AtP H v p)(h2:AtP H w q)(zp:Sz 4000 p)(zq:Sz 4000 q):Gv (ce eT [] E0 t) σ H (fun u H'=>Same H H'/\∃r x y,u=.ref r/\H' r=some (.tup [x,y])/\AtP H' x (bh p q).1/\AtP H' y (bh p q).2):=
  aX ha fun Q f=>⟨v,w,p,q,rfl,h1,h2,zp,zq,fun r H' x y s e a b=>f _ _ ⟨s,r,x,y,rfl,e,a,b⟩⟩
theorem iA:FnScope ["a","b"] ["a","b"] (av bX):=⟨rfl,rfl,rfl,by decide +kernel,rfl,by decide +kernel,by decide +kernel⟩
theorem fo (T:Txt K mg t):FnOk P w K mg base CX0 2 t.f_ends_in_order t.d_ends_in_order ["a","b"] eT:=by
  refine T.ends_in_order.F.ok (k:=1) iA (fun vs H Q E h=>?_) (fun cdv A outer s H vs Q E hr h=>?_)
  · obtain⟨v,w,p,q,rfl,_⟩:=h
    rfl
  · obtain⟨v,w,p,q,rfl,hp,hq,zp,zq,k⟩:=h
    refine⟨_,(@ay _ _ _ (@aL _ _ _ _ (@eA _ _ _ _ _ _ _ _ (@cH _ _ _ (@aA _ _ _ _ _ _ _ _ _ _ _ _ _ _ T.is_ahead (bI T) hr (by decide) (@ae _ _ _ _ _ (pv 0) (@ae _ _ _ _ _ (pv 1) (@ai _) af) af) (by rfl) (by decide) (by rfl) (by rfl)) (by intro _;rfl)) (@bN _ _ _ _ _ (@ae _ _ _ _ _ (pv 0) (@ae _ _ _ _ _ (pv 1) (@ai _) af) af)) (@bN _ _ _ _ _ (@ae _ _ _ _ _ (pv 1) (@ae _ _ _ _ _ (pv 0) (@ai _) af) af))))),?_⟩
    refine bn (R:=fun u H'=>Same H H'/\∃r x y,u=.ref r/\H' r=some (.tup [x,y])/\AtP H' x (bh p q).1/\AtP H' y (bh p q).2) (gR (gM (fG (ar (ah rfl) (ar (ah rfl) aB)) hp hq zp zq)) (fun e=>(cx (ar (ah rfl) (ar (ah rfl) aB)) (by show 2<=sizeLine;decide)).imp ?_) (fun e=>(cx (ar (ah rfl) (ar (ah rfl) aB)) (by show 2<=sizeLine;decide)).imp ?_)) ?_
    · rintro _ _ ⟨r,hr,rfl,rfl⟩
      refine⟨Same.upd hr,r,_,_,rfl,ak,?_,?_⟩ <;> rw[bh,if_pos e]
      · exact TupT.same hp (Same.upd hr)
      · exact TupT.same hq (Same.upd hr)
    · rintro _ _ ⟨r,hr,rfl,rfl⟩
      refine⟨Same.upd hr,r,_,_,rfl,ak,?_,?_⟩ <;> rw[bh,if_neg (by rw[e];decide)]
      · exact TupT.same hq (Same.upd hr)
      · exact TupT.same hp (Same.upd hr)
    · rintro _ H' ⟨s,r,x,y,rfl,e,a,b⟩
      exact k r H' x y s e a b
def gW:Sp:=fun vs H Q _=>∃va vb vc vd a b c d,vs=[va,vb,vc,vd]/\AtP H va a/\AtP H vb b/\AtP H vc c/\AtP H vd d/\Sz 4000 a/\Sz 4000 b/\Sz 4000 c/\Sz 4000 d/\∀v H',Same H H'->pf H' v (cJ a b c d)->Q v H'
theorem l3_inj {p q:Pt3}:[p.x,p.y,p.z]=[q.x,q.y,q.z]↔p=q:=by
  constructor
  · intro h
    simp only[List.cons.injEq,and_true] at h
    exact Pt3.ext' h.1 h.2.1 h.2.2
  · rintro rfl;rfl
theorem bY:FnScope ["a","b","c","d","one","other","low","high"] ["a","b","c","d"] (av bT):=⟨rfl,rfl,rfl,by decide +kernel,rfl,by decide +kernel,by decide +kernel⟩
theorem hZ (T:Txt K mg t):FnOk P w K mg base CX0 3 t.f_shared_on_line t.d_shared_on_line ["a","b","c","d"] gW:=by
  refine T.shared_on_line.F.ok (k:=2) bY (fun vs H Q E h=>?_) (fun cdv A outer s H vs Q E hr h=>?_)
  · obtain⟨va,vb,vc,vd,a,b,c,d,rfl,_⟩:=h
    rfl
  · obtain⟨va,vb,vc,vd,a,b,c,d,rfl,ha,hb,hc,hd,za,zb,zc,zd,k⟩:=h
    refine⟨_,(@aj _ _ _ _ _ (@aE _ _ 4 _ _ _ _ bY.nd rfl (Or.inl rfl) (@aA _ _ _ _ _ _ _ _ _ _ _ _ _ _ T.ends_in_order (fo T) hr (by decide) (@ae _ _ _ _ _ (pv 0) (@ae _ _ _ _ _ (pv 1) (@ai _) af) af) (by rfl) (by decide) (by rfl) (by rfl)) (by rfl) (by first | exact .inl rfl | exact .inr rfl | assumption)) (@aj _ _ _ _ _ (@aE _ _ 5 _ _ _ _ bY.nd rfl (Or.inl rfl) (@aA _ _ _ _ _ _ _ _ _ _ _ _ _ _ T.ends_in_order (fo T) hr (by decide) (@ae _ _ _ _ _ (pv 2) (@ae _ _ _ _ _ (pv 3) (@ai _) af) af) (by rfl) (by decide) (by rfl) (by rfl)) (by rfl) (by first | exact .inl rfl | exact .inr rfl | assumption)) (@aj _ _ _ _ _ (@aE _ _ 6 _ _ _ _ bY.nd rfl (Or.inl rfl) (@eA _ _ _ _ _ _ _ _ (@cH _ _ _ (@aA _ _ _ _ _ _ _ _ _ _ _ _ _ _ T.is_ahead (bI T) hr (by decide) (@ae _ _ _ _ _ (@au _ _ _ _ _ _ _ ax (pv 4) (@ag _ _ _ _) (fun _ _=>rfl)) (@ae _ _ _ _ _ (@au _ _ _ _ _ _ _ ax (pv 5) (@ag _ _ _ _) (fun _ _=>rfl)) (@ai _) aO) aO) (by rfl) (by decide) (by rfl) (by rfl)) (by intro _;rfl)) (@au _ _ _ _ _ _ _ ax (pv 5) (@ag _ _ _ _) (fun _ _=>rfl)) (@au _ _ _ _ _ _ _ ax (pv 4) (@ag _ _ _ _) (fun _ _=>rfl))) (by rfl) (by first | exact .inl rfl | exact .inr rfl | assumption)) (@aj _ _ _ _ _ (@aE _ _ 7 _ _ _ _ bY.nd rfl (Or.inl rfl) (@eA _ _ _ _ _ _ _ _ (@cH _ _ _ (@aA _ _ _ _ _ _ _ _ _ _ _ _ _ _ T.is_ahead (bI T) hr (by decide) (@ae _ _ _ _ _ (@au _ _ _ _ _ _ _ ax (pv 4) (@ag _ _ _ _) (fun _ _=>rfl)) (@ae _ _ _ _ _ (@au _ _ _ _ _ _ _ ax (pv 5) (@ag _ _ _ _) (fun _ _=>rfl)) (@ai _) aO) aO) (by rfl) (by decide) (by rfl) (by rfl)) (by intro _;rfl)) (@au _ _ _ _ _ _ _ ax (pv 4) (@ag _ _ _ _) (fun _ _=>rfl)) (@au _ _ _ _ _ _ _ ax (pv 5) (@ag _ _ _ _) (fun _ _=>rfl))) (by rfl) (by first | exact .inl rfl | exact .inr rfl | assumption)) (@aj _ _ _ _ _ (@bB _ _ _ _ _ _ _ _ (@aG _ _ _ _ _ _ _ _ (pX hr.units) (pv 6) (pv 7) (aQ _)) (@ay _ _ _ (@aL _ _ _ _ (@bN _ _ _ _ _ (@ae _ _ _ _ _ (pv 6) (@ai _) af)))) (@be _)) (@ay _ _ _ (@aL _ _ _ _ (@eA _ _ _ _ _ _ _ _ (@cH _ _ _ (@aA _ _ _ _ _ _ _ _ _ _ _ _ _ _ T.is_ahead (bI T) hr (by decide) (@ae _ _ _ _ _ (pv 6) (@ae _ _ _ _ _ (pv 7) (@ai _) af) af) (by rfl) (by decide) (by rfl) (by rfl)) (by intro _;rfl)) (@bN _ _ _ _ _ (@ae _ _ _ _ _ (pv 6) (@ae _ _ _ _ _ (pv 7) (@ai _) af) af)) (@bN _ _ _ _ _ (@ai _)))))))))),?_⟩
    have zo:∀{a b:Pt3},Sz 4000 a->Sz 4000 b->Sz 4000 (bh a b).1/\Sz 4000 (bh a b).2:=fun {a b} h1 h2=>by
      rcases bQ a b with⟨e1,e2⟩|⟨e1,e2⟩ <;> rw[e1,e2]
      · exact⟨h1,h2⟩
      · exact⟨h2,h1⟩
    obtain⟨z1,z2⟩:=zo za zb
    obtain⟨z3,z4⟩:=zo zc zd
    refine aH (qj (ar (ah rfl) (ar (ah rfl) aB)) ha hb za zb) ?_
    rintro _ H1 ⟨s1,r1,x1,y1,rfl,e1,l1,m1⟩
    refine aH (qj (ar (ah rfl) (ar (ah rfl) aB)) (TupT.same hc s1) (TupT.same hd s1) zc zd) ?_
    rintro _ H2 ⟨s2,r2,x2,y2,rfl,e2,l2,m2⟩
    have e1':=s2 _ _ e1
    have l1':=TupT.same l1 s2
    have m1':=TupT.same m1 s2
    refine aH (R:=fun v H'=>H2=H'/\AtP H2 v (dh (bh a b).1 (bh c d).1)) (gR (gM (fG (ar (aw (v:=x1) (ah rfl) pu_c (SqT.of e1') rfl) (ar (aw (v:=x2) (ah rfl) pu_c (SqT.of e2) rfl) aB)) l1' l2 z1 z3)) (fun e=>(aw (v:=x2) (ah rfl) pu_c (SqT.of e2) rfl).gv' ⟨rfl,by rw[dh,if_pos e];exact l2⟩) (fun e=>(aw (v:=x1) (ah rfl) pu_c (SqT.of e1') rfl).gv' ⟨rfl,by rw[dh,if_neg (by rw[e];decide)];exact l1'⟩)) ?_
    rintro lo _ ⟨rfl,tlo⟩
    refine aH (R:=fun v H'=>H2=H'/\AtP H2 v (dE (bh a b).2 (bh c d).2)) (gR (gM (fG (ar (aw (v:=y1) (ah rfl) pu_c (SqT.of e1') rfl) (ar (aw (v:=y2) (ah rfl) pu_c (SqT.of e2) rfl) aB)) m1' m2 z2 z4)) (fun e=>(aw (v:=y1) (ah rfl) pu_c (SqT.of e1') rfl).gv' ⟨rfl,by rw[dE,if_pos e];exact m1'⟩) (fun e=>(aw (v:=y2) (ah rfl) pu_c (SqT.of e2) rfl).gv' ⟨rfl,by rw[dE,if_neg (by rw[e];decide)];exact m2⟩)) ?_
    rintro hi _ ⟨rfl,thi⟩
    have zlo:Sz 4000 (dh (bh a b).1 (bh c d).1):=by unfold dh;split <;> assumption
    have zhi:Sz 4000 (dE (bh a b).2 (bh c d).2):=by unfold dE;split <;> assumption
    have s12:=s1.trans s2
    unfold cJ at k
    generalize dh (bh a b).1 (bh c d).1=L at *
    generalize dE (bh a b).2 (bh c d).2=M at *
    refine cn (bM (sP (ah rfl) (ah rfl) (TupT.i tlo) (TupT.i thi))) (fun e=>?_) fun e=>?_
    · have e':L=M:=l3_inj.mp (of_decide_eq_true e)
      refine bn (cx (ar (ah rfl) aB) (by show 1<=sizeLine;decide)) ?_
      rintro _ _ ⟨r,hr,rfl,rfl⟩
      rw[if_pos e'] at k
      exact k _ _ (s12.trans (Same.upd hr)) ⟨r,_,rfl,ak,.cons (TupT.same tlo (Same.upd hr)) .nil⟩
    · have e':¬L=M:=fun z=>(of_decide_eq_false e) (l3_inj.mpr z)
      rw[if_neg e'] at k
      refine bn (R:=fun v H'=>Same H2 H'/\pf H' v (if ahd L M=true then [L,M] else [])) (gR (gM (fG (ar (ah rfl) (ar (ah rfl) aB)) tlo thi zlo zhi)) (fun z=>(cx (ar (ah rfl) (ar (ah rfl) aB)) (by show 2<=sizeLine;decide)).imp ?_) (fun z=>(cx aB (by show 0<=sizeLine;decide)).imp ?_)) fun v H' z=>k v H' (s12.trans z.1) z.2
      · rintro _ _ ⟨r,hr,rfl,rfl⟩
        rw[if_pos z]
        exact⟨Same.upd hr,r,_,rfl,ak,.cons (TupT.same tlo (Same.upd hr)) (.cons (TupT.same thi (Same.upd hr)) .nil)⟩
      · rintro _ _ ⟨r,hr,rfl,rfl⟩
        rw[if_neg (by rw[z];decide)]
        exact⟨Same.upd hr,r,_,rfl,ak,.nil⟩
def fU:Sp:=fun vs H Q _=>∃v w l m,vs=[v,w]/\AtP H v l/\AtP H w m/\Sz 4000 l/\Sz 4000 m/\(ao l m).z≠0/\Bd 9000 (ao l m).z/\∀u H',Same H H'->AtP H' u (pbF (ao l m).x (ao l m).y (ao l m).z)->Q u H'
theorem fZ:FnScope ["one","other","numbers"] ["one","other"] (av cB):=⟨rfl,rfl,rfl,by decide +kernel,rfl,by decide +kernel,by decide +kernel⟩
theorem jK (T:Txt K mg t):FnOk P w K mg base CX0 3 t.f_crossing_of t.d_crossing_of ["one","other"] fU:=by
  refine T.crossing_of.F.ok (k:=2) fZ (fun vs H Q E h=>?_) (fun cdv A outer s H vs Q E hr h=>?_)
  · obtain⟨v,w,l,m,rfl,_⟩:=h
    rfl
  · obtain⟨v,w,l,m,rfl,hl,hm,zl,zm,hn,hb,k⟩:=h
    refine⟨_,(@aj _ _ _ _ _ (@aE _ _ 2 _ _ _ _ fZ.nd rfl (Or.inl rfl) (@aA _ _ _ _ _ _ _ _ _ _ _ _ _ _ T.line_through (cR T) hr (by decide) (@ae _ _ _ _ _ (pv 0) (@ae _ _ _ _ _ (pv 1) (@ai _) af) af) (by rfl) (by decide) (by rfl) (by rfl)) (by rfl) (by first | exact .inl rfl | exact .inr rfl | assumption)) (@ay _ _ _ (@aL _ _ _ _ (@aA _ _ _ _ _ _ _ _ _ _ _ _ _ _ T.point_by (mV T) hr (by decide) (@ae _ _ _ _ _ (@au _ _ _ _ _ _ _ ax (pv 2) (@ag _ _ _ _) (fun _ _=>rfl)) (@ae _ _ _ _ _ (@au _ _ _ _ _ _ _ ax (pv 2) (@ag _ _ _ _) (fun _ _=>rfl)) (@ae _ _ _ _ _ (@au _ _ _ _ _ _ _ ax (pv 2) (@ag _ _ _ _) (fun _ _=>rfl)) (@ai _) aO) aO) aO) (by rfl) (by decide) (by rfl) (by rfl))))),?_⟩
    refine aH (ji (ar (ah rfl) (ar (ah rfl) aB)) hl hm zl zm) ?_
    rintro _ H1 ⟨s1,⟨n,rfl,e⟩⟩
    exact bn (aX (R:=fun u H'=>Same H H'/\AtP H' u (pbF (ao l m).x (ao l m).y (ao l m).z)) (ar (aw (ah rfl) pu_c (SqT.of (e)) rfl) (ar (aw (ah rfl) pu_c (SqT.of (e)) rfl) (ar (aw (ah rfl) pu_c (SqT.of (e)) rfl) aB))) fun Q f=>⟨_,_,_,rfl,hn,hb,fun u H' s t=>f _ _ ⟨s1.trans s,t⟩⟩) fun u H' z=>k u H' z.1 z.2
def uU:Sp:=fun vs H Q _=>∃va vb vc vd a b c d,vs=[va,vb,vc,vd]/\AtP H va a/\AtP H vb b/\AtP H vc c/\AtP H vd d/\Sz 900 a/\Sz 900 b/\Sz 900 c/\Sz 900 d/\0<c.z/\0<d.z/\bS c d/\∀v H',Same H H'->pf H' v (cP a b c d)->Q v H'
theorem mR {σ:L2.St}{H:Hp}{t:TA}{v w:V}{a b r:Pt3}(ha:PuA t σ H [v,w])(h1:TupT H v [a.y*b.z - a.z*b.y,a.z*b.x - a.x*b.z,a.x*b.y - a.y*b.x])(h2:AtP H w r)(za:Sz 900 a)(zb:Sz 900 b)(zr:Sz 900 r):Pu (ce gV [] E0 t) σ H (.int (sgn (det a b r))):=
  cu ha fun Q f=>⟨v,w,_,_,_,r,rfl,h1,h2,(jl (za.mono (by decide)) (zb.mono (by decide))).1,(jl (za.mono (by decide)) (zb.mono (by decide))).2.1,(jl (za.mono (by decide)) (zb.mono (by decide))).2.2,zr.mono (by decide),f⟩
theorem eR {a b:Pt3}{m n:Nat}(za:Sz m a)(zb:Sz n b):Sz (m+n+1) (ao a b):=by
  have h:∀{p q r s:Int},Bd m p->Bd n q->Bd m r->Bd n s->Bd (m+n+1) (p*q - r*s):=fun a b c d=>(a.mul b).sub (c.mul d)
  exact⟨h za.y zb.z za.z zb.y,h za.z zb.x za.x zb.z,h za.x zb.y za.y zb.x⟩
theorem lI:FnScope ["a","b","c","d","one","other"] ["a","b","c","d"] (av iC):=⟨rfl,rfl,rfl,by decide +kernel,rfl,by decide +kernel,by decide +kernel⟩
theorem vn (T:Txt K mg t):FnOk P w K mg base CX0 4 t.f_meet t.d_meet ["a","b","c","d"] uU:=by
  refine T.meet.F.ok (k:=3) lI (fun vs H Q E h=>?_) (fun cdv A outer s H vs Q E hr h=>?_)
  · obtain⟨va,vb,vc,vd,a,b,c,d,rfl,_⟩:=h
    rfl
  · obtain⟨va,vb,vc,vd,a,b,c,d,rfl,ha,hb,hc,hd,za,zb,zc,zd,c0,d0,hcd,k⟩:=h
    refine⟨_,(@aj _ _ _ _ _ (@aE _ _ 4 _ _ _ _ lI.nd rfl (Or.inl rfl) (@aA _ _ _ _ _ _ _ _ _ _ _ _ _ _ T.line_through (cR T) hr (by decide) (@ae _ _ _ _ _ (pv 0) (@ae _ _ _ _ _ (pv 1) (@ai _) af) af) (by rfl) (by decide) (by rfl) (by rfl)) (by rfl) (by first | exact .inl rfl | exact .inr rfl | assumption)) (@aj _ _ _ _ _ (@bB _ _ _ _ _ _ _ _ (@aG _ _ _ _ _ _ _ _ di (@aA _ _ _ _ _ _ _ _ _ _ _ _ _ _ T.turn_from (cN T) hr (by decide) (@ae _ _ _ _ _ (pv 4) (@ae _ _ _ _ _ (pv 2) (@ai _) af) af) (by rfl) (by decide) (by rfl) (by rfl)) (@aA _ _ _ _ _ _ _ _ _ _ _ _ _ _ T.turn_from (cN T) hr (by decide) (@ae _ _ _ _ _ (pv 4) (@ae _ _ _ _ _ (pv 3) (@ai _) af) af) (by rfl) (by decide) (by rfl) (by rfl)) (aQ _)) (@ay _ _ _ (@aL _ _ _ _ (@eA _ _ _ _ _ _ _ _ (@aG _ _ _ _ _ _ _ _ di (@aA _ _ _ _ _ _ _ _ _ _ _ _ _ _ T.turn_from (cN T) hr (by decide) (@ae _ _ _ _ _ (pv 4) (@ae _ _ _ _ _ (pv 2) (@ai _) af) af) (by rfl) (by decide) (by rfl) (by rfl)) (@ag _ _ _ _) (aQ _)) (@aA _ _ _ _ _ _ _ _ _ _ _ _ _ _ T.shared_on_line (hZ T) hr (by decide) (@ae _ _ _ _ _ (pv 0) (@ae _ _ _ _ _ (pv 1) (@ae _ _ _ _ _ (pv 2) (@ae _ _ _ _ _ (pv 3) (@ai _) af) af) af) af) (by rfl) (by decide) (by rfl) (by rfl)) (@bN _ _ _ _ _ (@ai _))))) (@be _)) (@aj _ _ _ _ _ (@aE _ _ 5 _ _ _ _ lI.nd rfl (Or.inl rfl) (@aA _ _ _ _ _ _ _ _ _ _ _ _ _ _ T.line_through (cR T) hr (by decide) (@ae _ _ _ _ _ (pv 2) (@ae _ _ _ _ _ (pv 3) (@ai _) af) af) (by rfl) (by decide) (by rfl) (by rfl)) (by rfl) (by first | exact .inl rfl | exact .inr rfl | assumption)) (@aj _ _ _ _ _ (@bB _ _ _ _ _ _ _ _ (@aG _ _ _ _ _ _ _ _ di (@aA _ _ _ _ _ _ _ _ _ _ _ _ _ _ T.turn_from (cN T) hr (by decide) (@ae _ _ _ _ _ (pv 5) (@ae _ _ _ _ _ (pv 0) (@ai _) af) af) (by rfl) (by decide) (by rfl) (by rfl)) (@aA _ _ _ _ _ _ _ _ _ _ _ _ _ _ T.turn_from (cN T) hr (by decide) (@ae _ _ _ _ _ (pv 5) (@ae _ _ _ _ _ (pv 1) (@ai _) af) af) (by rfl) (by decide) (by rfl) (by rfl)) (aQ _)) (@ay _ _ _ (@aL _ _ _ _ (@bN _ _ _ _ _ (@ai _)))) (@be _)) (@ay _ _ _ (@aL _ _ _ _ (@bN _ _ _ _ _ (@ae _ _ _ _ _ (@aA _ _ _ _ _ _ _ _ _ _ _ _ _ _ T.crossing_of (jK T) hr (by decide) (@ae _ _ _ _ _ (pv 4) (@ae _ _ _ _ _ (pv 5) (@ai _) af) af) (by rfl) (by decide) (by rfl) (by rfl)) (@ai _) aK)))))))),?_⟩
    have za4:=za.mono (show 900<=4000 by decide)
    have zb4:=zb.mono (show 900<=4000 by decide)
    have zc4:=zc.mono (show 900<=4000 by decide)
    have zd4:=zd.mono (show 900<=4000 by decide)
    refine aH (ji (ar (ah rfl) (ar (ah rfl) aB)) ha hb za4 zb4) ?_
    rintro v1 H1 ⟨s1,t1⟩
    have ha1:=TupT.same ha s1
    have hb1:=TupT.same hb s1
    have hc1:=TupT.same hc s1
    have hd1:=TupT.same hd s1
    unfold cP at k
    refine cn (bM (cS (mR (ar (ah rfl) (ar (ah rfl) aB)) t1 hc1 za zb zc) (mR (ar (ah rfl) (ar (ah rfl) aB)) t1 hd1 za zb zd))) (fun e=>?_) fun e=>?_
    · rw[if_pos (of_decide_eq_true e)] at k
      refine bn (R:=fun v H'=>Same H1 H'/\pf H' v (if sgn (det a b c)=0 then cJ a b c d else [])) (gR (bM (cS (mR (ar (ah rfl) (ar (ah rfl) aB)) t1 hc1 za zb zc) pu_c)) (fun z=>(aX (R:=fun v H'=>Same H1 H'/\pf H' v (cJ a b c d)) (ar (ah rfl) (ar (ah rfl) (ar (ah rfl) (ar (ah rfl) aB)))) fun Q f=>⟨_,_,_,_,a,b,c,d,rfl,ha1,hb1,hc1,hd1,za4,zb4,zc4,zd4,fun v H' s t=>f _ _ ⟨s,t⟩⟩).imp ?_) (fun z=>(cx aB (by show 0<=sizeLine;decide)).imp ?_)) fun v H' z=>k v H' (s1.trans z.1) z.2
      · intro v H' r
        rw[if_pos (of_decide_eq_true z)]
        exact r
      · rintro _ _ ⟨r,hr,rfl,rfl⟩
        rw[if_neg (of_decide_eq_false z)]
        exact⟨Same.upd hr,r,_,rfl,ak,.nil⟩
    · have h1:=of_decide_eq_false e
      rw[if_neg h1] at k
      refine aH (ji (ar (ah rfl) (ar (ah rfl) aB)) hc1 hd1 zc4 zd4) ?_
      rintro v2 H2 ⟨s2,t2⟩
      have s12:=s1.trans s2
      refine cn (bM (cS (mR (ar (ah rfl) (ar (ah rfl) aB)) t2 (TupT.same ha1 s2) zc zd za) (mR (ar (ah rfl) (ar (ah rfl) aB)) t2 (TupT.same hb1 s2) zc zd zb))) (fun e2=>?_) fun e2=>?_
      · rw[if_pos (of_decide_eq_true e2)] at k
        refine bn (cx aB (by show 0<=sizeLine;decide)) ?_
        rintro _ _ ⟨r,hr,rfl,rfl⟩
        exact k _ _ (s12.trans (Same.upd hr)) ⟨r,_,rfl,ak,.nil⟩
      · rw[if_neg (of_decide_eq_false e2)] at k
        have z1:=(eE c0 d0 hcd h1).1
        have l1:=eR za zb
        have l2:=eR zc zd
        have l3:=eR l1 l2
        refine bn (R:=fun v H'=>Same H2 H'/\pf H' v [pbF (ao (ao a b) (ao c d)).x (ao (ao a b) (ao c d)).y (ao (ao a b) (ao c d)).z]) ?_ fun v H' z=>k v H' (s12.trans z.1) z.2
        intro Q f
        refine aX (R:=fun u H'=>Same H2 H'/\AtP H' u (pbF (ao (ao a b) (ao c d)).x (ao (ao a b) (ao c d)).y (ao (ao a b) (ao c d)).z)) (sp:=fU) (E:=E0) (ar (ah rfl) (ar (ah rfl) aB)) (fun Q f=>⟨v1,v2,ao a b,ao c d,rfl,TupT.same t1 s2,t2,l1.mono (by decide),l2.mono (by decide),z1,l3.z.mono (by decide),fun u H' s t=>f _ _ ⟨s,t⟩⟩) _ ?_
        rintro u H3 ⟨s3,t3⟩
        refine⟨by show 1<=sizeLine;decide,fun p hp=>f _ _ ⟨s3.trans (Same.upd hp),p,_,rfl,ak,.cons (TupT.same t3 (Same.upd hp)) .nil⟩⟩
def IpL (H:Hp)(l:Addr)(sp:List (Int×Int)):Prop:=∃vs,H l=some (.lst vs)/\TupsT H vs (sp.map fun s=>[s.1,s.2])
theorem IpL.same {H H':Hp}{l:Addr}{sp:List (Int×Int)}(h:IpL H l sp)(s:Same H H'):IpL H' l sp:=by
  obtain⟨vs,h1,h2⟩:=h
  exact⟨vs,s _ _ h1,h2.mono fun _ _ t=>t.same s⟩
def mB:Sp:=fun vs H Q _=>∃l xs,vs=[.ref l]/\SdL H l xs/\(∀x∈xs,(Lp x.1/\Lp x.2)/\Sz 4000 x.1/\Sz 4000 x.2)/\xs.length<=100/\∀d H' sp,H d=none->Same H H'->IpL H' d sp->Spans xs sp->Q (.ref d) H'
theorem mS {σ:L2.St}{H:Hp}{td ty:TE}{d:Addr}{row:List Pt3}{v:V}{p:Pt3}(hs:Srt row)(hd:Pu td σ H (.ref d))(hy:Pu ty σ H v)(h:H d=some (.dT (kc (rkD row))))(hv:AtP H v p)(hp:p∈row):Pu (pE td ty) σ H (.int (eO row p)):=fun Q q=>
  hd _ (hy _ (by
    obtain⟨a,rfl,ha⟩:=hv
    refine⟨d,_,rfl,?_,q⟩
    have:=DGet.t (k:=(L3 p).map Sum.inl) h (by rw[t6];exact ha)
    rw[u5 hs hp] at this
    exact this))
theorem sK {σ:L2.St}{H:Hp}{t:TA}{i j:Int}(ha:PuA t σ H [.int i,.int j]):Pu (tCB (fun xs H Q=>∃i j,xs=[.int i,.int j]/\Q (.int (if j<i then j else i)) H) t) σ H (.int (min i j)):=fun _ q=>ha _ ⟨i,j,rfl,by
  rw[show (if j<i then j else i)=min i j by split <;> omega];exact q⟩
theorem sL {σ:L2.St}{H:Hp}{t:TA}{i j:Int}(ha:PuA t σ H [.int i,.int j]):Pu (tCB (fun xs H Q=>∃i j,xs=[.int i,.int j]/\Q (.int (if j > i then j else i)) H) t) σ H (.int (max i j)):=fun _ q=>ha _ ⟨i,j,rfl,by
  rw[show (if j > i then j else i)=max i j by split <;> omega];exact q⟩
theorem iQ {H:Hp}:∀{as:List Addr} {xs:List (Pt3×Pt3)},Paired (SdAt H) as xs->∃us vs:List V,us.length=as.length/\vs.length=as.length/\TupsT H us ((xs.map (·.1)).map L3)/\TupsT H vs ((xs.map (·.2)).map L3)/\∀(i:Nat) a,as[i]?=some a->∃u v,us[i]?=some u/\vs[i]?=some v/\H a=some (.tup [u,v])
  | _,_,.nil=>⟨[],[],rfl,rfl,.nil,.nil,fun i a h=>by simp at h⟩
  | _,_,.cons h t=>by
    obtain⟨us,vs,l1,l2,t1,t2,hh⟩:=iQ t
    obtain⟨u,v,e1,e2,e3⟩:=h
    refine⟨u::us,v::vs,by simp[l1],by simp[l2],.cons e2 t1,.cons e3 t2,fun i a ha=>?_⟩
    cases i with
    | zero=>
      rw[List.getElem?_cons_zero] at ha
      cases ha
      exact⟨u,v,rfl,rfl,e1⟩
    | succ i=>exact hh i a (by simpa using ha)
theorem iR:FnScope ["sides","ranks"] ["sides"] (av dm):=⟨rfl,rfl,rfl,by decide +kernel,rfl,by decide +kernel,by decide +kernel⟩
theorem iW (T:Txt K mg t):FnOk P w K mg base CX0 6 t.f_spans_of t.d_spans_of ["sides"] mB:=by
  refine T.spans_of.F.ok (k:=5) iR (fun vs H Q E h=>?_) (fun cdv A outer s H vs Q E hr h=>?_)
  · obtain⟨l,xs,rfl,_⟩:=h
    rfl
  · obtain⟨l,xs,rfl,⟨as,hl,pr⟩,hx,n100,k⟩:=h
    refine⟨_,(@aj _ _ _ _ _ (@aE _ _ 1 _ _ _ _ iR.nd rfl (Or.inr rfl) (@aA _ _ _ _ _ _ _ _ _ _ _ _ _ _ T.ranks_of (mU T) hr (by decide) (@ae _ _ _ _ _ (@az _ _ _ _ _ _ _ _ oC (@dc _ _ _ _ _ [] _ (["p","q"]) _ (fun _=>[none,none]) _ _ rfl (@cf _ _ _ _ (pv 0)) (fun _ _ _ _=>eI (K:=K) (n:=2) rfl rfl (@aU _ _ _ _ _ (@aM _ _ 0 _ (show (["p","q"]:List Str).Nodup from by decide +kernel) rfl (Or.inl rfl) (.inr rfl)) (@aU _ _ _ _ _ (@aM _ _ 1 _ (show (["p","q"]:List Str).Nodup from by decide +kernel) rfl (Or.inl rfl) (.inr rfl)) (@cg _) (by rfl)) (by rfl)) rfl rfl) (fun _ _ _ _=>(pv 0)) (closureFor_none (by decide +kernel)) rfl (by decide +kernel) (by decide +kernel) (fun _ _ h=>by cases h) (eK (by rfl)) (fun _ _=>rfl) (fun _ i _ _ _ h=>by rcases i with _ | _ | _ | i <;> simp at h) (by intro _;rfl)) (@dc _ _ _ _ _ [] _ (["p","q"]) _ (fun _=>[none,none]) _ _ rfl (@cf _ _ _ _ (pv 0)) (fun _ _ _ _=>eI (K:=K) (n:=2) rfl rfl (@aU _ _ _ _ _ (@aM _ _ 0 _ (show (["p","q"]:List Str).Nodup from by decide +kernel) rfl (Or.inl rfl) (.inr rfl)) (@aU _ _ _ _ _ (@aM _ _ 1 _ (show (["p","q"]:List Str).Nodup from by decide +kernel) rfl (Or.inl rfl) (.inr rfl)) (@cg _) (by rfl)) (by rfl)) rfl rfl) (fun _ _ _ _=>(pv 1)) (closureFor_none (by decide +kernel)) rfl (by decide +kernel) (by decide +kernel) (fun _ _ h=>by cases h) (eK (by rfl)) (fun _ _=>rfl) (fun _ i _ _ _ h=>by rcases i with _ | _ | _ | i <;> simp at h) (by intro _;rfl))) (@ai _) aW) (by rfl) (by decide) (by rfl) (by rfl)) (by rfl) (by first | exact .inl rfl | exact .inr rfl | assumption)) (@ay _ _ _ (@aL _ _ _ _ (@oA _ "p" "q" "ranks" _ _ _ _ _ _ _ _ _ 1 rfl (@cf _ _ _ _ (pv 0)) (fun _ _ _ _=>eI (K:=K) (n:=2) rfl rfl (@aU _ _ _ _ _ (@aM _ _ 0 _ (show (["p","q","ranks"]:List Str).Nodup from by decide +kernel) rfl (Or.inl rfl) (.inr rfl)) (@aU _ _ _ _ _ (@aM _ _ 1 _ (show (["p","q","ranks"]:List Str).Nodup from by decide +kernel) rfl (Or.inl rfl) (.inr rfl)) (@cg _) (by rfl)) (by rfl)) rfl rfl) (fun _ _ _ _=>(@bN _ _ _ _ _ (@ae _ _ _ _ _ (@aY _ _ _ _ _ _ _ _ _ (rL rfl) (by rfl) T.b_min PyProof.Rows.boot_min (@ae _ _ _ _ _ (jg (qg hr) (pv 2) (pv 0) (fun _ _=>rfl)) (@ae _ _ _ _ _ (jg (qg hr) (pv 2) (pv 1) (fun _ _=>rfl)) (@ai _) aO) aO) (by decide) (by decide) (by rfl) (by rfl)) (@ae _ _ _ _ _ (@aY _ _ _ _ _ _ _ _ _ (rM rfl) (by rfl) T.b_max PyProof.Rows.boot_max (@ae _ _ _ _ _ (jg (qg hr) (pv 2) (pv 0) (fun _ _=>rfl)) (@ae _ _ _ _ _ (jg (qg hr) (pv 2) (pv 1) (fun _ _=>rfl)) (@ai _) aO) aO) (by decide) (by decide) (by rfl) (by rfl)) (@ai _) aK) aK))) rfl rfl (by decide +kernel) (by decide +kernel) rfl rfl rfl rfl rfl (by intro _;rfl))))),?_⟩
    have al:=bF pr
    obtain⟨us,vs,l1,l2,t1,t2,hh⟩:=iQ pr
    have el:(bJ xs).length<=300:=by unfold bJ;rw[List.length_append,List.length_map,List.length_map];omega
    have elp:∀p∈bJ xs,Lp p/\Sz 4000 p:=fun p hp=>by
      unfold bJ at hp
      rcases List.mem_append.mp hp with h | h
      · obtain⟨x,hx',rfl⟩:=List.mem_map.mp h
        exact⟨(hx x hx').1.1,(hx x hx').2.1⟩
      · obtain⟨x,hx',rfl⟩:=List.mem_map.mp h
        exact⟨(hx x hx').1.2,(hx x hx').2.2⟩
    obtain⟨srt,hmem⟩:=cV fun p hp=>(elp p hp).1
    have FST:∀{H':Hp},Same H H'->Gv (dJ (gJ K (cm 0)) (fun _=>[none,none]) (oU K 2 (eL (bV 0) (eL (bV 1) oV))) (cm 0)) [some (.ref l),none] H' (fun v H2=>∃D,H' D=none/\v=.ref D/\H2=upd H' D (.lst us)):=fun {H'} s'=>kM (ah rfl) (s' _ _ hl) (by rw[List.length_map];omega) (by rw[List.length_map];exact l1) fun i x z H2 ex ez s2 Q q=>by
      rw[List.getElem?_map] at ex
      cases ea:as[i]? with
      | none=>rw[ea] at ex;cases ex
      | some a=>
        rw[ea] at ex
        cases ex
        obtain⟨u,v,h1,h2,h3⟩:=hh i a ea
        rw[ez] at h1
        cases h1
        exact tg2 (s2 _ _ (s' _ _ h3)) ⟨KeepS.none2,ah rfl _ q⟩
    have SND:∀{H':Hp},Same H H'->Gv (dJ (gJ K (cm 0)) (fun _=>[none,none]) (oU K 2 (eL (bV 0) (eL (bV 1) oV))) (cm 1)) [some (.ref l),none] H' (fun v H2=>∃D,H' D=none/\v=.ref D/\H2=upd H' D (.lst vs)):=fun {H'} s'=>kM (ah rfl) (s' _ _ hl) (by rw[List.length_map];omega) (by rw[List.length_map];exact l2) fun i x z H2 ex ez s2 Q q=>by
      rw[List.getElem?_map] at ex
      cases ea:as[i]? with
      | none=>rw[ea] at ex;cases ex
      | some a=>
        rw[ea] at ex
        cases ex
        obtain⟨u,v,h1,h2,h3⟩:=hh i a ea
        rw[ez] at h2
        cases h2
        exact tg2 (s2 _ _ (s' _ _ h3)) ⟨KeepS.none2,ah rfl _ q⟩
    refine aH (R:=fun v H1=>∃d,v=.ref d/\Same H H1/\H1 d=some (.dT (kc (rkD (bo (bJ xs)))))) (bR (RA:=fun ws H1=>∃c,ws=[.ref c]/\Same H H1/\LP H1 c (bJ xs)) (fun Q q=>?_) fun ws H1 z Q q=>?_) ?_
    · dsimp only[bG,df,tOp]
      refine FST Same.rfl' _ fun v1 H1 ⟨D1,hD1,e1,e1'⟩=>?_
      subst e1 e1'
      refine SND (Same.upd hD1) _ fun v2 H2 ⟨D2,hD2,e2,e2'⟩=>?_
      subst e2 e2'
      have s1:Same H (upd H D1 (.lst us)):=Same.upd hD1
      have s2:=Same.upd (o:=.lst vs) hD2
      refine⟨D1,D2,us,vs,rfl,rfl,s2 _ _ ak,ak,Nat.le_of_lt (aZ (by omega)),fun D3 hD3=>q _ _ ⟨D3,rfl,s1.trans (s2.trans (Same.upd hD3)),us++vs,ak,?_⟩⟩
      unfold bJ
      rw[List.map_append]
      exact (t1.app t2).mono fun _ _ t=>t.same (s1.trans (s2.trans (Same.upd hD3)))
    · obtain⟨c,rfl,s1,hc⟩:=z
      exact⟨c,_,rfl,hc,fun p hp=>(elp p hp).1,fun p hp=>(elp p hp).2,el,fun d H' _ s' h=>q _ _ ⟨d,rfl,s1.trans s',h⟩⟩
    rintro _ H1 ⟨d,rfl,s1,hd⟩
    refine bn (fz (R:=fun H i p=>∃ws,(xs[i]?).map (fun x=>[V.int (min (eO (bo (bJ xs)) x.1) (eO (bo (bJ xs)) x.2)),V.int (max (eO (bo (bJ xs)) x.1) (eO (bo (bJ xs)) x.2))])=some ws/\H p=some (.tup ws)) (km _) (ah rfl) (s1 _ _ hl) (by rw[List.length_map];omega) fun i x H' ex s' Q q=>?_) ?_
    · rw[List.getElem?_map] at ex
      cases ea:as[i]? with
      | none=>rw[ea] at ex;cases ex
      | some a=>
        rw[ea] at ex
        cases ex
        obtain⟨x,hxi,u,v,e1,e2,e3⟩:=bv pr ea
        have hm:=jN (List.mem_of_getElem? hxi)
        have s01:=s1.trans s'
        have hd':=s' _ _ hd
        refine tg2 (s01 _ _ e1) ⟨KeepS.none3,?_⟩
        have R1:Pu (pE (cm 2) (cm 0)) [some u,some v,some (.ref d)] H' (.int (eO (bo (bJ xs)) x.1)):=mS srt (ah rfl) (ah rfl) hd' (e2.same s01) ((hmem _).mpr hm.1)
        have R2:Pu (pE (cm 2) (cm 1)) [some u,some v,some (.ref d)] H' (.int (eO (bo (bJ xs)) x.2)):=mS srt (ah rfl) (ah rfl) hd' (e3.same s01) ((hmem _).mpr hm.2)
        exact cx (ar (sK (ar R1 (ar R2 aB))) (ar (sL (ar R1 (ar R2 aB))) aB)) (by show 2<=sizeLine;decide) _ fun w H2 ⟨p2,hp2,z1,z2⟩=>by
          subst z1 z2
          exact q p2 _ (Same.upd hp2) hp2 ⟨_,by rw[hxi];rfl,ak⟩
    · rintro _ H' ⟨s',D,ps,rfl,hD,hD',hpl,hps,_⟩
      rw[List.length_map] at hpl
      refine k D H' (xs.map fun x=>(min (eO (bo (bJ xs)) x.1) (eO (bo (bJ xs)) x.2),max (eO (bo (bJ xs)) x.1) (eO (bo (bJ xs)) x.2))) (bK s1 hD) (s1.trans s') ⟨_,hD',?_⟩ ⟨by rw[List.length_map],eO (bo (bJ xs)),fun p q hp hq h=>u3 srt ((hmem p).mpr hp) ((hmem q).mpr hq) h,fun i x s hx' hs=>?_⟩
      · rw[List.map_map]
        refine cM (by rw[List.length_map,List.length_map];omega) fun i v hv=>?_
        rw[List.getElem?_map] at hv
        cases ep:ps[i]? with
        | none=>rw[ep] at hv;cases hv
        | some p=>
          rw[ep] at hv
          cases hv
          obtain⟨⟨ws,e1,e2⟩,_⟩:=hps i p ep
          cases hx':xs[i]? with
          | none=>rw[hx'] at e1;cases e1
          | some x=>
            rw[hx'] at e1
            cases e1
            exact⟨[min (eO (bo (bJ xs)) x.1) (eO (bo (bJ xs)) x.2),max (eO (bo (bJ xs)) x.1) (eO (bo (bJ xs)) x.2)],by rw[List.getElem?_map,hx'];rfl,p,rfl,e2⟩
      · rw[List.getElem?_map,hx'] at hs
        cases hs
        rfl
def om:Sp:=fun vs H Q _=>∃v p,vs=[v]/\AtP H v p/\∀w H',Same H H'->AtP H' w (flp p)->Q w H'
theorem or:FnScope ["p"] ["p"] (av ed):=⟨rfl,rfl,rfl,by decide +kernel,rfl,by decide +kernel,by decide +kernel⟩
theorem jJ (T:Txt K mg t):FnOk P w K mg base CX0 1 t.f_flipped t.d_flipped ["p"] om:=by
  refine T.flipped.F.ok (k:=0) or (fun vs H Q E h=>?_) (fun cdv A outer s H vs Q E hr h=>?_)
  · obtain⟨v,p,rfl,_⟩:=h
    rfl
  · obtain⟨v,p,rfl,hv,k⟩:=h
    refine⟨_,(@ay _ _ _ (@aL _ _ _ _ (@bN _ _ _ _ _ (@ae _ _ _ _ _ (@au _ _ _ _ _ _ _ ax (pv 0) (@ag _ _ _ _) (fun _ _=>rfl)) (@ae _ _ _ _ _ (@au _ _ _ _ _ _ _ ax (pv 0) (@ag _ _ _ _) (fun _ _=>rfl)) (@ae _ _ _ _ _ (@au _ _ _ _ _ _ _ ax (pv 0) (@ag _ _ _ _) (fun _ _=>rfl)) (@ai _) aO) aO) aO)))),?_⟩
    obtain⟨a,rfl,ha⟩:=hv
    refine bn (cx (ar (aw (ah rfl) pu_c (SqT.of (ha)) rfl) (ar (aw (ah rfl) pu_c (SqT.of (ha)) rfl) (ar (aw (ah rfl) pu_c (SqT.of (ha)) rfl) aB))) (by show 3<=sizeLine;decide)) ?_
    rintro _ _ ⟨q,hq,rfl,rfl⟩
    exact k _ _ (Same.upd hq) ⟨q,rfl,ak⟩
def ib:Str:=(("near_pairs" : Str)++(".<locals>." : Str))++("<lambda>" : Str)
def ie:Pos:=⟨101,42,101,73⟩
def StAt (H:Hp)(a:Addr)(x:(Pt3×Pt3)×List Int):Prop:=∃u v w,H a=some (.tup [u,v,w])/\AtP H u x.1.1/\AtP H v x.1.2/\TupT H w x.2
def StL (H:Hp)(l:Addr)(xs:List ((Pt3×Pt3)×List Int)):Prop:=∃as:List Addr,H l=some (.lst (as.map V.ref))/\Paired (StAt H) as xs
theorem StAt.same {H H':Hp}{a:Addr}{x:(Pt3×Pt3)×List Int}(h:StAt H a x)(s:Same H H'):StAt H' a x:=by
  obtain⟨u,v,w,h1,h2,h3,h4⟩:=h
  exact⟨u,v,w,s _ _ h1,h2.same s,h3.same s,h4.same s⟩
theorem StL.same {H H':Hp}{l:Addr}{xs:List ((Pt3×Pt3)×List Int)}(h:StL H l xs)(s:Same H H'):StL H' l xs:=by
  obtain⟨as,h1,h2⟩:=h
  exact⟨as,s _ _ h1,bz h2 fun _ _ x=>x.same s⟩
theorem ef {H H':Hp}{l:Addr}{v:V}{ns:List Int}(h:TupT H v ns)(s:SameB l H H')(hl:∀xs,H l≠some (.tup xs)):TupT H' v ns:=by
  obtain⟨a,rfl,ha⟩:=h
  exact⟨a,rfl,s _ _ ha fun e=>hl _ (e▸ha)⟩
theorem StAt.but {H H':Hp}{l a:Addr}{x:(Pt3×Pt3)×List Int}(h:StAt H a x)(s:SameB l H H')(hl:∀xs,H l≠some (.tup xs)):StAt H' a x:=by
  obtain⟨u,v,w,h1,h2,h3,h4⟩:=h
  exact⟨u,v,w,s _ _ h1 fun e=>hl _ (e▸h1),ef h2 s hl,ef h3 s hl,ef h4 s hl⟩
theorem StL.but {H H':Hp}{l d:Addr}{xs:List ((Pt3×Pt3)×List Int)}(h:StL H l xs)(s:SameB d H H')(hl:∀xs,H d≠some (.tup xs))(n:l≠d):StL H' l xs:=by
  obtain⟨as,h1,h2⟩:=h
  exact⟨as,s _ _ h1 n,bz h2 fun _ _ x=>x.but s hl⟩
theorem IpL.but {H H':Hp}{l d:Addr}{sp:List (Int×Int)}(h:IpL H l sp)(s:SameB d H H')(hl:∀xs,H d≠some (.tup xs))(n:l≠d):IpL H' l sp:=by
  obtain⟨vs,h1,h2⟩:=h
  exact⟨vs,s _ _ h1 n,h2.mono fun _ _ t=>ef t s hl⟩
theorem cZ {H:Hp}{P:Addr}{q:Str}{lp:Pos}(h:bW H P q lp):(∀xs,H P≠some (.tup xs))/\∀xs,H P≠some (.lst xs):=by
  obtain⟨ps,e,_⟩:=h
  exact⟨fun xs z=>(by rw[e] at z;cases z),fun xs z=>(by rw[e] at z;cases z)⟩
theorem ci {H H':Hp}{P:Addr}{q:Str}{lp:Pos}(h:bW H P q lp)(s:Same H H'):bW H' P q lp:=by
  obtain⟨ps,e,r⟩:=h
  exact⟨ps,s P _ e,r.imp id fun ⟨c,e1,e2⟩=>⟨c,e1,s c _ e2⟩⟩
theorem pz {H H':Hp}{P d:Addr}{q:Str}{lp:Pos}(h:bW H P q lp)(s:SameB d H H')(hd:∃ys,H d=some (.lst ys)):bW H' P q lp:=by
  obtain⟨ys,hd⟩:=hd
  obtain⟨ps,e,r⟩:=h
  refine⟨ps,s P _ e (m6 e hd (fun z=>nomatch z)),r.imp id fun ⟨c,e1,e2⟩=>⟨c,e1,s c _ e2 (m6 e2 hd (fun z=>nomatch z))⟩⟩
theorem mo (zs:List (Pt3×Pt3)):Stays (fun H i p=>∃x,zs[i]?=some x/\SdAt H p x) where
  same:=fun ⟨x,e,h⟩ s=>⟨x,e,h.same s⟩
  but:=fun {H1 H2 i p D ys} ⟨x,e,u,v,h1,h2,h3⟩ _ d s=>by
    have hl:∀xs,H1 D≠some (.tup xs):=fun xs z=>by rw[d] at z;cases z
    exact⟨x,e,u,v,s _ _ h1 (fun z=>by rw[z,d] at h1;cases h1),ef h2 s hl,ef h3 s hl⟩
  here:=fun ⟨x,e,u,v,h1,_⟩ z=>by rw[h1] at z;cases z
theorem qc {H H':Hp}{zs:List (Pt3×Pt3)}{n:Nat}{v:V}(h:uJ (fun H i p=>∃x,zs[i]?=some x/\SdAt H p x) H n v H')(e:n=zs.length):Same H H'/\∃D,v=.ref D/\SdL H' D zs:=by
  obtain⟨s,D,ps,rfl,hD,hD',hl,hr,_⟩:=h
  exact⟨s,D,rfl,ps,hD',cM (by omega) fun i p hp=>(hr i p hp).1⟩
theorem qz {σ:L2.St}{H:Hp}{D:Ends}{c:TT}{tb:TS}(Pv:L2.St->Hp->Prop)(μ:L2.St->Hp->Nat)(h0:Pv σ H)
    (hs:∀σ H,Pv σ H->∃b,PuT c σ H b/\(b=true->tb { D with nx:=fun σ' H'=>Pv σ' H'/\μ σ' H'<μ σ H,ct:=fun σ' H'=>Pv σ' H'/\μ σ' H'<μ σ H,bk:=D.nx } σ H)/\(b=false->D.nx σ H)) :
    nV c tb D σ H:=by
  refine⟨fun m σ H=>m=μ σ H/\Pv σ H,⟨_,rfl,h0⟩,?_⟩
  rintro m σ H ⟨rfl,p⟩
  obtain⟨b,hb,h1,h2⟩:=hs σ H p
  refine hb _ ?_
  cases b with
  | true=>rw[if_pos rfl];exact⟨_,fun σ' H' ⟨p',l⟩=>⟨_,l,rfl,p'⟩,h1 rfl⟩
  | false=>rw[if_neg Bool.false_ne_true];exact h2 rfl
theorem IpL.at {H:Hp}{l:Addr}{sp:List (Int×Int)}(h:IpL H l sp){i:Nat}{s:Int×Int}(hs:sp[i]?=some s):∃vs a,H l=some (.lst vs)/\vs[i]?=some (.ref a)/\H a=some (.tup [.int s.1,.int s.2]):=by
  obtain⟨vs,h1,h2⟩:=h
  obtain⟨v,hv,a,rfl,ha⟩:=h2.get (i:=i) (ns:=[s.1,s.2]) (by rw[List.getElem?_map,hs];rfl)
  exact⟨vs,a,h1,hv,ha⟩
def j5 (p:Addr):Sp:=fun vs H Q _=>∃l xs,vs=[.ref l]/\StL H l xs/\(∀x∈xs,OkS 900 x.1)/\xs.length<=8/\bW H p ib ie/\∀d H' prs,H d=none->d≠p->SameB p H H'->bW H' p ib ie->IpL H' d prs->rO (xs.map (·.1)) prs->Q (.ref d) H'
theorem bC:FnScope ["strokes","spans","heights","row","pairs","at","one","place","other"] ["strokes"] (av cK):=⟨rfl,rfl,rfl,by decide +kernel,rfl,by decide +kernel,by decide +kernel⟩
theorem j9 (hB:BM base mg)(T:Txt K mg t):FnOk P w K mg base CX0 7 t.f_near_pairs t.d_near_pairs ["strokes"] (j5 t.p_near_pairs):=by
  refine T.near_pairs.F.okL (k:=6) T.lc_near_pairs bC (fun vs H Q E h=>?_) (fun A outer s H vs Q E hr h=>?_)
  · obtain⟨l,xs,rfl,_⟩:=h
    rfl
  · obtain⟨l,xs,rfl,⟨as,hl,pr⟩,ok,n8,tb,k⟩:=h
    refine⟨_,(@aj _ _ _ _ _ (@aE _ _ 1 _ _ _ _ bC.nd rfl (Or.inr rfl) (@aA _ _ _ _ _ _ _ _ _ _ _ _ _ _ T.spans_of (iW T) hr (by decide) (@ae _ _ _ _ _ (@dc _ _ _ _ _ [] _ (["p","q","passes"]) _ (fun _=>[none,none,none]) _ _ rfl (@cf _ _ _ _ (pv 0)) (fun _ _ _ _=>eI (K:=K) (n:=3) rfl rfl (@aU _ _ _ _ _ (@aM _ _ 0 _ (show (["p","q","passes"]:List Str).Nodup from by decide +kernel) rfl (Or.inl rfl) (.inr rfl)) (@aU _ _ _ _ _ (@aM _ _ 1 _ (show (["p","q","passes"]:List Str).Nodup from by decide +kernel) rfl (Or.inl rfl) (.inr rfl)) (@aU _ _ _ _ _ (@aM _ _ 2 _ (show (["p","q","passes"]:List Str).Nodup from by decide +kernel) rfl (Or.inl rfl) (.inr rfl)) (@cg _) (by rfl)) (by rfl)) (by rfl)) rfl rfl) (fun _ _ _ _=>(@bN _ _ _ _ _ (@ae _ _ _ _ _ (pv 0) (@ae _ _ _ _ _ (pv 1) (@ai _) af) af))) (closureFor_none (by decide +kernel)) rfl (by decide +kernel) (by decide +kernel) (fun _ _ h=>by cases h) (eK (by rfl)) (fun _ _=>rfl) (fun _ i _ _ _ h=>by rcases i with _ | _ | _ | i <;> simp at h) (by intro _;rfl)) (@ai _) fB) (by rfl) (by decide) (by rfl) (by rfl)) (by rfl) (by first | exact .inl rfl | exact .inr rfl | assumption)) (@aj _ _ _ _ _ (@aE _ _ 2 _ _ _ _ bC.nd rfl (Or.inl rfl) (@aA _ _ _ _ _ _ _ _ _ _ _ _ _ _ T.spans_of (iW T) hr (by decide) (@ae _ _ _ _ _ (@dc _ _ _ _ _ [] _ (["p","q","passes"]) _ (fun _=>[none,none,none]) _ _ rfl (@cf _ _ _ _ (pv 0)) (fun _ _ _ _=>eI (K:=K) (n:=3) rfl rfl (@aU _ _ _ _ _ (@aM _ _ 0 _ (show (["p","q","passes"]:List Str).Nodup from by decide +kernel) rfl (Or.inl rfl) (.inr rfl)) (@aU _ _ _ _ _ (@aM _ _ 1 _ (show (["p","q","passes"]:List Str).Nodup from by decide +kernel) rfl (Or.inl rfl) (.inr rfl)) (@aU _ _ _ _ _ (@aM _ _ 2 _ (show (["p","q","passes"]:List Str).Nodup from by decide +kernel) rfl (Or.inl rfl) (.inr rfl)) (@cg _) (by rfl)) (by rfl)) (by rfl)) rfl rfl) (fun _ _ _ _=>(@bN _ _ _ _ _ (@ae _ _ _ _ _ (@aA _ _ _ _ _ _ _ _ _ _ _ _ _ _ T.flipped (jJ T) hr (by decide) (@ae _ _ _ _ _ (pv 0) (@ai _) af) (by rfl) (by decide) (by rfl) (by rfl)) (@ae _ _ _ _ _ (@aA _ _ _ _ _ _ _ _ _ _ _ _ _ _ T.flipped (jJ T) hr (by decide) (@ae _ _ _ _ _ (pv 1) (@ai _) af) (by rfl) (by decide) (by rfl) (by rfl)) (@ai _) aK) aK))) (closureFor_none (by decide +kernel)) rfl (by decide +kernel) (by decide +kernel) (fun _ _ h=>by cases h) (eK (by rfl)) (fun _ _=>rfl) (fun _ i _ _ _ h=>by rcases i with _ | _ | _ | i <;> simp at h) (by intro _;rfl)) (@ai _) fB) (by rfl) (by decide) (by rfl) (by rfl)) (by rfl) (by first | exact .inl rfl | exact .inr rfl | assumption)) (@aj _ _ _ _ _ (@aE _ _ 3 _ _ _ _ bC.nd rfl (Or.inl rfl) (qR (bk:=true) (k:=0) (P:=t.p_near_pairs) (c:=t.q_near_pairs) (x:="number") (y:="spans") 1 (hr.mono (by decide)) (by rfl) T.b_sorted (@ae _ _ _ _ _ (@cC _ _ _ _ _ _ _ _ _ nK (by rfl) T.b_range PyProof.Rows.boot_range (@ae _ _ _ _ _ (@aY _ _ _ _ _ _ _ _ _ aS (by rfl) T.b_len PySem.boot_len (@ae _ _ _ _ _ (pv 0) (@ai _) af) (by decide) (by decide) (by rfl) (by rfl)) (@ai _) aK) (by decide) (by decide) (by rfl) (by rfl)) (@ai _) aK) (mz rfl) rfl rfl rfl T.lh_near_pairs hB rfl (fun _ _ _=>rfl) rfl rfl rfl rfl (by decide +kernel) rfl rfl rfl rfl rfl (fun _ _ _ _=>(@au _ _ _ _ _ _ _ (lW (K:=K) rfl) (@au _ _ _ _ _ _ _ (ua (K:=K) rfl) (pv 1) (pv 0) (fun _ _=>rfl)) (@ag _ _ _ _) (fun _ _=>rfl))) rfl rfl) (by rfl) (by first | exact .inl rfl | exact .inr rfl | assumption)) (@aj _ _ _ _ _ (@aE _ _ 4 _ _ _ _ bC.nd rfl (Or.inl rfl) (@cD _ _ _ _ (@ai _)) (by rfl) (by first | exact .inl rfl | exact .inr rfl | assumption)) (@aj _ _ _ _ _ (@eP _ _ _ _ _ _ _ _ PassesOwn.never rfl (pU rfl T.b_enumerate PyProof.Rows.boot_enumerate (@ae _ _ _ _ _ (pv 3) (@ai _) af)) (@gb _ _ _ _ _ _ rfl (@aU _ _ _ _ _ (@aM _ _ 5 _ bC.nd rfl (Or.inl rfl) (by first | exact .inl rfl | exact .inr rfl | assumption)) (@aU _ _ _ _ _ (@aM _ _ 6 _ bC.nd rfl (Or.inl rfl) (by first | exact .inl rfl | exact .inr rfl | assumption)) (@cg _) (by rfl)) (by rfl)) (by rfl) (by rfl)) (@aj _ _ _ _ _ (@aE _ _ 7 _ _ _ _ bC.nd rfl (Or.inl rfl) (@az _ _ _ _ _ _ _ _ bP (pv 5) (@ag _ _ _ _)) (by rfl) (by first | exact .inl rfl | exact .inr rfl | assumption)) (@ay _ _ _ (@er _ _ _ _ _ _ PassesOwn.never (PW.pt (@eg _ _ _ _ _ _ _ (@aG _ _ _ _ _ _ _ _ eJ (pv 7) (@aY _ _ _ _ _ _ _ _ _ aS (by rfl) T.b_len PySem.boot_len (@ae _ _ _ _ _ (pv 3) (@ai _) af) (by decide) (by decide) (by rfl) (by rfl)) (aQ _)) (@db _ _ _ _ (@aG _ _ _ _ _ _ _ _ tF (@au _ _ _ _ _ _ _ ax (@au _ _ _ _ _ _ _ aI (pv 1) (@au _ _ _ _ _ _ _ aI (pv 3) (pv 7) (fun _ _=>rfl)) (fun _ _=>rfl)) (@ag _ _ _ _) (fun _ _=>rfl)) (@au _ _ _ _ _ _ _ ax (@au _ _ _ _ _ _ _ aI (pv 1) (pv 6) (fun _ _=>rfl)) (@ag _ _ _ _) (fun _ _=>rfl)) (aQ _))))) (@aj _ _ _ _ _ (@aE _ _ 8 _ _ _ _ bC.nd rfl (Or.inl rfl) (@au _ _ _ _ _ _ _ aI (pv 3) (pv 7) (fun _ _=>rfl)) (by rfl) (by first | exact .inl rfl | exact .inr rfl | assumption)) (@aj _ _ _ _ _ (@bB _ _ _ _ _ _ _ _ (PW.pt (@eg _ _ _ _ _ _ _ (@aG _ _ _ _ _ _ _ _ tF (@au _ _ _ _ _ _ _ ax (@au _ _ _ _ _ _ _ aI (pv 2) (pv 8) (fun _ _=>rfl)) (@ag _ _ _ _) (fun _ _=>rfl)) (@au _ _ _ _ _ _ _ ax (@au _ _ _ _ _ _ _ aI (pv 2) (pv 6) (fun _ _=>rfl)) (@ag _ _ _ _) (fun _ _=>rfl)) (aQ _)) (@db _ _ _ _ (@aG _ _ _ _ _ _ _ _ tF (@au _ _ _ _ _ _ _ ax (@au _ _ _ _ _ _ _ aI (pv 2) (pv 6) (fun _ _=>rfl)) (@ag _ _ _ _) (fun _ _=>rfl)) (@au _ _ _ _ _ _ _ ax (@au _ _ _ _ _ _ _ aI (pv 2) (pv 8) (fun _ _=>rfl)) (@ag _ _ _ _) (fun _ _=>rfl)) (aQ _))))) (@ay _ _ _ (@bu _ _ _ _ (@cY _ _ _ _ _ _ _ _ _ _ _ _ PySem.F.plainAttrs_list PySem.F.slot_list_append PySem.F.type_list_append br (pv 4) (@ae _ _ _ _ _ (@bN _ _ _ _ _ (@ae _ _ _ _ _ (pv 6) (@ae _ _ _ _ _ (pv 8) (@ai _) af) af)) (@ai _) mr) (by rfl) (by rfl) (by rfl) (by rfl) (by rfl)) (by rfl))) (@be _)) (@ay _ _ _ (@aE _ _ 7 _ _ _ _ bC.nd rfl (Or.inl rfl) (@az _ _ _ _ _ _ _ _ bP (pv 7) (@ag _ _ _ _)) (by rfl) (by first | exact .inl rfl | exact .inr rfl | assumption)))))))) (by intro _;rfl)) (@ay _ _ _ (@aL _ _ _ _ (pv 4)))))))),?_⟩
    have al:=bF pr
    have lal:(as.map V.ref).length=xs.length:=by rw[List.length_map];exact al
    have ok4:∀x∈xs.map (·.1),(Lp x.1/\Lp x.2)/\Sz 4000 x.1/\Sz 4000 x.2:=fun x hx=>by
      obtain ⟨y, hy, rfl⟩ := List.mem_map.mp hx
      exact⟨⟨(ok y hy).a,(ok y hy).b⟩,(ok y hy).za.mono (by decide),(ok y hy).zb.mono (by decide)⟩
    have ok5:∀x∈(xs.map (·.1)).map flS,(Lp x.1/\Lp x.2)/\Sz 4000 x.1/\Sz 4000 x.2:=fun x hx=>by
      obtain ⟨y, hy, rfl⟩ := List.mem_map.mp hx
      have:=ok4 y hy
      exact⟨⟨dS this.1.1,dS this.1.2⟩,uz this.2.1,uz this.2.2⟩
    refine aH (R:=fun v H1=>∃d sp,v=.ref d/\Same H H1/\IpL H1 d sp/\Spans (xs.map (·.1)) sp) (bR (RA:=fun ws H1=>∃c,ws=[.ref c]/\Same H H1/\SdL H1 c (xs.map (·.1))) (fun Q q=>?_) fun ws H1 z Q q=>?_) ?_
    · dsimp only[bG,df]
      refine fz (R:=fun H i p=>∃x,(xs.map (·.1))[i]?=some x/\SdAt H p x) (mo _) (ah rfl) hl (by omega) (fun i x H' ex s' Q q=>?_) _ fun v H1 z=>?_
      · rw[List.getElem?_map] at ex
        cases ea:as[i]? with
        | none=>rw[ea] at ex;cases ex
        | some a=>
          rw[ea] at ex
          cases ex
          obtain⟨x,hxi,u,v,w,e1,e2,e3,e4⟩:=bv pr ea
          refine tg3 (s' _ _ e1) ⟨KeepS.noneL3,?_⟩
          exact cx (ar (ah rfl) (ar (ah rfl) aB)) (by show 2<=sizeLine;decide) _ fun v2 H2 ⟨p2,hp2,z1,z2⟩=>by
            subst z1 z2
            exact q p2 _ (Same.upd hp2) hp2 ⟨x.1,by rw[List.getElem?_map,hxi];rfl,u,v,ak,e2.same (s'.trans (Same.upd hp2)),e3.same (s'.trans (Same.upd hp2))⟩
      · obtain⟨s1,D,rfl,h1⟩:=qc z (by rw[lal,List.length_map])
        exact q _ _ ⟨D,rfl,s1,h1⟩
    · obtain⟨c,rfl,s1,hc⟩:=z
      exact⟨c,_,rfl,hc,ok4,by rw[List.length_map];omega,fun d H' sp _ s' h1 h2=>q _ _ ⟨d,sp,rfl,s1.trans s',h1,h2⟩⟩
    rintro _ H1 ⟨d1,sp,rfl,s1,ip1,hsp⟩
    refine aH (R:=fun v H2=>∃d hp,v=.ref d/\Same H1 H2/\IpL H2 d hp/\Spans ((xs.map (·.1)).map flS) hp) (bR (RA:=fun ws H2=>∃c,ws=[.ref c]/\Same H1 H2/\SdL H2 c ((xs.map (·.1)).map flS)) (fun Q q=>?_) fun ws H2 z Q q=>?_) ?_
    · dsimp only[bG,df]
      refine fz (R:=fun H i p=>∃x,((xs.map (·.1)).map flS)[i]?=some x/\SdAt H p x) (mo _) (ah rfl) (s1 _ _ hl) (by omega) (fun i x H' ex s' Q q=>?_) _ fun v H1 z=>?_
      · rw[List.getElem?_map] at ex
        cases ea:as[i]? with
        | none=>rw[ea] at ex;cases ex
        | some a=>
          rw[ea] at ex
          cases ex
          obtain⟨x,hxi,u,v,w,e1,e2,e3,e4⟩:=bv pr ea
          have s01:=s1.trans s'
          refine tg3 (s01 _ _ e1) ⟨KeepS.noneL3,?_⟩
          dsimp only[nW,bG,df]
          refine (aX (R:=fun w H2=>Same H' H2/\AtP H2 w (flp x.1.1)) (ar (ah rfl) aB) fun Q q=>⟨u,_,rfl,e2.same s01,fun w H2 s2 h=>q _ _ ⟨s2,h⟩⟩) _ fun w1 H2 ⟨s2,f1⟩=>?_
          refine (aX (R:=fun w H3=>Same H2 H3/\AtP H3 w (flp x.1.2)) (ar (ah rfl) aB) fun Q q=>⟨v,_,rfl,e3.same (s01.trans s2),fun w H2 s2 h=>q _ _ ⟨s2,h⟩⟩) _ fun w2 H3 ⟨s3,f2⟩=>?_
          refine⟨by show 2<=sizeLine;decide,fun p2 hp2=>?_⟩
          exact q p2 _ (s2.trans (s3.trans (Same.upd hp2))) (bK (s2.trans s3) hp2) ⟨flS x.1,by rw[List.getElem?_map,List.getElem?_map,hxi];rfl,w1,w2,ak,f1.same (s3.trans (Same.upd hp2)),f2.same (Same.upd hp2)⟩
      · obtain⟨s1',D,rfl,h1⟩:=qc z (by rw[lal,List.length_map,List.length_map])
        exact q _ _ ⟨D,rfl,s1',h1⟩
    · obtain⟨c,rfl,s2,hc⟩:=z
      exact⟨c,_,rfl,hc,ok5,by rw[List.length_map,List.length_map];omega,fun d H' sp _ s' h1 h2=>q _ _ ⟨d,sp,rfl,s2.trans s',h1,h2⟩⟩
    rintro _ H2 ⟨d2,hp,rfl,s2,ip2,hhp⟩
    have tb2:=ci tb (s1.trans s2)
    have ip12:=ip1.same s2
    have spl:sp.length=xs.length:=by rw[hsp.1,List.length_map]
    have hpl:hp.length=xs.length:=by rw[hhp.1,List.length_map,List.length_map]
    have SPA:∀{i:Nat},i<xs.length->∃s,sp[i]?=some s:=fun h=>⟨_,List.getElem?_eq_getElem (by omega)⟩
    have HPA:∀{i:Nat},i<xs.length->∃s,hp[i]?=some s:=fun h=>⟨_,List.getElem?_eq_getElem (by omega)⟩
    refine aH (R:=fun v H3=>∃(D:Addr) (row:List Nat),v=.ref D/\SameB t.p_near_pairs H2 H3/\bW H3 t.p_near_pairs ib ie/\H3 D=some (.lst (row.map fun (i:Nat)=>V.int i))/\row.Perm (List.range xs.length)/\row.Pairwise fun i j=>(sp.getD i (0,0)).1<=(sp.getD j (0,0)).1) (uk (n:=xs.length) (RA:=fun vs H3=>∃r,vs=[.ref r]/\H2 r=none/\H3=upd H2 r (.ext (jY r xs.length))) (fun Q q=>?_) fun vs H3 z=>?_) ?_
    · dsimp only[bG,df,tCB]
      refine ah (v:=.ref l) rfl _ ⟨l,_,rfl,.inl (SqL.of ((s1.trans s2) _ _ hl)),xs.length,by rw[lal],fun r hr0=>q _ _ ⟨r,rfl,hr0,rfl⟩⟩
    · obtain⟨r,rfl,hr0,rfl⟩:=z
      have sr:Same H2 (upd H2 r (.ext (jY r xs.length))):=Same.upd hr0
      have nP:r≠t.p_near_pairs:=fun e=>by
        obtain⟨ps,e1,_⟩:=tb2
        rw[←e,hr0] at e1;cases e1
      have tb3:=ci tb2 sr
      refine⟨r,rfl,nP,ak,tb3,by omega,fun H4 s4 tb4=>⟨fun i=>(sp.getD i (0,0)).1,fun i hi H5 s5=>?_,fun H5 D p s5 hD perm srt=>?_⟩⟩
      · obtain⟨s,hs⟩:=SPA hi
        have nd:d1≠t.p_near_pairs:=fun e=>by
          obtain⟨vs,e1,_⟩:=ip12
          exact (cZ tb2).2 vs (e▸e1)
        have ip5:=((ip12.same sr).but s4 (cZ tb3).1 nd).same s5
        obtain⟨vs,a,h1,h2,h3⟩:=ip5.at hs
        refine fun Q q=>aw (bp (ah rfl) (ah rfl) (SqL.of h1) (bA h2)) pu_c (SqT.of h3) rfl _ (q _ _ ⟨Same.rfl',?_⟩)
        simp[List.getD,hs]
      · have s45:SameB t.p_near_pairs H2 (upd H5 D (.lst (p.map fun (i:Nat)=>V.int i))):=fun b o hb nb=>by
          have h5:=s5 _ _ (s4 _ _ (sr _ _ hb) nb)
          rw[aF (fun e=>by rw[e,hD] at h5;cases h5)]
          exact h5
        exact⟨D,p,rfl,s45,ci (ci tb4 s5) (Same.upd hD),ak,perm,srt⟩
    rintro _ H3 ⟨D3,row,rfl,s3,tb3,hD3,perm,srt⟩
    have rl:row.length=xs.length:=by rw[perm.length_eq,List.length_range]
    have rin:∀{a i:Nat},row[a]?=some i->i<xs.length:=fun h=>List.mem_range.mp (perm.mem_iff.mp (List.mem_of_getElem? h))
    have rnd:row.Nodup:=perm.nodup_iff.mpr List.nodup_range
    have nd1:∀{d:Addr} {q:List (Int×Int)},IpL H2 d q->d≠t.p_near_pairs:=fun h e=>by
      obtain⟨vs,e1,_⟩:=h
      exact (cZ tb2).2 vs (e▸e1)
    have ip13:=ip12.but s3 (cZ tb2).1 (nd1 ip12)
    have ip23:=ip2.but s3 (cZ tb2).1 (nd1 ip2)
    refine aH (cO aB (by show 0<=sizeLine;decide)) ?_
    rintro _ _ ⟨pl,hpl0,rfl,rfl⟩
    have s4:Same H3 (upd H3 pl (.lst [])):=Same.upd hpl0
    have hpl4:(upd H3 pl (.lst [])) pl=some (.lst []):=ak
    have hD4:=s4 _ _ hD3
    have ip14:=ip13.same s4
    have ip24:=ip23.same s4
    have tb4:=ci tb3 s4
    have n1:D3≠pl:=aV hD3 hpl0
    have nip:∀{d:Addr} {q:List (Int×Int)},IpL H3 d q->d≠pl:=fun h e=>by
      obtain⟨vs,e1,_⟩:=h
      rw[e,hpl0] at e1;cases e1
    have m1:=nip ip13
    have m2:=nip ip23
    have hplH:H pl=none:=by
      cases e:H pl with
      | none=>rfl
      | some o=>
        by_cases z:pl=t.p_near_pairs
        · obtain⟨ps,e1,_⟩:=tb3
          rw[←z,hpl0] at e1;cases e1
        · have:=s3 _ _ ((s1.trans s2) _ _ e) z
          rw[hpl0] at this;cases this
    have npP:pl≠t.p_near_pairs:=fun z=>by
      obtain⟨ps,e1,_⟩:=tb3
      rw[←z,hpl0] at e1;cases e1
    generalize upd H3 pl (.lst [])=H4 at s4 hpl4 hD4 ip14 ip24 tb4 ⊢
    let Kp:Hp->List (Int×Int)->Prop:=fun H' prs=>SameB pl H4 H'/\∃ys,H' pl=some (.lst ys)/\TupsT H' ys (prs.map fun s=>[s.1,s.2])/\∀c∈prs,∃i j:Nat,c=((i:Int),(j:Int))/\i<xs.length/\j<xs.length/\i≠j
    have kpl:∀{H':Hp} {prs:List (Int×Int)},Kp H' prs->H' D3=some (.lst (row.map fun (i:Nat)=>V.int i))/\IpL H' d1 sp/\IpL H' d2 hp:=fun {H' prs} h=>by
      have nt:∀xs,H4 pl≠some (.tup xs):=fun xs z=>by rw[hpl4] at z;cases z
      exact⟨h.1 _ _ hD4 n1,ip14.but h.1 nt m1,ip24.but h.1 nt m2⟩
    have kps:∀{H' H'':Hp} {prs:List (Int×Int)},Kp H' prs->Same H' H''->Kp H'' prs:=fun {H' H'' prs} h s=>by
      obtain⟨h1,ys,h2,h3,h4⟩:=h
      exact⟨h1.trans s.b,ys,s _ _ h2,h3.mono fun _ _ t=>t.same s,h4⟩
    refine uS (a:=D3) (xs:=row.map fun (i:Nat)=>V.int i) (ar (ah rfl) aB) (fun at' σ H'=>∃prs,Kp H' prs/\prs.length<=at'*xs.length/\(∃c1 c2 c3 c4:Option V,σ=[some (.ref l),some (.ref d1),some (.ref d2),some (.ref D3),some (.ref pl),c1,c2,c3,c4])/\∀(a b i j:Nat),a<at'->a<b->row[a]?=some i->row[b]?=some j->j3 sp hp i j->((i:Int),(j:Int))∈prs) ⟨[],⟨SameB.refl _ _,[],hpl4,.nil,fun _ h=>nomatch h⟩,Nat.zero_le _,⟨_,_,_,_,rfl⟩,fun a b i j h=>absurd h (Nat.not_lt_zero _)⟩ (fun i σ H' _ ⟨prs,kp,_⟩=>(kpl kp).1) ?_ ?_
    · rintro at' x σ H' p ex ⟨prs,kp,hlen,⟨c1,c2,c3,c4,rfl⟩,hgood⟩ hp0
      rw[List.getElem?_map] at ex
      cases eo:row[at']? with
      | none=>rw[eo] at ex;cases ex
      | some one=>
        rw[eo] at ex
        cases ex
        have atl:at'<row.length:=(List.getElem?_eq_some_iff.mp eo).1
        have onel:=rin eo
        have kp1:=kps kp (Same.upd (o:=.tup [.int at',.int one]) hp0)
        refine tg2 ak ?_
        generalize upd H' p (.tup [.int at',.int one])=H5 at kp1 ⊢
        refine bH (cv (ah rfl) pu_c) ?_
        obtain⟨s,hs⟩:=SPA onel
        obtain⟨a0,ha0⟩:=HPA onel
        refine qz (fun σ H'=>∃(pc:Nat) (prs:List (Int×Int)) (c4:Option V),σ=[some (.ref l),some (.ref d1),some (.ref d2),some (.ref D3),some (.ref pl),some (.int at'),some (.int one),some (.int pc),c4]/\Kp H' prs/\at'<pc/\pc<=row.length/\prs.length+at'+1<=at'*xs.length+pc/\(∀(a b i j:Nat),a<at'->a<b->row[a]?=some i->row[b]?=some j->j3 sp hp i j->((i:Int),(j:Int))∈prs)/\∀(b j:Nat),at'<b->b<pc->row[b]?=some j->j3 sp hp one j->((one:Int),(j:Int))∈prs) (fun (σ:L2.St) _=>match σ[7]? with | some (some (V.int j))=>row.length - j.toNat | _=>0) ⟨at'+1,prs,c4,by simp,kp1,Nat.lt_succ_self _,by omega,by omega,hgood,fun b j h1 h2=>by omega⟩ ?_
        rintro _ H6 ⟨pc,prs6,c6,rfl,kp6,h1,h2,hlen6,hg6,hb6⟩
        obtain⟨r6,i16,i26⟩:=kpl kp6
        have LV:∀{H7:Hp} {c7:Option V},Kp H7 prs6->(∀(b j:Nat),pc<=b->row[b]?=some j->¬j3 sp hp one j)->∃prs,Kp H7 prs/\prs.length<=(at'+1)*xs.length/\(∃c1 c2 c3 c4:Option V,[some (V.ref l),some (.ref d1),some (.ref d2),some (.ref D3),some (.ref pl),some (.int at'),some (.int one),some (.int pc),c7]=[some (.ref l),some (.ref d1),some (.ref d2),some (.ref D3),some (.ref pl),c1,c2,c3,c4])/\∀(a b i j:Nat),a<at'+1->a<b->row[a]?=some i->row[b]?=some j->j3 sp hp i j->((i:Int),(j:Int))∈prs:=fun {H7 c7} k7 hno=>by
          refine⟨prs6,k7,by rw[Nat.succ_mul];omega,⟨_,_,_,_,rfl⟩,fun a b i j ha hab hi hj hgd=>?_⟩
          by_cases e:a<at'
          · exact hg6 a b i j e hab hi hj hgd
          · have e:a=at':=by omega
            subst e
            rw[eo] at hi
            cases hi
            by_cases hb:b<pc
            · exact hb6 b j hab hb hj hgd
            · exact absurd hgd (hno b j (by omega) hj)
        by_cases hpc:pc<row.length
        · obtain⟨oth,hoth⟩:∃o,row[pc]?=some o:=⟨_,List.getElem?_eq_getElem hpc⟩
          have othl:=rin hoth
          obtain⟨u,hu⟩:=SPA othl
          obtain⟨b0,hb0⟩:=HPA othl
          have IR:Pu (tOp (iE K) (cm 3) (cm 7)) [some (.ref l),some (.ref d1),some (.ref d2),some (.ref D3),some (.ref pl),some (.int at'),some (.int one),some (.int pc),c6] H6 (.int oth):=bp (ah rfl) (ah rfl) (SqL.of r6) (bA (by rw[List.getElem?_map,hoth];rfl))
          obtain⟨vs1,q1,e1,e2,e3⟩:=i16.at hu
          obtain⟨vs2,q2,e4,e5,e6⟩:=i16.at hs
          rw[e1] at e4
          cases e4
          refine⟨_,dR (bM (em (ah rfl) (bD (ar (ah rfl) aB) (SqL.of r6)))) fun _=>bM (sM (aw (bp (ah rfl) IR (SqL.of e1) (bA e2)) pu_c (SqT.of e3) rfl) (aw (bp (ah rfl) (ah rfl) (SqL.of e1) (bA e5)) pu_c (SqT.of e6) rfl)),fun e=>?_,fun e=>?_⟩
          · have us:u.1<=s.2:=by
              rw[Bool.and_eq_true] at e
              exact of_decide_eq_true e.2
            refine bH IR ?_
            obtain⟨vs3,q3,f1,f2,f3⟩:=i26.at hb0
            obtain⟨vs4,q4,f4,f5,f6⟩:=i26.at ha0
            rw[f1] at f4
            cases f4
            have noth:one≠oth:=fun e=>by
              subst e
              have:=(List.getElem?_inj atl rnd).mp (eo.trans hoth.symm)
              omega
            have MORE:∀{H7:Hp} {prs7:List (Int×Int)},Kp H7 prs7->(∀c∈prs6,c∈prs7)->prs7.length<=prs6.length+1->(j3 sp hp one oth->((one:Int),(oth:Int))∈prs7)->(∃(pc':Nat) (prs:List (Int×Int)) (c4:Option V),([some (V.ref l),some (.ref d1),some (.ref d2),some (.ref D3),some (.ref pl),some (.int at'),some (.int one),some (.int ((pc:Int)+1)),some (.int oth)]:L2.St)=[some (.ref l),some (.ref d1),some (.ref d2),some (.ref D3),some (.ref pl),some (.int at'),some (.int one),some (.int pc'),c4]/\Kp H7 prs/\at'<pc'/\pc'<=row.length/\prs.length+at'+1<=at'*xs.length+pc'/\(∀(a b i j:Nat),a<at'->a<b->row[a]?=some i->row[b]?=some j->j3 sp hp i j->((i:Int),(j:Int))∈prs)/\∀(b j:Nat),at'<b->b<pc'->row[b]?=some j->j3 sp hp one j->((one:Int),(j:Int))∈prs):=fun {H7 prs7} k7 sub hl7 hgo=>by
              refine⟨pc+1,prs7,_,rfl,k7,by omega,by omega,by omega,fun a b i j ha hab hi hj hgd=>sub _ (hg6 a b i j ha hab hi hj hgd),fun b j hb1 hb2 hj hgd=>?_⟩
              by_cases e:b<pc
              · exact sub _ (hb6 b j hb1 e hj hgd)
              · have e:b=pc:=by omega
                subst e
                rw[hoth] at hj
                cases hj
                exact hgo hgd
            have ME:∀{H7:Hp} {prs7:List (Int×Int)},Kp H7 prs7->(∀c∈prs6,c∈prs7)->prs7.length<=prs6.length+1->(j3 sp hp one oth->((one:Int),(oth:Int))∈prs7)->_:=@MORE
            refine cn (dR (bM (sM (aw (bp (ah rfl) (ah rfl) (SqL.of f1) (bA f2)) pu_c (SqT.of f3) rfl) (aw (bp (ah rfl) (ah rfl) (SqL.of f1) (bA f5)) pu_c (SqT.of f6) rfl))) fun _=>bM (sM (aw (bp (ah rfl) (ah rfl) (SqL.of f1) (bA f5)) pu_c (SqT.of f6) rfl) (aw (bp (ah rfl) (ah rfl) (SqL.of f1) (bA f2)) pu_c (SqT.of f3) rfl))) (fun e'=>?_) fun e'=>?_
            · obtain⟨g1,ys6,g2,g3,g4⟩:=id kp6
              refine cQ (xs:=ys6) (R:=fun v H7=>∃q,H6 q=none/\v=.ref q/\H7=upd H6 q (.tup [.int one,.int oth])) (ah rfl) g2 (cx (ar (ah rfl) (ar (ah rfl) aB)) (by show 2<=sizeLine;decide)) ?_
              rintro _ _ ⟨q,hq,rfl,rfl⟩
              have sq:Same H6 (upd H6 q (.tup [.int one,.int oth])):=Same.upd hq
              have g2':=sq _ _ g2
              have yl:ys6.length=prs6.length:=by rw[g3.len,List.length_map]
              refine⟨ys6,g2',?_,?_⟩
              · refine Nat.lt_of_le_of_lt (?_:ys6.length<=1000) (by decide)
                have:at'*xs.length<=8*8:=Nat.mul_le_mul (by omega) n8
                omega
              · refine fC (cv (ah rfl) pu_c) ⟨ME (prs7:=prs6++[((one:Int),(oth:Int))]) ⟨(g1.trans sq.b).trans SameB.upd,_,ak,?_,fun c hc=>?_⟩ (fun c hc=>List.mem_append_left _ hc) (by simp) (fun _=>List.mem_append_right _ (List.mem_singleton.mpr rfl)),?_⟩
                · rw[List.map_append]
                  exact (TupsT.snoc (g3.mono fun _ _ t=>t.same sq) ⟨q,rfl,ak⟩).lstUpd g2'
                · rcases List.mem_append.mp hc with hc|hc
                  · exact g4 c hc
                  · exact⟨one,oth,List.mem_singleton.mp hc,onel,othl,noth⟩
                · show row.length - (((pc:Int)+1)).toNat<row.length - (pc:Int).toNat
                  omega
            · refine fC (cv (ah rfl) pu_c) ⟨ME kp6 (fun _ h=>h) (Nat.le_succ _) (fun ⟨s',u',a',b',k1,k2,k3,k4,k5,k6,k7⟩=>?_),?_⟩
              · rw[ha0] at k3
                rw[hb0] at k4
                cases k3
                cases k4
                rw[decide_eq_true k6,decide_eq_true k7] at e'
                cases e'
              · show row.length - (((pc:Int)+1)).toNat<row.length - (pc:Int).toNat
                omega
          · refine LV kp6 fun b j hb hj ⟨s',u',a',b',k1,k2,k3,k4,k5,k6,k7⟩=>?_
            rw[hs] at k1
            cases k1
            have hlt:decide ((pc:Int)<((row.map fun (i:Nat)=>V.int i).length:Int))=true:=decide_eq_true (by rw[List.length_map];omega)
            rw[hlt,Bool.true_and] at e
            have us:s.2<u.1:=by have:=of_decide_eq_false e;omega
            have:u.1<=u'.1:=by
              by_cases eb:b=pc
              · subst eb
                rw[hoth] at hj
                cases hj
                rw[hu] at k2
                cases k2
                omega
              · have lb:=(List.getElem?_eq_some_iff.mp hj)
                have lp:=(List.getElem?_eq_some_iff.mp hoth)
                have:=List.pairwise_iff_getElem.mp srt pc b lp.1 lb.1 (by omega)
                rw[lp.2,lb.2] at this
                simpa [List.getD,hu,k2] using this
            omega
        · refine⟨false,dR (b:=false) (c:=true) (bM (eH (em (ah rfl) (bD (ar (ah rfl) aB) (SqL.of r6))) (by rw[decide_eq_false (by rw[List.length_map];omega)]))) (fun e=>by cases e),(fun e=>by cases e),fun _=>?_⟩
          exact LV kp6 fun b j hb hj=>by
            have:=(List.getElem?_eq_some_iff.mp hj).1
            omega
    · rintro σ H' ⟨prs,kp,hlen,⟨c1,c2,c3,c4,rfl⟩,hgood⟩
      obtain⟨g1,ys6,g2,g3,g4⟩:=id kp
      rw[List.length_map] at hlen hgood
      refine bL (ah rfl) (k pl H' prs hplH npP (fun b o hb nb=>?_) ?_ ⟨ys6,g2,g3⟩ ?_)
      · exact g1 _ _ (s4 _ _ (s3 _ _ ((s1.trans s2) _ _ hb) nb)) fun e=>by rw[e,hplH] at hb;cases hb
      · exact pz tb4 g1 ⟨_,hpl4⟩
      · refine vy (n:=900) (row:=row) (fun x hx=>?_) hsp hhp (by rw[List.length_map];exact perm) (by rw[List.length_map];rw[rl] at hlen;exact hlen) (by rw[List.length_map];exact g4) fun a b i j hab hi hj hgd=>hgood a b i j (List.getElem?_eq_some_iff.mp hi).1 hab hi hj hgd
        obtain ⟨y, hy, rfl⟩ := List.mem_map.mp hx
        exact ok y hy
theorem mv {σ:L2.St}{H:Hp}{te:TE}{D:Ends}{rest:TS}{g:TG}{tb:TS}{R:V->Hp->Prop}(he:Gv te σ H R)(hr:∀v H1,R v H1->∃(a:Addr) (xs:List V),v=.ref a/\∃Pv:Nat->L2.St->Hp->Prop,Pv 0 σ H1/\(∀i σ H,i<=xs.length->Pv i σ H->SqL K H a xs)/\
    (∀(i:Nat) x σ H,xs[i]?=some x->Pv i σ H->g x σ H fun σ2 H2=>tb { D with nx:=Pv (i+1),ct:=Pv (i+1),bk:=rest D } σ2 H2)/\(∀σ H,Pv xs.length σ H->rest D σ H)):dQ (nY (gJ K te) g tb) rest D σ H:=
  he _ fun v H1 r=>by
    obtain⟨a,xs,rfl,Pv,h0,hl,hs,hd⟩:=hr v H1 r
    exact⟨a,rfl,⟨xs,hl 0 σ H1 (Nat.zero_le _) h0⟩,jT (D:={ D with nx:=rest D }) Pv h0 hl hs hd⟩
theorem pO {rows:List (List Pt3)}{i:Nat}{r sh:List Pt3}(h:rows[i]?=some r)(q:Pt3):(∃r'∈rows.set i (r++sh),q∈r')↔(∃r'∈rows,q∈r')∨q∈sh:=by
  have hi:=(List.getElem?_eq_some_iff.mp h).1
  constructor
  · rintro⟨r',hr',hq⟩
    obtain⟨j,hj⟩:=List.getElem?_of_mem hr'
    by_cases e:i=j
    · subst e
      rw[List.getElem?_set_self hi] at hj
      cases hj
      rcases List.mem_append.mp hq with hq | hq
      · exact .inl ⟨r,List.mem_of_getElem? h,hq⟩
      · exact .inr hq
    · rw[List.getElem?_set_ne e] at hj
      exact .inl ⟨r',List.mem_of_getElem? hj,hq⟩
  · rintro (⟨r',hr',hq⟩|hq)
    · obtain⟨j,hj⟩:=List.getElem?_of_mem hr'
      by_cases e:i=j
      · subst e
        rw[h] at hj
        cases hj
        exact⟨r++sh,List.mem_of_getElem? (List.getElem?_set_self hi),List.mem_append_left _ hq⟩
      · exact⟨r',List.mem_of_getElem? (i:=j) (by rw[List.getElem?_set_ne e];exact hj),hq⟩
    · exact⟨r++sh,List.mem_of_getElem? (List.getElem?_set_self hi),List.mem_append_right _ hq⟩
theorem lh:∀{rows:List (List Pt3)} {i:Nat} {r sh:List Pt3},rows[i]?=some r->tot (rows.set i (r++sh))=tot rows+sh.length
  | [], _, _, _, h => by simp at h
  | a::l,0,r,sh,h=>by
    have e:a=r:=by simpa using h
    subst e
    simp only[List.set_cons_zero,tot,List.length_append]
    omega
  | a::l,i+1,r,sh,h=>by
    have:=lh (rows:=l) (i:=i) (r:=r) (sh:=sh) (by simpa using h)
    simp only[List.set_cons_succ,tot,this]
    omega
theorem mP {H:Hp}{as:List Addr}{rows:List (List Pt3)}{i:Nat}{a:Addr}{ys zs:List V}{r':List Pt3}(h:Paired (LP H) as rows)(nd:as.Nodup)(ha:as[i]?=some a)(hy:H a=some (.lst ys))(hl:LP (upd H a (.lst zs)) a r'):Paired (LP (upd H a (.lst zs))) as (rows.set i r'):=by
  have hlen:=bF h
  have hi:i<rows.length:=by rw[←hlen];exact (List.getElem?_eq_some_iff.mp ha).1
  refine cM (by rw[List.length_set];exact hlen) fun j b hb=>?_
  by_cases e:i=j
  · subst e
    rw[ha] at hb
    cases hb
    exact⟨r',List.getElem?_set_self hi,hl⟩
  · obtain⟨r,hr,hb'⟩:=bv h hb
    refine⟨r,by rw[List.getElem?_set_ne e];exact hr,hb'.but (fun z=>e ?_) hy SameB.upd⟩
    subst z
    exact (List.getElem?_inj (List.getElem?_eq_some_iff.mp ha).1 nd).mp (ha.trans hb.symm)
def mE (p:Addr):Sp:=fun vs H Q _=>∃l xs,vs=[.ref l]/\StL H l xs/\(∀x∈xs,OkS 900 x.1)/\xs.length<=8/\bW H p ib ie/\∀d H' rows prs ms,H d=none->d≠p->SameB p H H'->bW H' p ib ie->H' d=some (.lst (ms.map V.ref))->Paired (LP H') ms rows->(∀a∈ms,H a=none)->rO (xs.map (·.1)) prs->(∀q,(∃r∈rows,q∈r)↔im (xs.map (·.1)) prs q)->(∀r∈rows,∀q∈r,Lp q/\Sz 4000 q)->tot rows<=300->rows.length<=8->Q (.ref d) H'
theorem dL:FnScope ["strokes","marks","one","other","shared"] ["strokes"] (av du):=⟨rfl,rfl,rfl,by decide +kernel,rfl,by decide +kernel,by decide +kernel⟩
theorem mW (hB:BM base mg)(T:Txt K mg t):FnOk P w K mg base CX0 8 t.f_marks_of t.d_marks_of ["strokes"] (mE t.p_near_pairs):=by
  refine T.marks_of.F.ok (k:=7) dL (fun vs H Q E h=>?_) (fun cdv A outer s H vs Q E hr h=>?_)
  · obtain⟨l,xs,rfl,_⟩:=h
    rfl
  · obtain⟨l,xs,rfl,hst,ok,n8,tb,k⟩:=h
    refine⟨_,(@aj _ _ _ _ _ (@lQ _ 1 _ _ _ _ _ _ _ _ _ dL.nd rfl rfl (@jU _ _ _ _ _ [] _ ["stroke"] _ (fun _=>[none]) _ _ rfl (@cf _ _ _ _ (pv 0)) (fun _ _ _ _=>aM (i:=0) (List.nodup_cons.mpr ⟨fun h=>(nomatch h),List.nodup_nil⟩) rfl (Or.inl rfl) (.inr rfl)) (fun _ _ _ _=>(@cD _ _ _ _ (@ae _ _ _ _ _ (@au _ _ _ _ _ _ _ (lW (K:=K) rfl) (pv 0) (@ag _ _ _ _) (fun _ _=>rfl)) (@ae _ _ _ _ _ (@au _ _ _ _ _ _ _ (lW (K:=K) rfl) (pv 0) (@ag _ _ _ _) (fun _ _=>rfl)) (@ai _) aO) aO))) (closureFor_none (by decide +kernel)) rfl (by decide +kernel) (by decide +kernel) (fun _ _ h=>by cases h) (eK (by rfl)) (fun _ _=>rfl) (fun _ i _ _ _ h=>by cases i with | zero=>cases h | succ i=>simp at h) (by intro _;rfl)) (by rfl)) (@aj _ _ _ _ _ (@eP _ _ _ _ _ _ _ _ PassesOwn.never rfl (@cf _ _ _ _ (@aA _ _ _ _ _ _ _ _ _ _ _ _ _ _ T.near_pairs (j9 hB T) hr (by decide) (@ae _ _ _ _ _ (pv 0) (@ai _) af) (by rfl) (by decide) (by rfl) (by rfl))) (@gb _ _ _ _ _ _ rfl (@aU _ _ _ _ _ (@aM _ _ 2 _ dL.nd rfl (Or.inl rfl) (by first | exact .inl rfl | exact .inr rfl | assumption)) (@aU _ _ _ _ _ (@aM _ _ 3 _ dL.nd rfl (Or.inl rfl) (by first | exact .inl rfl | exact .inr rfl | assumption)) (@cg _) (by rfl)) (by rfl)) (by rfl) (by rfl)) (@aj _ _ _ _ _ (@aE _ _ 4 _ _ _ _ dL.nd rfl (Or.inl rfl) (@aA _ _ _ _ _ _ _ _ _ _ _ _ _ _ T.meet (vn T) hr (by decide) (@ae _ _ _ _ _ (@au _ _ _ _ _ _ _ ax (@au _ _ _ _ _ _ _ aI (pv 0) (pv 2) (fun _ _=>rfl)) (@ag _ _ _ _) (fun _ _=>rfl)) (@ae _ _ _ _ _ (@au _ _ _ _ _ _ _ ax (@au _ _ _ _ _ _ _ aI (pv 0) (pv 2) (fun _ _=>rfl)) (@ag _ _ _ _) (fun _ _=>rfl)) (@ae _ _ _ _ _ (@au _ _ _ _ _ _ _ ax (@au _ _ _ _ _ _ _ aI (pv 0) (pv 3) (fun _ _=>rfl)) (@ag _ _ _ _) (fun _ _=>rfl)) (@ae _ _ _ _ _ (@au _ _ _ _ _ _ _ ax (@au _ _ _ _ _ _ _ aI (pv 0) (pv 3) (fun _ _=>rfl)) (@ag _ _ _ _) (fun _ _=>rfl)) (@ai _) aO) aO) aO) aO) (by rfl) (by decide) (by rfl) (by rfl)) (by rfl) (by first | exact .inl rfl | exact .inr rfl | assumption)) (@aj _ _ _ _ _ (@bu _ _ _ _ (@cY _ _ _ _ _ _ _ _ _ _ _ _ PySem.F.plainAttrs_list PySem.F.slot_list_extend PySem.F.type_list_extend jM (@au _ _ _ _ _ _ _ aI (pv 1) (pv 2) (fun _ _=>rfl)) (@ae _ _ _ _ _ (pv 4) (@ai _) af) (by rfl) (by rfl) (by rfl) (by rfl) (by rfl)) (by rfl)) (@ay _ _ _ (@bu _ _ _ _ (@cY _ _ _ _ _ _ _ _ _ _ _ _ PySem.F.plainAttrs_list PySem.F.slot_list_extend PySem.F.type_list_extend jM (@au _ _ _ _ _ _ _ aI (pv 1) (pv 3) (fun _ _=>rfl)) (@ae _ _ _ _ _ (pv 4) (@ai _) af) (by rfl) (by rfl) (by rfl) (by rfl) (by rfl)) (by rfl))))) (by intro _;rfl)) (@ay _ _ _ (@aL _ _ _ _ (pv 1))))),?_⟩
    obtain⟨as,hl,pr⟩:=id hst
    have al:=bF pr
    have lal:(as.map V.ref).length=xs.length:=by rw[List.length_map];exact al
    refine aH (fz (R:=fun H i p=>∃r,(xs.map fun x=>[x.1.1,x.1.2])[i]?=some r/\LP H p r) (iq _) (ah rfl) hl (by omega) fun i x H' ex s' Q q=>?_) ?_
    · rw[List.getElem?_map] at ex
      cases ea:as[i]? with
      | none=>rw[ea] at ex;cases ex
      | some a=>
        rw[ea] at ex
        cases ex
        obtain⟨x,hxi,u,v,w,e1,e2,e3,e4⟩:=bv pr ea
        have e1':=s' _ _ e1
        refine⟨KeepS.none1,?_⟩
        exact cO (ar (aw (ah rfl) pu_c (SqT.of e1') rfl) (ar (aw (ah rfl) pu_c (SqT.of e1') rfl) aB)) (by show 2<=sizeLine;decide) _ fun w2 H2 ⟨p2,hp2,z1,z2⟩=>by
          subst z1 z2
          exact q p2 _ (Same.upd hp2) hp2 ⟨[x.1.1,x.1.2],by rw[List.getElem?_map,hxi];rfl,[u,v],ak,.cons (e2.same (s'.trans (Same.upd hp2))) (.cons (e3.same (s'.trans (Same.upd hp2))) .nil)⟩
    rintro _ H1 ⟨s1,M,ms,rfl,hM0,hM1,ml,hms,mnd⟩
    have ml':ms.length=xs.length:=by rw[ml,lal]
    have pm1:Paired (LP H1) ms (xs.map fun x=>[x.1.1,x.1.2]):=cM (by rw[List.length_map];exact ml') fun i p hp=>(hms i p hp).1
    have mfr:∀a∈ms,H a=none/\a≠M:=fun a ha=>by
      obtain⟨i,hi⟩:=List.getElem?_of_mem ha
      exact⟨(hms i a hi).2.2,(hms i a hi).2.1⟩
    have tb1:=ci tb s1
    have hP:H t.p_near_pairs≠none:=by
      obtain⟨ps,e,_⟩:=tb
      rw[e];exact fun z=>by cases z
    refine mv (R:=fun v H2=>∃d prs,v=.ref d/\H1 d=none/\SameB t.p_near_pairs H1 H2/\bW H2 t.p_near_pairs ib ie/\IpL H2 d prs/\rO (xs.map (·.1)) prs) (aX (ar (ah rfl) aB) fun Q q=>⟨l,xs,rfl,hst.same s1,ok,n8,tb1,fun d H' prs e1 _ e3 e4 e5 e6=>q _ _ ⟨d,prs,rfl,e1,e3,e4,e5,e6⟩⟩) ?_
    rintro _ H2 ⟨d,prs,rfl,hd1,s2,tb2,⟨ds,hd2,tds⟩,near⟩
    have nT:∀xs,H1 t.p_near_pairs≠some (.tup xs):=(cZ tb1).1
    have lpP:∀{a:Addr} {r:List Pt3},LP H1 a r->LP H2 a r:=fun {a r} ⟨ys,h1,h2⟩=>⟨ys,s2 _ _ h1 fun e=>(cZ tb1).2 _ (e▸h1),h2.mono fun _ _ t=>ef t s2 nT⟩
    have pm2:Paired (LP H2) ms (xs.map fun x=>[x.1.1,x.1.2]):=bz pm1 fun _ _ h=>lpP h
    have hM2:=s2 _ _ hM1 fun e=>(cZ tb1).2 _ (e▸hM1)
    have hst2:StL H2 l xs:=(hst.same s1).but s2 nT fun e=>(cZ tb).2 _ (e▸hl)
    have dl:ds.length=prs.length:=by rw[tds.len,List.length_map]
    have hdm:d∉ms/\d≠M:=by
      refine⟨fun hm=>?_,fun e=>by rw[e,hM1] at hd1;cases hd1⟩
      obtain⟨i,hi⟩:=List.getElem?_of_mem hm
      obtain⟨r,_,ys,h1,_⟩:=(hms i d hi).1
      rw[hd1] at h1;cases h1
    have on2:∀{a:Addr},a∈ms->∃ys,H2 a=some (.lst ys):=fun ha=>by
      obtain⟨i,hi⟩:=List.getElem?_of_mem ha
      obtain⟨r,_,ys,h1,_⟩:=bv pm2 hi
      exact⟨ys,h1⟩
    have npl:prs.length<=64:=by
      have:=near.1
      rw[List.length_map] at this
      have h8:xs.length*xs.length<=8*8:=Nat.mul_le_mul n8 n8
      omega
    refine⟨d,ds,rfl,fun i σ H'=>∃rows,Paired (LP H') ms rows/\FW (·∈ms) H2 H'/\tot rows<=2*xs.length+4*i/\(∀q,(∃r∈rows,q∈r)↔im (xs.map (·.1)) (prs.take i) q)/\(∀r∈rows,∀q∈r,Lp q/\Sz 4000 q)/\∃c1 c2 c3:Option V,σ=[some (.ref l),some (.ref M),c1,c2,c3],?_,?_,?_,?_⟩
    · refine⟨_,pm2,fun _ _ h _=>h,?_,fun q=>?_,fun r hr q hq=>?_,⟨_,_,_,rfl⟩⟩
      · have:∀ys:List ((Pt3×Pt3)×List Int),tot (ys.map fun x=>[x.1.1,x.1.2])=2*ys.length:=by
          intro ys
          induction ys with
          | nil=>rfl
          | cons y ys ih=>simp only[List.map_cons,tot,ih,List.length_cons,List.length_nil];omega
        rw[this];omega
      · constructor
        · rintro⟨r,hr,hq⟩
          obtain⟨x,hx,rfl⟩:=List.mem_map.mp hr
          refine .inl ⟨x.1,List.mem_map_of_mem hx,?_⟩
          simpa using hq
        · rintro (⟨s,hs,hq⟩|⟨i,j,x,y,hm,_⟩)
          · obtain⟨x,hx,rfl⟩:=List.mem_map.mp hs
            exact⟨_,List.mem_map_of_mem hx,by simpa using hq⟩
          · simp at hm
      · obtain⟨x,hx,rfl⟩:=List.mem_map.mp hr
        have o:=ok x hx
        rcases List.mem_cons.mp hq with rfl | hq
        · exact⟨o.a,o.za.mono (by decide)⟩
        · rw[List.mem_singleton.mp hq];exact⟨o.b,o.zb.mono (by decide)⟩
    · rintro i σ H' _ ⟨rows,_,fw,_⟩
      exact SqL.of (fw _ _ hd2 hdm.1)
    · rintro i x σ H' ex ⟨rows,pm,fw,ht,hmem,hok,c1,c2,c3,rfl⟩
      obtain⟨ns,hns,pa,rfl,hpa⟩:=tds.get' ex
      rw[List.getElem?_map] at hns
      cases hpi:prs[i]? with
      | none=>rw[hpi] at hns;cases hns
      | some c=>
        rw[hpi] at hns
        cases hns
        obtain⟨ii,jj,rfl,hi8,hj8,hij⟩:=near.2.1 c (List.mem_of_getElem? hpi)
        rw[List.length_map] at hi8 hj8
        have hpaM:pa∉ms:=fun hm=>by
          obtain⟨ys,e⟩:=on2 hm
          rw[hpa] at e;cases e
        have nm:∀{b:Addr} {zs:List V},H2 b=some (.tup zs)->b∉ms:=fun h hm=>by
          obtain⟨ys,e⟩:=on2 hm
          rw[h] at e;cases e
        refine tg2 (fw _ _ hpa hpaM) ?_
        obtain⟨as2,hl2,pr2⟩:=id hst2
        have nl:l∉ms:=fun hm=>by
          have:=(mfr l hm).1
          rw[hl] at this;cases this
        have hlH:=fw _ _ hl2 nl
        have ST:∀{n:Nat},n<xs.length->∃a x u v w,as2[n]?=some a/\xs[n]?=some x/\H' a=some (.tup [u,v,w])/\AtP H' u x.1.1/\AtP H' v x.1.2:=fun {n} hn=>by
          obtain⟨x,hx⟩:∃x,xs[n]?=some x:=⟨_,List.getElem?_eq_getElem hn⟩
          obtain⟨a,ha,u,v,w,e1,e2,e3,e4⟩:=dO pr2 hx
          have AT:∀{u:V} {p:Pt3},AtP H2 u p->AtP H' u p:=fun {u p} ⟨b,e,hb⟩=>⟨b,e,fw _ _ hb (nm hb)⟩
          exact⟨a,x,u,v,w,ha,hx,fw _ _ e1 (nm e1),AT e2,AT e3⟩
        obtain⟨a1,x1,u1,v1,w1,f1,f2,f3,f4,f5⟩:=ST hi8
        obtain⟨a2,x2,u2,v2,w2,g1,g2,g3,g4,g5⟩:=ST hj8
        have o1:=ok x1 (List.mem_of_getElem? f2)
        have o2:=ok x2 (List.mem_of_getElem? g2)
        have I1:∀{c3:Option V},Pu (tOp (iE K) (cm 0) (cm 2)) [some (.ref l),some (.ref M),some (.int ii),some (.int jj),c3] H' (.ref a1):=bp (ah rfl) (ah rfl) (SqL.of hlH) (bA (by rw[List.getElem?_map,f1];rfl))
        have I2:∀{c3:Option V},Pu (tOp (iE K) (cm 0) (cm 3)) [some (.ref l),some (.ref M),some (.int ii),some (.int jj),c3] H' (.ref a2):=bp (ah rfl) (ah rfl) (SqL.of hlH) (bA (by rw[List.getElem?_map,g1];rfl))
        refine aH (R:=fun v H3=>Same H' H3/\pf H3 v (cP x1.1.1 x1.1.2 x2.1.1 x2.1.2)) (aX (ar (aw I1 pu_c (SqT.of f3) rfl) (ar (aw I1 pu_c (SqT.of f3) rfl) (ar (aw I2 pu_c (SqT.of g3) rfl) (ar (aw I2 pu_c (SqT.of g3) rfl) aB)))) fun Q q=>⟨u1,v1,u2,v2,_,_,_,_,rfl,f4,f5,g4,g5,o1.za,o1.zb,o2.za,o2.zb,o2.a.pos,o2.b.pos,o2.ab,fun v H3 s h=>q _ _ ⟨s,h⟩⟩) ?_
        rintro vs H3 ⟨s3,sa,zs,rfl,hsa,tzs⟩
        have told:=iG o1.a o1.b o2.a o2.b o1.ab o2.ab
        have szm:=p8 o1.za o1.zb o2.za o2.zb o2.a o2.b o2.ab
        generalize hsh:cP x1.1.1 x1.1.2 x2.1.1 x2.1.2=sh at tzs told szm
        have shl:sh.length<=2:=told.1
        have zl:zs.length=sh.length:=by rw[tzs.len,List.length_map]
        have pm3:Paired (LP H3) ms rows:=bz pm fun _ _ h=>h.same s3
        have rl:ms.length=rows.length:=bF pm
        have hM':H' M=some (.lst (ms.map V.ref)):=fw _ _ hM2 fun hm=>(mfr M hm).2 rfl
        have hM3:=s3 _ _ hM'
        obtain⟨b1,hb1⟩:∃b,ms[ii]?=some b:=⟨_,List.getElem?_eq_getElem (by omega)⟩
        obtain⟨b2,hb2⟩:∃b,ms[jj]?=some b:=⟨_,List.getElem?_eq_getElem (by omega)⟩
        obtain⟨r1,hr1,ys1,hy1,ty1⟩:=bv pm3 hb1
        have m1:=List.mem_of_getElem? hb1
        have m2:=List.mem_of_getElem? hb2
        have y1l:ys1.length<=300:=by
          have:=io (List.mem_of_getElem? hr1)
          rw[ty1.len,List.length_map]
          have hi:=(List.getElem?_eq_some_iff.mp hpi).1
          omega
        refine uR (l:=b1) (xs:=ys1) (R:=fun v H4=>H4=H3/\v=.ref sa) (bp (ah rfl) (ah rfl) (SqL.of hM3) (bA (by rw[List.getElem?_map,hb1];rfl))) hy1 ((ah rfl).gv' ⟨rfl,rfl⟩) ?_
        rintro _ H4 ⟨rfl,rfl⟩
        refine⟨sa,ys1,zs,rfl,hy1,hsa,by omega,?_⟩
        have nsa:sa≠b1:=fun e=>by rw[e,hy1] at hsa;cases hsa
        have u4:SameB b1 H4 (upd H4 b1 (.lst (ys1++zs))):=SameB.upd
        have lp1:LP (upd H4 b1 (.lst (ys1++zs))) b1 (r1++sh):=⟨_,ak,by rw[List.map_append];exact (ty1.app tzs).lstUpd hy1⟩
        have pm4:=mP pm3 mnd hb1 hy1 lp1
        have hM4:=u4 _ _ hM3 fun e=>(mfr b1 m1).2 e.symm
        have hsa4:=u4 _ _ hsa nsa
        have tzs4:=tzs.lstUpd (ws:=ys1++zs) hy1
        generalize hH5:upd H4 b1 (.lst (ys1++zs))=H5 at u4 pm4 hM4 hsa4 tzs4
        obtain⟨r2,hr2,ys2,hy2,ty2⟩:=bv pm4 hb2
        have ht4:=lh (sh:=sh) hr1
        have y2l:ys2.length<=300:=by
          have:=io (List.mem_of_getElem? hr2)
          rw[ty2.len,List.length_map]
          have hi:=(List.getElem?_eq_some_iff.mp hpi).1
          omega
        refine si (l:=b2) (xs:=ys2) (R:=fun v H6=>H6=H5/\v=.ref sa) (bp (ah rfl) (ah rfl) (SqL.of hM4) (bA (by rw[List.getElem?_map,hb2];rfl))) hy2 ((ah rfl).gv' ⟨rfl,rfl⟩) ?_
        rintro _ H6 ⟨rfl,rfl⟩
        refine⟨sa,ys2,zs,rfl,hy2,hsa4,by omega,?_⟩
        have lp2:LP (upd H6 b2 (.lst (ys2++zs))) b2 (r2++sh):=⟨_,ak,by rw[List.map_append];exact (ty2.app tzs4).lstUpd hy2⟩
        have pm5:=mP pm4 mnd hb2 hy2 lp2
        have fin:=lh (sh:=sh) hr2
        have any2:∀q,(∃r∈(rows.set ii (r1++sh)).set jj (r2++sh),q∈r)↔(∃r∈rows,q∈r)∨q∈sh:=fun q=>by
          rw[pO hr2,pO hr1]
          exact⟨fun h=>h.elim id .inr,fun h=>.inl h⟩
        refine⟨_,pm5,?_,by omega,fun q=>?_,fun r hr q hq=>?_,⟨_,_,_,rfl⟩⟩
        · exact ((fw.trans s3.fw).trans (u4.fw m1)).trans (SameB.upd.fw m2)
        · rw[any2,hmem]
          have tk:prs.take (i+1)=prs.take i++[((ii:Int),(jj:Int))]:=by rw[List.take_succ,hpi];rfl
          rw[tk]
          have e1:(xs.map (·.1))[ii]?=some x1.1:=by rw[List.getElem?_map,f2];rfl
          have e2:(xs.map (·.1))[jj]?=some x2.1:=by rw[List.getElem?_map,g2];rfl
          constructor
          · rintro ((h|⟨i',j',x,y,hm,h⟩)|h)
            · exact .inl h
            · exact .inr ⟨i',j',x,y,List.mem_append_left _ hm,h⟩
            · exact .inr ⟨ii,jj,x1.1,x2.1,List.mem_append_right _ (List.mem_singleton.mpr rfl),e1,e2,by rw[hsh];exact h⟩
          · rintro (h|⟨i',j',x,y,hm,h1,h2,h3⟩)
            · exact .inl (.inl h)
            · rcases List.mem_append.mp hm with hm | hm
              · exact .inl (.inr ⟨i',j',x,y,hm,h1,h2,h3⟩)
              · have hm:=List.mem_singleton.mp hm
                have z1:i'=ii:=by have:(i':Int)=(ii:Int):=congrArg Prod.fst hm;omega
                have z2:j'=jj:=by have:(j':Int)=(jj:Int):=congrArg Prod.snd hm;omega
                subst z1 z2
                rw[e1] at h1
                rw[e2] at h2
                cases h1
                cases h2
                rw[hsh] at h3
                exact .inr h3
        · have hq':(∃r∈(rows.set ii (r1++sh)).set jj (r2++sh),q∈r):=⟨r,hr,hq⟩
          rw[any2] at hq'
          rcases hq' with⟨r',hr',hq'⟩|hq'
          · exact hok r' hr' q hq'
          · exact⟨(told.2.1 q hq').1,szm q hq'⟩
    · rintro σ H' ⟨rows,pm,fw,ht,hmem,hok,c1,c2,c3,rfl⟩
      rw[dl,List.take_length] at hmem
      refine bL (ah rfl) (k M H' rows prs ms hM0 (fun e=>hP (e▸hM0)) (fun b o hb nb=>?_) ?_ (fw _ _ hM2 fun hm=>(mfr M hm).2 rfl) pm (fun a ha=>(mfr a ha).1) near hmem hok (by omega) (by rw[←bF pm];omega))
      · exact fw _ _ (s2 _ _ (s1 _ _ hb) nb) fun hm=>by rw[(mfr b hm).1] at hb;cases hb
      · obtain⟨ps,e,r⟩:=tb2
        have ext:∀{b:Addr} {f:Heap->Prop},H2 b=some (.ext f)->H' b=some (.ext f):=fun h=>fw _ _ h fun hm=>by
          obtain⟨ys,z⟩:=on2 hm
          rw[h] at z;cases z
        exact⟨ps,ext e,r.imp id fun ⟨c,e1,e2⟩=>⟨c,e1,ext e2⟩⟩
def iM (p:Addr):Sp:=fun vs H Q _=>∃l xs,vs=[.ref l]/\StL H l xs/\(∀x∈xs,OkS 900 x.1)/\xs.length<=8/\bW H p ib ie/\∀d H' sp,H d=none->d≠p->SameB p H H'->bW H' p ib ie->LP H' d sp->Srt sp->(∀q,q∈sp↔gE (xs.map (·.1)) q)->sp.length<=300->(∀q∈sp,Sz 4000 q)->Q (.ref d) H'
theorem jq:∀(rows:List (List Pt3)),rows.flatten.length=tot rows
  | []=>rfl
  | r::l=>by rw[List.flatten_cons,List.length_append,jq l];rfl
theorem fV:FnScope ["strokes","spots","marks"] ["strokes"] (av dk):=⟨rfl,rfl,rfl,by decide +kernel,rfl,by decide +kernel,by decide +kernel⟩
theorem iV (hB:BM base mg)(T:Txt K mg t):FnOk P w K mg base CX0 9 t.f_spots_of t.d_spots_of ["strokes"] (iM t.p_near_pairs):=by
  refine T.spots_of.F.ok (k:=8) fV (fun vs H Q E h=>?_) (fun cdv A outer s H vs Q E hr h=>?_)
  · obtain⟨l,xs,rfl,_⟩:=h
    rfl
  · obtain⟨l,xs,rfl,hst,ok,n8,tb,k⟩:=h
    refine⟨_,(@aj _ _ _ _ _ (@aE _ _ 1 _ _ _ _ fV.nd rfl (Or.inl rfl) (@cD _ _ _ _ (@ai _)) (by rfl) (by first | exact .inl rfl | exact .inr rfl | assumption)) (@aj _ _ _ _ _ (@eP _ _ _ _ _ _ _ _ PassesOwn.never rfl (@cf _ _ _ _ (@aA _ _ _ _ _ _ _ _ _ _ _ _ _ _ T.marks_of (mW hB T) hr (by decide) (@ae _ _ _ _ _ (pv 0) (@ai _) af) (by rfl) (by decide) (by rfl) (by rfl))) (@aM _ _ 2 _ fV.nd rfl (Or.inl rfl) (by first | exact .inl rfl | exact .inr rfl | assumption)) (@ay _ _ _ (@bu _ _ _ _ (@cY _ _ _ _ _ _ _ _ _ _ _ _ PySem.F.plainAttrs_list PySem.F.slot_list_extend PySem.F.type_list_extend kH (pv 1) (@ae _ _ _ _ _ (pv 2) (@ai _) af) (by rfl) (by rfl) (by rfl) (by rfl) (by rfl)) (by rfl))) (by intro _;rfl)) (@ay _ _ _ (@aL _ _ _ _ (@aA _ _ _ _ _ _ _ _ _ _ _ _ _ _ T.in_order (gg T) hr (by decide) (@ae _ _ _ _ _ (pv 1) (@ai _) af) (by rfl) (by decide) (by rfl) (by rfl)))))),?_⟩
    refine aH (cO aB (by show 0<=sizeLine;decide)) ?_
    rintro _ _ ⟨S,hS0,rfl,rfl⟩
    have s1:Same H (upd H S (.lst [])):=Same.upd hS0
    have hS1:(upd H S (.lst [])) S=some (.lst []):=ak
    have tb1:=ci tb s1
    have hst1:=hst.same s1
    have nSP:S≠t.p_near_pairs:=fun e=>by
      obtain⟨ps,z,_⟩:=tb
      rw[←e,hS0] at z;cases z
    generalize upd H S (.lst [])=H1 at s1 hS1 tb1 hst1 ⊢
    refine mv (R:=fun v H2=>∃d rows prs ms,v=.ref d/\H1 d=none/\SameB t.p_near_pairs H1 H2/\bW H2 t.p_near_pairs ib ie/\H2 d=some (.lst (ms.map V.ref))/\Paired (LP H2) ms rows/\(∀a∈ms,H1 a=none)/\rO (xs.map (·.1)) prs/\(∀q,(∃r∈rows,q∈r)↔im (xs.map (·.1)) prs q)/\(∀r∈rows,∀q∈r,Lp q/\Sz 4000 q)/\tot rows<=300/\rows.length<=8) (aX (ar (ah rfl) aB) fun Q q=>⟨l,xs,rfl,hst1,ok,n8,tb1,fun d H' rows prs ms e1 _ e3 e4 e5 e6 e7 e8 e9 e10 e11 e12=>q _ _ ⟨d,rows,prs,ms,rfl,e1,e3,e4,e5,e6,e7,e8,e9,e10,e11,e12⟩⟩) ?_
    rintro _ H2 ⟨d,rows,prs,ms,rfl,hd0,s2,tb2,hd2,pm,mfr,near,hmem,hok,ht,r8⟩
    have hS2:=s2 _ _ hS1 nSP
    have nSd:d≠S:=fun e=>by rw[e,hS1] at hd0;cases hd0
    have ml:=bF pm
    refine⟨d,ms.map V.ref,rfl,fun i σ H'=>SameB S H2 H'/\(∃ys,H' S=some (.lst ys)/\TupsT H' ys ((rows.take i).flatten.map L3))/\∃c:Option V,σ=[some (.ref l),some (.ref S),c],?_,?_,?_,?_⟩
    · exact⟨SameB.refl _ _,⟨[],hS2,.nil⟩,⟨_,rfl⟩⟩
    · rintro i σ H' _ ⟨sb,_⟩
      exact SqL.of (sb _ _ hd2 nSd)
    · rintro i x σ H' ex ⟨sb,⟨ys,hS',ty⟩,c,rfl⟩
      rw[List.getElem?_map] at ex
      cases ea:ms[i]? with
      | none=>rw[ea] at ex;cases ex
      | some a=>
        rw[ea] at ex
        cases ex
        obtain⟨r,hr,zs,hz,tz⟩:=bv pm ea
        have tk:rows.take (i+1)=rows.take i++[r]:=by rw[List.take_succ,hr];rfl
        have yl:ys.length<=300:=by
          rw[ty.len,List.length_map,jq]
          have:∀(l:List (List Pt3)) (n:Nat),tot (l.take n)<=tot l:=by
            intro l
            induction l with
            | nil=>intro n;simp
            | cons a l ih=>
              intro n
              cases n with
              | zero=>simp[tot]
              | succ n=>simp only[List.take_succ_cons,tot];have:=ih n;omega
          have:=this rows i
          omega
        have zl:zs.length<=300:=by
          rw[tz.len,List.length_map]
          have:=io (List.mem_of_getElem? hr)
          omega
        have naS:a≠S:=fun e=>by
          have:=mfr a (List.mem_of_getElem? ea)
          rw[e,hS1] at this;cases this
        have hz':=sb _ _ hz naS
        have tz':TupsT H' zs (r.map L3):=tz.mono fun _ _ t=>t.sameB sb hS2
        refine sj (l:=S) (xs:=ys) (R:=fun v H3=>H3=H'/\v=.ref a) (ah rfl) hS' ((ah rfl).gv' ⟨rfl,rfl⟩) ?_
        rintro _ H3 ⟨rfl,rfl⟩
        refine⟨a,ys,zs,rfl,hS',hz',by omega,sb.trans SameB.upd,⟨_,ak,?_⟩,⟨_,rfl⟩⟩
        rw[tk,List.flatten_append,List.map_append]
        simp only[List.flatten_cons,List.flatten_nil,List.append_nil]
        exact (ty.app tz').lstUpd hS'
    · rintro σ H' ⟨sb,⟨ys,hS',ty⟩,c,rfl⟩
      rw[List.length_map,ml,List.take_length] at ty
      have mem:∀q,q∈rows.flatten↔∃r∈rows,q∈r:=fun q=>List.mem_flatten
      have lps:∀q∈rows.flatten,Lp q/\Sz 4000 q:=fun q hq=>by
        obtain⟨r,hr,hq⟩:=(mem q).mp hq
        exact hok r hr q hq
      obtain⟨g1,g2⟩:=cV fun q hq=>(lps q hq).1
      have fl:rows.flatten.length<=300:=by rw[jq];exact ht
      refine bn (R:=fun v H3=>∃r,v=.ref r/\H' r=none/\Same H' H3/\LP H3 r (bo rows.flatten)) (aX (ar (ah rfl) aB) fun Q q=>⟨S,_,rfl,⟨ys,hS',ty⟩,fun q hq=>(lps q hq).1,fun q hq=>(lps q hq).2,fl,fun r H3 a b c=>q _ _ ⟨r,rfl,a,b,c⟩⟩) ?_
      rintro _ H3 ⟨r,rfl,hr0,s3,hr3⟩
      have up:∀b o,H b=some o->b≠t.p_near_pairs->H' b=some o:=fun b o hb nb=>sb _ _ (s2 _ _ (s1 _ _ hb) nb) fun e=>by rw[e,hS0] at hb;cases hb
      have tbH:=pz tb2 sb ⟨_,hS2⟩
      have nrP:r≠t.p_near_pairs:=fun e=>by
        obtain⟨ps,z,_⟩:=tbH
        rw[←e,hr0] at z;cases z
      refine k r H3 _ ?_ nrP (fun b o hb nb=>s3 _ _ (up b o hb nb)) (ci tbH s3) hr3 g1 (fun q=>?_) (Nat.le_trans (gr _) fl) fun q hq=>(lps q ((g2 q).mp hq)).2
      · cases e:H r with
        | none=>rfl
        | some o=>rw[up r o e nrP] at hr0;cases hr0
      · rw[g2,mem,hmem]
        exact sT (n:=900) (fun x hx=>by obtain⟨y,hy,rfl⟩:=List.mem_map.mp hx;exact ok y hy) near q
open Classical in
noncomputable def fJ (a b:Pt3)(ps:List Pt3):List Pt3:=if ahd a b=true then bo (ps.filter fun z=>onB z a b) else (bo (ps.filter fun z=>onB z a b)).reverse
theorem fQ {H:Hp}{b:V->Bool}{f:Pt3->Bool}:∀{xs:List V} {ps:List Pt3},TupsT H xs (ps.map L3)->(∀x z,AtP H x z->b x=f z)->TupsT H (xs.filter b) ((ps.filter f).map L3)
  | [],[],_,_=>.nil
  | x::xs,p::ps,.cons h t,g=>by
    have e:=g x p h
    have:=fQ (xs:=xs) (ps:=ps) t g
    rw[List.filter_cons,List.filter_cons,e]
    split
    · exact .cons h this
    · exact this
open Classical in
noncomputable def onV (H:Hp)(a b:Pt3)(v:V):Bool:=if ∃z,AtP H v z/\onB z a b=true then true else false
theorem vO {H:Hp}{v:V}{p q:Pt3}(h1:AtP H v p)(h2:AtP H v q):p=q:=by
  obtain⟨a,rfl,ha⟩:=h1
  obtain⟨b,e,hb⟩:=h2
  cases e
  rw[ha] at hb
  cases p
  cases q
  simp at hb
  simp[hb]
theorem lV {H:Hp}{a b z:Pt3}{v:V}(h:AtP H v z):onV H a b v=onB z a b:=by
  unfold onV
  cases e:onB z a b with
  | true=>rw[if_pos ⟨z,h,e⟩]
  | false=>
    rw[if_neg]
    rintro⟨w,hw,e'⟩
    rw[vO hw h,e] at e'
    cases e'
def qH:Sp:=fun vs H Q _=>∃vp vq l a b ps,vs=[vp,vq,.ref l]/\AtP H vp a/\AtP H vq b/\LP H l ps/\(∀p∈ps,Lp p/\Sz 4000 p)/\Sz 4000 a/\Sz 4000 b/\ps.length<=300/\∀r H',H r=none->Same H H'->LP H' r (fJ a b ps)->Q (.ref r) H'
theorem kw:FnScope ["p","q","points","row"] ["p","q","points"] (av fh):=⟨rfl,rfl,rfl,by decide +kernel,rfl,by decide +kernel,by decide +kernel⟩
theorem kG (T:Txt K mg t):FnOk P w K mg base CX0 5 t.f_cut_at t.d_cut_at ["p","q","points"] qH:=by
  refine T.cut_at.F.ok (k:=4) kw (fun vs H Q E h=>?_) (fun cdv A outer s H vs Q E hr h=>?_)
  · obtain⟨vp,vq,l,a,b,ps,rfl,_⟩:=h
    rfl
  · obtain⟨vp,vq,l,a,b,ps,rfl,ha,hb,⟨us,hl,tu⟩,ok,za,zb,np,k⟩:=h
    refine⟨_,(@aj _ _ _ _ _ (@aE _ _ 3 _ _ _ _ kw.nd rfl (Or.inl rfl) (@aA _ _ _ _ _ _ _ _ _ _ _ _ _ _ T.in_order (gg T) hr (by decide) (@ae _ _ _ _ _ (jG (x:="z") [("q",_,1),("p",_,0)] rfl (@cf _ _ _ _ (pv 2)) (fun _ _ _ _=>aM (i:=0) (show (["z","q","p"]:List Str).Nodup from by decide +kernel) rfl (Or.inl rfl) (.inr rfl)) (fun _ _ _ _=>(@cH _ _ _ (@aA _ _ _ _ _ _ _ _ _ _ _ _ _ _ T.lies_on (oF T) hr (by decide) (@ae _ _ _ _ _ (pv 0) (@ae _ _ _ _ _ (pv 2) (@ae _ _ _ _ _ (pv 1) (@ai _) af) af) af) (by rfl) (by decide) (by rfl) (by rfl)) (by intro _;rfl))) (fun _ _ _ _=>(pv 0)) rfl rfl (by decide +kernel) (by decide +kernel) (Caught.cons (And.intro rfl (And.intro rfl (And.intro rfl rfl))) (Caught.cons (And.intro rfl (And.intro rfl (And.intro rfl rfl))) Caught.nil)) rfl) (@ai _) fB) (by rfl) (by decide) (by rfl) (by rfl)) (by rfl) (by first | exact .inl rfl | exact .inr rfl | assumption)) (@ay _ _ _ (@aL _ _ _ _ (@eA _ _ _ _ _ _ _ _ (@cH _ _ _ (@aA _ _ _ _ _ _ _ _ _ _ _ _ _ _ T.is_ahead (bI T) hr (by decide) (@ae _ _ _ _ _ (pv 0) (@ae _ _ _ _ _ (pv 1) (@ai _) af) af) (by rfl) (by decide) (by rfl) (by rfl)) (by intro _;rfl)) (pv 3) (ow rfl (by rfl) T.b_list (by rfl) T.b_reversed (pv 3) rfl rfl rfl rfl))))),?_⟩
    have ul:us.length=ps.length:=by rw[tu.len,List.length_map]
    have okf:∀p∈ps.filter (fun z=>onB z a b),Lp p/\Sz 4000 p:=fun p hp=>ok p (List.mem_filter.mp hp).1
    refine aH (R:=fun v H1=>∃r,v=.ref r/\H r=none/\Same H H1/\LP H1 r (bo (ps.filter fun z=>onB z a b))) (bR (RA:=fun vs H1=>∃c,vs=[.ref c]/\Same H H1/\LP H1 c (ps.filter fun z=>onB z a b)) (fun Q q=>?_) fun vs H1 z Q q=>?_) ?_
    · dsimp only[bG,df]
      refine kO (σ:=[some vp,some vq,some (.ref l),none]) (tl:=cm 2) (onV H a b) (ah rfl) hl (by omega) ?hk ?h0 ?hs _ ?fin
      case hk=>exact fun x=>KeepS.cons (KeepS.refl _) (some x)
      case h0=>exact fun x=>rfl
      case hs=>
        intro x hx H' s'
        obtain⟨i,hi⟩:=List.getElem?_of_mem hx
        obtain⟨ns,hns,tx⟩:=tu.get' hi
        rw[List.getElem?_map] at hns
        cases hp:ps[i]? with
        | none=>rw[hp] at hns;cases hns
        | some p=>
          rw[hp] at hns
          cases hns
          have o:=ok p (List.mem_of_getElem? hp)
          have e:onV H a b x=onB p a b:=lV tx
          rw[e]
          refine (xx (R:=fun v H2=>v=.bl (onB p a b)/\Same H' H2) (aX (ar (ah rfl) (ar (ah rfl) (ar (ah rfl) aB))) fun Q q=>⟨x,vp,vq,p,a,b,rfl,tx.same s',ha.same s',hb.same s',o.2,za,zb,fun H2 s=>q _ _ ⟨rfl,s⟩⟩) (fun v H2 r=>⟨_,r.1⟩)).imp fun c H2 r=>⟨by have:=r.1;cases this;rfl,r.2⟩
      case fin=>
        rintro v H1 ⟨D,hD,rfl,s1,hD1⟩
        refine q _ _ ⟨D,rfl,s1,_,hD1,?_⟩
        exact (fQ tu fun x z hz=>lV hz).mono fun _ _ t=>t.same s1
    · obtain⟨c,rfl,s1,hc⟩:=z
      exact⟨c,_,rfl,hc,fun p hp=>(okf p hp).1,fun p hp=>(okf p hp).2,Nat.le_trans (List.length_filter_le _ _) np,fun r H' e1 e2 e3=>q _ _ ⟨r,rfl,bK s1 e1,s1.trans e2,e3⟩⟩
    rintro _ H1 ⟨r,rfl,hr0,s1,hr1⟩
    refine bn (R:=fun v H2=>∃r,v=.ref r/\H r=none/\Same H H2/\LP H2 r (fJ a b ps)) (gR (gM (cu (ar (ah rfl) (ar (ah rfl) aB)) fun Q f=>⟨vp,vq,a,b,rfl,ha.same s1,hb.same s1,za,zb,f⟩)) (fun e=>?_) fun e=>?_) fun v H2 z=>by obtain⟨r,rfl,e1,e2,e3⟩:=z;exact k r H2 e1 e2 e3
    · refine (ah rfl).gv' ⟨r,rfl,hr0,s1,?_⟩
      unfold fJ
      rw[if_pos e]
      exact hr1
    · obtain⟨ys,hy,ty⟩:=hr1
      refine fun Q q=>ah rfl _ ⟨r,ys,rfl,hy,fun p hp=>q _ _ ⟨p,rfl,bK s1 hp,s1.trans (Same.upd hp),ys.reverse,ak,?_⟩⟩
      unfold fJ
      rw[if_neg (by rw[e];decide),List.map_reverse]
      exact (ty.mono fun _ _ t=>t.same (Same.upd hp)).reverse
def qG (K:PySem.W.Frag):Sp:=fun vs H Q _=>∃(a:Addr) (ns:List Int),vs=[.ref a]/\SqL K H a (ns.map V.int)/\∀hd sc H',Same H H'->H hd=none->HandAt H' hd sc->Q (.ref hd) H'
theorem qP:FnScope ["_law_script"] ["_law_script"] (av ff):=⟨rfl,rfl,rfl,by decide +kernel,rfl,by decide +kernel,by decide +kernel⟩
theorem qX (T:Txt K mg t):FnOk P w K mg base CX0 1 t.f_l_hand t.d_l_hand ["_law_script"] (qG K):=by
  refine T.l_hand.F.ok (k:=0) qP (fun vs H Q E h=>?_) (fun cdv A outer s H vs Q E hr h=>?_)
  · obtain⟨a,ns,rfl,_⟩:=h
    rfl
  · obtain⟨a,ns,rfl,hS,k⟩:=h
    refine⟨_,(@ay _ _ _ (@aL _ _ _ _ (@cD _ _ _ _ (@ae _ _ _ _ _ (@cC _ _ _ _ _ _ _ _ _ fK (by rfl) T.b_list PyProof.Rows.boot_list (@ae _ _ _ _ _ (@eu _ _ _ _ _ _ _ _ _ _ lH (pv 0) (@cw _) (@cE _ _ _ (@ag _ _ _ _))) (@ai _) aO) (by decide) (by decide) (by rfl) (by rfl)) (@ae _ _ _ _ _ (@ag _ _ _ _) (@ae _ _ _ _ _ (@ag _ _ _ _) (@ae _ _ _ _ _ (@ag _ _ _ _) (@ae _ _ _ _ _ (@ag _ _ _ _) (@ae _ _ _ _ _ (@ag _ _ _ _) (@ai _) aT) aT) aT) aT) aT) aK)))),?_⟩
    refine⟨_,rfl,63,rfl,a,_,rfl,hS,fun p hp=>?_⟩
    refine⟨p,_,rfl,.inl (SqL.of ak),fun l hl=>⟨by show 6<=sizeLine;decide,fun hd hh=>?_⟩⟩
    have s1:Same H (upd H p (.lst (iI (ns.map V.int) none (some 63)))):=Same.upd hp
    have s2:Same (upd H p (.lst (iI (ns.map V.int) none (some 63)))) _:=Same.upd (o:=.lst (iI (ns.map V.int) none (some 63))) hl
    have s3:=s1.trans (s2.trans (Same.upd (o:=.lst [.ref l,.int 0,.int 0,.int 0,.int 20011,.int 40009]) hh))
    refine k hd l _ s3 (s1.free (s2.free hh)) ⟨(ns.drop (HT.sIx (ns.map V.int).length 0 none)).take (HT.sIx (ns.map V.int).length (ns.map V.int).length (some 63) - HT.sIx (ns.map V.int).length 0 none),0,0,0,20011,40009,ak,?_,by decide⟩
    rw[aF (aV ak hh),ak,List.map_take,List.map_drop]
    rfl
def kq:Sp:=fun vs H Q _=>∃hd sc,vs=[.ref hd]/\HandAt H hd sc/\∀(n:Int) H',HandAt H' hd sc->SameB hd H H'->Q (.int n) H'
theorem qO:FnScope ["_law_hand_here"] ["_law_hand_here"] (av fc):=⟨rfl,rfl,rfl,by decide +kernel,rfl,by decide +kernel,by decide +kernel⟩
theorem gz (T:Txt K mg t):FnOk P w K mg base CX0 1 t.f_l_next t.d_l_next ["_law_hand_here"] kq:=by
  refine T.l_next.F.ok (k:=0) qO (fun vs H Q E h=>?_) (fun cdv A outer s H vs Q E hr h=>?_)
  · obtain⟨hd,sc,rfl,_⟩:=h
    rfl
  · obtain⟨hd,sc,rfl,⟨ns,i,b,c,p,q,h1,h2,h0⟩,k⟩:=h
    have nsc:=HandAt.ne h1 h2
    refine⟨_,(@aj _ _ _ _ _ (@dD _ _ _ _ _ _ (@az _ _ _ _ _ _ _ _ de (@az _ _ _ _ _ _ _ _ aD (@au _ _ _ _ _ _ _ aI (pv 0) (@ag _ _ _ _) (fun _ _=>rfl)) (@ag _ _ _ _)) (@ag _ _ _ _)) (@gN _ _ _ _ _ _ _ (pv 0) (@ag _ _ _ _) da (by intro _;rfl)) (by rfl) (by rfl) (by rfl)) (@aj _ _ _ _ _ (@dD _ _ _ _ _ _ (@az _ _ _ _ _ _ _ _ de (@az _ _ _ _ _ _ _ _ aD (@au _ _ _ _ _ _ _ aI (pv 0) (@ag _ _ _ _) (fun _ _=>rfl)) (@ag _ _ _ _)) (@ag _ _ _ _)) (@gN _ _ _ _ _ _ _ (pv 0) (@ag _ _ _ _) da (by intro _;rfl)) (by rfl) (by rfl) (by rfl)) (@ay _ _ _ (@aL _ _ _ _ (@az _ _ _ _ _ _ _ _ bP (@au _ _ _ _ _ _ _ aI (pv 0) (@ag _ _ _ _) (fun _ _=>rfl)) (@au _ _ _ _ _ _ _ aI (pv 0) (@ag _ _ _ _) (fun _ _=>rfl))))))),?_⟩
    refine jt (ek (aJ (bp (ah rfl) pu_c (SqL.of h1) rfl) pu_c (IntMulOk.of_right (by decide))) pu_c (by decide)) (ah rfl) pu_c h1 rfl ?_
    refine jt (ek (aJ (bp (ah rfl) pu_c (SqL.of ak) rfl) pu_c (IntMulOk.of_right (by decide))) pu_c (by decide)) (ah rfl) pu_c ak rfl ?_
    refine bL (cv (bp (ah rfl) pu_c (SqL.of ak) rfl) (bp (ah rfl) pu_c (SqL.of ak) rfl)) ?_
    exact k _ _ ⟨ns,i,b,c,_,_,ak,by rw[aF nsc,aF nsc];exact h2,h0⟩ (SameB.upd.trans SameB.upd)
def qD:Sp:=fun vs H Q _=>∃hd sc,vs=[.ref hd]/\HandAt H hd sc/\∀H',HandAt H' hd sc->SameB hd H H'->Q .non H'
theorem iy:FnScope ["_law_hand_here","_law_cell"] ["_law_hand_here"] (av eY):=⟨rfl,rfl,rfl,by decide +kernel,rfl,by decide +kernel,by decide +kernel⟩
theorem qW (T:Txt K mg t):FnOk P w K mg base CX0 2 t.f_l_take t.d_l_take ["_law_hand_here"] qD:=by
  refine T.l_take.F.ok (k:=1) iy (fun vs H Q E h=>?_) (fun cdv A outer s H vs Q E hr h=>?_)
  · obtain⟨hd,sc,rfl,_⟩:=h
    rfl
  · obtain⟨hd,sc,rfl,⟨ns,i,b,c,p,q,h1,h2,h0⟩,k⟩:=h
    have nsc:=HandAt.ne h1 h2
    refine⟨_,(@aj _ _ _ _ _ (@aE _ _ 1 _ _ _ _ iy.nd rfl (Or.inl rfl) (@ag _ _ _ _) (by rfl) (by first | exact .inl rfl | exact .inr rfl | assumption)) (@aj _ _ _ _ _ (@bB _ _ _ _ _ _ _ _ (@aG _ _ _ _ _ _ _ _ eJ (@au _ _ _ _ _ _ _ aI (pv 0) (@ag _ _ _ _) (fun _ _=>rfl)) (@aY _ _ _ _ _ _ _ _ _ aS (by rfl) T.b_len PySem.boot_len (@ae _ _ _ _ _ (@au _ _ _ _ _ _ _ aI (pv 0) (@ag _ _ _ _) (fun _ _=>rfl)) (@ai _) aO) (by decide) (by decide) (by rfl) (by rfl)) (aQ _)) (@ay _ _ _ (@aE _ _ 1 _ _ _ _ iy.nd rfl (Or.inl rfl) (@aY _ _ _ _ _ _ _ _ _ gh (by rfl) T.b_abs PyProof.Rows.boot_abs (@ae _ _ _ _ _ (@au _ _ _ _ _ _ _ aI (@au _ _ _ _ _ _ _ aI (pv 0) (@ag _ _ _ _) (fun _ _=>rfl)) (@au _ _ _ _ _ _ _ aI (pv 0) (@ag _ _ _ _) (fun _ _=>rfl)) (fun _ _=>rfl)) (@ai _) aO) (by decide) (by decide) (by rfl) (by rfl)) (by rfl) (by first | exact .inl rfl | exact .inr rfl | assumption))) (@be _)) (@aj _ _ _ _ _ (@pS _ _ _ _ _ _ _ _ _ _ _ _ _ (pv 0) (@ag _ _ _ _) nA (@ag _ _ _ _) wR da (by intros;rfl)) (@aj _ _ _ _ _ (@bB _ _ _ _ _ _ _ _ (@aG _ _ _ _ _ _ _ _ xq (pv 1) (@az _ _ _ _ _ _ _ _ eB (@ag _ _ _ _) (@ag _ _ _ _)) (aQ _)) (@ay _ _ _ (@dD _ _ _ _ _ _ (pv 1) (@gN _ _ _ _ _ _ _ (pv 0) (@ag _ _ _ _) da (by intro _;rfl)) (by rfl) (by rfl) (by rfl))) (@ay _ _ _ (@dD _ _ _ _ _ _ (@ag _ _ _ _) (@gN _ _ _ _ _ _ _ (pv 0) (@ag _ _ _ _) da (by intro _;rfl)) (by rfl) (by rfl) (by rfl)))) (@aj _ _ _ _ _ (@dD _ _ _ _ _ _ (@az _ _ _ _ _ _ _ _ bP (@az _ _ _ _ _ _ _ _ de (@az _ _ _ _ _ _ _ _ bP (@au _ _ _ _ _ _ _ aI (pv 0) (@ag _ _ _ _) (fun _ _=>rfl)) (@az _ _ _ _ _ _ _ _ de (pv 1) (@ag _ _ _ _))) (@ag _ _ _ _)) (@ag _ _ _ _)) (@gN _ _ _ _ _ _ _ (pv 0) (@ag _ _ _ _) da (by intro _;rfl)) (by rfl) (by rfl) (by rfl)) (@aj _ _ _ _ _ (@dD _ _ _ _ _ _ (@az _ _ _ _ _ _ _ _ bP (@az _ _ _ _ _ _ _ _ de (@az _ _ _ _ _ _ _ _ bP (@az _ _ _ _ _ _ _ _ aD (@au _ _ _ _ _ _ _ aI (pv 0) (@ag _ _ _ _) (fun _ _=>rfl)) (@ag _ _ _ _)) (@az _ _ _ _ _ _ _ _ de (pv 1) (@ag _ _ _ _))) (@ag _ _ _ _)) (@ag _ _ _ _)) (@gN _ _ _ _ _ _ _ (pv 0) (@ag _ _ _ _) da (by intro _;rfl)) (by rfl) (by rfl) (by rfl)) (@aj _ _ _ _ _ (@bu _ _ _ _ (@aA _ _ _ _ _ _ _ _ _ _ _ _ _ _ T.l_next (gz T) hr (by decide) (@ae _ _ _ _ _ (pv 0) (@ai _) af) (by rfl) (by decide) (by rfl) (by rfl)) (by rfl)) (@ay _ _ _ (@bu _ _ _ _ (@aA _ _ _ _ _ _ _ _ _ _ _ _ _ _ T.l_next (gz T) hr (by decide) (@ae _ _ _ _ _ (pv 0) (@ai _) af) (by rfl) (by decide) (by rfl) (by rfl)) (by rfl)))))))))),?_⟩
    refine bH pu_c ?_
    refine fT (R:=fun v H'=>H=H'/\∃cell:Int,v=.int cell) (v0:=.int 0) (bM (em (bp (ah rfl) pu_c (SqL.of h1) rfl) (bD (ar (bp (ah rfl) pu_c (SqL.of h1) rfl) aB) (SqL.of h2)))) (fun e=>?_) rfl (fun _=>⟨rfl,0,rfl⟩) ?_
    · have e':i<((ns.map V.int).length:Int):=by simpa using e
      rw[List.length_map] at e'
      obtain⟨m,hm⟩:∃m,ns[i.toNat]?=some m:=⟨_,List.getElem?_eq_getElem (by omega)⟩
      have hat:atI (ns.map V.int) i=some (.int m):=by
        have:=bA (xs:=ns.map V.int) (j:=i.toNat) (v:=.int m) (by rw[List.getElem?_map,hm];rfl)
        rwa [show ((i.toNat:Nat):Int)=i by omega] at this
      exact (jD (ar (bp (bp (ah rfl) pu_c (SqL.of h1) rfl) (bp (ah rfl) pu_c (SqL.of h1) rfl) (SqL.of h2) hat) aB)).gv' ⟨rfl,_,rfl⟩
    rintro v H' ⟨rfl,cell,rfl⟩
    refine pJ (ah rfl) pu_c (by decide) h1 rfl pu_c rfl ?_
    refine mw (bM (xo (ah rfl) (gK pu_c pu_c ⟨by decide,by decide,by decide⟩))) (fun _=>pF (ah rfl) (ah rfl) pu_c ak rfl ?_) (fun _=>pF pu_c (ah rfl) pu_c ak rfl ?_)
    all_goals
      refine jt (cv (ek (cv (bp (ah rfl) pu_c (SqL.of ak) rfl) (ek (ah rfl) pu_c (by decide))) pu_c (by decide)) pu_c) (ah rfl) pu_c ak rfl ?_
      refine jt (cv (ek (cv (aJ (bp (ah rfl) pu_c (SqL.of ak) rfl) pu_c (IntMulOk.of_right (by decide))) (ek (ah rfl) pu_c (by decide))) pu_c (by decide)) pu_c) (ah rfl) pu_c ak rfl ?_
      refine so (R:=fun _ H'=>HandAt H' hd sc/\SameB hd H H') (aX (ar (ah rfl) aB) fun Q f=>⟨hd,sc,rfl,⟨ns,_,_,_,_,_,ak,by rw[aF nsc,aF nsc,aF nsc,aF nsc];exact h2,(by omega:0<=i+1)⟩,fun n H' a s=>f _ _ ⟨a,((SameB.upd.trans SameB.upd).trans (SameB.upd.trans SameB.upd)).trans s⟩⟩) ?_
      rintro _ H1 ⟨a1,s1⟩
      refine kn (R:=fun _ H'=>HandAt H' hd sc/\SameB hd H H') (aX (ar (ah rfl) aB) fun Q f=>⟨hd,sc,rfl,a1,fun n H' a s=>f _ _ ⟨a,s1.trans s⟩⟩) ?_
      rintro _ H2 ⟨a2,s2⟩
      exact k _ a2 s2
def cz:Sp:=fun vs H Q _=>∃hd sc m,vs=[.ref hd,.int m]/\HandAt H hd sc/\0<m/\Bd 9000 m/\∀(n:Int) H',0<=n->n<m->HandAt H' hd sc->SameB hd H H'->Q (.int n) H'
theorem bU {σ:L2.St}{H:Hp}{hd sc:Addr}{t:TA}{m:Int}(hh:HandAt H hd sc)(ha:PuA t σ H [.ref hd,.int m])(h0:0<m)(hb:Bd 9000 m):Gv (ce cz [] E0 t) σ H (fun v H'=>(∃n:Int,v=.int n/\0<=n/\n<m)/\HandAt H' hd sc/\SameB hd H H'):=
  aX ha fun Q f=>⟨hd,sc,m,rfl,hh,h0,hb,fun n H' z0 z1 a s=>f _ _ ⟨⟨n,rfl,z0,z1⟩,a,s⟩⟩
theorem u8 {xs:List V}{ys:List Int}{m:Int}(e:xs=ys.map V.int)(h:∀y∈ys,0<y/\y<=m){n:Int}(h0:0<=n)(h1:n<ys.length):∃y:Int,atI xs n=some (.int y)/\0<y/\y<=m:=by
  subst e
  have hl:n.toNat<ys.length:=by omega
  refine⟨ys[n.toNat],?_,h _ (List.getElem_mem hl)⟩
  have:=bA (xs:=ys.map V.int) (j:=n.toNat) (v:=.int ys[n.toNat]) (by simp[hl])
  rwa [show ((n.toNat:Nat):Int)=n by omega] at this
theorem qi {K:PySem.W.Frag}{σ:L2.St}{H:Hp}{hd sc:Addr}{t ta:TA}{ys:List Int}{m:Int}(hh:HandAt H hd sc)(hl:PuA ta σ H (ys.map V.int))(hz:ys.length<=1000)(h0:0<ys.length)(hy:∀y∈ys,0<y/\y<=m)
    (ha:∀H',PuA t σ H' [.ref hd,.int (ys.length:Nat)]):Gv (tOp (iE K) (wr ta) (ce cz [] E0 t)) σ H (fun v H'=>(∃n:Int,v=.int n/\0<n/\n<=m)/\HandAt H' hd sc/\SameB hd H H'):=by
  intro Q f
  refine cO hl (by rw[List.length_map];exact Nat.le_of_lt (aZ hz)) _ ?_
  rintro _ _ ⟨p,hp,rfl,rfl⟩
  have s0:=Same.upd (o:=.lst (ys.map V.int)) hp
  refine bU (hh.same s0) (ha _) (by omega) (Bd.small (by omega)) _ ?_
  rintro _ H1 ⟨⟨n,rfl,z0,z1⟩,hh1,s1⟩
  obtain⟨y,ey,y0,y1⟩:=u8 (xs:=ys.map V.int) rfl hy z0 z1
  obtain⟨zs,hzs⟩:=hh.ls
  exact⟨p,_,n,.int y,rfl,rfl,SqL.of (s1 _ _ ak (Ne.symm (aV hzs hp))),ey,f _ _ ⟨⟨y,rfl,y0,y1⟩,hh1,s0.b.trans s1⟩⟩
theorem dX:FnScope ["_law_hand_here","_law_many","_law_got","_law_value","_law_size"] ["_law_hand_here","_law_many"] (av fg):=⟨rfl,rfl,rfl,by decide +kernel,rfl,by decide +kernel,by decide +kernel⟩
theorem aR (T:Txt K mg t):FnOk P w K mg base CX0 3 t.f_l_draw t.d_l_draw ["_law_hand_here","_law_many"] cz:=by
  refine T.l_draw.F.ok (k:=2) dX (fun vs H Q E h=>?_) (fun cdv A outer s H vs Q E hr h=>?_)
  · obtain⟨hd,sc,m,rfl,_⟩:=h
    rfl
  · obtain⟨hd,sc,m,rfl,hh,hm,hB,k⟩:=h
    refine⟨_,(@aj _ _ _ _ _ (@bB _ _ _ _ _ _ _ _ (PW.pt (@eg _ _ _ _ _ _ _ (@aG _ _ _ _ _ _ _ _ di (@au _ _ _ _ _ _ _ aI (pv 0) (@ag _ _ _ _) (fun _ _=>rfl)) (@ag _ _ _ _) (aQ _)) (@db _ _ _ _ (@aG _ _ _ _ _ _ _ _ di (@au _ _ _ _ _ _ _ aI (pv 0) (@ag _ _ _ _) (fun _ _=>rfl)) (@ag _ _ _ _) (aQ _))))) (@ay _ _ _ (@bu _ _ _ _ (@aA _ _ _ _ _ _ _ _ _ _ _ _ _ _ T.l_take (qW T) hr (by decide) (@ae _ _ _ _ _ (pv 0) (@ai _) af) (by rfl) (by decide) (by rfl) (by rfl)) (by rfl))) (@be _)) (@aj _ _ _ _ _ (@bB _ _ _ _ _ _ _ _ (@aG _ _ _ _ _ _ _ _ fP (@au _ _ _ _ _ _ _ aI (pv 0) (@ag _ _ _ _) (fun _ _=>rfl)) (@ag _ _ _ _) (aQ _)) (@aj _ _ _ _ _ (@aE _ _ 2 _ _ _ _ dX.nd rfl (Or.inl rfl) (@az _ _ _ _ _ _ _ _ de (@au _ _ _ _ _ _ _ aI (pv 0) (@ag _ _ _ _) (fun _ _=>rfl)) (pv 1)) (by rfl) (by first | exact .inl rfl | exact .inr rfl | assumption)) (@aj _ _ _ _ _ (@dD _ _ _ _ _ _ (@az _ _ _ _ _ _ _ _ eC (@au _ _ _ _ _ _ _ aI (pv 0) (@ag _ _ _ _) (fun _ _=>rfl)) (pv 1)) (@gN _ _ _ _ _ _ _ (pv 0) (@ag _ _ _ _) da (by intro _;rfl)) (by rfl) (by rfl) (by rfl)) (@ay _ _ _ (@aL _ _ _ _ (pv 2))))) (@be _)) (@aj _ _ _ _ _ (@pS _ _ _ _ _ _ _ _ _ _ _ _ _ (pv 0) (@ag _ _ _ _) nA (@ag _ _ _ _) ub da (by intros;rfl)) (@aj _ _ _ _ _ (@aE _ _ 3 _ _ _ _ dX.nd rfl (Or.inl rfl) (@aA _ _ _ _ _ _ _ _ _ _ _ _ _ _ T.l_next (gz T) hr (by decide) (@ae _ _ _ _ _ (pv 0) (@ai _) af) (by rfl) (by decide) (by rfl) (by rfl)) (by rfl) (by first | exact .inl rfl | exact .inr rfl | assumption)) (@aj _ _ _ _ _ (@aE _ _ 4 _ _ _ _ dX.nd rfl (Or.inl rfl) (@ag _ _ _ _) (by rfl) (by first | exact .inl rfl | exact .inr rfl | assumption)) (@aj _ _ _ _ _ (@er _ _ _ _ _ _ PassesOwn.never (@aG _ _ _ _ _ _ _ _ eJ (pv 4) (pv 1) (aQ _)) (@aj _ _ _ _ _ (@aE _ _ 3 _ _ _ _ dX.nd rfl (Or.inl rfl) (@az _ _ _ _ _ _ _ _ bP (@az _ _ _ _ _ _ _ _ aD (pv 3) (@ag _ _ _ _)) (@aA _ _ _ _ _ _ _ _ _ _ _ _ _ _ T.l_next (gz T) hr (by decide) (@ae _ _ _ _ _ (pv 0) (@ai _) af) (by rfl) (by decide) (by rfl) (by rfl))) (by rfl) (by first | exact .inl rfl | exact .inr rfl | assumption)) (@ay _ _ _ (@aE _ _ 4 _ _ _ _ dX.nd rfl (Or.inl rfl) (@az _ _ _ _ _ _ _ _ aD (pv 4) (@ag _ _ _ _)) (by rfl) (by first | exact .inl rfl | exact .inr rfl | assumption))))) (@ay _ _ _ (@aL _ _ _ _ (@az _ _ _ _ _ _ _ _ de (pv 3) (pv 1)))))))))),?_⟩
    refine (show ∀(H1:Hp) (rest:TS) (D:Ends) (σ:L2.St) (tc:TT) (te:TE),(∃b,PuT tc σ H b/\(b=true->Gv te σ H (fun _ H'=>HandAt H' hd sc/\SameB hd H H')))->(∀H',HandAt H' hd sc->SameB hd H H'->rest D σ H')->dQ (i7 tc (fM te) gU) rest D σ H from fun H1 rest D σ tc te ⟨b,hc,he⟩ q=>mw hc (fun e=>kn (he e) fun v H' r=>q H' r.1 r.2) fun _=>q H hh (SameB.refl _ _)) H _ _ _ _ _ ?_ ?_
    · obtain⟨ns,i,b,c,p,q,h1,h2,h0⟩:=id hh
      exact⟨_,dR (bM (cS (bp (ah rfl) pu_c (SqL.of h1) rfl) pu_c)) fun _=>bM (cS (bp (ah rfl) pu_c (SqL.of h1) rfl) pu_c),fun _=>aX (ar (ah rfl) aB) fun Q f=>⟨hd,sc,rfl,hh,fun H' a s=>f _ _ ⟨a,s⟩⟩⟩
    intro H1 hh1 s1
    obtain⟨ns,i,b,c,p,q,h1,h2,h0⟩:=id hh1
    have nsc:=HandAt.ne h1 h2
    refine mw (bM (fO (bp (ah rfl) pu_c (SqL.of h1) rfl) pu_c)) (fun _=>?_) fun _=>?_
    · refine bH (ek (bp (ah rfl) pu_c (SqL.of h1) rfl) (ah rfl) (by omega)) ?_
      refine jt (fF (bp (ah rfl) pu_c (SqL.of h1) rfl) (ah rfl) ⟨by omega,hB⟩) (ah rfl) pu_c h1 rfl ?_
      refine bL (ah rfl) ?_
      have hl:=jk (x:=b) hm
      exact k _ _ hl.1 hl.2 ⟨ns,i,_,c,p,q,ak,by rw[aF nsc];exact h2,h0⟩ (s1.trans SameB.upd)
    · refine pJ (ah rfl) pu_c (by decide) h1 rfl pu_c rfl ?_
      have hh2:HandAt (upd H1 hd (.lst [.ref sc,.int i,.int b,.int (c - 1),.int p,.int q])) hd sc:=⟨ns,i,b,c - 1,p,q,ak,by rw[aF nsc];exact h2,h0⟩
      refine aH (R:=fun v H'=>(∃n:Int,v=.int n)/\HandAt H' hd sc/\SameB hd H H') (aX (ar (ah rfl) aB) fun Q f=>⟨hd,sc,rfl,hh2,fun n H' a s=>f _ _ ⟨⟨n,rfl⟩,a,s1.trans (SameB.upd.trans s)⟩⟩) ?_
      rintro _ H3 ⟨⟨n,rfl⟩,hh3,s3⟩
      refine bH pu_c ?_
      refine eS (fun σ H'=>HandAt H' hd sc/\SameB hd H H'/\∃(x y:Int) (r:Option V),σ=[some (.ref hd),some (.int m),r,some (.int x),some (.int y)]/\0<y) (fun σ _=>match σ with | [_,_,_,_,some (.int y)]=>(m - y).toNat | _=>0)
        ⟨hh3,s3,n,4294967296,_,rfl,by decide⟩ ?_
      rintro σ H4 ⟨hh4,s4,x,y,r,rfl,hy⟩
      refine⟨_,bM (em (ah rfl) (ah rfl)),fun e=>?_,fun e=>?_⟩
      · have e':y<m:=by simpa using e
        refine aH (R:=fun v H'=>(∃n:Int,v=.int n)/\HandAt H' hd sc/\SameB hd H H') (fun Q f=>aJ (ah rfl) pu_c (IntMulOk.of_right (by decide)) _ ?_) ?_
        · exact aX (sp:=kq) (E:=E0) (R:=fun v H'=>(∃n:Int,v=.int n)/\HandAt H' hd sc/\SameB hd H H') (ar (ah rfl) aB) (fun Q f=>⟨hd,sc,rfl,hh4,fun n H' a s=>f _ _ ⟨⟨n,rfl⟩,a,s4.trans s⟩⟩) _ fun v H' ⟨⟨n,e⟩,a,s⟩=>by
            subst e
            exact⟨_,n,rfl,rfl,f _ _ ⟨⟨_,rfl⟩,a,s⟩⟩
        rintro _ H5 ⟨⟨z,rfl⟩,hh5,s5⟩
        refine fC (aJ (ah rfl) pu_c (IntMulOk.of_right (by decide))) ?_
        exact⟨⟨hh5,s5,z,y*4294967296,r,rfl,by omega⟩,by show (m - y*4294967296).toNat<(m - y).toNat;omega⟩
      · refine bL (ek (ah rfl) (ah rfl) (by omega)) ?_
        have hl:=jk (x:=x) hm
        exact k _ _ hl.1 hl.2 hh4 s4
def lE:Sp:=fun vs H Q _=>∃a b:Int,vs=[.int a,.int b]/\Q (.int (Int.gcd a b)) H
theorem dU:FnScope ["_law_one","_law_other"] ["_law_one","_law_other"] (av cX):=⟨rfl,rfl,rfl,by decide +kernel,rfl,by decide +kernel,by decide +kernel⟩
theorem ia (T:Txt K mg t):FnOk P w K mg base CX0 1 t.f_l_divisor t.d_l_divisor ["_law_one","_law_other"] lE:=by
  refine T.l_divisor.F.ok (k:=0) dU (fun vs H Q E h=>?_) (fun cdv A outer s H vs Q E hr h=>?_)
  · obtain⟨a,b,rfl,_⟩:=h
    rfl
  · obtain⟨a,b,rfl,k⟩:=h
    refine⟨_,(@aj _ _ _ _ _ (@aE _ _ 0 _ _ _ _ dU.nd rfl (Or.inl rfl) (@aY _ _ _ _ _ _ _ _ _ gh (by rfl) T.b_abs PyProof.Rows.boot_abs (@ae _ _ _ _ _ (pv 0) (@ai _) af) (by decide) (by decide) (by rfl) (by rfl)) (by rfl) (by first | exact .inl rfl | exact .inr rfl | assumption)) (@aj _ _ _ _ _ (@aE _ _ 1 _ _ _ _ dU.nd rfl (Or.inl rfl) (@aY _ _ _ _ _ _ _ _ _ gh (by rfl) T.b_abs PyProof.Rows.boot_abs (@ae _ _ _ _ _ (pv 1) (@ai _) af) (by decide) (by decide) (by rfl) (by rfl)) (by rfl) (by first | exact .inl rfl | exact .inr rfl | assumption)) (@aj _ _ _ _ _ (@er _ _ _ _ _ _ PassesOwn.never (@aG _ _ _ _ _ _ _ _ fP (pv 1) (@ag _ _ _ _) (aQ _)) (@ay _ _ _ (@wD _ _ 0 1 _ _ _ _ _ _ _ _ _ _ _ rfl dU.nd rfl rfl (by decide) rfl rfl (@ae _ _ _ _ _ (pv 1) (@ae _ _ _ _ _ (@az _ _ _ _ _ _ _ _ de (pv 0) (pv 1)) (@ai _) aW) af) (by rfl) (by rfl)))) (@ay _ _ _ (@aL _ _ _ _ (pv 0)))))),?_⟩
    refine bH (jD (ar (ah rfl) aB)) ?_
    refine bH (jD (ar (ah rfl) aB)) ?_
    refine eS (fun σ H'=>H'=H/\∃(x y:Int),σ=[some (.int x),some (.int y)]/\0<=x/\0<=y/\Int.gcd x y=Int.gcd a b) (fun σ _=>match σ with | [_,some (.int y)]=>y.toNat | _=>0)
      ⟨rfl,a.natAbs,b.natAbs,rfl,by omega,by omega,rfl⟩ ?_
    rintro σ H' ⟨rfl,x,y,rfl,hx,hy,hg⟩
    refine⟨_,bM (fO (ah rfl) pu_c),fun e=>?_,fun e=>?_⟩
    · have e':0<y:=by simpa using e
      have hm:=jk (x:=x) e'
      refine ar (ah rfl) (ar (ek (ah rfl) (ah rfl) (by omega)) aB) _ ?_
      exact⟨_,_,rfl,⟨rfl,y,x.fmod y,rfl,hy,hm.1,by rw[nE hx hy];exact hg⟩,by show (x.fmod y).toNat<y.toNat;omega⟩
    · have e':¬0<y:=by simpa using e
      have e'':y=0:=by omega
      subst e''
      refine bL (ah rfl) ?_
      rw[←hg,nB x hx] at k
      exact k
def jw:Sp:=fun vs H Q _=>∃a b c:Int,vs=[.int a,.int b,.int c]/\0<c/\Bd 9000 c/\∀v H' r,Same H H'->AtP H' v r->Is3 a b c r->Q v H'
theorem ij {σ:L2.St}{H:Hp}{t:TA}{a b c:Int}(ha:PuA t σ H [.int a,.int b,.int c])(hc:0<c)(hb:Bd 9000 c):Gv (ce jw [] E0 t) σ H (fun v H'=>Same H H'/\∃r,AtP H' v r/\Is3 a b c r):=
  aX ha fun Q f=>⟨a,b,c,rfl,hc,hb,fun v H' r s t i=>f _ _ ⟨s,r,t,i⟩⟩
theorem jz:FnScope ["_law_a","_law_b","_law_c","_law_d"] ["_law_a","_law_b","_law_c"] (av d6):=⟨rfl,rfl,rfl,by decide +kernel,rfl,by decide +kernel,by decide +kernel⟩
theorem cI (T:Txt K mg t):FnOk P w K mg base CX0 2 t.f_l_point t.d_l_point ["_law_a","_law_b","_law_c"] jw:=by
  refine T.l_point.F.ok (k:=1) jz (fun vs H Q E h=>?_) (fun cdv A outer s H vs Q E hr h=>?_)
  · obtain⟨a,b,c,rfl,_⟩:=h
    rfl
  · obtain⟨a,b,c,rfl,hc,hB,k⟩:=h
    refine⟨_,(@aj _ _ _ _ _ (@aE _ _ 3 _ _ _ _ jz.nd rfl (Or.inl rfl) (@aA _ _ _ _ _ _ _ _ _ _ _ _ _ _ T.l_divisor (ia T) hr (by decide) (@ae _ _ _ _ _ (@aA _ _ _ _ _ _ _ _ _ _ _ _ _ _ T.l_divisor (ia T) hr (by decide) (@ae _ _ _ _ _ (pv 2) (@ae _ _ _ _ _ (pv 0) (@ai _) af) af) (by rfl) (by decide) (by rfl) (by rfl)) (@ae _ _ _ _ _ (pv 1) (@ai _) af) aK) (by rfl) (by decide) (by rfl) (by rfl)) (by rfl) (by first | exact .inl rfl | exact .inr rfl | assumption)) (@ay _ _ _ (@aL _ _ _ _ (@bN _ _ _ _ _ (@ae _ _ _ _ _ (@az _ _ _ _ _ _ _ _ eC (pv 0) (pv 3)) (@ae _ _ _ _ _ (@az _ _ _ _ _ _ _ _ eC (pv 1) (pv 3)) (@ae _ _ _ _ _ (@az _ _ _ _ _ _ _ _ eC (pv 2) (pv 3)) (@ai _) aW) aW) aW))))),?_⟩
    obtain⟨hi,hd⟩:=lO (a:=a) (b:=b) hc
    have hdB:Bd 9000 (Int.gcd (Int.gcd c a) b:Int):=by
      refine hB.le ?_
      have:(Int.gcd (Int.gcd c a) b:Nat)<=c.natAbs:=by
        refine Nat.le_of_dvd (by omega) ?_
        refine Nat.dvd_trans (Int.gcd_dvd_natAbs_left _ _) ?_
        rw[Int.natAbs_natCast]
        exact Int.gcd_dvd_natAbs_left c a
      exact this
    refine bH (cu (ar (cu (ar (ah rfl) (ar (ah rfl) aB)) (fun Q q=>⟨c,a,rfl,q⟩)) (ar (ah rfl) aB)) (fun Q q=>⟨_,b,rfl,q⟩)) ?_
    refine bn (cx (ar (fF (ah rfl) (ah rfl) ⟨by omega,hdB⟩) (ar (fF (ah rfl) (ah rfl) ⟨by omega,hdB⟩) (ar (fF (ah rfl) (ah rfl) ⟨by omega,hdB⟩) aB))) (by show 3<=sizeLine;decide)) ?_
    rintro _ _ ⟨p,hp,rfl,rfl⟩
    exact k _ _ _ (Same.upd hp) (TupT.of ak) hi
def xv (p q:Pt3):Int:=p.x*q.z+q.x*p.z
def xu (p q:Pt3):Int:=p.y*q.z+q.y*p.z
def vA (p q:Pt3):Int:=2*p.z*q.z
theorem tM {p q:Pt3}(hp:0<p.z)(hq:0<q.z):0<vA p q:=Int.mul_pos (Int.mul_pos (by decide) hp) hq
theorem vz {p q:Pt3}{m n:Nat}(zp:Bd m p.z)(zq:Bd n q.z):Bd (2+m+n) (vA p q):=by
  have b2:Bd 2 (2:Int):=by unfold Bd;decide
  exact (b2.mul zp).mul zq
def iN:Sp:=fun vs H Q _=>∃v w p q,vs=[v,w]/\AtP H v p/\AtP H w q/\Sz 4000 p/\Sz 4000 q/\0<p.z/\0<q.z/\∀v H' r,Same H H'->AtP H' v r->Is3 (xv p q) (xu p q) (vA p q) r->Q v H'
theorem wT {σ:L2.St}{H:Hp}{t:TA}{v w:V}{p q:Pt3}(ha:PuA t σ H [v,w])(h1:AtP H v p)(h2:AtP H w q)(zp:Sz 4000 p)(zq:Sz 4000 q)(hp:0<p.z)(hq:0<q.z):Gv (ce iN [] E0 t) σ H (fun v H'=>Same H H'/\∃r,AtP H' v r/\Is3 (xv p q) (xu p q) (vA p q) r):=
  aX ha fun Q f=>⟨v,w,p,q,rfl,h1,h2,zp,zq,hp,hq,fun v H' r s t i=>f _ _ ⟨s,r,t,i⟩⟩
theorem mN:FnScope ["_law_p","_law_q"] ["_law_p","_law_q"] (av dz):=⟨rfl,rfl,rfl,by decide +kernel,rfl,by decide +kernel,by decide +kernel⟩
theorem iY (T:Txt K mg t):FnOk P w K mg base CX0 3 t.f_l_middle t.d_l_middle ["_law_p","_law_q"] iN:=by
  refine T.l_middle.F.ok (k:=2) mN (fun vs H Q E h=>?_) (fun cdv A outer s H vs Q E hr h=>?_)
  · obtain⟨v,w,p,q,rfl,_⟩:=h
    rfl
  · obtain⟨v,w,p,q,rfl,⟨a,rfl,ha⟩,⟨b,rfl,hb⟩,zp,zq,hp,hq,k⟩:=h
    refine⟨_,(@ay _ _ _ (@aL _ _ _ _ (@aA _ _ _ _ _ _ _ _ _ _ _ _ _ _ T.l_point (cI T) hr (by decide) (@ae _ _ _ _ _ (@az _ _ _ _ _ _ _ _ bP (@az _ _ _ _ _ _ _ _ aD (@au _ _ _ _ _ _ _ ax (pv 0) (@ag _ _ _ _) (fun _ _=>rfl)) (@au _ _ _ _ _ _ _ ax (pv 1) (@ag _ _ _ _) (fun _ _=>rfl))) (@az _ _ _ _ _ _ _ _ aD (@au _ _ _ _ _ _ _ ax (pv 1) (@ag _ _ _ _) (fun _ _=>rfl)) (@au _ _ _ _ _ _ _ ax (pv 0) (@ag _ _ _ _) (fun _ _=>rfl)))) (@ae _ _ _ _ _ (@az _ _ _ _ _ _ _ _ bP (@az _ _ _ _ _ _ _ _ aD (@au _ _ _ _ _ _ _ ax (pv 0) (@ag _ _ _ _) (fun _ _=>rfl)) (@au _ _ _ _ _ _ _ ax (pv 1) (@ag _ _ _ _) (fun _ _=>rfl))) (@az _ _ _ _ _ _ _ _ aD (@au _ _ _ _ _ _ _ ax (pv 1) (@ag _ _ _ _) (fun _ _=>rfl)) (@au _ _ _ _ _ _ _ ax (pv 0) (@ag _ _ _ _) (fun _ _=>rfl)))) (@ae _ _ _ _ _ (@az _ _ _ _ _ _ _ _ aD (@az _ _ _ _ _ _ _ _ aD (@ag _ _ _ _) (@au _ _ _ _ _ _ _ ax (pv 0) (@ag _ _ _ _) (fun _ _=>rfl))) (@au _ _ _ _ _ _ _ ax (pv 1) (@ag _ _ _ _) (fun _ _=>rfl))) (@ai _) aW) aW) aW) (by rfl) (by decide) (by rfl) (by rfl)))),?_⟩
    have b2:Bd 2 (2:Int):=by unfold Bd;decide
    refine bn (ij (ar (cv (aJ (aw (ah rfl) pu_c (SqT.of (ha)) rfl) (aw (ah rfl) pu_c (SqT.of (hb)) rfl) (aC (zp.x) (zq.z) (by decide))) (aJ (aw (ah rfl) pu_c (SqT.of (hb)) rfl) (aw (ah rfl) pu_c (SqT.of (ha)) rfl) (aC (zq.x) (zp.z) (by decide)))) (ar (cv (aJ (aw (ah rfl) pu_c (SqT.of (ha)) rfl) (aw (ah rfl) pu_c (SqT.of (hb)) rfl) (aC (zp.y) (zq.z) (by decide))) (aJ (aw (ah rfl) pu_c (SqT.of (hb)) rfl) (aw (ah rfl) pu_c (SqT.of (ha)) rfl) (aC (zq.y) (zp.z) (by decide)))) (ar (aJ (aJ pu_c (aw (ah rfl) pu_c (SqT.of (ha)) rfl) (aC (b2) (zp.z) (by decide))) (aw (ah rfl) pu_c (SqT.of (hb)) rfl) (aC (b2.mul zp.z) (zq.z) (by decide))) aB))) (tM hp hq) ((vz zp.z zq.z).mono (by decide))) ?_
    rintro v H' ⟨s,r,t,i⟩
    exact k v H' r s t i
def jx:Sp:=fun vs H Q _=>∃v w p q,vs=[v,w]/\AtP H v p/\AtP H w q/\Sz 4000 p/\Sz 4000 q/\Q (.bl (ahd p q)) H
theorem oq:FnScope ["_law_p","_law_q"] ["_law_p","_law_q"] (av d9):=⟨rfl,rfl,rfl,by decide +kernel,rfl,by decide +kernel,by decide +kernel⟩
theorem cT (T:Txt K mg t):FnOk P w K mg base CX0 1 t.f_l_ahead t.d_l_ahead ["_law_p","_law_q"] jx:=by
  refine T.l_ahead.F.ok (k:=0) oq (fun vs H Q E h=>?_) (fun cdv A outer s H vs Q E hr h=>?_)
  · obtain⟨v,w,p,q,rfl,_⟩:=h
    rfl
  · obtain⟨v,w,p,q,rfl,⟨a,rfl,ha⟩,⟨b,rfl,hb⟩,zp,zq,k⟩:=h
    refine⟨_,(@aj _ _ _ _ _ (@bB _ _ _ _ _ _ _ _ (@aG _ _ _ _ _ _ _ _ kB (@az _ _ _ _ _ _ _ _ aD (@au _ _ _ _ _ _ _ ax (pv 0) (@ag _ _ _ _) (fun _ _=>rfl)) (@au _ _ _ _ _ _ _ ax (pv 1) (@ag _ _ _ _) (fun _ _=>rfl))) (@az _ _ _ _ _ _ _ _ aD (@au _ _ _ _ _ _ _ ax (pv 1) (@ag _ _ _ _) (fun _ _=>rfl)) (@au _ _ _ _ _ _ _ ax (pv 0) (@ag _ _ _ _) (fun _ _=>rfl))) (aQ _)) (@ay _ _ _ (@aL _ _ _ _ (@gx _ _ _ _ _ _ _ _ eJ (@az _ _ _ _ _ _ _ _ aD (@au _ _ _ _ _ _ _ ax (pv 0) (@ag _ _ _ _) (fun _ _=>rfl)) (@au _ _ _ _ _ _ _ ax (pv 1) (@ag _ _ _ _) (fun _ _=>rfl))) (@az _ _ _ _ _ _ _ _ aD (@au _ _ _ _ _ _ _ ax (pv 1) (@ag _ _ _ _) (fun _ _=>rfl)) (@au _ _ _ _ _ _ _ ax (pv 0) (@ag _ _ _ _) (fun _ _=>rfl))) (aQ _)))) (@be _)) (@ay _ _ _ (@aL _ _ _ _ (@gx _ _ _ _ _ _ _ _ eJ (@az _ _ _ _ _ _ _ _ aD (@au _ _ _ _ _ _ _ ax (pv 0) (@ag _ _ _ _) (fun _ _=>rfl)) (@au _ _ _ _ _ _ _ ax (pv 1) (@ag _ _ _ _) (fun _ _=>rfl))) (@az _ _ _ _ _ _ _ _ aD (@au _ _ _ _ _ _ _ ax (pv 1) (@ag _ _ _ _) (fun _ _=>rfl)) (@au _ _ _ _ _ _ _ ax (pv 0) (@ag _ _ _ _) (fun _ _=>rfl))) (aQ _))))),?_⟩
    refine cn (bM (jC (aJ (aw (ah rfl) pu_c (SqT.of (ha)) rfl) (aw (ah rfl) pu_c (SqT.of (hb)) rfl) (aC (zp.x) (zq.z) (by decide))) (aJ (aw (ah rfl) pu_c (SqT.of (hb)) rfl) (aw (ah rfl) pu_c (SqT.of (ha)) rfl) (aC (zq.x) (zp.z) (by decide))))) (fun e=>bL (em (aJ (aw (ah rfl) pu_c (SqT.of (ha)) rfl) (aw (ah rfl) pu_c (SqT.of (hb)) rfl) (aC (zp.x) (zq.z) (by decide))) (aJ (aw (ah rfl) pu_c (SqT.of (hb)) rfl) (aw (ah rfl) pu_c (SqT.of (ha)) rfl) (aC (zq.x) (zp.z) (by decide)))) ?_) (fun e=>bL (em (aJ (aw (ah rfl) pu_c (SqT.of (ha)) rfl) (aw (ah rfl) pu_c (SqT.of (hb)) rfl) (aC (zp.y) (zq.z) (by decide))) (aJ (aw (ah rfl) pu_c (SqT.of (hb)) rfl) (aw (ah rfl) pu_c (SqT.of (ha)) rfl) (aC (zq.y) (zp.z) (by decide)))) ?_)
    · have e':¬p.x*q.z=q.x*p.z:=by simpa using e
      rw[ahd,if_neg e'] at k
      exact k
    · have e':p.x*q.z=q.x*p.z:=by simpa using e
      rw[ahd,if_pos e'] at k
      exact k
def gn:Sp:=fun vs H Q _=>∃v w u p q r,vs=[v,w,u]/\AtP H v p/\AtP H w q/\AtP H u r/\Sz 4000 p/\Sz 4000 q/\Sz 4000 r/\0<p.z/\Q (.int (sgn (det p q r))) H
theorem sO {σ:L2.St}{H:Hp}{t:TA}{c:Bool}(ha:PuA t σ H [.bl c]):Pu (tCB (fun xs H Q=>(∃i,xs=[.int i]/\Q (.int i) H)∨∃k,xs=[.bl k]/\Q (.int (if k then 1 else 0)) H) t) σ H (.int (if c then 1 else 0)):=fun _ q=>ha _ (.inr ⟨c,rfl,q⟩)
theorem uW (x y:Int):(if decide (y<x)=true then (1:Int) else 0) - (if decide (x<y)=true then 1 else 0)=sgn (x - y):=by
  unfold sgn
  by_cases h1:y<x
  · rw[if_pos (decide_eq_true h1),if_neg (by rw[decide_eq_true_iff];omega),if_pos (by omega)];rfl
  · by_cases h2:x<y
    · rw[if_neg (by rw[decide_eq_true_iff];exact h1),if_pos (decide_eq_true h2),if_neg (by omega),if_pos (by omega)];rfl
    · rw[if_neg (by rw[decide_eq_true_iff];exact h1),if_neg (by rw[decide_eq_true_iff];exact h2),if_neg (by omega),if_neg (by omega)];rfl
theorem ix:FnScope ["_law_p","_law_q","_law_r","_law_one","_law_other"] ["_law_p","_law_q","_law_r"] (av eX):=⟨rfl,rfl,rfl,by decide +kernel,rfl,by decide +kernel,by decide +kernel⟩
theorem fj (T:Txt K mg t):FnOk P w K mg base CX0 1 t.f_l_turn t.d_l_turn ["_law_p","_law_q","_law_r"] gn:=by
  refine T.l_turn.F.ok (k:=0) ix (fun vs H Q E h=>?_) (fun cdv A outer s H vs Q E hr h=>?_)
  · obtain⟨v,w,u,p,q,r,rfl,_⟩:=h
    rfl
  · obtain⟨v,w,u,p,q,r,rfl,⟨a,rfl,ha⟩,⟨b,rfl,hb⟩,⟨c,rfl,hc⟩,zp,zq,zr,hp,k⟩:=h
    have d1:=(zq.x.mul zp.z).sub (zp.x.mul zq.z)
    have d2:=(zr.y.mul zp.z).sub (zp.y.mul zr.z)
    have d3:=(zq.y.mul zp.z).sub (zp.y.mul zq.z)
    have d4:=(zr.x.mul zp.z).sub (zp.x.mul zr.z)
    refine⟨_,(@aj _ _ _ _ _ (@aE _ _ 3 _ _ _ _ ix.nd rfl (Or.inl rfl) (@az _ _ _ _ _ _ _ _ aD (@az _ _ _ _ _ _ _ _ bO (@az _ _ _ _ _ _ _ _ aD (@au _ _ _ _ _ _ _ ax (pv 1) (@ag _ _ _ _) (fun _ _=>rfl)) (@au _ _ _ _ _ _ _ ax (pv 0) (@ag _ _ _ _) (fun _ _=>rfl))) (@az _ _ _ _ _ _ _ _ aD (@au _ _ _ _ _ _ _ ax (pv 0) (@ag _ _ _ _) (fun _ _=>rfl)) (@au _ _ _ _ _ _ _ ax (pv 1) (@ag _ _ _ _) (fun _ _=>rfl)))) (@az _ _ _ _ _ _ _ _ bO (@az _ _ _ _ _ _ _ _ aD (@au _ _ _ _ _ _ _ ax (pv 2) (@ag _ _ _ _) (fun _ _=>rfl)) (@au _ _ _ _ _ _ _ ax (pv 0) (@ag _ _ _ _) (fun _ _=>rfl))) (@az _ _ _ _ _ _ _ _ aD (@au _ _ _ _ _ _ _ ax (pv 0) (@ag _ _ _ _) (fun _ _=>rfl)) (@au _ _ _ _ _ _ _ ax (pv 2) (@ag _ _ _ _) (fun _ _=>rfl))))) (by rfl) (by first | exact .inl rfl | exact .inr rfl | assumption)) (@aj _ _ _ _ _ (@aE _ _ 4 _ _ _ _ ix.nd rfl (Or.inl rfl) (@az _ _ _ _ _ _ _ _ aD (@az _ _ _ _ _ _ _ _ bO (@az _ _ _ _ _ _ _ _ aD (@au _ _ _ _ _ _ _ ax (pv 1) (@ag _ _ _ _) (fun _ _=>rfl)) (@au _ _ _ _ _ _ _ ax (pv 0) (@ag _ _ _ _) (fun _ _=>rfl))) (@az _ _ _ _ _ _ _ _ aD (@au _ _ _ _ _ _ _ ax (pv 0) (@ag _ _ _ _) (fun _ _=>rfl)) (@au _ _ _ _ _ _ _ ax (pv 1) (@ag _ _ _ _) (fun _ _=>rfl)))) (@az _ _ _ _ _ _ _ _ bO (@az _ _ _ _ _ _ _ _ aD (@au _ _ _ _ _ _ _ ax (pv 2) (@ag _ _ _ _) (fun _ _=>rfl)) (@au _ _ _ _ _ _ _ ax (pv 0) (@ag _ _ _ _) (fun _ _=>rfl))) (@az _ _ _ _ _ _ _ _ aD (@au _ _ _ _ _ _ _ ax (pv 0) (@ag _ _ _ _) (fun _ _=>rfl)) (@au _ _ _ _ _ _ _ ax (pv 2) (@ag _ _ _ _) (fun _ _=>rfl))))) (by rfl) (by first | exact .inl rfl | exact .inr rfl | assumption)) (@ay _ _ _ (@aL _ _ _ _ (@az _ _ _ _ _ _ _ _ bO (@cC _ _ _ _ _ _ _ _ _ kU (by rfl) T.b_int PyProof.Rows.boot_int (@ae _ _ _ _ _ (@gx _ _ _ _ _ _ _ _ fP (pv 3) (pv 4) (aQ _)) (@ai _) mt) (by decide) (by decide) (by rfl) (by rfl)) (@cC _ _ _ _ _ _ _ _ _ kU (by rfl) T.b_int PyProof.Rows.boot_int (@ae _ _ _ _ _ (@gx _ _ _ _ _ _ _ _ eJ (pv 3) (pv 4) (aQ _)) (@ai _) mt) (by decide) (by decide) (by rfl) (by rfl))))))),?_⟩
    refine bH (aJ (cq (aJ (aw (ah rfl) pu_c (SqT.of (hb)) rfl) (aw (ah rfl) pu_c (SqT.of (ha)) rfl) (aC (zq.x) (zp.z) (by decide))) (aJ (aw (ah rfl) pu_c (SqT.of (ha)) rfl) (aw (ah rfl) pu_c (SqT.of (hb)) rfl) (aC (zp.x) (zq.z) (by decide)))) (cq (aJ (aw (ah rfl) pu_c (SqT.of (hc)) rfl) (aw (ah rfl) pu_c (SqT.of (ha)) rfl) (aC (zr.y) (zp.z) (by decide))) (aJ (aw (ah rfl) pu_c (SqT.of (ha)) rfl) (aw (ah rfl) pu_c (SqT.of (hc)) rfl) (aC (zp.y) (zr.z) (by decide)))) (aC (d1) (d2) (by decide))) ?_
    refine bH (aJ (cq (aJ (aw (ah rfl) pu_c (SqT.of (hb)) rfl) (aw (ah rfl) pu_c (SqT.of (ha)) rfl) (aC (zq.y) (zp.z) (by decide))) (aJ (aw (ah rfl) pu_c (SqT.of (ha)) rfl) (aw (ah rfl) pu_c (SqT.of (hb)) rfl) (aC (zp.y) (zq.z) (by decide)))) (cq (aJ (aw (ah rfl) pu_c (SqT.of (hc)) rfl) (aw (ah rfl) pu_c (SqT.of (ha)) rfl) (aC (zr.x) (zp.z) (by decide))) (aJ (aw (ah rfl) pu_c (SqT.of (ha)) rfl) (aw (ah rfl) pu_c (SqT.of (hc)) rfl) (aC (zp.x) (zr.z) (by decide)))) (aC (d3) (d4) (by decide))) ?_
    refine bL (cq (sO (ar (fO (ah rfl) (ah rfl)) aB)) (sO (ar (em (ah rfl) (ah rfl)) aB))) ?_
    rw[uW,uB,qM hp]
    exact k
def uV:Sp:=fun vs H Q _=>∃v w u p a b,vs=[v,w,u]/\AtP H v p/\AtP H w a/\AtP H u b/\Sz 4000 p/\Sz 4000 a/\Sz 4000 b/\0<a.z/\Q (.bl (onB p a b)) H
theorem g0 {σ:L2.St}{H:Hp}{t:TA}{v w:V}{p q:Pt3}(ha:PuA t σ H [v,w])(h1:AtP H v p)(h2:AtP H w q)(zp:Sz 4000 p)(zq:Sz 4000 q):Pu (ce jx [] E0 t) σ H (.bl (ahd p q)):=
  cu ha fun Q f=>⟨v,w,p,q,rfl,h1,h2,zp,zq,f⟩
theorem uY:FnScope ["_law_p","_law_a","_law_b"] ["_law_p","_law_a","_law_b"] (av iD):=⟨rfl,rfl,rfl,by decide +kernel,rfl,by decide +kernel,by decide +kernel⟩
theorem vo (T:Txt K mg t):FnOk P w K mg base CX0 2 t.f_l_on t.d_l_on ["_law_p","_law_a","_law_b"] uV:=by
  refine T.l_on.F.ok (k:=1) uY (fun vs H Q E h=>?_) (fun cdv A outer s H vs Q E hr h=>?_)
  · obtain⟨v,w,u,p,a,b,rfl,_⟩:=h
    rfl
  · obtain⟨v,w,u,p,a,b,rfl,hp,ha,hb,zp,za,zb,h0,k⟩:=h
    refine⟨_,(@aj _ _ _ _ _ (@bB _ _ _ _ _ _ _ _ (@aG _ _ _ _ _ _ _ _ kB (@aA _ _ _ _ _ _ _ _ _ _ _ _ _ _ T.l_turn (fj T) hr (by decide) (@ae _ _ _ _ _ (pv 1) (@ae _ _ _ _ _ (pv 2) (@ae _ _ _ _ _ (pv 0) (@ai _) af) af) af) (by rfl) (by decide) (by rfl) (by rfl)) (@ag _ _ _ _) (aQ _)) (@ay _ _ _ (@aL _ _ _ _ (@hV _ _ _ _))) (@be _)) (@aj _ _ _ _ _ (@bB _ _ _ _ _ _ _ _ (@cH _ _ _ (@aA _ _ _ _ _ _ _ _ _ _ _ _ _ _ T.l_ahead (cT T) hr (by decide) (@ae _ _ _ _ _ (pv 1) (@ae _ _ _ _ _ (pv 2) (@ai _) af) af) (by rfl) (by decide) (by rfl) (by rfl)) (by intro _;rfl)) (@ay _ _ _ (@aL _ _ _ _ (@jH _ _ _ _ _ _ _ (@gc _ _ _ _ (@aA _ _ _ _ _ _ _ _ _ _ _ _ _ _ T.l_ahead (cT T) hr (by decide) (@ae _ _ _ _ _ (pv 0) (@ae _ _ _ _ _ (pv 1) (@ai _) af) af) (by rfl) (by decide) (by rfl) (by rfl))) (@jF _ _ _ _ _ (@gc _ _ _ _ (@aA _ _ _ _ _ _ _ _ _ _ _ _ _ _ T.l_ahead (cT T) hr (by decide) (@ae _ _ _ _ _ (pv 2) (@ae _ _ _ _ _ (pv 0) (@ai _) af) af) (by rfl) (by decide) (by rfl) (by rfl))))))) (@be _)) (@ay _ _ _ (@aL _ _ _ _ (@jH _ _ _ _ _ _ _ (@gc _ _ _ _ (@aA _ _ _ _ _ _ _ _ _ _ _ _ _ _ T.l_ahead (cT T) hr (by decide) (@ae _ _ _ _ _ (pv 0) (@ae _ _ _ _ _ (pv 2) (@ai _) af) af) (by rfl) (by decide) (by rfl) (by rfl))) (@jF _ _ _ _ _ (@gc _ _ _ _ (@aA _ _ _ _ _ _ _ _ _ _ _ _ _ _ T.l_ahead (cT T) hr (by decide) (@ae _ _ _ _ _ (pv 1) (@ae _ _ _ _ _ (pv 0) (@ai _) af) af) (by rfl) (by decide) (by rfl) (by rfl))))))))),?_⟩
    refine cn (bM (jC (cu (ar (ah rfl) (ar (ah rfl) (ar (ah rfl) aB))) (fun Q f=>⟨_,_,_,a,b,p,rfl,ha,hb,hp,za,zb,zp,h0,f⟩)) pu_c)) (fun e=>bL pu_c ?_) (fun e=>?_)
    · have e':¬det a b p=0:=by
        intro z
        rw[z] at e
        exact absurd e (by decide)
      rw[onB,if_neg e'] at k
      exact k
    have e':det a b p=0:=by
      rw[Bool.not_eq_false',decide_eq_true_iff] at e
      exact sgn_eq0.mp e
    rw[onB,if_pos e'] at k
    refine cn (gM (g0 (ar (ah rfl) (ar (ah rfl) aB)) ha hb za zb)) (fun z=>bL (lM (ga (g0 (ar (ah rfl) (ar (ah rfl) aB)) hp ha zp za)) fun _=>ga (g0 (ar (ah rfl) (ar (ah rfl) aB)) hb hp zb zp)) ?_) (fun z=>bL (lM (ga (g0 (ar (ah rfl) (ar (ah rfl) aB)) hp hb zp zb)) fun _=>ga (g0 (ar (ah rfl) (ar (ah rfl) aB)) ha hp za zp)) ?_)
    · rw[if_pos z] at k
      exact k
    · rw[if_neg (by rw[z];decide)] at k
      exact k
def ko:Sp:=fun vs H Q _=>∃hd sc sl ps w n m,vs=[.ref hd,.ref sl,.int w]/\HandAt H hd sc/\LP H sl ps/\sl≠hd/\ps.length<=100/\Dq n m ps/\n<=400/\m<=2 ^ 50/\9<=m/\0<w/\w<=9/\∀v H' r,HandAt H' hd sc->SameB hd H H'->AtP H' v r->Dq (n+1) m (r::ps)->Q v H'
theorem ig {K:PySem.W.Frag}{σ:L2.St}{H:Hp}{hd sc sl:Addr}{ps:List Pt3}{to:TE}{t:TA}{n:Int}(hh:HandAt H hd sc)(lp:LP H sl ps)(ns:sl≠hd)(h0:0<ps.length)(hz:ps.length<=1000)(hn:n=(ps.length:Int))(ho:Pu to σ H (.ref sl))(ha:PuA t σ H [.ref hd,.int n]) :
    Gv (tOp (iE K) to (ce cz [] E0 t)) σ H (fun v H'=>HandAt H' hd sc/\SameB hd H H'/\∃p,p∈ps/\AtP H' v p):=by
  subst hn
  intro Q f
  refine ho _ ?_
  refine bU hh ha (by omega) (Bd.small (by omega)) _ ?_
  rintro _ H1 ⟨⟨j,rfl,j0,j1⟩,hh1,s1⟩
  obtain⟨ys,hys⟩:=hh.ls
  have lp1:=lp.but ns hys s1
  obtain⟨p,hp⟩:∃p,ps[j.toNat]?=some p:=⟨_,List.getElem?_eq_getElem (by omega)⟩
  obtain⟨xs,v,e1,e2,e3,e4⟩:=lp1.at hp
  have ea:=bA e3
  rw[show ((j.toNat:Nat):Int)=j by omega] at ea
  exact⟨sl,xs,j,v,rfl,rfl,SqL.of e1,ea,f _ _ ⟨hh1,s1,p,List.mem_of_getElem? hp,e4⟩⟩
theorem gT {σ:L2.St}{H:Hp}{hd sc:Addr}{t:TA}{ta:TE}{n c:Int}(hh:HandAt H hd sc)(hc:Pu ta σ H (.int c))(ha:PuA t σ H [.ref hd,.int n])(h0:0<n)(hb:Bd 9000 n) :
    Gv (tOp (rI0 fun i j=>.int (i+j)) ta (ce cz [] E0 t)) σ H (fun v H'=>(∃j:Int,v=.int (c+j)/\0<=j/\j<n)/\HandAt H' hd sc/\SameB hd H H'):=by
  intro Q f
  refine hc _ ?_
  refine bU hh ha h0 hb _ ?_
  rintro _ H1 ⟨⟨j,rfl,j0,j1⟩,hh1,s1⟩
  exact⟨c,j,rfl,rfl,f _ _ ⟨⟨j,rfl,j0,j1⟩,hh1,s1⟩⟩
theorem gS {σ:L2.St}{H:Hp}{hd sc:Addr}{t:TA}{ta:TE}{n c:Int}(hh:HandAt H hd sc)(hc:∀H',Pu ta σ H' (.int c))(ha:PuA t σ H [.ref hd,.int n])(h0:0<n)(hb:Bd 9000 n) :
    Gv (tOp (rI0 fun i j=>.int (i - j)) (ce cz [] E0 t) ta) σ H (fun v H'=>(∃j:Int,v=.int (j - c)/\0<=j/\j<n)/\HandAt H' hd sc/\SameB hd H H'):=by
  intro Q f
  refine bU hh ha h0 hb _ ?_
  rintro _ H1 ⟨⟨j,rfl,j0,j1⟩,hh1,s1⟩
  exact hc _ _ ⟨j,c,rfl,rfl,f _ _ ⟨⟨j,rfl,j0,j1⟩,hh1,s1⟩⟩
theorem dW:FnScope ["_law_hand_here","_law_seen","_law_wide","_law_way","_law_at","_law_c","_law_a"] ["_law_hand_here","_law_seen","_law_wide"] (av eZ):=⟨rfl,rfl,rfl,by decide +kernel,rfl,by decide +kernel,by decide +kernel⟩
theorem kE (T:Txt K mg t):FnOk P w K mg base CX0 4 t.f_l_spot t.d_l_spot ["_law_hand_here","_law_seen","_law_wide"] ko:=by
  refine T.l_spot.F.ok (k:=3) dW (fun vs H Q E h=>?_) (fun cdv A outer s H vs Q E hr h=>?_)
  · obtain⟨hd,sc,sl,ps,w,k',m,rfl,_⟩:=h
    rfl
  · obtain⟨hd,sc,sl,ps,w,kk,m,rfl,hh,lp,nsl,hpl,hdr,hk,hm,hm9,w0,w9,k⟩:=h
    refine⟨_,(@aj _ _ _ _ _ (@aE _ _ 3 _ _ _ _ dW.nd rfl (Or.inl rfl) (@aA _ _ _ _ _ _ _ _ _ _ _ _ _ _ T.l_draw (aR T) hr (by decide) (@ae _ _ _ _ _ (pv 0) (@ae _ _ _ _ _ (@ag _ _ _ _) (@ai _) aT) af) (by rfl) (by decide) (by rfl) (by rfl)) (by rfl) (by first | exact .inl rfl | exact .inr rfl | assumption)) (@aj _ _ _ _ _ (@bB _ _ _ _ _ _ _ _ (PW.pt (@eg _ _ _ _ _ _ _ (@aG _ _ _ _ _ _ _ _ di (pv 3) (@ag _ _ _ _) (aQ _)) (@db _ _ _ _ (@aG _ _ _ _ _ _ _ _ fP (@aY _ _ _ _ _ _ _ _ _ aS (by rfl) T.b_len PySem.boot_len (@ae _ _ _ _ _ (pv 1) (@ai _) af) (by decide) (by decide) (by rfl) (by rfl)) (@ag _ _ _ _) (aQ _))))) (@ay _ _ _ (@aL _ _ _ _ (@au _ _ _ _ _ _ _ aI (pv 1) (@aA _ _ _ _ _ _ _ _ _ _ _ _ _ _ T.l_draw (aR T) hr (by decide) (@ae _ _ _ _ _ (pv 0) (@ae _ _ _ _ _ (@aY _ _ _ _ _ _ _ _ _ aS (by rfl) T.b_len PySem.boot_len (@ae _ _ _ _ _ (pv 1) (@ai _) af) (by decide) (by decide) (by rfl) (by rfl)) (@ai _) aK) af) (by rfl) (by decide) (by rfl) (by rfl)) (fun _ _=>rfl)))) (@be _)) (@aj _ _ _ _ _ (@bB _ _ _ _ _ _ _ _ (PW.pt (@eg _ _ _ _ _ _ _ (@aG _ _ _ _ _ _ _ _ di (pv 3) (@ag _ _ _ _) (aQ _)) (@db _ _ _ _ (@aG _ _ _ _ _ _ _ _ fP (@aY _ _ _ _ _ _ _ _ _ aS (by rfl) T.b_len PySem.boot_len (@ae _ _ _ _ _ (pv 1) (@ai _) af) (by decide) (by decide) (by rfl) (by rfl)) (@ag _ _ _ _) (aQ _))))) (@aj _ _ _ _ _ (@aE _ _ 4 _ _ _ _ dW.nd rfl (Or.inl rfl) (@aA _ _ _ _ _ _ _ _ _ _ _ _ _ _ T.l_draw (aR T) hr (by decide) (@ae _ _ _ _ _ (pv 0) (@ae _ _ _ _ _ (@az _ _ _ _ _ _ _ _ bO (@aY _ _ _ _ _ _ _ _ _ aS (by rfl) T.b_len PySem.boot_len (@ae _ _ _ _ _ (pv 1) (@ai _) af) (by decide) (by decide) (by rfl) (by rfl)) (@ag _ _ _ _)) (@ai _) aW) af) (by rfl) (by decide) (by rfl) (by rfl)) (by rfl) (by first | exact .inl rfl | exact .inr rfl | assumption)) (@ay _ _ _ (@aL _ _ _ _ (@aA _ _ _ _ _ _ _ _ _ _ _ _ _ _ T.l_middle (iY T) hr (by decide) (@ae _ _ _ _ _ (@au _ _ _ _ _ _ _ aI (pv 1) (pv 4) (fun _ _=>rfl)) (@ae _ _ _ _ _ (@au _ _ _ _ _ _ _ aI (pv 1) (@az _ _ _ _ _ _ _ _ bP (pv 4) (@ag _ _ _ _)) (fun _ _=>rfl)) (@ai _) aO) aO) (by rfl) (by decide) (by rfl) (by rfl))))) (@be _)) (@aj _ _ _ _ _ (@aE _ _ 5 _ _ _ _ dW.nd rfl (Or.inl rfl) (@ag _ _ _ _) (by rfl) (by first | exact .inl rfl | exact .inr rfl | assumption)) (@aj _ _ _ _ _ (@bB _ _ _ _ _ _ _ _ (@aG _ _ _ _ _ _ _ _ di (pv 3) (@ag _ _ _ _) (aQ _)) (@ay _ _ _ (@aE _ _ 5 _ _ _ _ dW.nd rfl (Or.inl rfl) (@az _ _ _ _ _ _ _ _ bP (@ag _ _ _ _) (@aA _ _ _ _ _ _ _ _ _ _ _ _ _ _ T.l_draw (aR T) hr (by decide) (@ae _ _ _ _ _ (pv 0) (@ae _ _ _ _ _ (@ag _ _ _ _) (@ai _) aT) af) (by rfl) (by decide) (by rfl) (by rfl))) (by rfl) (by first | exact .inl rfl | exact .inr rfl | assumption))) (@be _)) (@aj _ _ _ _ _ (@aE _ _ 6 _ _ _ _ dW.nd rfl (Or.inl rfl) (@aA _ _ _ _ _ _ _ _ _ _ _ _ _ _ T.l_draw (aR T) hr (by decide) (@ae _ _ _ _ _ (pv 0) (@ae _ _ _ _ _ (pv 2) (@ai _) af) af) (by rfl) (by decide) (by rfl) (by rfl)) (by rfl) (by first | exact .inl rfl | exact .inr rfl | assumption)) (@ay _ _ _ (@aL _ _ _ _ (@aA _ _ _ _ _ _ _ _ _ _ _ _ _ _ T.l_point (cI T) hr (by decide) (@ae _ _ _ _ _ (pv 6) (@ae _ _ _ _ _ (@aA _ _ _ _ _ _ _ _ _ _ _ _ _ _ T.l_draw (aR T) hr (by decide) (@ae _ _ _ _ _ (pv 0) (@ae _ _ _ _ _ (pv 2) (@ai _) af) af) (by rfl) (by decide) (by rfl) (by rfl)) (@ae _ _ _ _ _ (pv 5) (@ai _) af) aK) af) (by rfl) (by decide) (by rfl) (by rfl)))))))))),?_⟩
    refine aH (bU hh (ar (ah rfl) (ar pu_c aB)) (by decide) Bd.small) ?_
    rintro _ H1 ⟨⟨n,rfl,n0,n1⟩,hh1,s1⟩
    obtain⟨ys,hys⟩:=hh.ls
    obtain⟨ys1,hys1⟩:=hh1.ls
    have lp1:=lp.but nsl hys s1
    obtain⟨xs,hx1,hxl⟩:=lp1.ls
    refine cn (dR (bM (cS (ah rfl) pu_c)) fun _=>bM (fO (bD (ar (ah rfl) aB) (SqL.of hx1)) pu_c)) (fun e=>?_) fun _=>?_
    · rw[Bool.and_eq_true,decide_eq_true_eq,decide_eq_true_eq] at e
      refine bn (ig hh1 lp1 nsl (by omega) (by omega) (by rw[hxl]) (ah rfl) (ar (ah rfl) (ar (bD (ar (ah rfl) aB) (SqL.of hx1)) aB))) ?_
      rintro v H2 ⟨hh2,s2,p,hp,tp⟩
      exact k v H2 p hh2 (s1.trans s2) tp ((hdr.old hp).mono (Nat.le_succ _) (Nat.le_refl _))
    refine cn (dR (bM (cS (ah rfl) pu_c)) fun _=>bM (fO (bD (ar (ah rfl) aB) (SqL.of hx1)) pu_c)) (fun e=>?_) fun _=>?_
    · rw[Bool.and_eq_true,decide_eq_true_eq,decide_eq_true_eq] at e
      refine aH (bU hh1 (ar (ah rfl) (ar (cq (bD (ar (ah rfl) aB) (SqL.of hx1)) pu_c) aB)) (by omega) (Bd.small (by omega))) ?_
      rintro _ H2 ⟨⟨j,rfl,j0,j1⟩,hh2,s2⟩
      have lp2:=lp1.but nsl hys1 s2
      obtain⟨xs2,hx2,hxl2⟩:=lp2.ls
      obtain⟨p,hp⟩:∃p,ps[j.toNat]?=some p:=⟨_,List.getElem?_eq_getElem (by omega)⟩
      obtain⟨q,hq⟩:∃q,ps[j.toNat+1]?=some q:=⟨_,List.getElem?_eq_getElem (by omega)⟩
      obtain⟨vp,ep,tp⟩:=lp2.get hx2 hp
      obtain⟨vq,eq,tq⟩:=lp2.get hx2 hq
      have ap:=bA ep
      have aq:=bA eq
      rw[show ((j.toNat:Nat):Int)=j by omega] at ap
      rw[show ((j.toNat+1:Nat):Int)=j+1 by omega] at aq
      have mp:=List.mem_of_getElem? hp
      have mq:=List.mem_of_getElem? hq
      refine bn (wT (ar (bp (ah rfl) (ah rfl) (SqL.of hx2) ap) (ar (bp (ah rfl) (cv (ah rfl) pu_c) (SqL.of hx2) aq) aB)) tp tq ((hdr.sz mp hk hm).mono (by decide)) ((hdr.sz mq hk hm).mono (by decide)) (hdr.lp mp).pos (hdr.lp mq).pos) ?_
      rintro v H3 ⟨s3,r,tr,ir⟩
      exact k v H3 r (hh2.same s3) ((s1.trans s2).trans s3.b) tr (hdr.mid mp mq ir)
    refine bH pu_c ?_
    refine fT (R:=fun v H'=>(∃c:Int,v=.int c/\1<=c/\c<=3)/\HandAt H' hd sc/\SameB hd H H') (v0:=.int 1) (bM (cS (ah rfl) pu_c)) (fun _=>(gT hh1 pu_c (ar (ah rfl) (ar pu_c aB)) (by decide) Bd.small).imp ?_) rfl (fun _=>⟨⟨1,rfl,by decide,by decide⟩,hh1,s1⟩) ?_
    · rintro _ H' ⟨⟨j,rfl,j0,j1⟩,a,b⟩
      exact⟨⟨_,rfl,by omega,by omega⟩,a,s1.trans b⟩
    rintro _ H2 ⟨⟨c,rfl,c1,c3⟩,hh2,s2⟩
    have bw:Bd 9000 w:=Bd.small (by omega)
    refine aH (bU hh2 (ar (ah rfl) (ar (ah rfl) aB)) w0 bw) ?_
    rintro _ H3 ⟨⟨a,rfl,a0,a1⟩,hh3,s3⟩
    refine bn (R:=fun v H'=>HandAt H' hd sc/\SameB hd H H'/\∃r,AtP H' v r/\Dq (kk+1) m (r::ps)) (bR (bi (ah rfl).gv fun x Hx ex=>bi (R1:=fun v H'=>(∃b:Int,v=.int b/\0<=b/\b<w)/\HandAt H' hd sc/\SameB hd H H') ?_ fun y Hy ey=>bi (ah rfl).gv fun _ _ _=>cU) ?_) ?_
    · obtain⟨rfl,rfl⟩:=ex
      exact (bU hh3 (ar (ah rfl) (ar (ah rfl) aB)) w0 bw).imp fun v H' ⟨a,b,c⟩=>⟨a,b,(s2.trans s3).trans c⟩
    · rintro vs H4 ⟨x,H5,r,rfl,⟨rfl,rfl⟩,y,H6,r2,rfl,⟨⟨b,rfl,b0,b1⟩,hh6,s6⟩,z,H7,r3,rfl,⟨rfl,rfl⟩,rfl,rfl⟩ Q f
      exact⟨a,b,c,rfl,by omega,Bd.small (by omega),fun v H' r s t i=>f _ _ ⟨hh6.same s,s6.trans s.b,r,t,(hdr.fresh i hm9 ⟨a0,by omega⟩ ⟨b0,by omega⟩ ⟨c1,c3⟩).mono (Nat.le_succ _) (Nat.le_refl _)⟩⟩
    · rintro v H' ⟨a,s,r,t,d⟩
      exact k v H' r a s t d
structure Fr (f a b c:Int):Prop where
  f:0<f/\f<=10 ^ 5
  a:a.natAbs<=10 ^ 6
  b:b.natAbs<=10 ^ 6
  c:1<=c/\c<=20
def oh:Sp:=fun vs H Q _=>∃hd sc,vs=[.ref hd]/\HandAt H hd sc/\∀v H' f a b c,HandAt H' hd sc->SameB hd H H'->TupT H' v [f,a,b,c]->Fr f a b c->Q v H'
theorem fE:FnScope ["_law_hand_here","_law_factor","_law_right","_law_up"] ["_law_hand_here"] (av d7):=⟨rfl,rfl,rfl,by decide +kernel,rfl,by decide +kernel,by decide +kernel⟩
theorem oH (T:Txt K mg t):FnOk P w K mg base CX0 4 t.f_l_frame t.d_l_frame ["_law_hand_here"] oh:=by
  refine T.l_frame.F.ok (k:=3) fE (fun vs H Q E h=>?_) (fun cdv A outer s H vs Q E hr h=>?_)
  · obtain⟨hd,sc,rfl,_⟩:=h
    rfl
  · obtain⟨hd,sc,rfl,hh,k⟩:=h
    refine⟨_,(@aj _ _ _ _ _ (@bB _ _ _ _ _ _ _ _ (@aG _ _ _ _ _ _ _ _ fP (@aA _ _ _ _ _ _ _ _ _ _ _ _ _ _ T.l_draw (aR T) hr (by decide) (@ae _ _ _ _ _ (pv 0) (@ae _ _ _ _ _ (@ag _ _ _ _) (@ai _) aT) af) (by rfl) (by decide) (by rfl) (by rfl)) (@ag _ _ _ _) (aQ _)) (@ay _ _ _ (@aL _ _ _ _ (@bN _ _ _ _ _ (@ae _ _ _ _ _ (@ag _ _ _ _) (@ae _ _ _ _ _ (@ag _ _ _ _) (@ae _ _ _ _ _ (@ag _ _ _ _) (@ae _ _ _ _ _ (@ag _ _ _ _) (@ai _) aT) aT) aT) aT)))) (@be _)) (@aj _ _ _ _ _ (@aE _ _ 1 _ _ _ _ fE.nd rfl (Or.inl rfl) (@au _ _ _ _ _ _ _ aI (@cD _ _ _ _ (@ae _ _ _ _ _ (@ag _ _ _ _) (@ae _ _ _ _ _ (@ag _ _ _ _) (@ae _ _ _ _ _ (@ag _ _ _ _) (@ae _ _ _ _ _ (@az _ _ _ _ _ _ _ _ eB (@ag _ _ _ _) (@ag _ _ _ _)) (@ai _) aW) aT) aT) aT)) (@aA _ _ _ _ _ _ _ _ _ _ _ _ _ _ T.l_draw (aR T) hr (by decide) (@ae _ _ _ _ _ (pv 0) (@ae _ _ _ _ _ (@ag _ _ _ _) (@ai _) aT) af) (by rfl) (by decide) (by rfl) (by rfl)) (fun _ _=>rfl)) (by rfl) (by first | exact .inl rfl | exact .inr rfl | assumption)) (@aj _ _ _ _ _ (@aE _ _ 2 _ _ _ _ fE.nd rfl (Or.inl rfl) (@az _ _ _ _ _ _ _ _ bO (@aA _ _ _ _ _ _ _ _ _ _ _ _ _ _ T.l_draw (aR T) hr (by decide) (@ae _ _ _ _ _ (pv 0) (@ae _ _ _ _ _ (@az _ _ _ _ _ _ _ _ bP (@az _ _ _ _ _ _ _ _ aD (@ag _ _ _ _) (@az _ _ _ _ _ _ _ _ eB (@ag _ _ _ _) (@ag _ _ _ _))) (@ag _ _ _ _)) (@ai _) aW) af) (by rfl) (by decide) (by rfl) (by rfl)) (@az _ _ _ _ _ _ _ _ eB (@ag _ _ _ _) (@ag _ _ _ _))) (by rfl) (by first | exact .inl rfl | exact .inr rfl | assumption)) (@aj _ _ _ _ _ (@aE _ _ 3 _ _ _ _ fE.nd rfl (Or.inl rfl) (@az _ _ _ _ _ _ _ _ bO (@aA _ _ _ _ _ _ _ _ _ _ _ _ _ _ T.l_draw (aR T) hr (by decide) (@ae _ _ _ _ _ (pv 0) (@ae _ _ _ _ _ (@az _ _ _ _ _ _ _ _ bP (@az _ _ _ _ _ _ _ _ aD (@ag _ _ _ _) (@az _ _ _ _ _ _ _ _ eB (@ag _ _ _ _) (@ag _ _ _ _))) (@ag _ _ _ _)) (@ai _) aW) af) (by rfl) (by decide) (by rfl) (by rfl)) (@az _ _ _ _ _ _ _ _ eB (@ag _ _ _ _) (@ag _ _ _ _))) (by rfl) (by first | exact .inl rfl | exact .inr rfl | assumption)) (@ay _ _ _ (@aL _ _ _ _ (@bN _ _ _ _ _ (@ae _ _ _ _ _ (pv 1) (@ae _ _ _ _ _ (pv 2) (@ae _ _ _ _ _ (pv 3) (@ae _ _ _ _ _ (@az _ _ _ _ _ _ _ _ bP (@ag _ _ _ _) (@aA _ _ _ _ _ _ _ _ _ _ _ _ _ _ T.l_draw (aR T) hr (by decide) (@ae _ _ _ _ _ (pv 0) (@ae _ _ _ _ _ (@ag _ _ _ _) (@ai _) aT) af) (by rfl) (by decide) (by rfl) (by rfl))) (@ai _) aW) af) af) af)))))))),?_⟩
    refine gl (R:=fun b H'=>HandAt H' hd sc/\SameB hd H H') ?_ ?_ ?_
    · intro Q f
      refine bU hh (ar (ah rfl) (ar pu_c aB)) (by decide) Bd.small _ ?_
      rintro _ H1 ⟨⟨n,rfl,n0,n1⟩,hh1,s1⟩
      exact⟨n,0,rfl,rfl,_,rfl,f _ _ ⟨hh1,s1⟩⟩
    · rintro H1 ⟨hh1,s1⟩
      refine bn (cx (ar pu_c (ar pu_c (ar pu_c (ar pu_c aB)))) (by show 4<=sizeLine;decide)) ?_
      rintro _ _ ⟨p,hp,rfl,rfl⟩
      exact k _ _ 1 0 0 1 (hh1.same (Same.upd hp)) (s1.trans (Same.upd hp).b) (TupT.of (ns:=[1,0,0,1]) ak) ⟨⟨by decide,by decide⟩,by decide,by decide,by decide,by decide⟩
    rintro H1 ⟨hh1,s1⟩
    refine aH (qi (ys:=[1,7,1000,10 ^ 5]) (m:=10 ^ 5) hh1 (ar pu_c (ar pu_c (ar pu_c (ar (gK pu_c pu_c ⟨by decide,by decide,by decide⟩) aB)))) (by decide) (by decide) (by decide) (fun _=>ar (ah rfl) (ar pu_c aB))) ?_
    rintro _ H2 ⟨⟨f,rfl,f0,f1⟩,hh2,s2⟩
    have D2:∀{σ:L2.St} {H:Hp},σ[0]?=some (some (.ref hd))->HandAt H hd sc->Gv (tOp (rI0 fun i j=>.int (i - j)) (ce cz [] E0 (bG (cm 0) (bG (tOp (rI0 fun i j=>.int (i+j)) (tOp (rI IntMulOk fun i j=>.int (i*j)) (tC (.int 2)) (tOp (rI pj fun i j=>.int (i ^ j.toNat)) (tC (.int 10)) (tC (.int 6)))) (tC (.int 1))) df))) (tOp (rI pj fun i j=>.int (i ^ j.toNat)) (tC (.int 10)) (tC (.int 6)))) σ H (fun v H'=>(∃j:Int,v=.int (j - 10 ^ 6)/\0<=j/\j<2*10 ^ 6+1)/\HandAt H' hd sc/\SameB hd H H'):=fun {σ H} h0 hh=>gS (n:=2*10 ^ 6+1) (c:=10 ^ 6) hh (fun _=>gK pu_c pu_c ⟨by decide,by decide,by decide⟩) (ar (ah h0) (ar (cv (aJ pu_c (gK pu_c pu_c ⟨by decide,by decide,by decide⟩) (IntMulOk.of_left (by decide))) pu_c) aB)) (by decide) Bd.small
    refine aH (D2 rfl hh2) ?_
    rintro _ H3 ⟨⟨a,rfl,a0,a1⟩,hh3,s3⟩
    refine aH (D2 rfl hh3) ?_
    rintro _ H4 ⟨⟨b,rfl,b0,b1⟩,hh4,s4⟩
    refine bn (vH (bi (ah rfl).gv fun x Hx ex=>bi (ah rfl).gv fun y Hy ey=>bi (ah rfl).gv fun z Hz ez=>bi (R1:=fun v H'=>(∃j:Int,v=.int (1+j)/\0<=j/\j<20)/\HandAt H' hd sc/\SameB hd H4 H') ?_ fun _ _ _=>cU) ?_) ?_
    · obtain⟨rfl,rfl⟩:=ex
      obtain⟨rfl,rfl⟩:=ey
      obtain⟨rfl,rfl⟩:=ez
      exact gT hh4 pu_c (ar (ah rfl) (ar pu_c aB)) (by decide) Bd.small
    · rintro vs H5 ⟨x,H6,r,rfl,⟨rfl,rfl⟩,y,H7,r2,rfl,⟨rfl,rfl⟩,z,H8,r3,rfl,⟨rfl,rfl⟩,u,H9,r4,rfl,_,rfl,rfl⟩
      show 4<=sizeLine
      decide
    · rintro _ _ ⟨vs,H5,p,⟨x,H6,r,rfl,⟨rfl,rfl⟩,y,H7,r2,rfl,⟨rfl,rfl⟩,z,H8,r3,rfl,⟨rfl,rfl⟩,u,H9,r4,rfl,⟨⟨j,rfl,j0,j1⟩,hh9,s9⟩,rfl,rfl⟩,hp,rfl,rfl⟩
      exact k _ _ f (a - 10 ^ 6) (b - 10 ^ 6) (1+j) (hh9.same (Same.upd hp)) ((((s1.trans s2).trans s3).trans s4).trans (s9.trans (Same.upd hp).b)) (TupT.of (ns:=[f,a - 10 ^ 6,b - 10 ^ 6,1+j]) ak) ⟨⟨f0,f1⟩,by omega,by omega,by omega,by omega⟩
def iO:Sp:=fun vs H Q _=>∃fv v f a b c p,vs=[fv,v]/\TupT H fv [f,a,b,c]/\Fr f a b c/\AtP H v p/\Sz 500 p/\0<p.z/\∀w H',Same H H'->AtP H' w (frP f a b c p)->Q w H'
theorem v6 {f a b c:Int}{p:Pt3}(F:Fr f a b c)(p0:0<p.z)(zp:Sz 500 p):Lp (frP f a b c p)/\Sz 600 (frP f a b c p):=by
  have s64:∀{i:Int},i.natAbs<=10 ^ 6->Bd 64 i:=fun h=>Bd.small (by omega) (by decide)
  have bf:Bd 64 f:=s64 (by have:=F.f;omega)
  have ba:Bd 64 a:=s64 F.a
  have bb:Bd 64 b:=s64 F.b
  have bc:Bd 64 c:=s64 (by have:=F.c;omega)
  have c0:0<c:=by have:=F.c;omega
  obtain⟨i,_⟩:=lO (a:=f*p.x+a*p.z) (b:=f*p.y+b*p.z) (Int.mul_pos p0 c0)
  rw[lZ p0 c0 i]
  refine⟨i.lp,Sz.is3 i ?_ ?_ ?_⟩
  · exact ((bf.mul zp.x).add (ba.mul zp.z)).mono (by decide)
  · exact ((bf.mul zp.y).add (bb.mul zp.z)).mono (by decide)
  · exact (zp.z.mul bc).mono (by decide)
theorem wV {f a b c:Int}{p q:Pt3}(F:Fr f a b c)(p0:0<p.z)(q0:0<q.z)(h:bS p q):bS (frP f a b c p) (frP f a b c q):=by
  have c0:0<c:=by have:=F.c;omega
  obtain⟨i,_⟩:=lO (a:=f*p.x+a*p.z) (b:=f*p.y+b*p.z) (Int.mul_pos p0 c0)
  obtain⟨j,_⟩:=lO (a:=f*q.x+a*q.z) (b:=f*q.y+b*q.z) (Int.mul_pos q0 c0)
  rw[lZ p0 c0 i,lZ q0 c0 j]
  exact uw F.f.1 c0 p0 q0 h i j
theorem fX:FnScope ["_law_frame_here","_law_p","_law_a","_law_b"] ["_law_frame_here","_law_p"] (av dA):=⟨rfl,rfl,rfl,by decide +kernel,rfl,by decide +kernel,by decide +kernel⟩
theorem gf (T:Txt K mg t):FnOk P w K mg base CX0 3 t.f_l_framed t.d_l_framed ["_law_frame_here","_law_p"] iO:=by
  refine T.l_framed.F.ok (k:=2) fX (fun vs H Q E h=>?_) (fun cdv A outer s H vs Q E hr h=>?_)
  · obtain⟨fv,v,f,a,b,c,p,rfl,_⟩:=h
    rfl
  · obtain⟨fv,v,f,a,b,c,p,rfl,⟨x,rfl,hx⟩,F,⟨y,rfl,hy⟩,zp,p0,k⟩:=h
    refine⟨_,(@aj _ _ _ _ _ (@aE _ _ 2 _ _ _ _ fX.nd rfl (Or.inl rfl) (@az _ _ _ _ _ _ _ _ bP (@az _ _ _ _ _ _ _ _ aD (@au _ _ _ _ _ _ _ ax (pv 0) (@ag _ _ _ _) (fun _ _=>rfl)) (@au _ _ _ _ _ _ _ ax (pv 1) (@ag _ _ _ _) (fun _ _=>rfl))) (@az _ _ _ _ _ _ _ _ aD (@au _ _ _ _ _ _ _ ax (pv 0) (@ag _ _ _ _) (fun _ _=>rfl)) (@au _ _ _ _ _ _ _ ax (pv 1) (@ag _ _ _ _) (fun _ _=>rfl)))) (by rfl) (by first | exact .inl rfl | exact .inr rfl | assumption)) (@aj _ _ _ _ _ (@aE _ _ 3 _ _ _ _ fX.nd rfl (Or.inl rfl) (@az _ _ _ _ _ _ _ _ bP (@az _ _ _ _ _ _ _ _ aD (@au _ _ _ _ _ _ _ ax (pv 0) (@ag _ _ _ _) (fun _ _=>rfl)) (@au _ _ _ _ _ _ _ ax (pv 1) (@ag _ _ _ _) (fun _ _=>rfl))) (@az _ _ _ _ _ _ _ _ aD (@au _ _ _ _ _ _ _ ax (pv 0) (@ag _ _ _ _) (fun _ _=>rfl)) (@au _ _ _ _ _ _ _ ax (pv 1) (@ag _ _ _ _) (fun _ _=>rfl)))) (by rfl) (by first | exact .inl rfl | exact .inr rfl | assumption)) (@ay _ _ _ (@aL _ _ _ _ (@aA _ _ _ _ _ _ _ _ _ _ _ _ _ _ T.l_point (cI T) hr (by decide) (@ae _ _ _ _ _ (pv 2) (@ae _ _ _ _ _ (pv 3) (@ae _ _ _ _ _ (@az _ _ _ _ _ _ _ _ aD (@au _ _ _ _ _ _ _ ax (pv 1) (@ag _ _ _ _) (fun _ _=>rfl)) (@au _ _ _ _ _ _ _ ax (pv 0) (@ag _ _ _ _) (fun _ _=>rfl))) (@ai _) aW) af) af) (by rfl) (by decide) (by rfl) (by rfl)))))),?_⟩
    have s64:∀{i:Int},i.natAbs<=10 ^ 6->Bd 64 i:=fun h=>Bd.small (by omega) (by decide)
    have bf:Bd 64 f:=s64 (by have:=F.f;omega)
    have ba:Bd 64 a:=s64 F.a
    have bb:Bd 64 b:=s64 F.b
    have bc:Bd 64 c:=s64 (by have:=F.c;omega)
    refine bH (cv (aJ (aw (ah rfl) pu_c (SqT.of (hx)) rfl) (aw (ah rfl) pu_c (SqT.of (hy)) rfl) (aC (bf) (zp.x) (by decide))) (aJ (aw (ah rfl) pu_c (SqT.of (hx)) rfl) (aw (ah rfl) pu_c (SqT.of (hy)) rfl) (aC (ba) (zp.z) (by decide)))) ?_
    refine bH (cv (aJ (aw (ah rfl) pu_c (SqT.of (hx)) rfl) (aw (ah rfl) pu_c (SqT.of (hy)) rfl) (aC (bf) (zp.y) (by decide))) (aJ (aw (ah rfl) pu_c (SqT.of (hx)) rfl) (aw (ah rfl) pu_c (SqT.of (hy)) rfl) (aC (bb) (zp.z) (by decide)))) ?_
    refine bn (ij (ar (ah rfl) (ar (ah rfl) (ar (aJ (aw (ah rfl) pu_c (SqT.of (hy)) rfl) (aw (ah rfl) pu_c (SqT.of (hx)) rfl) (aC (zp.z) (bc) (by decide))) aB))) (Int.mul_pos p0 (by have:=F.c;omega)) ((zp.z.mul bc).mono (by decide))) ?_
    rintro v H' ⟨s,r,t,i⟩
    refine k v H' s ?_
    rw[lZ p0 (by have:=F.c;omega) i]
    exact t
theorem qh {σ:L2.St}{H:Hp}{ta tb tc:TE}{i j k:Int}(ha:Pu ta σ H (.int i))(hb:Pu tb σ H (.int j))(hc:Pu tc σ H (.int k)):Gv (nW (bG ta (bG tb (bG tc df)))) σ H (fun v H'=>Same H H'/\TupT H' v [i,j,k]):=
  (cx (ar ha (ar hb (ar hc aB))) (by show 3<=sizeLine;decide)).imp fun v H' ⟨p,hp,e1,e2⟩=>by
    subst e1 e2
    exact⟨Same.upd hp,p,rfl,ak⟩
def oj:Sp:=fun vs H Q _=>∃va vb vc vd x y,vs=[va,vb,vc,vd]/\AtP H va x.1/\AtP H vb x.2/\AtP H vc y.1/\AtP H vd y.2/\OkS 900 x/\OkS 900 y/\Strict x y/\∀v H',Same H H'->AtP H' v (crS x y)->Q v H'
theorem dj:FnScope ["_law_a","_law_b","_law_c","_law_d","_law_one","_law_two","_law_x","_law_y","_law_z"] ["_law_a","_law_b","_law_c","_law_d"] (av d8):=⟨rfl,rfl,rfl,by decide +kernel,rfl,by decide +kernel,by decide +kernel⟩
theorem oI (T:Txt K mg t):FnOk P w K mg base CX0 3 t.f_l_cross t.d_l_cross ["_law_a","_law_b","_law_c","_law_d"] oj:=by
  refine T.l_cross.F.ok (k:=2) dj (fun vs H Q E h=>?_) (fun cdv A outer s H vs Q E hr h=>?_)
  · obtain⟨va,vb,vc,vd,x,y,rfl,_⟩:=h
    rfl
  · obtain⟨va,vb,vc,vd,x,y,rfl,⟨aa,rfl,ha⟩,⟨ab,rfl,hb⟩,⟨ac,rfl,hc⟩,⟨ad,rfl,hd⟩,ox,oy,st,k⟩:=h
    refine⟨_,(@aj _ _ _ _ _ (@aE _ _ 4 _ _ _ _ dj.nd rfl (Or.inl rfl) (@bN _ _ _ _ _ (@ae _ _ _ _ _ (@az _ _ _ _ _ _ _ _ bO (@az _ _ _ _ _ _ _ _ aD (@au _ _ _ _ _ _ _ ax (pv 0) (@ag _ _ _ _) (fun _ _=>rfl)) (@au _ _ _ _ _ _ _ ax (pv 1) (@ag _ _ _ _) (fun _ _=>rfl))) (@az _ _ _ _ _ _ _ _ aD (@au _ _ _ _ _ _ _ ax (pv 0) (@ag _ _ _ _) (fun _ _=>rfl)) (@au _ _ _ _ _ _ _ ax (pv 1) (@ag _ _ _ _) (fun _ _=>rfl)))) (@ae _ _ _ _ _ (@az _ _ _ _ _ _ _ _ bO (@az _ _ _ _ _ _ _ _ aD (@au _ _ _ _ _ _ _ ax (pv 0) (@ag _ _ _ _) (fun _ _=>rfl)) (@au _ _ _ _ _ _ _ ax (pv 1) (@ag _ _ _ _) (fun _ _=>rfl))) (@az _ _ _ _ _ _ _ _ aD (@au _ _ _ _ _ _ _ ax (pv 0) (@ag _ _ _ _) (fun _ _=>rfl)) (@au _ _ _ _ _ _ _ ax (pv 1) (@ag _ _ _ _) (fun _ _=>rfl)))) (@ae _ _ _ _ _ (@az _ _ _ _ _ _ _ _ bO (@az _ _ _ _ _ _ _ _ aD (@au _ _ _ _ _ _ _ ax (pv 0) (@ag _ _ _ _) (fun _ _=>rfl)) (@au _ _ _ _ _ _ _ ax (pv 1) (@ag _ _ _ _) (fun _ _=>rfl))) (@az _ _ _ _ _ _ _ _ aD (@au _ _ _ _ _ _ _ ax (pv 0) (@ag _ _ _ _) (fun _ _=>rfl)) (@au _ _ _ _ _ _ _ ax (pv 1) (@ag _ _ _ _) (fun _ _=>rfl)))) (@ai _) aW) aW) aW)) (by rfl) (by first | exact .inl rfl | exact .inr rfl | assumption)) (@aj _ _ _ _ _ (@aE _ _ 5 _ _ _ _ dj.nd rfl (Or.inl rfl) (@bN _ _ _ _ _ (@ae _ _ _ _ _ (@az _ _ _ _ _ _ _ _ bO (@az _ _ _ _ _ _ _ _ aD (@au _ _ _ _ _ _ _ ax (pv 2) (@ag _ _ _ _) (fun _ _=>rfl)) (@au _ _ _ _ _ _ _ ax (pv 3) (@ag _ _ _ _) (fun _ _=>rfl))) (@az _ _ _ _ _ _ _ _ aD (@au _ _ _ _ _ _ _ ax (pv 2) (@ag _ _ _ _) (fun _ _=>rfl)) (@au _ _ _ _ _ _ _ ax (pv 3) (@ag _ _ _ _) (fun _ _=>rfl)))) (@ae _ _ _ _ _ (@az _ _ _ _ _ _ _ _ bO (@az _ _ _ _ _ _ _ _ aD (@au _ _ _ _ _ _ _ ax (pv 2) (@ag _ _ _ _) (fun _ _=>rfl)) (@au _ _ _ _ _ _ _ ax (pv 3) (@ag _ _ _ _) (fun _ _=>rfl))) (@az _ _ _ _ _ _ _ _ aD (@au _ _ _ _ _ _ _ ax (pv 2) (@ag _ _ _ _) (fun _ _=>rfl)) (@au _ _ _ _ _ _ _ ax (pv 3) (@ag _ _ _ _) (fun _ _=>rfl)))) (@ae _ _ _ _ _ (@az _ _ _ _ _ _ _ _ bO (@az _ _ _ _ _ _ _ _ aD (@au _ _ _ _ _ _ _ ax (pv 2) (@ag _ _ _ _) (fun _ _=>rfl)) (@au _ _ _ _ _ _ _ ax (pv 3) (@ag _ _ _ _) (fun _ _=>rfl))) (@az _ _ _ _ _ _ _ _ aD (@au _ _ _ _ _ _ _ ax (pv 2) (@ag _ _ _ _) (fun _ _=>rfl)) (@au _ _ _ _ _ _ _ ax (pv 3) (@ag _ _ _ _) (fun _ _=>rfl)))) (@ai _) aW) aW) aW)) (by rfl) (by first | exact .inl rfl | exact .inr rfl | assumption)) (@aj _ _ _ _ _ (@aE _ _ 6 _ _ _ _ dj.nd rfl (Or.inl rfl) (@az _ _ _ _ _ _ _ _ bO (@az _ _ _ _ _ _ _ _ aD (@au _ _ _ _ _ _ _ ax (pv 4) (@ag _ _ _ _) (fun _ _=>rfl)) (@au _ _ _ _ _ _ _ ax (pv 5) (@ag _ _ _ _) (fun _ _=>rfl))) (@az _ _ _ _ _ _ _ _ aD (@au _ _ _ _ _ _ _ ax (pv 4) (@ag _ _ _ _) (fun _ _=>rfl)) (@au _ _ _ _ _ _ _ ax (pv 5) (@ag _ _ _ _) (fun _ _=>rfl)))) (by rfl) (by first | exact .inl rfl | exact .inr rfl | assumption)) (@aj _ _ _ _ _ (@aE _ _ 7 _ _ _ _ dj.nd rfl (Or.inl rfl) (@az _ _ _ _ _ _ _ _ bO (@az _ _ _ _ _ _ _ _ aD (@au _ _ _ _ _ _ _ ax (pv 4) (@ag _ _ _ _) (fun _ _=>rfl)) (@au _ _ _ _ _ _ _ ax (pv 5) (@ag _ _ _ _) (fun _ _=>rfl))) (@az _ _ _ _ _ _ _ _ aD (@au _ _ _ _ _ _ _ ax (pv 4) (@ag _ _ _ _) (fun _ _=>rfl)) (@au _ _ _ _ _ _ _ ax (pv 5) (@ag _ _ _ _) (fun _ _=>rfl)))) (by rfl) (by first | exact .inl rfl | exact .inr rfl | assumption)) (@aj _ _ _ _ _ (@aE _ _ 8 _ _ _ _ dj.nd rfl (Or.inl rfl) (@az _ _ _ _ _ _ _ _ bO (@az _ _ _ _ _ _ _ _ aD (@au _ _ _ _ _ _ _ ax (pv 4) (@ag _ _ _ _) (fun _ _=>rfl)) (@au _ _ _ _ _ _ _ ax (pv 5) (@ag _ _ _ _) (fun _ _=>rfl))) (@az _ _ _ _ _ _ _ _ aD (@au _ _ _ _ _ _ _ ax (pv 4) (@ag _ _ _ _) (fun _ _=>rfl)) (@au _ _ _ _ _ _ _ ax (pv 5) (@ag _ _ _ _) (fun _ _=>rfl)))) (by rfl) (by first | exact .inl rfl | exact .inr rfl | assumption)) (@aj _ _ _ _ _ (@bB _ _ _ _ _ _ _ _ (@aG _ _ _ _ _ _ _ _ eJ (pv 8) (@ag _ _ _ _) (aQ _)) (@ay _ _ _ (@aL _ _ _ _ (@aA _ _ _ _ _ _ _ _ _ _ _ _ _ _ T.l_point (cI T) hr (by decide) (@ae _ _ _ _ _ (@gF _ _ _ _ _ _ eN (pv 6)) (@ae _ _ _ _ _ (@gF _ _ _ _ _ _ eN (pv 7)) (@ae _ _ _ _ _ (@gF _ _ _ _ _ _ eN (pv 8)) (@ai _) lw) lw) lw) (by rfl) (by decide) (by rfl) (by rfl)))) (@be _)) (@ay _ _ _ (@aL _ _ _ _ (@aA _ _ _ _ _ _ _ _ _ _ _ _ _ _ T.l_point (cI T) hr (by decide) (@ae _ _ _ _ _ (pv 6) (@ae _ _ _ _ _ (pv 7) (@ae _ _ _ _ _ (pv 8) (@ai _) af) af) af) (by rfl) (by decide) (by rfl) (by rfl)))))))))),?_⟩
    obtain⟨a,b⟩:=x
    obtain⟨c,d⟩:=y
    have za:=ox.za
    have zb:=ox.zb
    have zc:=oy.za
    have zd:=oy.zb
    dsimp only at ha hb hc hd za zb zc zd
    refine aH (R:=fun v H'=>Same H H'/\AtP H' v (ao a b)) (qh (cq (aJ (aw (ah rfl) pu_c (SqT.of (ha)) rfl) (aw (ah rfl) pu_c (SqT.of (hb)) rfl) (aC (za.y) (zb.z) (by decide))) (aJ (aw (ah rfl) pu_c (SqT.of (ha)) rfl) (aw (ah rfl) pu_c (SqT.of (hb)) rfl) (aC (za.z) (zb.y) (by decide)))) (cq (aJ (aw (ah rfl) pu_c (SqT.of (ha)) rfl) (aw (ah rfl) pu_c (SqT.of (hb)) rfl) (aC (za.z) (zb.x) (by decide))) (aJ (aw (ah rfl) pu_c (SqT.of (ha)) rfl) (aw (ah rfl) pu_c (SqT.of (hb)) rfl) (aC (za.x) (zb.z) (by decide)))) (cq (aJ (aw (ah rfl) pu_c (SqT.of (ha)) rfl) (aw (ah rfl) pu_c (SqT.of (hb)) rfl) (aC (za.x) (zb.y) (by decide))) (aJ (aw (ah rfl) pu_c (SqT.of (ha)) rfl) (aw (ah rfl) pu_c (SqT.of (hb)) rfl) (aC (za.y) (zb.x) (by decide))))) ?_
    rintro _ H1 ⟨s1,q1,rfl,h1⟩
    have hc1:=s1 _ _ hc
    have hd1:=s1 _ _ hd
    refine aH (R:=fun v H'=>Same H1 H'/\AtP H' v (ao c d)) (qh (cq (aJ (aw (ah rfl) pu_c (SqT.of (hc1)) rfl) (aw (ah rfl) pu_c (SqT.of (hd1)) rfl) (aC (zc.y) (zd.z) (by decide))) (aJ (aw (ah rfl) pu_c (SqT.of (hc1)) rfl) (aw (ah rfl) pu_c (SqT.of (hd1)) rfl) (aC (zc.z) (zd.y) (by decide)))) (cq (aJ (aw (ah rfl) pu_c (SqT.of (hc1)) rfl) (aw (ah rfl) pu_c (SqT.of (hd1)) rfl) (aC (zc.z) (zd.x) (by decide))) (aJ (aw (ah rfl) pu_c (SqT.of (hc1)) rfl) (aw (ah rfl) pu_c (SqT.of (hd1)) rfl) (aC (zc.x) (zd.z) (by decide)))) (cq (aJ (aw (ah rfl) pu_c (SqT.of (hc1)) rfl) (aw (ah rfl) pu_c (SqT.of (hd1)) rfl) (aC (zc.x) (zd.y) (by decide))) (aJ (aw (ah rfl) pu_c (SqT.of (hc1)) rfl) (aw (ah rfl) pu_c (SqT.of (hd1)) rfl) (aC (zc.y) (zd.x) (by decide))))) ?_
    rintro _ H2 ⟨s2,q2,rfl,h2⟩
    have h1':=s2 _ _ h1
    have zl:=eR za zb
    have zm:=eR zc zd
    have zx:=eR zl zm
    refine bH (v:=.int (ao (ao a b) (ao c d)).x) (cq (aJ (aw (ah rfl) pu_c (SqT.of (h1')) rfl) (aw (ah rfl) pu_c (SqT.of (h2)) rfl) (aC (zl.y) (zm.z) (by decide))) (aJ (aw (ah rfl) pu_c (SqT.of (h1')) rfl) (aw (ah rfl) pu_c (SqT.of (h2)) rfl) (aC (zl.z) (zm.y) (by decide)))) ?_
    refine bH (v:=.int (ao (ao a b) (ao c d)).y) (cq (aJ (aw (ah rfl) pu_c (SqT.of (h1')) rfl) (aw (ah rfl) pu_c (SqT.of (h2)) rfl) (aC (zl.z) (zm.x) (by decide))) (aJ (aw (ah rfl) pu_c (SqT.of (h1')) rfl) (aw (ah rfl) pu_c (SqT.of (h2)) rfl) (aC (zl.x) (zm.z) (by decide)))) ?_
    refine bH (v:=.int (ao (ao a b) (ao c d)).z) (cq (aJ (aw (ah rfl) pu_c (SqT.of (h1')) rfl) (aw (ah rfl) pu_c (SqT.of (h2)) rfl) (aC (zl.x) (zm.y) (by decide))) (aJ (aw (ah rfl) pu_c (SqT.of (h1')) rfl) (aw (ah rfl) pu_c (SqT.of (h2)) rfl) (aC (zl.y) (zm.x) (by decide)))) ?_
    have hz:(ao (ao a b) (ao c d)).z≠0:=(eE oy.a.pos oy.b.pos oy.ab (oB st.1)).1
    have kk:∀v H',Same H H'->AtP H' v (pbF (ao (ao a b) (ao c d)).x (ao (ao a b) (ao c d)).y (ao (ao a b) (ao c d)).z)->Q v H':=k
    generalize ao (ao a b) (ao c d)=X at zx hz kk ⊢
    refine cn (bM (em (ah rfl) pu_c)) (fun e=>?_) fun e=>?_
    · have e':X.z<0:=by simpa using e
      refine bn (ij (ar (gL (ah rfl)) (ar (gL (ah rfl)) (ar (gL (ah rfl)) aB))) (by omega) (zx.z.neg.mono (by decide))) ?_
      rintro v H' ⟨s',r,t,i⟩
      refine kk v H' (s1.trans (s2.trans s')) ?_
      rw[vi hz (by rw[Int.zero_sub,Int.zero_sub,Int.zero_sub];exact i)]
      exact t
    · have e':¬X.z<0:=by simpa using e
      refine bn (ij (ar (ah rfl) (ar (ah rfl) (ar (ah rfl) aB))) (by omega) (zx.z.mono (by decide))) ?_
      rintro v H' ⟨s',r,t,i⟩
      refine kk v H' (s1.trans (s2.trans s')) ?_
      rw[tm hz i]
      exact t
theorem uT {σ:L2.St}{H:Hp}{D:Ends}{i:Nat}{te:TE}{a b:Int}(h:σ[i]?=some (some (.int a)))(he:Pu te σ H (.int b))(q:D.nx (σ.set i (some (.int (a - b)))) H):xf i te (ipI fun i j=>i - j) D σ H:=⟨_,h,he _ ⟨a,b,rfl,rfl,q⟩⟩
theorem pL {row:List Pt3}{p:Pt3}{j:Nat}(h:Srt row)(hp:Lp p)(hb:∀q∈row.drop j,ahd p q=true)(hj:∀q,row[j - 1]?=some q->0<j->ahd p q=false)(hn:∀q,row[j - 1]?=some q->0<j->q≠p)(hl:j<=row.length) :
    Srt (row.take j++p::row.drop j)/\∀q,q∈row.take j++p::row.drop j↔q∈row∨q=p:=by
  have hh:Srt (row.take j++row.drop j):=by rw[List.take_append_drop];exact h
  obtain⟨s1,s2,s3⟩:=hh.parts
  have hf:∀q∈row.take j,ahd q p=true:=fun q hq=>by
    have hj0:0<j:=by
      rcases Nat.eq_zero_or_pos j with e|e
      · rw[e,List.take_zero] at hq;cases hq
      · exact e
    obtain⟨l,hlq⟩:∃l,row[j - 1]?=some l:=⟨_,List.getElem?_eq_getElem (by omega)⟩
    have a1:=hj l hlq hj0
    have a2:=hn l hlq hj0
    have ll:=h.1 l (List.mem_of_getElem? hlq)
    have lp:ahd l p=true:=by
      rcases ee ll hp with e|e|e
      · exact absurd e a2
      · exact e
      · rw[e] at a1;cases a1
    obtain⟨i,hi⟩:=List.getElem?_of_mem hq
    rw[List.getElem?_take] at hi
    split at hi
    · rename_i hij
      by_cases e:i=j - 1
      · rw[e,hlq] at hi;cases hi;exact lp
      · have hlt:i<j - 1:=by omega
        have:=List.pairwise_iff_getElem.mp h.2 i (j - 1) (by omega) (by omega) hlt
        have e1:row[i]'(by omega)=q:=by
          have:=List.getElem?_eq_getElem (l:=row) (i:=i) (by omega)
          rw[this] at hi;exact Option.some.inj hi
        have e2:row[j - 1]'(by omega)=l:=by
          have:=List.getElem?_eq_getElem (l:=row) (i:=j - 1) (by omega)
          rw[this] at hlq;exact Option.some.inj hlq
        rw[e1,e2] at this
        exact mf (h.1 q (List.mem_of_mem_take hq)) ll hp this lp
    · cases hi
  refine⟨Srt.join s1 (Srt.cons hp s2 hb) fun a ha b hb'=>?_,fun q=>?_⟩
  · rcases List.mem_cons.mp hb' with rfl|hb'
    · exact hf a ha
    · exact s3 a ha b hb'
  · rw[List.mem_append,List.mem_cons]
    constructor
    · rintro (h|h|h)
      · exact .inl (List.mem_of_mem_take h)
      · exact .inr h
      · exact .inl (List.mem_of_mem_drop h)
    · rintro (h|h)
      · rw[←List.take_append_drop j row,List.mem_append] at h
        rcases h with h|h
        · exact .inl h
        · exact .inr (.inr h)
      · exact .inr (.inl h)
def mF:Sp:=fun vs H Q _=>∃l ps,vs=[.ref l]/\LP H l ps/\(∀p∈ps,Lp p)/\(∀p∈ps,Sz 4000 p)/\ps.length<=300/\∀r H',H r=none->Same H H'->LP H' r (bo ps)->Q (.ref r) H'
theorem dM:FnScope ["_law_points_here","_law_row","_law_p","_law_at"] ["_law_points_here"] (av dw):=⟨rfl,rfl,rfl,by decide +kernel,rfl,by decide +kernel,by decide +kernel⟩
theorem iX (T:Txt K mg t):FnOk P w K mg base CX0 2 t.f_l_sorted t.d_l_sorted ["_law_points_here"] mF:=by
  refine T.l_sorted.F.ok (k:=1) dM (fun vs H Q E h=>?_) (fun cdv A outer s H vs Q E hr h=>?_)
  · obtain⟨l,ps,rfl,_⟩:=h
    rfl
  · obtain⟨l,ps,rfl,⟨us,hl,tu⟩,lps,zp,np,k⟩:=h
    refine⟨_,(@aj _ _ _ _ _ (@aE _ _ 1 _ _ _ _ dM.nd rfl (Or.inl rfl) (@cD _ _ _ _ (@ai _)) (by rfl) (by first | exact .inl rfl | exact .inr rfl | assumption)) (@aj _ _ _ _ _ (@eP _ _ _ _ _ _ _ _ PassesOwn.never rfl (@cf _ _ _ _ (pv 0)) (@aM _ _ 2 _ dM.nd rfl (Or.inl rfl) (by first | exact .inl rfl | exact .inr rfl | assumption)) (@aj _ _ _ _ _ (@aE _ _ 3 _ _ _ _ dM.nd rfl (Or.inl rfl) (@aY _ _ _ _ _ _ _ _ _ aS (by rfl) T.b_len PySem.boot_len (@ae _ _ _ _ _ (pv 1) (@ai _) af) (by decide) (by decide) (by rfl) (by rfl)) (by rfl) (by first | exact .inl rfl | exact .inr rfl | assumption)) (@aj _ _ _ _ _ (@er _ _ _ _ _ _ PassesOwn.never (PW.pt (@eg _ _ _ _ _ _ _ (@aG _ _ _ _ _ _ _ _ fP (pv 3) (@ag _ _ _ _) (aQ _)) (@db _ _ _ _ (@cH _ _ _ (@aA _ _ _ _ _ _ _ _ _ _ _ _ _ _ T.l_ahead (cT T) hr (by decide) (@ae _ _ _ _ _ (pv 2) (@ae _ _ _ _ _ (@au _ _ _ _ _ _ _ aI (pv 1) (@az _ _ _ _ _ _ _ _ bO (pv 3) (@ag _ _ _ _)) (fun _ _=>rfl)) (@ai _) aO) af) (by rfl) (by decide) (by rfl) (by rfl)) (by intro _;rfl))))) (@ay _ _ _ (@wE _ _ 3 _ _ _ _ _ _ dM.nd rfl (Or.inl rfl) (@ag _ _ _ _) ub (by first | exact .inl rfl | exact .inr rfl | assumption)))) (@ay _ _ _ (@bB _ _ _ _ _ _ _ _ (PW.pt (@mQ _ _ _ _ _ _ _ (@aG _ _ _ _ _ _ _ _ di (pv 3) (@ag _ _ _ _) (aQ _)) (@jB _ _ _ _ (@aG _ _ _ _ _ _ _ _ (pW hr.units) (@au _ _ _ _ _ _ _ aI (pv 1) (@az _ _ _ _ _ _ _ _ bO (pv 3) (@ag _ _ _ _)) (fun _ _=>rfl)) (pv 2) (aQ _))))) (@ay _ _ _ (@bu _ _ _ _ (@cY _ _ _ _ _ _ _ _ _ _ _ _ PySem.F.plainAttrs_list PySem.F.slot_list_insert PySem.F.type_list_insert qZ (pv 1) (@ae _ _ _ _ _ (pv 3) (@ae _ _ _ _ _ (pv 2) (@ai _) af) af) (by rfl) (by rfl) (by rfl) (by rfl) (by rfl)) (by rfl))) (@be _))))) (by intro _;rfl)) (@ay _ _ _ (@aL _ _ _ _ (pv 1))))),?_⟩
    have hul:us.length=ps.length:=by rw[tu.len,List.length_map]
    refine aH (cO aB (by show 0<=sizeLine;decide)) ?_
    rintro _ _ ⟨r,hr0,rfl,rfl⟩
    refine pG (K:=K) (xs:=us) (ah rfl) (fun i σ H'=>∃(zs:List V) (row:List Pt3) (z w:Option V),σ=[some (.ref l),some (.ref r),z,w]/\Same H H'/\H' r=some (.lst zs)/\TupsT H' zs (row.map L3)/\Srt row/\row.length<=i/\∀q,q∈row↔q∈ps.take i) ⟨[],[],none,none,rfl,Same.upd hr0,ak,.nil,Srt.nil,Nat.le_refl _,fun q=>by simp⟩ (fun i σ H' _ ⟨_,_,_,_,_,s,_⟩=>SqL.of (s _ _ hl)) ?_ ?_
    · rintro i x σ H2 hx ⟨zs,row,z,w,rfl,s,hr1,tz,srt,hrl,hmem⟩
      obtain⟨ns,hns,tx⟩:=tu.get' hx
      rw[List.getElem?_map] at hns
      cases hpi:ps[i]? with
      | none=>rw[hpi] at hns;cases hns
      | some p=>
        rw[hpi] at hns
        have en:ns=L3 p:=(Option.some.inj hns).symm
        subst en
        have hil:i<ps.length:=(List.getElem?_eq_some_iff.mp hpi).1
        have hpm:=List.mem_of_getElem? hpi
        have zq:=zp p hpm
        have lq:=lps p hpm
        have tx2:AtP H2 x p:=tx.same s
        have hsz:∀q∈row,Sz 4000 q:=fun q hq=>zp q (List.mem_of_mem_take ((hmem q).mp hq))
        have hzl:zs.length=row.length:=by rw[tz.len,List.length_map]
        have tk:∀q,q∈ps.take (i+1)↔q∈ps.take i∨q=p:=fun q=>by
          rw[List.take_succ,hpi]
          simp
        have AT:∀{j:Nat} {q:Pt3},row[j]?=some q->∃v,zs[j]?=some v/\AtP H2 v q:=fun {j q} hq=>tz.get (i:=j) (ns:=L3 q) (by rw[List.getElem?_map,hq];rfl)
        refine bH (eH (bD (ar (ah rfl) aB) (SqL.of hr1)) (show V.int _=.int (row.length:Nat) by rw[hzl])) ?_
        refine eS (fun σ H'=>∃j:Nat,σ=[some (.ref l),some (.ref r),some x,some (.int j)]/\H2=H'/\j<=row.length/\∀q∈row.drop j,ahd p q=true) (fun (σ:L2.St) _=>match σ[3]? with | some (some (V.int j))=>j.toNat | _=>0) ⟨row.length,rfl,rfl,Nat.le_refl _,fun q hq=>by simp at hq⟩ ?_
        rintro _ _ ⟨j,rfl,rfl,hj,hall⟩
        rcases Nat.eq_zero_or_pos j with hj0|hj0
        · subst hj0
          refine⟨false,dR (b:=false) (c:=true) (bM (eH (fO (ah rfl) pu_c) (by simp))) (fun e=>by cases e),(fun e=>by cases e),fun _=>?_⟩
          refine je (b:=true) (kx (b:=true) (c:=true) (bM (eH (cS (ah rfl) pu_c) (by simp))) (fun e=>by cases e)) (fun _=>?_) (fun e=>by cases e)
          obtain⟨g1,g2⟩:=pL (j:=0) srt lq hall (fun q _ h=>absurd h (Nat.lt_irrefl _)) (fun q _ h=>absurd h (Nat.lt_irrefl _)) (Nat.zero_le _)
          refine pH (j:=0) (ah rfl) hr1 (ah rfl) (ah rfl) (Nat.zero_le _) (by omega) ⟨_,_,_,_,rfl,bZ s hr0,ak,?_,g1,by simp;omega,fun q=>by rw[g2,tk,hmem]⟩
          rw[List.map_append,List.map_cons,List.map_take,List.map_drop]
          exact TupsT.lstUpd (TupsT.app (tz.take 0) (.cons tx2 (tz.drop 0))) hr1
        · obtain⟨m,rfl⟩:∃m,j=m+1:=⟨j - 1,by omega⟩
          obtain⟨q,hq⟩:∃q,row[m]?=some q:=⟨_,List.getElem?_eq_getElem (by omega)⟩
          obtain⟨v,hv,tv⟩:=AT hq
          have I1:∀{H':Hp},H'=H2->Pu (tOp (iE K) (cm 1) (tOp (rI0 fun i j=>.int (i - j)) (cm 3) (tC (.int 1)))) [some (.ref l),some (.ref r),some x,some (.int ((m+1:Nat):Int))] H' v:=fun e=>by
            subst e
            exact bp (ah rfl) (eH (cq (ah rfl) pu_c) (show V.int _=.int (m:Int) by congr 1;omega)) (SqL.of hr1) (by rw[bA];exact hv)
          refine⟨_,dR (bM (fO (ah rfl) pu_c)) fun _=>gM (cu (ar (ah rfl) (ar (I1 rfl) aB)) fun Q f=>⟨x,v,p,q,rfl,tx2,tv,zq,hsz q (List.mem_of_getElem? hq),f⟩),fun e=>?_,fun e=>?_⟩
          · have e':ahd p q=true:=by
              rw[Bool.and_eq_true] at e
              exact e.2
            refine uT rfl pu_c ⟨⟨m,by show [some (V.ref l),some (.ref r),some x,some (.int (((m+1:Nat):Int) - 1))]=_;rw[show (((m+1:Nat):Int) - 1)=(m:Int) by omega],rfl,by omega,fun a ha=>?_⟩,?_⟩
            · rw[List.drop_eq_getElem_cons (by omega)] at ha
              rcases List.mem_cons.mp ha with h|h
              · have:row[m]'(by omega)=q:=by
                  have:=List.getElem?_eq_getElem (l:=row) (i:=m) (by omega)
                  rw[this] at hq;exact Option.some.inj hq
                rw[h,this];exact e'
              · exact hall a h
            · show (((m+1:Nat):Int) - 1).toNat<(((m+1:Nat):Int)).toNat
              omega
          · have e':ahd p q=false:=by
              have:decide ((0:Int)<((m+1:Nat):Int))=true:=decide_eq_true (by omega)
              rw[this,Bool.true_and] at e
              exact e
            refine je (kx (b:=false) (bM (eH (cS (ah rfl) pu_c) (by rw[decide_eq_false (by omega)]))) fun _=>bM (sI (I1 rfl) (ah rfl) (TupT.i tv) (TupT.i tx2))) (fun e=>?_) fun e=>?_
            · have nqp:q≠p:=fun z=>by
                subst z
                simp[L3] at e
              obtain⟨g1,g2⟩:=pL (j:=m+1) srt lq hall (fun a ha _=>by rw[Nat.add_sub_cancel,hq] at ha;cases ha;exact e') (fun a ha _=>by rw[Nat.add_sub_cancel,hq] at ha;cases ha;exact nqp) hj
              refine pH (j:=m+1) (ah rfl) hr1 (ah rfl) (ah rfl) (by omega) (by omega) ⟨_,_,_,_,rfl,bZ s hr0,ak,?_,g1,by simp;omega,fun a=>by rw[g2,tk,hmem]⟩
              rw[List.map_append,List.map_cons,List.map_take,List.map_drop]
              exact TupsT.lstUpd (TupsT.app (tz.take (m+1)) (.cons tx2 (tz.drop (m+1)))) hr1
            · have eqp:q=p:=by
                rw[Bool.false_or] at e
                simp only[Bool.not_eq_false',decide_eq_true_eq] at e
                exact ph e
              subst eqp
              refine⟨zs,row,_,_,rfl,s,hr1,tz,srt,by omega,fun a=>?_⟩
              rw[tk,←hmem]
              exact⟨.inl,fun h=>h.elim id fun e=>by rw[e];exact List.mem_of_getElem? hq⟩
    · rintro σ H2 ⟨zs,row,z,w,rfl,s,hr1,tz,srt,hrl,hmem⟩
      refine bL (ah rfl) ?_
      have:row=bo ps:=by
        obtain⟨g1,g2⟩:=cV lps
        refine gm srt g1 fun p=>?_
        rw[hmem,g2,hul,List.take_length]
      subst this
      exact k r H2 hr0 s ⟨zs,hr1,tz⟩
theorem uj {σ:L2.St}{H:Hp}{to:TE}{a:Addr}{u v w:V}(ho:Pu to σ H (.ref a))(ha:H a=some (.tup [u,v,w])):Gv (tSl (xi K) to eG (iL (tC (.int 2)))) σ H (fun z H'=>∃p,H p=none/\z=.ref p/\H'=upd H p (.tup [u,v])):=fun Q q=>
  ho _ ⟨2,rfl,a,[u,v,w],rfl,SqT.of ha,(fun z=>absurd z.2 (by show ¬(HT.sIx 3 3 (some 2)=3);decide)),fun p hp=>q _ _ ⟨p,hp,rfl,rfl⟩⟩
theorem qA {σ:L2.St}{H:Hp}{te:TE}{D:Ends}{g:TG}{tb:TS}{R:V->Hp->Prop}(he:Gv te σ H R)(hr:∀v H1,R v H1->∃(a:Addr) (xs:List V),v=.ref a/\∃Pv:Nat->L2.St->Hp->Prop,Pv 0 σ H1/\(∀i σ H,i<=xs.length->Pv i σ H->SqL K H a xs)/\
    (∀(i:Nat) x σ H,xs[i]?=some x->Pv i σ H->g x σ H fun σ2 H2=>tb { D with nx:=Pv (i+1),ct:=Pv (i+1),bk:=D.nx } σ2 H2)/\(∀σ H,Pv xs.length σ H->D.nx σ H)):nY (gJ K te) g tb D σ H:=
  he _ fun v H1 r=>by
    obtain⟨a,xs,rfl,Pv,h0,hl,hs,hd⟩:=hr v H1 r
    exact⟨a,rfl,⟨xs,hl 0 σ H1 (Nat.zero_le _) h0⟩,jT (D:=D) Pv h0 hl hs hd⟩
theorem vU (z:Int) : -1<=sgn z/\sgn z<=1:=by
  rcases iw z with⟨e,_⟩|⟨e,_⟩|⟨e,_⟩ <;> rw[e] <;> decide
theorem jf {σ:L2.St}{H:Hp}{D:Ends}{rest:TS}{te:TE}{g:TG}{R:V->Hp->Prop}(h:Gv te σ H R)(q:∀v H',R v H'->g v σ H' fun σ2 H2=>rest D σ2 H2):dQ (i9 te g) rest D σ H:=h _ q
def uK (ss:List (Pt3×Pt3))(n:Nat)(q:Pt3):Prop:=(∃(k:Nat) (x:Pt3×Pt3),k<n/\ss[k]?=some x/\(q=x.1∨q=x.2))∨∃(k o:Nat) (x y:Pt3×Pt3),k<n/\o<k/\ss[k]?=some x/\ss[o]?=some y/\Strict x y/\q=crS x y
theorem vM {ss:List (Pt3×Pt3)}{q:Pt3}:uK ss ss.length q↔gE ss q:=by
  constructor
  · rintro (⟨k,x,_,hx,h⟩|⟨k,o,x,y,_,h⟩)
    · exact .inl ⟨x,List.mem_of_getElem? hx,h⟩
    · exact .inr ⟨k,o,x,y,h⟩
  · rintro (⟨s,hs,h⟩|⟨k,o,x,y,h1,h2,h3⟩)
    · obtain⟨k,hk⟩:=List.getElem?_of_mem hs
      exact .inl ⟨k,s,(List.getElem?_eq_some_iff.mp hk).1,hk,h⟩
    · exact .inr ⟨k,o,x,y,(List.getElem?_eq_some_iff.mp h2).1,h1,h2,h3⟩
def og:Sp:=fun vs H Q _=>∃l xs,vs=[.ref l]/\StL H l xs/\(∀x∈xs,OkS 900 x.1)/\xs.length<=8/\∀d H' sp,H d=none->Same H H'->LP H' d sp->Srt sp->(∀q,q∈sp↔gE (xs.map (·.1)) q)->sp.length<=300->(∀q∈sp,Sz 4000 q)->Q (.ref d) H'
theorem wu {x y:Pt3×Pt3}(ox:OkS 900 x)(oy:OkS 900 y)(st:Strict x y):Lp (crS x y)/\Sz 4000 (crS x y):=by
  have h:=p8 ox.za ox.zb oy.za oy.zb oy.a oy.b oy.ab
  have t:=iG ox.a ox.b oy.a oy.b ox.ab oy.ab
  rw[st.meet] at h t
  exact⟨(t.2.1 _ (List.mem_singleton.mpr rfl)).1,h _ (List.mem_singleton.mpr rfl)⟩
theorem cp:FnScope ["_law_strokes","_law_spots_here","_law_k","_law_a","_law_b","_law_other","_law_c","_law_d"] ["_law_strokes"] (av d5):=⟨rfl,rfl,rfl,by decide +kernel,rfl,by decide +kernel,by decide +kernel⟩
theorem oG (T:Txt K mg t):FnOk P w K mg base CX0 4 t.f_l_spots t.d_l_spots ["_law_strokes"] og:=by
  refine T.l_spots.F.ok (k:=3) cp (fun vs H Q E h=>?_) (fun cdv A outer s H vs Q E hr h=>?_)
  · obtain⟨l,xs,rfl,_⟩:=h
    rfl
  · obtain⟨l,xs,rfl,⟨as,hl,pr⟩,ok,n8,k⟩:=h
    refine⟨_,(@aj _ _ _ _ _ (@aE _ _ 1 _ _ _ _ cp.nd rfl (Or.inl rfl) (@cD _ _ _ _ (@ai _)) (by rfl) (by first | exact .inl rfl | exact .inr rfl | assumption)) (@aj _ _ _ _ _ (@eP _ _ _ _ _ _ _ _ PassesOwn.never rfl (@fi _ _ _ _ _ _ rfl T.b_range (@ae _ _ _ _ _ (@aY _ _ _ _ _ _ _ _ _ aS (by rfl) T.b_len PySem.boot_len (@ae _ _ _ _ _ (pv 0) (@ai _) af) (by decide) (by decide) (by rfl) (by rfl)) (@ai _) aK) (by rfl)) (@aM _ _ 2 _ cp.nd rfl (Or.inl rfl) (by first | exact .inl rfl | exact .inr rfl | assumption)) (@aj _ _ _ _ _ (@dD _ _ _ _ _ _ (@eu _ _ _ _ _ _ _ _ _ _ lG (@au _ _ _ _ _ _ _ aI (pv 0) (pv 2) (fun _ _=>rfl)) (@cw _) (@cE _ _ _ (@ag _ _ _ _))) (@gb _ _ _ _ _ _ rfl (@aU _ _ _ _ _ (@aM _ _ 3 _ cp.nd rfl (Or.inl rfl) (by first | exact .inl rfl | exact .inr rfl | assumption)) (@aU _ _ _ _ _ (@aM _ _ 4 _ cp.nd rfl (Or.inl rfl) (by first | exact .inl rfl | exact .inr rfl | assumption)) (@cg _) (by rfl)) (by rfl)) (by rfl) (by rfl)) (by rfl) (by rfl) (by rfl)) (@aj _ _ _ _ _ (@aE _ _ 1 _ _ _ _ cp.nd rfl (Or.inl rfl) (@az _ _ _ _ _ _ _ _ oC (pv 1) (@cD _ _ _ _ (@ae _ _ _ _ _ (pv 3) (@ae _ _ _ _ _ (pv 4) (@ai _) af) af))) (by rfl) (by first | exact .inl rfl | exact .inr rfl | assumption)) (@ay _ _ _ (@eP _ _ _ _ _ _ _ _ PassesOwn.never rfl (@cf _ _ _ _ (@eu _ _ _ _ _ _ _ _ _ _ lH (pv 0) (@cw _) (@cE _ _ _ (pv 2)))) (@aM _ _ 5 _ cp.nd rfl (Or.inl rfl) (by first | exact .inl rfl | exact .inr rfl | assumption)) (@aj _ _ _ _ _ (@dD _ _ _ _ _ _ (@eu _ _ _ _ _ _ _ _ _ _ lG (pv 5) (@cw _) (@cE _ _ _ (@ag _ _ _ _))) (@gb _ _ _ _ _ _ rfl (@aU _ _ _ _ _ (@aM _ _ 6 _ cp.nd rfl (Or.inl rfl) (by first | exact .inl rfl | exact .inr rfl | assumption)) (@aU _ _ _ _ _ (@aM _ _ 7 _ cp.nd rfl (Or.inl rfl) (by first | exact .inl rfl | exact .inr rfl | assumption)) (@cg _) (by rfl)) (by rfl)) (by rfl) (by rfl)) (by rfl) (by rfl) (by rfl)) (@ay _ _ _ (@bB _ _ _ _ _ _ _ _ (PW.pt (@eg _ _ _ _ _ _ _ (@aG _ _ _ _ _ _ _ _ eJ (@az _ _ _ _ _ _ _ _ aD (@aA _ _ _ _ _ _ _ _ _ _ _ _ _ _ T.l_turn (fj T) hr (by decide) (@ae _ _ _ _ _ (pv 3) (@ae _ _ _ _ _ (pv 4) (@ae _ _ _ _ _ (pv 6) (@ai _) af) af) af) (by rfl) (by decide) (by rfl) (by rfl)) (@aA _ _ _ _ _ _ _ _ _ _ _ _ _ _ T.l_turn (fj T) hr (by decide) (@ae _ _ _ _ _ (pv 3) (@ae _ _ _ _ _ (pv 4) (@ae _ _ _ _ _ (pv 7) (@ai _) af) af) af) (by rfl) (by decide) (by rfl) (by rfl))) (@ag _ _ _ _) (aQ _)) (@db _ _ _ _ (@aG _ _ _ _ _ _ _ _ eJ (@az _ _ _ _ _ _ _ _ aD (@aA _ _ _ _ _ _ _ _ _ _ _ _ _ _ T.l_turn (fj T) hr (by decide) (@ae _ _ _ _ _ (pv 6) (@ae _ _ _ _ _ (pv 7) (@ae _ _ _ _ _ (pv 3) (@ai _) af) af) af) (by rfl) (by decide) (by rfl) (by rfl)) (@aA _ _ _ _ _ _ _ _ _ _ _ _ _ _ T.l_turn (fj T) hr (by decide) (@ae _ _ _ _ _ (pv 6) (@ae _ _ _ _ _ (pv 7) (@ae _ _ _ _ _ (pv 4) (@ai _) af) af) af) (by rfl) (by decide) (by rfl) (by rfl))) (@ag _ _ _ _) (aQ _))))) (@ay _ _ _ (@bu _ _ _ _ (@cY _ _ _ _ _ _ _ _ _ _ _ _ PySem.F.plainAttrs_list PySem.F.slot_list_append PySem.F.type_list_append br (pv 1) (@ae _ _ _ _ _ (@aA _ _ _ _ _ _ _ _ _ _ _ _ _ _ T.l_cross (oI T) hr (by decide) (@ae _ _ _ _ _ (pv 3) (@ae _ _ _ _ _ (pv 4) (@ae _ _ _ _ _ (pv 6) (@ae _ _ _ _ _ (pv 7) (@ai _) af) af) af) af) (by rfl) (by decide) (by rfl) (by rfl)) (@ai _) aK) (by rfl) (by rfl) (by rfl) (by rfl) (by rfl)) (by rfl))) (@be _)))) (by intro _;rfl))))) (by intro _;rfl)) (@ay _ _ _ (@aL _ _ _ _ (@aA _ _ _ _ _ _ _ _ _ _ _ _ _ _ T.l_sorted (iX T) hr (by decide) (@ae _ _ _ _ _ (pv 1) (@ai _) af) (by rfl) (by decide) (by rfl) (by rfl)))))),?_⟩
    have al:=bF pr
    have lal:(as.map V.ref).length=xs.length:=by rw[List.length_map];exact al
    have SX:∀{i:Nat} {x:(Pt3×Pt3)×List Int},xs[i]?=some x->(xs.map (·.1))[i]?=some x.1:=fun h=>by rw[List.getElem?_map,h];rfl
    refine aH (cO aB (by show 0<=sizeLine;decide)) ?_
    rintro _ _ ⟨S0,hS0,rfl,rfl⟩
    have s1:Same H (upd H S0 (.lst [])):=Same.upd hS0
    refine gk (v4 (ar (bD (ar (ah rfl) aB) (SqL.of (s1 _ _ hl))) aB)) ?_
    rintro _ H0 ⟨rfl,e⟩
    have e:=e.symm
    subst e
    refine⟨_,rfl,by omega,by omega,fun i σ H'=>∃(S:Addr) (ys:List V) (L:List Pt3),Same H H'/\H S=none/\H' S=some (.lst ys)/\TupsT H' ys (L.map L3)/\(∀q,q∈L↔uK (xs.map (·.1)) i q)/\(∀q∈L,Lp q/\Sz 4000 q)/\L.length<=10*i/\∃c1 c2 c3 c4 c5 c6:Option V,σ=[some (.ref l),some (.ref S),c1,c2,c3,c4,c5,c6],?_,?_,?_⟩
    · exact⟨S0,[],[],s1,hS0,ak,.nil,fun q=>⟨(fun h=>nomatch h),(fun h=>by rcases h with⟨k,x,h,_⟩ | ⟨k,o,x,y,h,_⟩ <;> exact absurd h (Nat.not_lt_zero _))⟩,(fun _ h=>nomatch h),Nat.zero_le _,⟨_,_,_,_,_,_,rfl⟩⟩
    · rintro i σ H1 hi ⟨S,ys,L,sH,hS,hS1,ty,hmem,hok,hlen,c1,c2,c3,c4,c5,c6,rfl⟩
      have hi':i<xs.length:=by omega
      obtain⟨x,hx⟩:∃x,xs[i]?=some x:=⟨_,List.getElem?_eq_getElem hi'⟩
      obtain⟨a,ha,u,v,w,e1,e2,e3,e4⟩:=dO pr hx
      have ox:=ok x (List.mem_of_getElem? hx)
      have hl1:=sH _ _ hl
      refine jf (uj (bp (ah rfl) (ah rfl) (SqL.of hl1) (by rw[Int.zero_add];exact bA (by rw[List.getElem?_map,ha];rfl))) (sH _ _ e1)) ?_
      rintro _ _ ⟨p2,hp2,rfl,rfl⟩
      refine tg2 ak ?_
      have s2:Same H1 (upd H1 p2 (.tup [u,v])):=Same.upd hp2
      have sH2:=sH.trans s2
      have hS2:=s2 _ _ hS1
      have ty2:=ty.mono fun _ _ t=>t.same s2
      generalize upd H1 p2 (.tup [u,v])=H2 at s2 sH2 hS2 ty2 ⊢
      have yl:ys.length=L.length:=by rw[ty2.len,List.length_map]
      refine aH (R:=fun z H3=>∃S',z=.ref S'/\H S'=none/\Same H2 H3/\H3 S'=some (.lst (ys++[u,v]))) (fun Q g=>?_) ?_
      · dsimp only[tOp]
        refine ah (v:=.ref S) rfl _ (cO (ar (ah rfl) (ar (ah rfl) aB)) (by show 2<=sizeLine;decide) _ ?_)
        rintro _ _ ⟨p3,hp3,rfl,rfl⟩
        have s3:Same H2 (upd H2 p3 (.lst [u,v])):=Same.upd hp3
        exact⟨S,p3,ys,[u,v],rfl,rfl,s3 _ _ hS2,ak,Nat.le_of_lt (aZ (by rw[yl];simp;omega)),fun p4 hp4=>g _ _ ⟨p4,rfl,bK (sH2.trans s3) hp4,s3.trans (Same.upd hp4),ak⟩⟩
      rintro _ H3 ⟨S',rfl,hS',s3,hS3⟩
      have sH3:=sH2.trans s3
      have ty3:TupsT H3 (ys++[u,v]) ((L++[x.1.1,x.1.2]).map L3):=by
        rw[List.map_append]
        exact (ty2.mono fun _ _ t=>t.same s3).app (.cons (e2.same sH3) (.cons (e3.same sH3) .nil))
      refine qA (R:=fun z H4=>∃p,z=.ref p/\H3 p=none/\H4=upd H3 p (.lst ((as.take i).map V.ref))) (fun Q g=>?_) ?_
      · dsimp only[tSl,eG,iL]
        refine ah (v:=.ref l) rfl _ (ah (v:=.int (0+(i:Int))) rfl _ ⟨_,rfl,l,_,rfl,SqL.of (sH3 _ _ hl),fun p hp=>?_⟩)
        have:iI (as.map V.ref) none (some (0+(i:Int)))=(as.take i).map V.ref:=by
          rw[Int.zero_add]
          unfold iI
          rw[HT.sIx_none,List.drop_zero,Nat.sub_zero,HT.sIx_nat,Nat.min_eq_left (by omega),List.map_take]
        rw[this]
        exact g _ _ ⟨p,rfl,hp,rfl⟩
      rintro _ _ ⟨pl,rfl,hpl,rfl⟩
      have s4:Same H3 (upd H3 pl (.lst ((as.take i).map V.ref))):=Same.upd hpl
      have nSp:pl≠S':=fun e=>by rw[e,hS3] at hpl;cases hpl
      have hplH:H pl=none:=bK sH3 hpl
      refine⟨pl,(as.take i).map V.ref,rfl,fun j σ H'=>∃(zs:List V) (L':List Pt3),(∀b o,H b=some o->H' b=some o)/\H' pl=some (.lst ((as.take i).map V.ref))/\H' S'=some (.lst zs)/\TupsT H' zs (L'.map L3)/\(∀q,q∈L'↔(uK (xs.map (·.1)) i q∨q=x.1.1∨q=x.1.2)∨∃(o:Nat) (y:Pt3×Pt3),o<j/\(xs.map (·.1))[o]?=some y/\Strict x.1 y/\q=crS x.1 y)/\(∀q∈L',Lp q/\Sz 4000 q)/\L'.length<=10*i+2+j/\∃c4 c5 c6:Option V,σ=[some (.ref l),some (.ref S'),some (.int (0+(i:Int))),some u,some v,c4,c5,c6],?_,?_,?_,?_⟩
      · refine⟨_,_,sH3.trans s4,ak,s4 _ _ hS3,ty3.mono fun _ _ t=>t.same s4,fun q=>?_,fun q hq=>?_,by rw[List.length_append];show L.length+2<=_;omega,⟨_,_,_,rfl⟩⟩
        · rw[List.mem_append,hmem]
          constructor
          · rintro (h|h)
            · exact .inl (.inl h)
            · exact .inl (.inr (by simpa using h))
          · rintro ((h|h)|⟨o,y,h,_⟩)
            · exact .inl h
            · exact .inr (by simpa using h)
            · exact absurd h (Nat.not_lt_zero _)
        · rcases List.mem_append.mp hq with hq | hq
          · exact hok q hq
          · rcases List.mem_cons.mp hq with rfl | hq
            · exact⟨ox.a,ox.za.mono (by decide)⟩
            · rw[List.mem_singleton.mp hq];exact⟨ox.b,ox.zb.mono (by decide)⟩
      · rintro j σ H' _ ⟨zs,L',sk,hp',_⟩
        exact SqL.of hp'
      · rintro j y σ H5 ey ⟨zs,L',sk,hp5,hS5,tz,hm5,hok5,hl5,c4,c5,c6,rfl⟩
        have hj:j<i:=by
          have:=(List.getElem?_eq_some_iff.mp ey).1
          rw[List.length_map,List.length_take] at this
          omega
        rw[List.getElem?_map,List.getElem?_take_of_lt hj] at ey
        cases eb:as[j]? with
        | none=>rw[eb] at ey;cases ey
        | some b=>
          rw[eb] at ey
          cases ey
          obtain⟨y,hy,u2,v2,w2,f1,f2,f3,f4⟩:=bv pr eb
          have oy:=ok y (List.mem_of_getElem? hy)
          refine jf (uj (ah rfl) (sk _ _ f1)) ?_
          rintro _ _ ⟨p6,hp6,rfl,rfl⟩
          refine tg2 ak ?_
          have s6:Same H5 (upd H5 p6 (.tup [u2,v2])):=Same.upd hp6
          have sk6:Same H (upd H5 p6 (.tup [u2,v2])):=fun b o h=>s6 _ _ (sk b o h)
          have hp6':=s6 _ _ hp5
          have hS6:=s6 _ _ hS5
          have tz6:=tz.mono fun _ _ t=>t.same s6
          generalize upd H5 p6 (.tup [u2,v2])=H6 at s6 sk6 hp6' hS6 tz6 ⊢
          have tu:=e2.same sk6
          have tv:=e3.same sk6
          have tu2:=f2.same sk6
          have tv2:=f3.same sk6
          have z4:∀{p:Pt3},Sz 900 p->Sz 4000 p:=fun h=>h.mono (by decide)
          have T1:∀{σ:L2.St} {ta:TA} {va vb vc:V} {a b c:Pt3},PuA ta σ H6 [va,vb,vc]->AtP H6 va a->AtP H6 vb b->AtP H6 vc c->Sz 900 a->Sz 900 b->Sz 900 c->Lp a->Pu (ce gn [] E0 ta) σ H6 (.int (sgn (det a b c))):=fun hp h1 h2 h3 z1 z2 z3 l1=>cu hp fun Q f=>⟨_,_,_,_,_,_,rfl,h1,h2,h3,z4 z1,z4 z2,z4 z3,l1.pos,f⟩
          have sm:∀x y:Int,IntMulOk (sgn x) (sgn y):=fun x y=>IntMulOk.of_left (intBits_le_64 (by have:=vU x;omega) (by have:=vU x;omega))
          have P2:∀{σ:L2.St} {ta tb:TA} {va vb vc vd:V} {a b c d:Pt3},PuA ta σ H6 [va,vb,vc]->PuA tb σ H6 [va,vb,vd]->AtP H6 va a->AtP H6 vb b->AtP H6 vc c->AtP H6 vd d->Sz 900 a->Sz 900 b->Sz 900 c->Sz 900 d->Lp a->PuT (pC (tOp (rI0 fun i j=>.bl (decide (i<j))) (tOp (rI IntMulOk fun i j=>.int (i*j)) (ce gn [] E0 ta) (ce gn [] E0 tb)) (tC (.int 0)))) σ H6 (decide (sgn (det a b c)*sgn (det a b d)<0)):=fun p1 p2 h1 h2 h3 h4 z1 z2 z3 z4 l1=>bM (em (aJ (T1 p1 h1 h2 h3 z1 z2 z3 l1) (T1 p2 h1 h2 h4 z1 z2 z4 l1) (sm _ _)) pu_c)
          refine je (dR (P2 (ar (ah rfl) (ar (ah rfl) (ar (ah rfl) aB))) (ar (ah rfl) (ar (ah rfl) (ar (ah rfl) aB))) tu tv tu2 tv2 ox.za ox.zb oy.za oy.zb ox.a) fun _=>P2 (ar (ah rfl) (ar (ah rfl) (ar (ah rfl) aB))) (ar (ah rfl) (ar (ah rfl) (ar (ah rfl) aB))) tu2 tv2 tu tv oy.za oy.zb ox.za ox.zb oy.a) (fun e=>?_) fun e=>?_
          · rw[Bool.and_eq_true,decide_eq_true_iff,decide_eq_true_iff] at e
            have st:Strict x.1 y.1:=⟨e.1,e.2⟩
            refine cQ (xs:=zs) (R:=fun v H7=>Same H6 H7/\AtP H7 v (crS x.1 y.1)) (ah rfl) hS6 (aX (ar (ah rfl) (ar (ah rfl) (ar (ah rfl) (ar (ah rfl) aB)))) fun Q q=>⟨_,_,_,_,x.1,y.1,rfl,tu,tv,tu2,tv2,ox,oy,st,fun v H7 a b=>q _ _ ⟨a,b⟩⟩) ?_
            rintro v7 H7 ⟨s7,t7⟩
            have hS7:=s7 _ _ hS6
            have zl:zs.length=L'.length:=by rw[tz.len,List.length_map]
            refine⟨zs,hS7,aZ (by omega),?_⟩
            refine⟨zs++[v7],L'++[crS x.1 y.1],fun b o hb=>?_,?_,ak,?_,fun q=>?_,fun q hq=>?_,by simp;omega,⟨_,_,_,rfl⟩⟩
            · rw[aF (fun e=>by rw[e,hS'] at hb;cases hb)]
              exact s7 _ _ (sk6 _ _ hb)
            · rw[aF nSp]
              exact s7 _ _ hp6'
            · rw[List.map_append]
              exact (TupsT.snoc (tz6.mono fun _ _ t=>t.same s7) t7).lstUpd hS7
            · rw[List.mem_append,hm5,List.mem_singleton]
              constructor
              · rintro ((h|⟨o,z,h1,h2⟩)|h)
                · exact .inl h
                · exact .inr ⟨o,z,by omega,h2⟩
                · exact .inr ⟨j,y.1,Nat.lt_succ_self _,SX hy,st,h⟩
              · rintro (h|⟨o,z,h1,h2,h3,h4⟩)
                · exact .inl (.inl h)
                · by_cases zz:o<j
                  · exact .inl (.inr ⟨o,z,zz,h2,h3,h4⟩)
                  · have zz:o=j:=by omega
                    subst zz
                    rw[SX hy] at h2
                    cases h2
                    exact .inr h4
            · rcases List.mem_append.mp hq with hq | hq
              · exact hok5 q hq
              · rw[List.mem_singleton.mp hq];exact wu ox oy st
          · have nst:¬Strict x.1 y.1:=fun st=>by
              rw[decide_eq_true st.1,decide_eq_true st.2] at e
              cases e
            refine⟨zs,L',sk6,hp6',hS6,tz6,fun q=>?_,hok5,by omega,⟨_,_,_,rfl⟩⟩
            rw[hm5]
            constructor
            · rintro (h|⟨o,z,h1,h2⟩)
              · exact .inl h
              · exact .inr ⟨o,z,by omega,h2⟩
            · rintro (h|⟨o,z,h1,h2,h3,h4⟩)
              · exact .inl h
              · by_cases zz:o<j
                · exact .inr ⟨o,z,zz,h2,h3,h4⟩
                · have zz:o=j:=by omega
                  subst zz
                  rw[SX hy] at h2
                  cases h2
                  exact absurd h3 nst
      · rintro σ H5 ⟨zs,L',sk,hp5,hS5,tz,hm5,hok5,hl5,c4,c5,c6,rfl⟩
        refine⟨S',zs,L',sk,hS',hS5,tz,fun q=>?_,hok5,?_,⟨_,_,_,_,_,_,rfl⟩⟩
        · rw[hm5]
          have e0:((as.take i).map V.ref).length=i:=by rw[List.length_map,List.length_take];omega
          rw[e0]
          constructor
          · rintro ((h|h)|⟨o,y,h1,h2,h3,h4⟩)
            · rcases h with⟨k',x',g1,g2⟩|⟨k',o,x',y',g1,g2⟩
              · exact .inl ⟨k',x',by omega,g2⟩
              · exact .inr ⟨k',o,x',y',by omega,g2⟩
            · exact .inl ⟨i,x.1,Nat.lt_succ_self _,SX hx,h⟩
            · exact .inr ⟨i,o,x.1,y,Nat.lt_succ_self _,h1,SX hx,h2,h3,h4⟩
          · rintro (⟨k',x',g1,g2,g3⟩|⟨k',o,x',y',g1,g2,g3,g4⟩)
            · by_cases z:k'<i
              · exact .inl (.inl (.inl ⟨k',x',z,g2,g3⟩))
              · have z:k'=i:=by omega
                subst z
                rw[SX hx] at g2
                cases g2
                exact .inl (.inr g3)
            · by_cases z:k'<i
              · exact .inl (.inl (.inr ⟨k',o,x',y',z,g2,g3,g4⟩))
              · have z:k'=i:=by omega
                subst z
                rw[SX hx] at g3
                cases g3
                exact .inr ⟨o,y',g2,g4⟩
        · rw[List.length_map,List.length_take] at hl5
          omega
    · rintro σ H1 ⟨S,ys,L,sH,hS,hS1,ty,hmem,hok,hlen,c1,c2,c3,c4,c5,c6,rfl⟩
      obtain⟨g1,g2⟩:=cV fun q hq=>(hok q hq).1
      have e0:(((as.map V.ref).length:Nat):Int).toNat=(xs.map (·.1)).length:=by rw[lal,List.length_map];omega
      rw[e0] at hmem hlen
      have l300:L.length<=300:=by rw[List.length_map] at hlen;omega
      refine bn (R:=fun v H3=>∃r,v=.ref r/\H1 r=none/\Same H1 H3/\LP H3 r (bo L)) (aX (ar (ah rfl) aB) fun Q q=>⟨S,L,rfl,⟨ys,hS1,ty⟩,fun q hq=>(hok q hq).1,fun q hq=>(hok q hq).2,l300,fun r H3 a b c=>q _ _ ⟨r,rfl,a,b,c⟩⟩) ?_
      rintro _ H3 ⟨r,rfl,hr0,s3,hr3⟩
      exact k r H3 _ (bK sH hr0) (sH.trans s3) hr3 g1 (fun q=>by rw[g2,hmem,vM]) (Nat.le_trans (gr _) l300) fun q hq=>(hok q ((g2 q).mp hq)).2
def mG:Sp:=fun vs H Q _=>∃hd sc,vs=[.ref hd]/\HandAt H hd sc/\∀v H' a b c r,HandAt H' hd sc->SameB hd H H'->AtP H' v r->Is3 a b c r->a.natAbs<=10 ^ 12->b.natAbs<=10 ^ 12->1<=c/\c<=10 ^ 6->Q v H'
theorem jy:FnScope ["_law_hand_here","_law_a","_law_b"] ["_law_hand_here"] (av gw):=⟨rfl,rfl,rfl,by decide +kernel,rfl,by decide +kernel,by decide +kernel⟩
theorem mX (T:Txt K mg t):FnOk P w K mg base CX0 4 t.f_l_raw t.d_l_raw ["_law_hand_here"] mG:=by
  refine T.l_raw.F.ok (k:=3) jy (fun vs H Q E h=>?_) (fun cdv A outer s H vs Q E hr h=>?_)
  · obtain⟨hd,sc,rfl,_⟩:=h
    rfl
  · obtain⟨hd,sc,rfl,hh,k⟩:=h
    refine⟨_,(@aj _ _ _ _ _ (@aE _ _ 1 _ _ _ _ jy.nd rfl (Or.inl rfl) (@az _ _ _ _ _ _ _ _ bO (@aA _ _ _ _ _ _ _ _ _ _ _ _ _ _ T.l_draw (aR T) hr (by decide) (@ae _ _ _ _ _ (pv 0) (@ae _ _ _ _ _ (@az _ _ _ _ _ _ _ _ bP (@az _ _ _ _ _ _ _ _ aD (@ag _ _ _ _) (@az _ _ _ _ _ _ _ _ eB (@ag _ _ _ _) (@ag _ _ _ _))) (@ag _ _ _ _)) (@ai _) aW) af) (by rfl) (by decide) (by rfl) (by rfl)) (@az _ _ _ _ _ _ _ _ eB (@ag _ _ _ _) (@ag _ _ _ _))) (by rfl) (by first | exact .inl rfl | exact .inr rfl | assumption)) (@aj _ _ _ _ _ (@aE _ _ 2 _ _ _ _ jy.nd rfl (Or.inl rfl) (@az _ _ _ _ _ _ _ _ bO (@aA _ _ _ _ _ _ _ _ _ _ _ _ _ _ T.l_draw (aR T) hr (by decide) (@ae _ _ _ _ _ (pv 0) (@ae _ _ _ _ _ (@az _ _ _ _ _ _ _ _ bP (@az _ _ _ _ _ _ _ _ aD (@ag _ _ _ _) (@az _ _ _ _ _ _ _ _ eB (@ag _ _ _ _) (@ag _ _ _ _))) (@ag _ _ _ _)) (@ai _) aW) af) (by rfl) (by decide) (by rfl) (by rfl)) (@az _ _ _ _ _ _ _ _ eB (@ag _ _ _ _) (@ag _ _ _ _))) (by rfl) (by first | exact .inl rfl | exact .inr rfl | assumption)) (@ay _ _ _ (@aL _ _ _ _ (@aA _ _ _ _ _ _ _ _ _ _ _ _ _ _ T.l_point (cI T) hr (by decide) (@ae _ _ _ _ _ (pv 1) (@ae _ _ _ _ _ (pv 2) (@ae _ _ _ _ _ (@az _ _ _ _ _ _ _ _ bP (@ag _ _ _ _) (@aA _ _ _ _ _ _ _ _ _ _ _ _ _ _ T.l_draw (aR T) hr (by decide) (@ae _ _ _ _ _ (pv 0) (@ae _ _ _ _ _ (@az _ _ _ _ _ _ _ _ eB (@ag _ _ _ _) (@ag _ _ _ _)) (@ai _) aW) af) (by rfl) (by decide) (by rfl) (by rfl))) (@ai _) aW) af) af) (by rfl) (by decide) (by rfl) (by rfl)))))),?_⟩
    have D2:∀{σ:L2.St} {H:Hp},σ[0]?=some (some (.ref hd))->HandAt H hd sc->Gv (tOp (rI0 fun i j=>.int (i - j)) (ce cz [] E0 (bG (cm 0) (bG (tOp (rI0 fun i j=>.int (i+j)) (tOp (rI IntMulOk fun i j=>.int (i*j)) (tC (.int 2)) (tOp (rI pj fun i j=>.int (i ^ j.toNat)) (tC (.int 10)) (tC (.int 12)))) (tC (.int 1))) df))) (tOp (rI pj fun i j=>.int (i ^ j.toNat)) (tC (.int 10)) (tC (.int 12)))) σ H (fun v H'=>(∃j:Int,v=.int (j - 10 ^ 12)/\0<=j/\j<2*10 ^ 12+1)/\HandAt H' hd sc/\SameB hd H H'):=fun {σ H} h0 hh=>gS (n:=2*10 ^ 12+1) (c:=10 ^ 12) hh (fun _=>gK pu_c pu_c ⟨by decide,by decide,by decide⟩) (ar (ah h0) (ar (cv (aJ pu_c (gK pu_c pu_c ⟨by decide,by decide,by decide⟩) (IntMulOk.of_left (by decide))) pu_c) aB)) (by decide) Bd.small
    refine aH (D2 rfl hh) ?_
    rintro _ H1 ⟨⟨a,rfl,a0,a1⟩,hh1,s1⟩
    refine aH (D2 rfl hh1) ?_
    rintro _ H2 ⟨⟨b,rfl,b0,b1⟩,hh2,s2⟩
    refine bn (R:=fun v H'=>HandAt H' hd sc/\SameB hd H H'/\∃c r,AtP H' v r/\Is3 (a - 10 ^ 12) (b - 10 ^ 12) c r/\1<=c/\c<=10 ^ 6) (bR (bi (ah rfl).gv fun x Hx ex=>bi (ah rfl).gv fun y Hy ey=>bi (R1:=fun v H'=>(∃j:Int,v=.int (1+j)/\0<=j/\j<10 ^ 6)/\HandAt H' hd sc/\SameB hd H2 H') ?_ fun _ _ _=>cU) ?_) ?_
    · obtain⟨rfl,rfl⟩:=ex
      obtain⟨rfl,rfl⟩:=ey
      exact gT hh2 pu_c (ar (ah rfl) (ar (gK pu_c pu_c ⟨by decide,by decide,by decide⟩) aB)) (by decide) Bd.small
    · rintro vs H5 ⟨x,H6,r,rfl,⟨rfl,rfl⟩,y,H7,r2,rfl,⟨rfl,rfl⟩,z,H8,r3,rfl,⟨⟨j,rfl,j0,j1⟩,hh8,s8⟩,rfl,rfl⟩ Q f
      exact⟨_,_,_,rfl,by omega,Bd.small (by omega),fun v H' r s t i=>f _ _ ⟨hh8.same s,((s1.trans s2).trans s8).trans s.b,_,r,t,i,by omega,by omega⟩⟩
    · rintro v H' ⟨h1,h2,c,r,t,i,c1,c2⟩
      exact k v H' _ _ c r h1 h2 t i (by omega) (by omega) ⟨c1,c2⟩
theorem qB {σ:L2.St}{H:Hp}{D:Ends}{rest:TS}{tc:TT}{te:TE}{k:Nat}{v0:V}{RB:Bool->Hp->Prop}{R:V->Hp->Prop}(hc:GvT tc σ H RB)(he:∀H',RB true H'->Gv te σ H' R)(h0:σ.set k (some v0)=σ)(r0:∀H',RB false H'->R v0 H')(q:∀v H',R v H'->rest D (σ.set k (some v)) H'):dQ (i7 tc (i9 te (bV k)) gU) rest D σ H:=
  gl hc (fun H' r=>he H' r _ q) fun H' r=>by
    have:=q v0 H' (r0 H' r)
    rwa [h0] at this
theorem wv {σ:L2.St}{H:Hp}{D:Ends}{rest:TS}{tc:TT}{t:TS}{RB:Bool->Hp->Prop}{I:Hp->Prop}(hc:GvT tc σ H RB)(he:∀H',RB true H'->∀D':Ends,(∀H'',I H''->D'.nx σ H'')->t D' σ H')(r0:∀H',RB false H'->I H')(q:∀H',I H'->rest D σ H'):dQ (i7 tc t gU) rest D σ H:=
  gl hc (fun H' r=>he H' r _ q) fun H' r=>q H' (r0 H' r)
theorem gB {σ:L2.St}{H:Hp}{hd sc:Addr}{t:TA}{ta:TE}{n c:Int}(hh:HandAt H hd sc)(hc:∀H',Pu ta σ H' (.int c))(ha:PuA t σ H [.ref hd,.int n])(h0:0<n)(hb:Bd 9000 n) :
    GvT (pC (tOp rEq (ce cz [] E0 t) ta)) σ H (fun _ H'=>HandAt H' hd sc/\SameB hd H H'):=by
  intro Q f
  refine bU hh ha h0 hb _ ?_
  rintro _ H1 ⟨⟨j,rfl,j0,j1⟩,hh1,s1⟩
  exact hc _ _ ⟨rfl,_,rfl,f _ _ ⟨hh1,s1⟩⟩
def qE:Sp:=fun vs H Q _=>∃hd sc sl ps w n m,vs=[.ref hd,.ref sl,.int w]/\HandAt H hd sc/\LP H sl ps/\sl≠hd/\sl≠sc/\ps.length<=60/\Dq n m ps/\n<=350/\m<=2 ^ 49/\10 ^ 12<=m/\0<w/\w<=9/\∀t u v H' p q ps',H t=none->HandAt H' hd sc->Same2 hd sl H H'->H' t=some (.tup [u,v])->AtP H' u p->AtP H' v q->LP H' sl ps'->ps'.length<=ps.length+3->p∈ps'->q∈ps'->p≠q->Dq (n+42) (m+1) ps'->Q (.ref t) H'
theorem eV:FnScope ["_law_hand_here","_law_seen","_law_wide","_law_p","_law_q"] ["_law_hand_here","_law_seen","_law_wide"] (av fb):=⟨rfl,rfl,rfl,by decide +kernel,rfl,by decide +kernel,by decide +kernel⟩
theorem kF (T:Txt K mg t):FnOk P w K mg base CX0 5 t.f_l_side t.d_l_side ["_law_hand_here","_law_seen","_law_wide"] qE:=by
  refine T.l_side.F.ok (k:=4) eV (fun vs H Q E h=>?_) (fun cdv A outer s H vs Q E hr h=>?_)
  · obtain⟨hd,sc,sl,ps,w,n,m,rfl,_⟩:=h
    rfl
  · obtain⟨hd,sc,sl,ps,w,n,m,rfl,hh,lp,nsl,nsc,hpl,hdq,hn,hm,hm12,w0,w9,k⟩:=h
    refine⟨_,(@aj _ _ _ _ _ (@bB _ _ _ _ _ _ _ _ (@aG _ _ _ _ _ _ _ _ di (@aA _ _ _ _ _ _ _ _ _ _ _ _ _ _ T.l_draw (aR T) hr (by decide) (@ae _ _ _ _ _ (pv 0) (@ae _ _ _ _ _ (@ag _ _ _ _) (@ai _) aT) af) (by rfl) (by decide) (by rfl) (by rfl)) (@ag _ _ _ _) (aQ _)) (@ay _ _ _ (@bu _ _ _ _ (@cY _ _ _ _ _ _ _ _ _ _ _ _ PySem.F.plainAttrs_list PySem.F.slot_list_append PySem.F.type_list_append br (pv 1) (@ae _ _ _ _ _ (@aA _ _ _ _ _ _ _ _ _ _ _ _ _ _ T.l_raw (mX T) hr (by decide) (@ae _ _ _ _ _ (pv 0) (@ai _) af) (by rfl) (by decide) (by rfl) (by rfl)) (@ai _) aK) (by rfl) (by rfl) (by rfl) (by rfl) (by rfl)) (by rfl))) (@be _)) (@aj _ _ _ _ _ (@aE _ _ 3 _ _ _ _ eV.nd rfl (Or.inl rfl) (@aA _ _ _ _ _ _ _ _ _ _ _ _ _ _ T.l_spot (kE T) hr (by decide) (@ae _ _ _ _ _ (pv 0) (@ae _ _ _ _ _ (pv 1) (@ae _ _ _ _ _ (pv 2) (@ai _) af) af) af) (by rfl) (by decide) (by rfl) (by rfl)) (by rfl) (by first | exact .inl rfl | exact .inr rfl | assumption)) (@aj _ _ _ _ _ (@bu _ _ _ _ (@cY _ _ _ _ _ _ _ _ _ _ _ _ PySem.F.plainAttrs_list PySem.F.slot_list_append PySem.F.type_list_append br (pv 1) (@ae _ _ _ _ _ (pv 3) (@ai _) af) (by rfl) (by rfl) (by rfl) (by rfl) (by rfl)) (by rfl)) (@aj _ _ _ _ _ (@aE _ _ 4 _ _ _ _ eV.nd rfl (Or.inl rfl) (@aA _ _ _ _ _ _ _ _ _ _ _ _ _ _ T.l_spot (kE T) hr (by decide) (@ae _ _ _ _ _ (pv 0) (@ae _ _ _ _ _ (pv 1) (@ae _ _ _ _ _ (pv 2) (@ai _) af) af) af) (by rfl) (by decide) (by rfl) (by rfl)) (by rfl) (by first | exact .inl rfl | exact .inr rfl | assumption)) (@aj _ _ _ _ _ (@bB _ _ _ _ _ _ _ _ (@aG _ _ _ _ _ _ _ _ di (@aA _ _ _ _ _ _ _ _ _ _ _ _ _ _ T.l_draw (aR T) hr (by decide) (@ae _ _ _ _ _ (pv 0) (@ae _ _ _ _ _ (@ag _ _ _ _) (@ai _) aT) af) (by rfl) (by decide) (by rfl) (by rfl)) (@ag _ _ _ _) (aQ _)) (@ay _ _ _ (@aE _ _ 4 _ _ _ _ eV.nd rfl (Or.inl rfl) (@aA _ _ _ _ _ _ _ _ _ _ _ _ _ _ T.l_raw (mX T) hr (by decide) (@ae _ _ _ _ _ (pv 0) (@ai _) af) (by rfl) (by decide) (by rfl) (by rfl)) (by rfl) (by first | exact .inl rfl | exact .inr rfl | assumption))) (@be _)) (@aj _ _ _ _ _ (@bB _ _ _ _ _ _ _ _ (@aG _ _ _ _ _ _ _ _ (pX hr.units) (pv 3) (pv 4) (aQ _)) (@ay _ _ _ (@aE _ _ 4 _ _ _ _ eV.nd rfl (Or.inl rfl) (@aA _ _ _ _ _ _ _ _ _ _ _ _ _ _ T.l_point (cI T) hr (by decide) (@ae _ _ _ _ _ (@az _ _ _ _ _ _ _ _ bP (@au _ _ _ _ _ _ _ ax (pv 3) (@ag _ _ _ _) (fun _ _=>rfl)) (@az _ _ _ _ _ _ _ _ aD (@au _ _ _ _ _ _ _ ax (pv 3) (@ag _ _ _ _) (fun _ _=>rfl)) (@aA _ _ _ _ _ _ _ _ _ _ _ _ _ _ T.l_draw (aR T) hr (by decide) (@ae _ _ _ _ _ (pv 0) (@ae _ _ _ _ _ (@ag _ _ _ _) (@ai _) aT) af) (by rfl) (by decide) (by rfl) (by rfl)))) (@ae _ _ _ _ _ (@az _ _ _ _ _ _ _ _ bP (@au _ _ _ _ _ _ _ ax (pv 3) (@ag _ _ _ _) (fun _ _=>rfl)) (@au _ _ _ _ _ _ _ ax (pv 3) (@ag _ _ _ _) (fun _ _=>rfl))) (@ae _ _ _ _ _ (@au _ _ _ _ _ _ _ ax (pv 3) (@ag _ _ _ _) (fun _ _=>rfl)) (@ai _) aO) aW) aW) (by rfl) (by decide) (by rfl) (by rfl)) (by rfl) (by first | exact .inl rfl | exact .inr rfl | assumption))) (@be _)) (@aj _ _ _ _ _ (@bu _ _ _ _ (@cY _ _ _ _ _ _ _ _ _ _ _ _ PySem.F.plainAttrs_list PySem.F.slot_list_append PySem.F.type_list_append br (pv 1) (@ae _ _ _ _ _ (pv 4) (@ai _) af) (by rfl) (by rfl) (by rfl) (by rfl) (by rfl)) (by rfl)) (@ay _ _ _ (@aL _ _ _ _ (@bN _ _ _ _ _ (@ae _ _ _ _ _ (pv 3) (@ae _ _ _ _ _ (pv 4) (@ai _) af) af))))))))))),?_⟩
    obtain⟨ys,hys⟩:=hh.ls
    have RAW:∀{σ:L2.St} {H:Hp},σ[0]?=some (some (.ref hd))->HandAt H hd sc->∀{n m:Nat} {ps:List Pt3},Dq n m ps->10 ^ 12<=m->Gv (ce mG [] E0 (bG (cm 0) df)) σ H (fun v H'=>HandAt H' hd sc/\SameB hd H H'/\∃r,AtP H' v r/\Dq (n+20) m (r::ps)):=fun {σ H} h0 hh {n m ps} d e=>aX (ar (ah h0) aB) fun Q f=>⟨hd,sc,rfl,hh,fun v H' a b c r h1 h2 h3 h4 h5 h6 h7=>f _ _ ⟨h1,h2,r,h3,d.raw h4 e h5 h6 h7⟩⟩
    refine wv (I:=fun H'=>HandAt H' hd sc/\Same2 hd sl H H'/\∃ps1,LP H' sl ps1/\ps1.length<=ps.length+1/\Dq (n+20) m ps1) (gB hh (fun _=>pu_c) (ar (ah rfl) (ar pu_c aB)) (by decide) Bd.small) ?_ ?_ ?_
    · rintro H1 ⟨hh1,s1⟩ D' kD
      have lp1:=lp.but nsl hys s1
      obtain⟨ys1,hys1⟩:=hh1.ls
      obtain⟨xs1,hx1,_⟩:=lp1.ls
      refine cQ (ah rfl) hx1 (RAW rfl hh1 hdq hm12) ?_
      rintro v H2 ⟨hh2,s2,r,tr,dr⟩
      obtain⟨zs,hz,zl,lz⟩:=(lp1.but nsl hys1 s2).snoc tr
      refine⟨zs,hz,aZ (by omega),kD _ ⟨hh2.upd ⟨nsl,nsc⟩,(s1.two.trans s2.two).at,_,lz,by simp,dr.sub fun q hq=>?_⟩⟩
      rcases List.mem_append.mp hq with h|h
      · exact List.mem_cons_of_mem _ h
      · rw[List.mem_singleton.mp h];exact List.mem_cons_self
    · rintro H1 ⟨hh1,s1⟩
      exact⟨hh1,s1.two,ps,lp.but nsl hys s1,by omega,hdq.mono (by omega) (Nat.le_refl _)⟩
    rintro H1 ⟨hh1,s1,ps1,lp1,l1,d1⟩
    obtain⟨ys1,hys1⟩:=hh1.ls
    have SPOT:∀{σ:L2.St} {H:Hp},σ[0]?=some (some (.ref hd))->σ[1]?=some (some (.ref sl))->σ[2]?=some (some (.int w))->HandAt H hd sc->∀{n:Nat} {ps:List Pt3},LP H sl ps->ps.length<=100->Dq n m ps->n<=400->Gv (ce ko [] E0 (bG (cm 0) (bG (cm 1) (bG (cm 2) df)))) σ H (fun v H'=>HandAt H' hd sc/\SameB hd H H'/\∃r,AtP H' v r/\Dq (n+1) m (r::ps)):=fun {σ H} h0 h1 h2 hh {n ps} l e d f=>aX (ar (ah h0) (ar (ah h1) (ar (ah h2) aB))) fun Q g=>⟨hd,sc,sl,ps,w,n,m,rfl,hh,l,nsl,e,d,f,by omega,by omega,w0,w9,fun v H' r a b c d=>g _ _ ⟨a,b,r,c,d⟩⟩
    refine aH (SPOT rfl rfl rfl hh1 lp1 (by omega) d1 (by omega)) ?_
    rintro u H2 ⟨hh2,s2,p,tp,dp⟩
    have lp2:=lp1.but nsl hys1 s2
    obtain⟨xs2,hx2,xl2⟩:=lp2.ls
    refine ju (ah rfl) hx2 (ah rfl).gv ?_
    rintro u' H2' ⟨e1,e2⟩
    have e1:=e1.symm
    have e2:=e2.symm
    subst e1 e2
    obtain⟨zs,hz,zl,lz⟩:=lp2.snoc tp
    rw[hx2] at hz
    cases hz
    refine⟨xs2,hx2,aZ (by omega),?_⟩
    have hh3:HandAt (upd H2 sl (.lst (xs2++[u]))) hd sc:=hh2.upd ⟨nsl,nsc⟩
    have s3:Same2 hd sl H (upd H2 sl (.lst (xs2++[u]))):=(s1.trans s2.two).at
    have tp3:AtP (upd H2 sl (.lst (xs2++[u]))) u p:=by
      obtain⟨pa,rfl,hpa⟩:=tp
      refine⟨pa,rfl,?_⟩
      rw[aF (fun e=>by rw[e,hx2] at hpa;cases hpa)]
      exact hpa
    have dp3:Dq (n+21) m (ps1++[p]):=dp.sub fun q hq=>by
      rcases List.mem_append.mp hq with h|h
      · exact List.mem_cons_of_mem _ h
      · rw[List.mem_singleton.mp h];exact List.mem_cons_self
    generalize upd H2 sl (.lst (xs2++[u]))=H3 at hh3 s3 tp3 lz ⊢
    have mp:p∈ps1++[p]:=List.mem_append_right _ List.mem_cons_self
    have l3:(ps1++[p]).length<=ps.length+2:=by simp;omega
    generalize ps1++[p]=ps2 at dp3 lz mp l3 ⊢
    refine aH (SPOT rfl rfl rfl hh3 lz (by omega) dp3 (by omega)) ?_
    rintro v0 H4 ⟨hh4,s4,q0,tq0,dq0⟩
    refine qB (R:=fun v H'=>HandAt H' hd sc/\SameB hd H3 H'/\∃r,AtP H' v r/\Dq (n+41) m (r::ps2)) (gB hh4 (fun _=>pu_c) (ar (ah rfl) (ar pu_c aB)) (by decide) Bd.small) (fun H' r=>(RAW rfl r.1 dp3 hm12).imp fun v H'' ⟨a,b,c⟩=>⟨a,s4.trans (r.2.trans b),c⟩) rfl (fun H' r=>⟨r.1,s4.trans r.2,q0,rB tq0 hh4 r.2,dq0.mono (by omega) (Nat.le_refl _)⟩) ?_
    rintro v1 H5 ⟨hh5,s5,q1,tq1,dq1⟩
    obtain⟨ys3,hys3⟩:=hh3.ls
    have tp5:=rB tp3 hh3 s5
    have lp0:=dp3.lp mp
    have zp:=dp3.sz mp (by omega) (by omega)
    refine fT (R:=fun v H'=>HandAt H' hd sc/\SameB hd H3 H'/\∃r,AtP H' v r/\p≠r/\Dq (n+42) (m+1) (r::ps2)) (bM (sP (ah rfl) (ah rfl) (TupT.i tp5) (TupT.i tq1))) (fun e=>?_) rfl (fun e=>⟨hh5,s5,q1,tq1,fun z=>?_,dq1.mono (by omega) (by omega)⟩) ?_
    · obtain⟨pa,rfl,hpa⟩:=id tp5
      refine bR (bi (R1:=fun v H'=>HandAt H' hd sc/\SameB hd H5 H'/\∃d:Int,v=.int (p.x+p.z*d)/\0<=d/\d<=1) ?_ fun x Hx ex=>bi (R1:=fun v H'=>v=.int (p.y+p.z)/\Hx=H') ?_ fun y Hy ey=>bi (R1:=fun v H'=>v=.int p.z/\Hy=H') ?_ fun _ _ _=>cU) ?_
      · intro Q f
        refine (aw (ah rfl) pu_c (SqT.of (hpa)) rfl) _ ((aw (ah rfl) pu_c (SqT.of (hpa)) rfl) _ (bU hh5 (ar (ah rfl) (ar pu_c aB)) (by decide) Bd.small _ ?_))
        rintro _ H6 ⟨⟨d,rfl,d0,d1⟩,hh6,s6⟩
        have bd:Bd 64 d:=Bd.small (by omega) (by decide)
        exact⟨p.z,d,rfl,rfl,(aC (zp.z) (bd) (by decide)),_,_,rfl,rfl,f _ _ ⟨hh6,s6,d,rfl,d0,by omega⟩⟩
      · obtain⟨hh6,s6,_⟩:=ex
        obtain⟨pb,e,hpb⟩:=rB tp5 hh5 s6
        cases e
        exact (cv (aw (ah rfl) pu_c (SqT.of (hpb)) rfl) (aw (ah rfl) pu_c (SqT.of (hpb)) rfl)).gv' ⟨rfl,rfl⟩
      · obtain⟨hh6,s6,_⟩:=ex
        obtain⟨rfl,rfl⟩:=ey
        obtain⟨pb,e,hpb⟩:=rB tp5 hh5 s6
        cases e
        exact (aw (ah rfl) pu_c (SqT.of (hpb)) rfl).gv' ⟨rfl,rfl⟩
      · rintro vs H4 ⟨x,H6,r,rfl,⟨hh6,s6,d,rfl,d0,d1⟩,y,H7,r2,rfl,⟨rfl,rfl⟩,z,H8,r3,rfl,⟨rfl,rfl⟩,rfl,rfl⟩ Q f
        exact⟨_,_,_,rfl,lp0.pos,zp.z.mono (by decide),fun v H' r s t i=>f _ _ ⟨hh6.same s,s5.trans (s6.trans s.b),r,t,uQ lp0.pos i,(dp3.step mp ⟨d0,d1⟩ i).mono (by omega) (Nat.le_refl _)⟩⟩
    · rw[z] at e
      simp at e
    rintro v H6 ⟨hh6,s6,q,tq,nq,dq⟩
    have lp6:=lz.but nsl hys3 s6
    obtain⟨xs6,hx6,xl6⟩:=lp6.ls
    refine ju (ah rfl) hx6 (ah rfl).gv ?_
    rintro v' H6' ⟨e1,e2⟩
    have e1:=e1.symm
    have e2:=e2.symm
    subst e1 e2
    obtain⟨zs6,hz6,zl6,lz6⟩:=lp6.snoc tq
    rw[hx6] at hz6
    cases hz6
    refine⟨xs6,hx6,aZ (by omega),?_⟩
    have UP:∀{u:V} {p:Pt3},AtP H6 u p->AtP (upd H6 sl (.lst (xs6++[v]))) u p:=by
      rintro _ p ⟨pa,rfl,hpa⟩
      refine⟨pa,rfl,?_⟩
      rw[aF (fun e=>by rw[e,hx6] at hpa;cases hpa)]
      exact hpa
    have tp7:=UP (rB tp3 hh3 s6)
    have tq7:=UP tq
    have hh7:HandAt (upd H6 sl (.lst (xs6++[v]))) hd sc:=hh6.upd ⟨nsl,nsc⟩
    have s7:Same2 hd sl H (upd H6 sl (.lst (xs6++[v]))):=(s3.trans s6.two).at
    obtain⟨sys,esys,_⟩:=lp.ls
    refine bn (cx (ar (ah rfl) (ar (ah rfl) aB)) (by show 2<=sizeLine;decide)) ?_
    rintro _ _ ⟨t,ht,rfl,rfl⟩
    have st:=Same.upd (o:=.tup [u,v]) ht
    have htH:H t=none:=by
      cases e:H t with
      | none=>rfl
      | some o=>
        by_cases e1:t=hd
        · subst e1
          obtain⟨y,hy⟩:=hh7.ls
          rw[hy] at ht;cases ht
        · by_cases e2:t=sl
          · subst e2
            rw[ak] at ht;cases ht
          · rw[s7 _ _ e e1 e2] at ht;cases ht
    refine k t u v _ p q _ htH (hh7.same st) (s7.trans st.two) ak (tp7.same st) (tq7.same st) (lz6.same st) (by simp;omega) (List.mem_append_left _ mp) (List.mem_append_right _ List.mem_cons_self) nq (dq.sub fun q hq=>?_)
    rcases List.mem_append.mp hq with h|h
    · exact List.mem_cons_of_mem _ h
    · rw[List.mem_singleton.mp h];exact List.mem_cons_self
def qF:Sp:=fun vs H Q _=>∃l m ps,vs=[.ref l,.ref m]/\LP H l ps/\LP H m ps/\ps.length<=1000/\Q (.bl true) H
theorem kr:FnScope ["_law_found","_law_due","_law_k"] ["_law_found","_law_due"] (av fe):=⟨rfl,rfl,rfl,by decide +kernel,rfl,by decide +kernel,by decide +kernel⟩
theorem fm (T:Txt K mg t):FnOk P w K mg base CX0 1 t.f_l_list t.d_l_list ["_law_found","_law_due"] qF:=by
  refine T.l_list.F.ok (k:=0) kr (fun vs H Q E h=>?_) (fun cdv A outer s H vs Q E hr h=>?_)
  · obtain⟨l,m,ps,rfl,_⟩:=h
    rfl
  · obtain⟨l,m,ps,rfl,⟨us,hl,tu⟩,⟨ws,hm,tw⟩,np,k⟩:=h
    refine⟨_,(@aj _ _ _ _ _ (@bB _ _ _ _ _ _ _ _ (PW.pt (@mQ _ _ _ _ _ _ _ (@jE _ _ _ _ (@cH _ _ _ (@aY _ _ _ _ _ _ _ _ _ i5 (by rfl) T.b_isinstance PyProof.Rows.boot_isinstance (@ae _ _ _ _ _ (pv 0) (@ae _ _ _ _ _ (@vX _ _ _ _ T.b_list PyProof.Rows.boot_list (by rfl) (by decide) (by decide)) (@ai _) af) af) (by decide) (by decide) (by rfl) (by rfl)) (by intro _;rfl))) (@jB _ _ _ _ (@aG _ _ _ _ _ _ _ _ kB (@aY _ _ _ _ _ _ _ _ _ aS (by rfl) T.b_len PySem.boot_len (@ae _ _ _ _ _ (pv 0) (@ai _) af) (by decide) (by decide) (by rfl) (by rfl)) (@aY _ _ _ _ _ _ _ _ _ aS (by rfl) T.b_len PySem.boot_len (@ae _ _ _ _ _ (pv 1) (@ai _) af) (by decide) (by decide) (by rfl) (by rfl)) (aQ _))))) (@ay _ _ _ (@aL _ _ _ _ (@hV _ _ _ _))) (@be _)) (@aj _ _ _ _ _ (@eP _ _ _ _ _ _ _ _ PassesOwn.never rfl (@fi _ _ _ _ _ _ rfl T.b_range (@ae _ _ _ _ _ (@aY _ _ _ _ _ _ _ _ _ aS (by rfl) T.b_len PySem.boot_len (@ae _ _ _ _ _ (pv 1) (@ai _) af) (by decide) (by decide) (by rfl) (by rfl)) (@ai _) aK) (by rfl)) (@aM _ _ 2 _ kr.nd rfl (Or.inl rfl) (by first | exact .inl rfl | exact .inr rfl | assumption)) (@ay _ _ _ (@bB _ _ _ _ _ _ _ _ (PW.pt (@mQ _ _ _ _ _ _ _ (@jE _ _ _ _ (@cH _ _ _ (@aY _ _ _ _ _ _ _ _ _ i5 (by rfl) T.b_isinstance PyProof.Rows.boot_isinstance (@ae _ _ _ _ _ (@au _ _ _ _ _ _ _ aI (pv 0) (pv 2) (fun _ _=>rfl)) (@ae _ _ _ _ _ (@vX _ _ _ _ T.b_tuple PyProof.Rows.boot_tuple (by rfl) (by decide) (by decide)) (@ai _) af) aO) (by decide) (by decide) (by rfl) (by rfl)) (by intro _;rfl))) (@jB _ _ _ _ (@aG _ _ _ _ _ _ _ _ (pW hr.units) (@au _ _ _ _ _ _ _ aI (pv 0) (pv 2) (fun _ _=>rfl)) (@au _ _ _ _ _ _ _ aI (pv 1) (pv 2) (fun _ _=>rfl)) (aQ _))))) (@ay _ _ _ (@aL _ _ _ _ (@hV _ _ _ _))) (@be _))) (by intro _;rfl)) (@ay _ _ _ (@aL _ _ _ _ (@hV _ _ _ _))))),?_⟩
    have hul:us.length=ps.length:=by rw[tu.len,List.length_map]
    have hwl:ws.length=ps.length:=by rw[tw.len,List.length_map]
    refine cn (b:=false) (kx (b:=false) (c:=false) (u7 (b:=true) (gM (sN (ar (ah rfl) (ar pu_c aB)) (.lst hl) nj))) fun _=>bM (eH (jC (bD (ar (ah rfl) aB) (SqL.of hl)) (bD (ar (ah rfl) aB) (SqL.of hm))) (by rw[hul,hwl];simp))) (fun e=>by cases e) fun _=>?_
    refine gk (v4 (ar (bD (ar (ah rfl) aB) (SqL.of hm)) aB)) ?_
    rintro _ H0 ⟨rfl,e⟩
    have e:=e.symm
    subst e
    refine⟨_,rfl,by omega,by omega,fun i σ H'=>H'=H/\(∃a:Option V,σ=[some (.ref l),some (.ref m),a]),⟨rfl,⟨_,rfl⟩⟩,?_,?_⟩
    · rintro i σ H' hi ⟨rfl,⟨c1,rfl⟩⟩
      have hi':i<ps.length:=by omega
      obtain⟨p,hp⟩:∃p,ps[i]?=some p:=⟨_,List.getElem?_eq_getElem hi'⟩
      obtain⟨v,hv,a1,rfl,h1⟩:=tu.get (i:=i) (ns:=L3 p) (by rw[List.getElem?_map,hp];rfl)
      obtain⟨w,hw,a2,rfl,h2⟩:=tw.get (i:=i) (ns:=L3 p) (by rw[List.getElem?_map,hp];rfl)
      have I1:Pu (tOp (iE K) (cm 0) (cm 2)) [some (.ref l),some (.ref m),some (.int (0+(i:Int)))] H' (.ref a1):=bp (ah rfl) (ah rfl) (SqL.of hl) (by rw[Int.zero_add];exact bA hv)
      have I2:Pu (tOp (iE K) (cm 1) (cm 2)) [some (.ref l),some (.ref m),some (.int (0+(i:Int)))] H' (.ref a2):=bp (ah rfl) (ah rfl) (SqL.of hm) (by rw[Int.zero_add];exact bA hw)
      refine je (b:=false) (kx (b:=false) (c:=false) (u7 (b:=true) (gM (sN (ar I1 (ar pu_c aB)) (.tup h1) nj))) fun _=>bM (eH (sI I1 I2 (TupI.of h1) (TupI.of h2)) (by simp))) (fun e=>by cases e) fun _=>⟨rfl,⟨_,rfl⟩⟩
    · rintro σ H' ⟨rfl,⟨c1,rfl⟩⟩
      exact bL pu_c k
theorem pI {σ:L2.St}{H:Hp}{D:Ends}{rest:TS}{tc:TT}{t:TS}{RB:Bool->Hp->Prop}{I:L2.St->Hp->Prop}(hc:GvT tc σ H RB)(he:∀H',RB true H'->∀D':Ends,(∀σ' H'',I σ' H''->D'.nx σ' H'')->t D' σ H')(r0:∀H',RB false H'->I σ H')(q:∀σ' H',I σ' H'->rest D σ' H'):dQ (i7 tc t gU) rest D σ H:=
  gl hc (fun H' r=>he H' r _ q) fun H' r=>q _ H' (r0 H' r)
theorem StAt.tk {H H':Hp}{a:Addr}{x:(Pt3×Pt3)×List Int}(h:StAt H a x)(s:TpK H H'):StAt H' a x:=by
  obtain⟨u,v,w,h1,h2,h3,h4⟩:=h
  exact⟨u,v,w,s _ _ h1,h2.tk s,h3.tk s,h4.tk s⟩
theorem nz {K:PySem.W.Frag}{σ:L2.St}{H:Hp}{hd sc S:Addr}{as:List Addr}{xs:List ((Pt3×Pt3)×List Int)}{to:TE}{t:TA}{n:Int}(hh:HandAt H hd sc)(hS:H S=some (.lst (as.map V.ref)))(pr:Paired (StAt H) as xs)(ns:S≠hd)(h0:0<n)(hz:n<=1000)(hn:n<=(xs.length:Int))(ho:Pu to σ H (.ref S))(ha:PuA t σ H [.ref hd,.int n]) :
    Gv (tOp (iE K) to (ce cz [] E0 t)) σ H (fun v H'=>HandAt H' hd sc/\SameB hd H H'/\∃a x,x∈xs/\v=.ref a/\StAt H' a x):=by
  intro Q f
  refine ho _ ?_
  refine bU hh ha (by omega) (Bd.small (by omega)) _ ?_
  rintro _ H1 ⟨⟨j,rfl,j0,j1⟩,hh1,s1⟩
  obtain⟨ys,hys⟩:=hh.ls
  obtain⟨x,hx⟩:∃x,xs[j.toNat]?=some x:=⟨_,List.getElem?_eq_getElem (by omega)⟩
  obtain⟨a,ea,sa⟩:=dO pr hx
  have e3:(as.map V.ref)[j.toNat]?=some (.ref a):=by rw[List.getElem?_map,ea];rfl
  have ea:=bA e3
  rw[show ((j.toNat:Nat):Int)=j by omega] at ea
  exact⟨S,_,j,_,rfl,rfl,SqL.of (s1 _ _ hS ns),ea,f _ _ ⟨hh1,s1,a,x,List.mem_of_getElem? hx,rfl,sa.tk (fR s1 hys)⟩⟩
def frS (f a b c:Int)(x:(Pt3×Pt3)×List Int):(Pt3×Pt3)×List Int:=((frP f a b c x.1.1,frP f a b c x.1.2),x.2)
theorem ux {f a b c:Int}{x:(Pt3×Pt3)×List Int}(F:Fr f a b c)(h:OkS 450 x.1):OkS 900 (frS f a b c x).1:=
  let p:=v6 F h.a.pos (h.za.mono (by decide))
  let q:=v6 F h.b.pos (h.zb.mono (by decide))
  ⟨p.1,q.1,wV F h.a.pos h.b.pos h.ab,p.2.mono (by decide),q.2.mono (by decide)⟩
theorem r9 (zs:List ((Pt3×Pt3)×List Int)):Stays (fun H i p=>∃x,zs[i]?=some x/\StAt H p x) where
  same:=fun ⟨x,e,h⟩ s=>⟨x,e,h.same s⟩
  but:=fun ⟨x,e,h⟩ _ d s=>⟨x,e,h.tk (fR s d)⟩
  here:=fun ⟨x,e,u,v,w,h1,h2,h3,h4⟩ z=>by rw[h1] at z;cases z
def ja:Sp:=fun vs H Q _=>∃hd sc sl fv f a b c,vs=[.ref hd,.ref sl,fv]/\HandAt H hd sc/\LP H sl []/\sl≠hd/\sl≠sc/\TupT H fv [f,a,b,c]/\Fr f a b c/\∀l H' xs,H l=none->HandAt H' hd sc->Same2 hd sl H H'->StL H' l xs->(∀x∈xs,OkS 900 x.1)->xs.length<=8->Q (.ref l) H'
theorem bt:FnScope ["_law_hand_here","_law_seen","_law_frame_here","_law_wide","_law_many","_law_strokes","_law_k","_law_p","_law_q"] ["_law_hand_here","_law_seen","_law_frame_here"] (av ck):=⟨rfl,rfl,rfl,by decide +kernel,rfl,by decide +kernel,by decide +kernel⟩
theorem jc (T:Txt K mg t):FnOk P w K mg base CX0 6 t.f_l_strokes_by t.d_l_strokes_by ["_law_hand_here","_law_seen","_law_frame_here"] ja:=by
  refine T.l_strokes_by.F.ok (k:=5) bt (fun vs H Q E h=>?_) (fun cdv A outer s H vs Q E hr h=>?_)
  · obtain⟨hd,sc,sl,fv,f,a,b,c,rfl,_⟩:=h
    rfl
  · obtain⟨hd,sc,sl,fv,f,a,b,c,rfl,hh,lp,nsl,nsc,hfv,F,k⟩:=h
    refine⟨_,(@aj _ _ _ _ _ (@aE _ _ 3 _ _ _ _ bt.nd rfl (Or.inl rfl) (@au _ _ _ _ _ _ _ aI (@cD _ _ _ _ (@ae _ _ _ _ _ (@ag _ _ _ _) (@ae _ _ _ _ _ (@ag _ _ _ _) (@ae _ _ _ _ _ (@ag _ _ _ _) (@ae _ _ _ _ _ (@ag _ _ _ _) (@ai _) aT) aT) aT) aT)) (@aA _ _ _ _ _ _ _ _ _ _ _ _ _ _ T.l_draw (aR T) hr (by decide) (@ae _ _ _ _ _ (pv 0) (@ae _ _ _ _ _ (@ag _ _ _ _) (@ai _) aT) af) (by rfl) (by decide) (by rfl) (by rfl)) (fun _ _=>rfl)) (by rfl) (by first | exact .inl rfl | exact .inr rfl | assumption)) (@aj _ _ _ _ _ (@aE _ _ 4 _ _ _ _ bt.nd rfl (Or.inl rfl) (@aA _ _ _ _ _ _ _ _ _ _ _ _ _ _ T.l_draw (aR T) hr (by decide) (@ae _ _ _ _ _ (pv 0) (@ae _ _ _ _ _ (@ag _ _ _ _) (@ai _) aT) af) (by rfl) (by decide) (by rfl) (by rfl)) (by rfl) (by first | exact .inl rfl | exact .inr rfl | assumption)) (@aj _ _ _ _ _ (@aE _ _ 5 _ _ _ _ bt.nd rfl (Or.inl rfl) (@cD _ _ _ _ (@ai _)) (by rfl) (by first | exact .inl rfl | exact .inr rfl | assumption)) (@aj _ _ _ _ _ (@eP _ _ _ _ _ _ _ _ PassesOwn.never rfl (@fi _ _ _ _ _ _ rfl T.b_range (@ae _ _ _ _ _ (@aA _ _ _ _ _ _ _ _ _ _ _ _ _ _ T.l_draw (aR T) hr (by decide) (@ae _ _ _ _ _ (pv 0) (@ae _ _ _ _ _ (@ag _ _ _ _) (@ai _) aT) af) (by rfl) (by decide) (by rfl) (by rfl)) (@ai _) aK) (by rfl)) (@aM _ _ 6 _ bt.nd rfl (Or.inl rfl) (by first | exact .inl rfl | exact .inr rfl | assumption)) (@aj _ _ _ _ _ (@dD _ _ _ _ _ _ (@aA _ _ _ _ _ _ _ _ _ _ _ _ _ _ T.l_side (kF T) hr (by decide) (@ae _ _ _ _ _ (pv 0) (@ae _ _ _ _ _ (pv 1) (@ae _ _ _ _ _ (pv 3) (@ai _) af) af) af) (by rfl) (by decide) (by rfl) (by rfl)) (@gb _ _ _ _ _ _ rfl (@aU _ _ _ _ _ (@aM _ _ 7 _ bt.nd rfl (Or.inl rfl) (by first | exact .inl rfl | exact .inr rfl | assumption)) (@aU _ _ _ _ _ (@aM _ _ 8 _ bt.nd rfl (Or.inl rfl) (by first | exact .inl rfl | exact .inr rfl | assumption)) (@cg _) (by rfl)) (by rfl)) (by rfl) (by rfl)) (by rfl) (by rfl) (by rfl)) (@aj _ _ _ _ _ (@bB _ _ _ _ _ _ _ _ (PW.pt (@eg _ _ _ _ _ _ _ (@aG _ _ _ _ _ _ _ _ fP (pv 6) (@ag _ _ _ _) (aQ _)) (@db _ _ _ _ (@aG _ _ _ _ _ _ _ _ di (@aA _ _ _ _ _ _ _ _ _ _ _ _ _ _ T.l_draw (aR T) hr (by decide) (@ae _ _ _ _ _ (pv 0) (@ae _ _ _ _ _ (@ag _ _ _ _) (@ai _) aT) af) (by rfl) (by decide) (by rfl) (by rfl)) (@ag _ _ _ _) (aQ _))))) (@ay _ _ _ (@dD _ _ _ _ _ _ (qS (@eu _ _ _ _ _ _ _ _ _ _ lG (@au _ _ _ _ _ _ _ aI (pv 5) (@aA _ _ _ _ _ _ _ _ _ _ _ _ _ _ T.l_draw (aR T) hr (by decide) (@ae _ _ _ _ _ (pv 0) (@ae _ _ _ _ _ (pv 6) (@ai _) af) af) (by rfl) (by decide) (by rfl) (by rfl)) (fun _ _=>rfl)) (@cw _) (@cE _ _ _ (@ag _ _ _ _))) (@cw _) (@cw _) (@cE _ _ _ (@gF _ _ _ _ _ _ eN (@ag _ _ _ _)))) (@gb _ _ _ _ _ _ rfl (@aU _ _ _ _ _ (@aM _ _ 7 _ bt.nd rfl (Or.inl rfl) (by first | exact .inl rfl | exact .inr rfl | assumption)) (@aU _ _ _ _ _ (@aM _ _ 8 _ bt.nd rfl (Or.inl rfl) (by first | exact .inl rfl | exact .inr rfl | assumption)) (@cg _) (by rfl)) (by rfl)) (by rfl) (by rfl)) (by rfl) (by rfl) (by rfl))) (@be _)) (@ay _ _ _ (@bu _ _ _ _ (@cY _ _ _ _ _ _ _ _ _ _ _ _ PySem.F.plainAttrs_list PySem.F.slot_list_append PySem.F.type_list_append br (pv 5) (@ae _ _ _ _ _ (@bN _ _ _ _ _ (@ae _ _ _ _ _ (pv 7) (@ae _ _ _ _ _ (pv 8) (@ae _ _ _ _ _ (@cC _ _ _ _ _ _ _ _ _ kd (by rfl) T.b_tuple PyProof.Rows.boot_tuple (@ae _ _ _ _ _ (@kA _ "_law_j" "_law_hand_here" _ _ _ _ _ _ _ _ 0 rfl (@fi _ _ _ _ _ _ rfl T.b_range (@ae _ _ _ _ _ (pv 4) (@ai _) af) (by rfl)) (fun _ _ _ _=>aM (i:=0) (show (["_law_j","_law_hand_here"]:List Str).Nodup from by decide +kernel) rfl (Or.inl rfl) (.inr rfl)) (fun _ _ _ _=>(@az _ _ _ _ _ _ _ _ bO (@aA _ _ _ _ _ _ _ _ _ _ _ _ _ _ T.l_draw (aR T) hr (by decide) (@ae _ _ _ _ _ (pv 1) (@ae _ _ _ _ _ (@ag _ _ _ _) (@ai _) aT) af) (by rfl) (by decide) (by rfl) (by rfl)) (@ag _ _ _ _))) rfl rfl (by decide +kernel) (by decide +kernel) rfl rfl rfl rfl rfl (by intro _;rfl)) (@ai _) fB) (by decide) (by decide) (by rfl) (by rfl)) (@ai _) aK) af) af)) (@ai _) mr) (by rfl) (by rfl) (by rfl) (by rfl) (by rfl)) (by rfl))))) (by intro _;rfl)) (@ay _ _ _ (@aL _ _ _ _ (oz (x1:="_law_p") (x2:="_law_q") (x3:="_law_passes") (y:="_law_frame_here") 2 rfl (@cf _ _ _ _ (pv 5)) (fun _ _ _ _=>eI (K:=K) (n:=3) rfl rfl (@aU _ _ _ _ _ (@aM _ _ 0 _ (show (["_law_p","_law_q","_law_passes","_law_frame_here"]:List Str).Nodup from by decide +kernel) rfl (Or.inl rfl) (.inr rfl)) (@aU _ _ _ _ _ (@aM _ _ 1 _ (show (["_law_p","_law_q","_law_passes","_law_frame_here"]:List Str).Nodup from by decide +kernel) rfl (Or.inl rfl) (.inr rfl)) (@aU _ _ _ _ _ (@aM _ _ 2 _ (show (["_law_p","_law_q","_law_passes","_law_frame_here"]:List Str).Nodup from by decide +kernel) rfl (Or.inl rfl) (.inr rfl)) (@cg _) (by rfl)) (by rfl)) (by rfl)) rfl rfl) (fun _ _ _ _=>(@bN _ _ _ _ _ (@ae _ _ _ _ _ (@aA _ _ _ _ _ _ _ _ _ _ _ _ _ _ T.l_framed (gf T) hr (by decide) (@ae _ _ _ _ _ (pv 3) (@ae _ _ _ _ _ (pv 0) (@ai _) af) af) (by rfl) (by decide) (by rfl) (by rfl)) (@ae _ _ _ _ _ (@aA _ _ _ _ _ _ _ _ _ _ _ _ _ _ T.l_framed (gf T) hr (by decide) (@ae _ _ _ _ _ (pv 3) (@ae _ _ _ _ _ (pv 1) (@ai _) af) af) (by rfl) (by decide) (by rfl) (by rfl)) (@ae _ _ _ _ _ (pv 2) (@ai _) af) aK) aK))) rfl rfl (by decide +kernel) (by decide +kernel) rfl rfl rfl rfl rfl))))))),?_⟩
    obtain⟨sys,esys,_⟩:=lp.ls
    have lp0:=lp
    refine aH (qi (ys:=[2,3,5,9]) (m:=9) hh (ar pu_c (ar pu_c (ar pu_c (ar pu_c aB)))) (by decide) (by decide) (by decide) (fun _=>ar (ah rfl) (ar pu_c aB))) ?_
    rintro _ H1 ⟨⟨w,rfl,w0,w9⟩,hh1,s1⟩
    obtain⟨ys,hys⟩:=hh.ls
    obtain⟨ys1,hys1⟩:=hh1.ls
    have lp1:=lp.but nsl hys s1
    refine aH (bU hh1 (ar (ah rfl) (ar pu_c aB)) (by decide) Bd.small) ?_
    rintro _ H2 ⟨⟨mn,rfl,mn0,mn1⟩,hh2,s2⟩
    have lp2:=lp1.but nsl hys1 s2
    have s02:SameB hd H H2:=s1.trans s2
    refine aH (cO aB (by show 0<=sizeLine;decide)) ?_
    rintro _ _ ⟨S,hS0,rfl,rfl⟩
    have s3:Same H2 (upd H2 S (.lst [])):=Same.upd hS0
    have hh3:=hh2.same s3
    obtain⟨nSh,nSc⟩:=hh2.fresh hS0
    have lp3:=lp2.same s3
    have hSH:H S=none:=by
      cases e:H S with
      | none=>rfl
      | some o=>rw[s02 _ _ e nSh] at hS0;cases hS0
    have nSs:S≠sl:=fun e=>by rw[e,esys] at hSH;cases hSH
    have s03:Same2 hd sl H (upd H2 S (.lst [])):=(s02.trans s3.b).two
    have hS3:(upd H2 S (.lst [])) S=some (.lst (([]:List Addr).map V.ref)):=ak
    generalize upd H2 S (.lst [])=H3 at hh3 lp3 s03 hS3 ⊢
    obtain⟨ys3,hys3⟩:=hh3.ls
    refine gk (bi (bU hh3 (ar (ah rfl) (ar pu_c aB)) (by decide) Bd.small) fun _ _ _=>cU) ?_
    rintro vs H4 ⟨_,H5,r,rfl,⟨⟨n,rfl,n0,n1⟩,hh5,s5⟩,rfl,rfl⟩
    refine⟨n,rfl,by omega,by omega,fun i σ H'=>∃(as:List Addr) (xs:List ((Pt3×Pt3)×List Int)) (ps:List Pt3) (c1 c2 c3:Option V),σ=[some (.ref hd),some (.ref sl),some fv,some (.int w),some (.int mn),some (.ref S),c1,c2,c3]/\HandAt H' hd sc/\Same2 hd sl H H'/\H' S=some (.lst (as.map V.ref))/\Paired (StAt H') as xs/\xs.length=i/\LP H' sl ps/\ps.length<=3*i/\Dq (3+42*i) (10 ^ 12+i) ps/\(∀x∈xs,OkS 450 x.1)/\i<=8,?_,?_,?_⟩
    · exact⟨[],[],[],none,none,none,rfl,hh5,s03.trans s5.two,s5 _ _ hS3 nSh,.nil,rfl,lp3.but nsl hys3 s5,Nat.le_refl _,Dq.nil _,(fun _ h=>nomatch h),by omega⟩
    · rintro i σ H6 hi ⟨as,xs,ps,c1,c2,c3,rfl,hh6,s6,hS6,pr6,xl,lp6,pl,dq,ok,i8⟩
      have hi':i<8:=by omega
      obtain⟨ys6,hys6⟩:=hh6.ls
      obtain⟨sl6,hsl6,_⟩:=lp6.ls
      refine jf (R:=fun v H'=>∃t u v' p q ps',v=.ref t/\HandAt H' hd sc/\Same2 hd sl H6 H'/\H' t=some (.tup [u,v'])/\AtP H' u p/\AtP H' v' q/\LP H' sl ps'/\ps'.length<=3*(i+1)/\OkS 450 (p,q)/\Dq (3+42*(i+1)) (10 ^ 12+(i+1)) ps') (aX (ar (ah rfl) (ar (ah rfl) (ar (ah rfl) aB))) fun Q g=>⟨hd,sc,sl,ps,w,3+42*i,10 ^ 12+i,rfl,hh6,lp6,nsl,nsc,by omega,dq,by omega,by omega,by omega,w0,by omega,fun t u v H' p q ps' h1 h2 h3 h4 h5 h6 h7 h8 h9 h10 h11 h12=>g _ _ ⟨t,u,v,p,q,ps',rfl,h2,h3,h4,h5,h6,h7,by omega,⟨h12.lp h9,h12.lp h10,nM (h12.lp h9) (h12.lp h10) h11,h12.sz h9 (by omega) (by omega),h12.sz h10 (by omega) (by omega)⟩,h12.mono (by omega) (by omega)⟩⟩) ?_
      rintro _ H7 ⟨t,u,v,p,q,ps',rfl,hh7,s7,ht,tu,tv,lp7,pl7,okp,dq7⟩
      refine tg2 ht ?_
      have k67:=wm s7 hys6 hsl6
      have hS7:=s7 _ _ hS6 nSh nSs
      have pr7:=bz pr6 fun _ _ x=>x.tk k67
      obtain⟨ys7,hys7⟩:=hh7.ls
      refine pI (I:=fun σ' H'=>∃u v p q,σ'=[some (.ref hd),some (.ref sl),some fv,some (.int w),some (.int mn),some (.ref S),some (.int (0+(i:Int))),some u,some v]/\HandAt H' hd sc/\SameB hd H7 H'/\AtP H' u p/\AtP H' v q/\OkS 450 (p,q)) (RB:=fun b H'=>(b=true->0<i)/\HandAt H' hd sc/\SameB hd H7 H') ?_ ?_ ?_ ?_
      · refine ur (R:=fun b H'=>(b=true->0<i)/\HandAt H' hd sc/\SameB hd H7 H') ((bM (fO (ah rfl) pu_c)).gt ⟨fun e=>?_,hh7,fun _ _ h _=>h⟩) ?_ ?_
        · have:=of_decide_eq_true e
          omega
        · rintro H' ⟨e,h1,h2⟩
          exact fun Q g=>gB h1 (fun _=>pu_c) (ar (ah rfl) (ar pu_c aB)) (by decide) Bd.small Q fun b H'' r=>g b H'' ⟨fun _=>e rfl,r.1,h2.trans r.2⟩
        · rintro H' ⟨e,h1,h2⟩
          exact⟨(fun z=>nomatch z),h1,h2⟩
      · rintro H8 ⟨e,hh8,s8⟩ D' kD
        have i0:=e rfl
        have k8:=fR s8 hys7
        refine (nz hh8 (s8 _ _ hS7 nSh) (bz pr7 fun _ _ x=>x.tk k8) nSh (n:=0+(i:Int)) (by omega) (by omega) (by omega) (ah rfl) (ar (ah rfl) (ar (ah rfl) aB))) _ fun v9 H9 z=>?_
        obtain⟨hh9,s9,a9,x9,hx9,rfl,u9,w9,y9,e1,e2,e3,e4⟩:=z
        refine⟨2,rfl,a9,[u9,w9,y9],rfl,SqT.of e1,(fun z=>absurd z.2 (by show ¬(HT.sIx 3 3 (some 2)=3);decide)),fun p1 hp1=>?_⟩
        have sa:Same H9 (upd H9 p1 (.tup [u9,w9])):=Same.upd hp1
        dsimp only[eG,iL,tUn,tC,rU]
        refine⟨1,rfl,-1,rfl,p1,u9,w9,rfl,rfl,rfl,rfl,SqT.of ak,fun p2 hp2=>?_⟩
        have sb:=Same.upd (o:=.tup [w9,u9]) hp2
        refine tg2 ak ?_
        exact kD _ _ ⟨w9,u9,_,_,rfl,(hh9.same sa).same sb,s8.trans (s9.trans (sa.trans sb).b),(e3.same sa).same sb,(e2.same sa).same sb,(ok x9 hx9).swap⟩
      · rintro H' ⟨_,h1,h2⟩
        have kk:=fR h2 hys7
        exact⟨u,v,p,q,rfl,h1,h2,tu.tk kk,tv.tk kk,okp⟩
      clear okp tu tv
      rintro _ H8 ⟨u,v,p,q,rfl,hh8,s8,tu,tv,okp⟩
      have k8:=fR s8 hys7
      have hS8:=s8 _ _ hS7 nSh
      obtain⟨ys8,hys8⟩:=hh8.ls
      refine cQ (R:=fun v9 H9=>∃t w ns,v9=.ref t/\H9 t=some (.tup [u,v,w])/\TupT H9 w ns/\HandAt H9 hd sc/\SameB hd H8 H9) (ah rfl) hS8 (fun Q g=>?_) ?_
      · dsimp only[nW,bG,df,tCB]
        refine ah (v:=u) rfl _ (ah (v:=v) rfl _ (uq (n:=mn) (fun D i ys H'=>H' D=some (.lst ys)/\HandAt H' hd sc/\SameB hd H8 H'/\∃ns:List Int,ys=ns.map V.int/\ns.length=i) (ar (ah rfl) aB) (by omega) (by omega) (fun x=>(KeepS.refl _).cons _) (fun D hD=>⟨ak,hh8.upd (hh8.fresh hD),(Same.upd hD).b,[],rfl,rfl⟩) ?_ _ ?_))
        · rintro D j zs H9 hD hj ⟨h1,h2,h3,ns,rfl,hl⟩
          refine⟨aZ (by rw[List.length_map];omega),(gS (n:=5) (c:=2) h2 (fun _=>pu_c) (ar (ah rfl) (ar pu_c aB)) (by decide) Bd.small).imp ?_⟩
          rintro _ H10 ⟨⟨z,rfl,z0,z1⟩,h4,h5⟩
          have nD:=hh8.fresh hD
          refine⟨h5 _ _ h1 nD.1,ak,h4.upd nD,?_,ns++[z - 2],by simp,by simp[hl]⟩
          intro b o hb nb
          rw[aF (fun e=>by rw[e,hD] at hb;cases hb)]
          exact h5 _ _ (h3 _ _ hb nb) nb
        · rintro _ H9 ⟨D,zs,hD,rfl,h1,h2,h3,ns,rfl,hl⟩
          refine⟨D,_,rfl,.inl ⟨SqL.of h1,fun l hl9=>⟨by show 3<=sizeLine;decide,fun t ht=>?_⟩⟩⟩
          have sa:=Same.upd (o:=.tup (ns.map V.int)) hl9
          have sb:=Same.upd (o:=.tup [u,v,.ref l]) ht
          exact g _ _ ⟨t,.ref l,ns,rfl,ak,⟨l,rfl,sb _ _ ak⟩,(h2.same sa).same sb,h3.trans (sa.trans sb).b⟩
      rintro _ H9 ⟨t9,w,ns,rfl,ht9,tw,hh9,s9⟩
      have hS9:=s9 _ _ hS8 nSh
      have k9:=fR s9 hys8
      have al:=bF pr6
      refine⟨as.map V.ref,hS9,aZ (by rw[List.length_map];omega),?_⟩
      have ku:TpK H9 (upd H9 S (.lst (as.map V.ref++[.ref t9]))):=rT hS9
      obtain⟨zs7,hz7,_⟩:=lp7.ls
      refine⟨as++[t9],xs++[((p,q),ns)],ps',_,_,_,rfl,hh9.upd ⟨nSh,nSc⟩,?_,by rw[ak,List.map_append];rfl,?_,by simp[xl],?_,pl7,dq7,fun x hx=>?_,hi'⟩
      · intro b o hb n1 n2
        rw[aF (fun e=>by rw[e,hSH] at hb;cases hb)]
        exact s9 _ _ (s8 _ _ (s7 _ _ (s6 _ _ hb n1 n2) n1 n2) n1) n1
      · refine iU (bz pr7 fun _ _ x=>((x.tk k8).tk k9).tk ku) ?_
        exact⟨u,v,w,ku _ _ ht9,(tu.tk k9).tk ku,(tv.tk k9).tk ku,tw.tk ku⟩
      · have l9:=(lp7.but nsl hys7 s8).but nsl hys8 s9
        obtain⟨zs,z1,z2⟩:=l9
        exact⟨zs,by rw[aF (Ne.symm nSs)];exact z1,z2.mono fun _ _ x=>x.tk ku⟩
      · rcases List.mem_append.mp hx with h|h
        · exact ok x h
        · rw[List.mem_singleton.mp h];exact okp
    · rintro σ H6 ⟨as,xs,ps,c1,c2,c3,rfl,hh6,s6,hS6,pr6,xl,lp6,pl,dq,ok,i8⟩
      have al:=bF pr6
      have hfv6:TupT H6 fv [f,a,b,c]:=hfv.tk (wm s6 hys esys)
      refine bn (fz (R:=fun H i p=>∃x,(xs.map (frS f a b c))[i]?=some x/\StAt H p x) (r9 _) (ah rfl) hS6 (by rw[List.length_map];omega) fun i x H' ex s' Q q=>?_) ?_
      · rw[List.getElem?_map] at ex
        cases ea:as[i]? with
        | none=>rw[ea] at ex;cases ex
        | some a'=>
          rw[ea] at ex
          cases ex
          obtain⟨x,hxi,u,v,w,e1,e2,e3,e4⟩:=bv pr6 ea
          have ox:=ok x (List.mem_of_getElem? hxi)
          refine tg3 (s' _ _ e1) ⟨KeepS.noneL3,?_⟩
          dsimp only[nW,bG,df]
          refine (aX (R:=fun w H2=>Same H' H2/\AtP H2 w (frP f a b c x.1.1)) (ar (ah rfl) (ar (ah rfl) aB)) fun Q q=>⟨fv,u,f,a,b,c,_,rfl,hfv6.same s',F,e2.same s',ox.za.mono (by decide),ox.a.pos,fun w H2 s2 h=>q _ _ ⟨s2,h⟩⟩) _ fun w1 H7 ⟨s7,f1⟩=>?_
          refine (aX (R:=fun w H2=>Same H7 H2/\AtP H2 w (frP f a b c x.1.2)) (ar (ah rfl) (ar (ah rfl) aB)) fun Q q=>⟨fv,v,f,a,b,c,_,rfl,(hfv6.same s').same s7,F,(e3.same s').same s7,ox.zb.mono (by decide),ox.b.pos,fun w H2 s2 h=>q _ _ ⟨s2,h⟩⟩) _ fun w2 H8 ⟨s8,f2⟩=>?_
          refine ah (v:=w) rfl _ ⟨by show 3<=sizeLine;decide,fun p2 hp2=>?_⟩
          have sb:=Same.upd (o:=.tup [w1,w2,w]) hp2
          exact q p2 _ (s7.trans (s8.trans sb)) (bK (s7.trans s8) hp2) ⟨frS f a b c x,by rw[List.getElem?_map,hxi];rfl,w1,w2,w,ak,(f1.same s8).same sb,f2.same sb,(((e4.same s').same s7).same s8).same sb⟩
      · rintro _ H7 ⟨s7,D,qs,rfl,hD,hD7,hql,hqs,_⟩
        rw[List.length_map] at hql
        have nDh:=hh6.fresh hD
        refine k D H7 (xs.map (frS f a b c)) ?_ (hh6.same s7) (s6.trans s7.two) ⟨qs,hD7,?_⟩ (fun x hx=>?_) (by rw[List.length_map];omega)
        · cases e:H D with
          | none=>rfl
          | some o=>
            have nds:D≠sl:=fun e'=>by
              obtain⟨z,hz,_⟩:=lp6.ls
              rw[e',hz] at hD;cases hD
            rw[s6 _ _ e nDh.1 nds] at hD;cases hD
        · refine cM (by rw[List.length_map];omega) fun i p hp=>?_
          exact (hqs i p hp).1
        · obtain⟨y,hy,rfl⟩:=List.mem_map.mp hx
          exact ux F (ok y hy)
theorem wW {p q:Pt3}(hp:Lp p)(hq:Lp q)(zp:Sz 900 p)(zq:Sz 900 q):Dq 1803 (2 ^ 900) [p,q]:=by
  have Z:∀{r:Pt3},Lp r->Sz 900 r->r.z<2 ^ 900/\r.x.natAbs<=2 ^ 900*r.z.natAbs/\r.y.natAbs<=2 ^ 900*r.z.natAbs:=fun {r} l z=>by
    have h0:=l.pos
    have hx:r.x.natAbs<2 ^ 900:=z.x
    have hy:r.y.natAbs<2 ^ 900:=z.y
    have hz:r.z.natAbs<2 ^ 900:=z.z
    have h1:1<=r.z.natAbs:=by omega
    have h2:2 ^ 900*1<=2 ^ 900*r.z.natAbs:=Nat.mul_le_mul_left _ h1
    rw[Nat.mul_one] at h2
    refine⟨?_,Nat.le_trans (Nat.le_of_lt hx) h2,Nat.le_trans (Nat.le_of_lt hy) h2⟩
    have e:((2 ^ 900:Nat):Int)=2 ^ 900:=by simp
    rw[←e]
    generalize 2 ^ 900=N at hz ⊢
    omega
  obtain⟨p1,p2,p3⟩:=Z hp zp
  obtain⟨q1,q2,q3⟩:=Z hq zq
  have hp0:=hp.pos
  have hq0:=hq.pos
  have hm:=Int.mul_pos hp0 hq0
  refine⟨6*(p.z*q.z),by omega,?_,Int.dvd_mul_right _ _,fun r hr=>?_⟩
  · have e:(2:Int) ^ 1803=8*(2 ^ 900*2 ^ 900):=by
      rw[←Int.pow_add,show (8:Int)=2 ^ 3 by decide,←Int.pow_add]
    rw[e]
    have h1:p.z*q.z<=p.z*2 ^ 900:=Int.mul_le_mul_of_nonneg_left (Int.le_of_lt q1) (by omega)
    have h2:p.z*2 ^ 900<=2 ^ 900*2 ^ 900:=Int.mul_le_mul_of_nonneg_right (Int.le_of_lt p1) (by omega)
    generalize (2:Int) ^ 900*2 ^ 900=N at h2 ⊢
    generalize p.z*2 ^ 900=N' at h1 h2
    omega
  · rcases List.mem_cons.mp hr with rfl|hr
    · exact⟨hp,⟨6*q.z,by rw[Int.mul_left_comm]⟩,p2,p3⟩
    · rw[List.mem_singleton.mp hr]
      exact⟨hq,⟨6*p.z,by rw[Int.mul_comm p.z,←Int.mul_assoc,←Int.mul_assoc,Int.mul_comm 6 q.z]⟩,q2,q3⟩
theorem md {n:Nat}{ps:List Pt3}(h:Dq n (2 ^ 900) ps){p:Pt3}(hp:p∈ps)(e:n<=1900):Sz 4000 p:=by
  obtain⟨M,h0,h1,h2,h3⟩:=h.mono e (Nat.le_refl _)
  have d:=h3 p hp
  have hz:p.z<=M:=Int.le_of_dvd h0 d.dv
  have hzn:p.z.natAbs<2 ^ 1900:=wd d.lp.pos (Int.lt_of_le_of_lt hz h1)
  have b:∀n:Int,n.natAbs<=2 ^ 900*p.z.natAbs->Bd 4000 n:=fun n hn=>by
    unfold Bd
    exact Nat.lt_of_le_of_lt hn (Nat.lt_of_lt_of_le (Nat.mul_lt_mul_of_pos_left hzn (Nat.two_pow_pos _)) (by rw[←Nat.pow_add];exact Nat.pow_le_pow_right (by decide) (by decide)))
  refine⟨b _ d.x,b _ d.y,?_⟩
  unfold Bd
  exact Nat.lt_of_lt_of_le hzn (Nat.pow_le_pow_right (by decide) (by decide))
def PtI (hd sc:Addr)(H:Hp)(P N:Addr)(i:Nat)(H':Hp):Prop:=∃ps ns,HandAt H' hd sc/\SameB hd H H'/\LP H' P ps/\LP H' N ns/\ps.length=i/\0<ns.length/\ns.length<=2+i/\Dq (1803+i) (2 ^ 900) ns/\(∀x∈ps,Lp x/\Sz 4000 x)/\i<=8
def mH:Sp:=fun vs H Q _=>∃hd sc vp vq d p q sp,vs=[.ref hd,vp,vq,.ref d]/\HandAt H hd sc/\AtP H vp p/\AtP H vq q/\Lp p/\Lp q/\Sz 900 p/\Sz 900 q/\LP H d sp/\d≠hd/\sp.length<=300/\(∀x∈sp,Lp x/\Sz 4000 x)/\∀l H' ps,H l=none->HandAt H' hd sc->SameB hd H H'->LP H' l ps->ps.length<=8->(∀x∈ps,Lp x/\Sz 4000 x)->Q (.ref l) H'
theorem tQ {H:Hp}{l m:Addr}{o:HO}{ys:List V}{ps:List Pt3}(h:LP H l ps)(n:l≠m)(hm:H m=some (.lst ys)):LP (upd H m o) l ps:=h.but n hm fun b o hb nb=>by rw[aF nb];exact hb
theorem dN:FnScope ["_law_hand_here","_law_p","_law_q","_law_spots_here","_law_points_here","_law_near","_law_k","_law_way"] ["_law_hand_here","_law_p","_law_q","_law_spots_here"] (av dy):=⟨rfl,rfl,rfl,by decide +kernel,rfl,by decide +kernel,by decide +kernel⟩
theorem mY (T:Txt K mg t):FnOk P w K mg base CX0 4 t.f_l_points t.d_l_points ["_law_hand_here","_law_p","_law_q","_law_spots_here"] mH:=by
  refine T.l_points.F.ok (k:=3) dN (fun vs H Q E h=>?_) (fun cdv A outer s H vs Q E hr h=>?_)
  · obtain⟨hd,sc,vp,vq,d,p,q,sp,rfl,_⟩:=h
    rfl
  · obtain⟨hd,sc,vp,vq,d,p,q,sp,rfl,hh,tp,tq,lp,lq,zp,zq,ld,nd,sl,okd,k⟩:=h
    refine⟨_,(@aj _ _ _ _ _ (@aE _ _ 4 _ _ _ _ dN.nd rfl (Or.inl rfl) (@cD _ _ _ _ (@ai _)) (by rfl) (by first | exact .inl rfl | exact .inr rfl | assumption)) (@aj _ _ _ _ _ (@aE _ _ 5 _ _ _ _ dN.nd rfl (Or.inl rfl) (@cD _ _ _ _ (@ae _ _ _ _ _ (pv 1) (@ae _ _ _ _ _ (pv 2) (@ai _) af) af)) (by rfl) (by first | exact .inl rfl | exact .inr rfl | assumption)) (@aj _ _ _ _ _ (@eP _ _ _ _ _ _ _ _ PassesOwn.never rfl (@fi _ _ _ _ _ _ rfl T.b_range (@ae _ _ _ _ _ (@aA _ _ _ _ _ _ _ _ _ _ _ _ _ _ T.l_draw (aR T) hr (by decide) (@ae _ _ _ _ _ (pv 0) (@ae _ _ _ _ _ (@ag _ _ _ _) (@ai _) aT) af) (by rfl) (by decide) (by rfl) (by rfl)) (@ai _) aK) (by rfl)) (@aM _ _ 6 _ dN.nd rfl (Or.inl rfl) (by first | exact .inl rfl | exact .inr rfl | assumption)) (@aj _ _ _ _ _ (@aE _ _ 7 _ _ _ _ dN.nd rfl (Or.inl rfl) (@aA _ _ _ _ _ _ _ _ _ _ _ _ _ _ T.l_draw (aR T) hr (by decide) (@ae _ _ _ _ _ (pv 0) (@ae _ _ _ _ _ (@ag _ _ _ _) (@ai _) aT) af) (by rfl) (by decide) (by rfl) (by rfl)) (by rfl) (by first | exact .inl rfl | exact .inr rfl | assumption)) (@ay _ _ _ (@bB _ _ _ _ _ _ _ _ (PW.pt (@eg _ _ _ _ _ _ _ (@aG _ _ _ _ _ _ _ _ di (pv 7) (@ag _ _ _ _) (aQ _)) (@db _ _ _ _ (@aG _ _ _ _ _ _ _ _ fP (@aY _ _ _ _ _ _ _ _ _ aS (by rfl) T.b_len PySem.boot_len (@ae _ _ _ _ _ (pv 3) (@ai _) af) (by decide) (by decide) (by rfl) (by rfl)) (@ag _ _ _ _) (aQ _))))) (@ay _ _ _ (@bu _ _ _ _ (@cY _ _ _ _ _ _ _ _ _ _ _ _ PySem.F.plainAttrs_list PySem.F.slot_list_append PySem.F.type_list_append br (pv 4) (@ae _ _ _ _ _ (@au _ _ _ _ _ _ _ aI (pv 3) (@aA _ _ _ _ _ _ _ _ _ _ _ _ _ _ T.l_draw (aR T) hr (by decide) (@ae _ _ _ _ _ (pv 0) (@ae _ _ _ _ _ (@aY _ _ _ _ _ _ _ _ _ aS (by rfl) T.b_len PySem.boot_len (@ae _ _ _ _ _ (pv 3) (@ai _) af) (by decide) (by decide) (by rfl) (by rfl)) (@ai _) aK) af) (by rfl) (by decide) (by rfl) (by rfl)) (fun _ _=>rfl)) (@ai _) aO) (by rfl) (by rfl) (by rfl) (by rfl) (by rfl)) (by rfl))) (@ay _ _ _ (@bB _ _ _ _ _ _ _ _ (@aG _ _ _ _ _ _ _ _ di (pv 7) (@ag _ _ _ _) (aQ _)) (@ay _ _ _ (@bu _ _ _ _ (@cY _ _ _ _ _ _ _ _ _ _ _ _ PySem.F.plainAttrs_list PySem.F.slot_list_append PySem.F.type_list_append br (pv 4) (@ae _ _ _ _ _ (@au _ _ _ _ _ _ _ aI (pv 5) (@aA _ _ _ _ _ _ _ _ _ _ _ _ _ _ T.l_draw (aR T) hr (by decide) (@ae _ _ _ _ _ (pv 0) (@ae _ _ _ _ _ (@aY _ _ _ _ _ _ _ _ _ aS (by rfl) T.b_len PySem.boot_len (@ae _ _ _ _ _ (pv 5) (@ai _) af) (by decide) (by decide) (by rfl) (by rfl)) (@ai _) aK) af) (by rfl) (by decide) (by rfl) (by rfl)) (fun _ _=>rfl)) (@ai _) aO) (by rfl) (by rfl) (by rfl) (by rfl) (by rfl)) (by rfl))) (@ay _ _ _ (@bB _ _ _ _ _ _ _ _ (@aG _ _ _ _ _ _ _ _ di (pv 7) (@ag _ _ _ _) (aQ _)) (@ay _ _ _ (@bu _ _ _ _ (@cY _ _ _ _ _ _ _ _ _ _ _ _ PySem.F.plainAttrs_list PySem.F.slot_list_append PySem.F.type_list_append br (pv 4) (@ae _ _ _ _ _ (@aA _ _ _ _ _ _ _ _ _ _ _ _ _ _ T.l_point (cI T) hr (by decide) (@ae _ _ _ _ _ (@aA _ _ _ _ _ _ _ _ _ _ _ _ _ _ T.l_draw (aR T) hr (by decide) (@ae _ _ _ _ _ (pv 0) (@ae _ _ _ _ _ (@ag _ _ _ _) (@ai _) aT) af) (by rfl) (by decide) (by rfl) (by rfl)) (@ae _ _ _ _ _ (@aA _ _ _ _ _ _ _ _ _ _ _ _ _ _ T.l_draw (aR T) hr (by decide) (@ae _ _ _ _ _ (pv 0) (@ae _ _ _ _ _ (@ag _ _ _ _) (@ai _) aT) af) (by rfl) (by decide) (by rfl) (by rfl)) (@ae _ _ _ _ _ (@ag _ _ _ _) (@ai _) aT) aK) aK) (by rfl) (by decide) (by rfl) (by rfl)) (@ai _) aK) (by rfl) (by rfl) (by rfl) (by rfl) (by rfl)) (by rfl))) (@aj _ _ _ _ _ (@bu _ _ _ _ (@cY _ _ _ _ _ _ _ _ _ _ _ _ PySem.F.plainAttrs_list PySem.F.slot_list_append PySem.F.type_list_append br (pv 5) (@ae _ _ _ _ _ (@aA _ _ _ _ _ _ _ _ _ _ _ _ _ _ T.l_middle (iY T) hr (by decide) (@ae _ _ _ _ _ (@au _ _ _ _ _ _ _ aI (pv 5) (@aA _ _ _ _ _ _ _ _ _ _ _ _ _ _ T.l_draw (aR T) hr (by decide) (@ae _ _ _ _ _ (pv 0) (@ae _ _ _ _ _ (@aY _ _ _ _ _ _ _ _ _ aS (by rfl) T.b_len PySem.boot_len (@ae _ _ _ _ _ (pv 5) (@ai _) af) (by decide) (by decide) (by rfl) (by rfl)) (@ai _) aK) af) (by rfl) (by decide) (by rfl) (by rfl)) (fun _ _=>rfl)) (@ae _ _ _ _ _ (@au _ _ _ _ _ _ _ aI (pv 5) (@aA _ _ _ _ _ _ _ _ _ _ _ _ _ _ T.l_draw (aR T) hr (by decide) (@ae _ _ _ _ _ (pv 0) (@ae _ _ _ _ _ (@aY _ _ _ _ _ _ _ _ _ aS (by rfl) T.b_len PySem.boot_len (@ae _ _ _ _ _ (pv 5) (@ai _) af) (by decide) (by decide) (by rfl) (by rfl)) (@ai _) aK) af) (by rfl) (by decide) (by rfl) (by rfl)) (fun _ _=>rfl)) (@ai _) aO) aO) (by rfl) (by decide) (by rfl) (by rfl)) (@ai _) aK) (by rfl) (by rfl) (by rfl) (by rfl) (by rfl)) (by rfl)) (@ay _ _ _ (@bu _ _ _ _ (@cY _ _ _ _ _ _ _ _ _ _ _ _ PySem.F.plainAttrs_list PySem.F.slot_list_append PySem.F.type_list_append br (pv 4) (@ae _ _ _ _ _ (@au _ _ _ _ _ _ _ aI (pv 5) (@gF _ _ _ _ _ _ eN (@ag _ _ _ _)) (fun _ _=>rfl)) (@ai _) aO) (by rfl) (by rfl) (by rfl) (by rfl) (by rfl)) (by rfl))))))))))) (by intro _;rfl)) (@ay _ _ _ (@aL _ _ _ _ (pv 4)))))),?_⟩
    refine aH (cO aB (by show 0<=sizeLine;decide)) ?_
    rintro _ _ ⟨P,hP0,rfl,rfl⟩
    have s1:Same H (upd H P (.lst [])):=Same.upd hP0
    have hP1:(upd H P (.lst [])) P=some (.lst []):=ak
    have hh1:=hh.same s1
    have nP:=hh.fresh hP0
    generalize upd H P (.lst [])=H1 at s1 hP1 hh1 ⊢
    refine aH (cO (ar (ah rfl) (ar (ah rfl) aB)) (by show 2<=sizeLine;decide)) ?_
    rintro _ _ ⟨N,hN1,rfl,rfl⟩
    have s2:Same H1 (upd H1 N (.lst [vp,vq])):=Same.upd hN1
    have hN2:(upd H1 N (.lst [vp,vq])) N=some (.lst [vp,vq]):=ak
    have hh2:=hh1.same s2
    have nN:=hh1.fresh hN1
    have hN0:=bK s1 hN1
    have nPN:P≠N:=fun e=>by rw[e] at hP1;rw[hP1] at hN1;cases hN1
    have s02:=s1.trans s2
    have hP2:=s2 _ _ hP1
    generalize upd H1 N (.lst [vp,vq])=H2 at s2 hN2 hh2 s02 hP2 ⊢
    have lN2:LP H2 N [p,q]:=⟨_,hN2,.cons (tp.same s02) (.cons (tq.same s02) .nil)⟩
    have lP2:LP H2 P []:=⟨_,hP2,.nil⟩
    obtain⟨ys,hys⟩:=hh.ls
    obtain⟨ys2,hys2⟩:=hh2.ls
    refine gk (bi (bU hh2 (ar (ah rfl) (ar pu_c aB)) (by decide) Bd.small) fun _ _ _=>cU) ?_
    rintro vs H4 ⟨_,H5,r,rfl,⟨⟨n,rfl,n0,n1⟩,hh5,s5⟩,rfl,rfl⟩
    refine⟨n,rfl,by omega,by omega,fun i σ H'=>(∃c1 c2:Option V,σ=[some (.ref hd),some vp,some vq,some (.ref d),some (.ref P),some (.ref N),c1,c2])/\PtI hd sc H P N i H',?_,?_,?_⟩
    · exact⟨⟨_,_,rfl⟩,[],[p,q],hh5,s02.b.trans s5,lP2.but nP.1 hys2 s5,lN2.but nN.1 hys2 s5,rfl,(by show 0<2;decide),(by show 2<=2+0;decide),wW lp lq zp zq,(fun _ h=>nomatch h),by omega⟩
    · rintro i σ H6 hi ⟨⟨c1,c2,rfl⟩,ps,ns,hh6,s6,lP,lN,pl,n0',nl,dq,okp,i8⟩
      have hi':i<8:=by omega
      obtain⟨ys6,hys6⟩:=hh6.ls
      refine aH (bU hh6 (ar (ah rfl) (ar pu_c aB)) (by decide) Bd.small) ?_
      rintro _ H7 ⟨⟨w,rfl,w0,w1⟩,hh7,s7⟩
      have lP7:=lP.but nP.1 hys6 s7
      have lN7:=lN.but nN.1 hys6 s7
      have s07:=s6.trans s7
      obtain⟨ys7,hys7⟩:=hh7.ls
      have ld7:=ld.but nd hys s07
      obtain⟨dv,hdv,dl⟩:=ld7.ls
      obtain⟨nv,hnv,nvl⟩:=lN7.ls
      obtain⟨pv,hpv,pvl⟩:=lP7.ls
      have FIN:∀(v:V) (H8:Hp) (r:Pt3) (ns':List Pt3),HandAt H8 hd sc->SameB hd H H8->LP H8 P ps->LP H8 N ns'->0<ns'.length->ns'.length<=2+(i+1)->Dq (1803+(i+1)) (2 ^ 900) ns'->AtP H8 v r->Lp r->Sz 4000 r->∃zs,H8 P=some (.lst zs)/\zs.length<sizeLine/\PtI hd sc H P N (i+1) (upd H8 P (.lst (zs++[v]))):=by
        intro v H8 r ns' h1 h2 h3 h4 h5 h6 h7 h8 h9 h10
        obtain⟨zs,hz,zl,lz⟩:=h3.snoc h8
        refine⟨zs,hz,aZ (by omega),ps++[r],ns',h1.upd nP,fun b o hb nb=>?_,lz,tQ h4 (Ne.symm nPN) hz,by simp[pl],h5,h6,h7,fun x hx=>?_,hi'⟩
        · rw[aF (fun e=>by rw[e,hP0] at hb;cases hb)]
          exact h2 _ _ hb nb
        · rcases List.mem_append.mp hx with h|h
          · exact okp x h
          · rw[List.mem_singleton.mp h];exact⟨h9,h10⟩
      have dq':Dq (1803+(i+1)) (2 ^ 900) ns:=dq.mono (by omega) (Nat.le_refl _)
      refine lD (dR (bM (cS (ah rfl) pu_c)) fun _=>bM (fO (bD (ar (ah rfl) aB) (SqL.of hdv)) pu_c)) (fun e=>?_) fun _=>?_
      · rw[Bool.and_eq_true,decide_eq_true_eq,decide_eq_true_eq] at e
        refine cQ (ah rfl) hpv (ig hh7 ld7 nd (by omega) (by omega) (by rw[dl]) (ah rfl) (ar (ah rfl) (ar (bD (ar (ah rfl) aB) (SqL.of hdv)) aB))) ?_
        rintro v H8 ⟨hh8,s8,r,hr,tr⟩
        obtain⟨zs,z1,z2,z3⟩:=FIN v H8 r ns hh8 (s07.trans s8) (lP7.but nP.1 hys7 s8) (lN7.but nN.1 hys7 s8) n0' (by omega) dq' tr (okd r hr).1 (okd r hr).2
        exact⟨zs,z1,z2,⟨_,_,rfl⟩,z3⟩
      refine lD (bM (cS (ah rfl) pu_c)) (fun e=>?_) fun _=>?_
      · refine cQ (ah rfl) hpv (ig hh7 lN7 nN.1 n0' (by omega) (by rw[nvl]) (ah rfl) (ar (ah rfl) (ar (bD (ar (ah rfl) aB) (SqL.of hnv)) aB))) ?_
        rintro v H8 ⟨hh8,s8,r,hr,tr⟩
        obtain⟨zs,z1,z2,z3⟩:=FIN v H8 r ns hh8 (s07.trans s8) (lP7.but nP.1 hys7 s8) (lN7.but nN.1 hys7 s8) n0' (by omega) dq' tr (dq.lp hr) (md dq hr (by omega))
        exact⟨zs,z1,z2,⟨_,_,rfl⟩,z3⟩
      refine lD (bM (cS (ah rfl) pu_c)) (fun e=>?_) fun _=>?_
      · refine cQ (R:=fun v H'=>HandAt H' hd sc/\SameB hd H7 H'/\∃r,AtP H' v r/\Lp r/\Sz 4000 r) (ah rfl) hpv (bR (bi (bU hh7 (ar (ah rfl) (ar pu_c aB)) (by decide) Bd.small) fun x Hx ex=>bi (bU ex.2.1 (ar (ah rfl) (ar pu_c aB)) (by decide) Bd.small) fun y Hy ey=>bi pu_c.gv fun _ _ _=>cU) ?_) ?_
        · rintro vs H8 ⟨x,H9,r1,rfl,⟨⟨a,rfl,a0,a1⟩,hh9,s9⟩,y,H10,r2,rfl,⟨⟨b,rfl,b0,b1⟩,hh10,s10⟩,z,H11,r3,rfl,⟨rfl,rfl⟩,rfl,rfl⟩ Q f
          exact⟨a,b,1,rfl,by decide,Bd.small,fun v H' r s t i=>f _ _ ⟨hh10.same s,s9.trans (s10.trans s.b),r,t,i.lp,Sz.is3 i (Bd.small (by omega)) (Bd.small (by omega)) Bd.small⟩⟩
        · rintro v H8 ⟨hh8,s8,r,tr,lr,zr⟩
          obtain⟨zs,z1,z2,z3⟩:=FIN v H8 r ns hh8 (s07.trans s8) (lP7.but nP.1 hys7 s8) (lN7.but nN.1 hys7 s8) n0' (by omega) dq' tr lr zr
          exact⟨zs,z1,z2,⟨_,_,rfl⟩,z3⟩
      · refine ju (R:=fun v H'=>HandAt H' hd sc/\SameB hd H7 H'/\∃r,AtP H' v r/\Dq (1803+(i+1)) (2 ^ 900) (r::ns)) (ah rfl) hnv (bR (bi (ig hh7 lN7 nN.1 n0' (by omega) (by rw[nvl]) (ah rfl) (ar (ah rfl) (ar (bD (ar (ah rfl) aB) (SqL.of hnv)) aB))) fun x Hx ex=>bi (R1:=fun v H'=>HandAt H' hd sc/\SameB hd Hx H'/\∃p,p∈ns/\AtP H' v p) ?_ fun y Hy ey=>cU) ?_) ?_
        · obtain⟨hx1,hx2,_⟩:=ex
          have lNx:=lN7.but nN.1 hys7 hx2
          obtain⟨nx,hnx,nxl⟩:=lNx.ls
          exact ig hx1 lNx nN.1 n0' (by omega) (by rw[nxl]) (ah rfl) (ar (ah rfl) (ar (bD (ar (ah rfl) aB) (SqL.of hnx)) aB))
        · rintro vs H8 ⟨x,H9,r1,rfl,⟨hh9,s9,p1,hp1,tp1⟩,y,H10,r2,rfl,⟨hh10,s10,p2,hp2,tp2⟩,rfl,rfl⟩ Q f
          exact⟨_,_,p1,p2,rfl,rB tp1 hh9 s10,tp2,md dq hp1 (by omega),md dq hp2 (by omega),(dq.lp hp1).pos,(dq.lp hp2).pos,fun v H' r s t i=>f _ _ ⟨hh10.same s,s9.trans (s10.trans s.b),r,t,dq.mid hp1 hp2 i⟩⟩
        rintro v H8 ⟨hh8,s8,r,tr,dr⟩
        have lN8:=lN7.but nN.1 hys7 s8
        have lP8:=lP7.but nP.1 hys7 s8
        obtain⟨zs,hz,zl,lz⟩:=lN8.snoc tr
        obtain⟨pv8,hpv8,_⟩:=lP8.ls
        refine⟨zs,hz,aZ (by omega),?_⟩
        have hh9:HandAt (upd H8 N (.lst (zs++[v]))) hd sc:=hh8.upd nN
        have s9:SameB hd H (upd H8 N (.lst (zs++[v]))):=fun b o hb nb=>by
          rw[aF (fun e=>by rw[e,hN0] at hb;cases hb)]
          exact s8 _ _ (s07 _ _ hb nb) nb
        have lP9:LP (upd H8 N (.lst (zs++[v]))) P ps:=tQ lP8 nPN hz
        have hN9:(upd H8 N (.lst (zs++[v]))) N=some (.lst (zs++[v])):=ak
        have tr9:AtP (upd H8 N (.lst (zs++[v]))) v r:=TupT.tk tr (rT hz)
        obtain⟨pv9,hpv9,_⟩:=lP9.ls
        generalize upd H8 N (.lst (zs++[v]))=H9 at hh9 s9 lP9 hN9 tr9 lz hpv9 ⊢
        refine cQ (ah rfl) hpv9 (bp (ah rfl) (gL pu_c) (SqL.of hN9) (uE _ _)).gv ?_
        rintro v' H9' ⟨e1,e2⟩
        have e1:=e1.symm
        have e2:=e2.symm
        subst e1 e2
        obtain⟨zs',z1,z2,z3⟩:=FIN v H9 r (ns++[r]) hh9 s9 lP9 lz (by simp) (by simp;omega) (dr.sub fun q hq=>by
          rcases List.mem_append.mp hq with h|h
          · exact List.mem_cons_of_mem _ h
          · rw[List.mem_singleton.mp h];exact List.mem_cons_self) tr9 (dr.lp List.mem_cons_self) (md dr List.mem_cons_self (by omega))
        exact⟨zs',z1,z2,⟨_,_,rfl⟩,z3⟩
    · rintro σ H6 ⟨⟨c1,c2,rfl⟩,ps,ns,hh6,s6,lP,lN,pl,n0',nl,dq,okp,i8⟩
      exact bL (ah rfl) (k P H6 ps hP0 hh6 s6 lP (by omega) okp)
def jv (K:PySem.W.Frag)(p:Addr):Sp:=fun vs H Q _=>∃(a:Addr) (ns:List Int),vs=[.ref a]/\SqL K H a (ns.map V.int)/\ns.length<=63/\H p=some (.ext (TabA p #[]))/\∀H',(∃ps,H' p=some (.ext (TabA p ps)))->Q (.bl true) H'
theorem sB {K:PySem.W.Frag}{p a:Addr}{ns:List Int}{H:Hp}(hl:ns.length<=63)(hS:SqL K H a (ns.map V.int))(hT:∀q∈[p],H q=some (.ext (TabA q #[]))) :
    jv K p [.ref a] H (fun v H'=>v=.bl true/\∀q∈[p],∃ps,H' q=some (.ext (TabA q ps))) (fun _ _ _=>False):=
  ⟨a,ns,rfl,hS,hl,hT p (List.mem_singleton.mpr rfl),fun H' h=>⟨rfl,fun q hq=>by rw[List.mem_singleton.mp hq];exact h⟩⟩
theorem xb {H H':Hp}{P a b:Addr}{q:Str}{lp:Pos}{ys zs:List V}(h:bW H P q lp)(s:Same2 a b H H')(ha:H a=some (.lst ys))(hb:H b=some (.lst zs)):bW H' P q lp:=by
  obtain⟨ps,e,r⟩:=h
  have X:∀{c:Addr} {φ:Heap->Prop},H c=some (.ext φ)->H' c=some (.ext φ):=fun {c φ} e=>s c _ e (m6 e ha (fun z=>nomatch z)) (m6 e hb (fun z=>nomatch z))
  exact⟨ps,X e,r.imp id fun ⟨c,e1,e2⟩=>⟨c,e1,X e2⟩⟩
theorem ln {H H':Hp}{P:Addr}{q:Str}{lp:Pos}(s:SameB P H H')(h:bW H P q lp):TpK H H':=fun b xs hb=>s _ _ hb fun e=>(cZ h).1 xs (e▸hb)
theorem gQ {H H':Hp}{P l:Addr}{q:Str}{lp:Pos}{ys:List V}(s:SameB P H H')(h:bW H P q lp)(hl:H l=some (.lst ys)):H' l=some (.lst ys):=s _ _ hl fun e=>(cZ h).2 ys (e▸hl)
theorem tR {H H':Hp}{l:Addr}{ps:List Pt3}(h:LP H l ps)(s:TpK H H')(hl:∀ys,H l=some (.lst ys)->H' l=some (.lst ys)):LP H' l ps:=by
  obtain⟨ys,h1,h2⟩:=h
  exact⟨ys,hl _ h1,h2.mono fun _ _ t=>t.tk s⟩
theorem ui {H H':Hp}{P hd sc:Addr}{q:Str}{lp:Pos}(h:HandAt H hd sc)(s:SameB P H H')(t:bW H P q lp):HandAt H' hd sc:=by
  obtain⟨ns,i,b,c,p,q,h1,h2,h3⟩:=h
  exact⟨ns,i,b,c,p,q,gQ s t h1,gQ s t h2,h3⟩
theorem tS {K:PySem.W.Frag}{H:Hp}{l:Addr}{ps:List Pt3}(h:LP H l ps):Dat K H 8 (.ref l) (.list ((ps.map L3).map fun ns=>.tuple (ns.map PyData.int))):=by
  obtain⟨ys,h1,h2⟩:=h
  exact .lst (SqL.of h1) (TupsT.dats (k:=6) h2)
def dSt (x:(Pt3×Pt3)×List Int):PyData:=.tuple [dP x.1.1,dP x.1.2,.tuple (x.2.map PyData.int)]
theorem su {K:PySem.W.Frag}{H:Hp}{l:Addr}{as:List Addr}{xs:List ((Pt3×Pt3)×List Int)}(h1:H l=some (.lst (as.map V.ref)))(h2:Paired (StAt H) as xs):Dat K H 8 (.ref l) (.list (xs.map dSt)):=
  .lst (SqL.of h1) (qq (F:=fun v x=>∃a,v=.ref a/\StAt H a x) (k:=7) (fun v x ⟨a,e,h⟩=>by
    subst e
    obtain⟨u,v,w,e1,e2,e3,e4⟩:=h
    exact .tup (SqT.of e1) (.cons (AtP.dat (k:=5) e2) (.cons (AtP.dat (k:=5) e3) (.cons (TupT.dat (k:=5) e4) .nil)))) (bz h2 fun a x h=>⟨a,rfl,h⟩))
theorem rD {K:PySem.W.Frag}{σ:L2.St}{H:Hp}{te:TE}{fr:L2.St->L2.St}{k:Nat}{a:Addr}{xs:List V}{qs:List Pt3}(ha:H a=some (.tup xs))(hz:xs.length<=1000)(hx:xs.length=qs.length)(hk:∀x,KeepS (fr σ) ((fr σ).set k (some x)))
    (hs:∀(i:Nat) x q H',xs[i]?=some x->qs[i]?=some q->Same H H'->Gv te ((fr σ).set k (some x)) H' (fun v H''=>Same H' H''/\AtP H'' v q)) :
    Gv (dJ (vG K (tC (.ref a))) fr (bV k) te) σ H (fun v H'=>∃D,v=.ref D/\H D=none/\Same H H'/\LP H' D qs):=by
  intro Q g
  refine⟨a,rfl,⟨xs,SqT.of ha⟩,fun D hD=>?_⟩
  refine⟨fun i m ys H'=>m=xs.length - i/\i<=xs.length/\Same H H'/\H' D=some (.lst ys)/\ys.length=i/\TupsT H' ys ((qs.take i).map L3),⟨_,rfl,Nat.zero_le _,Same.upd hD,ak,rfl,.nil⟩,?_⟩
  rintro i m ys H2 ⟨rfl,hi,s2,hD2,hyl,ty⟩
  by_cases hlt:i<xs.length
  · refine .inr ⟨⟨xs,xs[i],SqT.of (s2 _ _ ha),by simp[hlt]⟩,aZ (by omega),fun x H3 y=>?_⟩
    obtain⟨e,y⟩:=y
    subst e
    have ex:=y xs (SqT.of (s2 _ _ ha))
    have eq:qs[i]?=some qs[i]:=List.getElem?_eq_getElem (by omega)
    refine⟨hk x,hs i x _ _ ex eq s2 _ fun v H4 ⟨s4,t4⟩=>⟨s4 _ _ hD2,xs.length - (i+1),by omega,rfl,hlt,fun b o hb=>?_,ak,by simp[hyl],?_⟩⟩
    · rw[aF (fun e=>by rw[e,hD] at hb;cases hb)]
      exact s4 _ _ (s2 _ _ hb)
    · rw[List.take_succ,eq,List.map_append]
      exact (TupsT.snoc (ty.mono fun _ _ t=>t.same s4) t4).lstUpd (s4 _ _ hD2)
  · have e:i=xs.length:=by omega
    subst e
    refine .inl ⟨⟨xs,SqT.of (s2 _ _ ha),Nat.le_refl _⟩,g _ _ ⟨D,rfl,hD,s2,ys,hD2,?_⟩⟩
    rw[hx,List.take_length] at ty
    exact ty
theorem rE {K:PySem.W.Frag}{σ:L2.St}{H:Hp}{te tl:TE}{fr:L2.St->L2.St}{g:TG}{R0 R:V->Hp->Prop}(hl:Gv tl σ H R0)(hr:∀v H1,R0 v H1->Gv (dJ (vG K (tC v)) fr g te) σ H1 R):Gv (dJ (vG K tl) fr g te) σ H R:=fun Q q=>hl _ fun v H1 r=>hr v H1 r Q q
theorem xC {K:PySem.W.Frag}{σ:L2.St}{H:Hp}{p:Addr}{x y:V}{i j:Nat}{q:L2.St->Hp->Prop}(h:H p=some (.lst [x,y]))(k:q ((σ.set i (some x)).set j (some y)) H):v5 K 2 (eL (bV i) (eL (bV j) oV)) (.ref p) σ H q:=
  ⟨p,[x,y],rfl,SqL.of h,rfl,x,[y],rfl,y,[],rfl,rfl,k⟩
theorem uD {a b:Pt3}{ps:List Pt3}(ap:bS a b):fJ b a ps=(fJ a b ps).reverse:=by
  unfold fJ
  have e:(ps.filter fun z=>onB z b a)=ps.filter fun z=>onB z a b:=by
    congr 1
    funext z
    exact tJ ap
  rw[e,gi ap]
  cases ahd a b <;> simp
structure LwS (H:Hp)(P L N D:Addr)(as:List Addr)(xs:List ((Pt3×Pt3)×List Int))(sp:List Pt3):Prop where
  tb:bW H P ib ie
  l:H L=some (.lst (as.map V.ref))
  n:H N=some (.lst (as.map V.ref))
  pr:Paired (StAt H) as xs
  due:LP H D sp
section
variable {H H':Hp}{P L N D:Addr}{as:List Addr}{xs:List ((Pt3×Pt3)×List Int)}{sp:List Pt3}
theorem LwS.same (g:LwS H P L N D as xs sp)(s:Same H H'):LwS H' P L N D as xs sp:=⟨ci g.tb s,s _ _ g.l,s _ _ g.n,bz g.pr fun _ _ x=>x.same s,g.due.same s⟩
theorem LwS.but {l:Addr}{ys:List V}(g:LwS H P L N D as xs sp)(s:SameB l H H')(hl:H l=some (.lst ys))(n1:L≠l)(n2:N≠l)(n3:D≠l):LwS H' P L N D as xs sp:=
  ⟨pz g.tb s ⟨ys,hl⟩,s _ _ g.l n1,s _ _ g.n n2,bz g.pr fun _ _ x=>x.tk (fR s hl),g.due.but n3 hl s⟩
theorem LwS.tab (g:LwS H P L N D as xs sp)(s:SameB P H H')(tb:bW H' P ib ie):LwS H' P L N D as xs sp:=
  ⟨tb,gQ s g.tb g.l,gQ s g.tb g.n,bz g.pr fun _ _ x=>x.tk (ln s g.tb),tR g.due (ln s g.tb) fun _ h=>gQ s g.tb h⟩
theorem LwS.new {l:Addr}(g:LwS H P L N D as xs sp)(h:H l=none):L≠l/\N≠l/\D≠l:=by
  obtain⟨ys,hd,_⟩:=g.due
  exact⟨(fun e=>by have:=g.l;rw[e,h] at this;cases this),(fun e=>by have:=g.n;rw[e,h] at this;cases this),(fun e=>by rw[e,h] at hd;cases hd)⟩
theorem ny {σ:L2.St}{ta:TA}(g:LwS H P L N D as xs sp)(ha:PuA ta σ H [.ref N])(ok:∀x∈xs,OkS 900 x.1)(x8:xs.length<=8)(srt:Srt sp)(mem:∀q,q∈sp↔gE (xs.map (·.1)) q) :
    Gv (ce (iM P) [] E0 ta) σ H (fun v H'=>∃F,v=.ref F/\H F=none/\F≠P/\SameB P H H'/\LwS H' P L N D as xs sp/\LP H' F sp):=
  aX ha fun Q f=>⟨N,xs,rfl,⟨as,g.n,g.pr⟩,ok,x8,g.tb,fun d H' sp' h1 h2 h3 h4 h5 h6 h7 h8 h9=>f _ _ ⟨d,rfl,h1,h2,h3,g.tab h3 h4,by
    have:sp'=sp:=gm h6 srt fun q=>(h7 q).trans (mem q).symm
    rw[←this]
    exact h5⟩⟩
end
theorem qk {K:PySem.W.Frag}{σ:L2.St}{H:Hp}{i:Nat}{l:Addr}{ys:List V}(hv:σ[i]?=some (some (.ref l)))(hl:H l=some (.lst ys)):Gv (tCB (fun xs H Q=>∃p ys,xs=[.ref p]/\(SqL K H p ys∨SqT K H p ys)/\∀l,H l=none->Q (.ref l) (upd H l (.lst ys))) (bG (cm i) df)) σ H (fun v H'=>∃p,v=.ref p/\H p=none/\H'=upd H p (.lst ys)):=fun Q q=>ah hv _ ⟨l,ys,rfl,.inl (SqL.of hl),fun p hp=>q _ _ ⟨p,rfl,hp,rfl⟩⟩
theorem cG:FnScope ["_law_script","_law_hand_here","_law_seen","_law_frame_here","_law_strokes","_law_due","_law_handed","_law_found","_law_p","_law_q","_law_points_here","_law_cut","_law_given","_law_told"] ["_law_script"] (av gY):=⟨rfl,rfl,rfl,by decide +kernel,rfl,by decide +kernel,by decide +kernel⟩
theorem wJ (hB:BM base mg)(T:Txt K mg t):FnOk P w K mg base CX0 10 t.f_law t.d_law ["_law_script"] (jv K t.p_near_pairs):=by
  refine T.law.F.ok (k:=9) cG (fun vs H Q E h=>?_) (fun cdv A outer s H vs Q E hr h=>?_)
  · obtain⟨a,ns,rfl,_⟩:=h
    rfl
  · obtain⟨sa,ns,rfl,hS,hlen,hT0,k⟩:=h
    refine⟨_,(@aj _ _ _ _ _ (@aE _ _ 1 _ _ _ _ cG.nd rfl (Or.inl rfl) (@aA _ _ _ _ _ _ _ _ _ _ _ _ _ _ T.l_hand (qX T) hr (by decide) (@ae _ _ _ _ _ (pv 0) (@ai _) af) (by rfl) (by decide) (by rfl) (by rfl)) (by rfl) (by first | exact .inl rfl | exact .inr rfl | assumption)) (@aj _ _ _ _ _ (@aE _ _ 2 _ _ _ _ cG.nd rfl (Or.inl rfl) (@cD _ _ _ _ (@ai _)) (by rfl) (by first | exact .inl rfl | exact .inr rfl | assumption)) (@aj _ _ _ _ _ (@aE _ _ 3 _ _ _ _ cG.nd rfl (Or.inr rfl) (@aA _ _ _ _ _ _ _ _ _ _ _ _ _ _ T.l_frame (oH T) hr (by decide) (@ae _ _ _ _ _ (pv 1) (@ai _) af) (by rfl) (by decide) (by rfl) (by rfl)) (by rfl) (by first | exact .inl rfl | exact .inr rfl | assumption)) (@aj _ _ _ _ _ (@aE _ _ 4 _ _ _ _ cG.nd rfl (Or.inl rfl) (@aA _ _ _ _ _ _ _ _ _ _ _ _ _ _ T.l_strokes_by (jc T) hr (by decide) (@ae _ _ _ _ _ (pv 1) (@ae _ _ _ _ _ (pv 2) (@ae _ _ _ _ _ (pv 3) (@ai _) af) af) af) (by rfl) (by decide) (by rfl) (by rfl)) (by rfl) (by first | exact .inl rfl | exact .inr rfl | assumption)) (@aj _ _ _ _ _ (@aE _ _ 5 _ _ _ _ cG.nd rfl (Or.inl rfl) (@aA _ _ _ _ _ _ _ _ _ _ _ _ _ _ T.l_spots (oG T) hr (by decide) (@ae _ _ _ _ _ (pv 4) (@ai _) af) (by rfl) (by decide) (by rfl) (by rfl)) (by rfl) (by first | exact .inl rfl | exact .inr rfl | assumption)) (@aj _ _ _ _ _ (@aE _ _ 6 _ _ _ _ cG.nd rfl (Or.inl rfl) (@cC _ _ _ _ _ _ _ _ _ fK (by rfl) T.b_list PyProof.Rows.boot_list (@ae _ _ _ _ _ (pv 4) (@ai _) af) (by decide) (by decide) (by rfl) (by rfl)) (by rfl) (by first | exact .inl rfl | exact .inr rfl | assumption)) (@aj _ _ _ _ _ (@aE _ _ 7 _ _ _ _ cG.nd rfl (Or.inl rfl) (@aA _ _ _ _ _ _ _ _ _ _ _ _ _ _ T.spots_of (iV hB T) hr (by decide) (@ae _ _ _ _ _ (pv 6) (@ai _) af) (by rfl) (by decide) (by rfl) (by rfl)) (by rfl) (by first | exact .inl rfl | exact .inr rfl | assumption)) (@aj _ _ _ _ _ (@bB _ _ _ _ _ _ _ _ (PW.pt (@mQ _ _ _ _ _ _ _ (@jE _ _ _ _ (@cH _ _ _ (@aA _ _ _ _ _ _ _ _ _ _ _ _ _ _ T.l_list (fm T) hr (by decide) (@ae _ _ _ _ _ (pv 7) (@ae _ _ _ _ _ (pv 5) (@ai _) af) af) (by rfl) (by decide) (by rfl) (by rfl)) (by intro _;rfl))) (@jB _ _ _ _ (@aG _ _ _ _ _ _ _ _ (tE hr.units) (pv 6) (pv 4) (aQ _))))) (@ay _ _ _ (@aL _ _ _ _ (@hV _ _ _ _))) (@be _)) (@aj _ _ _ _ _ (@bu _ _ _ _ (@tj _ _ _ _ _ _ _ _ _ PySem.F.plainAttrs_list PySem.F.slot_list_clear PySem.F.type_list_clear m7 (pv 7) (by rfl) (by rfl)) (by rfl)) (@aj _ _ _ _ _ (@dD _ _ _ _ _ _ (@kA _ "_law_z" "_law_frame_here" _ _ _ _ _ _ _ _ 3 rfl (@wG _ _ _ _ (@aA _ _ _ _ _ _ _ _ _ _ _ _ _ _ T.l_side (kF T) hr (by decide) (@ae _ _ _ _ _ (pv 1) (@ae _ _ _ _ _ (@cD _ _ _ _ (@ai _)) (@ae _ _ _ _ _ (@ag _ _ _ _) (@ai _) aT) sd) af) (by rfl) (by decide) (by rfl) (by rfl))) (fun _ _ _ _=>aM (i:=0) (show (["_law_z","_law_frame_here"]:List Str).Nodup from by decide +kernel) rfl (Or.inl rfl) (.inr rfl)) (fun _ _ _ _=>(@aA _ _ _ _ _ _ _ _ _ _ _ _ _ _ T.l_framed (gf T) hr (by decide) (@ae _ _ _ _ _ (pv 1) (@ae _ _ _ _ _ (pv 0) (@ai _) af) af) (by rfl) (by decide) (by rfl) (by rfl))) rfl rfl (by decide +kernel) (by decide +kernel) rfl rfl rfl rfl rfl (by intro _;rfl)) (ve rfl (@aU _ _ _ _ _ (@aM _ _ 8 _ cG.nd rfl (Or.inr rfl) (by first | exact .inl rfl | exact .inr rfl | assumption)) (@aU _ _ _ _ _ (@aM _ _ 9 _ cG.nd rfl (Or.inr rfl) (by first | exact .inl rfl | exact .inr rfl | assumption)) (@cg _) (by rfl)) (by rfl))) (by rfl) (by rfl) (by rfl)) (@aj _ _ _ _ _ (@bB _ _ _ _ _ _ _ _ (PW.pt (@eg _ _ _ _ _ _ _ (@aG _ _ _ _ _ _ _ _ fP (@aY _ _ _ _ _ _ _ _ _ aS (by rfl) T.b_len PySem.boot_len (@ae _ _ _ _ _ (pv 4) (@ai _) af) (by decide) (by decide) (by rfl) (by rfl)) (@ag _ _ _ _) (aQ _)) (@db _ _ _ _ (@aG _ _ _ _ _ _ _ _ di (@aA _ _ _ _ _ _ _ _ _ _ _ _ _ _ T.l_draw (aR T) hr (by decide) (@ae _ _ _ _ _ (pv 1) (@ae _ _ _ _ _ (@ag _ _ _ _) (@ai _) aT) af) (by rfl) (by decide) (by rfl) (by rfl)) (@ag _ _ _ _) (aQ _))))) (@ay _ _ _ (@dD _ _ _ _ _ _ (@eu _ _ _ _ _ _ _ _ _ _ lG (@au _ _ _ _ _ _ _ aI (pv 4) (@aA _ _ _ _ _ _ _ _ _ _ _ _ _ _ T.l_draw (aR T) hr (by decide) (@ae _ _ _ _ _ (pv 1) (@ae _ _ _ _ _ (@aY _ _ _ _ _ _ _ _ _ aS (by rfl) T.b_len PySem.boot_len (@ae _ _ _ _ _ (pv 4) (@ai _) af) (by decide) (by decide) (by rfl) (by rfl)) (@ai _) aK) af) (by rfl) (by decide) (by rfl) (by rfl)) (fun _ _=>rfl)) (@cw _) (@cE _ _ _ (@ag _ _ _ _))) (@gb _ _ _ _ _ _ rfl (@aU _ _ _ _ _ (@aM _ _ 8 _ cG.nd rfl (Or.inr rfl) (by first | exact .inl rfl | exact .inr rfl | assumption)) (@aU _ _ _ _ _ (@aM _ _ 9 _ cG.nd rfl (Or.inr rfl) (by first | exact .inl rfl | exact .inr rfl | assumption)) (@cg _) (by rfl)) (by rfl)) (by rfl) (by rfl)) (by rfl) (by rfl) (by rfl))) (@be _)) (@aj _ _ _ _ _ (@aE _ _ 10 _ _ _ _ cG.nd rfl (Or.inl rfl) (@aA _ _ _ _ _ _ _ _ _ _ _ _ _ _ T.l_points (mY T) hr (by decide) (@ae _ _ _ _ _ (pv 1) (@ae _ _ _ _ _ (pv 8) (@ae _ _ _ _ _ (pv 9) (@ae _ _ _ _ _ (pv 5) (@ai _) af) af) af) af) (by rfl) (by decide) (by rfl) (by rfl)) (by rfl) (by first | exact .inl rfl | exact .inr rfl | assumption)) (@aj _ _ _ _ _ (@aE _ _ 11 _ _ _ _ cG.nd rfl (Or.inl rfl) (@aA _ _ _ _ _ _ _ _ _ _ _ _ _ _ T.l_sorted (iX T) hr (by decide) (@ae _ _ _ _ _ (jG (x:="_law_z") [("_law_q",_,9),("_law_p",_,8)] rfl (@cf _ _ _ _ (pv 10)) (fun _ _ _ _=>aM (i:=0) (show (["_law_z","_law_q","_law_p"]:List Str).Nodup from by decide +kernel) rfl (Or.inl rfl) (.inr rfl)) (fun _ _ _ _=>(@cH _ _ _ (@aA _ _ _ _ _ _ _ _ _ _ _ _ _ _ T.l_on (vo T) hr (by decide) (@ae _ _ _ _ _ (pv 0) (@ae _ _ _ _ _ (pv 2) (@ae _ _ _ _ _ (pv 1) (@ai _) af) af) af) (by rfl) (by decide) (by rfl) (by rfl)) (by intro _;rfl))) (fun _ _ _ _=>(pv 0)) rfl rfl (by decide +kernel) (by decide +kernel) (Caught.cons (And.intro rfl (And.intro rfl (And.intro rfl rfl))) (Caught.cons (And.intro rfl (And.intro rfl (And.intro rfl rfl))) Caught.nil)) rfl) (@ai _) fB) (by rfl) (by decide) (by rfl) (by rfl)) (by rfl) (by first | exact .inl rfl | exact .inr rfl | assumption)) (@aj _ _ _ _ _ (@bB _ _ _ _ _ _ _ _ (@cH _ _ _ (@aA _ _ _ _ _ _ _ _ _ _ _ _ _ _ T.l_ahead (cT T) hr (by decide) (@ae _ _ _ _ _ (pv 9) (@ae _ _ _ _ _ (pv 8) (@ai _) af) af) (by rfl) (by decide) (by rfl) (by rfl)) (by intro _;rfl)) (@ay _ _ _ (@aE _ _ 11 _ _ _ _ cG.nd rfl (Or.inl rfl) (@ky _ _ _ _ _ _ _ _ _ _ _ (pv 11) (@cw _) (@cw _) (@cE _ _ _ (@gF _ _ _ _ _ _ eN (@ag _ _ _ _)))) (by rfl) (by first | exact .inl rfl | exact .inr rfl | assumption))) (@be _)) (@aj _ _ _ _ _ (@aE _ _ 12 _ _ _ _ cG.nd rfl (Or.inl rfl) (@cC _ _ _ _ _ _ _ _ _ fK (by rfl) T.b_list PyProof.Rows.boot_list (@ae _ _ _ _ _ (pv 10) (@ai _) af) (by decide) (by decide) (by rfl) (by rfl)) (by rfl) (by first | exact .inl rfl | exact .inr rfl | assumption)) (@aj _ _ _ _ _ (@aE _ _ 13 _ _ _ _ cG.nd rfl (Or.inl rfl) (@aA _ _ _ _ _ _ _ _ _ _ _ _ _ _ T.cut_at (kG T) hr (by decide) (@ae _ _ _ _ _ (pv 8) (@ae _ _ _ _ _ (pv 9) (@ae _ _ _ _ _ (pv 12) (@ai _) af) af) af) (by rfl) (by decide) (by rfl) (by rfl)) (by rfl) (by first | exact .inl rfl | exact .inr rfl | assumption)) (@aj _ _ _ _ _ (@bB _ _ _ _ _ _ _ _ (PW.pt (@mQ _ _ _ _ _ _ _ (@jE _ _ _ _ (@cH _ _ _ (@aA _ _ _ _ _ _ _ _ _ _ _ _ _ _ T.l_list (fm T) hr (by decide) (@ae _ _ _ _ _ (pv 13) (@ae _ _ _ _ _ (pv 11) (@ai _) af) af) (by rfl) (by decide) (by rfl) (by rfl)) (by intro _;rfl))) (@jB _ _ _ _ (@aG _ _ _ _ _ _ _ _ (tE hr.units) (pv 12) (pv 10) (aQ _))))) (@ay _ _ _ (@aL _ _ _ _ (@hV _ _ _ _))) (@be _)) (@aj _ _ _ _ _ (@bu _ _ _ _ (@cY _ _ _ _ _ _ _ _ _ _ _ _ PySem.F.plainAttrs_list PySem.F.slot_list_append PySem.F.type_list_append br (pv 13) (@ae _ _ _ _ _ (pv 8) (@ai _) af) (by rfl) (by rfl) (by rfl) (by rfl) (by rfl)) (by rfl)) (@aj _ _ _ _ _ (@bu _ _ _ _ (@tj _ _ _ _ _ _ _ _ _ PySem.F.plainAttrs_list PySem.F.slot_list_clear PySem.F.type_list_clear m7 (pv 12) (by rfl) (by rfl)) (by rfl)) (@aj _ _ _ _ _ (@bB _ _ _ _ _ _ _ _ (@jE _ _ _ _ (@cH _ _ _ (@aA _ _ _ _ _ _ _ _ _ _ _ _ _ _ T.l_list (fm T) hr (by decide) (@ae _ _ _ _ _ (@aA _ _ _ _ _ _ _ _ _ _ _ _ _ _ T.cut_at (kG T) hr (by decide) (@ae _ _ _ _ _ (pv 9) (@ae _ _ _ _ _ (pv 8) (@ae _ _ _ _ _ (pv 10) (@ai _) af) af) af) (by rfl) (by decide) (by rfl) (by rfl)) (@ae _ _ _ _ _ (@ky _ _ _ _ _ _ _ _ _ _ _ (pv 11) (@cw _) (@cw _) (@cE _ _ _ (@gF _ _ _ _ _ _ eN (@ag _ _ _ _)))) (@ai _) aO) aK) (by rfl) (by decide) (by rfl) (by rfl)) (by intro _;rfl))) (@ay _ _ _ (@aL _ _ _ _ (@hV _ _ _ _))) (@be _)) (@ay _ _ _ (@aL _ _ _ _ (@jH _ _ _ _ _ _ _ (@aA _ _ _ _ _ _ _ _ _ _ _ _ _ _ T.l_list (fm T) hr (by decide) (@ae _ _ _ _ _ (@aA _ _ _ _ _ _ _ _ _ _ _ _ _ _ T.spots_of (iV hB T) hr (by decide) (@ae _ _ _ _ _ (pv 6) (@ai _) af) (by rfl) (by decide) (by rfl) (by rfl)) (@ae _ _ _ _ _ (pv 5) (@ai _) af) aK) (by rfl) (by decide) (by rfl) (by rfl)) (@jF _ _ _ _ _ (@aA _ _ _ _ _ _ _ _ _ _ _ _ _ _ T.l_list (fm T) hr (by decide) (@ae _ _ _ _ _ (pv 13) (@ae _ _ _ _ _ (@az _ _ _ _ _ _ _ _ oC (pv 11) (@cD _ _ _ _ (@ae _ _ _ _ _ (pv 8) (@ai _) af))) (@ai _) aW) af) (by rfl) (by decide) (by rfl) (by rfl)))))))))))))))))))))))))),?_⟩
    have tb0:bW H t.p_near_pairs ib ie:=⟨#[],hT0,.inl rfl⟩
    refine aH (aX (R:=fun v H'=>∃hd sc,v=.ref hd/\HandAt H' hd sc/\Same H H') (ar (ah rfl) aB) fun Q f=>⟨sa,ns,rfl,hS,fun hd sc H' s n hh=>f _ _ ⟨hd,sc,rfl,hh,s⟩⟩) ?_
    rintro _ H1 ⟨hd,sc,rfl,hh1,s1⟩
    have tb1:=ci tb0 s1
    refine aH (cO aB (by show 0<=sizeLine;decide)) ?_
    rintro _ _ ⟨sl,hsl,rfl,rfl⟩
    have s2:Same H1 (upd H1 sl (.lst [])):=Same.upd hsl
    have hh2:=hh1.same s2
    have nsl:=hh1.fresh hsl
    have tb2:=ci tb1 s2
    have lsl2:LP (upd H1 sl (.lst [])) sl []:=⟨[],ak,.nil⟩
    generalize upd H1 sl (.lst [])=H2 at s2 hh2 tb2 lsl2 ⊢
    obtain⟨ys2,hys2⟩:=hh2.ls
    refine aH (R:=fun v H'=>∃f a b c,HandAt H' hd sc/\SameB hd H2 H'/\TupT H' v [f,a,b,c]/\Fr f a b c) (aX (ar (ah rfl) aB) fun Q g=>⟨hd,sc,rfl,hh2,fun v H' f a b c h1 h2 h3 h4=>g _ _ ⟨f,a,b,c,h1,h2,h3,h4⟩⟩) ?_
    rintro fv H3 ⟨f,a,b,c,hh3,s3,hfv,F⟩
    have tb3:=pz tb2 s3 ⟨ys2,hys2⟩
    have lsl3:=lsl2.but nsl.1 hys2 s3
    obtain⟨ys3,hys3⟩:=hh3.ls
    obtain⟨sl3,hsl3,_⟩:=lsl3.ls
    refine aH (R:=fun v H'=>∃L xs,v=.ref L/\H3 L=none/\HandAt H' hd sc/\Same2 hd sl H3 H'/\StL H' L xs/\(∀x∈xs,OkS 900 x.1)/\xs.length<=8) (aX (ar (ah rfl) (ar (ah rfl) (ar (ah rfl) aB))) fun Q g=>⟨hd,sc,sl,fv,f,a,b,c,rfl,hh3,lsl3,nsl.1,nsl.2,hfv,F,fun L H' xs h1 h2 h3 h4 h5 h6=>g _ _ ⟨L,xs,rfl,h1,h2,h3,h4,h5,h6⟩⟩) ?_
    rintro _ H4 ⟨L,xs,rfl,hL0,hh4,s4,⟨as,hL4,pr4⟩,okx,x8⟩
    have tb4:=xb tb3 s4 hys3 hsl3
    have hfv4:=hfv.tk (wm s4 hys3 hsl3)
    have nL:=hh3.fresh hL0
    have asl:=bF pr4
    refine aH (R:=fun v H'=>∃D sp,v=.ref D/\H4 D=none/\Same H4 H'/\LP H' D sp/\Srt sp/\(∀q,q∈sp↔gE (xs.map (·.1)) q)/\sp.length<=300/\∀q∈sp,Sz 4000 q) (aX (ar (ah rfl) aB) fun Q g=>⟨L,xs,rfl,⟨as,hL4,pr4⟩,okx,x8,fun d H' sp h1 h2 h3 h4 h5 h6 h7=>g _ _ ⟨d,sp,rfl,h1,h2,h3,h4,h5,h6,h7⟩⟩) ?_
    rintro _ H5 ⟨D,sp,rfl,hD0,s5,lD5,srt,mem,l300,szD⟩
    have nD:=hh4.fresh hD0
    refine aH (qk rfl (s5 _ _ hL4)) ?_
    rintro _ _ ⟨N,rfl,hN0,rfl⟩
    have s6:Same H5 (upd H5 N (.lst (as.map V.ref))):=Same.upd hN0
    have s46:=s5.trans s6
    have nN:=(hh4.same s5).fresh hN0
    have g6:LwS (upd H5 N (.lst (as.map V.ref))) t.p_near_pairs L N D as xs sp:=⟨ci tb4 s46,s46 _ _ hL4,ak,bz pr4 fun _ _ x=>x.same s46,lD5.same s6⟩
    have hh6:=hh4.same s46
    have hfv6:=hfv4.same s46
    generalize upd H5 N (.lst (as.map V.ref))=H6 at g6 hh6 hfv6 ⊢
    clear s46 s6 hN0 lD5 s5 hD0 pr4 hL4 hfv4 tb4 s4 hh4 hL0 hsl3 hys3 lsl3 tb3 s3 hfv hh3 hys2 lsl2 tb2 hh2 s2 tb1 s1 hh1
    refine aH (ny g6 (ar (ah rfl) aB) okx x8 srt mem) ?_
    rintro _ H7 ⟨F0,rfl,hF0,nFP,s7,g7,lF7⟩
    have hh7:=ui hh6 s7 g6.tb
    have hfv7:=hfv6.tk (ln s7 g6.tb)
    have nF:=hh6.fresh hF0
    have nFs:=g6.new hF0
    obtain⟨fs,hF7,_⟩:=lF7.ls
    refine cn (kx (b:=false) (c:=false) (u7 (b:=true) (gM (cu (ar (ah rfl) (ar (ah rfl) aB)) fun Q f=>⟨F0,D,sp,rfl,lF7,g7.due,by omega,f⟩))) fun _=>bM (sJ (ah rfl) (ah rfl) (su g7.n g7.pr) (su g7.l g7.pr))) (fun e=>by cases e) fun _=>?_
    refine my (ah rfl) hF7 ?_
    have s8:SameB F0 H7 (upd H7 F0 (.lst [])):=SameB.upd
    have g8:=g7.but s8 hF7 nFs.1 nFs.2.1 nFs.2.2
    have hh8:HandAt (upd H7 F0 (.lst [])) hd sc:=hh7.upd nF
    have hfv8:=hfv7.tk (fR s8 hF7)
    generalize upd H7 F0 (.lst [])=H8 at s8 g8 hh8 hfv8 ⊢
    obtain⟨ys8,hys8⟩:=hh8.ls
    refine jf (R:=fun v H'=>∃A p q,v=.ref A/\HandAt H' hd sc/\SameB hd H8 H'/\LP H' A [p,q]/\OkS 900 (p,q)) (rE (R0:=fun v H'=>∃t u w p q,v=.ref t/\HandAt H' hd sc/\SameB hd H8 H'/\H' t=some (.tup [u,w])/\AtP H' u p/\AtP H' w q/\OkS 450 (p,q)) (bR (bi (ah rfl).gv fun x Hx ex=>bi (R1:=fun v H'=>∃e,v=.ref e/\H8 e=none/\H'=upd H8 e (.lst [])) ?_ fun y Hy ey=>bi pu_c.gv fun _ _ _=>cU) ?_) ?_) ?_
    · obtain⟨rfl,rfl⟩:=ex
      exact (cO aB (by show 0<=sizeLine;decide)).imp fun v H' ⟨e,e1,e2,e3⟩=>⟨e,e2,e1,e3⟩
    · rintro vs H9 ⟨x,H10,r,rfl,⟨rfl,rfl⟩,y,H11,r2,rfl,⟨e,rfl,he,rfl⟩,z,H12,r3,rfl,⟨rfl,rfl⟩,rfl,rfl⟩ Q g
      have ne:=hh8.fresh he
      have se:Same H10 (upd H10 e (.lst [])):=Same.upd he
      refine⟨hd,sc,e,[],5,3,10 ^ 12,rfl,hh8.same se,⟨[],ak,.nil⟩,ne.1,ne.2,by decide,Dq.nil _,by decide,by decide,by decide,by decide,by decide,fun t u v H' p q ps' h1 h2 h3 h4 h5 h6 h7 h8 h9 h10 h11 h12=>g _ _ ⟨t,u,v,p,q,rfl,h2,fun b o hb nb=>?_,h4,h5,h6,⟨h12.lp h9,h12.lp h10,nM (h12.lp h9) (h12.lp h10) h11,h12.sz h9 (by decide) (by decide),h12.sz h10 (by decide) (by decide)⟩⟩⟩
      exact h3 _ _ (se _ _ hb) nb fun e'=>by rw[e',he] at hb;cases hb
    · rintro _ H9 ⟨t0,u,w,p,q,rfl,hh9,s9,ht9,tu,tw,okp⟩
      have hfv9:=hfv8.tk (fR s9 hys8)
      refine (rD (qs:=[frP f a b c p,frP f a b c q]) ht9 (by show 2<=1000;decide) rfl (fun x=>KeepS.cons (KeepS.refl _) (some x)) fun i x r H' hx hr' s'=>?_).imp ?_
      · have FR:∀{p:Pt3},AtP H9 x p->Lp p->Sz 450 p->Gv (ce iO [] E0 (bG (cm 1) (bG (cm 0) df))) [some x,some fv] H' (fun v H''=>Same H' H''/\AtP H'' v (frP f a b c p)):=fun {p} h1 h2 h3=>aX (ar (ah rfl) (ar (ah rfl) aB)) fun Q g=>⟨fv,x,f,a,b,c,p,rfl,hfv9.same s',F,h1.same s',h3.mono (by decide),h2.pos,fun w H'' s t=>g _ _ ⟨s,t⟩⟩
        rcases i with _|_|i
        · cases hx
          cases hr'
          exact FR tu okp.a okp.za
        · cases hx
          cases hr'
          exact FR tw okp.b okp.zb
        · simp at hx
      · rintro v H10 ⟨A,rfl,hA,s10,lA⟩
        exact⟨A,_,_,rfl,hh9.same s10,s9.trans s10.b,lA,ux (x:=((p,q),[])) F okp⟩
    rintro _ H9 ⟨A,p0,q0,rfl,hh9,s9,lA,ok0⟩
    have UV:∃u v,H9 A=some (.lst [u,v])/\AtP H9 u p0/\AtP H9 v q0:=by
      obtain⟨zs,z1,z2⟩:=lA
      cases z2 with
      | cons h1 t1=>
        cases t1 with
        | cons h2 t2=>
          cases t2
          exact⟨_,_,z1,h1,h2⟩
    obtain⟨u0,v0,hA9,tu0,tv0⟩:=UV
    refine xC hA9 ?_
    have g9:=g8.but s9 hys8 nL.1 nN.1 nD.1
    obtain⟨ys9,hys9⟩:=hh9.ls
    have lal:(as.map V.ref).length=xs.length:=by rw[List.length_map];exact asl
    refine pI (I:=fun σ' H'=>∃u v p q,σ'=[some (.ref sa),some (.ref hd),some (.ref sl),some fv,some (.ref L),some (.ref D),some (.ref N),some (.ref F0),some u,some v,none,none,none,none]/\HandAt H' hd sc/\SameB hd H9 H'/\AtP H' u p/\AtP H' v q/\OkS 900 (p,q)) (RB:=fun b H'=>(b=true->0<xs.length)/\HandAt H' hd sc/\SameB hd H9 H') ?_ ?_ ?_ ?_
    · refine ur (R:=fun b H'=>(b=true->0<xs.length)/\HandAt H' hd sc/\SameB hd H9 H') ((bM (fO (bD (ar (ah rfl) aB) (SqL.of g9.l)) pu_c)).gt ⟨fun e=>?_,hh9,fun _ _ h _=>h⟩) ?_ ?_
      · have:=of_decide_eq_true e
        omega
      · rintro H' ⟨e,h1,h2⟩
        exact fun Q g=>gB h1 (fun _=>pu_c) (ar (ah rfl) (ar pu_c aB)) (by decide) Bd.small Q fun b H'' r=>g b H'' ⟨fun _=>e rfl,r.1,h2.trans r.2⟩
      · rintro H' ⟨e,h1,h2⟩
        exact⟨(fun z=>nomatch z),h1,h2⟩
    · rintro H10 ⟨e,hh10,s10⟩ D' kD
      have x0:=e rfl
      have k10:=fR s10 hys9
      have g10:=g9.but s10 hys9 nL.1 nN.1 nD.1
      refine (nz hh10 g10.l g10.pr nL.1 (n:=((as.map V.ref).length:Int)) (by omega) (by omega) (by omega) (ah rfl) (ar (ah rfl) (ar (bD (ar (ah rfl) aB) (SqL.of g10.l)) aB))) _ fun v11 H11 z=>?_
      obtain⟨hh11,s11,a9,x9,hx9,rfl,u9,w9,y9,e1,e2,e3,e4⟩:=z
      refine⟨2,rfl,a9,[u9,w9,y9],rfl,SqT.of e1,(fun z=>absurd z.2 (by show ¬(HT.sIx 3 3 (some 2)=3);decide)),fun p1 hp1=>?_⟩
      have sb:Same H11 (upd H11 p1 (.tup [u9,w9])):=Same.upd hp1
      refine tg2 ak ?_
      exact kD _ _ ⟨u9,w9,_,_,rfl,hh11.same sb,s10.trans (s11.trans sb.b),e2.same sb,e3.same sb,okx x9 hx9⟩
    · rintro H' ⟨_,h1,h2⟩
      have kk:=fR h2 hys9
      exact⟨u0,v0,p0,q0,rfl,h1,h2,TupT.tk tu0 kk,TupT.tk tv0 kk,ok0⟩
    rintro _ H10 ⟨u,v,p,q,rfl,hh10,s10,tu,tv,okp⟩
    have g10:=g9.but s10 hys9 nL.1 nN.1 nD.1
    obtain⟨ys10,hys10⟩:=hh10.ls
    clear ok0 tu0 tv0 hA9 lA s9 g9 s8 g8 g7 g6 hfv6 hfv7 hfv8
    refine aH (R:=fun v H'=>∃l ps,v=.ref l/\H10 l=none/\HandAt H' hd sc/\SameB hd H10 H'/\LP H' l ps/\ps.length<=8/\∀x∈ps,Lp x/\Sz 4000 x) (aX (ar (ah rfl) (ar (ah rfl) (ar (ah rfl) (ar (ah rfl) aB)))) fun Q g=>⟨hd,sc,u,v,D,p,q,sp,rfl,hh10,tu,tv,okp.a,okp.b,okp.za,okp.zb,g10.due,nD.1,l300,fun x hx=>⟨srt.1 x hx,szD x hx⟩,fun l H' ps h1 h2 h3 h4 h5 h6=>g _ _ ⟨l,ps,rfl,h1,h2,h3,h4,h5,h6⟩⟩) ?_
    rintro _ H11 ⟨B,ps,rfl,hB0,hh11,s11,lB,ps8,okB⟩
    have g11:=g10.but s11 hys10 nL.1 nN.1 nD.1
    have tu11:=TupT.tk tu (fR s11 hys10)
    have tv11:=TupT.tk tv (fR s11 hys10)
    clear tu tv g10 hh11
    have zp:Sz 4000 p:=okp.za.mono (by decide)
    have zq:Sz 4000 q:=okp.zb.mono (by decide)
    obtain⟨us,hB11,tyB⟩:=id lB
    have usl:us.length=ps.length:=by rw[tyB.len,List.length_map]
    refine aH (R:=fun v H'=>∃C,v=.ref C/\Same H11 H'/\LP H' C (bo (ps.filter fun z=>onB z p q))) (bR (RA:=fun vs H1=>∃c,vs=[.ref c]/\Same H11 H1/\LP H1 c (ps.filter fun z=>onB z p q)) (fun Q g=>?_) fun vs H1 z Q g=>?_) ?_
    · dsimp only[bG,df]
      refine kO (σ:=[some (.ref sa),some (.ref hd),some (.ref sl),some fv,some (.ref L),some (.ref D),some (.ref N),some (.ref F0),some u,some v,some (.ref B),none,none,none]) (tl:=cm 10) (onV H11 p q) (ah rfl) hB11 (by omega) ?hk ?h0 ?hs _ ?fin
      case hk=>exact fun x=>KeepS.cons (KeepS.refl _) (some x)
      case h0=>exact fun x=>rfl
      case hs=>
        intro x hx H' s'
        obtain⟨i,hi⟩:=List.getElem?_of_mem hx
        obtain⟨ns,hns,tx⟩:=tyB.get' hi
        rw[List.getElem?_map] at hns
        cases hp:ps[i]? with
        | none=>rw[hp] at hns;cases hns
        | some r=>
          rw[hp] at hns
          cases hns
          have o:=okB r (List.mem_of_getElem? hp)
          have e:onV H11 p q x=onB r p q:=lV tx
          rw[e]
          exact (gM (cu (ar (ah rfl) (ar (ah rfl) (ar (ah rfl) aB))) fun Q f=>⟨x,u,v,r,p,q,rfl,tx.same s',tu11.same s',tv11.same s',o.2,zp,zq,okp.a.pos,f⟩)).gt ⟨rfl,fun _ _ h=>h⟩
      case fin=>
        rintro v H1 ⟨D,hD,rfl,s1,hD1⟩
        refine g _ _ ⟨D,rfl,s1,_,hD1,?_⟩
        exact (fQ tyB fun x z hz=>lV hz).mono fun _ _ t=>t.same s1
    · obtain⟨c,rfl,s1,hc⟩:=z
      exact⟨c,_,rfl,hc,fun p hp=>(okB p (List.mem_filter.mp hp).1).1,fun p hp=>(okB p (List.mem_filter.mp hp).1).2,Nat.le_trans (List.length_filter_le _ _) (by omega),fun r H' e1 e2 e3=>g _ _ ⟨r,rfl,s1.trans e2,e3⟩⟩
    rintro _ H12 ⟨C0,rfl,s12,lC0⟩
    have fl:ahd q p = !ahd p q:=gi okp.ab
    refine fT (R:=fun v H'=>∃C,v=.ref C/\Same H11 H'/\LP H' C (fJ p q ps)) (gM (cu (ar (ah rfl) (ar (ah rfl) aB)) fun Q f=>⟨v,u,q,p,rfl,tv11.same s12,tu11.same s12,zq,zp,f⟩)) (fun e=>?_) rfl (fun e=>⟨C0,rfl,s12,?_⟩) ?_
    · obtain⟨zs,z1,z2⟩:=lC0
      refine (um (ah rfl) z1).imp fun v H' ⟨C,hC,e1,e2⟩=>?_
      subst e1 e2
      have sC:=Same.upd (o:=.lst zs.reverse) hC
      refine⟨C,rfl,s12.trans sC,_,ak,?_⟩
      unfold fJ
      rw[if_neg (by rw[fl] at e;simp at e;rw[e];decide),List.map_reverse]
      exact (z2.mono fun _ _ t=>t.same sC).reverse
    · unfold fJ
      rw[if_pos (by rw[fl] at e;simpa using e)]
      exact lC0
    rintro _ H13 ⟨C,rfl,s13,lC⟩
    clear lC0 s12
    have g13:=g11.same s13
    have tu13:=tu11.same s13
    have tv13:=tv11.same s13
    have lB13:=lB.same s13
    have hB13:=s13 _ _ hB11
    have cutl:(fJ p q ps).length<=8:=by
      have h1:(bo (ps.filter fun z=>onB z p q)).length<=8:=Nat.le_trans (gr _) (Nat.le_trans (List.length_filter_le _ _) ps8)
      unfold fJ
      split
      · exact h1
      · rw[List.length_reverse];exact h1
    clear g11 tu11 tv11 lB
    refine aH (qk rfl hB13) ?_
    rintro _ _ ⟨G,rfl,hG0,rfl⟩
    have s14:Same H13 (upd H13 G (.lst us)):=Same.upd hG0
    have g14:=g13.same s14
    have tu14:=tu13.same s14
    have tv14:=tv13.same s14
    have lB14:=lB13.same s14
    have lC14:=lC.same s14
    have hG14:(upd H13 G (.lst us)) G=some (.lst us):=ak
    have lG14:LP (upd H13 G (.lst us)) G ps:=⟨us,ak,tyB.mono fun _ _ t=>(t.same s13).same s14⟩
    have nGs:=g13.new hG0
    have nGB:B≠G:=fun e=>by rw[←e,hB13] at hG0;cases hG0
    have nGC:C≠G:=fun e=>by obtain⟨z,hz,_⟩:=lC;rw[←e,hz] at hG0;cases hG0
    generalize upd H13 G (.lst us)=H14 at s14 g14 tu14 tv14 lB14 lC14 hG14 lG14 ⊢
    refine aH (R:=fun v H'=>∃T,v=.ref T/\H14 T=none/\Same H14 H'/\LP H' T (fJ p q ps)) (aX (ar (ah rfl) (ar (ah rfl) (ar (ah rfl) aB))) fun Q g=>⟨u,v,G,p,q,ps,rfl,tu14,tv14,lG14,okB,zp,zq,by omega,fun r H' h1 h2 h3=>g _ _ ⟨r,rfl,h1,h2,h3⟩⟩) ?_
    rintro _ H15 ⟨T,rfl,hT,s15,lT⟩
    have nTs:=g14.new hT
    have nTG:G≠T:=fun e=>by rw[←e,hG14] at hT;cases hT
    have nTB:B≠T:=fun e=>by obtain⟨z,hz,_⟩:=lB14;rw[←e,hz] at hT;cases hT
    have nTC:C≠T:=fun e=>by obtain⟨z,hz,_⟩:=lC14;rw[←e,hz] at hT;cases hT
    have g15:=g14.same s15
    have tu15:=tu14.same s15
    have tv15:=tv14.same s15
    have lB15:=lB14.same s15
    have lC15:=lC14.same s15
    have lG15:=lG14.same s15
    refine cn (kx (b:=false) (c:=false) (u7 (b:=true) (gM (cu (ar (ah rfl) (ar (ah rfl) aB)) fun Q f=>⟨T,C,_,rfl,lT,lC15,by omega,f⟩))) fun _=>bM (sJ (ah rfl) (ah rfl) (tS lG15) (tS lB15))) (fun e=>by cases e) fun _=>?_
    obtain⟨ts,hT15,tsl⟩:=lT.ls
    refine ju (ah rfl) hT15 (ah rfl).gv ?_
    rintro u' H15' ⟨e1,e2⟩
    have e1:=e1.symm
    have e2:=e2.symm
    subst e1 e2
    refine⟨ts,hT15,aZ (by omega),?_⟩
    obtain⟨ts',hts',_,lT16⟩:=lT.snoc tu15
    rw[hT15] at hts'
    cases hts'
    have s16:SameB T H15 (upd H15 T (.lst (ts++[u]))):=SameB.upd
    have g16:=g15.but s16 hT15 nTs.1 nTs.2.1 nTs.2.2
    have tu16:=tu15.tk (fR s16 hT15)
    have tv16:=tv15.tk (fR s16 hT15)
    have lB16:=lB15.but nTB hT15 s16
    have lC16:=lC15.but nTC hT15 s16
    have lG16:=lG15.but nTG hT15 s16
    generalize upd H15 T (.lst (ts++[u]))=H16 at s16 g16 tu16 tv16 lB16 lC16 lG16 lT16 ⊢
    obtain⟨gs,hG16,_⟩:=lG16.ls
    refine my (ah rfl) hG16 ?_
    have s17:SameB G H16 (upd H16 G (.lst [])):=SameB.upd
    have g17:=g16.but s17 hG16 nGs.1 nGs.2.1 nGs.2.2
    have tu17:=tu16.tk (fR s17 hG16)
    have tv17:=tv16.tk (fR s17 hG16)
    have lB17:=lB16.but nGB hG16 s17
    have lC17:=lC16.but nGC hG16 s17
    have lT17:=lT16.but (Ne.symm nTG) hG16 s17
    generalize upd H16 G (.lst [])=H17 at s17 g17 tu17 tv17 lB17 lC17 lT17 ⊢
    refine gl (R:=fun b H'=>b=false/\Same H17 H') (xH (xx (R:=fun v H'=>v=.bl true/\Same H17 H') (bR (bi (R1:=fun v H'=>∃r,v=.ref r/\Same H17 H'/\LP H' r (fJ q p ps)) (aX (ar (ah rfl) (ar (ah rfl) (ar (ah rfl) aB))) fun Q g=>⟨v,u,B,q,p,ps,rfl,tv17,tu17,lB17,okB,zq,zp,by omega,fun r H' h1 h2 h3=>g _ _ ⟨r,rfl,h2,h3⟩⟩) fun x Hx ex=>bi (R1:=fun v H'=>∃r,v=.ref r/\Same Hx H'/\LP H' r (fJ p q ps).reverse) ?_ fun _ _ _=>cU) ?_) fun v H' r=>⟨_,r.1⟩) |>.imp ?_) ?_ ?_
    · obtain⟨r,rfl,sx,lx⟩:=ex
      obtain⟨zs,z1,z2⟩:=lC17.same sx
      refine (um (ah rfl) z1).imp fun v H' ⟨r',hr0,e1,e2⟩=>?_
      subst e1 e2
      have sC:=Same.upd (o:=.lst zs.reverse) hr0
      refine⟨r',rfl,sC,_,ak,?_⟩
      rw[List.map_reverse]
      exact (z2.mono fun _ _ t=>t.same sC).reverse
    · rintro vs H18 ⟨x,H19,r,rfl,⟨r1,rfl,sx,lx⟩,y,H20,r3,rfl,⟨r2,rfl,sy,ly⟩,rfl,rfl⟩ Q g
      refine⟨r1,r2,(fJ p q ps).reverse,rfl,?_,ly,by rw[List.length_reverse];omega,g _ _ ⟨rfl,sx.trans sy⟩⟩
      rw[←uD okp.ab]
      exact lx.same sy
    · rintro c H' ⟨e1,e2⟩
      cases c
      · exact⟨rfl,e2⟩
      · simp at e1
    · rintro H' ⟨e,_⟩
      cases e
    rintro H18 ⟨_,s18⟩
    have g18:=g17.same s18
    have tu18:=tu17.same s18
    have lC18:=lC17.same s18
    have lT18:=lT17.same s18
    refine bn (R:=fun v H'=>v=.bl true/\bW H' t.p_near_pairs ib ie) (vJ (R:=fun v H'=>v=.bl true/\SameB t.p_near_pairs H18 H'/\bW H' t.p_near_pairs ib ie) (bR (bi (ny g18 (ar (ah rfl) aB) okx x8 srt mem) fun x Hx ex=>bi (ah rfl).gv fun _ _ _=>cU) ?_) ?_) ?_
    · rintro vs H19 ⟨x,H20,r,rfl,⟨F1,rfl,h1,h2,h3,h4,h5⟩,y,H21,r2,rfl,⟨rfl,rfl⟩,rfl,rfl⟩ Q g
      exact⟨F1,D,sp,rfl,h5,h4.due,by omega,g _ _ ⟨rfl,h3,h4.tb⟩⟩
    · rintro _ H19 ⟨rfl,s19,tb19⟩
      refine⟨true,rfl,fun _=>?_,fun e=>nomatch e⟩
      have tk19:=ln s19 g18.tb
      have lC19:=tR lC18 tk19 fun _ h=>gQ s19 g18.tb h
      have lT19:=tR lT18 tk19 fun _ h=>gQ s19 g18.tb h
      have tu19:=TupT.tk tu18 tk19
      obtain⟨cs,hC19,tyC⟩:=id lC19
      have csl:cs.length=(fJ p q ps).length:=by rw[tyC.len,List.length_map]
      refine bR (bi (ah rfl).gv fun x Hx ex=>bi (R1:=fun v H'=>∃r,v=.ref r/\Same H19 H'/\LP H' r (fJ p q ps++[p])) ?_ fun _ _ _=>cU) ?_
      · obtain⟨rfl,rfl⟩:=ex
        intro Q g
        dsimp only[tOp]
        refine ah (v:=.ref C) rfl _ (cO (ar (ah rfl) aB) (by show 1<=sizeLine;decide) _ ?_)
        rintro _ _ ⟨p3,hp3,rfl,rfl⟩
        have sa3:Same Hx (upd Hx p3 (.lst [u])):=Same.upd hp3
        refine⟨C,p3,cs,[u],rfl,rfl,sa3 _ _ hC19,ak,Nat.le_of_lt (aZ (by simp;omega)),fun p4 hp4=>g _ _ ⟨p4,rfl,sa3.trans (Same.upd hp4),cs++[u],ak,?_⟩⟩
        rw[List.map_append]
        exact (tyC.app (.cons tu19 .nil)).mono fun _ _ t=>t.same (sa3.trans (Same.upd hp4))
      · rintro vs H20 ⟨x,H21,r,rfl,⟨rfl,rfl⟩,y,H22,r2,rfl,⟨r1,rfl,sx,lx⟩,rfl,rfl⟩ Q g
        exact⟨T,r1,fJ p q ps++[p],rfl,lT19.same sx,lx,by simp;omega,g _ _ ⟨rfl,ci tb19 sx⟩⟩
    · rintro _ H19 ⟨rfl,ps',e,_⟩
      exact k H19 ⟨ps',e⟩
end
theorem all_mk {l:PySem.W.OpenLaw}{w:World}{K:PySem.W.Frag}{h:Heap}{mg:Str->Option Value}{fa:Addr}(X:K.In h)(G:h.Ns mainGlobals mg)(hfa:mg "law" = some (.ref fa))
    {f0:Addr} {od0 an0:Option Addr} {sl0:Array (Option Value)} {oc0 kV0 dc0 pm0 cd0 ct0:Value}
    (a0:PySem.W.nsIn K mainGlobals "is_ahead" = some (some (.ref f0))) (l0:K.lookup f0=some ⟨oc0,od0,.func (PySem.W.fnOf "is_ahead" "is_ahead" (aP dB) (aN dB) (av dB) .none kV0 dc0 pm0 an0 cd0 ct0),sl0⟩) (c0:PySem.W.codeIn K cd0 "is_ahead" = true) (k0:PySem.W.keepIn K (.ref f0)=true)
    {f1:Addr} {od1 an1:Option Addr} {sl1:Array (Option Value)} {oc1 kV1 dc1 pm1 cd1 ct1:Value}
    (a1:PySem.W.nsIn K mainGlobals "merged" = some (some (.ref f1))) (l1:K.lookup f1=some ⟨oc1,od1,.func (PySem.W.fnOf "merged" "merged" (aP eW) (aN eW) (av eW) .none kV1 dc1 pm1 an1 cd1 ct1),sl1⟩) (c1:PySem.W.codeIn K cd1 "merged" = true) (k1:PySem.W.keepIn K (.ref f1)=true)
    {f2:Addr} {od2 an2:Option Addr} {sl2:Array (Option Value)} {oc2 kV2 dc2 pm2 cd2 ct2:Value}
    (a2:PySem.W.nsIn K mainGlobals "ordered" = some (some (.ref f2))) (l2:K.lookup f2=some ⟨oc2,od2,.func (PySem.W.fnOf "ordered" "ordered" (aP dY) (aN dY) (av dY) .none kV2 dc2 pm2 an2 cd2 ct2),sl2⟩) (c2:PySem.W.codeIn K cd2 "ordered" = true) (k2:PySem.W.keepIn K (.ref f2)=true)
    {f3:Addr} {od3 an3:Option Addr} {sl3:Array (Option Value)} {oc3 kV3 dc3 pm3 cd3 ct3:Value}
    (a3:PySem.W.nsIn K mainGlobals "divisor_of" = some (some (.ref f3))) (l3:K.lookup f3=some ⟨oc3,od3,.func (PySem.W.fnOf "divisor_of" "divisor_of" (aP cL) (aN cL) (av cL) .none kV3 dc3 pm3 an3 cd3 ct3),sl3⟩) (c3:PySem.W.codeIn K cd3 "divisor_of" = true) (k3:PySem.W.keepIn K (.ref f3)=true)
    {f4:Addr} {od4 an4:Option Addr} {sl4:Array (Option Value)} {oc4 kV4 dc4 pm4 cd4 ct4:Value}
    (a4:PySem.W.nsIn K mainGlobals "point_by" = some (some (.ref f4))) (l4:K.lookup f4=some ⟨oc4,od4,.func (PySem.W.fnOf "point_by" "point_by" (aP dt) (aN dt) (av dt) .none kV4 dc4 pm4 an4 cd4 ct4),sl4⟩) (c4:PySem.W.codeIn K cd4 "point_by" = true) (k4:PySem.W.keepIn K (.ref f4)=true)
    {f5:Addr} {od5 an5:Option Addr} {sl5:Array (Option Value)} {oc5 kV5 dc5 pm5 cd5 ct5:Value}
    (a5:PySem.W.nsIn K mainGlobals "in_order" = some (some (.ref f5))) (l5:K.lookup f5=some ⟨oc5,od5,.func (PySem.W.fnOf "in_order" "in_order" (aP dC) (aN dC) (av dC) .none kV5 dc5 pm5 an5 cd5 ct5),sl5⟩) (c5:PySem.W.codeIn K cd5 "in_order" = true) (k5:PySem.W.keepIn K (.ref f5)=true)
    {f6:Addr} {od6 an6:Option Addr} {sl6:Array (Option Value)} {oc6 kV6 dc6 pm6 cd6 ct6:Value}
    (a6:PySem.W.nsIn K mainGlobals "ranks_of" = some (some (.ref f6))) (l6:K.lookup f6=some ⟨oc6,od6,.func (PySem.W.fnOf "ranks_of" "ranks_of" (aP dn) (aN dn) (av dn) .none kV6 dc6 pm6 an6 cd6 ct6),sl6⟩) (c6:PySem.W.codeIn K cd6 "ranks_of" = true) (k6:PySem.W.keepIn K (.ref f6)=true)
    {f7:Addr} {od7 an7:Option Addr} {sl7:Array (Option Value)} {oc7 kV7 dc7 pm7 cd7 ct7:Value}
    (a7:PySem.W.nsIn K mainGlobals "line_through" = some (some (.ref f7))) (l7:K.lookup f7=some ⟨oc7,od7,.func (PySem.W.fnOf "line_through" "line_through" (aP cj) (aN cj) (av cj) .none kV7 dc7 pm7 an7 cd7 ct7),sl7⟩) (c7:PySem.W.codeIn K cd7 "line_through" = true) (k7:PySem.W.keepIn K (.ref f7)=true)
    {f8:Addr} {od8 an8:Option Addr} {sl8:Array (Option Value)} {oc8 kV8 dc8 pm8 cd8 ct8:Value}
    (a8:PySem.W.nsIn K mainGlobals "turn_from" = some (some (.ref f8))) (l8:K.lookup f8=some ⟨oc8,od8,.func (PySem.W.fnOf "turn_from" "turn_from" (aP cW) (aN cW) (av cW) .none kV8 dc8 pm8 an8 cd8 ct8),sl8⟩) (c8:PySem.W.codeIn K cd8 "turn_from" = true) (k8:PySem.W.keepIn K (.ref f8)=true)
    {f9:Addr} {od9 an9:Option Addr} {sl9:Array (Option Value)} {oc9 kV9 dc9 pm9 cd9 ct9:Value}
    (a9:PySem.W.nsIn K mainGlobals "turn" = some (some (.ref f9))) (l9:K.lookup f9=some ⟨oc9,od9,.func (PySem.W.fnOf "turn" "turn" (aP iB) (aN iB) (av iB) .none kV9 dc9 pm9 an9 cd9 ct9),sl9⟩) (c9:PySem.W.codeIn K cd9 "turn" = true) (k9:PySem.W.keepIn K (.ref f9)=true)
    {f10:Addr} {od10 an10:Option Addr} {sl10:Array (Option Value)} {oc10 kV10 dc10 pm10 cd10 ct10:Value}
    (a10:PySem.W.nsIn K mainGlobals "lies_on" = some (some (.ref f10))) (l10:K.lookup f10=some ⟨oc10,od10,.func (PySem.W.fnOf "lies_on" "lies_on" (aP dZ) (aN dZ) (av dZ) .none kV10 dc10 pm10 an10 cd10 ct10),sl10⟩) (c10:PySem.W.codeIn K cd10 "lies_on" = true) (k10:PySem.W.keepIn K (.ref f10)=true)
    {f11:Addr} {od11 an11:Option Addr} {sl11:Array (Option Value)} {oc11 kV11 dc11 pm11 cd11 ct11:Value}
    (a11:PySem.W.nsIn K mainGlobals "ends_in_order" = some (some (.ref f11))) (l11:K.lookup f11=some ⟨oc11,od11,.func (PySem.W.fnOf "ends_in_order" "ends_in_order" (aP bX) (aN bX) (av bX) .none kV11 dc11 pm11 an11 cd11 ct11),sl11⟩) (c11:PySem.W.codeIn K cd11 "ends_in_order" = true) (k11:PySem.W.keepIn K (.ref f11)=true)
    {f12:Addr} {od12 an12:Option Addr} {sl12:Array (Option Value)} {oc12 kV12 dc12 pm12 cd12 ct12:Value}
    (a12:PySem.W.nsIn K mainGlobals "shared_on_line" = some (some (.ref f12))) (l12:K.lookup f12=some ⟨oc12,od12,.func (PySem.W.fnOf "shared_on_line" "shared_on_line" (aP bT) (aN bT) (av bT) .none kV12 dc12 pm12 an12 cd12 ct12),sl12⟩) (c12:PySem.W.codeIn K cd12 "shared_on_line" = true) (k12:PySem.W.keepIn K (.ref f12)=true)
    {f13:Addr} {od13 an13:Option Addr} {sl13:Array (Option Value)} {oc13 kV13 dc13 pm13 cd13 ct13:Value}
    (a13:PySem.W.nsIn K mainGlobals "crossing_of" = some (some (.ref f13))) (l13:K.lookup f13=some ⟨oc13,od13,.func (PySem.W.fnOf "crossing_of" "crossing_of" (aP cB) (aN cB) (av cB) .none kV13 dc13 pm13 an13 cd13 ct13),sl13⟩) (c13:PySem.W.codeIn K cd13 "crossing_of" = true) (k13:PySem.W.keepIn K (.ref f13)=true)
    {f14:Addr} {od14 an14:Option Addr} {sl14:Array (Option Value)} {oc14 kV14 dc14 pm14 cd14 ct14:Value}
    (a14:PySem.W.nsIn K mainGlobals "meet" = some (some (.ref f14))) (l14:K.lookup f14=some ⟨oc14,od14,.func (PySem.W.fnOf "meet" "meet" (aP iC) (aN iC) (av iC) .none kV14 dc14 pm14 an14 cd14 ct14),sl14⟩) (c14:PySem.W.codeIn K cd14 "meet" = true) (k14:PySem.W.keepIn K (.ref f14)=true)
    {f15:Addr} {od15 an15:Option Addr} {sl15:Array (Option Value)} {oc15 kV15 dc15 pm15 cd15 ct15:Value}
    (a15:PySem.W.nsIn K mainGlobals "spans_of" = some (some (.ref f15))) (l15:K.lookup f15=some ⟨oc15,od15,.func (PySem.W.fnOf "spans_of" "spans_of" (aP dm) (aN dm) (av dm) .none kV15 dc15 pm15 an15 cd15 ct15),sl15⟩) (c15:PySem.W.codeIn K cd15 "spans_of" = true) (k15:PySem.W.keepIn K (.ref f15)=true)
    {f16:Addr} {od16 an16:Option Addr} {sl16:Array (Option Value)} {oc16 kV16 dc16 pm16 cd16 ct16:Value}
    (a16:PySem.W.nsIn K mainGlobals "flipped" = some (some (.ref f16))) (l16:K.lookup f16=some ⟨oc16,od16,.func (PySem.W.fnOf "flipped" "flipped" (aP ed) (aN ed) (av ed) .none kV16 dc16 pm16 an16 cd16 ct16),sl16⟩) (c16:PySem.W.codeIn K cd16 "flipped" = true) (k16:PySem.W.keepIn K (.ref f16)=true)
    {f17:Addr} {od17 an17:Option Addr} {sl17:Array (Option Value)} {oc17 kV17 dc17 pm17 cd17 ct17:Value}
    (a17:PySem.W.nsIn K mainGlobals "near_pairs" = some (some (.ref f17))) (l17:K.lookup f17=some ⟨oc17,od17,.func (PySem.W.fnOf "near_pairs" "near_pairs" (aP cK) (aN cK) (av cK) .none kV17 dc17 pm17 an17 cd17 ct17),sl17⟩) (c17:PySem.W.codeIn K cd17 "near_pairs" = true) (k17:PySem.W.keepIn K (.ref f17)=true)
    {f18:Addr} {od18 an18:Option Addr} {sl18:Array (Option Value)} {oc18 kV18 dc18 pm18 cd18 ct18:Value}
    (a18:PySem.W.nsIn K mainGlobals "marks_of" = some (some (.ref f18))) (l18:K.lookup f18=some ⟨oc18,od18,.func (PySem.W.fnOf "marks_of" "marks_of" (aP du) (aN du) (av du) .none kV18 dc18 pm18 an18 cd18 ct18),sl18⟩) (c18:PySem.W.codeIn K cd18 "marks_of" = true) (k18:PySem.W.keepIn K (.ref f18)=true)
    {f19:Addr} {od19 an19:Option Addr} {sl19:Array (Option Value)} {oc19 kV19 dc19 pm19 cd19 ct19:Value}
    (a19:PySem.W.nsIn K mainGlobals "spots_of" = some (some (.ref f19))) (l19:K.lookup f19=some ⟨oc19,od19,.func (PySem.W.fnOf "spots_of" "spots_of" (aP dk) (aN dk) (av dk) .none kV19 dc19 pm19 an19 cd19 ct19),sl19⟩) (c19:PySem.W.codeIn K cd19 "spots_of" = true) (k19:PySem.W.keepIn K (.ref f19)=true)
    {f20:Addr} {od20 an20:Option Addr} {sl20:Array (Option Value)} {oc20 kV20 dc20 pm20 cd20 ct20:Value}
    (a20:PySem.W.nsIn K mainGlobals "cut_at" = some (some (.ref f20))) (l20:K.lookup f20=some ⟨oc20,od20,.func (PySem.W.fnOf "cut_at" "cut_at" (aP fh) (aN fh) (av fh) .none kV20 dc20 pm20 an20 cd20 ct20),sl20⟩) (c20:PySem.W.codeIn K cd20 "cut_at" = true) (k20:PySem.W.keepIn K (.ref f20)=true)
    {f21:Addr} {od21 an21:Option Addr} {sl21:Array (Option Value)} {oc21 kV21 dc21 pm21 cd21 ct21:Value}
    (a21:PySem.W.nsIn K mainGlobals "_law_hand" = some (some (.ref f21))) (l21:K.lookup f21=some ⟨oc21,od21,.func (PySem.W.fnOf "_law_hand" "_law_hand" (aP ff) (aN ff) (av ff) .none kV21 dc21 pm21 an21 cd21 ct21),sl21⟩) (c21:PySem.W.codeIn K cd21 "_law_hand" = true) (k21:PySem.W.keepIn K (.ref f21)=true)
    {f22:Addr} {od22 an22:Option Addr} {sl22:Array (Option Value)} {oc22 kV22 dc22 pm22 cd22 ct22:Value}
    (a22:PySem.W.nsIn K mainGlobals "_law_next" = some (some (.ref f22))) (l22:K.lookup f22=some ⟨oc22,od22,.func (PySem.W.fnOf "_law_next" "_law_next" (aP fc) (aN fc) (av fc) .none kV22 dc22 pm22 an22 cd22 ct22),sl22⟩) (c22:PySem.W.codeIn K cd22 "_law_next" = true) (k22:PySem.W.keepIn K (.ref f22)=true)
    {f23:Addr} {od23 an23:Option Addr} {sl23:Array (Option Value)} {oc23 kV23 dc23 pm23 cd23 ct23:Value}
    (a23:PySem.W.nsIn K mainGlobals "_law_take" = some (some (.ref f23))) (l23:K.lookup f23=some ⟨oc23,od23,.func (PySem.W.fnOf "_law_take" "_law_take" (aP eY) (aN eY) (av eY) .none kV23 dc23 pm23 an23 cd23 ct23),sl23⟩) (c23:PySem.W.codeIn K cd23 "_law_take" = true) (k23:PySem.W.keepIn K (.ref f23)=true)
    {f24:Addr} {od24 an24:Option Addr} {sl24:Array (Option Value)} {oc24 kV24 dc24 pm24 cd24 ct24:Value}
    (a24:PySem.W.nsIn K mainGlobals "_law_draw" = some (some (.ref f24))) (l24:K.lookup f24=some ⟨oc24,od24,.func (PySem.W.fnOf "_law_draw" "_law_draw" (aP fg) (aN fg) (av fg) .none kV24 dc24 pm24 an24 cd24 ct24),sl24⟩) (c24:PySem.W.codeIn K cd24 "_law_draw" = true) (k24:PySem.W.keepIn K (.ref f24)=true)
    {f25:Addr} {od25 an25:Option Addr} {sl25:Array (Option Value)} {oc25 kV25 dc25 pm25 cd25 ct25:Value}
    (a25:PySem.W.nsIn K mainGlobals "_law_divisor" = some (some (.ref f25))) (l25:K.lookup f25=some ⟨oc25,od25,.func (PySem.W.fnOf "_law_divisor" "_law_divisor" (aP cX) (aN cX) (av cX) .none kV25 dc25 pm25 an25 cd25 ct25),sl25⟩) (c25:PySem.W.codeIn K cd25 "_law_divisor" = true) (k25:PySem.W.keepIn K (.ref f25)=true)
    {f26:Addr} {od26 an26:Option Addr} {sl26:Array (Option Value)} {oc26 kV26 dc26 pm26 cd26 ct26:Value}
    (a26:PySem.W.nsIn K mainGlobals "_law_point" = some (some (.ref f26))) (l26:K.lookup f26=some ⟨oc26,od26,.func (PySem.W.fnOf "_law_point" "_law_point" (aP d6) (aN d6) (av d6) .none kV26 dc26 pm26 an26 cd26 ct26),sl26⟩) (c26:PySem.W.codeIn K cd26 "_law_point" = true) (k26:PySem.W.keepIn K (.ref f26)=true)
    {f27:Addr} {od27 an27:Option Addr} {sl27:Array (Option Value)} {oc27 kV27 dc27 pm27 cd27 ct27:Value}
    (a27:PySem.W.nsIn K mainGlobals "_law_middle" = some (some (.ref f27))) (l27:K.lookup f27=some ⟨oc27,od27,.func (PySem.W.fnOf "_law_middle" "_law_middle" (aP dz) (aN dz) (av dz) .none kV27 dc27 pm27 an27 cd27 ct27),sl27⟩) (c27:PySem.W.codeIn K cd27 "_law_middle" = true) (k27:PySem.W.keepIn K (.ref f27)=true)
    {f28:Addr} {od28 an28:Option Addr} {sl28:Array (Option Value)} {oc28 kV28 dc28 pm28 cd28 ct28:Value}
    (a28:PySem.W.nsIn K mainGlobals "_law_ahead" = some (some (.ref f28))) (l28:K.lookup f28=some ⟨oc28,od28,.func (PySem.W.fnOf "_law_ahead" "_law_ahead" (aP d9) (aN d9) (av d9) .none kV28 dc28 pm28 an28 cd28 ct28),sl28⟩) (c28:PySem.W.codeIn K cd28 "_law_ahead" = true) (k28:PySem.W.keepIn K (.ref f28)=true)
    {f29:Addr} {od29 an29:Option Addr} {sl29:Array (Option Value)} {oc29 kV29 dc29 pm29 cd29 ct29:Value}
    (a29:PySem.W.nsIn K mainGlobals "_law_turn" = some (some (.ref f29))) (l29:K.lookup f29=some ⟨oc29,od29,.func (PySem.W.fnOf "_law_turn" "_law_turn" (aP eX) (aN eX) (av eX) .none kV29 dc29 pm29 an29 cd29 ct29),sl29⟩) (c29:PySem.W.codeIn K cd29 "_law_turn" = true) (k29:PySem.W.keepIn K (.ref f29)=true)
    {f30:Addr} {od30 an30:Option Addr} {sl30:Array (Option Value)} {oc30 kV30 dc30 pm30 cd30 ct30:Value}
    (a30:PySem.W.nsIn K mainGlobals "_law_on" = some (some (.ref f30))) (l30:K.lookup f30=some ⟨oc30,od30,.func (PySem.W.fnOf "_law_on" "_law_on" (aP iD) (aN iD) (av iD) .none kV30 dc30 pm30 an30 cd30 ct30),sl30⟩) (c30:PySem.W.codeIn K cd30 "_law_on" = true) (k30:PySem.W.keepIn K (.ref f30)=true)
    {f31:Addr} {od31 an31:Option Addr} {sl31:Array (Option Value)} {oc31 kV31 dc31 pm31 cd31 ct31:Value}
    (a31:PySem.W.nsIn K mainGlobals "_law_spot" = some (some (.ref f31))) (l31:K.lookup f31=some ⟨oc31,od31,.func (PySem.W.fnOf "_law_spot" "_law_spot" (aP eZ) (aN eZ) (av eZ) .none kV31 dc31 pm31 an31 cd31 ct31),sl31⟩) (c31:PySem.W.codeIn K cd31 "_law_spot" = true) (k31:PySem.W.keepIn K (.ref f31)=true)
    {f32:Addr} {od32 an32:Option Addr} {sl32:Array (Option Value)} {oc32 kV32 dc32 pm32 cd32 ct32:Value}
    (a32:PySem.W.nsIn K mainGlobals "_law_frame" = some (some (.ref f32))) (l32:K.lookup f32=some ⟨oc32,od32,.func (PySem.W.fnOf "_law_frame" "_law_frame" (aP d7) (aN d7) (av d7) .none kV32 dc32 pm32 an32 cd32 ct32),sl32⟩) (c32:PySem.W.codeIn K cd32 "_law_frame" = true) (k32:PySem.W.keepIn K (.ref f32)=true)
    {f33:Addr} {od33 an33:Option Addr} {sl33:Array (Option Value)} {oc33 kV33 dc33 pm33 cd33 ct33:Value}
    (a33:PySem.W.nsIn K mainGlobals "_law_framed" = some (some (.ref f33))) (l33:K.lookup f33=some ⟨oc33,od33,.func (PySem.W.fnOf "_law_framed" "_law_framed" (aP dA) (aN dA) (av dA) .none kV33 dc33 pm33 an33 cd33 ct33),sl33⟩) (c33:PySem.W.codeIn K cd33 "_law_framed" = true) (k33:PySem.W.keepIn K (.ref f33)=true)
    {f34:Addr} {od34 an34:Option Addr} {sl34:Array (Option Value)} {oc34 kV34 dc34 pm34 cd34 ct34:Value}
    (a34:PySem.W.nsIn K mainGlobals "_law_cross" = some (some (.ref f34))) (l34:K.lookup f34=some ⟨oc34,od34,.func (PySem.W.fnOf "_law_cross" "_law_cross" (aP d8) (aN d8) (av d8) .none kV34 dc34 pm34 an34 cd34 ct34),sl34⟩) (c34:PySem.W.codeIn K cd34 "_law_cross" = true) (k34:PySem.W.keepIn K (.ref f34)=true)
    {f35:Addr} {od35 an35:Option Addr} {sl35:Array (Option Value)} {oc35 kV35 dc35 pm35 cd35 ct35:Value}
    (a35:PySem.W.nsIn K mainGlobals "_law_sorted" = some (some (.ref f35))) (l35:K.lookup f35=some ⟨oc35,od35,.func (PySem.W.fnOf "_law_sorted" "_law_sorted" (aP dw) (aN dw) (av dw) .none kV35 dc35 pm35 an35 cd35 ct35),sl35⟩) (c35:PySem.W.codeIn K cd35 "_law_sorted" = true) (k35:PySem.W.keepIn K (.ref f35)=true)
    {f36:Addr} {od36 an36:Option Addr} {sl36:Array (Option Value)} {oc36 kV36 dc36 pm36 cd36 ct36:Value}
    (a36:PySem.W.nsIn K mainGlobals "_law_spots" = some (some (.ref f36))) (l36:K.lookup f36=some ⟨oc36,od36,.func (PySem.W.fnOf "_law_spots" "_law_spots" (aP d5) (aN d5) (av d5) .none kV36 dc36 pm36 an36 cd36 ct36),sl36⟩) (c36:PySem.W.codeIn K cd36 "_law_spots" = true) (k36:PySem.W.keepIn K (.ref f36)=true)
    {f37:Addr} {od37 an37:Option Addr} {sl37:Array (Option Value)} {oc37 kV37 dc37 pm37 cd37 ct37:Value}
    (a37:PySem.W.nsIn K mainGlobals "_law_raw" = some (some (.ref f37))) (l37:K.lookup f37=some ⟨oc37,od37,.func (PySem.W.fnOf "_law_raw" "_law_raw" (aP gw) (aN gw) (av gw) .none kV37 dc37 pm37 an37 cd37 ct37),sl37⟩) (c37:PySem.W.codeIn K cd37 "_law_raw" = true) (k37:PySem.W.keepIn K (.ref f37)=true)
    {f38:Addr} {od38 an38:Option Addr} {sl38:Array (Option Value)} {oc38 kV38 dc38 pm38 cd38 ct38:Value}
    (a38:PySem.W.nsIn K mainGlobals "_law_side" = some (some (.ref f38))) (l38:K.lookup f38=some ⟨oc38,od38,.func (PySem.W.fnOf "_law_side" "_law_side" (aP fb) (aN fb) (av fb) .none kV38 dc38 pm38 an38 cd38 ct38),sl38⟩) (c38:PySem.W.codeIn K cd38 "_law_side" = true) (k38:PySem.W.keepIn K (.ref f38)=true)
    {f39:Addr} {od39 an39:Option Addr} {sl39:Array (Option Value)} {oc39 kV39 dc39 pm39 cd39 ct39:Value}
    (a39:PySem.W.nsIn K mainGlobals "_law_list" = some (some (.ref f39))) (l39:K.lookup f39=some ⟨oc39,od39,.func (PySem.W.fnOf "_law_list" "_law_list" (aP fe) (aN fe) (av fe) .none kV39 dc39 pm39 an39 cd39 ct39),sl39⟩) (c39:PySem.W.codeIn K cd39 "_law_list" = true) (k39:PySem.W.keepIn K (.ref f39)=true)
    {f40:Addr} {od40 an40:Option Addr} {sl40:Array (Option Value)} {oc40 kV40 dc40 pm40 cd40 ct40:Value}
    (a40:PySem.W.nsIn K mainGlobals "_law_strokes_by" = some (some (.ref f40))) (l40:K.lookup f40=some ⟨oc40,od40,.func (PySem.W.fnOf "_law_strokes_by" "_law_strokes_by" (aP ck) (aN ck) (av ck) .none kV40 dc40 pm40 an40 cd40 ct40),sl40⟩) (c40:PySem.W.codeIn K cd40 "_law_strokes_by" = true) (k40:PySem.W.keepIn K (.ref f40)=true)
    {f41:Addr} {od41 an41:Option Addr} {sl41:Array (Option Value)} {oc41 kV41 dc41 pm41 cd41 ct41:Value}
    (a41:PySem.W.nsIn K mainGlobals "_law_points" = some (some (.ref f41))) (l41:K.lookup f41=some ⟨oc41,od41,.func (PySem.W.fnOf "_law_points" "_law_points" (aP dy) (aN dy) (av dy) .none kV41 dc41 pm41 an41 cd41 ct41),sl41⟩) (c41:PySem.W.codeIn K cd41 "_law_points" = true) (k41:PySem.W.keepIn K (.ref f41)=true)
    {f42:Addr} {od42 an42:Option Addr} {sl42:Array (Option Value)} {oc42 kV42 dc42 pm42 cd42 ct42:Value}
    (a42:PySem.W.nsIn K mainGlobals "law" = some (some (.ref f42))) (l42:K.lookup f42=some ⟨oc42,od42,.func (PySem.W.fnOf "law" "law" (aP gY) (aN gY) (av gY) .none kV42 dc42 pm42 an42 cd42 ct42),sl42⟩) (c42:PySem.W.codeIn K cd42 "law" = true) (k42:PySem.W.keepIn K (.ref f42)=true)
    (z0:PySem.W.nsIn K mainGlobals "abs" = some none)
    (z1:PySem.W.nsIn K mainGlobals "dict" = some none)
    (z2:PySem.W.nsIn K mainGlobals "enumerate" = some none)
    (z3:PySem.W.nsIn K mainGlobals "int" = some none)
    (z4:PySem.W.nsIn K mainGlobals "isinstance" = some none)
    (z5:PySem.W.nsIn K mainGlobals "len" = some none)
    (z6:PySem.W.nsIn K mainGlobals "list" = some none)
    (z7:PySem.W.nsIn K mainGlobals "max" = some none)
    (z8:PySem.W.nsIn K mainGlobals "min" = some none)
    (z9:PySem.W.nsIn K mainGlobals "range" = some none)
    (z10:PySem.W.nsIn K mainGlobals "reversed" = some none)
    (z11:PySem.W.nsIn K mainGlobals "sorted" = some none)
    (z12:PySem.W.nsIn K mainGlobals "tuple" = some none)
    (z13:PySem.W.nsIn K mainGlobals "zip" = some none)
    {p17 q17:Addr} (r17:cd17=.ref q17) (wh17:PySem.W.codeHdIn K q17 p17=true) (wn17:K.lookup p17=none)
    : (∀p∈[p17],K.lookup p=none/\∃c,PySem.W.codeHdIn K c p=true)/\∃fd:FuncData,(∀(s:Shared) (v:Value),BindsTo s fd ⟨[v],[]⟩ [("_law_script",v)])/\∀base:Heap,K.In base->base.Ns mainGlobals mg->BM base mg->FnOk l.prog w K mg base CX0 10 fa fd ["_law_script"] (jv K p17):=by
  have e:=hfa.symm.trans (PySem.W.mg_of X G a42)
  cases e
  have F0:=bj (st:=dB) l0 c0 k0
  have b0:=F0.binds (ps:=["p","q"]) fun _ _ _ _ _ _ us hl=>match us,hl with | [_,_],_=>rfl
  have F1:=bj (st:=eW) l1 c1 k1
  have b1:=F1.binds (ps:=["one","other","goes_first"]) fun _ _ _ _ _ _ us hl=>match us,hl with | [_,_,_],_=>rfl
  have F2:=bj (st:=dY) l2 c2 k2
  have b2:=F2.binds (ps:=["things","goes_first"]) fun _ _ _ _ _ _ us hl=>match us,hl with | [_,_],_=>rfl
  have F3:=bj (st:=cL) l3 c3 k3
  have b3:=F3.binds (ps:=["one","other"]) fun _ _ _ _ _ _ us hl=>match us,hl with | [_,_],_=>rfl
  have F4:=bj (st:=dt) l4 c4 k4
  have b4:=F4.binds (ps:=["a","b","c"]) fun _ _ _ _ _ _ us hl=>match us,hl with | [_,_,_],_=>rfl
  have F5:=bj (st:=dC) l5 c5 k5
  have b5:=F5.binds (ps:=["points"]) fun _ _ _ _ _ _ us hl=>match us,hl with | [_],_=>rfl
  have F6:=bj (st:=dn) l6 c6 k6
  have b6:=F6.binds (ps:=["points"]) fun _ _ _ _ _ _ us hl=>match us,hl with | [_],_=>rfl
  have F7:=bj (st:=cj) l7 c7 k7
  have b7:=F7.binds (ps:=["p","q"]) fun _ _ _ _ _ _ us hl=>match us,hl with | [_,_],_=>rfl
  have F8:=bj (st:=cW) l8 c8 k8
  have b8:=F8.binds (ps:=["line","r"]) fun _ _ _ _ _ _ us hl=>match us,hl with | [_,_],_=>rfl
  have F9:=bj (st:=iB) l9 c9 k9
  have b9:=F9.binds (ps:=["p","q","r"]) fun _ _ _ _ _ _ us hl=>match us,hl with | [_,_,_],_=>rfl
  have F10:=bj (st:=dZ) l10 c10 k10
  have b10:=F10.binds (ps:=["p","a","b"]) fun _ _ _ _ _ _ us hl=>match us,hl with | [_,_,_],_=>rfl
  have F11:=bj (st:=bX) l11 c11 k11
  have b11:=F11.binds (ps:=["a","b"]) fun _ _ _ _ _ _ us hl=>match us,hl with | [_,_],_=>rfl
  have F12:=bj (st:=bT) l12 c12 k12
  have b12:=F12.binds (ps:=["a","b","c","d"]) fun _ _ _ _ _ _ us hl=>match us,hl with | [_,_,_,_],_=>rfl
  have F13:=bj (st:=cB) l13 c13 k13
  have b13:=F13.binds (ps:=["one","other"]) fun _ _ _ _ _ _ us hl=>match us,hl with | [_,_],_=>rfl
  have F14:=bj (st:=iC) l14 c14 k14
  have b14:=F14.binds (ps:=["a","b","c","d"]) fun _ _ _ _ _ _ us hl=>match us,hl with | [_,_,_,_],_=>rfl
  have F15:=bj (st:=dm) l15 c15 k15
  have b15:=F15.binds (ps:=["sides"]) fun _ _ _ _ _ _ us hl=>match us,hl with | [_],_=>rfl
  have F16:=bj (st:=ed) l16 c16 k16
  have b16:=F16.binds (ps:=["p"]) fun _ _ _ _ _ _ us hl=>match us,hl with | [_],_=>rfl
  have F17:=bj (st:=cK) l17 c17 k17
  have b17:=F17.binds (ps:=["strokes"]) fun _ _ _ _ _ _ us hl=>match us,hl with | [_],_=>rfl
  have F18:=bj (st:=du) l18 c18 k18
  have b18:=F18.binds (ps:=["strokes"]) fun _ _ _ _ _ _ us hl=>match us,hl with | [_],_=>rfl
  have F19:=bj (st:=dk) l19 c19 k19
  have b19:=F19.binds (ps:=["strokes"]) fun _ _ _ _ _ _ us hl=>match us,hl with | [_],_=>rfl
  have F20:=bj (st:=fh) l20 c20 k20
  have b20:=F20.binds (ps:=["p","q","points"]) fun _ _ _ _ _ _ us hl=>match us,hl with | [_,_,_],_=>rfl
  have F21:=bj (st:=ff) l21 c21 k21
  have b21:=F21.binds (ps:=["_law_script"]) fun _ _ _ _ _ _ us hl=>match us,hl with | [_],_=>rfl
  have F22:=bj (st:=fc) l22 c22 k22
  have b22:=F22.binds (ps:=["_law_hand_here"]) fun _ _ _ _ _ _ us hl=>match us,hl with | [_],_=>rfl
  have F23:=bj (st:=eY) l23 c23 k23
  have b23:=F23.binds (ps:=["_law_hand_here"]) fun _ _ _ _ _ _ us hl=>match us,hl with | [_],_=>rfl
  have F24:=bj (st:=fg) l24 c24 k24
  have b24:=F24.binds (ps:=["_law_hand_here","_law_many"]) fun _ _ _ _ _ _ us hl=>match us,hl with | [_,_],_=>rfl
  have F25:=bj (st:=cX) l25 c25 k25
  have b25:=F25.binds (ps:=["_law_one","_law_other"]) fun _ _ _ _ _ _ us hl=>match us,hl with | [_,_],_=>rfl
  have F26:=bj (st:=d6) l26 c26 k26
  have b26:=F26.binds (ps:=["_law_a","_law_b","_law_c"]) fun _ _ _ _ _ _ us hl=>match us,hl with | [_,_,_],_=>rfl
  have F27:=bj (st:=dz) l27 c27 k27
  have b27:=F27.binds (ps:=["_law_p","_law_q"]) fun _ _ _ _ _ _ us hl=>match us,hl with | [_,_],_=>rfl
  have F28:=bj (st:=d9) l28 c28 k28
  have b28:=F28.binds (ps:=["_law_p","_law_q"]) fun _ _ _ _ _ _ us hl=>match us,hl with | [_,_],_=>rfl
  have F29:=bj (st:=eX) l29 c29 k29
  have b29:=F29.binds (ps:=["_law_p","_law_q","_law_r"]) fun _ _ _ _ _ _ us hl=>match us,hl with | [_,_,_],_=>rfl
  have F30:=bj (st:=iD) l30 c30 k30
  have b30:=F30.binds (ps:=["_law_p","_law_a","_law_b"]) fun _ _ _ _ _ _ us hl=>match us,hl with | [_,_,_],_=>rfl
  have F31:=bj (st:=eZ) l31 c31 k31
  have b31:=F31.binds (ps:=["_law_hand_here","_law_seen","_law_wide"]) fun _ _ _ _ _ _ us hl=>match us,hl with | [_,_,_],_=>rfl
  have F32:=bj (st:=d7) l32 c32 k32
  have b32:=F32.binds (ps:=["_law_hand_here"]) fun _ _ _ _ _ _ us hl=>match us,hl with | [_],_=>rfl
  have F33:=bj (st:=dA) l33 c33 k33
  have b33:=F33.binds (ps:=["_law_frame_here","_law_p"]) fun _ _ _ _ _ _ us hl=>match us,hl with | [_,_],_=>rfl
  have F34:=bj (st:=d8) l34 c34 k34
  have b34:=F34.binds (ps:=["_law_a","_law_b","_law_c","_law_d"]) fun _ _ _ _ _ _ us hl=>match us,hl with | [_,_,_,_],_=>rfl
  have F35:=bj (st:=dw) l35 c35 k35
  have b35:=F35.binds (ps:=["_law_points_here"]) fun _ _ _ _ _ _ us hl=>match us,hl with | [_],_=>rfl
  have F36:=bj (st:=d5) l36 c36 k36
  have b36:=F36.binds (ps:=["_law_strokes"]) fun _ _ _ _ _ _ us hl=>match us,hl with | [_],_=>rfl
  have F37:=bj (st:=gw) l37 c37 k37
  have b37:=F37.binds (ps:=["_law_hand_here"]) fun _ _ _ _ _ _ us hl=>match us,hl with | [_],_=>rfl
  have F38:=bj (st:=fb) l38 c38 k38
  have b38:=F38.binds (ps:=["_law_hand_here","_law_seen","_law_wide"]) fun _ _ _ _ _ _ us hl=>match us,hl with | [_,_,_],_=>rfl
  have F39:=bj (st:=fe) l39 c39 k39
  have b39:=F39.binds (ps:=["_law_found","_law_due"]) fun _ _ _ _ _ _ us hl=>match us,hl with | [_,_],_=>rfl
  have F40:=bj (st:=ck) l40 c40 k40
  have b40:=F40.binds (ps:=["_law_hand_here","_law_seen","_law_frame_here"]) fun _ _ _ _ _ _ us hl=>match us,hl with | [_,_,_],_=>rfl
  have F41:=bj (st:=dy) l41 c41 k41
  have b41:=F41.binds (ps:=["_law_hand_here","_law_p","_law_q","_law_spots_here"]) fun _ _ _ _ _ _ us hl=>match us,hl with | [_,_,_,_],_=>rfl
  have F42:=bj (st:=gY) l42 c42 k42
  have b42:=F42.binds (ps:=["_law_script"]) fun _ _ _ _ _ _ us hl=>match us,hl with | [_],_=>rfl
  have T:Txt K mg { f_is_ahead:=f0,d_is_ahead:=_,f_merged:=f1,d_merged:=_,f_ordered:=f2,d_ordered:=_,f_divisor_of:=f3,d_divisor_of:=_,f_point_by:=f4,d_point_by:=_,f_in_order:=f5,d_in_order:=_,f_ranks_of:=f6,d_ranks_of:=_,f_line_through:=f7,d_line_through:=_,f_turn_from:=f8,d_turn_from:=_,f_turn:=f9,d_turn:=_,f_lies_on:=f10,d_lies_on:=_,f_ends_in_order:=f11,d_ends_in_order:=_,f_shared_on_line:=f12,d_shared_on_line:=_,f_crossing_of:=f13,d_crossing_of:=_,f_meet:=f14,d_meet:=_,f_spans_of:=f15,d_spans_of:=_,f_flipped:=f16,d_flipped:=_,f_near_pairs:=f17,d_near_pairs:=_,f_marks_of:=f18,d_marks_of:=_,f_spots_of:=f19,d_spots_of:=_,f_cut_at:=f20,d_cut_at:=_,f_l_hand:=f21,d_l_hand:=_,f_l_next:=f22,d_l_next:=_,f_l_take:=f23,d_l_take:=_,f_l_draw:=f24,d_l_draw:=_,f_l_divisor:=f25,d_l_divisor:=_,f_l_point:=f26,d_l_point:=_,f_l_middle:=f27,d_l_middle:=_,f_l_ahead:=f28,d_l_ahead:=_,f_l_turn:=f29,d_l_turn:=_,f_l_on:=f30,d_l_on:=_,f_l_spot:=f31,d_l_spot:=_,f_l_frame:=f32,d_l_frame:=_,f_l_framed:=f33,d_l_framed:=_,f_l_cross:=f34,d_l_cross:=_,f_l_sorted:=f35,d_l_sorted:=_,f_l_spots:=f36,d_l_spots:=_,f_l_raw:=f37,d_l_raw:=_,f_l_side:=f38,d_l_side:=_,f_l_list:=f39,d_l_list:=_,f_l_strokes_by:=f40,d_l_strokes_by:=_,f_l_points:=f41,d_l_points:=_,f_law:=fa,d_law:=_,p_near_pairs:=p17,q_near_pairs:=q17 }:={ is_ahead:=⟨F0,b0,PySem.W.mg_of X G a0⟩,merged:=⟨F1,b1,PySem.W.mg_of X G a1⟩,ordered:=⟨F2,b2,PySem.W.mg_of X G a2⟩,divisor_of:=⟨F3,b3,PySem.W.mg_of X G a3⟩,point_by:=⟨F4,b4,PySem.W.mg_of X G a4⟩,in_order:=⟨F5,b5,PySem.W.mg_of X G a5⟩,ranks_of:=⟨F6,b6,PySem.W.mg_of X G a6⟩,line_through:=⟨F7,b7,PySem.W.mg_of X G a7⟩,turn_from:=⟨F8,b8,PySem.W.mg_of X G a8⟩,turn:=⟨F9,b9,PySem.W.mg_of X G a9⟩,lies_on:=⟨F10,b10,PySem.W.mg_of X G a10⟩,ends_in_order:=⟨F11,b11,PySem.W.mg_of X G a11⟩,shared_on_line:=⟨F12,b12,PySem.W.mg_of X G a12⟩,crossing_of:=⟨F13,b13,PySem.W.mg_of X G a13⟩,meet:=⟨F14,b14,PySem.W.mg_of X G a14⟩,spans_of:=⟨F15,b15,PySem.W.mg_of X G a15⟩,flipped:=⟨F16,b16,PySem.W.mg_of X G a16⟩,near_pairs:=⟨F17,b17,PySem.W.mg_of X G a17⟩,marks_of:=⟨F18,b18,PySem.W.mg_of X G a18⟩,spots_of:=⟨F19,b19,PySem.W.mg_of X G a19⟩,cut_at:=⟨F20,b20,PySem.W.mg_of X G a20⟩,l_hand:=⟨F21,b21,PySem.W.mg_of X G a21⟩,l_next:=⟨F22,b22,PySem.W.mg_of X G a22⟩,l_take:=⟨F23,b23,PySem.W.mg_of X G a23⟩,l_draw:=⟨F24,b24,PySem.W.mg_of X G a24⟩,l_divisor:=⟨F25,b25,PySem.W.mg_of X G a25⟩,l_point:=⟨F26,b26,PySem.W.mg_of X G a26⟩,l_middle:=⟨F27,b27,PySem.W.mg_of X G a27⟩,l_ahead:=⟨F28,b28,PySem.W.mg_of X G a28⟩,l_turn:=⟨F29,b29,PySem.W.mg_of X G a29⟩,l_on:=⟨F30,b30,PySem.W.mg_of X G a30⟩,l_spot:=⟨F31,b31,PySem.W.mg_of X G a31⟩,l_frame:=⟨F32,b32,PySem.W.mg_of X G a32⟩,l_framed:=⟨F33,b33,PySem.W.mg_of X G a33⟩,l_cross:=⟨F34,b34,PySem.W.mg_of X G a34⟩,l_sorted:=⟨F35,b35,PySem.W.mg_of X G a35⟩,l_spots:=⟨F36,b36,PySem.W.mg_of X G a36⟩,l_raw:=⟨F37,b37,PySem.W.mg_of X G a37⟩,l_side:=⟨F38,b38,PySem.W.mg_of X G a38⟩,l_list:=⟨F39,b39,PySem.W.mg_of X G a39⟩,l_strokes_by:=⟨F40,b40,PySem.W.mg_of X G a40⟩,l_points:=⟨F41,b41,PySem.W.mg_of X G a41⟩,law:=⟨F42,b42,PySem.W.mg_of X G a42⟩,b_abs:=PySem.W.mg_none_of X G z0,b_dict:=PySem.W.mg_none_of X G z1,b_enumerate:=PySem.W.mg_none_of X G z2,b_int:=PySem.W.mg_none_of X G z3,b_isinstance:=PySem.W.mg_none_of X G z4,b_len:=PySem.W.mg_none_of X G z5,b_list:=PySem.W.mg_none_of X G z6,b_max:=PySem.W.mg_none_of X G z7,b_min:=PySem.W.mg_none_of X G z8,b_range:=PySem.W.mg_none_of X G z9,b_reversed:=PySem.W.mg_none_of X G z10,b_sorted:=PySem.W.mg_none_of X G z11,b_tuple:=PySem.W.mg_none_of X G z12,b_zip:=PySem.W.mg_none_of X G z13,lc_near_pairs:=r17,lh_near_pairs:=wh17 }
  exact⟨List.forall_mem_cons.mpr ⟨⟨wn17,_,wh17⟩,fun _ h=>(nomatch h)⟩,PySem.W.fnOf "law" "law" (aP gY) (aN gY) (av gY) .none kV42 dc42 pm42 an42 cd42 ct42,fun s v=>.of_eq rfl,fun base _ _ hB=>wJ hB T⟩
theorem walk {l:PySem.W.OpenLaw}{q:Program}{loose:List Str}{XP:(Str->Option Value)->Heap->Prop}{YP:World->Heap->Prop}{d:DefRec}{K:Params->PySem.W.Frag}{x0:Addr}(hn:l.most=some 63)(hdf:d.params.defaults=[])
    (hY:∀(w:World) (h:Heap),YP w h->(K w.params).In h) (hT:∀(w:World) (h:Heap),YP w h->∀p∈[x0],h.get? p=some (PySem.W.tabObj #[]))
    (F:∀(w:World) (mg:Str->Option Value) (fa:Addr) (h:Heap),(K w.params).In h->h.Ns mainGlobals mg->mg d.name=some (.ref fa)->
      (∀p∈[x0],(K w.params).lookup p=none/\∃c,PySem.W.codeHdIn (K w.params) c p=true)/\∃fd:FuncData,(∀(s:Shared) (u:Value),BindsTo s fd ⟨[u],[]⟩ [("_law_script",u)])/\∀base:Heap,(K w.params).In base->base.Ns mainGlobals mg->BM base mg->FnOk l.prog w (K w.params) mg base CX0 10 fa fd ["_law_script"] (jv (K w.params) x0)) :
    PySem.W.WalkO q loose XP YP l.row.toRowW d [] (fun f vs=>PySem.call f vs):=
  L2.walk_ofT (n:=63) (k:=10) (x:="_law_script") (sp:=fun w=>jv (K w.params) x0) (ts:=[x0]) hn (by decide) hdf ⟨rfl,by decide,by decide⟩ hY hT F (fun _ _ a ns hl hS hT=>sB hl hS hT)
end My
def PySem.W.Fast.tw10162917195039540142 : Nat := 0
def PySem.W.Fast.tw16861096971671048255 : Nat := 0
def PySem.W.Fast.tw13719285589304525395 : Nat := 0
def PySem.W.Fast.tw548356910346903913 : Nat := 0
def PySem.W.Fast.tw14965348716693191282 : Nat := 0
def PySem.W.Fast.tw8636074568344631515 : Nat := 0
def PySem.W.Fast.tw16588858357894450787 : Nat := 0
def PySem.W.Fast.tw6203781691930842001 : Nat := 0
def PySem.W.Fast.tw6613967225892208715 : Nat := 0
def PySem.W.Fast.tw866554213720616083 : Nat := 0
def PySem.W.Fast.tw16633126475026499859 : Nat := 0
def PySem.W.Fast.tw13643515095803751483 : Nat := 0
def PySem.W.Fast.tw9533169203725538099 : Nat := 0
def PySem.W.Fast.tw17097337815378983674 : Nat := 0
def PySem.W.Fast.tw2202568965803725223 : Nat := 0
def PySem.W.Fast.tw11477887055647910805 : Nat := 0
def PySem.W.Fast.tw18154790907326249982 : Nat := 0
open PySem PySem.W PyProof.Rows
set_option maxRecDepth 100000 in
set_option maxHeartbeats 0 in
theorem PySem.Challenge.cw_plymap_k23_spots_and_cuts_holds : PySem.Challenge.rw_plymap_k23_spots_and_cuts.Holds := by
  w_on;o_law;k_head;(case hw=>w_witness2)
  k_fill
  refine My.walk (l:=PySem.Challenge.rw_plymap_k23_spots_and_cuts) rfl rfl (fun w h Y=>PySem.W.km_in_of Y) (fun w h Y=>PySem.W.km_tabs_of Y) ?F
  case F=>
    intro w mg fa h KX G hmg
    refine' My.all_mk KX G hmg ?a0 ?l0 ?c0 ?k0 ?a1 ?l1 ?c1 ?k1 ?a2 ?l2 ?c2 ?k2 ?a3 ?l3 ?c3 ?k3 ?a4 ?l4 ?c4 ?k4 ?a5 ?l5 ?c5 ?k5 ?a6 ?l6 ?c6 ?k6 ?a7 ?l7 ?c7 ?k7 ?a8 ?l8 ?c8 ?k8 ?a9 ?l9 ?c9 ?k9 ?a10 ?l10 ?c10 ?k10 ?a11 ?l11 ?c11 ?k11 ?a12 ?l12 ?c12 ?k12 ?a13 ?l13 ?c13 ?k13 ?a14 ?l14 ?c14 ?k14 ?a15 ?l15 ?c15 ?k15 ?a16 ?l16 ?c16 ?k16 ?a17 ?l17 ?c17 ?k17 ?a18 ?l18 ?c18 ?k18 ?a19 ?l19 ?c19 ?k19 ?a20 ?l20 ?c20 ?k20 ?a21 ?l21 ?c21 ?k21 ?a22 ?l22 ?c22 ?k22 ?a23 ?l23 ?c23 ?k23 ?a24 ?l24 ?c24 ?k24 ?a25 ?l25 ?c25 ?k25 ?a26 ?l26 ?c26 ?k26 ?a27 ?l27 ?c27 ?k27 ?a28 ?l28 ?c28 ?k28 ?a29 ?l29 ?c29 ?k29 ?a30 ?l30 ?c30 ?k30 ?a31 ?l31 ?c31 ?k31 ?a32 ?l32 ?c32 ?k32 ?a33 ?l33 ?c33 ?k33 ?a34 ?l34 ?c34 ?k34 ?a35 ?l35 ?c35 ?k35 ?a36 ?l36 ?c36 ?k36 ?a37 ?l37 ?c37 ?k37 ?a38 ?l38 ?c38 ?k38 ?a39 ?l39 ?c39 ?k39 ?a40 ?l40 ?c40 ?k40 ?a41 ?l41 ?c41 ?k41 ?a42 ?l42 ?c42 ?k42 ?z0 ?z1 ?z2 ?z3 ?z4 ?z5 ?z6 ?z7 ?z8 ?z9 ?z10 ?z11 ?z12 ?z13 ?r17 ?wh17 ?wn17
    (case a0=>k_is)
    (case l0=>k_is)
    (case c0=>k_is)
    (case k0=>k_is)
    (case a1=>k_is)
    (case l1=>k_is)
    (case c1=>k_is)
    (case k1=>k_is)
    (case a2=>k_is)
    (case l2=>k_is)
    (case c2=>k_is)
    (case k2=>k_is)
    (case a3=>k_is)
    (case l3=>k_is)
    (case c3=>k_is)
    (case k3=>k_is)
    (case a4=>k_is)
    (case l4=>k_is)
    (case c4=>k_is)
    (case k4=>k_is)
    (case a5=>k_is)
    (case l5=>k_is)
    (case c5=>k_is)
    (case k5=>k_is)
    (case a6=>k_is)
    (case l6=>k_is)
    (case c6=>k_is)
    (case k6=>k_is)
    (case a7=>k_is)
    (case l7=>k_is)
    (case c7=>k_is)
    (case k7=>k_is)
    (case a8=>k_is)
    (case l8=>k_is)
    (case c8=>k_is)
    (case k8=>k_is)
    (case a9=>k_is)
    (case l9=>k_is)
    (case c9=>k_is)
    (case k9=>k_is)
    (case a10=>k_is)
    (case l10=>k_is)
    (case c10=>k_is)
    (case k10=>k_is)
    (case a11=>k_is)
    (case l11=>k_is)
    (case c11=>k_is)
    (case k11=>k_is)
    (case a12=>k_is)
    (case l12=>k_is)
    (case c12=>k_is)
    (case k12=>k_is)
    (case a13=>k_is)
    (case l13=>k_is)
    (case c13=>k_is)
    (case k13=>k_is)
    (case a14=>k_is)
    (case l14=>k_is)
    (case c14=>k_is)
    (case k14=>k_is)
    (case a15=>k_is)
    (case l15=>k_is)
    (case c15=>k_is)
    (case k15=>k_is)
    (case a16=>k_is)
    (case l16=>k_is)
    (case c16=>k_is)
    (case k16=>k_is)
    (case a17=>k_is)
    (case l17=>k_is)
    (case c17=>k_is)
    (case k17=>k_is)
    (case a18=>k_is)
    (case l18=>k_is)
    (case c18=>k_is)
    (case k18=>k_is)
    (case a19=>k_is)
    (case l19=>k_is)
    (case c19=>k_is)
    (case k19=>k_is)
    (case a20=>k_is)
    (case l20=>k_is)
    (case c20=>k_is)
    (case k20=>k_is)
    (case a21=>k_is)
    (case l21=>k_is)
    (case c21=>k_is)
    (case k21=>k_is)
    (case a22=>k_is)
    (case l22=>k_is)
    (case c22=>k_is)
    (case k22=>k_is)
    (case a23=>k_is)
    (case l23=>k_is)
    (case c23=>k_is)
    (case k23=>k_is)
    (case a24=>k_is)
    (case l24=>k_is)
    (case c24=>k_is)
    (case k24=>k_is)
    (case a25=>k_is)
    (case l25=>k_is)
    (case c25=>k_is)
    (case k25=>k_is)
    (case a26=>k_is)
    (case l26=>k_is)
    (case c26=>k_is)
    (case k26=>k_is)
    (case a27=>k_is)
    (case l27=>k_is)
    (case c27=>k_is)
    (case k27=>k_is)
    (case a28=>k_is)
    (case l28=>k_is)
    (case c28=>k_is)
    (case k28=>k_is)
    (case a29=>k_is)
    (case l29=>k_is)
    (case c29=>k_is)
    (case k29=>k_is)
    (case a30=>k_is)
    (case l30=>k_is)
    (case c30=>k_is)
    (case k30=>k_is)
    (case a31=>k_is)
    (case l31=>k_is)
    (case c31=>k_is)
    (case k31=>k_is)
    (case a32=>k_is)
    (case l32=>k_is)
    (case c32=>k_is)
    (case k32=>k_is)
    (case a33=>k_is)
    (case l33=>k_is)
    (case c33=>k_is)
    (case k33=>k_is)
    (case a34=>k_is)
    (case l34=>k_is)
    (case c34=>k_is)
    (case k34=>k_is)
    (case a35=>k_is)
    (case l35=>k_is)
    (case c35=>k_is)
    (case k35=>k_is)
    (case a36=>k_is)
    (case l36=>k_is)
    (case c36=>k_is)
    (case k36=>k_is)
    (case a37=>k_is)
    (case l37=>k_is)
    (case c37=>k_is)
    (case k37=>k_is)
    (case a38=>k_is)
    (case l38=>k_is)
    (case c38=>k_is)
    (case k38=>k_is)
    (case a39=>k_is)
    (case l39=>k_is)
    (case c39=>k_is)
    (case k39=>k_is)
    (case a40=>k_is)
    (case l40=>k_is)
    (case c40=>k_is)
    (case k40=>k_is)
    (case a41=>k_is)
    (case l41=>k_is)
    (case c41=>k_is)
    (case k41=>k_is)
    (case a42=>k_is)
    (case l42=>k_is)
    (case c42=>k_is)
    (case k42=>k_is)
    (case z0=>k_is)
    (case z1=>k_is)
    (case z2=>k_is)
    (case z3=>k_is)
    (case z4=>k_is)
    (case z5=>k_is)
    (case z6=>k_is)
    (case z7=>k_is)
    (case z8=>k_is)
    (case z9=>k_is)
    (case z10=>k_is)
    (case z11=>k_is)
    (case z12=>k_is)
    (case z13=>k_is)
    (case r17=>rfl)
    (case wh17=>kernel_rfl)
    (case wn17=>kernel_rfl)
