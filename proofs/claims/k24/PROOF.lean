import PyProof.Rows.All
import Wide.All
import OpenK.AllK
import PySem.Challenge.RW_plymap_k24_bits_and_passes
set_option Elab.async false
set_option hygiene true
set_option linter.all false
set_option maxHeartbeats 4000000
set_option maxRecDepth 100000
set_option tactic.hygienic false
set_option compiler.extract_closed false
set_option compiler.reuse false
theorem zq1 (_:True:=by rfl):True:=True.intro
theorem zq2 (_:True:=by decide):True:=True.intro
theorem zq3 (_:True:=by intro _;rfl):True:=True.intro
def zaR:Lean.Syntax:=zq1._auto_1
def zaD:Lean.Syntax:=zq2._auto_1
def zaI:Lean.Syntax:=zq3._auto_1
set_option hygiene false
def zzQ:Array (Lean.MacroM Lean.Term):=#[`(by rfl),
`(by decide),
`(by decide +kernel),
`(by intro _;rfl),
`(nomatch h),
`(by first | exact .inl rfl | exact .inr rfl),
`(by lia),
`(if Α then Β else Γ),
`(by simp),
`(by simp_all),
`(show Α from Β)]
def zzF:Array String:=("
#0
#1
#2

#3







#4






@aa _ _ _ _ _ _ Α Β Γ
#5

@bi _ _ _ _ _ _ _ _ _ _ _ _ _ _ _ Α Β Γ Δ Ε Ζ Η Θ Ι
@au _ _ _ _ _ _ _ _ Α Β Γ Δ
@ax _ _ _ _ _ _ _ _ _ Α Β Γ
@aq _ _ _ _ _ _ Α Β
#6
fun y_ y_=>Α
List.mem_of_getElem? Α
@ay _ _ _ _ _ Α _ _ Β Γ Δ Ε Ζ Η
some Α
List.getElem?_eq_some_iff.mp Α
wpAny_bind Α
fun y_ y_ y_ y_=>Α
@ca _ _ _ _ _ _ _ _ _ Α Β Γ Δ
#7
fun cdv A outer s H E hr=>Α
@aw _ _ _ _ Α
fun y_ y_ y_ y_ y_ y_=>Α
Heap.get?_push_of_some _ Α
@cz _ _ _ _ _ _ _ _ _ Α Β Γ
#8
@bq _ _ _ _ _ Α
Nat.le_refl _

List Α
@et _ _ _ _ _ _ _ _ _ _ Α Β Γ Δ Ε Ζ Η Θ Ι
#9
List.getElem?_eq_getElem Α
@bh _ _ _ Α _ Β Γ Δ Ε
autoParam Α Β
fun y_=>Α
Or.inl Α
@bt _ _ _ _ _ _ Α Β Γ
⟨Α,Β⟩
fun as M q h=>Α
.ref Α
Heap.get?_push_size _ Α
List.mem_cons_of_mem _ Α
some _
List.getElem?_of_mem Α
wpAny_pure Α
@cw _ _ _ _ _ _ Α
List.replicate Α Β
#10
@e9 _ _ _ _ _ _ _ _ _ Α Β Γ Δ Ε Ζ
@jv _ _ _ _ _ _ _ _ _ _ _ _ Α Β Γ Δ Ε Ζ Η Θ Ι Κ
@dk _ _ _ _ _ _ _ _ _ Α
⟨Α,Β,Γ⟩
X.env.scope.names.lookup Α
List.mem_append_right _ Α
wpS_bind Α
List.mem_map.mp Α

Heap.lt_size Α
Option Α
@ji _ _ _ _ _ _ _ _ _ _ Α Β Γ Δ Ε Ζ Η Θ Ι
fun e=>Α
.int Α
List.mem_filter.mp Α
fun z=>Α
s.heap.get? Α
And.intro Α Β
Option.some.inj Α
Ne.symm Α
stx (s':=Α) Β Γ
Nat.ne_of_lt Α
X.env.cells.lookup Α
@dl _ _ _ _ _ Α
.lst Α

@gu _ _ _ _ _ _ _ Α Β Γ Δ
@dj _ _ _ _ _ Α
fun p hp=>Α
Nat.zero_le _
fun x=>Α
@fw _ _ _ _ _ Α _ Β Γ Δ Ε
@df _ _ _ _ _ Α Β
Sm.new Α
Keep.refl Α
f _ _ _ _ Α Β Γ Δ
Nat.lt_of_lt_of_le Α Β
FnScope Α Β Γ
Nat.le_trans Α Β
wpS_pure Α
fun y_ y_ y_=>Α
closureFor_none Α
starEach Α Β
h'.get? Α
PySem.W.mg_none_of Α Β Γ
af (k:=Α) Β Γ Δ Ε Ζ
⟨Α,Β,Γ,Δ⟩
Sm.new Α _ _ Β
⟨Α,Β,Γ,Δ,Ε⟩
List.range Α
model Α Β
pendingOf Α
fun b o e=>Α
fun p=>Α
@fh _ _ _ _ Α Β
Int.gcd Α Β
Int.eq_of_mul_eq_mul_left Α Β
scope.names.lookup Α
fun b o hb e=>Α
Paired Α Β Γ
@kh _ _ _ _ _ _ _ Α Β Γ Δ Ε
.inl Α

.builtin Α
fun h=>Α
fun N1 hN1=>Α
fun σ H Q=>Α
@ug _ _ _ _ _ _ _ _ _ Α Β Γ
.inr Α
fun i j=>Α
wpAny_pure Α
absurd Α Β
bv _
fun i s' M'=>Α
ns.map Α

starEach Α Β
fun x M1 v H1 h1 i1 m1 k1=>Α
@qe _ _ _ _ Α
Int.mul_nonpos_of_nonneg_of_nonpos (a:=Α) (b:=Β) Γ Δ
.Name Α Β

Classical.byContradiction Α
@qg _ _ _ _ _ _ _ _ _ Α Β Γ Δ
List.mem_append_left _ Α
@oj _ _ _ _ _ _ _ _ Α Β Γ Δ
Caught.cons Α Β
decide Α
fun y_ y_ z=>Α
fun y_ y_ x=>Α
I.hok.fresh Α
xs.map Α
Int.mul_pos Α Β
h.get? Α
Keep.new Α

PySem.W.nsIn Α Β Γ
Heap.get?_update_other _ _ Α
PyProof.Rows.callWith_type1 Α Β Γ
fun o e=>Α
Array Α
Sm.new (o:=Α) Β
fun b hb=>Α
List.map_congr_left Α
⟨Α,Β,Γ,Δ,Ε,Ζ,Η⟩
fun z hz=>Α
List.nodup_append.mpr Α

fun x hx=>Α
bootBuiltins Α
@u9 _ _ _ _ _ _ _ Α Β
wpAny_newObj_type Α Β
ak (M:=Α) (a:=Β) (o:=Γ)
@gt _ _ Α
@j5 _ _ _ _ _ _ _ Α Β Γ
fun e2=>Α
fun y_ y_ y_ y_ y_ y_ y_ q=>Α
.type Α
I.tok _
wpAny_call_entry Α Β Γ Δ Ε
s1.trans Α
fun x M1=>Α
FP.fn Α Β Γ Δ
k1.trans Α

wpAny_holding Α
sp.filter Α
fun e he=>Α
@uu _ _ _ Α _ _ _ _ _ _ _ _ _ Β Γ Δ Ε Ζ
sgn_eq0.mp Α
fun y_ y_ y_ y_ y_ st h=>Α
Sm.refl _

ks.map Α
compareOp Α
Heap.SameBut Α Β Γ
@oe _ _ _ _ _ Α
fun a f=>Α
@pf _ _ _ _ _ Α
wpS_pure Α
hN _ _ Α
wpAny_setField_rec Α Β Γ
fun x y H Q=>Α
wpAny_mono Α Β Γ
IntMulOk.of_right Α
fun s M q=>Α
HT.sIx Α Β Γ
hN1 _ _ Α
fun b u e=>Α
Sm.new (o:=Α) Β _ _ Γ
List.mem_singleton.mp Α
List.pairwise_cons.mp Α
Int.mul_eq_zero.mp Α
List.nodup_cons.mp Α
wpAny_Call_Name_kw Α
List.mem_filterMap.mp Α
I1.hok.fresh Α
Nat.le_of_lt Α
I.hok Α _ Β
Array.getElem?_eq_getElem Α
.lst Α
xs.drop Α
Nat.lt_of_le_of_lt Α Β

.Subscript Α Β Γ
⟨Α,Β,Γ,Δ,Ε,Ζ⟩
SmF.refl _ _
List.mem_range.mp Α
fun q hq=>Α
of_decide_eq_true Α
sc.names.lookup Α
xs.take Α









wpS_forRange (I:=Α) (Q:=Β) Γ Δ Ε
wpAny_seqItems Α Β Γ
SmB.of_new Α Β
fun y_ y_ y_ y_ y_ y_ y_ hc q=>Α
fun y_ y_ y_ y_ y_=>Α
fun xs H Q=>Α
binaryOp Α
List.mem_filter.mpr Α
wpAny_field Α Β (x:=Γ) Δ Ε
fun N hN=>Α
wpAny_callSpecial?_slot  Α Β Γ
fun x H1=>Α
@yh _ _ _ _ _ _ _ _ Α Β
wpAny _ _ Α _ _ Β
fun pins s σ H Q I q=>Α
List.getElem?_zip_eq_some.mp Α

.ListComp Α Β Γ Δ
Builtin.Dict_items.ownsTuple Α
wpAny_typeNameOfWhole_keyiter Α Β
assignInOrder_cons Α
fun b o e n hb hx=>Α
fun q=>Α
SmB.refl _ _
s.heap.IsTuple Α Β
assignEach Α Β
fun j s' M'=>Α
@jh _ _ _ _ Α
s'.heap.get? Α
fun k=>Α
Nat.ne_of_gt Α
fun D σ H=>Α
X.env.kindOf Α
decide_eq_false Α
.inr Α
SmB.of_new Α Β _ _ Γ
A.ref Α
wpAny_attempt Α
fun s' M' σ' H' h' y_ y_=>Α
Int.mul_ne_zero Α Β
fun j=>Α
wpAny_passesOwn Α Β
Nat.lt_irrefl _

A.int Α
I.ok.hd Α
I.tuple Α
List.getElem?_inj Α Β
b2.extBut _ _ Α Β
hs.lst Α
List.mem_of_find?_eq_some Α
Builtin.SmallTypes.nextOf Α
fun o h=>Α

s2.trans Α
List.mem_map.mpr Α
k2.trans Α
fun M'=>Α
List.mem_map_of_mem Α
PySem.mem_of_lookup Α
fun d s M=>Α
SqT.of Α
Value.type Α
wpS_modify Α
.Tuple Α Β Γ
List.ext_getElem Α Β
Int.natAbs_add_le _ _
@yg _ _ _ _ _ _ Α
@l7 _ _ Α
List.pairwise_iff_getElem.mp Α Β Γ Δ Ε Ζ
ps.map Α
List.mem_append.mp Α
@ae4 _ _ _ _ _ Α _ _ _ _ Β Γ Δ Ε Ζ Η
.inl Α
Nat.mul_le_mul_right _ Α
Int.dvd_trans Α Β
backTo Α Β
fun b o y_ y_ hc e y_=>Α

kvs.map Α
List.ext_getElem? Α
wpAny_bind  Α
fun b ob q=>Α
some Α
Room.in1 Α
ks.toArray.zip Α
List.reverse_perm _
xs.toList.take Α
sliceBounds Α Β Γ Δ
@ae5 _ _ _ _ _ Α Β Γ Δ Ε
fun n M1 n0 n1 g1 s1=>Α
fun a ha=>Α
es.map Α
fun y_ z=>Α
xs.map Α
fun e o n g=>Α
bs.map Α
fun y_ y_ q=>Α
fun b=>Α
List.getElem?_inj Α Β
Classical.choose Α
.dct Α Β Γ

fun pins s σ H x v Q I rx q=>Α
Nat.mul_le_mul Α Β
CallR Α Β Γ

fun v u s2 x y H2 I2 rx ry q=>Α
L3.rSub Α Β Γ Δ
SqL.of Α
Or.inr Α
wpAny_typeNameOfWhole_itemiter Α Β
wpAny_notOrdered_dict Α Β
Int.mul_le_mul_of_nonneg_right Α Β
Apart Α Β
.tup Α


RelV Α Β
Room.deeper Α _
fun pins s σ H v u Q I r q=>Α
wpAny_dictEntries Α Β Γ
.tup Α
foldedSetIterable Α Β Γ
Obj.mapSeq Α
wpAny_rule Α
fun vs H1=>Α
s1 _ _ Α
fun i ys s' M'=>Α
fun p hn=>Α
fun i=>Α

.Tuple Α Β Γ
I.list Α
HT.lexLt Α Β
Vals Α Β

PySem.W.codeHdIn Α Β Γ
l.map Α
pb_has (a:=Α) (b:=Β) Γ
a70 (a:=Α) (b:=Β) (c:=Γ) (d:=Δ) Ε Ζ
wpAny_ite_false Α Β
of_decide_eq_false Α
fun b o e n=>Α
fun b o e y_ y_ n=>Α
IsPair Α Β Γ Δ
.tuple Α
K.lookup Α
(decide Α)
hN2 _ _ Α
k _ _ _ Α
jd _ _
xs.toList.drop Α
wpAny_bindName Α
swappedStores Α Β Γ

Int.eq_of_mul_eq_mul_right Α Β
s2 _ _ Α
fun M' s=>Α
xs.zip Α
fun pins s σ H o i v ov iv u Q I r1 r2 r3 q=>Α
Keep Α Β

fun c st'=>Α
fun r hr=>Α
wpAny_dictEpoch Α Β Γ
fun a o e=>Α
rawInt Α
wpAny_truthy_bool Α
Int.mul_nonneg Α Β

attributeBase Α Β Γ Δ
PySem.W.keepIn Α Β
swapsWithSole Α Β Γ Δ
pure Α
fun d1 hd1=>Α
r.reverse.map Α
s3.trans Α
A.tup Α
fun i p hp=>Α

Keep.refl _
fun x y=>Α
.ext Α
List.cons.inj Α
failedOf Α
arrOf Α
fun x vs H Q=>Α
s.heap.push Α
fun i h=>Α
fun v σ H Q=>Α
os.map Α
ps.map Α
.Call Α Β Γ Δ
fun i h h' st k=>Α
fun n4 M4 a4 b4 g4 s4=>Α
fun n2 M2 a2 b2 g2 s2=>Α
List.of_mem_zip (a:=Α) (b:=Β) Γ
.BoolOp Α Β Γ
Bd.small Α Β
L2.Apart Α Β

List.perm_append_comm.append_left _
Heap.get?_update_self _ Α Β
wpAny _ _ Α _ _ Β
behindInMarks Α Β

@ae6 _ _ _ _ _ _ _ _ _ _ Α Β Γ
fun e1=>Α
fun j M2 j0 j1 g2 s2=>Α
fun y_ y_ y_ h=>Α
ps.filter Α
as.map Α

fun c M1=>Α
k _ _ _ _ Α

Classical.choose_spec Α
I2.hok.fresh Α
wpS_get Α
j7 (prog:=Α) (w:=Β) _ Γ
fun y_ y_ h=>Α
.Attribute Α Β Γ
s.heap.FunFrames Α Β
fun s' M3=>Α
wpAny_isOneOf_itemiter Α Β
wpAny_setField Α Β Γ Δ
Calls.callWith_builtin Α Β

fun h' eb=>Α
fun y_ s'=>Α

@ye _ _ _ _ _ _ _ _ _ _ Α Β Γ
r.map Α
F.args_dict_keyiterator_next_1 _
fun rs h r hr=>Α
.tuple Α
hs.dct Α
fun pins s σ H x y v u Q I rx ry q=>Α










wpAny_forIn_list _ Α _ Β Γ _ _ Δ

wpAny_bind (m:=Α) Β
fun w=>Α
relabel Α Β
decide_eq_true Α
PySem.W.kia_one Α Β Γ Δ Ε Ζ
fun h' st' sb=>Α
Value.int Α Β
fun d3 hd3=>Α
fun y_ M q=>Α
List.mem_reverse.mp Α
closureFor Α Β
congrArg Α Β
wpAny_letGo Α

F.args_tuple_iterator_next_1 _
Prod.ext Α Β
fun σ' H'=>Α
fun b ps e=>Α
X.base.get? Α
⟨Α,Β,Γ,Δ,Ε,Ζ,Η,Θ,Ι⟩
fin _ _ _ _
PySem.F.args_dict_get_3 _ _ _
f _ _ _ _ _ Α Β Γ Δ
⟨Α,Β,Γ,Δ,Ε,Ζ,Η,Θ⟩
wpAny Α Β Γ Δ Ε Ζ
s3 _ _ Α Β
kk.trans Α

k3.trans Α

fun y hy=>Α
p.toArray.getD Α Β
fun v hv=>Α
fun k hk=>Α
fun y_ c st'=>Α
StateT Α Β Γ
Nat.add_le_add Α Β

row.dropWhile Α
cl.lookup Α
fun b hb o e=>Α
.Assign Α Β Γ


.cons Α Β
.UnaryOp Α Β Γ
X.mg Α
fun s' M2=>Α
fun s' M1=>Α
fun e3=>Α










kr.at (k:=Α)
fun x H R=>Α
Int.mul_nonpos_of_nonneg_of_nonpos Α Β
fun p q h=>Α
Obj.mapSeq Α
wpAny_truthy_bool Α
fun x c e=>Α
pb_has (a:=Α) (b:=Β) (c:=Γ) Δ
es.map Α
L3.put Α Β Γ
r.getD Α Β
s.heap.IsList Α Β
seqObj Α Β Γ
fun i h1 h2=>Α
fun i c st'=>Α
b.extract Α Β
a.extract Α Β
j7 (prog:=Α) (w:=Β) Γ Δ
fun A k xs s Q E hd st hl e q=>Α
Int.le_of_lt Α
s.heap.update Α Β
tupleItemsOf_ Α Β
PySem.W.kitOne Α Β Γ
IntMulOk.of_left Α
List.getElem?_zip_eq_some.mpr Α
fun a ha b hb e=>Α
List.map_fst_zip Α
jf (I:=Α) _ _ Β Γ
fun pins s σ H x v R I rx q=>Α
fun i a b ha hb=>Α
Array.getElem?_eq_some_iff.mp Α
fun A k xs x s Q E st hl e q=>Α
F.args_list_extend_2 _ _
IsTup.new _ _
.bool Α
X.s₀.heap.get? Α
L3.atI_map Α Β
OpR.imp Α Β
es.find? Α
fun a b=>Α
Int.gcd Α Β
zs.filter Α
zs.filter Α
Int.le_trans Α Β
ak (a:=Α) (o:=Β)
t4 _ _ Α
es.take Α
sgn_eq0.mpr Α
os.zip Α
Nat.le_trans Α Β
fun es z hz ih=>Α
hY _ _ _ Α Β Γ


l.map Α


fun hi=>Α



plainId_quiet Α _

up _ _ Α Β
.ref _
Option.isSome_iff_exists.mp Α

List.of_mem_zip Α
Value.ref Α
T.keep _ _ _ Α Β
fun σ H R=>Α
h.IsTupleIter Α Β Γ
wpAny_execs_nil Α
fun c H1=>Α
.Constant Α Β Γ
fun y_ H Q=>Α

AllBare Α

fun s' M' σ' H' h' R' k'=>Α
fin _ _ _ _ Α Β Γ Δ
fun s4 M4 σ4 H4 h4 R4 k4=>Α
Int.dvd_mul_right _ _

.dict Α Β

Int.gcd_dvd_right _ _
List.take_sublist _ _
eval Α Β
ab (u:=Α) Β Γ
rows.set Α Β
h'.DictOfH Α Β Γ
Builtin.Tuple.tupleHashOf Α
s₁.heap.get? Α
fun h1 h2 y k=>Α
wpS_mono Α Β
fun h1 a1 a2 a3 a4 a5 a6=>Α
Int.gcd_pos_of_ne_zero_right Α Β
Int.gcd_dvd_left _ _
Int.natCast_nonneg _
s.TypeIs Α Β
Nat.min_le_right _ _
bindArgs Α Β
List.forall_mem_cons.mpr Α
Int.fmod_nonneg_of_pos _ Α
fun s' M5=>Α
fun s' M4=>Α
t5 _ _ Α
t3 _ _ Α
ahd_or.mpr Α
fun s2 M2=>Α
fun xs M1=>Α
ws.getD Α Β
IsItemIter Α Β Γ Δ Ε Ζ Η Θ
s''.heap.update Α Β


get?_update_seq Α Β
wpAny_rule Α
kindOf Α
fun c o e=>Α
l.take Α
DictE Α Β Γ Δ
fun h' z1 z2 z3 z4 z5 k=>Α
F.args_zip_next_1 _
Int.mul_lt_mul_of_pos_right Α Β
Nat.gcd Α Β


Int.gcd_pos_of_ne_zero_left Α Β
I.lstM Α
Subscript_ Α
IntsAre Α Β
I1.fpOk Α Β
h.IsListIter Α Β Γ
fun s' I'=>Α
swapsWith Α Β Γ Δ
PySem.W.instObj Α Β
hr.mono Α
s4.trans Α
zs.take Α
fun u v=>Α
fun as y_ y_=>Α
fun a p=>Α
List.mem_append_right _ Α
beq_eq_false_iff_ne.mpr Α
hs.none Α
fun b o y_ e=>Α
s''.heap.get? Α
Nat.lt_succ_self _
fun x m=>Α
b.toList.take Α
a.toList.take Α
wpS_lift Α
C.run Α Β Γ
row.takeWhile Α
one.dropWhile Α
wpAny_letOwnedTupleGo_zip  Α Β
fun v z=>Α
wpAny_of_eq (a:=Α) Β Γ
firstArgMember _ _
Int.eq_ofNat_of_zero_le Α
r.append Α
A.deeper Α
wpAny_standAt Α

fun b o e hx=>Α
h2.get? Α
so.sz Α Β

fun l M' lys g s h ok=>Α
List.mem_singleton.mpr Α
fun pins s σ H D I q=>Α
Obj.data_mapDictKeys Α _
Nat.le_of_mul_le_mul_left Α Β
wpAny_callSpecial?_slot (name:=Α) Β Γ Δ
Int.lt_of_mul_lt_mul_left Α Β
Nat.eq_of_mul_eq_mul_left Α Β


fun y_ y_ y_ H y_ I h=>Α
ObjOk Α Β Γ Δ Ε Ζ
v.out _ _ Α
Classical.not_not.mpr Α
fun m M1 m0 m1 g1 s1=>Α
fun A outer s H E hr=>Α

fun n s' M'=>Α
Int.toNat Α
rows.take Α
fun e vs' M'' hv' s'=>Α
fun a b h e=>Α
ws.filter Α

fun y_ h=>Α
Inv.de Α Β
fun D hD=>Α

s3.heap.get? Α
fun xs P M1=>Α
fun o M1=>Α
fun i M2=>Α
fun b M1=>Α
f.nx.from Α
wpAny_specialOf Α Β Γ
Builtin.List.listSameRef Α Β
listUpdate_at Α Β Γ Δ Ε
p.toList.map Α
L.drop Α
ForInStep Α
Decidable Α
fun n=>Α
fun f=>Α
typeLookup Α Β
fun c o n f=>Α
Heap.ExtBut Α Β Γ
Obj.isFreed_of_fields Α
pb_has Α
PyData.depth Α
fun r s'=>Α
ps.zip Α
fun y_ y_ e=>Α
I.base.there Α Β Γ Δ
fun y_ q=>Α
usS (n:=Α) Β
Int.fmod_lt_of_pos _ Α
hN _ _ _ Α Β
List.mem_of_mem_drop Α
List.mem_of_mem_take Α
Classical.not_not.mp Α
l.foldl Α Β
hs.setL Α Β
List.mem_of_getLast? Α
nss.getD Α Β
I1.hok Α _ Β
sb.extBut _ _ Α Β

fun c o n1 n2 n3 n4=>Α










b4.extBut _ _ Α Β
bx.extBut _ _ Α Β
bg.extBut _ _ Α Β
b1.extBut _ _ Α Β
Obj.data_mapFields Α _
subscriptTail_builtinR  Α Β
getItem Α Β
fun j y v' e1 e2 e3=>Α
ar hr.units
Ac rfl
AU (av Α) Β Γ
A1 rfl
NK Α Β ac
AY Α (av Β) Γ Δ
Af (A5 Α)
Af (BR Α)
Inv Α pins Β Γ Δ
NN Α Β Γ NJ
NR NI Α Β
Au Pt3
BE PassesOwn.never Α Β Γ Δ Ε
BF PySem.F.slot_list_append Α Β Γ Δ Ε Ζ Η Θ Ι
NV PySem.F.type_list_append Α Β Γ Δ Ε Ζ Η Θ
Au Int
Ae Α Β rfl Γ Δ Ε Ζ
Af (Bc Α)
AX Α Β Γ Δ (NM Ε Ζ) Η Θ Ι Κ

NS Α ae
Af o

A5 s.heap.objs.size
Av Α Β Γ PySem.boot_len Δ Ε Ζ Η Θ
B2 X.prog Α
Aa (NY Α Β Γ Δ Ε Ζ) Η
AU Α ag Β
Au Value
NM Α ag
drw Α Β Bd.small Γ
A0 rfl
Az Α zaR
C3 hr.units
Ay Α Β rfl Γ Δ
Am (Ar Α)

CK rfl
put Α Β (Bc Γ)
Na Α Β hr Γ Δ Ε Ζ Η Θ Ι
Nv Α Β AC Γ Δ Ε Ζ Η Θ
Nw Α Β Γ Δ AB Ε Ζ Η
Nx Α Β Γ Δ AC Ε Ζ
Ny Α Β Γ Δ AB Ε
Nz Α Β Γ Δ AB




Da xs.length Α Β
Nh X.w
det Α b Β
Af (Pa Α)
Af .local
Ni Α Β Γ Δ AB Ε Ζ
OA Α Β Γ Δ AV Ε
BP Α Β Γ PyProof.Rows.boot_tuple Δ Ε Ζ Η Θ
Cu Α Β rfl Γ Δ Ε Ζ
BV rfl Α
OB Α Β NL Γ Δ
AZ Α (Nc Β) Γ
put Α Β (Do Γ)
A3 rfl Α
NQ Α σ Β Γ
BY Α rfl Β
OG Α Β (Nc Γ)
Bp Α Β (aB Γ)
Cm Α mainGlobals Β
B2 prog Α
CD rfl
DC Α Β Γ (An Δ)
Nq Α Β NL Γ
OD rfl Α Β Γ Δ Ε
OS rfl Α Β Γ Δ
OT Α rfl Β Γ
BO Value

Cq Value
CS Α X.env
Af x
BH Α rfl Β
Bx Α Β Γ (A4 Δ) Ε Ζ
Ob Α Β Γ Δ (Al Ε) Ζ
BT (onB Α Β Γ)
Au A
[¤_law_hand_here¤]
envOfC Α Β s.heap.objs.size Γ Δ
Au Expr
BO Int
Av Α Β Γ PyProof.Rows.boot_isinstance Δ Ε Ζ Η Θ

N0 T.uG Α Β Γ
Au V
A5 l
BH Α Β rfl
sIx items.size Α Β
FF hr.units

A2 (OR Α Β Γ) Δ Ε
BQ ?_
NZ xs
Aj Α Β Γ CO
A6 rfl
C4 PassesOwn.never Α Β
bj Α Β AC
Ai ((Α))
Bu Α X.env
Ka Α X.env
AZ Α (av Β) Γ
[¤_law_hand_here¤,Α]
Cq Keyed
Af (ipT Α)
OF Α Β Γ (Aa Δ Ε)
aJ Α rows
Af u
Cc Α Caught.nil


OK Α ?_
Au Addr

OU AD Α Β

PF AD Α

PH AD
A5 a
OL bu Α Β
av 0
xz hr.units

Af .cell
CQ A.int
upd H Α Β


N7 a Α
Sz 1000 Α

Fm Α Β kvs
AU Α (Nj Β Γ) Δ
N0 Α Β Γ (Nl Δ)

Ol (ce Α) Β Γ
Lp p
Fn Α mg Β Γ Δ Ε Ζ
A3 Α rfl
B0 Α Β rfl Γ Δ
Au Str
Au Stk
CQ PyData.int
aD es
A3 Α ?_
Oc Α Β Γ Δ ((Ε)) Ζ
Af v
NM Α (Nl Β)
Pb Α Β (Nj Γ Δ)
Au Bit
By Α Β rfl Γ
BD Α AD
Bc xs
NO hd
O7 xs
Ap Α Β cr
A5 p
Os Α Β Γ Δ AB
B0 Α Β Γ rfl Δ
N5 xs.length Α
OO w
BR i
CQ V.int
OE rfl
Bn Α rfl Β Γ
OJ X Α Β
Ng Α Β T.vR Γ Δ Ε Ζ Η
Ov Α (av Β) Γ
h Α List.mem_cons_self
Loc X.env.scope Α
Lp q
IsL Α Β vs
us1 Nn
[Α,¤_law_many¤,Β,Γ]
Ai dh
Bm H
SmB Α Β M'
val Α j
PR s.heap.objs.size Α
Af none
Au NT
Be Α T.vV Β Γ
PU c
P5 H Α
QN s
A3 Α (Ax Β)
ahd p Α
stA x
us2 NJ
A5 s2.heap.objs.size
BA ?_
Bs rfl
Fh A.ref
O3 ¤_law_most¤
OpR X Α Β
aH kvs Α
NU rfl Α Β Γ Δ
OH Α Β []
aA (aA Α Β) Γ
Qc Α Β (aA Γ Δ)
av 1
BK (cx Α Β)
Bv b
Cq DictEntry
FZ Α Β Γ its.toArray.size
PZ T.is_ahead Α Β Γ
Pv Α (Nr Β)
Au α
F0 xs
blk Α Β scope Γ Δ Ε Ζ Η
b64 Ab
Az Α zaD
Fv rfl
Af (PX Α Β)
BH Α Β ?_
Af y
CH ?_
HZ A.ref
Qn Α Β Γ s3.heap.objs.size Δ Ε Ζ
QD ¤_law_values_here¤ Α Β
av 3
Af c
A0 trivial
C7 ¤StopIteration¤

EV (ahd Α Β)
OE P3
OE Q4
[¤_law_k¤]
AZ Α Β (PL Γ Δ)
NM Α (Nj Β Γ)
aG Pj

jz ?_
Af .free
Au Stmt
C5 ?_

C7 ¤method_descriptor¤
EQ Α Β scope Γ

Gi rows
AE G Α Β Γ


RK X Α Β
hY Α rfl
Av Α Β Γ PyProof.Rows.boot_abs Δ Ε Ζ Η Θ
Nm Α AC Β
av 2
Af a
BU b
NO l
NP m
QQ q
jw Α Β ?_
Bt AD
QY Α (upR Β Γ)
Ao e
Bj Α rfl Β Γ Δ
CW ¤reversed¤ Α

Dt Α Β Γ rfl Δ Ε
Fa Α PyProof.Rows.boot_tuple Β Γ Δ
K8 s.heap Α Β Γ
NO L
PU d
QL rfl Α Β
loop Α Β Γ ?_ Δ

Ch (Bi Α)
DR (CD Α)
FW vs.toArray
Px Α (Pr Β) Γ Δ
ko ?_
Bb ag
Gx false
det c Α Β
ifF Α ?_
Bu Α env
JM ¤list¤ Α Β
Inv Α pins Β Γ Δ
PE X Α Β
Ff stA
Gk Α H'





G6 (CodA Α Β)
Pe _
Po Α Β ae Γ
R8 Α Β bn

aE a Α
SB b
Bl hp
EY Α X.env
O0 es
cH Α pins Β Γ
OQ X Α Β Γ
SH G Α Β
QD ¤_law_strokes_here¤ Α Β
Hd Α hd Β
SK Α sc
ok Α (Ad Β)
AU Α (PY Β Γ Δ Ε) Ζ
Af (Do Α)

BZ (BN Α)
Br (A3 Α Β)
C7 ¤list¤
O2 Α Β ae
Q7 Α (PL Β Γ) Δ Ε
H b
Is H Α Β
gi hx
Bg ?_
Bk Α AB
Ck hn
C7 ¤tuple¤
Hu Pa
R0 H
[¤_law_script¤]
By Α rfl Β Γ

SJ Α ¤_law_spots_here¤
av 4
FP K Α Β Γ Δ Ε
BA (Ah Α)
By Α iter Β Γ

B6 Α AF
DN (Ec Α)

O6 Α Β Γ Δ (Nr Ε)
PR Α (Bc Β)
QH i

Qa Α Β Γ AF
M l
dw h0
Ah ?_
BO Expr

Cg As


Es hc
Fu hp
Ov Α Β ae
onw es
A3 le0 Α
Iw ¤__name__¤
Pd K Α Β Γ Δ Ε

SortBy Α Β Γ nss Δ
AZ Α Β ae
Am (SZ Α)

CL (BR Α)

DG (Od Α Β Γ)

P6 Α Β (Nl Γ) Δ Ε Ζ Η

Su Α (OR Β Γ Δ) Ε
Sem Value
.bl true


a.map PyData.int
b.map PyData.int


aK xs
Sm Α M'
dw h1

BL hx
GK Α us
Px Α Β AV Γ
QZ k
Sh ¤_law_pieces¤
TV M
ifT Α ?_
BP Α Β Γ PyProof.Rows.boot_list Δ Ε Ζ Η Θ
IE scope Α
Tg X.env
h9 h
BR xs.length
Cj b
Nj (BG Α) Β
HOk X.prog Α Β Γ
[¤strokes¤]
hs.trans s'.toB
Do []
EI ?_
G9 st
Oa _ Α
PySem.W.fnOf Α Β Γ Δ Ε Ζ kV Η Θ Ι Κ Λ
Hs G Α Β
putA kvs Α Β
A7 List.mem_cons_self
BP Α Β Γ PyProof.Rows.boot_int Δ Ε Ζ Η Θ
CF ¤object.__class__¤
FN pos Α
Rj Α AB

aE c Α
T2 d
gS3 a Α Β
[¤_law_strokes_here¤,Α,Β,Γ,Δ]
.ok (.ret Α)
BX (db Α Β)
Bi (Cd Α)
F3 Α u
T9 v
OR Α (Pr Β) Γ
Oz (UB Α Β Γ)
X.fn x
compEnvC Α Β s3.heap.objs.size Γ
rSub Α (BR Β) Γ Δ
bo Α he
UG e
onw Pu
jb h
Af b
Af p
Ai rfl
us4 UM
Au Oth
A3 Α Bd.small
BC Α none
NO D
NO S
OI rfl
Op items.size Α
Oy Α zr.z
O9 Q5
RX Α Qu
Rb Α Β AB Γ
UY Α Β AB
Rp Α Β Nt Γ
Rw ks.toArray Α
SI Α QC
I.turned (t':=s.toks) Α Β Γ Δ Ε Ζ
pbF Α Β 64
Bits es
bh (i:=Α) Β rfl Γ Δ
LyP Α sl Β Γ
Af (.own Α)
A0 True
Ce z.elim
DP Α s.heap Β
RH elt Α Β

Um Α pos

Sl Α ifs Β
[¤points¤]
EP Α pins Β Γ
PO Α Β (upO Γ Δ)
@ba8 _ _ _ _ _ _ _ _ _ Α Β PyProof.Rows.boot_enumerate Γ Δ
rss.map List.length
t1.free (t2.free Α)
AU Α (Nl Β) Γ
FK (Ts Α)
HG Α Β [] Γ
NP j
PZ T.turn_from Α Β Γ
QB Α xs
U2 H
.BoolOp Α Β pos
aB st
BH _ Α Β
Bf PM
B3 st
Cs ?_
Cy ?_
DA s2
SL M'
(its.toArray.size)
H' b
Vis X.env.scope Α
IsTup Α Β vs.toArray
IsTup Α Β us.toArray

he pins Α Β Γ _ Δ Ε

assign Α X.env
PSet X Α
Room k Α
.Slice lo Α Β Γ
sgn QM
Sz 4000 Α
IsZip Α Β TI Γ Δ
s.set i Α
M' D
aj0 h0
Pa p
ifd Α (A0 Β)
x.mv Α (Rn Β)
us3 QV
Au Nat
Au Env
Au Onw
CD h
Nc 0

Oy Α zp.z
PZ T.line_through Α Β Γ
Pq Α Β rfl
SI Α QS
H a
onB Α a Β
put M Α Β
Rel G Α Β Γ Δ
Aa Α (Nr Β)
Eh (A3 Α Β)
NS Α (av Β)
SR Α (Uy Β)
T0 (Nl Α)
[Α,¤other¤]
Vs ¤one¤
Lp b
Srt row
C.G x
tuples' true
ms.map PyData.int
M' l
js.map (En Α)
hN _ rfl
qx hv
AY Α Β Γ NJ
V3 NI Α Β
Ad hy
Af r
Af Qm
Au Keyed
A5 b
A5 c'
BN e
By Α Β Γ ?_

B1 vs.length
B4 Ra
CG (h.mono Α)
C7 ¤zip¤
E8 hp
Fq Α Β (upC Γ Δ)
GI hq
Gw Α Β pos.line Γ
NZ ys
NZ Rz
N0 Α Β Γ ag
OY []
RN Α te
WQ e
TZ xs

.int Α t
ha Α pins Β Γ Δ _ Ε Ζ
an6 (i:=Α) Β rfl
BH Α Ab Β
Il Α Sem Β
fun f vs=>(PySem.call Α Β)
[¤_law_p¤,Α,Β]
wpAny_isInstance Α isSubtype_tuple_tuple Β
hs.lay hn
kq Α (jp Β)
qx hv'
Af z
Af (F7 Α)
A5 j
A5 D
BB (Pn Α Β)
BO Nat
BR j
B3 st'
B8 Α this
CW Α py
Wo y
NP i
NP n
Rk (CP Α) Β Γ Δ

Tl Α gd
Tu M Α
Wv H
CompR Α Β scope Γ Δ
t9 ?_
Af (.frz Α Β)
A5 it
BO NameKind
Bl hD
CB Α as Β
CW x Α
W4 px
W4 pos
Fj ?_
Gq pos.line
G6 (TabA Α Β)
Rv es
R9 T Α
XB 0
TL Α Β Γ AV Δ
σ.set i Α
ha pins Α Β Γ _ Δ Ε
SqL Α H Β Γ
PassesOwn Α Β X.env Γ
ixN xs.length Α
slicePick its.toArray Α Β Γ

Is3 Α Β Γ r
Lp a
leP p Α
RgOk 100 Α

SmF Α Β M'
A3 Ab Α
A5 f
BI x
Ba x
Bo Α I.ok.above
CF ¤isinstance¤
FB Α Β pt2
HL Α Β pos
JK Α pt0
Nc 2
N8 z
N8 p
QP Α Ab
Xd _
Rt d Α
SW Α v
WY SortSt Α
((Ak Α Β Γ))
[¤_law_p¤,Α]
Xj ¤_law_q¤
bP (dat Α Β) Γ
cv Α (Cf Β)
Goes ws Α Β
AZ cp Α Β
Am (NY Α Β Γ Δ Ε Ζ)
A3 _ Α
CU (Wd Α Β)
DD (E3 Α)
DQ (Sn Α)
FQ (B5 Α)
Ji true
P7 Α Β ae
TJ fq Α Β Γ Δ Ε Ζ
Xx AB Α Β Γ Δ Ε
Xy Α AC Β Γ Δ
Xz Α AC Β Γ


X0 Α AB Β
X3 Α AB
UC Α Β Nt
W4 pos'
[¤bits¤]
X.wish E
Nat.pow_pos AC
sgn Ri
aP TU
defaultsOf params Α
K w.params
OkS 200 Α
fun j x hj=>?_
Meets.of_wp (fun y_ y_ y_ R s h=>Α)
R.to k1 Α
u8 ?_
fe T
fun D3 hD3=>?_
fun N2 hN2=>?_
up ox.za
up ox.zb
Af k

A3 o.slots Α
A3 Α []
BT ?_
Bc ys
Bs False
B3 st4
CF id
CK e
Cz ¤zip¤
DD k2
Dp k.toNat
El h'.elim
Ew eM
E9 ¤tuple¤
GN f
Gq pos.col
G9 st'
HF Pa
Iw ¤zip¤
Jw ls
SE es
Uq tg Α
Yl 0
XY .And Α
Xf a
Xg a
fS s₁.heap Α
I.cell Α c Β
.bl (GX Α)
.AugAssign Α Β Γ pos
wpAny_isInstance   Α isSubtype_stop Β

HeapKind prog Α Β



atB es Α
ItR Α tg Β
CaughtL Α scope Β
cJ Α val Β Γ
AX Α Β hr Γ Δ Ε Ζ Η Θ
Y4 Α Β AC Γ Δ Ε Ζ Η
Y5 Α Β Γ AB Δ Ε Ζ
Y6 Α Β Γ AC Δ Ε
Y7 Α Β Γ AB Δ
Y8 Α Β Γ AB
AZ bu Α Β
A3 le2 Α
BC Α 0
ZC m
C7 ¤list_reverseiterator¤
ES st.typeIs Α
E9 ¤list_reverseiterator¤
GH es Α Β
Nu Α Β xs.reverse
Pf Α Β Γ rfl
Re rfl Α Β Γ Δ
T5 ¤_law_many¤ Α Β Γ
Uz Α Β pos
unpackItems_tuple (items:=Α) Β (IsTup.new Γ _) Δ
fun xs' h=>?_
M a
fun i a e=>?_
aM (aW Α Β Γ)
val i Α
ox.za.mono AC
ox.zb.mono AC
Ah (Sk Α)
BK (Hg Α)
BR (Ak Α Β Γ)
BS (Ad Α)

B1 n
CB (RlF Α Β) Γ Δ
Dz i
GZ q
G6 (DE Α Β)
KW es Α
Zf ep
NP k
Og qual Α Β Γ
Zi scope Α Β
O1 o
Pl Α Β Γ Ti Δ Ε
Zl Α Β Γ Δ RB
Py Α Β Γ (q _ Δ)
X.s₀.heap.FunFrames X.base Α
[¤_law_thing¤]
.bl false
Gl X Α
Zr ¤zip¤
setItem ov Α Β
tail_any  Α slot_list_getitem.lookup Β Γ
typeOf YW
bG st
Str.ofString ¤__next__¤
wpAny_fieldsOf Α Β ?_
ev xs
Srt l
as.drop 1
ks.zip vs
tabObj ps
fr σ
atKey xs Α
IsL H Α Β
s' _ _ hD
aX os Α Β
zs.drop k
dw h2
t2 _ _ ak
Ad hx
Au NX
BO HO
BO PyData
CG ?_
C7 ¤dict¤
DY AC
EJ Α F.slot_dict_keyiterator_next Β
IM scope Α
ZAK X.env
NO sl
NO nd
NO tk
NP fs
Qd a Α Β Γ
ZAQ b Α Β
ZAR c Α
ZAS d
YH m1
(its.length)
env.kindOf x
.cell v
I.pin p Α
isTrue Α X.env Β
k Α Aq _ Β
ph r
.Call Α Β [] Γ
Lp c
Lp d
Caught Α scope Β
bh0 ?_
At Α Β st'
fun x y_=>?_
atW Q9 Α
ife (BQ Α) Β
bf9 hv
b64 (i:=Α) Ab
Af 2
A0 none
BF PySem.F.slot_list_extend Α Β Γ Δ Ε Ζ Η Θ Ι
ZAp PySem.F.type_list_extend Α Β Γ Δ Ε Ζ Η Θ
BO Addr
BR ys.length
BX hdL
Bl hD3
CD e
CD hdo
CD ZAw
Ds Α Β pos
ER ¤dict_itemiterator¤
GU s.heap Α Β Γ
Gx none
Hy e
Iu Α .nil
L5 X.prog Α Β Γ Δ Ε
Mm Α (fun a=>Β)
NP x
NP y
Nj Α bp
PU p
Qk Α ln
Qr n Α
ZBB o
Rn f
ST cp Α
T9 x
UV zp.x
V4 Α ae
WX Ab Α
Wa ¤_law_q¤ Α
XN q
Xf b
st.at (Cp Α)
PySem.W.codeIn K Α Β
wpAny_Call_method0_late hbase Α Β
I.mod.glob.keeps I.bk
neP Α _ Β (Fe Γ)
aO Α Β ws
acc.map (B5 Α)
SmB.ne_new Α Β Γ (Xq Δ)
List.mem_flatMap.mp h
mm.perm.mem_iff.mp hx
fun l=>(P Α)
Ah (DF Α)
A0 (Bz Α Β)
Bi (Pa Α)
B5 (G1 Α)
CM (Ts Α)
EJ Α F.slot_tuple_iterator_next Β
ER ¤dict_keyiterator¤
Eh (By Α Β Γ Δ)
Fq Α Β (EE Γ)
Nu M Α Β
N0 Α Β Γ (NM Δ Ε)
Oz (@ux _ _ _ _ Α)
Oz (UZ Α Β)
ZBj Α (Ua Β Γ Δ)
P4 Α Β QF
ZBl Α hs
ZBm h
QG Α (Qb Β Γ)
QY (EF Α) Β
RZ (DO Α) Β Γ
S5 Α (X4 Β)
UZ Α (Ta Β Γ Δ)
ZBs Α Β Γ (Ta Δ Ε Ζ)
ZM (CW Α Β) Γ
H l
fs.lookup f
.bl b
I1.kept  WF
truthy v
P.zip vs
wpAny_Slice (thn Α Β)
IxR X Α
sgn x
aP ps
o.push x
kr.at ek
DE.ok ho
Array.getElem_mem hi
Sm M2 Α
s'.toB.trans SmB.put
List.of_mem_zip   hz
T (gp Α Β)
qd h
wc h0
h8 T
Bd.small Ab
@am6 _ _ Α hr.units Β Γ
jg Α Β Γ Δ ?_ Ε
ZCI Α Β Γ Δ ?_
ZCJ Α Β Γ (ZBY Δ Ε)
@e9 _ _ _ _ _ _ _ _ _ PassesOwn.never Α Β Γ Δ Ε
Ac False
Ad h1
Ad hr
Af i
Af j
Ag hy
Ao q
FT ZCS
Au QK
A5 c
A5 s1.heap.objs.size
BH o Α Β
ZCX ho Α
BH Α Β (ifb Γ Δ)
BR 0
BR z.length
BX hb
Cn ZCc
CF ¤sorted¤
Cq GenState
Dk As
En ?_
Et hq
Ew e
Fc ?_
GE ?_
Gd Α Β X.env
G8 st
K5 st
NP ab
NZ QW
OC Α Β T.vY Γ Δ Ε Ζ Η
PZ T.uX Α Β Γ
Pl Α Β Γ UJ Δ Ε
ZCt Α Β Γ Δ Rq
Rc p'
Ry Α te
ZCw e
T4 b Α
ZCy c
c.fdiv ZCz
T9 y
WL Α Β X.env
Ws Α Β Γ ?_
ZC3 Α Β ?_
W3 Α bs
ZC5 F
XX Α k2
Xg x
Xs k3
Y0 e
ZW ?_
I.freeC Α c Β
[¤_law_strokes_here¤]
storeName X.env Α Β
.Compare Α Β Γ pos
MtR X Α Β
ZDG id Α
onB Y Α Β
jt hp.pos Α Β Γ Δ
ZDJ hq.pos Α Β Γ
rd (f:=Α) rfl Β
yE s.heap Α Β
fun r st' pm sg=>?_
List.mem_cons.mp hv
fun h' a1 a2 a3=>?_
[¤_law_hand_here¤,Α,Β,Γ]
bN Α none Β
.dct Α Β []
SmB hd Α Β
c7 Α rfl
Marks Α rows
dC Α val Β Γ
gP Α rows Β
Rch es Α Β
ifd Ot Α
ZDZ Ot
fin _ _ el Α
CaughtL.cons Α CaughtL.nil
@ai7 _ _ hr.units65
Hj Α Β apos
Le Α Β st
Oo _ Α
ZDg Ow
SU c8 Α Β Γ Δ
Uz Α Β pos'
ZDj ZCv Α
VR Α Β Γ .ellipsis
ZH Α pos
ZL ¤_law_a¤ Α Β
ZDn ¤_law_b¤ Α
ZBu ¤zip¤ Α Β
ZCs (i9 Α) Β Γ
((B7 Α Β))
⟨Α,Β,_,Γ,Δ,Ε,Ζ,Η,Θ,Ι,Κ⟩
wpAny_Name Α hd
hf Α hb
ZDu b
UnR Α (unaryOp Β) Γ
min Α xs.length
its.drop k
call_meets Α (ZDg Β) Γ Δ Ε Ζ
hr.mono AC
Lp r
wpAny_field Α Β  rfl Γ
S1.tk _ _ _ Α (Cp Β)
S2.tk _ _ _ Α (Cp Β)
I1.kept  k
fun h' tk e hn=>?_
List.filterMap f _
rj (xs:=Α) (n:=Β) Ab Γ
I2.fpOk Α (Hf Β)
ss.map flS
fun ys x=>(storedH Α Β Γ Δ)
Wt F
k.trans k'
upR G Α
am8 QV
ks.any (Ec Α)
j1.keep Sa
call_meetsIn Α Β PySem.F.entry_dict_get Γ Δ Ε
gA kvs
Pa (Ue Α Β)
cn od.pr Α
av 6
ifn (BQ Α) Β
q9 h
ife (A0 Α) Β
q' (Pa Α) Β
s01 _ _ hl
s02 _ _ hl
t6 _ _ (Kt Α)
ok.lb rs Α
zm.mono AC
bM u Α
ZEW v
Af w
Ah (GA Α)
Ai trivial
BK (FA Α)
BR 1
BW e
BX Rhd
Bl hd1
CD (CK Α)
CL (Ys Α)
C9 Α Β F.entry_dict_keyiterator_next Γ Δ
ZEi F.slot_dict_keyiterator_next Α Β Γ
FR ZCh
Ft Α Β Γ q'
JI veA
KP s'.gens
LC r.z.natAbs Α
ZEo r.x.natAbs
NP H
NP W
OF Α Β Γ (Nr Δ)
Oy Qo Α
Qf Α ?_
RN Α ta
ZEv a
Rx Α σ Β Γ
ZEx X Α Β
SQ e
S5 Np Α
Ts rfl
T0 (Nj Α Β)
UQ n
VM (upSet Α Β)
Vr 1
WU i
ZBk Α Β Γ (Ua Δ Ε Ζ)
ZB9 M3
ZEt Qo
s.heap.Ns X.env.locals Α
id sg
[s1.heap.objs.size]
fun y_ y_ y_ e=>e
.bl k
[Α,¤_law_other¤]
ZFF ¤_law_one¤
fun itv s2 h2=>?_
.dK kvs
codeAny_mono Α (fun r s' hq=>Β)
cI st
Sz n Α
fun h2 hz2 sb=>?_
m.map f
V.int i
ty st
rJ2 (TF Α)
fun h' dd' sb=>?_
fun y_ y_ h y_=>h
aD Pu
aG ZFT
Cl xs
mj gr _
hY Α Β _ rfl Γ
hN Α Β _ rfl Γ
@at8 _ _ _ _ _ _ _ _ _ Α AB Β
ok.lc rs Α Β Γ
Ad hp
Af (.ext Α)
Ag hj
A5 i1
A5 i2
A7 hq
A9 hz
BX hdsl
Bl hr
CC Α Β AB Γ Δ
ZFk Α Β AB Γ
ZFl Α Β AB
ZFm Α (Cb Β Γ Δ Ε)
ZFn Α Β Γ PN Δ
ZFo Α Β Γ AF
CK h1
Dh nd
EU ?_
FB Α kt Β
ZFt Α pt
[(ZFu Α)]
Fm Α o' Β
GC hl
Gg hS
Gu Α Β X.env Γ
Gy ?_
Ig ?_
LG hH
LM Α Β Γ X.env
ZF3 Α Β pos.line
Mi us
NO t.qM
Oz PM
Pk ?_
P4 Α z1 Β
Rg Α es Β
ZGA Α ep
ZGB d
Tz SF
UP AC
UV zp.y
Us Α σ Β
ZGG X Α
ZGH Q
Vk Α b
ZGJ p
XD (ZE2 Α Β) Γ Δ Ε
XE Pm
ZBI ZF0
ZDU h
ZDo ¤_law_pieces¤
bA X.prog Α
ZGQ X.w
da Α hn
ZGS q
I.ok.funs.mem hb
wpAny_loadName_local I.ok.kind Α Β Γ Δ
SqT X.K Α Β Γ
D.nx s Α
pyNext Wh
FnScope Α ps Β
ahd Α p
ZGa q
[Α,Β,(ipT Γ)]
ZGc (Pa Α) Β Γ
ZGd Α (Pa Β) Γ
F7 (ZGe Α Β Γ)
Src prog Α Β Γ Δ Ε
ru.get ex
ps.foldl Α row
wpS Α Β Γ Δ Ε Ζ st
h _ _ Α sg0
vs.getD i Α
neL Α hc
ZGm b
TuS Α h'
ZGo h
bs.any id
HVR H Α Β Γ
ZGr Α kvs Β
DctF G.P Α Β Γ Δ Ε
FinS G Α Β Γ
f.from k1
f _ _ _ _ h Α Β Γ
M1 l
M' a
hks.mem k Α
ys.map kf
Pa z
qs.map Pa
c.map PyData.int
upV Α val Β Γ
av 5
av 7
@ba6 _ _ _ _ _ _ _ _ _ _ _ _ _ _ Α Β ai8 Γ Δ Ε Ζ
an9 Α Β ?_
ps.drop j
e1.symm.trans h2
ClI m Α
ZHB xs
Af g
A3 ?_ Α
A3 ZCk Α
ZHF (J5 Α)
A5 d
CN rfl Α
CN x.symm Α
ZHJ (nff _ Α)
C0 qf Α
ZHL ae
C9 Α Β F.entry_tuple_iterator_next Γ Δ
ZHN F.slot_tuple_iterator_next Α Β Γ
Dy x
F7 [Α,Β]
GK Α its
ZHR xs
IZ Α Β Γ rfl Δ Ε Ζ Η
Ia Α X.A Β Γ Δ Ε
ZHU N6 Α Β Γ Δ
ZHV Α Β X.xe Γ
Ir Α Β pos
N0 T.vB Α Β Γ
P9 x
Q3 q Α
ZHa p
ZHa t
one.takeWhile ZHc
Ry Α ta
ZHe a
SI Α UN
Tm X.w Α Β
Vm Α Β σ Γ
ZHi s Α Β
ZHj M Α
ZHk H
Vq R7 Α
XG X.K Α Β
Xp Α Β Γ Δ AB Ε
ZHo Α Β Γ Δ AV
ZHp Α Β NL Γ
Zr x
ZAh C Α
ZHs l
ZAy Α (VO Β Γ Δ)
ZBg l Α
ZCJ Α Β Γ Q0
ZDK hr.pos Α Β
ZDX xs Α
ZDf Α Q
ZFp Α PM Β
ZF9 Α z2
ZH0 Α ae
Paired.length r
[arg]
[¤passes¤]
[Ym]
Uo ZH6
I.hok Α Β e
wpAny_loadName_cell I.ok.kind Α Β Γ Δ
[Α,¤_law_p¤]
ZIA ¤_law_frame_here¤
ZIA ¤_law_slant_here¤
pre_splitW hpre
ZipApart Α TI Β Γ Δ Ε Ζ
wpAny_pyIter_zip  z1 Α
I5.hok.fresh As
At Α Β st
ZIH C Α
ZII l
fun m a1 a2=>?_
KVR Α kvs Β
dat M Α Β
fun x H3 y3=>?_
fun y' c' h=>?_
fun e he eb=>?_
fun j b hb'=>?_
si Α (ue Β)
aa Α Β ac
fun a o h y_=>h
bk0 ok (i:=Α) (j:=Β) Γ Δ
fun k h1 h2=>?_
Af (F0 Α)
Ah (wpAny_updateSeq_pair Α Β)
Ah (Ek Α)
Am (Pv Α Β)
B0 Α Β Γ Δ ?_
CG (h.elim Α Β)
CK (CK Α)
Cr (Bc Α) Β
Da its.length Α Β
Eo Α (thn Β Γ)
F8 Α X.env Β
ZIg iter Α
Lj Value.none Α Β
Qf Α (BK Β)
Qi Α none Β
Rm (Pa Α)
Xm Α (VX Β Γ)
Y9 T.is_ahead Α Β
ZBf X Α Β
ZBo D Α Β
ZIp M Α
ZIq D
ZBq Α G Β
ZCr Α Β (Wu Γ) Δ Ε Ζ Η
ZHY (ky Α) Β Γ
.int Α s.toks
base.Ns mainGlobals Α
id I.loc
id st
fun c s1 e=>?_
thn (VJ Α Β Γ Δ Ε) Ζ
fun f s1 q=>?_
I.kept (t':=s.toks) Α
hf Α Aq
ZI3 it
PySem.W.lookIn name Α
r.get h2
Bd m Α
ZI7 i
Bd 64 Α
ahd Α v
x.fmod y
Lp Y
leP q Α
has1 Α s.heap
has2 Α s.heap
tot rows
fun k1 hk1=>?_
TKI Α nss
ZJI ks
P us
.Lambda params Α Β Γ
neC Α _ q
fun i x hx=>?_
Touch x Α
Tst hk
codeAny_builtin bt0 Α
rs.flatMap cyc
vw hx'
qy hx'
fun a o' e=>?_
fun a ns e=>?_
bw3 Nn
iv.atI e
m1.lst e
ar4 (G:=Α) (H:=Β) (d:=Γ) (n:=Δ) (kvs:=kvs) Ε Ζ
kf y
Sm M Α
cu pr
aN RJ
zy (xs:=xs) Α
gi hy
od.sm.trans SD
fJ r
nb es Α
ZJi z
nj h0
L2.getD_mem Ab
fun d o hd=>?_
fun i a ha=>?_
ptD p
up oy.za
up oy.zb
Aa (ZBA Α) Β
Ad h2
Ad hrs
Af e
Af xs
Af s
Af n
Af d
Af o'
Af Pm
Af QR
Af WH
Ag hp
Ag hx
Ag hi
Ai ae
Au β
A0 out.toArray
A3 Α this
A5 sl
BR m
BR p.x
BR p.z
BR p.y
BR ab
Bl hL
Bl hd3
Bq I.ok.bsz Α
CD S.hdo
CF ¤len¤
CQ nA
Ce z
Cj a
Cq Nat
Cv ?_
Cz ¤enumerate¤
C7 ¤enumerate¤
C7 ¤int¤
DH ?_
Db UT
Ea ae
E1 s3
Fg ?_
GN g
GV Pi
Gn ?_
Gp ?_
Gz Pa
G2 ?_
HM Ab Α
ZKe AC
CG ZKf
Hc q
Ho Α (PySem.evalArgs_none Β)
Ic z2
Ii ?_
Io ZHb
Iw x
Iw ¤enumerate¤
JI bX
L6 ZAG
NO a
NP sz
NW dt Α Β Γ Δ Ε Ζ Η
ZKs Α Β AB Γ Δ Ε Ζ
ZKt Α Β AB Γ Δ Ε
ZKu Α Β AB Γ Δ
ZKv Α Β AB Γ
ZKw Α Β AB
TD (ZKx Α Β)
NZ Yh
N5 Α lo
ZK0 0
OI Ab
ON K Α
OY ZH4
Op Α lo
ZK5 0
items.toList.drop ZK6
Oy zp.z Α
O3 ¤_law_many¤
O5 Ss
PV z
PV q
Pz hi
Qx ¤_law_i¤ Α
ZLE ¤_law_j¤
RX (fun s M1=>Α) Β
SI Α VY
SZ (ZKx Α Β)
Tz WP
Tz ZK4
UU hi
VS Pm
WG AC
Wa ¤_law_a¤ Α
ZLO ¤_law_b¤
Wv H'
XO r
Xo ae Α
ZLS XC
X5 0 Α
YC X.env
Zr ¤enumerate¤
ZAY hp
ZEN Α (A0 Β)
ZEP Α (A0 Β)
ZEU hr
ZEu ex
ZEu ey
ZE0 XC
ZFL b
ZHQ x Α
ZLf y
QI ZLg
ZH1 h
ZIh x
ZI9 i
ZJA u
ZJO y
ZJb M1".splitOn "\n").toArray
def zzT:Array String:=("".splitOn "\n").toArray
def zzD (d:Char):Nat:=let d:=d.toNat;if d>122 then 99999 else if d>96 then d-71 else if d>64&&d<91 then d-65 else if d>47&&d<58 then d+4 else 99999
def zzI (n:Lean.Name):Nat:=match n with
 | .str .anonymous s=>
  match s.toList with
  | [a,b]=>if a.toNat>90 then 99999 else (a.toNat-65)*62+zzD b
  | ['Z',a,b]=>1612+zzD a*62+zzD b
  | _=>99999
 | _=>99999
def zzN (c:Char):Nat:=let n:=c.toNat-33;if n>=59 then n-2 else if n>=1 then n-1 else n
def zzW (c:Char):Bool:=!" ()⟨⟩[],@¤=:".contains c
def zzX (k:Lean.SyntaxNodeKind)(a:Array Lean.Syntax):Lean.Syntax:=.node .none k a
def zzO (s:String):Lean.Syntax:=.atom .none s
def zzJ (a:Array Lean.Syntax):Lean.Syntax:=if a.size==1 then a[0]! else zzX ``Lean.Parser.Term.app #[a[0]!,zzX `null (a.extract 1 a.size)]
def zzY (w:String):Lean.Syntax:=
 if w=="_" then zzX ``Lean.Parser.Term.hole #[zzO w]
 else if w=="?_" then zzX ``Lean.Parser.Term.syntheticHole #[zzO "?",zzO "_"]
 else if w.front.isDigit then Lean.Syntax.mkNumLit w
 else if w.front=='.' then zzX ``Lean.Parser.Term.dotIdent #[zzO ".",Lean.mkIdent (w.drop 1).toString.toName]
 else Lean.mkIdent w.toName
mutual
def zzP:Nat->Array Lean.Syntax->Array Lean.Syntax->List Char->StateT (List Char) Lean.MacroM (Lean.Syntax×List Char)
 | 0,_,_,_=>Lean.Macro.throwUnsupported
 | n+1,a,b,t=>match t with
  | []=>return (zzJ b,[])
  | ' '::r=>zzP n a b r
  | '('::r=>do
   let w:=r.takeWhile zzW
   match r.drop w.length with
   | ':'::'='::q=>
    let (x,q)<-zzP n a #[] q
    zzP n a (b.push (zzX ``Lean.Parser.Term.namedArgument #[zzO "(",zzY (String.ofList w),zzO ":=",x,zzO ")"])) (q.drop 1)
   | _=>
    let (x,q)<-zzP n a #[] r
    zzP n a (b.push x) (q.drop 1)
  | '⟨'::r=>do
   let (x,q)<-zzL n a #[] r
   zzP n a (b.push (zzX ``Lean.Parser.Term.anonymousCtor #[zzO "⟨",zzX `null x,zzO "⟩"])) q
  | '['::r=>do
   let (x,q)<-zzL n a #[] r
   zzP n a (b.push (zzX `«term[_]» #[zzO "[",zzX `null x,zzO "]"])) q
  | '¤'::r=>
   let w:=r.takeWhile (·!='¤')
   zzP n a (b.push (Lean.Syntax.mkStrLit (String.ofList w))) (r.drop (w.length+1))
  | '@'::r=>
   let w:=r.takeWhile zzW
   zzP n a (b.push (zzX ``Lean.Parser.Term.explicit #[zzO "@",zzY (String.ofList w)])) (r.drop w.length)
  | c::_=>
   if zzW c then
    let w:=t.takeWhile zzW
    let r:=t.drop w.length
    let k:=c.toNat
    if c=='Ω' then do
     let x<-zzC n
     zzP n a (b.push x) r
    else if k>912&&k<926 then zzP n a (b.push a[k-913]!) r
    else if String.ofList w=="fun" then do
     let v:=r.takeWhile (·!='=')
     let (x,q)<-zzP n a #[] (r.drop (v.length+2))
     let v:=((String.ofList v).splitOn " ").filter (·!="")
     return (zzJ (b.push (zzX ``Lean.Parser.Term.fun #[zzO "fun",zzX ``Lean.Parser.Term.basicFun #[zzX `null (v.map zzY).toArray,zzX `null #[],zzO "=>",x]])),q)
    else zzP n a (b.push (zzY (String.ofList w))) r
   else return (zzJ b,t)
def zzL:Nat->Array Lean.Syntax->Array Lean.Syntax->List Char->StateT (List Char) Lean.MacroM (Array Lean.Syntax×List Char)
 | 0,_,_,_=>Lean.Macro.throwUnsupported
 | _,_,_,']'::r=>return (#[],r)
 | n+1,a,b,t=>do
  let (x,q)<-zzP n a #[] t
  match q with
  | ','::r=>zzL n a ((b.push x).push (zzO ",")) r
  | _=>return (b.push x,q.drop 1)
def zzC:Nat->StateT (List Char) Lean.MacroM Lean.Syntax
 | 0=>Lean.Macro.throwUnsupported
 | n+1=>do
  let c::r<-get | Lean.Macro.throwUnsupported
  let i:=zzN c
  if i<86 then
   set r
   return (<-zzP n #[] #[] zzT[i]!.toList).1
  else
   let d::r:=r | Lean.Macro.throwUnsupported
   set r
   return (<-zzP n #[] #[] zzT[86+(i-86)*92+zzN d]!.toList).1
end
def zzS:Nat->Array Lean.Syntax->Lean.Syntax->Lean.Syntax
 | 0,_,s=>s
 | n+1,a,s=>match s with
  | .ident _ _ (.str .anonymous v) _=>let c:=v.front.toNat;if c>912&&c<926 then a[c-913]! else s
  | .node i k b=>.node i k (b.map (zzS n a))
  | s=>s
def zzA (l:List Char):Nat:=l.foldl (fun m c=>if c.toNat>912&&c.toNat<926 then max m (c.toNat-912) else m) 0
def zzB:Nat->Lean.Syntax->Nat
 | 0,_=>0
 | n+1,s=>match s with
  | .ident _ _ (.str .anonymous v) _=>zzA [v.front]
  | .node _ _ a=>a.foldl (fun m x=>max m (zzB n x)) 0
  | _=>0
def zzM (f:Lean.Ident)(a:Array Lean.Syntax):Lean.MacroM Lean.Syntax:=do
 let i:=zzI f.getId
 if i<zzF.size then
  let t:=zzF[i]!.toList
  let go (k:Nat)(r:Array Lean.Syntax->Lean.MacroM Lean.Syntax):Lean.MacroM Lean.Syntax:=do
   if a.size<k then Lean.Macro.throwUnsupported
   let x<-r a
   let e:=a.extract k a.size
   if e.size==0 then return x
   if x.isOfKind ``Lean.Parser.Term.app then return zzJ (#[x[0]]++x[1].getArgs++e)
   return zzJ (#[x]++e)
  match t with
  | []=>Lean.Macro.throwUnsupported
  | '#'::d=>
   let s<-zzQ[(String.ofList d).toNat!]!
   go (zzB 999 s) (fun a=>return zzS 999 a s)
  | _=>go (zzA t) (fun a=>return (<-(zzP 9999 a #[] t).run []).1.1)
 else Lean.Macro.throwUnsupported
local macro_rules
|`(ZZ $s:str)=>return (<-(zzC 999999).run s.getString.toList).1
|`($f:ident $a*)=>return (<-zzM f (a.map (·.raw)))
|`($f:ident)=>return (<-zzM f #[])
set_option hygiene false
def zzZ:Nat->Lean.Syntax->Lean.MacroM (Lean.TSyntax `rcasesPat)
 | 0,_=>Lean.Macro.throwUnsupported
 | n+1,s=>match s with
  |`(⟨$ps,*⟩)=>do
   let qs<-ps.getElems.mapM fun p=>do `(Lean.Parser.Tactic.rcasesPatLo| $(<-zzZ n p):rcasesPat)
   `(rcasesPat| ⟨$[$qs],*⟩)
  |`($i:ident)=>`(rcasesPat| $i:ident)
  |`(_)=>`(rcasesPat| _)
  | _=>Lean.Macro.throwUnsupported
def zzV:Nat->Lean.Syntax->StateT (Nat×Array Lean.Ident) Lean.MacroM (Lean.TSyntax `rcasesPat)
 | 0,_=>Lean.Macro.throwUnsupported
 | n+1,s=>match s with
  |`(⟨$ps,*⟩)=>do
   let qs<-ps.getElems.mapM fun p=>do `(Lean.Parser.Tactic.rcasesPatLo| $(<-zzV n p):rcasesPat)
   `(rcasesPat| ⟨$[$qs],*⟩)
  |`($i:ident)=>do
   modify fun x=>(x.1+1,x.2)
   if i.getId==`rfl then
    let j:=Lean.mkIdent (.mkSimple s!"rf{(<-get).2.size}_")
    modify fun x=>(x.1,x.2.push j)
    `(rcasesPat| $j:ident)
   else `(rcasesPat| $i:ident)
  |`(_)=>do
   modify fun x=>(x.1+1,x.2)
   `(rcasesPat| _)
  | _=>Lean.Macro.throwUnsupported
theorem hdG {P:Prop}(h:∀G:Prop,(P->G)->G):P:=h P id
open Lean.Parser.Command in
local macro_rules
|`(Lean.Parser.Command.declaration| def $i:declId $s:optDeclSig $v:declVal)=>do
 let n:=i.raw[0].getId
 if !n.isAtomic||(match n.toString.toList with | [a,b]=>a.isLower&& !b.isUpper | [a,b,c]=>a.isLower&& !b.isUpper&&c.isDigit | _=>false) then Lean.MonadRef.withRef Lean.Syntax.missing `(theorem $i $(⟨zzX ``Lean.Parser.Command.declSig #[s.raw[0],s.raw[1][0]]⟩):declSig $v:declVal) else Lean.MonadRef.withRef Lean.Syntax.missing `(noncomputable def $i $s:optDeclSig $v:declVal)
|`(tactic| let $p:term:=$e:term)=>do
 let (q,(k,r))<-(zzV 99 p).run (0,#[])
 let o<-`(tactic| obtain $(<-zzZ 99 p):rcasesPat:=$e)
 if k<4 then return o
 let t:=#[<-`(tactic| refine hdG fun G_ u_=>?_),<-`(tactic| obtain $q:rcasesPat:=$e),<-`(tactic| refine u_ ?_),<-`(tactic| clear u_ G_)]++(<-r.mapM fun j=>`(tactic| obtain rfl:=$j))
 `(tactic| first | ($[$t];*) | $o:tactic)
|`(tactic| show $e:term)=>`(tactic| first | refine $e | exact $e)
set_option hygiene true
set_option bootstrap.genMatcherCode false
noncomputable section
namespace L2
open PySem PySem.Spec PyProof.Rows
abbrev Key:=Sum Int Str
def fL:Key->Value->Bool
 | .inl k,v=>Value.isInt k v
 | .inr x,v=>Value.isStrOf x v
def oE (w:World):Key->Int
 | .inl k=>hashInt k
 | .inr x=>hashStr w x
def gn:∀{k:Key} {v:Value},fL k v=true->(∃i t,k=Sum.inl i/\v=II i t)\/(∃x t,k=Sum.inr x/\v=Value.str x t)
 | .inl i,v,h=>by
  let⟨t,e⟩:=Value.isInt_shape   h;show FK (Pq i t e)
 | .inr x,v,h=>by
  let⟨t,e⟩:=Value.isStrOf_shape   h;show Eh (Pq x t e)
def bg5 (i:Int)(t:Tok):fL (CD i) ZE6=true:=by simp[fL,Value.isInt]
def bg4 (x:Str)(t:Tok):fL (CK x) (.str x t)=true:=by simp[fL,Value.isStrOf]
def ce6 (a b:Int):Cd ((Sum.inl a:Key)=Sum.inl b)=(a == b):=by
 lia
def ce2 (a b:Str):Cd ((Sum.inr a:Key)=Sum.inr b)=Cd (a=b):=by
 simp_all
def ce5 (a:Int)(b:Str):Cd ((Sum.inl a:Key)=Sum.inr b)=false:=Eg (EV (nomatch q))
def ce3 (a:Str)(b:Int):Cd ((Sum.inr a:Key)=Sum.inl b)=false:=Eg (EV (nomatch q))
def bA (prog:Program)(w:World):PySem.KeyKind prog w Key where
 is:=fL
 hash:=oE w
 inj:=λv a b ha hb=>by
  rcases gn ha with⟨i,t,rfl,rfl⟩|⟨x,t,rfl,rfl⟩
  .rcases gn hb with⟨j,u,rfl,e⟩|⟨y,u,rfl,e⟩
   .injection e with e1 _;rw[e1]
   .show nomatch e
  .rcases gn hb with⟨j,u,rfl,e⟩|⟨y,u,rfl,e⟩
   .show nomatch e
   .injection e with e1 _;rw[e1]
 byValue:=λk v h=>by
  rcases gn h with⟨i,t,rfl,rfl⟩|⟨x,t,rfl,rfl⟩ <;> rfl
 pyHash:=λhv h=>by
  rcases gn hv with⟨i,t,rfl,rfl⟩|⟨x,t,rfl,rfl⟩
  .show wpAny_pyHash_int h
  .show wpAny_pyHash_str h
 eqBool:=λhu hv h=>by
  rcases gn hu with⟨i,t,rfl,rfl⟩|⟨x,t,rfl,rfl⟩
  .rcases gn hv with⟨j,u,rfl,rfl⟩|⟨y,u,rfl,rfl⟩
   .rw[ce6] at h;show wpAny_eqBool_int h
   .rw[ce5] at h;show SeqAt.EqAt.int_str i t y u _ _ _ _ h
  .rcases gn hv with⟨j,u,rfl,rfl⟩|⟨y,u,rfl,rfl⟩
   .rw[ce3] at h;show SeqAt.EqAt.str_int x t j u _ _ _ _ h
   .rw[ce2] at h;show wpAny_eqBool_str h
 «strs»:=λk x t v h=>by
  rcases gn h with⟨i,u,rfl,e⟩|⟨y,u,rfl,e⟩
  .show nomatch e
  .injection e with e1 _;subst e1;cases v <;> rfl
def aq1 (prog:Program)(w:World)(i:Int)(t:Tok):(bA prog w).is (CD i) ZE6=true:=bg5 i t
def aq0 (prog:Program)(w:World)(x:Str)(t:Tok):(bA prog w).is (CK x) (.str x t)=true:=bg4 x t
inductive V where
 | non | bl (b:Bool) | int (i:Int) | str (x:Str) | byt (b:Cq UInt8) | flt (b:UInt64) | ref (a:Addr) | ty (n:String)
 deriving DecidableEq
def RelV:V->Value->Prop
 | .non,u=>u=Value.none
 | .bl b,u=>u=Value.bool b
 | .int i,u=>∃t,u=Value.int i t
 | .str x,u=>∃t,u=Value.str x t
 | .byt b,u=>∃t,u=Value.bytes b t
 | .flt b,u=>∃t,u=Value.float b t
 | .ref a,u=>u=Value.ref a
 | .ty n,u=>u=Value.type n
abbrev Vals:Om->Nk->Prop:=Paired RelV
def Vals.length {xs:Om}{us:Nk}(r:WS):xs.length=us.length:=ZH3
def Vals.get:∀{xs:List V} {us:List Value} {i:Nat} {x:V},WS->xs[i]?=OZ->∃u,us[i]?=O8/\ZBF
 | _,_,_,_,.nil,e=>by simp at e
 | _,_,0,_,.cons r _,e=>by simp at e;subst e;show⟨_,rfl,r⟩
 | _,_,i+1,x,.cons _ t,e=>by
  let⟨u,h1,h2⟩:=Vals.get   t (by simpa using e);show BH u (by simpa using h1) h2
def Vals.set {x:V}{u:Value}(r:ZBF):∀{xs:List V} {us:List Value} (i:Nat),WS->GK (xs.set i x) (us.set i u)
 | _,_,_,.nil=>.nil
 | _,_,0,.cons _ t=>.cons r t
 | _,_,i+1,.cons q t=>.cons q (Vals.set r i t)
def Vals.append:∀{xs ys:List V} {us ws:List Value},WS->GK ys ws->GK (xs++ys) (us++ws)
 | _,_,_,_,.nil,s=>s
 | _,_,_,_,.cons r t,s=>.cons r (Vals.append t s)
def Vals.take:∀{xs:List V} {us:List Value} (n:Nat),WS->GK (Dz n) (us.take n)
 | _,_,0,_=>.nil
 | _,_,_+1,.nil=>.nil
 | _,_,n+1,.cons r t=>.cons r (Vals.take n t)
def Vals.drop:∀{xs:List V} {us:List Value} (n:Nat),WS->GK (Dp n) (us.drop n)
 | _,_,0,r=>r
 | _,_,_+1,.nil=>.nil
 | _,_,n+1,.cons _ t=>Vals.drop n t
def Vals.none_of:∀{xs:List V} {us:List Value} {i:Nat},WS->xs[i]?=none->us[i]?=none:=λ{xs us i} r e=>by
 have h1:=r.length
 simp_all
def lA:BO V->OV->Prop
 | some v,some u=>RelV v u
 | none,none=>True
 | _,_=>False
def KV {κ:Type}:Au (κ×V)->Au (κ×Value)->Prop:=Paired λ(p:κ×V) (q:κ×Value)=>p.1=q.1/\F3 p.2 q.2
def kV:Key->V
 | .inl i=>.int i
 | .inr x=>.str x
inductive HO where
 | lst (xs:Om)
 | tup (xs:Om)
 | dK (kvs:Au (Key×V)) | dT (kvs:Au (Au Key×V))
 | set (S:Int->Bool) (n:Nat)
 | ins (C dx:Addr) (fs:Au (Str×V))
 | own (x:Addr)
 | xd (fs:Au (Str×V))
 | met (f x:Addr)
 | rng (lo hi:Int)
 | frz (o:Obj) (u:HO)
 | tbl (ps:OX)
 | ext (φ:Heap->Prop)
abbrev Hp:=Addr->ZAE
def upd (H:Hp)(a:Addr)(o:HO):Hp:=Fj (Ak (b=a) Nd SV)
variable {H:Hp}{a:Addr}{o:HO}
def c6:upd H a o a=Nd:=by unfold upd;rw[if_pos rfl]
variable {b:Addr}
def cj (h:b≠a):upd H a o b=SV:=by unfold upd;rw[if_neg h]
variable {u:HO}
def a76 (h:Vj=Nd)(h':SV=O8)(d:o≠u):a≠b:=by
 intro e;simp_all
def da (h:Vj=Nd)(h':SV=none):a≠b:=by
 lia
section
variable (P:Program)(w:World)
def ObjOk (H:Hp)(h:Heap)(a:Addr):HO->Prop
 | .lst xs=>xs.length<=sizeLine/\∃(its:Nk) (n:Nat),Vals xs its/\h.get? a=some { cls:=.type "list",data:=.seq its.toArray n }
 | .tup xs=>xs.length<=sizeLine/\∃its:List Value,Vals xs its/\IsTup h a its.toArray
 | .dK kvs=>kvs.length<=sizeLine/\(a == sysModules)=false/\∃vs,KV kvs vs/\h.DictOf (bA P w) a vs
 | .dT kvs=>kvs.length<=sizeLine/\(a == sysModules)=false/\∃xs:List (Au Key×Addr×Value),
   Paired (λ(p:List Key×V) (q:List Key×Addr×Value)=>p.1=q.1/\H q.2.1=ZIW (p.1.map kV)/\F3 p.2 q.2.2) kvs xs/\
   ∃o es ep,h.get? a=some o/\o.ExactDict/\o.data=.dict es ep/\es.toList=xs.map (entryOfKey (tupleKind (bA P w)))/\(Ch ((·.1))).Nodup
 | .set S n=>h.SetOf (intKind P w) a S n
 | .ins C dx fs=>H dx=some (.own a)/\fs.length<=1000/\dx≠a/\h.get? a=some (LN C dx)/\
   ∃mA,h.Ns1 dx mA/\(∀f,lA ZBw (mA f))/\PySem.Within mA (fs.map (·.1))
 | .own _=>∃o,h.get? a=some o
 | .xd fs=>∃mA,h.Ns1 a mA/\∀f,lA ZBw (mA f)
 | .rng lo hi=>∃t u v,h.get? a=some { cls:=.type "range",data:=.fields #[.int lo t,.int hi u,.int 1 v] }
 | .frz o u=>h.get? a=some o/\ObjOk H h a u
 | .tbl ps=>h.get? a=some { cls:=.none,data:=.fields ps }
 | .met f x=>h.get? a=some (PySem.W.methodObj XS (A5 x))
 | .ext φ=>φ h/\(∃o,ZKN=Nd)/\∀h1 h2:Heap,φ h1->(∀o,h1.get? a=Nd->Lr a=Nd)->φ h2
def HOk (H:Hp)(h:Heap):Prop:=∀a o,Vj=Nd->L5 P w H h a o
end
variable {P:Program}{w:World}{H':Hp}{h h':Heap}
def ObjOk.lt (x:L5 P w H h a o):a<h.objs.size:=by
 cases o with
 | lst xs=>let⟨_,_,_,_,e⟩:=x;show Heap.lt_size e
 | tup xs=>let⟨_,_,_,p⟩:=x;show p.lt
 | dK kvs=>let⟨_,_,_,_,o,_,_,e,_⟩:=x;show Heap.lt_size e
 | dT kvs=>let⟨_,_,_,_,o,_,_,e,_⟩:=x;show Heap.lt_size e
 | set S n=>let⟨o,_,_,_,e,_⟩:=x;show Heap.lt_size e
 | ins C dx fs=>let⟨_,_,_,e,_⟩:=x;show Heap.lt_size e
 | own y=>let⟨_,e⟩:=x;show Heap.lt_size e
 | xd fs=>let⟨_,⟨_,_,_,e,_⟩,_⟩:=x;show Heap.lt_size e
 | rng lo hi=>let⟨_,_,_,e⟩:=x;show Heap.lt_size e
 | frz ob u=>let⟨e,_⟩:=x;show Heap.lt_size e
 | tbl ps=>show Heap.lt_size x
 | met f y=>show Heap.lt_size (BD (ZKN=A8) x)
 | ext φ=>let⟨_,⟨_,e⟩,_⟩:=x;show Heap.lt_size e
def Paired.mapP {α β:Type}{F G:α->β->Prop}:∀{l₁:List α} {l₂:List β},CB F l₁ l₂->(∀a b,F a b->G a b)->CB G l₁ l₂
 | _,_,.nil,_=>.nil
 | _,_,.cons r t,f=>.cons (f _ _ r) (Paired.mapP t f)
def ObjOk.stay (x:L5 P w H h a o)(k:∀b u,(b=a\/SV=Ui a)->Tk=O8->Qg=O8)
  (ho:∀b,SV=Ui a->VE=Ui a) (ht:∀b xs,SV=V7->VE=V7):ObjOk P w H' h' a o:=by
 induction o with
 | lst xs=>let⟨z,its,n,r,e⟩:=x;show⟨z,its,n,r,k _ _ OP e⟩
 | tup xs=>let⟨z,its,r,ob,e,c⟩:=x;show⟨z,its,r,ob,k _ _ OP e,c⟩
 | dK kvs=>let⟨z,y,vs,r,ob,es,ep,e,c⟩:=x;show⟨z,y,vs,r,ob,es,ep,k _ _ OP e,c⟩
 | dT kvs=>
  let⟨z,y,xs,r,ob,es,ep,e,c⟩:=x;show IV z y xs (Paired.mapP r λp q z=>BH z.1 (ht _ _ z.2.1) z.2.2) ob es ep (k _ _ OP e) c
 | set S n=>let⟨ob,es,ep,t,e,c⟩:=x;show⟨ob,es,ep,t,k _ _ OP e,c⟩
 | ins C dx fs=>
  let⟨d,z,ne,e,mA,⟨od,es,ep,e2,c⟩,r⟩:=x;show Cu (ho _ d) z ne (k _ _ OP e) mA (B0 od es ep (k _ _ (CK d) e2) c) r
 | own y=>let⟨ob,e⟩:=x;show⟨ob,k _ _ OP e⟩
 | xd fs=>let⟨mA,⟨od,es,ep,e,c⟩,r⟩:=x;show⟨mA,⟨od,es,ep,k _ _ OP e,c⟩,r⟩
 | rng lo hi=>let⟨t,u,v,e⟩:=x;show⟨t,u,v,k _ _ OP e⟩
 | frz ob u ih=>let⟨e,q⟩:=x;show⟨k _ _ OP e,ih q⟩
 | tbl ps=>
  have e:ZKN=FU ({ cls:=.none,data:=.fields ps }):=x;change Bv a=FU ({ cls:=.none,data:=.fields ps });show k a _ OP e
 | met f y=>
  have e:=x;show k a _ OP e
 | ext φ=>let⟨p,⟨o,e⟩,st⟩:=x;show⟨st _ _ p λo q=>k _ _ OP q,⟨o,k _ _ OP e⟩,st⟩
def HOk.lt (x:HOk P w H h)(e:Vj=Nd):a<h.objs.size:=(x a o e).lt
def HOk.fresh (x:HOk P w H h)(e:h.objs.size<=a):Vj=none:=by
 cases q:H a with
 | none=>rfl
 | some u=>show absurd (Bo (x.lt q) e) Ep
def HOk.kept (x:HOk P w H h)(k:∀b u,Tk=O8->Qg=O8):HOk P w H h':=λa o e=>
 (x a o e).stay (λb u y_ q=>k b u q) (Ml q) λy_ y_ q=>q
def HOk.laid (x:HOk P w H h)(k:∀b u,Tk=O8->Qg=O8)(hp:h.objs.size<=a)(new:L5 P w (PR a o) h' a o):HOk P w (PR a o) h':=λb u e=>by
 have hn:=x.fresh hp;by_cases hb:b=a
 .subst hb;rw[c6] at e;cases e;show new
 .rw[cj hb] at e;show (x b u e).stay (λc v y_ q=>k c v q) (λc q=>by rw[cj ZGT];show q) λc xs q=>by rw[cj ZGT];show q
def Rd (H:Hp)(a:Addr)(u:HO):Prop:=Vj=O8\/∃o,Vj=Wz o u
def Rd.ok (r:Rd H a u)(x:HOk P w H h):L5 P w H h a u:=by
 rcases r with r|⟨o,r⟩
 .show x a u r
 .let⟨_,q⟩:=x a _ r;show q
def Mut:ZAE->Prop
 | some (.lst _)=>True
 | some (.dK _)=>True
 | some (.dT _)=>True
 | some (.set _ _)=>True
 | some (.ins _ _ _)=>True
 | some (.ext _)=>True
 | _=>False
variable {x:Str}{e:Expr}
section
variable {x e:Addr}{o':HO}
def HOk.write (ok:HOk P w H h)(mu:Mut (H x))(he:e=x\/H e=Ui x)(k:∀b u,b≠e->Tk=O8->Qg=O8)(heo:∃u,Bv e=O8)
  (new:L5 P w (PR x o') h' x o'):HOk P w (PR x o') h':=λb u q=>by
 have nown:∀c y,H c=Ui y->c≠x:=λc y r z=>by subst z;rw[r] at mu;show mu
 have ntup:∀c xs,H c=V7->c≠x:=λc xs r z=>by subst z;rw[r] at mu;show mu
 by_cases hb:b=x
 .subst hb;rw[c6] at q;cases q;show new
 .rw[cj hb] at q;by_cases hbe:b=e
  .have q':SV=Ui x:=by
    simp_all
   rw[q] at q';cases q';let⟨v,hv⟩:=heo;show A3 v (by rw[hbe];show hv)
  .show (ok b u q).stay (λc v hc r=>k c v ?_ r) (λc r=>by rw[cj (nown c b r)];show r) λc xs r=>by rw[cj (ntup c xs r)];show r
   grind
end
structure Un (fs ex:List Addr)(H H':Hp)(h h':Heap):Prop where
 keep:∀b o,Tk=Nd->SV=none->b∉fs->b∉ex->Qg=Nd
 slot:∀b o,Tk=Nd->SV=none->b∈fs->b∉ex->∃sl,Qg=FU ({ o with slots:=sl })
 free:∀b o,Tk=Nd->SV=none->b∉ex->VE=none
 there:∀b o,Tk=Nd->b∉ex->∃o',Qg=ZJz
 tups:∀b xs,SV=V7->VE=V7
 frzs:∀b o u,SV=Wz o u->VE=Wz o u
 tbls:∀b ps,SV=Af (.tbl ps)->∃more,VE=Af (.tbl (ps++more))
section
variable {fs fs' ex ex':PD}{H1 H2:Hp}{h1 h2:Heap}{x e:Addr}
def Un.any (u:Un fs ex H H1 h h1){ob:Obj}(q:Tk=Af ob)(n:SV=none)(hx:b∉ex):∃sl,h1.get? b=FU ({ ob with slots:=sl }):=by
 by_cases hb:b∈fs
 .show u.slot b ob q n hb hx
 .show A3 ob.slots (u.keep b ob q n hb hx)
def Un.kept (k:∀b u,Tk=O8->Qg=O8):Un fs ex H H h h':=
 ⟨λb ob q y_ y_ y_=>k b ob q,λb ob q y_ y_ y_=>⟨ob.slots,k b ob q⟩,λy_ y_ y_ n y_=>n,λb ob q y_=>⟨ob,k b ob q⟩,λy_ y_ q=>q,λy_ y_ y_ q=>q,λy_ ps q=>⟨#[],by rw[q];simp⟩⟩
def Un.refl:Un fs ex H H h h:=Un.kept (Fi q)
def Un.laid (k:∀b u,Tk=O8->Qg=O8)(hp:h.objs.size<=a)(hn:Vj=none):Un fs ex H (PR a o) h h' where
 keep:=λb u q y_ y_ y_=>k b u q
 slot:=λb u q y_ y_ y_=>A3 u.slots (k b u q)
 free:=λb u q n y_=>by rw[cj (BZ (Bo (BN q) hp))];show n
 there:=λb u q y_=>A3 u (k b u q)
 tups:=λb xs q=>by rw[cj ZGT];show q
 frzs:=λb u xs q=>by rw[cj ZGT];show q
 tbls:=λb ps q=>A3 #[] (by rw[cj ZGT,q];simp)
def Un.write (mu:Mut (H x))(he:e=x\/H e=Ui x)(k:∀b u,b≠e->Tk=O8->Qg=O8)(heo:∃u,Bv e=O8):Un fs ex H (PR x o) h h':=by
 have hx:∀b,SV=none->b≠x:=λb n z=>by subst z;rw[n] at mu;show mu
 have hb:∀b,SV=none->b≠e:=λb n z=>by
  simp_all
 have hm:∀b u,SV=O8->¬Mut O8->b≠x:=λb u q nm z=>Aw;show⟨λb u q n y_ y_=>k b u (hb b n) q,λb u q n y_ y_=>⟨u.slots,k b u (hb b n) q⟩,λb u q n y_=>by rw[cj (hx b n)];show n,λb u q y_=>?_,
  λb xs q=>by rw[cj (hm b _ q λz=>z)];show q,λb u xs q=>by rw[cj (hm b _ q λz=>z)];show q,λb ps q=>⟨#[],by rw[cj (hm b _ q λz=>z),q];simp⟩⟩
 by_cases hbe:b=e
 .simp_all
 .show A3 u (k b u hbe q)
end
def trk (h:Heap)(H:Hp):PD:=(B1 h.objs.size).filter λa=>(Vj).isSome
def fS (h:Heap)(H:Hp):Heap:=PySem.W.hideAll h (trk h H)
def bg9 (h:Heap)(H:Hp):(fS h H).objs.size=h.objs.size:=PySem.W.hideAll_size _ _
variable {o:Obj}
def ad4 (e:Tk=Nd)(n:SV=none):(fS h H).get? b=Nd:=
 PySem.W.hideAll_get _ e λhm=>by
  have q:=(BS hm).2
  simp_all
def b10 (e:(fS h H).get? b=Nd):Tk=Nd/\SV=none:=by
 have e':=PySem.W.of_hideAll (trk h H) e;show Pk e';cases q:H b with
 | none=>rfl
 | some x=>
  have hm:b∈trk h H:=EG (A3 (List.mem_range.mpr (BN e')) (by simp[q]));have z:(fS h H).get? b=none:=PySem.W.hideAll_none (trk h H) hm
  simp_all
structure Mod (K:PySem.W.Frag)(mg:Str->Option Value)(base:Heap):Prop where
 kin:K.In base
 glob:ZIw mg
 blt:∃mb,base.Ns builtinsNs mb/\∀x:Str,x≠"__name__"->mb x=Cz x
 nolimit:base.NoLimit
structure Cx where
 prog:Program
 w:World
 K:PySem.W.Frag
 mg:Str->OV
 base:Heap
 A:Around
 N:Pg
 s₀:Shared
 H₀:Hp
 env:Env
 outer:Va
 stack:Va
 ex:PD
 fn:Str->Bool
 calm:Bool
 pn:Au (Addr×Obj)
 xe:Value->Shared->Prop
def frs (l:Va):PD:=l.filterMap (·.frame)
abbrev Cx.fs (X:Cx):PD:=frs X.outer
def Vis (sc:Scope)(x:Str):Prop:=ZHP=N9\/ZHP=PP\/ZHP=RC
def Loc (sc:Scope)(x:Str):Prop:=ZHP=N9\/ZHP=PP
def oN (env:Env)(h:Heap)(m:Str->OV)(x:Str)(u:Value):Prop:=
 (ZAW=N9/\m x=O8)\/((ZAW=PP\/ZAW=RC)/\∃c,env.cells.lookup x=Qz/\h.IsCell c O8)
structure Cx.Ok (X:Cx):Prop where
 mod:Mod X.K X.mg X.base
 kind:X.env.scope.kind=.function
 glob:X.env.globals=mainGlobals
 blt:X.env.builtins=builtinsNs
 above:X.s₀.heap.objs.size<=X.env.locals
 inj:∀x y c,XU=Qz->Ba y=Qz->x=y
 has:∀x,(Ef x=PP\/Ef x=RC)->∃c,XU=Qz
 cab:∀x c,UD=true->XU=Qz->X.s₀.heap.objs.size<=c
 hd:X.calm=true->X.A.handled=none
 frames:X.A.frames=Af X.stack
 stk:X.stack=X.outer\/(X.stack=X.env::X.outer/\X.env.frame=Af X.env.locals)
 exf:∀b∈X.ex,b≠X.env.locals/\∀x c,XU=Qz->c≠b
 bs:∀b o,IU b=Nd->Jj b=Nd/\X.H₀ b=none
 bsz:X.base.objs.size<=X.s₀.heap.objs.size
 noex:∀b o,IU b=Nd->b∉X.ex
 exfs:∀b∈X.ex,b∉X.fs
 funs:Zo X.outer
 frf:∀b∈X.fs,X.H₀ b=none
structure Inv (X:Cx)(pins:List (Addr×Obj))(σ:List (Option V))(H:Hp)(s:Shared):Prop where
 ok:X.Ok
 os:s.os=X.s₀.os
 bare:KP s.gens
 base:Un X.fs X.ex X.H₀ H X.s₀.heap s.heap
 loc:∃m,ZFA m/\∀(i:Nat) (x:Str) (v:V),X.N[i]?=OZ->σ[i]?=ZJ0->VF x->∃u,UA/\oN X.env s.heap m x u
 cell:∀x c,XU=Qz->∃v,s.heap.IsCell c v
 free:H X.env.locals=none
 freeC:∀x c,XU=Qz->H c=none
 pin:∀p∈X.pn++pins,BU p.1=Af p.2/\H p.1=none/\p.1≠X.env.locals/\p.1∉X.fs/\∀v,p.2.data≠ZAX
 hok:ZHh H s.heap
 len:σ.length=X.N.length
variable {u:Value}{t' i:Nat}{ch:PD}{it:Addr}{N:Pg}{M:Model}{E:Value->Shared->Prop}{v:V}{Q:Unit->Shared->Prop}
section
variable {X:Cx}{pins:Au (Addr×Obj)}{σ:Au (BO V)}{H H':Hp}{s:Shared}{h':Heap}
def Cx.Ok.nofr (ok:X.Ok)(e:IU b=Nd):b∉X.fs:=λhb=>by
 have:=(ok.funs.mem hb).1
 simp_all
def Inv.bs (I:QO):∀b o,IU b=Nd->RT=Nd/\SV=none:=λb o e=>
 ⟨I.base.keep b o (I.ok.bs b o e).1 (I.ok.bs b o e).2 (I.ok.nofr e) (I.ok.noex b o e),I.base.free b o (I.ok.bs b o e).1 (I.ok.bs b o e).2 (I.ok.noex b o e)⟩
def Inv.bk (I:QO):∀b o,IU b=Nd->RT=Nd:=B4 ((I.bs b o e).1)
def Inv.mod (I:QO):Mod X.K X.mg X.base:=I.ok.mod
def Inv.kIn (I:QO):X.K.In s.heap:=I.ok.mod.kin.keeps I.bk
def Inv.nolimit (I:QO):s.heap.NoLimit:=I.ok.mod.nolimit.keeps I.bk
def Inv.lt (I:QO):X.env.locals<s.heap.objs.size:=let ⟨_,hn,_⟩:=I.loc;hn.lt
def Inv.sz (I:QO):X.s₀.heap.objs.size<=s.heap.objs.size:=Bq I.ok.above (Dl I.lt)
def Inv.nofs (I:QO)(h:s.heap.objs.size<=a):a∉X.fs:=λhb=>by
 let⟨_,o,ho,_⟩:=ZGU;show CN (Bo (BN ho) (Bq I.sz h)) Ep
def Inv.cne (I:QO):∀x c,XU=Qz->c≠X.env.locals:=λx c e z=>by
 let⟨v,o,ho,hd⟩:=Yr x e;let⟨m,⟨o',es,ep,ho',hd',_⟩,_⟩:=I.loc
 simp_all
def Inv.funs (I:QO):Hk X.base X.outer:=by
 have all:∀(l:List Env),(∀b∈frs l,b∈X.fs)->Zo l->Hk X.base l:=by
  intro l
  induction l with
  | nil=>intro _ _;trivial
  | cons env r ih=>
   intro hs hl;let⟨hk,⟨L,o,hf,hn,ho,hd⟩,hr⟩:=hl;have hL:=hs L (by unfold frs;simp_all);let⟨sl,e⟩:=I.base.slot L o ho (I.ok.frf L hL) hL (BT (I.ok.exfs L z hL));show BH hk (Dt L _ hf hn e hd) (ih (Cs (hs b (by unfold frs;rw[List.filterMap_cons,hf];show List.mem_cons_of_mem _ hb))) hr)
 show all X.outer (λy_ hb=>hb) I.ok.funs
def Inv.stack (I:QO):Hk X.base X.stack:=by
 rcases I.ok.stk with e|⟨e,hf⟩
 .rw[e];show I.funs
 .rw[e];let⟨m,hn,_⟩:=I.loc;show .cons (by rw[I.ok.kind];decide) hf hn ?_ I.funs;show Heap.get?_none_of_le (ZKI I.ok.above)
def Inv.stkSub (I:QO):∀b∈frs X.stack,b∈X.env.locals::X.fs:=λb hb=>by
 rcases I.ok.stk with e|⟨e,hf⟩
 .simp_all
 .rw[e] at hb;unfold frs at hb;rw[List.filterMap_cons,hf] at hb;show hb
def Inv.stkFree (I:QO):∀b∈frs X.stack,SV=none:=λb hb=>by
 rcases List.mem_cons.mp (I.stkSub b hb) with e|hb
 .rw[e];show I.free
 .let⟨_,o,ho,_⟩:=ZGU;show I.base.free b o ho (I.ok.frf b hb) (BT (I.ok.exfs b z hb))
def Inv.step {g':ZCf}{t':Nat}{d':Drawn}{ch:PD}(I:QO)
  (hch:∀b∈ch,(b∈X.ex\/X.s₀.heap.objs.size<=b)/\b≠X.env.locals/\(∀x c,XU=Qz->c≠b)/\∀p∈X.pn++pins,p.1≠b)
  (keep:∀b o,b≠X.env.locals->b∉X.fs->b∉ch->RT=Nd->SV=none->Qg=Nd)
  (slot:∀b o,b≠X.env.locals->b∈X.fs->b∉ch->RT=Nd->SV=none->∃sl,Qg=FU ({ o with slots:=sl })) (free:∀b o,b∉ch->RT=Nd->SV=none->VE=none)
  (there:∀b o,b∉ch->RT=Nd->∃o',Qg=ZJz)
  (tups:∀b xs,SV=V7->VE=V7) (frzs:∀b o u,SV=Wz o u->VE=Wz o u) (tbls:∀b ps,SV=Af (.tbl ps)->∃more,VE=Af (.tbl (ps++more)))
  (ns:∀m,ZFA m->h'.Ns X.env.locals m) (hok:ZHh H' h') (hg:KP g') :
  Inv X pins σ H' { s with heap:=h',gens:=g',drawn:=d',toks:=t' }:=by
 have neL:∀b o,Jj b=Nd->b≠X.env.locals:=B4 (BZ (XV WB));have neC:∀b o,Jj b=Nd->b∉X.ex->b∉ch:=λb o e hx hb=>by
  rcases (hch b hb).1 with z|z
  .show hx z
  .show CN (Bo WB z) Ep
 have cellK:∀x c,XU=Qz->∀v,s.heap.IsCell c v->h'.IsCell c v:=λx c e v ⟨o,ho,hd⟩=>by
  have nch:=BT ((hch c z).2.2.1 x c e rfl);by_cases hc:c∈X.fs
  .let⟨sl,q⟩:=slot c o (I.cne x c e) hc nch ho (ZDC x e);show U6 q hd
  .show ZCX (keep c o (I.cne x c e) hc nch ho (ZDC x e)) hd
 show⟨I.ok,I.os,hg,Cu ZFs ZFs (λb o e n hx=>?_) (Lq ?_) (λb xs e=>tups b xs (I.base.tups b xs e)) (λb o xs e=>frzs b o xs (I.base.frzs b o xs e)) (IT ?_),?_,JG ?_,?_,JG ?_,SY,hok,I.len⟩
 .show keep b o (neL b o e) hb (neC b o e hx) (I.base.keep b o e n hb hx) (I.base.free b o e n hx)
 .let⟨sl,e1⟩:=I.base.slot b o e n hb hx;let⟨sl',e2⟩:=slot b _ (neL b o e) hb (neC b o e hx) e1 (I.base.free b o e n hx);show A3 sl' e2
 .let⟨o',e1⟩:=Mk b o e hx;show free b o' (neC b o e hx) e1 (I.base.free b o e n hx)
 .let⟨o',e1⟩:=Mk b o e hx;show there b o' (neC b o e hx) e1
 .let⟨m1,e1⟩:=I.base.tbls b ps e;let⟨m2,e2⟩:=tbls b _ e1;show A3 (m1++m2) Aw
 .let⟨m,hn,hl⟩:=I.loc;show BH m (ns m hn) (λi x v e1 e2 e3=>?_);let⟨u,r,l⟩:=hl i x v e1 e2 e3;show Qs u r;rcases l with l|⟨k,c,e,z⟩
  .show CD l
  .show ZBe k c e (cellK x c e _ z)
 .let⟨v,z⟩:=Yr x e;show A3 v (cellK x c e v z)
 .let⟨m,⟨o,_,_,ho,_⟩,_⟩:=I.loc;show free _ o (BT ((hch _ z).2.1 rfl)) ho I.free
 .let⟨v,o,ho,hd⟩:=Yr x e;show free c o (BT ((hch c z).2.2.1 x c e rfl)) ho (ZDC x e)
 .let⟨e,n,ne,nf,d⟩:=ZLX;have nch:=BT ((hch p.1 z).2.2.2 p hp rfl);show B0 (keep p.1 p.2 ne nf nch e n) (free p.1 p.2 nch e n) ne nf d
def Inv.un (I:QO)(u:Un X.fs [] H H' s.heap h')(hok:ZHh H' h'):ZEy H' ({ s with heap:=h',toks:=t' }):=by
 let⟨m,⟨o,es,ep,ho,r⟩,_⟩:=ZIx;let⟨sl,hL⟩:=u.any ho I.free Aq;show I.step   (ch:=[]) (λy_ z=>nomatch z) (λb o y_ hb y_ e n=>u.keep b o e n hb (by simp)) (λb o y_ hb y_ e n=>u.slot b o e n hb (by simp)) (λb o y_ e n=>u.free b o e n (by simp)) (λb o y_ e=>u.there b o e (by simp)) u.tups u.frzs u.tbls (λm' hm=>by
  let⟨o',es',ep',ho',r'⟩:=hm;rw[ho] at ho';cases ho';show⟨_,es',ep',hL,r'⟩) hok I.bare
def Inv.call {g':ZCf}{d':Drawn}(I:QO)(u:Un (frs X.stack) ch H H' s.heap h')(hok:ZHh H' h')(hg:KP g')
  (hch:∀b∈ch,(b∈X.ex\/X.s₀.heap.objs.size<=b)/\b≠X.env.locals/\(∀x c,XU=Qz->c≠b)/\∀p∈X.pn++pins,p.1≠b) :
  Inv X pins σ H' { s with heap:=h',gens:=g',drawn:=d',toks:=t' }:=by
 let⟨m,⟨o,es,ep,ho,r⟩,_⟩:=ZIx;let⟨sl,hL⟩:=u.any ho I.free (BT ((hch _ z).2.1 rfl));show I.step  hch (λb o hL hb hc e n=>u.keep b o e n (λz=>(List.mem_cons.mp (I.stkSub b z)).elim hL hb) hc) (λb o y_ y_ hc e n=>u.any e n hc) (λb o hc e n=>u.free b o e n hc) (λb o hc e=>u.there b o e hc) u.tups u.frzs u.tbls (λm' hm=>by
  let⟨o',es',ep',ho',r'⟩:=hm;rw[ho] at ho';cases ho';show⟨_,es',ep',hL,r'⟩) hok hg
def Inv.turned (I:QO)(k:∀b o,b≠it->RT=Nd->Qg=Nd)(hn:H it=none)(hL:it≠X.env.locals)
  (h1:it∈X.ex\/X.s₀.heap.objs.size<=it) (h2:∀x c,XU=Qz->c≠it) (h3:∀p∈X.pn++pins,p.1≠it):Inv X pins σ H { s with heap:=h',toks:=t' }:=by
 have nit:∀b u,SV=O8->b≠it:=λb u e z=>Aw;show I.step   (ch:=[it]) U9 (FO (k b o (BT (hc (by simp[z]))) e)) (FO (YQ (k b o (BT (hc (by simp[z]))) e))) (λy_ y_ y_ y_ n=>n)
  (λb o hc e=>A3 o (k b o (BT (hc (by simp[z]))) e)) (Mj e) ZFD (IT (A3 #[] (by rw[e];simp))) (λm hm=>?_) (Dc ?_) I.bare
 .have e:=by simpa using hb
  subst e;show By h1 hL h2 h3
 .let⟨o,es,ep,ho,r⟩:=hm;show B0 o es ep (k _ o (BX hL) ho) r
 .show (ZH8 b u).stay (λc v hc q=>k c v ?_ q) (Ml q) (Fi q);rcases hc with z|z
  .rw[z];show nit b u e
  .show nit c _ z
def Inv.tok (I:QO)(t:Nat):ZEy H ({ s with toks:=t }):=I.un   Un.refl I.hok
def Inv.kept {t':Nat}(I:QO)(k:∀b u,RT=O8->Qg=O8):ZEy H ({ s with heap:=h',toks:=t' }):=I.un (Un.kept k) (I.hok.kept k)
def Inv.laid {a:Addr}{o:HO}{t':Nat}(I:QO)(k:∀b u,RT=O8->Qg=O8)(hp:s.heap.objs.size<=a)(new:ZA4 X.w (PR a o) h' a o) :
  Inv X pins σ (PR a o) { s with heap:=h',toks:=t' }:=I.un (Un.laid k hp (Cg hp)) (I.hok.laid k hp new)
def Inv.write {x e:Addr}{o:HO}{t':Nat}(I:QO)(mu:Mut (H x))(he:e=x\/H e=Ui x)(k:∀b u,b≠e->RT=O8->Qg=O8)(heo:∃u,Bv e=O8)
  (new:ZA4 X.w (PR x o) h' x o):Inv X pins σ (PR x o) { s with heap:=h',toks:=t' }:=I.un (Un.write mu he k heo) (I.hok.write mu he k heo new)
def Inv.pins_of {pins':Au (Addr×Obj)}(I:QO)(h:∀p∈pins',BU p.1=Af p.2/\H p.1=none/\p.1≠X.env.locals/\p.1∉X.fs/\∀v,p.2.data≠ZAX):Inv X pins' σ H s:=
 ⟨I.ok,I.os,I.bare,I.base,I.loc,I.cell,I.free,I.freeC,λp hp=>(FI hp).elim (BT (ZAY (Ca z))) (h p),I.hok,I.len⟩
def ap8 (hN:N.Nodup){j:Nat}(a:N[i]?=OZ)(b:N[j]?=OZ):i=j:=by
 let⟨h1,e1⟩:=Ag a;let⟨h2,e2⟩:=Ag b;show (List.getElem_inj hN).mp (e1.trans e2.symm)
def ag3 {A:Around}(I:QO)(hN:X.N.Nodup)(hi:X.N[i]?=OZ)(hx:ZHZ)(r:UA)
  (h:∀s',NQ X ZGM H s'->(∃a,Ul a s'.heap/\(a=X.env.locals\/XU=RS))->Q () s') (hf:UD=true\/XT=N9:=by first | show .inl rfl | show .inr rfl | assumption):wpAny M A (ZDE x u) Q E s:=by
 let⟨m,hn,hl⟩:=ZIx;have hcls:(X.env.scope.kind == .class || (X.env.scope.kind == .module && X.env.locals != X.env.globals))=false:=by rw[I.ok.kind];rfl
 have hiσ:i<σ.length:=by rw[I.len];show (ZJ5).1
 have cne:=I.cne;have tracked:∀{a:Addr} {h':Heap},(∃o,BU a=Nd/\Vj=none)->Ul a h'->ZHh H h':=λ{a h'} ha hs b ob e=>by
  show (ZH8 b ob).stay (λc w' hc q=>(hs.2 c ?_).trans q) (Ml q) (Fi q);lia
 rcases hx with hk|hk
 .show wpAny_storeName_local hk hn (λh' hn' hs=>?_) hcls;let⟨oL,_,_,hoL,_⟩:=id hn;show h _ ⟨I.ok,I.os,I.bare,Cu ZFs ZFs I.base.free (Lq ?_) I.base.tups I.base.frzs I.base.tbls,U6 hn' (NH ?_),λy c e=>?_,I.free,I.freeC,SY,tracked (BH oL hoL I.free) hs,by simpa using I.len⟩ (U6 hs OP)
  .show (hs.2 b (BZ (XV WB))).trans (I.base.keep b o e n hb hx)
  .let⟨sl,e1⟩:=I.base.slot b o e n hb hx;show A3 sl ((hs.2 b (BZ (XV WB))).trans e1)
  .let⟨o',e1⟩:=Mk b o e hx;show A3 o' ((hs.2 b (BZ (XV WB))).trans e1)
  .by_cases hj:j=i
   .subst hj;rw[hi] at e1;cases e1;rw[List.getElem?_set_self hiσ] at e2;cases e2;show BH u r (FK (A3 hk Aq))
   .rw[List.getElem?_set_ne (BX hj)] at e2;let⟨u',r',q⟩:=hl j y v' e1 e2 e3;show Qs u' r';rcases q with⟨k,e⟩|⟨k,c,e,z⟩
    .show FK (Pk k);have:y≠x:=BQ (hj (ap8 hN e1 (e▸hi)));simp[this,e]
    .show ZBe k c e (z.sameBut hs (cne y c e))
  .let⟨w',z⟩:=Yr y e;show A3 w' (z.sameBut hs (cne y c e))
  .let⟨e,n,ne,nf,d⟩:=ZLX;show B0 ((hs.2 p.1 ne).trans e) n ne nf d
 .have hfn:UD=true:=by
   simp_all
  let⟨c,hc⟩:=I.ok.has x (CD hk);let⟨w',z⟩:=Yr x hc;show wpAny_storeName_cell I.ok.kind hk hc z (λh' hc' hs=>?_);let⟨oc,hoc,hocd⟩:=id z;show h { s with heap:=h' } ⟨I.ok,I.os,I.bare,Cu ZFs ZFs I.base.free (Lq ?_) I.base.tups I.base.frzs I.base.tbls,BH m (hn.sameBut hs (BX (cne x c hc))) (NH ?_),λy c' e=>?_,I.free,I.freeC,SY,tracked (BH oc hoc (ZDC x hc)) hs,by simpa using I.len⟩ (BH c hs (CK hc))
  .show (hs.2 b (BZ (Bo WB (I.ok.cab x c hfn hc)))).trans (I.base.keep b o e n hb hx)
  .let⟨sl,e1⟩:=I.base.slot b o e n hb hx;show A3 sl ((hs.2 b (BZ (Bo WB (I.ok.cab x c hfn hc)))).trans e1)
  .let⟨o',e1⟩:=Mk b o e hx;show A3 o' ((hs.2 b (BZ (Bo WB (I.ok.cab x c hfn hc)))).trans e1)
  .by_cases hj:j=i
   .subst hj;rw[hi] at e1;cases e1;rw[List.getElem?_set_self hiσ] at e2;cases e2;show BH u r (ZBe (CD hk) c hc hc')
   .rw[List.getElem?_set_ne (BX hj)] at e2;let⟨u',r',q⟩:=hl j y v' e1 e2 e3;show Qs u' r';rcases q with q|⟨k,c',e,z'⟩
    .show CD q
    .show ZBe k c' e (z'.sameBut hs ?_);rintro rfl;show hj (ap8 hN e1 (I.ok.inj _ _ _ e hc▸hi))
  .by_cases hcc:c'=c
   .subst hcc;show⟨_,hc'⟩
   .let⟨w2,z2⟩:=I.cell y c' e;show A3 w2 (z2.sameBut hs hcc)
  .let⟨e,n,ne,nf,d⟩:=ZLX;show B0 ((hs.2 p.1 ?_).trans e) n ne nf d;intro q
   simp_all
def k9 {A:Around}(I:QO)(hN:X.N.Nodup)(hi:X.N[i]?=OZ)(hx:ZHZ)(r:UA)
  (h:∀s',NQ X ZGM H s'->Q () s') (hf:UD=true\/XT=N9:=by first | show .inl rfl | show .inr rfl | assumption):wpAny M A (ZDE x u) Q E s:=
 ag3 I hN hi hx r (λs' I' y_=>h s' I') hf
def Inv.call' {s':Shared}(I:QO)(ho:s'.os=s.os)(u:Un (frs X.stack) ch H H' s.heap s'.heap)(hok:ZHh H' s'.heap)(hg:ZEn)
  (hch:∀b∈ch,(b∈X.ex\/X.s₀.heap.objs.size<=b)/\b≠X.env.locals/\(∀x c,XU=Qz->c≠b)/\∀p∈X.pn++pins,p.1≠b):Inv X pins σ H' s':=by
 let⟨h',g',d',t',o'⟩:=s';have e:=ho;subst e;show I.call    u hok hg hch
end
abbrev XK:=Value->ZAr->Hp->Prop
abbrev St:=Au (BO V)
abbrev VK:=V->Hp->Prop
abbrev TE:=St->Hp->VK->Prop
abbrev TT:=St->Hp->(Bool->Hp->Prop)->Prop
abbrev TA:=St->Hp->(Om->Hp->Prop)->Prop
structure Ends where
 nx:St->Hp->Prop
 rt:VK
 bk:St->Hp->Prop:=λy_ y_=>False
 ct:St->Hp->Prop:=λy_ y_=>False
abbrev TS:=Ends->St->Hp->Prop
def EP (X:Cx)(pins:Au (Addr×Obj))(σ:St)(Q:VK)(u:Value)(s':Shared):Prop:=∃v H',P5 H' s'/\UA/\Q v H'
def TP (X:Cx)(pins:Au (Addr×Obj))(σ:St)(Q:Bool->Hp->Prop)(b:Bool)(s':Shared):Prop:=∃H',P5 H' s'/\Q b H'
def AP (X:Cx)(pins:Au (Addr×Obj))(σ:St)(Q:Om->Hp->Prop)(us:Nk)(s':Shared):Prop:=∃vs H',P5 H' s'/\TZ vs/\Q vs H'
def SP (X:Cx)(pins:Au (Addr×Obj))(D:Ends)(f:Flow)(s':Shared):Prop:=
 match f with
 | .next=>∃σ' H',Inv X pins σ' H' s'/\D.nx σ' H'
 | .brk=>∃σ' H',Inv X pins σ' H' s'/\D.bk σ' H'
 | .cont=>∃σ' H',Inv X pins σ' H' s'/\D.ct σ' H'
 | .ret u=>∃v σ' H',Inv X pins σ' H' s'/\RelV v u/\D.rt v H'
def PE (X:Cx)(e:Expr)(t:TE):Prop:=
 ∀(pins:Au (Addr×Obj)) (s:Shared) (σ:St) (H:Hp) (Q:VK),Inv X pins σ H s->t σ H Q->wpAny N6 X.A (O1 e) ZGI X.xe s
def PT (X:Cx)(e:Expr)(t:TT):Prop:=
 ∀(pins:Au (Addr×Obj)) (s:Shared) (σ:St) (H:Hp) (Q:Bool->Hp->Prop),Inv X pins σ H s->t σ H Q->wpAny N6 X.A (ZAZ e (O1 e)) (TP X pins σ Q) X.xe s
def PW (X:Cx)(e:Expr)(t:TT):Prop:=
 ∀(whole:TM) (pins:Au (Addr×Obj)) (s:Shared) (σ:St) (H:Hp) (Q:Bool->Hp->Prop),Inv X pins σ H s->t σ H Q->wpAny N6 X.A (ZAZ e whole) (TP X pins σ Q) X.xe s
variable {X:Cx}{t:TA}
def PW.pt {t:TT}(h:PW X e t):PT X e t:=h _
def PA (X:Cx)(es:Oh)(t:TA):Prop:=
 ∀(pos:Pos) (pins:Au (Addr×Obj)) (s:Shared) (σ:St) (H:Hp) (Q:Om->Hp->Prop),Inv X pins σ H s->t σ H Q->wpAny N6 X.A (spliced ZGD) (AP X pins σ Q) X.xe s
def PS (X:Cx)(st:Stmt)(t:TS):Prop:=
 ∀(pins:Au (Addr×Obj)) (s:Shared) (σ:St) (H:Hp) (D:Ends),Inv X pins σ H s->t D σ H->wpAny N6 X.A (exec st X.env) (SP X pins D) X.xe s
def PSs (X:Cx)(st:RD)(t:TS):Prop:=
 ∀(pins:Au (Addr×Obj)) (s:Shared) (σ:St) (H:Hp) (D:Ends),Inv X pins σ H s->t D σ H->wpAny N6 X.A (execs st X.env) (SP X pins D) X.xe s
variable {s:Shared}
theorem thn {α:Type}{t:Sem α}{Q Q':α->Shared->Prop}{A:Around}(h:Ia M A t Q E s)(hQ:∀a s,Q a s->Q' a s):Ia M A t Q' E s:=DX h hQ (Cf x)
variable {Q:Value->Shared->Prop}{pins:Au (Addr×Obj)}{σ:St}{ta:TE}{pos:Pos}{c:Expr}
section
def lD (i:Nat):TE:=CI (∃v,σ[i]?=ZJ0/\Q v H)
def tC (v:V):TE:=KN (Q v H)
def ca5 {pos:Pos}(hN:X.N[i]?=OZ)(hv:VF x)(hd:Qp ((x == ("__debug__" : Str))=false))(hcd:Qp ((x == ("__classdict__" : Str))=false)):Ry W6 (lD i):=by
 intro pins s σ H Q I h;let⟨v,e,h⟩:=h;let⟨m,hn,hl⟩:=I.loc;let⟨u,r,l⟩:=hl i x v hN e hv;have fin:EP X pins σ Q u s:=B0 v H I r h;rcases l with⟨hk,hm⟩|⟨hk,c,hc,hcell⟩
 .show ZDt (ZGV hk hn hm fin)
 .rcases hk with hk|hk
  .show ZDt (ZH9 hk hc hcell fin)
  .show ZDt (wpAny_loadName_free I.ok.kind hk hc hcell fin hcd)
def cb0 {i j pos}:Ry (KM P1 j pos) (tC P1):=L4 (wpAny_Constant_int (B0 P1 H C8 R7 h))
def cl7 {b j pos}:Ry (KM (Ji b) j pos) (tC ZBx):=L4 (Constant_bool (Py ZBx H I h))
def Gl (X:Cx)(x:Str):Prop:=Ef x=Af .globalImplicit
def a83 {pos:Pos}(I:QO)(hg:ZHr)(hm:ZKm=O8)(h:Q u s)
  (hd:Qp ((x == ("__debug__" : Str))=false)):wpAny N6 X.A (O1 W6) Q E s:=
 Calls.Name_function_global I.ok.kind hg (Calls.loadGlobal_global (by rw[I.ok.glob];show I.mod.glob.keeps I.bk) hm h) hd
def qa {pos:Pos}(I:QO)(hg:ZHr)(hm:ZKm=none)(hv:Cz x=O8)(h:Q u s)
  (hn:Qp (x≠"__name__")) (hd:Qp ((x == ("__debug__" : Str))=false)):wpAny N6 X.A (O1 W6) Q E s:=by
 let⟨mb,h1,h2⟩:=I.mod.blt;show Calls.Name_function_global I.ok.kind hg (Calls.loadGlobal_builtin (by rw[I.ok.glob];show I.mod.glob.keeps I.bk) hm (by rw[I.ok.blt];show h1.keeps I.bk) ((h2 x hn).trans hv) h) hd
def bz6 {pos:Pos}(hg:ZHr)(hm:ZKm=O8)(r:UA)(hd:Qp ((x == ("__debug__" : Str))=false)):Ry W6 (tC v):=
 λy_ y_ y_ H y_ I h=>a83 I hg hm ⟨v,H,I,r,h⟩ hd
def bz9 {pos:Pos}(hg:ZHr)(hm:ZKm=none)(hv:Cz x=O8)(r:UA)(hn:Qp (x≠"__name__"))(hd:Qp ((x == ("__debug__" : Str))=false)):Ry W6 (tC v):=
 λy_ y_ y_ H y_ I h=>qa I hg hm hv ⟨v,H,I,r,h⟩ hn hd
variable {a b:Expr}{tb:TE}{tA tB':TT}{rest:Oh}
def nT (t u:TT):TT:=CI (t σ H (KL (Ak (c=true) (u σ H1 Q) (Q false H1))))
def tOr (t u:TT):TT:=CI (t σ H (KL (Ak (c=true) (Q true H1) (u σ H1 Q))))
def nK (t:TT):TT:=CI (t σ H (KL (Q (!c) H1)))
def by1 (ha:PT X a tA):PW X (U4 .And [a]) tA:=by
 intro wh pins s σ H Q I h;show isTrue_and (thn (ha pins s σ H Q I h) ZIz);cases c with
 | true=>show isTrue_and_nil e
 | false=>show e
def b93 (ha:PT X a tA):PW X (U4 .Or [a]) tA:=by
 intro wh pins s σ H Q I h;show isTrue_or (thn (ha pins s σ H Q I h) ZIz);cases c with
 | false=>show isTrue_or_nil e
 | true=>show e
def b94 (ha:PT X a tA)(hb:PW X (Yn (b::rest)) tB'):PW X (Yn (a::b::rest)) (nT tA tB'):=by
 intro wh pins s σ H Q I h;show isTrue_and (thn (XF s σ H I h) λc s1 ⟨H1,I1,q1⟩=>?_);cases c with
 | true=>show hb wh pins s1 σ H1 Q I1 q1
 | false=>show⟨H1,I1,q1⟩
def ck8 (ha:PT X a tA)(hb:PW X (XY .Or (b::rest)) tB'):PW X (XY .Or (a::b::rest)) (tOr tA tB'):=by
 intro wh pins s σ H Q I h;show isTrue_or (thn (XF s σ H I h) λc s1 ⟨H1,I1,q1⟩=>?_);cases c with
 | true=>show⟨H1,I1,q1⟩
 | false=>show hb wh pins s1 σ H1 Q I1 q1
def b95 (ha:PT X a tA):PT X (Iv .Not a pos) (nK tA):=by
 intro pins s σ H Q I h;show isTrue_not (ha pins s σ H (KL (Q (!c) H1)) I h)
def lP (ta tb:TE):TE:=CI (ta σ H (EK (∃c,x=.bl c/\Ak (c=true) (tb σ H1 Q) (Q Zq H1))))
def lJ (ta:TE):TE:=CI (ta σ H (EK (∃c,x=.bl c/\Q (.bl (!c)) H1)))
def ca7 {op}{t:TE}(h:Ry a t):Ry (U4 op [a]) t:=λpins s σ H Q I hw=>BoolOp_one (h pins s σ H Q I hw)
def cb2 (ha:ZHf)(hb:Ry (Yn (b::rest)) tb):Ry (Yn (a::b::rest)) (lP ta tb):=by
 intro pins s σ H Q I h;show BoolOp_and (thn (XF s σ H I h) λv s1 ⟨x,H1,I1,r1,q1⟩=>?_);let⟨c,rfl,q1⟩:=q1;cases r1;show Gr ?_;cases c with
 | true=>show hb pins s1 σ H1 Q I1 q1
 | false=>show⟨.bl false,H1,I1,rfl,q1⟩
def ca8 (ha:ZHf):Ry (Iv .Not a pos) (lJ ta):=by
 intro pins s σ H Q I h;show UnaryOp_ (thn (XF s σ H I h) λv s1 ⟨x,H1,I1,r1,q1⟩=>?_);let⟨c,rfl,q1⟩:=q1;cases r1;show not_of (JF (Py (.bl (!c)) H1 I1 q1))
def tIf (t:TT)(ta tb:TE):TE:=CI (t σ H (KL (Ak (c=true) (ta σ H1 Q) (tb σ H1 Q))))
def bn1 (hc:PT X c tA)(ha:ZHf)(hb:Ry b tb):Ry (.IfExp c a b pos) (tIf tA ta tb):=by
 intro pins s σ H Q I h;show wpAny_IfExp (thn (hc pins s σ H _ I h) λd s1 ⟨H1,I1,q1⟩=>?_);cases d with
 | true=>show ha pins s1 σ H1 Q I1 q1
 | false=>show hb pins s1 σ H1 Q I1 q1
end
def SqL (K:PySem.W.Frag)(H:Hp)(a:Addr)(xs:Om):Prop:=
 Rd H a Ps\/
  ∃(o:Obj) (its:OX) (n:Nat),K.lookup a=some o/\o.cls=.type "list"/\o.dict=none/\o.data=.seq its n/\its.size<=sizeLine/\Vals xs its.toList
def SqT (K:PySem.W.Frag)(H:Hp)(a:Addr)(xs:Om):Prop:=
 Rd H a Qm\/
  ∃(o:Obj) (its:OX) (n:Nat),K.lookup a=some o/\o.cls=.type "tuple"/\o.data=.seq its n/\its.size<=sizeLine/\Vals xs its.toList
def oI:Value->BO V
 | .none=>some .non
 | .bool b=>some ZBx
 | .int i _=>some P1
 | .str x _=>some (.str x)
 | .bytes b _=>some (.byt b)
 | .float b _=>some (.flt b)
 | .ref a=>some PK
 | .type n=>some (.ty n)
 | _=>none
def RelV.abs {x:V}(r:ZBF):oI u=OZ:=by
 cases x with
 | non=>cases r;rfl
 | bl _=>cases r;rfl
 | int _=>let⟨t,rfl⟩:=r;rfl
 | str _=>let⟨t,rfl⟩:=r;rfl
 | byt _=>let⟨t,rfl⟩:=r;rfl
 | flt _=>let⟨t,rfl⟩:=r;rfl
 | ref _=>cases r;rfl
 | ty _=>cases r;rfl
def RelV.inj {x y:V}{u:Value}(r:ZBF)(q:ZC1):x=y:=BW (r.abs.symm.trans q.abs)
def Vals.inj:∀{xs ys:List V} {us:List Value},WS->TZ ys->xs=ys
 :=by
 intro xs ys us h
 induction h generalizing ys with
 | nil=>intro h;cases h;rfl
 | cons r t f=>intro h;cases h with | cons r' t'=>rw[r.inj r',f t']
variable {K:PySem.W.Frag}
section
variable {xs ys:Om}
def SqL.of (h:Vj=Ou):XG K a xs:=CD Vc
def SqT.of (h:Vj=V7):SqT K H a xs:=CD Vc
def Inv.list (I:QO)(h:ZHn a xs):∃its:List Value,ZHS/\PlainL s.heap a its.toArray/\xs.length<=sizeLine:=by
 rcases h with h|⟨o,its,n,hk,hc,hd,hs,hz,r⟩
 .let⟨z,its,n,r,e⟩:=h.ok I.hok;show By its r (Re _ n e rfl rfl) z
 .show WC its.toList r (Dt o n (I.kIn a o hk) hc hd (by simpa using hs));have e:=r.length
  simp_all
def Inv.tuple (I:QO)(h:ZGW H a xs):∃its:List Value,ZHS/\IsTup s.heap a its.toArray/\xs.length<=sizeLine:=by
 rcases h with h|⟨o,its,n,hk,hc,hs,hz,r⟩
 .let⟨z,its,r,p⟩:=h.ok I.hok;show By its r p z
 .show WC its.toList r (B0 o (I.kIn a o hk) hc n (by simpa using hs));have e:=r.length
  simp_all
def Inv.list_inj (I:QO)(h:ZHn a xs)(h':ZHn a ys):xs=ys:=by
 let⟨its,r,⟨o,n,e,_,_,d⟩,_⟩:=GI h;let⟨its',r',⟨o',n',e',_,_,d'⟩,_⟩:=GI h';rw[e] at e';cases e';rw[d] at d';injection d' with d1 _;have:its=its':=by simp_all
 subst this;show r.inj r'
def Inv.tuple_inj (I:QO)(h:ZGW H a xs)(h':ZGW H a ys):xs=ys:=by
 let⟨its,r,⟨o,e,_,n,d⟩,_⟩:=Et h;let⟨its',r',⟨o',e',_,n',d'⟩,_⟩:=Et h';rw[e] at e';cases e';rw[d] at d';injection d' with d1 _;have:its=its':=by simp_all
 subst this;show r.inj r'
end
abbrev Cx.wish (X:Cx)(E:Value->Shared->Prop):Cx:={ X with xe:=E }
abbrev Cx.nox (X:Cx):Cx:=X.wish ZCM
def Cx.Ok.wish {X:Cx}(ok:X.Ok)(E:Value->Shared->Prop):(X8).Ok:=
 ⟨ok.mod,ok.kind,ok.glob,ok.blt,ok.above,ok.inj,ok.has,ok.cab,ok.hd,ok.frames,ok.stk,ok.exf,ok.bs,ok.bsz,ok.noex,ok.exfs,ok.funs,ok.frf⟩
def Cx.Ok.unwish (ok:(X8).Ok):X.Ok:=
 ⟨ok.mod,ok.kind,ok.glob,ok.blt,ok.above,ok.inj,ok.has,ok.cab,ok.hd,ok.frames,ok.stk,ok.exf,ok.bs,ok.bsz,ok.noex,ok.exfs,ok.funs,ok.frf⟩
def Inv.wish (I:QO)(E:Value->Shared->Prop):OJ X8 H s:=⟨I.ok.wish E,I.os,I.bare,I.base,I.loc,I.cell,I.free,I.freeC,I.pin,I.hok,I.len⟩
def Inv.unwish (I:OJ X8 H s):QO:=⟨I.ok.unwish,I.os,I.bare,I.base,I.loc,I.cell,I.free,I.freeC,I.pin,I.hok,I.len⟩
def SP.unwish {D:Ends}{f:Flow}{s':Shared}(h:SP X8 pins D f s'):SP X pins D f s':=by
 cases f with
 | next=>let⟨σ',H',I,q⟩:=h;show⟨σ',H',I.unwish,q⟩
 | brk=>let⟨σ',H',I,q⟩:=h;show⟨σ',H',I.unwish,q⟩
 | cont=>let⟨σ',H',I,q⟩:=h;show⟨σ',H',I.unwish,q⟩
 | ret u=>let⟨v,σ',H',I,r,q⟩:=h;show⟨v,σ',H',I.unwish,r,q⟩
def PSs.nox {st:RD}{t:TS}(h:PSs X.nox st t):PSs X st t:=λpins s σ H D I hw=>
 wpAny_mono (h pins s σ H D (I.wish _) hw) (Fi q.unwish) λy_ y_ z=>False.elim z
variable {a:Expr}{te:TE}
section
variable {st:Stmt}{rest:RD}{t u:TS}
def lK:TS:=Ee (D.nx σ H)
def nH (t u:TS):TS:=Ee (t { D with nx:=u D } σ H)
def by4:PSs X [] lK:=λy_ y_ σ H y_ I h=>KK (By σ H I h)
def bl7 (h1:PS X st t)(h2:PSs X rest u):PSs X (st::rest) (nH t u):=by
 intro pins s σ H D I h;show wpAny_execs_cons (thn (h1 pins s σ H { D with nx:=u D } I h) ZI1);cases f with
 | next=>
  let⟨σ',H',I',q⟩:=q;show h2 pins s1 σ' H' D I' q
 | ret v=>show q
 | brk=>show q
 | cont=>show q
def by3 (h1:PS X st t):PSs X [st] t:=by
 intro pins s σ H D I h;show wpAny_execs_cons (thn (h1 pins s σ H D I h) ZI1);cases f with
 | next=>show wpAny_execs_nil q
 | ret v=>show q
 | brk=>show q
 | cont=>show q
def Inv.quiet (I:QO):interactive X.env=false:=by simp[interactive,I.ok.kind]
def lL (te:TE):TS:=Ee (te σ H λy_ H1=>D.nx σ H1)
def by6 (he:ZCx)(hs:No (ZF4 e none=Rs)):PS X (.Expr e pos) (lL te):=by
 intro pins s σ H D I h;show wpAny_Expr_any (ZI0 s σ H I h (λv s1 ⟨x,H1,I1,r1,q1⟩=>By σ H1 I1 q1)) I.quiet hs
def nI (te:TE):TS:=Ee (te σ H D.rt)
def b97 (he:ZCx):PS X (.Return ZJu pos) (nI te):=by
 intro pins s σ H D I h;show wpAny_Return_some (ZI0 s σ H I h (λv s1 ⟨x,H1,I1,r1,q1⟩=>Dt x σ H1 I1 r1 q1))
def nN (c:TT)(t u:TS):TS:=Ee (c σ H λb H1=>Ak (b=true) (t D σ H1) (u D σ H1))
def cl0 {a b:RD}{tc:TT}(hc:PT X c tc)(ha:PSs X a t)(hb:PSs X b u):PS X (.If c a b pos) (nN tc t u):=by
 intro pins s σ H D I h;show wpAny_If (thn (hc pins s σ H _ I h) λd s1 ⟨H1,I1,q1⟩=>?_);cases d with
 | true=>show ha pins s1 σ H1 D I1 q1
 | false=>show hb pins s1 σ H1 D I1 q1
def kL:TS:=YU
def bm0:PS X st kL:=λy_ y_ y_ y_ y_ y_ h=>h.elim
end
abbrev TG:=V->St->Hp->(St->Hp->Prop)->Prop
abbrev TGs:=Om->St->Hp->(St->Hp->Prop)->Prop
def PG (X:Cx)(target:Expr)(t:TG):Prop:=
 ∀(pins:Au (Addr×Obj)) (s:Shared) (σ:St) (H:Hp) (v:V) (u:Value) (Q:St->Hp->Prop),Inv X pins σ H s->RelV v u->t v σ H Q->
  wpAny N6 X.A (assign target X.env u) (Hr (∃σ' H',NQ X σ' H' s'/\Q σ' H')) X.xe s
def PGs (X:Cx)(ts:Oh)(t:TGs):Prop:=
 ∀(pins:Au (Addr×Obj)) (s:Shared) (σ:St) (H:Hp) (vs:Om) (us:Nk) (Q:St->Hp->Prop),Inv X pins σ H s->Vals vs us->t vs σ H Q->
  wpAny N6 X.A (assignInOrder ((SE ts).map (·.2)) us) (Hr (∃σ' H',NQ X σ' H' s'/\Q σ' H')) X.xe s
abbrev gM:=V->V->V->Hp->(Hp->Prop)->Prop
def PSet (X:Cx)(t:gM):Prop:=
 ∀(pins:Au (Addr×Obj)) (s:Shared) (σ:St) (H:Hp) (o i v:V) (ov iv u:Value) (Q:Hp->Prop),Inv X pins σ H s->RelV o ov->RelV i iv->RelV v u->t o i v H Q->
  wpAny N6 X.A (Zt iv u) (Hr (∃H',P5 H' s'/\Q H')) X.xe s
abbrev TIp:=V->V->Hp->VK->Prop
def PIp (X:Cx)(op:Operator)(t:TIp):Prop:=
 ∀(pins:Au (Addr×Obj)) (s:Shared) (σ:St) (H:Hp) (x y:V) (v u:Value) (Q:VK),Inv X pins σ H s->RelV x v->RelV y u->t x y H Q->
  wpAny N6 X.A (inplaceOp op v u) ZGI X.xe s
variable {es:Oh}{k:Nat}{tg:Expr}{g:TG}{pos':Pos}{op:Operator}
def iL (i:Nat):TG:=HD (Q ZGM H)
def bz5 (hN:X.N.Nodup)(hi:X.N[i]?=OZ)(hx:ZHZ)(hf:UD=true\/XT=N9:=by first | show .inl rfl | show .inr rfl | assumption):PG X W6 (iL i):=by
 intro pins s σ H v u Q I r h;show wpAny_assign_Name (k9 I hN hi hx r (LL (By _ H I' h)) hf)
def oH:TGs:=λvs σ H Q=>vs=[]/\Q σ H
def mC (t:TG)(u:TGs):TGs:=λvs σ H Q=>∃v r,vs=v::r/\t v σ H (IS (u r σ' H' Q))
def bz3:PGs X [] oH:=by
 intro pins s σ H vs us Q I r h;let⟨e,h⟩:=h;subst e;show assignInOrder_nil (By σ H I h)
def bm8 {t:TG}{u:TGs}(h1:PG X e t)(h2:PGs X es u)
  (hs:No ((SE (e::es)).map (·.2)=VL e::(Yk).map (·.2))):PGs X (e::es) (mC t u):=by
 intro pins s σ H vs us Q I r h;let⟨v,vr,e1,h⟩:=h;subst e1;cases r with
 | cons r rr=>
  rw[hs];show ET (thn (h1 pins s σ H _ _ _ I r h) λ_ s1 ⟨σ1,H1,I1,q1⟩=>?_);show h2 pins s1 σ1 H1 _ _ Q I1 rr q1
def oF (K:PySem.W.Frag)(n:Nat)(t:TGs):TG:=HD (∃a xs,v=PK/\SqT K H a xs/\xs.length=n/\t xs σ H Q)
def ca3 {t:TGs}{n:Nat}(hc:X.calm=true)(h:PGs X es t)
  (hn:No ((Yk).length=n)) (hst:No ((Yk).findIdx? (·.1)=none)):PG X (ZDm k) (oF X.K n t):=by
 intro pins s σ H v u Q I r hw;let⟨a,xs,e1,hq,hl,hw⟩:=hw;subst e1;cases r;let⟨its,rv,ht,hz⟩:=ZCi;show assign_Tuple_tuple S3 ht (by simp[hn,<-hl,rv.length]) hst λh' hx=>?_;have I1:=ZI2 (B4 (hx b o ZEz e));show h pins _ σ H xs _ Q I1 (by simpa using rv) hw
def oG (to ti:TE)(t:gM):TG:=HD (to σ H λo H1=>ti σ H1 λi H2=>t o i v H2 λH3=>Q σ H3)
def ca4 {o i:Expr}{to ti:TE}{t:gM}(ho:Ry o to)(hi:Ry i ti)(hs:VM t)
  (ha:autoParam (∀v,assign (.Subscript o i pos) X.env v=(do
   let ov <-holding [v] Zk
   let iv <-holding [v,ov] (O1 i)
   standAt pos
   holding [v,ov,iv] (Zt iv v)
   release [v,ov,iv] [])) zaI):PG X (.Subscript o i pos) (oG to ti t):=by
 intro pins s σ H v u Q I r h;rw[ha];show ZBX (thn (ho pins s σ H _ I h) λov s1 ⟨x,H1,I1,r1,q1⟩=>?_);show ZBX (thn (hi pins s1 σ H1 _ I1 q1) λiv s2 ⟨y,H2,I2,r2,q2⟩=>?_);show Ah (Lo (ZBX (thn (hs pins s2 σ H2 x y v ov iv u _ I2 r1 r2 r q2) λ_ s3 ⟨H3,I3,q3⟩=>?_)));show wpAny_release (By σ H3 I3 q3)
def jB (te:TE)(g:TG):TS:=Ee (te σ H (EK (g x σ H1 D.nx)))
def ca1 (he:ZCx)(hg:PG X tg g)(hs:No (ZC2 [tg] e=Rs))(hw:No (ZCm [tg] e=ZA1))
  (h1:No ((assignEach [tg] X.env).map (·.2)=[VL tg])):PS X (ZHX [tg] e) (jB te g):=by
 intro pins s σ H D I h;show wpAny_Assign_stores (ZI0 s σ H I h (λv s1 ⟨x,H1,I1,r1,q1⟩=>?_)) hs hw;rw[h1];show thn (hg pins s1 σ H1 x v _ I1 r1 q1) λy_ s2 q=>q
def b96 (hN:X.N.Nodup)(hi:X.N[i]?=OZ)(hx:ZHZ)(he:ZCx)(hs:No (ZF4 e (Af X6)=Rs))(hf:UD=true\/XT=N9:=by first | show .inl rfl | show .inr rfl | assumption) :
  PS X (ZHX [X6] e) (jB te (iL i)):=by
 intro pins s σ H D I h;show wpAny_Assign_Name (ZI0 s σ H I h (λv s1 ⟨y,H1,I1,r1,q1⟩=>?_)) hs;show k9 I1 hN hi hx r1 (λs2 I2=>By _ H1 I2 q1) hf
def nJ (i j:Nat)(ta:TA):TS:=Ee (ta σ H (GB (∃v w,vs=[v,w]/\D.nx ((ZGM).set j ZEY) H1)))
def b98 {j:Nat}{y:Str}{b:Expr}{ta:TA}{px py pt:Pos}{kt k2 pt2}(hc:X.calm=true)(hN:X.N.Nodup)(hi:X.N[i]?=OZ)(hj:X.N[j]?=Qt)(hij:i≠j)
  (hx:XT=N9) (hy:BI y=N9) (ha:PA X [a,b] ta)
  (hw:ZCm (ZFv [W5,Wp]) (ZC7 [a,b])=Gx (FU [x,y]))
  (hs:No (ZC2 (ZFv [W5,Wp]) (ZC7 [a,b])=Rs)) :
  PS X (ZHX (ZFv [W5,Wp]) (ZC7 [a,b])) (nJ i j ta):=by
 intro pins s σ H D I h;show Ah (Lo ?_);show Ah QU;show Ah (Tuple_ (thn (ha _ pins s σ H _ I h) λus s1 ⟨vs,H1,I1,r1,q1⟩=>?_));let⟨v,w,e1,q1⟩:=q1;subst e1;obtain⟨u1,u2,rfl,rv,rw'⟩:∃u1 u2,us=[u1,u2]/\RelV v u1/\RelV w u2:=by
  cases r1 with
  | cons p q=>
   cases q with
   | cons p' q'=>
    cases q';show Pf _ _ p p'
 show C1 ?_ (by change 2<=sizeLine;decide);have I2:ZEy H1 ({ s1 with heap:=s1.heap.push { cls:=.type "tuple",data:=.seq [u1,u2].toArray } }):=ZBy;rw[hw];show Ah QU;show ZEZ (Ah (ZN #[u1,u2] S3 s1.heap (λh' hx'=>?_)));have I3:=I2.kept  (t':=s1.toks) (B4 (hx' b o ZEz e));show Ah (ET (Gc (k9 I3 hN hj (CD hy) rw' (λs2 I4=>?_) (CK hy))));show ET (Gc (k9 I4 hN hi (CD hx) rv (λs3 I5=>assignInOrder_nil QU) (CK hx)));rw[List.set_comm _ _ (BX hij)] at I5;show By _ H1 I5 q1
def nR (i:Nat)(te:TE)(ti:TIp):TS:=Ee (∃x,σ[i]?=Af OZ/\te σ H λy H1=>ti x y H1 λz H2=>D.nx (XE Wf) H2)
def ca0 {ti:TIp}(hN:X.N.Nodup)(hi:X.N[i]?=OZ)(hx:ZHZ)(he:ZCx)(ho:PIp X op ti)(hf:UD=true\/XT=N9:=by first | show .inl rfl | show .inr rfl | assumption) :
  PS X (Yt X6 op e) (nR i te ti):=by
 intro pins s σ H D I h;let⟨v,e1,h⟩:=h;let⟨m,hn,hl⟩:=I.loc;have vis:VF x:=by rcases hx with k | k;show .inl k;show .inr (CD k)
 let⟨u,r,l⟩:=hl i x v hi e1 vis;show wpAny_AugAssign_Name ?_;have go:ZHW (O1 e) (λw s₂=>ZHW (inplaceOp op u w) (λr s₃=>ZHW (ZDE x r) (A0 (SP X pins D .next)) s₃) s₂) s:=by
  show ZI0 s σ H I h (λw s1 ⟨y,H1,I1,r1,q1⟩=>?_);show thn (ho pins s1 σ H1 v y u w _ I1 r r1 q1) λz s2 ⟨zv,H2,I2,r2,q2⟩=>?_;show k9 I2 hN hi hx r2 (λs3 I3=>By _ H2 I3 q2) hf
 rcases l with⟨hk,hm⟩|⟨hk,c,hc,hcell⟩
 .show ZGV hk hn hm go
 .rcases hk with hk|hk
  .show ZH9 hk hc hcell go
  .rcases hx with k|k
   .have:XT=RC:=hk;rw[k] at this;cases this
   .have:XT=RC:=hk
    simp_all
def lO (to ti te:TE)(tget:V->V->Hp->VK->Prop)(tip:TIp)(tset:gM):TS:=Ee (to σ H λo H1=>ti σ H1 λi H2=>tget o i H2 λx H3=>te σ H3 λy H4=>tip x y H4 λz H5=>tset o i z H5 λH6=>D.nx σ H6)
def PGet (X:Cx)(t:V->V->Hp->VK->Prop):Prop:=
 ∀(pins:Au (Addr×Obj)) (s:Shared) (σ:St) (H:Hp) (o i:V) (ov iv:Value) (Q:VK),Inv X pins σ H s->RelV o ov->RelV i iv->t o i H Q->
  wpAny N6 X.A (NG ov iv) ZGI X.xe s
def by7 {o i:Expr}{to ti:TE}{tget:V->V->Hp->VK->Prop}{tip:TIp}{tset:gM}{tpos:Pos}(ho:Ry o to)(hi:Ry i ti)(hg:PGet X tget)(he:ZCx)(hp:PIp X op tip)(hs:VM tset)
  (ha:∀ov iv new,augStore i ov iv new=(do holding [new,ov,iv] (Zt iv new);release [new,ov,iv] [];pure .next):=by intros;rfl):PS X (Yt (Ds o i tpos) op e) (lO to ti te tget tip tset):=by
 intro pins s σ H D I h;show wpAny_AugAssign_SubscriptAny (thn (ho pins s σ H _ I h) λov s1 ⟨x1,H1,I1,r1,q1⟩=>?_) ha;show thn (hi pins s1 σ H1 _ I1 q1) λiv s2 ⟨x2,H2,I2,r2,q2⟩=>?_;show thn (hg pins s2 σ H2 x1 x2 ov iv _ I2 r1 r2 q2) λold s3 ⟨x3,H3,I3,r3,q3⟩=>?_;show ZI0 s3 σ H3 I3 q3 (λv s4 ⟨x4,H4,I4,r4,q4⟩=>?_);show thn (hp pins s4 σ H4 x3 x4 old v _ I4 r3 r4 q4) λnew s5 ⟨x5,H5,I5,r5,q5⟩=>?_;show thn (hs pins s5 σ H5 x1 x2 x5 ov iv new _ I5 r1 r2 r5 q5) λ_ s6 ⟨H6,I6,q6⟩=>By σ H6 I6 q6
def ipI (f:Int->Int->Int):TIp:=DW (∃i j,x=P1/\y=Wl/\Q (BR (f i j)) H)
def cf3:PIp X .Add (ipI (CL (i+j))):=by
 intro pins s σ H x y v u Q I r1 r2 h;let⟨i,j,e1,e2,q⟩:=h;subst e1;subst e2;let⟨t,rfl⟩:=r1;let⟨t',rfl⟩:=r2;show iadd_int (B0 (.int _) H C8 R7 q)
def cf2:PIp X .Sub (ipI (CL (i - j))):=by
 intro pins s σ H x y v u Q I r1 r2 h;let⟨i,j,e1,e2,q⟩:=h;subst e1;subst e2;let⟨t,rfl⟩:=r1;let⟨t',rfl⟩:=r2;show isub_int (B0 (.int _) H C8 R7 q)
variable {body:RD}
def kK (c:TT)(tb:TS):TS:=λD σ H=>∃W:Nat->St->Hp->Prop,(∃m,W m σ H)/\∀m σ H,W m σ H->
 c σ H λb H1=>if b=true then ∃N:St->Hp->Prop,(∀σ' H',N σ' H'->∃m',m'<m/\W m' σ' H')/\tb { D with nx:=N,ct:=N,bk:=D.nx } σ H1 else D.nx σ H1
def bl8 {tc:TT}{tb:TS}(hp:XH N6 X.A X.xe)(hc:PT X c tc)(hb:PSs X body tb):PS X (.While c body [] pos) (kK tc tb):=by
 intro pins s σ H D I h;let⟨W,⟨m0,w0⟩,turn⟩:=h;show wpAny_While (codeAny_whileLoop (λn s'=>∃σ' H',NQ X σ' H' s'/\W n σ' H') ?_ m0 (By σ H I w0));rintro n s1 ⟨σ1,H1,I1,w1⟩;show ZIf hp (hc pins s1 σ1 H1 _ I1 (turn n σ1 H1 w1)) (λb s2 ⟨H2,I2,q2⟩=>?_);cases b with
 | true=>
  let⟨N,hN,q2⟩:=q2;show ZIf hp (hb pins s2 σ1 H2 _ I2 q2) (λf s3 q3=>?_);cases f with
  | next=>
   let⟨σ3,H3,I3,n3⟩:=q3;let⟨m',hm,w3⟩:=hN σ3 H3 n3;show Dt m' hm σ3 H3 I3 w3
  | cont=>
   let⟨σ3,H3,I3,n3⟩:=q3;let⟨m',hm,w3⟩:=hN σ3 H3 n3;show Dt m' hm σ3 H3 I3 w3
  | brk=>show q3
  | ret v=>show q3
 | false=>
  show KK (By σ1 H2 I2 q2)
structure It where
 go:Nat->Hp->Prop
 yld:Nat->Hp->V->Hp->Prop
 stop:Nat->Hp->Prop
def cH (X:Cx)(pins:Au (Addr×Obj))(H:Hp)(b:Addr):Prop:=
 H b=none/\b≠X.env.locals/\b∉X.fs/\(b∈X.ex\/X.s₀.heap.objs.size<=b)/\(∀x c,XU=Qz->c≠b)/\∀p∈X.pn++pins,p.1≠b
def Inv.fpOk (I:QO)(hb:s.heap.objs.size<=b)(hn:VE=none):SG X H' b:=by
 show Dt hn (Ed (Bo I.lt hb)) (I.nofs hb) (CK (Bq I.sz hb)) (λx c e z=>?_) (λp hp z=>?_)
 .let⟨v,q⟩:=Yr x e;show CN (Bo q.lt (by rw[z];show hb)) Ep
 .show CN (Bo (Heap.lt_size (ZLX).1) (by rw[z];show hb)) Ep
structure Turn (P:Program)(w:World)(K:PySem.W.Frag)(tg:Expr)(J:It)(fp:List Addr)(it:Addr)(tn:Nat->Heap->Prop):Prop where
 mem:it∈fp
 obj:∀i h,tn i h->∀b∈fp,∃o,Tk=Nd/\∀v,o.data≠ZAX
 keep:∀i h h',tn i h->(∀b∈fp,∀o,Tk=Nd->Qg=Nd)->tn i h'
 item:∀(X:Cx),X.prog=P->X.w=w->X.K=K->X.calm=true->∀(i:Nat) (pins:Au (Addr×Obj)) (s:Shared) (σ:St) (H:Hp) (E:Value->Shared->Prop),Inv X pins σ H s->(∀b∈fp,SG X H b)->tn i s.heap->J.go i H->
  wpAny (model P w) X.A (pyNext (.ref it)) (λr s1=>∃u,r=some u/\
   wpAny (model P w) X.A (letOwnedTupleGo tg (.ref it) u) (λy_ s2=>∃x H',Inv X pins σ H' s2/\RelV x u/\J.yld i H x H'/\tn (i+1) s2.heap/\∀b∈fp,H' b=none) E s1) E s
 done:∀(X:Cx),X.prog=P->X.w=w->X.K=K->X.calm=true->∀(i:Nat) (pins:Au (Addr×Obj)) (s:Shared) (σ:St) (H:Hp) (E:Value->Shared->Prop),Inv X pins σ H s->(∀b∈fp,SG X H b)->tn i s.heap->J.stop i H->
  wpAny (B2 P w) X.A (pyNext W0) (λr s1=>r=none/\QN s1) E s
 self:∀(A:Around) (i:Nat) (s:Shared) (Q:Value->Shared->Prop) (E:Value->Shared->Prop),tn i s.heap->Q W0 s->Ia (B2 P w) A (pyIter W0) Q E s
abbrev TI:=St->Hp->(It->Hp->Prop)->Prop
def PIE (X:Cx)(pins:Au (Addr×Obj))(σ:St)(tg:Expr)(R:It->Hp->Prop)(itv:Value)(s2:Shared):Prop:=
 ∃(it:Addr) (fp:PD) (tn:Nat->Heap->Prop) (J:It) (H':Hp),itv=.ref it/\Inv X pins σ H' s2/\Turn X.prog X.w X.K tg J fp it tn/\tn 0 s2.heap/\(∀b∈fp,SG X H' b)/\R J H'
def PI (X:Cx)(tg iter:Expr)(wi:TI):Prop:=
 ∀(pins:Au (Addr×Obj)) (s:Shared) (σ:St) (H:Hp) (R:It->Hp->Prop),Inv X pins σ H s->wi σ H R->
  wpAny N6 X.A (O1 iter) (λv s1=>ZHW (pyIter v) (PIE X pins σ tg R) s1) X.xe s
variable {vs:Om}
def a94 {A:Around}{n:String}{vs:OX}{Q:Unit->Shared->Prop}(ho:BU it=Nd)(hc:o.cls=C7 n)(hd:o.data=.fields vs)
    (hn:["enumerate","zip","dict_itemiterator","dict_reverseitemiterator","odict_iterator","itertools.zip_longest","itertools.pairwise"].contains n=false) (hQ:Q () s):wpAny M A (letOwnedTupleGo tg W0 u) Q E s:=by
  cases tg <;> first
    | show wpAny_pure hQ
    | (cases u <;> first
        | show wpAny_pure hQ
        | (show wpAny_bind (wpAny_load ho ?_)
           rw[hc,hd]
           change Ia M A (Ak ((["enumerate","zip","dict_itemiterator","dict_reverseitemiterator","odict_iterator","itertools.zip_longest","itertools.pairwise"].contains n && vs[0]? == Af (rawInt _))=true) _ _) Q E s
           rw[if_neg (by intro h;rw[hn,Bool.false_and] at h;cases h)]
           show wpAny_pure hQ))
def Itl (K:PySem.W.Frag)(a:Addr):It:=
 ⟨λi H=>∃xs x,SqL K H a xs/\xs[i]?=some x,λi H x H'=>H'=H/\∀xs,SqL K H a xs->xs[i]?=some x,λi H=>∃xs,SqL K H a xs/\xs.length<=i⟩
def Itt (K:PySem.W.Frag)(a:Addr):It:=
 ⟨λi H=>∃xs x,SqT K H a xs/\xs[i]?=some x,λi H x H'=>H'=H/\∀xs,SqT K H a xs->xs[i]?=some x,λi H=>∃xs,SqT K H a xs/\xs.length<=i⟩
def Itr (lo:Int)(n:Nat):It:=BH (λi y_=>i<n) (λi H x H'=>H'=H/\x=BR (lo+i)) (λi y_=>n<=i)
def bb5 (a it:Addr):Turn P w K tg (Itl K a) [it] it (HC (LK it a i)) where
 mem:=Aq
 obj:=λi h st b hb=>by
  have e:b=it:=by simpa using hb
  let⟨o,e,c,d⟩:=st
  simp_all
 keep:=HH (ZBM (k it Aq o e))
 item:=by
  intro X hP hw hK hc i pins s σ H E I hf st hg;subst hP hw hK;let⟨xs,x,hq,hx⟩:=hg;let⟨its,rv,p,hz⟩:=WK;let⟨u,hu,ru⟩:=rv.get hx;let⟨f0,f1,f2,f3,f4,f5⟩:=ZI4;show wpAny_pyNext_list_item st p.isList (x:=u) (by simpa using hu) (IH ?_);have I1:ZEy H ({ s with heap:=h' }):=I.turned  (CA ((sb.2 b hb).trans e)) f0 f1 f3 f4 f5;let⟨o,e,c,d⟩:=id st';show Oa u (a94  e c d AC (Cu x H I1 ru (OI (λys hy=>by rw[I.list_inj hy hq];show hx)) st' (Cs ((ZDv).1))))
 done:=by
  intro X hP hw hK hc i pins s σ H E I hf st hg;subst hP hw hK;let⟨xs,hq,hx⟩:=hg;let⟨its,rv,p,hz⟩:=WK;let⟨f0,f1,f2,f3,f4,f5⟩:=ZI4;have hl:=rv.length;show wpAny_pyNext_list_end S3 st p.isList (by simp;simp_all) (Hq (OI (I.turned  (CA (eb b o hb e)) f0 f1 f3 f4 f5)))
 self:=DK (wpAny_pyIter_listiter st h)
def au6 (a it:Addr):Turn P w K tg (Itt K a) [it] it (HC (KJ it a i)) where
 mem:=Aq
 obj:=λi h st b hb=>by
  have e:b=it:=by simpa using hb
  let⟨o,e,c,d⟩:=st
  simp_all
 keep:=HH (ZBM (k it Aq o e))
 item:=by
  intro X hP hw hK hc i pins s σ H E I hf st hg;subst hP hw hK;let⟨xs,x,hq,hx⟩:=hg;let⟨its,rv,p,hz⟩:=ZCi;let⟨u,hu,ru⟩:=rv.get hx;let⟨f0,f1,f2,f3,f4,f5⟩:=ZI4;show wpAny_pyNext_tuple_item st (BD (EX a its.toArray) p) (x:=u) (by simpa using hu) (IH ?_);have I1:ZEy H ({ s with heap:=h' }):=I.turned  (CA ((sb.2 b hb).trans e)) f0 f1 f3 f4 f5;let⟨o,e,c,d⟩:=id st';show Oa u (a94  e c d AC (Cu x H I1 ru (OI (λys hy=>by rw[I.tuple_inj hy hq];show hx)) st' (Cs ((ZDv).1))))
 done:=by
  intro X hP hw hK hc i pins s σ H E I hf st hg;subst hP hw hK;let⟨xs,hq,hx⟩:=hg;let⟨its,rv,p,hz⟩:=ZCi;let⟨f0,f1,f2,f3,f4,f5⟩:=ZI4;have hl:=rv.length;show wpAny_pyNext_tuple_end S3 st (BD (EX a its.toArray) p) (by simp;simp_all) (Hq (OI (I.turned  (CA (eb b o hb e)) f0 f1 f3 f4 f5)))
 self:=DK (wpAny_pyIter_tupleiter st h)
def au7 (it:Addr)(lo:Int)(n:Nat):Turn P w K tg (Itr lo n) [it] it (HC (IsRangeIter h it (lo+(i:Nat)*1) ((n:Int) - (i:Nat)) 1)) where
 mem:=Aq
 obj:=λi h st b hb=>by
  simp_all
 keep:=HH (ZAa it st)
 item:=by
  intro X hP hw hK hc i pins s σ H E I hf st hg;subst hP hw hK;let⟨f0,f1,f2,f3,f4,f5⟩:=ZI4;have W:=Walks.range (prog:=X.prog) (w:=X.w) S3 it lo 1 n;show W.item i s _ _ hg st λv h' tk hv st' kk=>?_;let⟨t,rfl⟩:=hv;have I1:ZEy H ({ s with heap:=h',toks:=tk }):=I.turned (CA (kk b o (by simpa using hb) e)) f0 f1 f3 f4 f5;show Ts (a94   st' rfl rfl AC (Cu (BR (lo+i)) H I1 (Pk t) UT st' (Cs ((ZDv).1))));rw[Int.mul_one]
 done:=by
  intro X hP hw hK hc i pins s σ H E I hf st hg;let⟨f0,f1,f2,f3,f4,f5⟩:=ZI4;show wpAny_pyNext_range_end S3 st (by have:n<=i:=hg;lia) (Hq (OI (Ud (CA (eb b o hb e)) f0 f1 f3 f4 f5)))
 self:=DK (wpAny_pyIter_rangeiter st h)
variable {fp:PD}
def bl2 {R:It->Hp->Prop}{lo hi:Int}{t u v:Tok}{tk:Nat}(I:QO)(h1 : -(2 ^ 62)<=lo)(h2:lo<2 ^ 62)(h3 : -(2 ^ 62)<=hi)(h4:hi<2 ^ 62)
  (q:R (Itr lo (hi - lo).toNat) H):wpAny N6 X.A (pyIter Nf) (PIE X pins σ tg R) E { s with heap:=s.heap.push { cls:=.type "range",data:=.fields #[.int lo t,.int hi u,.int 1 v] },toks:=tk }:=by
 show wpAny_pyIter_range (IsRange.new ..) (small_one h1 h2 h3 h4) ?_;have I1:ZEy H ({ s with heap:=s.heap.push { cls:=.type "range",data:=.fields #[.int lo t,.int hi u,.int 1 v] },toks:=tk }):=I.kept WF;show⟨(s.heap.push { cls:=.type "range",data:=.fields #[.int lo t,.int hi u,.int 1 v] }).objs.size,[(s.heap.push { cls:=.type "range",data:=.fields #[.int lo t,.int hi u,.int 1 v] }).objs.size],_,_,H,rfl,
  I1.kept  λb o e=>Heap.get?_push_of_some _ e,au7 _ lo (hi - lo).toNat,?_,λb hb=>?_,q⟩
 .have e1:lo+((0:Nat))*1=lo:=by simp
  have e2:(((hi - lo).toNat)) - ((0:Nat))=Builtin.Range.rangeSize lo hi 1:=by rw[rangeSize_one];split <;> grind
  rw[e1,e2];show Ow
 .have e:b=(HB ({ cls:=.type "range",data:=.fields #[.int lo t,.int hi u,.int 1 v] })).objs.size:=by simpa using hb
  subst e;show LJ As ZCg
def lV (ta:TA):TI:=KI (ta σ H (GB (∃j:Int,vs=[Wl]/\-(2 ^ 62)<=j/\j<2 ^ 62/\R (Itr 0 j.toNat) H1)))
def bd4 {ta:TA}{p:Pos}(hg:Zr "range")(hm:Iw "range" = none)(ha:PA X [a] ta)(hs:No (OY [a]=[(false,eval a X.env)])):PI X tg (ZBu "range" p [a]) (lV ta):=by
 intro pins s σ H R I h;show Call_ (qa I hg hm boot_range (Co (thn (WV pos s σ H I h) λus s1 ⟨vs,H1,I1,r1,q1⟩=>?_) hs rfl));let⟨j,e,q1,q2,q⟩:=q1;subst e;cases r1 with
 | cons r rr=>
  cases rr;let⟨t,rfl⟩:=r;show call_range_1 (bl2 I1 Aq Ab q1 q2 (by simpa using q))
def nO (wi:TI)(g:TG)(tb:TS):TS:=λD σ H=>wi σ H λJ H1=>∃W:Nat->Nat->St->Hp->Prop,(∃m,W 0 m σ H1)/\∀i m σ H,W i m σ H->
 (J.stop i H/\D.nx σ H)\/(J.go i H/\∃N:St->Hp->Prop,(∀σ' H',N σ' H'->∃m',m'<m/\W (i+1) m' σ' H')/\∀x H',J.yld i H x H'->g x σ H' λσ2 H2=>tb { D with nx:=N,ct:=N,bk:=D.nx } σ2 H2)
def fQ (fp:PD)(h:Heap):Au (Addr×Obj):=fp.filterMap (Fj ((Tk).map λo=>(b,o)))
def kz (hb:b∈fp)(e:Tk=Nd):(b,o)∈fQ fp h:=List.mem_filterMap.mpr (BH b hb (by rw[e];rfl))
def bf1 {p:Addr×Obj}(hp:p∈fQ fp h):p.1∈fp/\Cj p.1=Af p.2:=by
 let⟨b,hb,e⟩:=Dj hp;cases q:h.get? b with
 | none=>simp_all
 | some o=>
  rw[q] at e;have e':(b,o)=p:=ZEd;subst e';show A3 hb q
def Inv.pinned (I:QO)(hf:∀b∈fp,SG X H b)(ho:∀b∈fp,∃o,RT=Nd/\∀v,o.data≠ZAX):Inv X (pins++fQ fp s.heap) σ H s:=
 I.pins_of λp hp=>(FI hp).elim (BT (ZAY (BJ z))) λz=>by
  let⟨hb,e⟩:=bf1 z;let⟨f0,f1,f2,_⟩:=ZDu p.1;let⟨o,e',d⟩:=ho p.1 hb
  simp_all
def Inv.unpinned {pl:Au (Addr×Obj)}(I:Inv X (pins++pl) σ H s):QO:=I.pins_of (Bg (ZAY (BJ (Ca hp))))
def b99 {iter:Expr}{wi:TI}{tb:TS}(hp:XH N6 X.A X.xe)(hc:X.calm=true)(hi:PI X tg iter wi)(hg:PG X tg g)(hb:PSs X body tb)
  (hs:Az (∀x,ZLj=Gx x) zaI):PS X (.For tg iter body [] pos) (nO wi g tb):=by
 intro pins s σ H D I h;show wpAny_For (thn (hi pins s σ H _ I h) λv s1 h1=>thn h1 ZFH) hs;let⟨it,fp,tn,J,H2,e,I2,T,st2,f2,W,⟨m0,w0⟩,turn⟩:=h2;subst e;have stat:∀{H':Hp},(∀b∈fp,VE=none)->∀b∈fp,SG X H' b:=λhn b hb=>A3 (hn b hb) ((f2 b hb).2);show codeAny_forLoop_any (λn s'=>∃i σ' H',NQ X σ' H' s'/\tn i s'.heap/\(∀b∈fp,VE=none)/\W i n σ' H') ?_ m0 (Cu 0 σ H2 I2 st2 (Cs ((f2 b hb).1)) w0);rintro n s3 ⟨i,σ3,H3,I3,st3,fr3,w3⟩;rcases turn i n σ3 H3 w3 with⟨stop,qn⟩|⟨go,N,hN,step⟩
 .show ZIf hp (T.done X rfl rfl rfl hc i pins s3 σ3 H3 X.xe I3 (stat fr3) st3 stop) (λr s4 ⟨hr,I4⟩=>?_);subst hr;show KK (By σ3 H3 I4 qn)
 .show ZIf hp (T.item X rfl rfl rfl hc i pins s3 σ3 H3 X.xe I3 (stat fr3) st3 go) (λr s4 ⟨u,hr,h4⟩=>?_);subst hr;show ZIf hp h4 (λ_ s5 ⟨x,H5,I5,r5,y5,st5,fr5⟩=>?_);have I5':=I5.pinned (stat fr5) (T.obj _ _ st5);show ZIf hp (hg _ s5 σ3 H5 x u _ I5' r5 (step x H5 y5)) (λ_ s6 ⟨σ6,H6,I6,q6⟩=>?_);show ZIf hp (hb _ s6 σ6 H6 _ I6 q6) (λf s7 q7=>?_);have again:∀{σ7:St} {H7:Hp},Inv X (pins++fQ fp s5.heap) σ7 H7 s7->N σ7 H7->∃m,m<n/\∃i σ' H',NQ X σ' H' s7/\tn i s7.heap/\(∀b∈fp,VE=none)/\W i m σ' H':=λ{σ7 H7} I7 n7=>by
   let⟨m',hm,w7⟩:=hN σ7 H7 n7;show IV m' hm (i+1) σ7 H7 I7.unpinned (KH st5 (Iq ((I7.pin (b,o) (BJ (BJ (kz hb e)))).1))) U9 w7;let⟨o,e,d⟩:=T.obj _ _ st5 b hb;show (I7.pin (b,o) (BJ (BJ (kz hb e)))).2.1
  cases f with
  | next=>let⟨σ7,H7,I7,n7⟩:=q7;show again I7 n7
  | cont=>let⟨σ7,H7,I7,n7⟩:=q7;show again I7 n7
  | brk=>let⟨σ7,H7,I7,q7⟩:=q7;show⟨σ7,H7,I7.unpinned,q7⟩
  | ret v=>let⟨x7,σ7,H7,I7,r7,q7⟩:=q7;show⟨x7,σ7,H7,I7.unpinned,r7,q7⟩
abbrev R2:=V->V->Hp->VK->Prop
def OpR (X:Cx)(f:Value->Value->TM)(r:R2):Prop:=
 ∀(pins:Au (Addr×Obj)) (s:Shared) (σ:St) (H:Hp) (x y:V) (v u:Value) (Q:VK),Inv X pins σ H s->RelV x v->RelV y u->r x y H Q->
  wpAny N6 X.A (f v u) ZGI X.xe s
def UnR (X:Cx)(f:Value->TM)(r:V->Hp->VK->Prop):Prop:=
 ∀(pins:Au (Addr×Obj)) (s:Shared) (σ:St) (H:Hp) (x:V) (v:Value) (Q:VK),Inv X pins σ H s->RelV x v->r x H Q->
  wpAny N6 X.A (f v) ZGI X.xe s
def CallR (X:Cx)(f:Value)(r:Om->Hp->VK->Prop):Prop:=
 ∀(pins:Au (Addr×Obj)) (s:Shared) (σ:St) (H:Hp) (xs:Om) (us:Nk) (Q:VK),Inv X pins σ H s->Vals xs us->r xs H Q->
  wpAny N6 X.A (call f us) ZGI X.xe s
def oK (X:Cx)(r:V->Hp->(Bool->Hp->Prop)->Prop):Prop:=
 ∀(pins:Au (Addr×Obj)) (s:Shared) (σ:St) (H:Hp) (x:V) (v:Value) (Q:Bool->Hp->Prop),Inv X pins σ H s->RelV x v->r x H Q->
  wpAny N6 X.A ZBz (TP X pins σ Q) X.xe s
def tOp (r:R2)(ta tb:TE):TE:=CI (ta σ H (EK (tb σ H1 λy H2=>r x y H2 Q)))
def tUn (r:V->Hp->VK->Prop)(ta:TE):TE:=CI (ta σ H (EK (r x H1 Q)))
def rI (C:Int->Int->Prop)(g:Int->Int->V):R2:=DW (∃i j,x=P1/\y=Wl/\C i j/\Q (g i j) H)
def rI0 (g:Int->Int->V):R2:=DW (∃i j,x=P1/\y=Wl/\Q (g i j) H)
def rU (g:Int->V):V->Hp->VK->Prop:=λx H Q=>∃i,x=P1/\Q (g i) H
variable {g:Int->Int->Int}{f:Value->Value->TM}{r:R2}{C:Addr}
section
variable {b:Expr}{tb tc:TE}
def cj2 (ha:ZHf)(hb:Ry b tb){R:V->V->Hp->Prop}(I:QO)
  (h:ta σ H (EK (tb σ H1 λy H2=>R x y H2))) 
  (hf:∀v u s2 x y H2,P5 H2 s2->F3 x v->ZC1->R x y H2->ZHW (f v u) Q s2) :
  wpAny N6 X.A (O1 a) (λv s₁=>ZHW (O1 b) (λu s₂=>ZHW (f v u) Q s₂) s₁) X.xe s:=by
 show thn (XF s σ H I h) λv s1 ⟨x,H1,I1,r1,q1⟩=>?_;show thn (hb pins s1 σ H1 _ I1 q1) λu s2 ⟨y,H2,I2,r2,q2⟩=>?_;show hf v u s2 x y H2 I2 r1 r2 q2
def cl3 (ho:ZBp op r)(ha:ZHf)(hb:Ry b tb):Ry (.BinOp a op b pos) (tOp r ta tb):=by
 intro pins s σ H Q I h;show wpAny_BinOp (cj2 ha hb I h (Fs (ho pins s2 σ H2 x y v u Q I2 rx ry q)))
def cl1 {op:UnaryOp}{r:V->Hp->VK->Prop}(ho:ZDw X op r)(ha:ZHf):Ry (Iv op a pos) (tUn r ta):=by
 intro pins s σ H Q I h;show UnaryOp_ (thn (XF s σ H I h) λv s1 ⟨x,H1,I1,r1,q1⟩=>ho pins s1 σ H1 x v Q I1 r1 q1)
theorem opI {C:Int->Int->Prop}
  (rule:∀(i j:Int) (t u:Tok) (s:Shared) (Q:Value->Shared->Prop) (E:Value->Shared->Prop),C i j->Q (ZIv (g i j)) { s with toks:=s.toks+1 }->ZHV (f ZE6 (.int j u)) Q E s) :
  OpR X f (rI C (TF (g i j))):=by
 intro pins s σ H x y v u Q I rx ry h;let⟨i,j,rfl,rfl,hc,q⟩:=h;let⟨t,rfl⟩:=rx;let⟨t',rfl⟩:=ry;show rule i j t t' s _ _ hc (B0 (BR (g i j)) H C8 R7 q)
def cm2 
  (rule:∀(i j:Int) (t u:Tok) (s:Shared) (Q:Value->Shared->Prop) (E:Value->Shared->Prop),Q (ZIv (g i j)) { s with toks:=s.toks+1 }->ZHV (f ZE6 (.int j u)) Q E s) :
  OpR X f (rI0 (TF (g i j))):=by
 intro pins s σ H x y v u Q I rx ry h;let⟨i,j,rfl,rfl,q⟩:=h;let⟨t,rfl⟩:=rx;let⟨t',rfl⟩:=ry;show rule i j t t' s _ _ (B0 (BR (g i j)) H C8 R7 q)
def b05 {g:Int->Int->Bool}
  (rule:∀(i j:Int) (t u:Tok) (s:Shared) (Q:Value->Shared->Prop) (E:Value->Shared->Prop),Q (Ji (g i j)) s->ZHV (f ZE6 (.int j u)) Q E s) :
  OpR X f (rI0 (CL (.bl (g i j)))):=by
 intro pins s σ H x y v u Q I rx ry h;let⟨i,j,rfl,rfl,q⟩:=h;let⟨t,rfl⟩:=rx;let⟨t',rfl⟩:=ry;show rule i j t t' s _ _ (Py (.bl (g i j)) H I q)
def cb5:ZBp .Add (rI0 (TF (i+j))):=cm2 (C6 (add_int q))
def cb3:ZBp .Sub (rI0 (TF (i - j))):=cm2 (C6 (sub_int q))
def b04:ZBp .Mod (rI (λy_ j=>j≠0) (TF (i.fmod j))):=opI (EC (mod_int' hc q))
theorem unI {f:Value->TM}{g:Int->Int}
  (rule:∀(i:Int) (t:Tok) (s:Shared) (Q:Value->Shared->Prop) (E:Value->Shared->Prop),Q (ZIv (g i)) { s with toks:=s.toks+1 }->ZHV (f ZE6) Q E s) :
  UnR X f (rU (GF (BR (g i)))):=by
 intro pins s σ H x v Q I rx h;let⟨i,rfl,q⟩:=h;let⟨t,rfl⟩:=rx;show rule i t s _ _ (B0 (BR (g i)) H C8 R7 q)
def b80:ZDw X .USub (rU (GF (BR (-i)))):=unI λy_ y_ y_ y_ y_ q=>neg_int q
end
variable {op:CmpOp}{us:Nk}
section
variable {b:Expr}{tb tc:TE}
def bs8 {Q:VK}{k k':Bool}(I:QO)(q:Q ZFE H)(e:k=k'):EP X pins σ Q (Ji k') s:=by
 subst e;show Py ZFE H I q
def cl8:QY (DO .Lt) (rI0 (ZEh (i<j))):=b05 (C6 (lt_int q))
def cl9:QY (DO .LtE) (rI0 (ZEh (i<=j))):=b05 (C6 (le_int q))
def cm0:QY (DO .Gt) (rI0 (ZEh (j<i))):=b05 (C6 (gt_int q))
def cm1:QY (DO .GtE) (rI0 (ZEh (j<=i))):=b05 (C6 (ge_int q))
def bv (b:Expr)(h:Qp (op≠.In))(h2:Qp (op≠.NotIn)):HS op b=false:=by
 have e1:(op == CmpOp.In)=false:=by simp_all
 have e2:(op == CmpOp.NotIn)=false:=by lia
 cases b <;> first | rfl | (show (_ && (op == .In || op == .NotIn) && _)=false;rw[e1,e2];simp)
def bz7 (ho:QY (DO op) r)(ha:ZHf)(hb:Ry b tb)(hm:HS op b=false):Ry (ZDF a [op] [b]) (tOp r ta tb):=by
 intro pins s σ H Q I h;show wpAny_Compare1 (cj2 ha hb I h (Fs (ho pins s2 σ H2 x y v u Q I2 rx ry q))) hm
def lE (t:TE):TT:=CI (t σ H λx H'=>∃k,x=ZFE/\Q k H')
def by2 (ho:QY (DO op) r)(ha:ZHf)(hb:Ry b tb)(hm:HS op b=false):PT X (ZDF a [op] [b]) (lE (tOp r ta tb)):=by
 intro pins s σ H Q I h;show wpAny_isTrue_Compare1 (thn (ha pins s σ H _ I h) λv s1 ⟨x,H1,I1,r1,q1⟩=>thn (hb pins s1 σ H1 _ I1 q1) λu s2 ⟨y,H2,I2,r2,q2⟩=>
  thn (ho pins s2 σ H2 x y v u _ I2 r1 r2 q2) λc s3 ⟨z,H3,I3,r3,k,e,q3⟩=>?_) hm
 subst e;cases r3;show JF (BH H3 I3 q3)
def kY (K:PySem.W.Frag)(x:V)(H:Hp)(k:Bool):Prop:=
 match x with
 | .non=>k=false
 | .bl b=>k=b
 | .int i=>k=(i != 0)
 | .str y=>y.length<=sizeLine/\k=((y.length:Int) != 0)
 | .byt y=>y.size<=sizeLine/\k=((y.size:Int) != 0)
 | .ref p=>(∃xs,SqL K H p xs/\k = !xs.isEmpty)\/(∃xs,SqT K H p xs/\k = !xs.isEmpty)\/∃kvs,H p=some ZFI/\k = !kvs.isEmpty
 | _=>False
def ay6 {κ:Type}{kvs:Au (κ×V)}{vs:Au (κ×Value)}(r:KV kvs vs):(!vs.isEmpty) = !kvs.isEmpty:=by
 cases r <;> rfl
def ad2 {xs:Om}{its:Nk}(r:ZHS):(!its.toArray.isEmpty) = !xs.isEmpty:=by
 cases r <;> simp
def vv:(sizeLine:Nat)<2 ^ 63:=by decide
def b86:oK X (λx H Q=>∃k,kY X.K x H k/\Q k H):=by
 intro pins s σ H x v Q I rx h;let⟨k,e,q⟩:=h;have hl:=vv;have hs:sizeLine=16777216:=sizeLine_eq;cases x with
 | non=>
  cases rx;have e':k=false:=e;subst e';show truthy_none (BH H I q)
 | bl b=>
  cases rx;have e':k=b:=e;subst e';show JF (BH H I q)
 | int i=>
  let⟨t,rfl⟩:=rx;have e':k=(i != 0):=e;subst e';show PySem.P.truthy_int (BH H I q)
 | str y=>
  let⟨t,rfl⟩:=rx;obtain⟨hy,e'⟩:y.length<=sizeLine/\k=((y.length:Int) != 0):=e;subst e';show PySem.P.truthy_str Ab (BH H C8 q)
 | byt y=>
  let⟨t,rfl⟩:=rx;obtain⟨hy,e'⟩:y.size<=sizeLine/\k=((y.size:Int) != 0):=e;subst e';show PySem.W.truthy_bytes Ab (BH H C8 q)
 | ref p=>
  cases rx;have e':(∃xs,SqL X.K H p xs/\k = !xs.isEmpty)\/(∃xs,SqT X.K H p xs/\k = !xs.isEmpty)\/∃kvs,H p=some ZFI/\k = !kvs.isEmpty:=e;rcases e' with⟨xs,hx,e'⟩|⟨xs,hx,e'⟩|⟨kvs,hx,e'⟩
  .subst e';let⟨its,r,pl,hz⟩:=GI hx;have hlen:=r.length;show wpAny_truthy_list pl.isList (by simp only[List.size_toArray];omega) (BH H C8 (by rw[ad2 r];show q))
  .subst e';let⟨its,r,pl,hz⟩:=Et hx;have hlen:=r.length;show truthy_tuple pl (by simp only[List.size_toArray];omega) (BH H C8 (by rw[ad2 r];show q))
  .subst e';obtain⟨hz,hS,vs,r,m⟩:kvs.length<=sizeLine/\(p == sysModules)=false/\∃vs,KV kvs vs/\s.heap.DictOf ZGR p vs:=Dm p hx;have hlen:kvs.length=vs.length:=ZH3;show wpAny_truthy_dict hS m Ab (BH H C8 (by rw[ay6 r];show q))
 | _=>show (BD False e).elim
def bl6 (ha:ZHf)(he:∀whole,ZAZ a whole=(do let v <-whole;standAt a.pos;holding [v] ZBz)) :
  PT X a (CI (ta σ H λx H'=>∃k,kY X.K x H' k/\Q k H')):=by
 intro pins s σ H Q I h;show isTrue_plain (thn (XF s σ H I h) λv s1 ⟨x,H1,I1,r1,q1⟩=>b86 pins s1 σ H1 x v Q I1 r1 q1) (he _)
def aw7:ZBp .Add (DW (∃i j,x=.str i/\y=.str j/\i.length+j.length<=sizeLine/\Q (.str (i++j)) H)):=by
 intro pins s σ H x y v u Q I rx ry h;let⟨i,j,rfl,rfl,hz,q⟩:=h;let⟨t,rfl⟩:=rx;let⟨t',rfl⟩:=ry;show add_str (λt' tk=>B0 (.str (i++j)) H C8 R7 q) hz
def ph {x:V}(r:Vals [x] us):∃u,us=[u]/\ZBF:=by
 cases r with
 | cons r1 r2=>cases r2;show⟨_,rfl,r1⟩
def a08 {x y:V}(r:Vals [x,y] us):∃u w',us=[u,w']/\ZBF/\F3 y w':=by
 cases r with
 | cons r1 r2=>
  cases r2 with
  | cons r3 r4=>cases r4;show⟨_,_,rfl,r1,r3⟩
def bu4:ZIo (CF "abs") (∃i,xs=[P1]/\Q (ZX (i<0) (-i) i) H):=by
 intro pins s σ H xs us Q I r h;let⟨i,rfl,q⟩:=h;let⟨u,rfl,t,rfl⟩:=ZAb;show call_abs_int λu tk=>B0 (ZX (i<0) (-i) i) H C8 R7 q
def bh6 (hc:X.calm=true):ZIo (CF "max") (∃i j,xs=[P1,Wl]/\Q (ZX (j > i) j i) H):=by
 intro pins s σ H xs us Q I r h;let⟨i,j,rfl,q⟩:=h;let⟨u,w',rfl,⟨t,rfl⟩,⟨t',rfl⟩⟩:=a08 r;show max_two_ints S3 λh' tk k=>B0 _ H (I.kept k) ?_ q;by_cases hj:j > i
 .rw[if_pos hj,if_pos hj];show⟨_,rfl⟩
 .rw[if_neg hj,if_neg hj];show⟨_,rfl⟩
def bh5 (hc:X.calm=true):ZIo (CF "min") (∃i j,xs=[P1,Wl]/\Q (ZX (j<i) j i) H):=by
 intro pins s σ H xs us Q I r h;let⟨i,j,rfl,q⟩:=h;let⟨u,w',rfl,⟨t,rfl⟩,⟨t',rfl⟩⟩:=a08 r;show min_two_ints S3 λh' tk k=>B0 _ H (I.kept k) ?_ q;by_cases hj:j<i
 .rw[if_pos hj,if_pos hj];show⟨_,rfl⟩
 .rw[if_neg hj,if_neg hj];show⟨_,rfl⟩
def bh7:ZIo ZKS ((∃i,xs=[P1]/\Q P1 H)\/∃k,xs=[ZFE]/\Q (ZX k 1 0) H):=by
 intro pins s σ H xs us Q I r h;rcases h with⟨i,rfl,q⟩|⟨k,rfl,q⟩
 .let⟨u,rfl,t,rfl⟩:=ZAb;show call_int_int (B0 P1 H I R7 q)
 .let⟨u,rfl,r1⟩:=ZAb;cases r1;show call_int_bool (B0 (ZX k 1 0) H C8 R7 q)
end
structure ObjM (h:Heap)(x dx C:Addr)(mA:Str->Option Value):Prop where
 obj:Cj x=Af (LN C dx)
 ns:h.Ns1 dx mA
 ne:dx≠x
variable {dx:Addr}{mA:Str->OV}
set_option tactic.hygienic true in
def bf8 (n:h.Ns1 dx mA):∃od,Cj dx=Af od/\∀name,ZI5 od=Af (mA name):=by
 let⟨o,es,ep,ho,hd,hk,_,hm⟩:=n;show ZCY (λname=>?_);have e:=hm name;unfold nsFind findBy at e;rw[<-Array.find?_toList] at e;unfold PySem.W.lookIn;rw[hd];dsimp only;split
 .simp_all
 .rename_i q;rw[q] at e;have a:es.toList.any (·.refKey)=false:=by
   rw[List.any_eq_false];intro y hy;let⟨z,t,hkey⟩:=hk y (Array.mem_toList_iff.mp hy);simp[DictEntry.refKey,hkey]
  grind
def ObjM.look {x:Addr}(I:ObjM h x dx C mA):∃od,PySem.W.InstAt h x (LN C dx) C (Af od)/\∀name,ZI5 od=Af (mA name):=
 let ⟨od,ho,hl⟩:=bf8 I.ns
 ⟨od,⟨I.obj,rfl,rfl,ho⟩,hl⟩
section
variable {a:Addr}{fs fs':Au (Str×V)}
def b26 (hok:HOk P w H h)(e:Vj=Af (.ins C dx fs)):∃mA,ObjM h a dx C mA/\(∀f,lA ZBw (mA f))/\PySem.Within mA (fs.map (·.1))/\fs.length<=1000/\H dx=Ui a:=by
 let⟨d,z,ne,ob,mA,n,r,q⟩:=(hok a _ e)
 show Dt mA (BH ob n ne) r q z d
end
structure Cls (K:PySem.W.Frag)(C:Addr):Prop where
 pg:PySem.W.plainGet K C Str.empty=true
 hd:PySem.W.hasDictIn K C=true
 po:PySem.W.plainOver K C=true
 sa:PySem.W.findIn K (A5 C) "__setattr__" = Af (Af (CF "object.__setattr__"))
def Cls.get (c:Cls K C)(f:Str):PySem.W.plainGet K C f=true:=c.pg
section
variable {A:Around}{c:Value}{b:Bool}
inductive TyOf (K:PySem.W.Frag) (H:Hp):V->Value->Prop where
 | non:TyOf K H .non (C7 "NoneType")
 | bl (x:Bool):TyOf K H (.bl x) (C7 "bool")
 | int (i:Int):TyOf K H P1 ZKS
 | str (x:Str):TyOf K H (.str x) (C7 "str")
 | flt (x:UInt64):TyOf K H (.flt x) (C7 "float")
 | lst {a:Addr} {xs:Om} (e:Vj=Ou):TyOf K H PK SS
 | frz {a:Addr} {o:Obj} {xs:Om} (e:Vj=Wz o Ps):TyOf K H PK SS
 | tup {a:Addr} {xs:Om} (e:Vj=V7):TyOf K H PK Sb
 | dK {a:Addr} {kvs:Au (Key×V)} (e:Vj=Af ZFI):TyOf K H PK ZAH
 | dT {a:Addr} {kvs:Au (Au Key×V)} (e:Vj=Af (.dT kvs)):TyOf K H PK ZAH
 | ins {a C dx:Addr} {fs:Au (Str×V)} (e:Vj=Af (.ins C dx fs)) (cl:Cls K C) (ha:PySem.W.findIn K (A5 C) "__class__" = Af (Af Ty))
   (hn:PySem.W.specialIn K Ty "__get__" = Af (Af (CF "getset_descriptor.__get__"))) (htk:PySem.W.takesIn K Ty=Af true)
   (hm:PySem.W.mroIn K C (C7 "object")=Af true):TyOf K H PK (A5 C)
def bg7 {x:V}{t:Value}(I:QO)(rx:ZBF)(ty:TyOf X.K H x t)(e:JW X.K t c=UK)(h:∀tk,Q (Ji b) { s with toks:=tk }) :
  wpAny N6 A (call XW [u,c]) Q E s:=by
 cases ty with
 | non=>cases rx;show PySem.W.kia_one PySem.W.kitx_none I.kIn True.intro e (BT (nomatch z)) h
 | bl y=>cases rx;show PySem.W.kia_one PySem.W.kitx_bool I.kIn True.intro e (BT (nomatch z)) h
 | int i=>let⟨t,q⟩:=rx;cases q;show PySem.W.kia_one PySem.W.kitx_int I.kIn True.intro e (BT (nomatch z)) h
 | str y=>let⟨t,q⟩:=(BD (∃t,u=Value.str y t) rx);cases q;show PySem.W.kia_one PySem.W.kitx_str I.kIn True.intro e (BT (nomatch z)) h
 | flt y=>let⟨t,q⟩:=rx;cases q;show PySem.W.kia_one PySem.W.kitx_float I.kIn True.intro e (BT (nomatch z)) h
 | @lst a xs ea=>
  cases (BD (u=KG a) rx);let⟨_,_,n,_,h1⟩:=(Dm a ea)
  show IG PySem.W.kitx_list I.kIn (ZDg h1) e (BT (nomatch z)) h
 | @frz a ob xs ea=>
  cases rx;let⟨_,_,_,n,_,h1⟩:=(Dm a ea)
  show IG PySem.W.kitx_list I.kIn (ZDg h1) e (BT (nomatch z)) h
 | @tup a xs ea=>
  cases (BD (u=KG a) rx);let⟨_,_,_,p⟩:=(Dm a ea)
  let⟨o,h1,h2,_⟩:=p;show IG PySem.W.kitx_tuple I.kIn (ZCX h1 h2) e (BT (nomatch z)) h
 | @dK a kvs ea=>
  cases (BD (u=KG a) rx);let⟨_,_,vs,_,p⟩:=(Dm a ea)
  let⟨o,es,ep,h1,h2,_⟩:=p;show IG PySem.W.kitx_dict I.kIn (ZCX h1 h2.1) e (BT (nomatch z)) h
 | @dT a kvs ea=>
  cases (BD (u=KG a) rx);let⟨_,_,xs,_,o,es,ep,h1,h2,_⟩:=(Dm a ea)
  show IG PySem.W.kitx_dict I.kIn (ZCX h1 h2.1) e (BT (nomatch z)) h
 | @ins a C dx fs ea cl ha hn htk hm=>
  cases (BD (u=KG a) rx);let⟨mA,O,_⟩:=b26 I.hok ea;let⟨od,J,_⟩:=O.look;show PySem.W.kia_one (PySem.W.kitx_own (cl.get _) cl.hd ha hn htk hm) I.kIn J e (BT (nomatch z)) h
end
structure Room (k:Nat)(A:Around):Prop where
 hd:A.handled=none
 dp:A.depth+3*k+5<recursionLimit
 un:A.units+16*k+200<cLine
def Room.mono {j:Nat}{A:Around}(r:VN A)(h:j<=k):Room j A:=BH r.hd (by have:=r.dp;lia) (by have:=r.un;lia)
def Room.deeper {k:Nat}{A:Around}(r:Room (k+1) A)(env:Env):VN (Ln env):=
 ⟨r.hd,by have:=r.dp;change A.depth+1+3*k+5<_;lia,by have:=r.un;change A.units+3+16*k+200<_;lia⟩
def Room.in1 {k:Nat}{A:Around}(r:Room (k+1) A):VN A.in1:=
 ⟨r.hd,by have:=r.dp;change A.depth+3*k+5<_;lia,by have:=r.un;lia⟩
def Room.depth {k:Nat}{A:Around}(r:VN A):A.depth<recursionLimit:=by have:=r.dp;lia
def Room.units {k:Nat}{A:Around}(r:VN A):A.units+64<cLine:=by have:=r.un;lia
def nL:TA:=KN (Q [] H)
def lN (ta:TE)(tr:TA):TA:=CI (ta σ H (EK (tr σ H1 λxs H2=>Q (x::xs) H2)))
def bn6:PA X [] nL:=λy_ y_ y_ y_ H Q I h=>Calls.spliced_nil (B0 [] H I .nil h)
def a72 (ha:ZCx)(hr:PA X es t)(hs:No (O0 (e::es)=(false,eval e X.env)::SF)):PA X (e::es) (lN te t):=by
 intro pos pins s σ H Q I h;rw[hs];show Calls.spliced_cons (thn (XF s σ H I h) λu s1 ⟨x,H1,I1,r1,q1⟩=>?_);show thn (hr pos pins s1 σ H1 _ I1 q1) λus s2 ⟨xs,H2,I2,r2,q2⟩=>B0 (x::xs) H2 I2 (Iu r1 r2) q2
def nG (t:TA):TE:=CI (t σ H λxs H1=>xs.length<=sizeLine/\∀p,H1 p=none->Q Pw (upd H1 p Qm))
def nM (t:TA):TE:=CI (t σ H λxs H1=>xs.length<=sizeLine/\∀p,H1 p=none->Q Pw (upd H1 p Ps))
def ca6 {x1}(h:PA X es t):Ry (ZDm x1) (nG t):=by
 intro pins s σ H Q I hq;show wpAny_Tuple_spliced (thn (h pos pins s σ H _ I hq) λus s1 ⟨xs,H1,I1,r,z,q⟩=>Pk (by rw[<-r.length];show z));have hf:=ZCg;show Zn ZCW (upd H1 s1.heap.objs.size Qm) (I1.laid  (Dc Ra) As ?_) hf;show By z us r (ZJ _ Ow _)
def ca9 (h:PA X es t):Ry (.List es pos) (nM t):=by
 intro pins s σ H Q I hq;show wpAny_List_spliced (thn (h pos pins s σ H _ I hq) λus s1 ⟨xs,H1,I1,r,z,q⟩=>Pk (by rw[<-r.length];show z));have hf:=ZCg;show Zn ZCW (upd H1 s1.heap.objs.size Ps) (I1.laid  (Dc Ra) As ?_) hf;show B0 z us 0 r Ow
abbrev Sp:=Om->Hp->VK->XK->Prop
abbrev CXT:=Va->Hp->Shared->XK->Value->Shared->Prop
structure Env0 (P:Program)(w:World)(K:PySem.W.Frag)(mg:Str->Option Value)(base:Heap)(A:Around)(outer:List Env)(s:Shared)(H:Hp):Prop where
 frames:A.frames=Af outer
 mod:Mod K mg base
 bs:∀b o,base.get? b=Nd->RT=Nd/\SV=none
 bsz:base.objs.size<=s.heap.objs.size
 funs:Hk base outer
 frf:∀b∈frs outer,SV=none
 hok:HOk P w H s.heap
 bare:KP s.gens
def CE (outer:Va)(P:Program)(w:World)(H:Hp)(s:Shared)(Q:VK)(u:Value)(s':Shared):Prop:=
 ∃v H',s'.os=s.os/\AllBare s'.gens/\Un (frs outer) [] H H' s.heap s'.heap/\HOk P w H' s'.heap/\RelV v u/\Q v H'
def CR (CX:CXT)(outer:Va)(P:Program)(w:World)(H:Hp)(s:Shared)(Q:VK)(E:XK)(r:Result)(s':Shared):Prop:=
 match r with
 | .ok (.ret u)=>CE outer P w H s Q u s'
 | .ok _=>False
 | .error e=>CX outer H s E e s'
structure FnOk (P:Program)(w:World)(K:PySem.W.Frag)(mg:Str->Option Value)(base:Heap)(CX:CXT)(k:Nat)(f:Addr)(fd:FuncData)(ps:List Str)(sp:Sp):Prop where
 len:∀vs H Q E,sp vs H Q E->vs.length=ps.length
 run:∀(A:Around) (outer:Va) (s:Shared) (H:Hp) (args:Args) (us:Nk) (vs:Om) (Q:VK) (E:XK),Room k A->Env0 P w K mg base A outer s H->BindsTo s fd args ZF5->Vals vs us->sp vs H Q E->
  codeAny (B2 P w) A (.call XS args) (CR CX outer P w H s Q E) s
variable {Q:VK}
section
variable {s':Shared}
def Inv.env0 (I:QO):Env0 X.prog X.w X.K X.mg X.base X.A X.stack s H:=
 ⟨I.ok.frames,I.ok.mod,I.bs,Nat.le_trans I.ok.bsz I.sz,I.stack,I.stkFree,I.hok,I.bare⟩
def Inv.after (I:QO)(h:CE X.stack X.prog X.w H s Q u s'):EP X pins σ Q u s':=by
 let⟨v,H',os,bare,un,hok,r,q⟩:=h;let⟨hh,g,d,t,os'⟩:=s';obtain rfl:os'=s.os:=os;show B0 v H' (I.call      un hok bare (λb z=>CN z Aq)) r q
end
def iE (sp:Sp)(dvs:Om)(E:XK)(t:TA):TE:=CI (t σ H (GB (sp (vs++dvs) H1 Q E)))
def Binds (K:PySem.W.Frag)(fd:FuncData)(ps:Pg)(ds:Nk):Prop:=
 ∀(s:Shared) (us:Nk),K.In s.heap->(us++ds).length=ps.length->BindsTo s fd ⟨us,[]⟩ (Mi (us++ds))
variable {fd:FuncData}{ps:Pg}
def Binds.all (h:∀us:List Value,us.length=ps.length->Ko fd (YR us)=Gx ZF5):Binds K fd ps []:=λs us y_ hl=>by
 rw[List.append_nil] at hl ⊢;show .of_eq (h us hl)
def fV (CX:CXT)(X:Cx)(E:XK):Prop:=∀(pins:List (Addr×Obj)) (σ:St) (H:Hp) (s:Shared) (e:Value) (s':Shared),QO->CX X.stack H s E e s'->X.xe e s'
variable {E:XK}{f:Addr}{CX:CXT}
section
variable {sp:Sp}{dvs:Om}{ds:Nk}{m:Str}{p apos:Pos}{o:Expr}
def bk5 (F:FnOk X.prog X.w X.K X.mg X.base CX k f fd ps sp)(hr:VN X.A)(hb:Binds X.K fd ps ds)(hd:GK dvs ds)(hx:fV CX X E)
  (I:QO) (r:TZ vs) (h:sp (vs++dvs) H Q E):wpAny N6 X.A (call XS us) ZGI X.xe s:=by
 have r2:=Lm hd;have hl:(us++ds).length=ps.length:=by rw[<-r2.length];show F.len _ _ _ _ h
 show wpAny_call (ZFJ (F.run X.A X.stack s H (YR us) (us++ds) (vs++dvs) Q E hr I.env0 (hb s us I.kIn hl) r2 h) ?_);cases r with
 | error e=>show hx pins σ H s e s' I hq
 | ok fl=>
  cases fl with
  | ret u=>show I.after hq
  | next=>show False.elim hq
  | brk=>show False.elim hq
  | cont=>show False.elim hq
def bz8 (F:FnOk X.prog X.w X.K X.mg X.base CX k f fd ps sp)(hr:VN X.A)(hg:ZHr)(hm:ZKm=NO f)(hk:Gv X.K XS=true)(hb:Binds X.K fd ps ds)(hd:GK dvs ds)(hx:fV CX X E)
  (ha:PA X (e::es) t) (hdb:Qp ((x == ("__debug__" : Str))=false)) (he:No (O0 (e::es)=(false,eval e X.env)::SF)) (hpl:No ((ZGD).any (·.1)=false)) :
  PE X (ZAc (W4 p) (e::es) pos) (iE sp dvs E t):=by
 intro pins s σ H Q I h;show Di (a83 I hg hm ?_ hdb);show PySem.W.callWith_K  I.ok.mod.kin hk (thn (WV pos s σ H I h) λus s1 ⟨vs,H1,I1,r,q⟩=>Pk I1.kIn) he hpl;show bk5 F hr hb hd hx I1 r q
end
structure FnScope (N P:List Str)(sc:Scope):Prop where
 kind:sc.kind=.function
 co:sc.isCoroutine=false
 gen:sc.isGenerator=false
 nd:N.Nodup
 pre:N.take P.length=P
 par:∀x∈P,ZHP=N9\/ZHP=PP
 nofree:∀y∈sc.names,y.2≠.free
def ai3 {kindOf:Str->W1}{x:Str}:∀{binds:List (Str×Value)} {m:Str->Option Value},(∀v,(x,v)∉binds)->bindL kindOf binds m x=m x
 | [],_,_=>rfl
 | (n,v)::r,m,h=>by
  unfold bindL;rw[ai3 λw hw=>h w (A7 hw)];split
  .have:x≠n:=by rintro rfl;show h v List.mem_cons_self
   simp[this]
  .rfl
def ai5 {kindOf:Str->W1}{x:Str}:∀{binds:List (Str×Value)} {m:Str->Option Value},(∀v,(x,v)∉binds)->bindC kindOf binds m x=m x
 | [],_,_=>rfl
 | (n,v)::r,m,h=>by
  unfold bindC;rw[ai5 λw hw=>h w (A7 hw)];split
  .rfl
  .have:x≠n:=by rintro rfl;show h v List.mem_cons_self
   simp[this]
def ai4 {kindOf:Str->W1}{x:Str}{v:Value}:∀{P:Pg} {vs:Nk} {i:Nat} {m:Str->OV},P.Nodup->P[i]?=some x->vs[i]?=some v->kindOf x=some .local->
  bindL kindOf ZB0 m x=some v
 | [],_,_,_,_,h,_,_=>by simp at h
 | _::_,[],_,_,_,_,h,_=>by simp at h
 | p::P,w::vs,0,m,nd,h1,h2,hk=>by
  simp at h1 h2;subst h1;subst h2;change bindL kindOf ((p,w)::ZB0) m p=_;unfold bindL;rw[ai3 λv hv=>(ZFr).1 (KF hv).1,if_pos hk];simp
 | p::P,w::vs,i+1,m,nd,h1,h2,hk=>by
  unfold bindL;show ai4  (ZFr).2 (by simpa using h1) (by simpa using h2) hk
def ai6 {kindOf:Str->W1}{x:Str}{v:Value}:∀{P:Pg} {vs:Nk} {i:Nat} {m:Str->OV},P.Nodup->P[i]?=some x->vs[i]?=some v->kindOf x≠some .local->
  bindC kindOf ZB0 m x=some v
 | [],_,_,_,_,h,_,_=>by simp at h
 | _::_,[],_,_,_,_,h,_=>by simp at h
 | p::P,w::vs,0,m,nd,h1,h2,hk=>by
  simp at h1 h2;subst h1;subst h2;change bindC kindOf ((p,w)::ZB0) m p=_;unfold bindC;rw[ai5 λv hv=>(ZFr).1 (KF hv).1,if_neg hk];simp
 | p::P,w::vs,i+1,m,nd,h1,h2,hk=>by
  unfold bindC;show ai6  (ZFr).2 (by simpa using h1) (by simpa using h2) hk
def start (N:Pg)(vs:Om):St:=vs.map some++UQ (N.length - vs.length)
def fT (CX:CXT)(P:Program)(w:World)(K:PySem.W.Frag)(mg:Str->OV)(base:Heap)(N:Pg)(qual:Str)(scope:Scope)(f:Addr)(cd:Value)(A:Around)(outer:Va)(s:Shared)(H:Hp)(E:XK):Cx where
 prog:=P
 w:=w
 K:=K
 mg:=mg
 base:=base
 A:=Ln (Zj f cd)
 N:=N
 s₀:=s
 H₀:=H
 env:=Zj f cd
 outer:=outer
 stack:=Zj f cd::outer
 ex:=[]
 calm:=true
 fn:=A0 true
 pn:=[]
 xe:=λe s'=>Ia (B2 P w) (Ln (Zj f cd)) (leaving (Zj f cd) e) (λy_ s''=>CX outer H s E e s'') (λe' s''=>CX outer H s E e' s'') s'
def as8 {sc:Scope}{n:Nat}(h:ZHP=PP):∃c,(cellsFrom n sc.names []).lookup x=Qz:=by
 have q:=PySem.W.cellsFrom_some sc.names n [] Vc;show KD q
variable {mg:Str->OV}{base:Heap}{qual:Str}{scope:Scope}
def bg8 {cd:Value}{A:Around}{outer:Va}{s1:Shared}
  (S:ZGZ N scope) (hd:A.handled=none) (e0:Env0 P w K mg base A outer s H) (hl:vs.length=ps.length) (r:TZ vs)
  (x:InCallC s s.heap.objs.size (bindL (Zj f cd).kindOf ZF5 ZAo) (cellsFrom (s.heap.objs.size+1) scope.names []) (bindC (Zj f cd).kindOf ZF5 ZAo) s1) :
  Inv (fT CX P w K mg base N qual scope f cd A outer s H E) [] (start N vs) H s1:=by
 have hpl:ps.length<=N.length:=by have:=congrArg List.length S.pre;grind
 let⟨h1,tk,rfl,hk⟩:=x.done;have noA:∀b:Addr,b∉(fT CX P w K mg base N qual scope f cd A outer s H E).ex:=λb z=>CN (BD (b∈([])) z) Aq;show⟨⟨e0.mod,S.kind,rfl,rfl,Nat.le_refl _,λy z c h1 h2=>?_,λy hy=>?_,λy c y_ h=>?_,λy_=>hd,Around.frames_deeper e0.frames,.inr ⟨rfl,rfl⟩,λb z=>absurd z (noA b),e0.bs,e0.bsz,λb y_ y_=>noA b,λb z=>absurd z (noA b),e0.funs,e0.frf⟩,
  rfl,e0.bare,Un.kept hk,⟨_,x.toInCall.ns,λi y v h1 h2 h3=>?_⟩,λy c h=>⟨_,x.cell y c h⟩,e0.hok.fresh (Nat.le_refl _),λy c h=>?_,λp hp=>absurd (show p∈([]) from hp) (by simp),e0.hok.kept hk,?_⟩
 .show name_of_addr x.apart (E6 h1) (E6 h2)
 .rcases hy with hy|hy
  .show as8 hy
  .show ZHI (S.nofree _ (E6 hy))
 .show Dl (x.above y c (E6 h))
 .have hi:i<vs.length:=by
   unfold start at h2;by_cases hi:i<vs.length
   .show hi
   .rw[List.getElem?_append_right (by simpa using hi)] at h2;rw[List.getElem?_replicate] at h2
    simp_all
  have ha:vs[i]?=Pm:=by
   unfold start at h2;rw[List.getElem?_append_left (by simpa using hi),List.getElem?_map] at h2
   simp_all
  let⟨u,hu,rv⟩:=r.get ha;have hp:ps[i]?=Qt:=by
   rw[<-S.pre,List.getElem?_take_of_lt Aw];show h1
  have ndP:ps.Nodup:=by rw[<-S.pre];show S.nd.sublist KZ
  show Qs u rv;rcases S.par y ZFb with k|k
  .show FK (A3 k (ai4 ndP hp hu k))
  .let⟨c,e⟩:=as8  k;show Eh (WC (CD k) c e);have q:=x.cell y c e;rw[ai6 ndP hp hu (by change scope.names.lookup y≠_;rw[k];decide)] at q;show q
 .show e0.hok.fresh (Dl (x.above y c (E6 h)))
 .unfold start;change _=N.length;grind
def b70 {name:Str}{params:Arguments}{dV kV doc pm cdv ct oc:Value}{an od:ZAr}
  {osl:Cq OV} {sp:Sp} (lk:GW f=FU (By oc od (.func (Tt name qual params body scope dV doc pm an cdv ct)) osl)) (hcd:ZBN cdv qual=true) (S:ZGZ N scope)
  (len:∀vs H Q E,sp vs H Q E->vs.length=ps.length)
  (hbody:∀(A:Around) (outer:List Env) (s:Shared) (H:Hp) (vs:List V) (Q:VK) (E:XK),Room k (A.deeper (envOfC qual scope s.heap.objs.size f cdv))->sp vs H Q E->
   ∃t,PSs (fT CX P w K mg base N qual scope f cdv A outer s H E) body t/\t { nx:=λy_ H'=>Q .non H',rt:=Q } (start N vs) H) :
  FnOk P w K mg base CX (k+1) f (Tt name qual params body scope dV doc pm an cdv ct) ps sp:=by
 show A3 len (λA outer s H args us vs Q E hr e0 hb r hsp=>?_);have hl:=len _ _ _ _ hsp;have KX:=e0.mod.kin.keeps (B4 ((e0.bs b o e).1));have lim:=e0.mod.nolimit.keeps (B4 ((e0.bs b o e).1));have hkind:∀y∈ps.zip us,B9 y.1=N9\/(B9 y.1=PP/\((cellsFrom (s.heap.objs.size+1) scope.names []).lookup y.1).isSome=true):=λ⟨n,v⟩ hy=>by
  rcases S.par n (KF hy).1 with q|q
  .show CD q
  .show Vo q (PySem.W.cellsFrom_some _ _ _ (CD q))
 show codeAny_call_function hr.depth (KX _ _ lk) rfl S.co S.gen rfl (PySem.W.codeRec_of KX hcd) (hb _ _ _ _ ?_);show wpAny_newFunctionEnv_cells S.kind hkind λenv he s1 x=>?_;subst he;show A3 (lim.keeps x.toInCall.keep) (codeAny_func ?_);let⟨t,ht,hq⟩:=hbody A outer s H vs Q E (hr.deeper _) hsp;have I:Inv (fT CX P w K mg base N qual scope f cdv A outer s H E) [] (start N vs) H s1:=bg8 S hr.hd e0 hl r x;show DX (ht [] s1 (start N vs) H _ I hq) (λfl s' hs=>?_) (λe s' hs=>hs);have fin:∀{σ':St} {H':Hp} {v:V} {u:Value},Inv (fT CX P w K mg base N qual scope f cdv A outer s H E) [] σ' H' s'->UA->Q v H'->CE outer P w H s Q u s':=
  λ{σ' H' v u} J rv q=>⟨v,H',J.os,J.bare,J.base,J.hok,rv,q⟩
 cases fl with
 | ret u=>
  let⟨v,σ',H',J,rv,q⟩:=hs;show fin J rv q
 | next=>
  let⟨σ',H',J,q⟩:=hs;show fin (v:=V.non)  J rfl q
 | brk=>
  let⟨_,_,_,q⟩:=hs;show False.elim q
 | cont=>
  let⟨_,_,_,q⟩:=hs;show False.elim q
section
variable {p:Pos}{id T:String}{r:Om->Hp->VK->Prop}
def tCB (r:Om->Hp->VK->Prop)(t:TA):TE:=CI (t σ H (GB (r vs H1 Q)))
def bn3 (hc:Fq X YW r)(hg:ZHr)(hm:ZKm=none)(hv:Cz x=Af YW)(ha:PA X (e::es) t)(hn:Qp (x≠"__name__"))(hdb:Qp ((x == ("__debug__" : Str))=false))
  (he:No (O0 (e::es)=(false,eval e X.env)::SF)) (hpl:No ((ZGD).any (·.1)=false)):PE X (ZAc (W4 p) (e::es) pos) (tCB r t):=by
 intro pins s σ H Q I h;show Di (qa I hg hm hv ?_ hn hdb);show PyProof.Rows.callWith_builtin1 (thn (WV pos s σ H I h) λus s1 ⟨vs,H1,I1,r1,q1⟩=>hc pins s1 σ H1 vs us Q I1 r1 q1) he hpl
def bd8 (hc:Fq X (C7 T) r)(hg:ZHr)(hm:ZKm=none)(hv:Cz x=Af (C7 T))(ha:PA X (e::es) t)(hn:Qp (x≠"__name__"))(hdb:Qp ((x == ("__debug__" : Str))=false))
  (he:No (O0 (e::es)=(false,eval e X.env)::SF)) (hpl:No ((ZGD).any (·.1)=false)):PE X (ZAc (W4 p) (e::es) pos) (tCB r t):=by
 intro pins s σ H Q I h;show Di (qa I hg hm hv ?_ hn hdb);show Co (thn (WV pos s σ H I h) λus s1 ⟨vs,H1,I1,r1,q1⟩=>hc pins s1 σ H1 vs us Q I1 r1 q1) he hpl
end
end L2
namespace HT
open PySem PyProof.Rows
def lexLt:NX->NX->Bool
 | [],[]=>false
 | [],_::_=>true
 | _::_,[]=>false
 | x::xs,y::ys=>if x=y then lexLt xs ys else decide (x<y)
theorem lexLt_cons (x y:Int)(xs ys:NX):lexLt (x::xs) (y::ys)=Ak (x=y) (lexLt xs ys) (Cd (x<y)):=rfl
theorem lexLt_nil_nil:lexLt [] []=false:=rfl
section
variable {prog:Program}{w:World}{A:Around}{E:Value->Shared->Prop}{s:Shared}
def sIx (n d:Nat):Oi->Nat
 | none=>d
 | some v=>if v<0 then (v+(n:Int)).toNat else min v.toNat n
theorem nmin (k n:Nat):min (k:Int) n=((min k n:Nat):Int):=by
 rcases Nat.le_total k n with h|h
 .rw[Nat.min_eq_left h,Int.min_eq_left (Int.ofNat_le.2 h)]
 .rw[Nat.min_eq_right h,Int.min_eq_right (Int.ofNat_le.2 h)]
def ba2 (v:Int)(n d:Nat):Xi (v<0) (max (v+(n:Int)) 0) (min v (n:Int))=((sIx n d Pm:Nat):Int):=by
 change Xi (v<0) (max (v+(n)) 0) (min v n)=(((Ak (v<0) ((v+(n)).toNat) (min v.toNat n)):Nat));by_cases h:v<0
 .rw[if_pos h,if_pos h,Int.toNat_eq_max]
 .rw[if_neg h,if_neg h];let⟨k,rfl⟩:=Int.eq_ofNat_of_zero_le (Int.not_lt.1 h);show nmin k n
def a04 (lo hi:Oi)(n:Nat):Builtin.Slice.sliceAdjust lo hi 1 (n:Int)=(((sIx n 0 lo:Nat):Int),((sIx n n hi:Nat):Int)):=by
 have h1:¬((1:Int)<0):=by simp_all
 unfold Builtin.Slice.sliceAdjust;show IR ?_ ?_
 .cases lo with
  | none=>rfl
  | some v=>show ba2 v n 0
 .cases hi with
  | none=>rfl
  | some v=>show ba2 v n n
def aw0 (i j:Nat):Builtin.Slice.slicePlaces (i:Int) (j:Int) 1=j - i:=by
 unfold Builtin.Slice.slicePlaces;by_cases h:i<j
 .simp[h]
 .simp[h,Nat.sub_eq_zero_of_le (Nat.le_of_not_lt h)]
def ab4 {v:Value}{o:Oi}{Q:Oi->Shared->Prop}(p:IsPart v o)(h:Q o s):Ia P0 A (Builtin.Slice.slicePartIndex v) Q E s:=by
 cases p with
 | none=>show slicePart_none h
 | int i t=>show slicePart_int h
def xm {sl:Addr}{vl vu:Value}{lo hi:Oi}{n:Nat}{Q:Int×Int×Nat->Shared->Prop}(hs:s.heap.IsSliceOf sl vl vu .none)(pl:IsPart vl lo)(pu:IsPart vu hi)
  (h:Q (((sIx n 0 lo:Nat):Int),1,sIx n n hi - sIx n 0 lo) s):wpAny P0 A (Builtin.Slice.sliceApplied ZKA (pure (n:Int))) Q E s:=by
 let⟨os,hos,hcs,hds⟩:=id hs;unfold Builtin.Slice.sliceApplied Builtin.Slice.sliceFields;show Ah (Ah (EH hos hds vl rfl (Ah (EH hos hds vu rfl (Ah (EH hos hds .none rfl QU))))));show Ah (slicePart_none ?_);show Ah (ab4 pl (Ah (ab4 pu (Ah QU))));change wpAny _ _ (match Builtin.Slice.sliceAdjust lo hi 1 (n) with | (lo,hi)=>pure (lo,(1:Int),Builtin.Slice.slicePlaces lo hi 1)) _ _ s;rw[a04 lo hi n];change HR (pure (((sIx n 0 lo):Int),1,Builtin.Slice.slicePlaces ((sIx n 0 lo)) ((sIx n n hi)) 1)) s;rw[aw0];show BA h
def bm5 (xs:OX)(i k:Nat):((B1 k).filterMap λ(m:Nat)=>xs[((i:Int)+(m:Int)*1).toNat]?).toArray=((Gb i).take k).toArray:=by
 have e:(λ(m:Nat)=>xs[((i)+(m:Int)*1).toNat]?)=λm=>xs[i+m]?:=by
  grind
 rw[e];have:=pick_run xs i k;rw[List.filterMap_map] at this;have e2:((Bi (xs[x]?))∘Bi (i+x))=λm=>xs[i+m]?:=rfl
 simp_all
theorem getItem_tuple_cut {t sl:Addr}{items:OX}{vl vu:Value}{lo hi:Oi}{Q:Value->Shared->Prop}(ht:IsTup s.heap t items)(hs:s.heap.IsSliceOf sl vl vu .none)(pl:IsPart vl lo)(pu:IsPart vu hi)
  (hw:¬(ZK6=0/\ZLL=items.size))
  (h:Q Nf { s with heap:=s.heap.push { cls:=.type "tuple",data:=.seq ((ZK7).take (ZLL - ZK6)).toArray } })
  (hsz:items.size<=sizeLine):wpAny P0 A (NG (A5 t) ZKA) Q E s:=by
 have htake:=by
  change ((ZK7).take (ZLL - ZK6)).toArray.size<=sizeLine;rw[List.size_toArray,List.length_take,List.length_drop,Array.length_toList];show Bq Kn (Bq (Nat.sub_le _ _) hsz)
 let⟨os,hos,hcs,hds⟩:=id hs;have hTs:Km ZKA "slice":=BH os hos hcs;unfold getItem
 try with_reducible show wpAny_holding ?_
 show Ah (wpAny_sequenceKey ht.typeIs AC ?_);show wpAny_bind (wpAny_callSpecial?_slot  ht.typeIs PyProof.Rows.slot_tuple_getitem
  (wpAny_call_entry PyProof.Rows.slot_tuple_getitem ht.typeIs entry_tuple_getitem ?_ (args_tuple_getitem _ _)))
 change EM ((Builtin.Tuple.tupleItemsOf (A5 t) >>= _)) s;show Ah (JV ht ?_);show Ah (wpAny_typeOf hTs ?_);show Ah (xm hs pl pu ?_);have hno:¬(((ZK6:Int) == 0 && (1:Int) == 1 && (ZLL - ZK6) == items.size)=true):=by
  simp_all
 change HR (Ak (((ZK6:Int) == 0 && (1) == 1 && (ZLL - ZK6) == items.size)=true) _ _) s;rw[if_neg hno,bm5]
 first
  | show wpAny_bind  (C1 (ZBb (BA h)) htake)
  | lia
  | lia
  | lia
end
end HT
namespace L2
open PySem PySem.Spec PyProof.Rows
abbrev TO:=St->Hp->(Oi->Hp->Prop)->Prop
def PO (X:Cx)(e:Sy)(t:TO):Prop:=
 ∀(pins:Au (Addr×Obj)) (s:Shared) (σ:St) (H:Hp) (Q:Oi->Hp->Prop),Inv X pins σ H s->t σ H Q->
  wpAny N6 X.A (evalPart e X.env) (λu s'=>∃o H',P5 H' s'/\IsPart u o/\Q o H') X.xe s
def jA:TO:=KN (Q none H)
def lH (t:TE):TO:=CI (t σ H (EK (∃i,x=P1/\Q ZCP H1)))
def ay7 {ns:NX}:∀{us:List Value},TZ P2->LI us ns:=by
 induction ns with
 | nil=>intro us r;rw[List.map_nil] at r;cases r;show .nil
 | cons n ns ih=>
  intro us r;cases r with
  | cons r1 r2=>
   let⟨t,e⟩:=r1;subst e;show .cons n t (ih r2)
variable {X:Cx}
section
variable {e:Expr}{te:TE}{lo hi:Sy}{tl th:TO}{pos p2:Pos}
def by9:PO X none jA:=by
 intro pins s σ H Q I h;show CM (B0 none H I .none h)
def by8 (h:ZCx):PO X ZJu (lH te):=by
 intro pins s σ H Q I hw;show thn (h pins s σ H _ I hw) λu s1 ⟨x,H1,I1,r1,q1⟩=>?_;let⟨i,rfl,q⟩:=q1;let⟨t,rfl⟩:=r1;show B0 ZCP H1 I1 ZE6 q
def SlR (X:Cx)(r:V->Oi->Oi->Hp->VK->Prop):Prop:=
 ∀(pins:Au (Addr×Obj)) (s:Shared) (σ:St) (H:Hp) (x:V) (v vl vu:Value) (lo hi:Oi) (sl:Addr) (Q:VK),Inv X pins σ H s->RelV x v->s.heap.IsSliceOf sl vl vu .none->IsPart vl lo->IsPart vu hi->r x lo hi H Q->
  ∃T id,typeLookup (C7 T) "__getitem__" = pure (Af YW)/\s.TypeIs v T/\wpAny N6 X.A (NG v ZKA) ZGI X.xe s
def tSl (r:V->Oi->Oi->Hp->VK->Prop)(te:TE)(tl th:TO):TE:=CI (te σ H (EK (tl σ H1 λl H2=>th σ H2 λu H3=>r x l u H3 Q)))
def ab7 {r:V->Oi->Oi->Hp->VK->Prop}(hr:SlR X r)(he:ZCx)(hl:PO X lo tl)(hu:PO X hi th):Ry (ZHu e hi none p2) (tSl r te tl th):=by
 intro pins s σ H Q I h;show LH (ZI0 s σ H I h (λv s1 ⟨x,H1,I1,r1,q1⟩=>?_));show ZB1 (hl pins s1 σ H1 _ I1 q1) (λvl s2 ⟨l,H2,I2,pl,q2⟩=>thn (hu pins s2 σ H2 _ I2 q2) λvu s3 ⟨u,H3,I3,pu,q3⟩=>?_);show QU;have I4:ZEy H3 ({ s3 with heap:=s3.heap.push { cls:=.type "slice",data:=.fields #[vl,vu,.none] } }):=I3.kept (t':=s3.toks) ZCT;let⟨T,id,hT,ht,hg⟩:=hr pins { s3 with heap:=s3.heap.push { cls:=.type "slice",data:=.fields #[vl,vu,.none] } } σ H3 x v vl vu l u s3.heap.objs.size Q I4 r1 (Heap.IsSliceOf.new ..) pl pu q3;show tail_any  ht hT hg (by with_unfolding_all rfl)
def gJ (xs:Om)(lo hi:Oi):Om:=(Dp ZK1).take (ZLD - ZK1)
def y9 (xs:Om)(lo hi:Oi):(gJ xs lo hi).length<=xs.length:=by
 unfold gJ;rw[List.length_take,List.length_drop];show Bq Kn (Nat.sub_le _ _)
def nW (K:PySem.W.Frag):V->Oi->Oi->Hp->VK->Prop:=λx lo hi H Q=>∃a xs,x=.ref a/\SqT K H a xs/\
 ¬(ZK1=0/\ZLD=xs.length)/\∀p,H p=none->Q Pw (PR p (F0 (gJ xs lo hi)))
def b90:SlR X (nW X.K):=by
 intro pins s σ H x v vl vu lo hi sl Q I rx hs pl pu h;let⟨a,xs,rfl,hx,hw,q⟩:=h;cases rx;let⟨its,r,ht,hz⟩:=Et hx;have hlen:its.toArray.size=xs.length:=by show r.length.symm
 show ZIa "tuple" _ PyProof.Rows.slot_tuple_getitem.lookup ht.typeIs;show HT.getItem_tuple_cut ht hs pl pu (by rw[hlen];show hw) ?_ (by rw[hlen];show hz);rw[hlen];show Zn Nf _ (I.laid (t':=s.toks)  ZCT As ?_) S0;show By (Bq (y9 xs lo hi) hz) _ ((r.drop ZK1).take (ZLD - ZK1)) Jh
end
def ixN (n:Nat)(i:Int):Wk:=Ak (0<=i) (Xi (i<n) (Af i.toNat) none) (Ak (-(n:Int)<=i) (FU ((i+n).toNat)) none)
def atI {α:Type}(xs:Ql)(i:Int):BO α:=(XI i).bind (En (xs[j]?))
variable {n:Nat}
def a87 {i:Int}{j:Nat}(h:ixN n i=ZCQ):seqIndex? i n=ZCQ/\j<n/\-(n:Int)<=i/\i<n:=by
 unfold ixN at h;by_cases h0:0<=i
 .rw[if_pos h0] at h;by_cases h1:i<n
  .rw[if_pos h1] at h;have e:i.toNat=j:=BW h;show By (by rw[seqIndex_of h0 h1,e]) Ab Ab h1
  simp_all
 .rw[if_neg h0] at h;by_cases h1 : -n<=i
  .rw[if_pos h1] at h;have e:(i+n).toNat=j:=BW h;show By (by rw[seqIndex_neg Aw h1,e]) Ab h1 Ab
  .simp_all
def am1 {α:Type}{xs:Ql}{i:Int}{v:α}(h:atI xs i=Pm):∃j,seqIndex? i xs.length=ZCQ/\xs[j]?=Pm/\j<xs.length/\-(xs.length:Int)<=i/\i<xs.length:=by
 unfold atI at h;cases e:ixN xs.length i with
 | none=>simp_all
 | some j=>
  rw[e] at h;let⟨h1,h2,h3,h4⟩:=a87 e;show Dt j h1 h h2 h3 h4
def ba4 {α:Type}{xs:Ql}{j:Nat}{v:α}(h:xs[j]?=Pm):atI xs (j:Int)=Pm:=by
 have hj:=(Ag h).1;have e:XI j=ZCQ:=by
  unfold ixN
  simp_all
 unfold atI;rw[e];show h
def gW (b:Expr):Prop:=∀o i,subscripted b false o i=operate [o,i] (NG o i)
def IxR (X:Cx)(r:R2):Prop:=
 ∀(value slice:Expr) (pins:Au (Addr×Obj)) (s:Shared) (σ:St) (H:Hp) (x y:V) (v u:Value) (Q:VK),Inv X pins σ H s->RelV x v->RelV y u->r x y H Q->
  subscripted slice false v u=operate [v,u] (NG v u)->wpAny N6 X.A (subscriptTail value slice v u) ZGI X.xe s
def MtR (X:Cx)(id:String)(r:V->Om->Hp->VK->Prop):Prop:=
 ∀(pins:Au (Addr×Obj)) (s:Shared) (σ:St) (H:Hp) (x:V) (xs:Om) (v:Value) (us:Nk) (Q:VK),Inv X pins σ H s->RelV x v->Vals xs us->r x xs H Q->
  wpAny N6 X.A (call YW (v::us)) ZGI X.xe s
variable {pins:Au (Addr×Obj)}{σ:St}{H:Hp}{s:Shared}{its:Nk}
section
variable {X:Cx}{a b:Expr}{ta tb:TE}{pos:Pos}
def IxR.or {r r':R2}(h:ZB2 r)(h':ZB2 r'):ZB2 (DW (r x y H Q\/r' x y H Q)):=by
 intro value slice pins s σ H x y v u Q I rx ry q hs;rcases q with q|q
 .show h value slice pins s σ H x y v u Q I rx ry q hs
 .show h' value slice pins s σ H x y v u Q I rx ry q hs
def MtR.or {id:String}{r r':V->Om->Hp->VK->Prop}(h:ZDH r)(h':ZDH r'):ZDH (λx xs H Q=>r x xs H Q\/r' x xs H Q):=by
 intro pins s σ H x xs v us Q I rx rs q;rcases q with q|q
 .show h pins s σ H x xs v us Q I rx rs q
 .show h' pins s σ H x xs v us Q I rx rs q
def cl4 {r:R2}(hr:ZB2 r)(ha:ZHf)(hb:Ry b tb)(hs:gW b):Ry (ZAy a b) (tOp r ta tb):=by
 intro pins s σ H Q I h;show LH (cj2 ha hb I h (Fs (hr a b pins s2 σ H2 x y v u Q I2 rx ry q (hs _ _))))
def oC (K:PySem.W.Frag):R2:=DW (∃p xs i v,x=Pw/\y=P1/\XG K p xs/\atI xs i=Pm/\Q v H)
def oB (K:PySem.W.Frag):R2:=DW (∃p xs i v,x=Pw/\y=P1/\SqT K H p xs/\atI xs i=Pm/\Q v H)
def b20:ZB2 (oC X.K):=by
 intro value slice pins s σ H x y v u Q I rx ry h hs;let⟨p,xs,i,z,rfl,rfl,hq,he,q⟩:=h;cases rx;let⟨t,rfl⟩:=ry;let⟨its,r,pl,hz⟩:=WK;let⟨j,h1,h2,h3,h4,h5⟩:=am1 he;let⟨w,ew,rw'⟩:=ZI6;have hl:=r.length;have hn:=vv;have fin:EP X pins σ Q w s:=B0 z H I rw' q;by_cases h0:0<=i
 .have hj:i.toNat=j:=by
   rw[seqIndex_of h0 h5] at h1
   simp_all
  show item_listR pl.isList h0 Ab (by rw[hj];simpa using ew) fin hs
 .have hj:(i+VD).toNat=j:=by
   rw[seqIndex_neg Ab h4] at h1
   simp_all
  show NF pl.isList.typeIs slot_list_getitem.lookup
   (wpAny_getItem_list_neg (Q:=Mh (r=w/\EP X pins σ Q r s')) pl.isList Ab Aw Ab (by rw[hj];simpa using ew) (OI fin)) hs
def ce7:ZB2 (oB X.K):=by
 intro value slice pins s σ H x y v u Q I rx ry h hs;let⟨p,xs,i,z,rfl,rfl,hq,he,q⟩:=h;cases rx;let⟨t,rfl⟩:=ry;let⟨its,r,pl,hz⟩:=ZCi;let⟨j,h1,h2,h3,h4,h5⟩:=am1 he;let⟨w,ew,rw'⟩:=ZI6;have hl:=r.length;have hn:=vv;have fin:EP X pins σ Q w s:=B0 z H I rw' q;show NF pl.typeIs slot_tuple_getitem.lookup
  (getItem_tuple (j:=j)  pl Ab Ab Aw (by simpa using ew) (OI fin)) hs
def ay2 (its:Nk)(n j:Nat)(u:Value):Obj.mapSeq (·.setIfInBounds j u) { cls:=.type "list",data:=.seq its.toArray n }={ cls:=.type "list",data:=.seq (its.set j u).toArray n }:=by
 simp[Obj.mapSeq]
def Inv.lst {pins:Au (Addr×Obj)}{σ:St}{H:Hp}{s:Shared}{p:Addr}{xs:Om}(I:QO)(h:H p=Ou) :
  ∃(its:Nk) (n:Nat),Vals xs its/\s.heap.get? p=some { cls:=.type "list",data:=.seq its.toArray n }/\xs.length<=sizeLine:=by
 let⟨z,its,n,r,e⟩:=Dm p h;show B0 its n r e z
def Inv.lstUpd {p:Addr}{xs ys:Om}{its':Nk}{n':Nat}{f:Obj->Obj}(I:QO)(h:H p=Ou)
  (ho:BU p=FU ({ cls:=.type "list",data:=.seq its.toArray n })) (hf:f { cls:=.type "list",data:=.seq its.toArray n }={ cls:=.type "list",data:=.seq its'.toArray n' }) (r:GK ys its') (hz:ys.length<=sizeLine) (t:Nat) :
  Inv X pins σ (Sr p ys) { s with heap:=s.heap.update p f,toks:=t }:=by
 have e:(JU p f).get? p=FU ({ cls:=.type "list",data:=.seq its'.toArray n' }):=by
  rw[Heap.get?_update_self f ho (by rw[hf] <;> rfl),hf]
 show I.write   (by rw[h];trivial) OP (λb u hb q=>(ZCd).trans q) (Xq e) ?_;show B0 hz its' n' r e
def lQ:V->V->V->Hp->(Hp->Prop)->Prop:=λo i v H Q=>∃p xs k j,o=Pw/\i=BR k/\H p=Ou/\XI k=ZCQ/\Q (Sr p (xs.set j v))
def bk1:VM lQ:=by
 intro pins s σ H o i v ov iv u Q I ro ri rv h;let⟨p,xs,k,j,rfl,rfl,hp,hj,q⟩:=h;cases ro;let⟨t,rfl⟩:=ri;let⟨its,n,r,ho,hz⟩:=I.lst hp;let⟨h1,h2,h3,h4⟩:=a87 hj;have hl:=r.length;have hn:=vv;have I':=
  I.lstUpd hp ho (ay2 its n j u) (r.set rv j) Aw s.toks
 by_cases h0:0<=k
 .have hk:k.toNat=j:=by
   rw[seqIndex_of h0 h4] at h1
   simp_all
  show PySem.W.ki_setAt ho h0 Ab Aw (by rw[hk];show⟨_,I',q⟩)
 .have hk:(k+VD).toNat=j:=by
   rw[seqIndex_neg Ab h3] at h1
   simp_all
  show PySem.W.ki_setBack ho Ab (by rw[List.size_toArray,<-hl];show h3) Ab (by rw[hk];show⟨_,I',q⟩)
def b58 (i:Int)(n d:Nat):max 0 (min (Ak (i<0) (i+(n:Int)) i) (n:Int))=((HT.sIx n d ZCP:Nat):Int):=by
 change _=(((Ak (i<0) ((i+(n:Int)).toNat) (min i.toNat n)):Nat):Int);by_cases h:i<0
 .rw[if_pos h,if_pos h,Int.toNat_eq_max,Int.max_comm,Int.min_eq_left (by simpa using Int.add_le_add_right (JT h) (n:Int))]
 .rw[if_neg h,if_neg h];let⟨k,rfl⟩:=Int.eq_ofNat_of_zero_le (Int.not_lt.1 h);rw[HT.nmin];show Int.max_eq_right Kl
def aj3 (lo hi:Oi)(n:Nat):(FZ lo hi none n).1=((HT.sIx n 0 lo:Nat):Int)/\(FZ lo hi none n).2.1=((HT.sIx n n hi:Nat):Int)/\(FZ lo hi none n).2.2=1:=by
 show Oo ?_ ?_
 .cases lo with
  | none=>simp[sliceBounds,HT.sIx]
  | some i=>show b58 i n 0
 .cases hi with
  | none=>simp[sliceBounds,HT.sIx]
  | some i=>show b58 i n n
def af0 (its:Nk)(lo hi:Oi):XJ lo hi none=((its.drop (ZIe 0 lo)).take (ZIe its.length hi - ZIe 0 lo)).toArray:=by
 let⟨h1,h2,h3⟩:=aj3 lo hi its.toArray.size;unfold slicePick;rw[h1,h2,h3];simp only[sliceRange_one,pick_run] <;> rfl
def nZ (K:PySem.W.Frag):V->Oi->Oi->Hp->VK->Prop:=λx lo hi H Q=>∃a xs,x=PK/\XG K a xs/\∀p,H p=none->Q Pw (Sr p (gJ xs lo hi))
def a64:SlR X (nZ X.K):=by
 intro pins s σ H x v vl vu lo hi sl Q I rx hs pl pu h;let⟨a,xs,rfl,hx,q⟩:=h;cases rx;let⟨its,r,ht,hz⟩:=GI hx;have hlen:=r.length;show ZIa "list" _ slot_list_getitem.lookup ht.isList.typeIs;show wpAny_getItem_list_slice ht.isList hs pl pu .none Aq ?_ Aw;rw[af0,<-hlen];show Zn Nf _ (I.laid  (o:=Bc (gJ xs lo hi)) ZCT As ?_) S0;show B0 (Bq (y9 xs lo hi) hz) _ 0 ((r.drop ZK1).take (ZLD - ZK1)) Ow
def am0:ZIo ZKK (∃p ys,xs=[Pw]/\(ZHn p ys\/ZGW H p ys)/\Q ZAs H):=by
 intro pins s σ H xs us Q I r h;let⟨p,ys,rfl,hq,q⟩:=h;let⟨u,rfl,rx⟩:=ZAb;cases rx;have hn:=vv;rcases hq with hq|hq
 .let⟨its,r',pl,hz⟩:=WK;have hlen:=r'.length;show Calls.call_len_list pl.isList (by simp only[List.size_toArray] <;> omega) (B0 ZAs H C8 (A3 (s.toks+1) (by rw[List.size_toArray,hlen])) q)
 .let⟨its,r',pl,hz⟩:=ZCi;have hlen:=r'.length;show len_tuple pl (by simp only[List.size_toArray] <;> omega) (B0 ZAs H C8 (A3 (s.toks+1) (by rw[List.size_toArray,hlen])) q)
def al9:ZIo ZKK (∃z,xs=[.str z]/\z.length<=sizeLine/\Q ZCb H):=by
 intro pins s σ H xs us Q I r h;let⟨z,rfl,hz,q⟩:=h;let⟨u,rfl,t,rfl⟩:=ZAb;have hn:=vv;show len_str Ab (B0 ZCb H C8 R7 q)
def al8:ZIo SS (∃p ys,xs=[Pw]/\(ZHn p ys\/ZGW H p ys)/\∀l,ZBv=none->Q On (Sr l ys)):=by
 intro pins s σ H xs us Q I r h;let⟨p,ys,rfl,hq,q⟩:=h;let⟨u,rfl,rx⟩:=ZAb;cases rx;have fin:∀(its:Nk),Vals ys its->ys.length<=sizeLine->∀(h':Heap) (c':Nat),(∀b o',RT=ZJz->Qg=ZJz)->
   h'.get? s.heap.objs.size=some { cls:=.type "list",dict:=none,data:=.seq its.toArray c',slots:=#[] }->EP X pins σ Q Nf { s with heap:=h' }:=λits r' hz h' c' kp e=>
  ⟨.ref s.heap.objs.size,_,I.laid  kp As (BD (ObjOk X.prog X.w _ h' _ YT) (B0 hz its c' r' e)),rfl,q _ S0⟩
 rcases hq with hq|hq
 .let⟨its,r',pl,hz⟩:=WK;have hlen:=r'.length;let⟨o,ho,hc,n,hd⟩:=pl.isList;show call_list_seq p OP ho hc hd (λh' c' kp e=>fin its r' hz h' c' kp e) (by grind)
 .let⟨its,r',pl,hz⟩:=ZCi;have hlen:=r'.length;let⟨o,ho,hc,n,hd⟩:=pl;show call_list_seq p Nt ho hc hd (λh' c' kp e=>fin its r' hz h' c' kp e) (by grind)
def af5:ZIo Sb (∃p ys,xs=[Pw]/\((ZHn p ys/\∀l,ZBv=none->Q On (PR l (F0 ys)))\/(ZGW H p ys/\Q Pw H))):=by
 intro pins s σ H xs us Q I r h;let⟨p,ys,rfl,h⟩:=h;let⟨u,rfl,rx⟩:=ZAb;cases rx;rcases h with⟨hq,q⟩|⟨hq,q⟩
 .let⟨its,r',pl,hz⟩:=WK;have hlen:=r'.length;show call_tuple_list pl.isList (λh' kp=>?_) (by grind);have I1:=I.kept (t':=s.toks) kp;have I2:=
   I1.laid (t':=s.toks) WF As (BD (ObjOk X.prog X.w _ _ _ (F0 ys)) (By hz its r' Jh))
  show Zn (A5 h'.objs.size) _ I2 ZCg
 .let⟨its,r',pl,hz⟩:=ZCi;show call_tuple_same pl (Py Pw H I q)
def tyV (K:PySem.W.Frag)(T:String)(x:V)(H:Hp):Prop:=match x with
 | .str _=>T = "str"
 | .int _=>T = "int"
 | .ref p=>(T = "list"/\∃xs,XG K p xs)\/(T = "tuple"/\∃o,GW p=Nd/\o.cls=Sb/\o.dict=none)\/
   (T = "dict"/\((∃kvs,H p=Af ZFI)\/∃kvs,H p=Af (.dT kvs)))\/(T = "set"/\∃S n,H p=Af (.set S n))
 | _=>False
def bj0 {T:String}{x:V}{v:Value}(I:QO)(r:F3 x v)(ty:tyV X.K T x H) :
  s.TypeIs v T/\∀a,v=.ref a->∃ob,s.heap.get? a=some ob/\ob.dict=none:=by
 cases x with
 | str z=>
  let⟨t,rfl⟩:=r;cases (BD (T = "str") ty);show A3 (typeIs_str s z t) (λy_ e=>nomatch e)
 | int i=>
  let⟨t,rfl⟩:=r;cases ty;show A3 (typeIs_int s i t) (λy_ e=>nomatch e)
 | ref p=>
  cases r;rcases ty with⟨rfl,xs,hq⟩|⟨rfl,o,hk,hc,hd⟩|⟨rfl,hk⟩|⟨rfl,S,n,hk⟩
  .let⟨its,_,pl,_⟩:=WK;show A3 pl.isList.typeIs (λa e=>?_);cases e;let⟨o,n,e,c,hd,_⟩:=pl;show ZCX e hd
  .show A3 (ZCX (I.kIn p o hk) hc) (λa e=>?_);cases e;show ZCX (I.kIn _ o hk) hd
  .have z:∃o,BU p=Nd/\o.ExactDict:=by
    rcases hk with⟨kvs,hk⟩|⟨kvs,hk⟩
    .let⟨_,_,_,_,o,_,_,e,ex,_⟩:=Dm p hk;show ZCX e ex
    .let⟨_,_,_,_,o,_,_,e,ex,_⟩:=Dm p hk;show ZCX e ex
   let⟨o,e,ex⟩:=z;show A3 (ZCX e ex.1) (λa e2=>?_);cases e2;show ZCX e ex.2.1
  .let⟨o,_,_,_,e,ex,_⟩:=Dm p hk;show A3 (ZCX e ex.1) (λa e2=>?_);cases e2;show ZCX e ex.2.1
 | _=>show False.elim ty
def nQ (K:PySem.W.Frag)(T:String)(r:V->Om->Hp->VK->Prop)(to:TE):TE:=CI (to σ H (EK (tyV K T x H1/\r x [] H1 Q)))
def tBM (K:PySem.W.Frag)(T:String)(r:V->Om->Hp->VK->Prop)(to:TE)(t:TA):TE:=CI (to σ H (EK (tyV K T x H1/\t σ H1 λxs H2=>r x xs H2 Q)))
variable {o e:Expr}{es:Oh}{to:TE}{t:TA}{name:Str}{apos cpos:Pos}{T id:String}{r:V->Om->Hp->VK->Prop}
def cb1 (pa:PlainAttrs T)(slot:Slot T name id)(hty:Zv=Gx RG)(hm:ZDH r)(ho:Ry o to)
  (hbase:No (ZFz o name Zk=Zk)) (hline:No ((apos.endLine == cpos.line)=true)):PE X (Uz (ZDe o name) [] cpos) (nQ X.K T r to):=by
 intro pins s σ H Q I h;show ZBO hline (thn (ho pins s σ H _ I h) λv s1 ⟨x,H1,I1,r1,ty,q1⟩=>?_);let⟨h1,h2⟩:=bj0 I1 r1 ty;show IZ T id pa slot hty h1 h2 (ZKi rfl (hm pins s1 σ H1 x [] v [] Q I1 r1 .nil q1))
def cl6 (pa:PlainAttrs T)(slot:Slot T name id)(hty:Zv=Gx RG)(hm:ZDH r)(ho:Ry o to)(ha:PA X (e::es) t)
  (hbase:No (ZFz o name Zk=Zk))
  (hfew:autoParam (((backTo cpos (starEach (e::es) X.env)).all (λx=>!x.1) && (backToKw cpos (keywordEach [] X.env)).all (λx=>x.1.isSome)
   && decide ((e::es).length+([]:List Keyword).length+(if ([]:List Keyword).isEmpty then 0 else 1)<30))=true) zaR)
  (hline:No ((apos.endLine == cpos.line)=true)) (hs:No (O0 (e::es)=(false,eval e X.env)::SF)) (hplain:No ((FN cpos SF).any (·.1)=false)) :
  PE X (ZAc (ZDe o name) (e::es) cpos) (tBM X.K T r to t):=by
 intro pins s σ H Q I h;show wpAny_Call_method_late hbase hfew hline rfl (thn (ho pins s σ H _ I h) λv s1 ⟨x,H1,I1,r1,ty,q1⟩=>?_);let⟨h1,h2⟩:=bj0 I1 r1 ty;show IZ T id pa slot hty h1 h2 ?_;have hA:=WV cpos s1 σ H1 I1 q1;rw[hs] at hA ⊢;show Ho (by change (false || (FN cpos SF).any (·.1))=false;rw[hplain] <;> rfl) (Calls.evalArgs_plain ?_);show thn hA λus s2 ⟨vs,H2,I2,r2,q2⟩=>hm pins s2 σ H2 x vs v us Q I2 r1 r2 q2
end
def MtM (X:Cx)(id:String)(r:V->Om->Hp->VK->Prop):Prop:=
 ∀(pins:Au (Addr×Obj)) (s:Shared) (σ:St) (H:Hp) (x:V) (xs:Om) (v:Value) (us:Nk) (Q:VK),Inv X pins σ H s->RelV x v->Vals xs us->r x xs H Q->
  wpAny N6 X.A (call YW (v::us)) ZGI X.xe s
def Vals.one {x:V}{us:Nk}(h:Vals [x] us):∃u,us=[u]/\ZBF:=by
 cases h with | cons r t=>cases t;show⟨_,rfl,r⟩
def Vals.zero:∀{us:List Value},Vals [] us->us=[]
 | _,.nil=>rfl
def Vals.reverse {xs:Om}{us:Nk}(h:WS):GK xs.reverse us.reverse:=by
 induction h with
 | nil=>show .nil
 | cons r t ih=>rw[List.reverse_cons,List.reverse_cons];show Vals.append ih (ZA3 r)
variable {t':Nat}
section
variable {l b:Addr}{xs ys zs:Om}
def Inv.lset {its':Nk}{f:OX->OX}(I:QO)(hH:ZBv=Ou)
  (e:BU l=FU ({ cls:=.type "list",data:=.seq its.toArray n })) (hf:f its.toArray=its'.toArray) (hv:GK ys its') (hz:ys.length<=sizeLine) :
  Inv X pins σ (Sr l ys) { s with heap:=s.heap.update l (JE f),toks:=t' }:=by
 have q:=PySem.IsL.update e f;rw[hf] at q;show I.write   (by rw[hH];show trivial) OP (λb' u hb hu=>(Heap.get?_update_other s.heap (JE f) ZCc).trans hu) (Xq q) ?_;show B0 hz its' _ hv q
def Inv.lnew (I:QO)(hv:ZHR ys)(hz:ys.length<=sizeLine) :
  Inv X pins σ (QI YT) { s with heap:=s.heap.push { cls:=.type "list",data:=.seq its.toArray },toks:=t' }:=
 I.laid (Fi ZCS) As ⟨hz,its,0,hv,Heap.get?_push_size _ rfl⟩
def Inv.fresh (I:QO):H s.heap.objs.size=none:=S0
def Inv.lstM (I:QO)(hH:ZBv=Ou):xs.length<=sizeLine/\∃(its:List Value) (n:Nat),ZHS/\xs.length=its.length/\BU l=FU ({ cls:=.type "list",data:=.seq its.toArray n }):=by
 let⟨z,its,n,r,e⟩:=Dm l hH;show Dt z its n r r.length e
def ap7 (h:n<=sizeLine):Builtin.List.listTooLong n=false:=by
 show Eg Aw
end
def jG:V->Om->Hp->VK->Prop:=HA (∃l xs y,x=On/\vs=[y]/\ZBv=Ou/\xs.length<sizeLine/\Q .non (Sr l (xs++[y])))
def ah5:MtM X "list.append" jG:=by
 intro pins s σ H x vs v us Q I rx rv h;let⟨l,xs,y,rfl,rfl,hH,hz,q⟩:=h;cases rx;let⟨u,rfl,ru⟩:=rv.one;let⟨z,its,n,r,hl,e⟩:=ZF2;show ZDz F.slot_list_append e F.entry_list_append (F.args_list_append_2 _ _) (PySem.list_append l its.toArray n u Aw) (Pk e);show Py .non _ (I.lset (its':=its++[u]) hH e Aq (Lm (ZA3 ru)) ?_) q;grind
def jF:V->Om->Hp->VK->Prop:=HA (∃l b xs zs,x=On/\vs=[V9]/\ZBv=Ou/\SV=NZ zs/\xs.length+zs.length<=sizeLine/\Q .non (Sr l (xs++zs)))
def bf4:MtM X "list.extend" jF:=by
 intro pins s σ H x vs v us Q I rx rv h;let⟨l,b,xs,zs,rfl,rfl,hH,hB,hz,q⟩:=h;cases rx;let⟨u,rfl,ru⟩:=rv.one;cases ru;let⟨z,its,n,r,hl,e⟩:=ZF2;let⟨z2,its2,n2,r2,hl2,e2⟩:=LG hB;have hsz:its.toArray.size+its2.toArray.size<=sizeLine:=by simp_all
 have hlong:¬(!its.toArray.isEmpty && Builtin.List.listTooLong (its.toArray.size+its2.toArray.size))=true:=by
  rw[ap7 hsz,Bool.and_false];simp
 show call_meets F.slot_list_extend (ZDg e) F.entry_list_extend Jg
  (AutoSeq1.list_extend_list_list_0 l its.toArray n b its2.toArray n2 hlong Ab Ab) ⟨e,e2,?_⟩
 show Py .non _ (I.lset  hH e Aq (Lm r2) ?_) q;rw[List.length_append];omega
def kN:V->Om->Hp->VK->Prop:=HA (∃l xs,x=On/\vs=[]/\ZBv=Ou/\Q .non (PR l Tp))
def bo4:MtM X "list.clear" kN:=by
 intro pins s σ H x vs v us Q I rx rv h;let⟨l,xs,rfl,rfl,hH,q⟩:=h;cases rx;have hus:=rv.zero;subst hus;let⟨z,its,n,r,hl,e⟩:=ZF2;show ZDz F.slot_list_clear e F.entry_list_clear (F.args_list_clear_1 _) (AutoSeq1.list_clear_list_0 l its.toArray n (by rw[List.size_toArray];omega)) (Pk e);show Py .non _ (I.lset (its':=[]) (ys:=[]) hH e rfl .nil Bh) q
def oD:R2:=DW (∃l b xs zs,x=On/\y=V9/\ZBv=Ou/\SV=NZ zs/\xs.length+zs.length<=sizeLine/\∀p,H p=none->Q Pw (Sr p (xs++zs)))
def cb4:ZBp .Add oD:=by
 intro pins s σ H x y v u Q I rx ry h;let⟨l,b,xs,zs,rfl,rfl,hH,hB,hz,q⟩:=h;cases rx;cases ry;let⟨z,its,n,r,hl,e⟩:=ZF2;let⟨z2,its2,n2,r2,hl2,e2⟩:=LG hB;show PySem.P.add_list e e2 ?_ Aw;have ea:its.toArray++its2.toArray=(its++its2).toArray:=by simp
 rw[ea];show Zn KC _ (I.lnew  (Lm r2) (by rw[List.length_append];omega)) I.fresh
end L2
namespace Att
open PySem PySem.W PySem.Calls PyProof.Rows
variable {P:Params}{h:Heap}
def zh:∀(ns:List Int) (vs:List Value),WellAll P h vs (CQ WData.int)->LI vs ns:=by
 intro ns
 induction ns with
 | nil=>
  intro vs w;rw[List.map_nil] at w;cases w;show .nil
 | cons n ns ih=>
  intro vs w;cases w with
  | cons a b=>
   cases a;show .cons _ _ (ih _ b)
variable {l:OpenLaw}
def bc7 {n:Nat}(hn:l.most=ZJx){args:Au WData}{vals:Nk}
  (hpre:l.row.toRowW.claim.pre args=true) (hwl:WellAll P h vals args) :
  ∃a vs ns,vals=[Value.ref a]/\args=[WData.list (CQ WData.int)]/\h.get? a=some { cls:=.type "list",data:=.seq vs.toArray }/\IntsAre vs ns/\ns.length<=n:=by
 have hsh:WShape.hasAll [] args [.list .int]=true:=(ZID).1;have hc:l.pre.holds [] { args:=args }=true:=(ZID).2;let⟨d,r,rfl,h1,h2⟩:=hasAllW_cons hsh;obtain rfl:=hasAllW_nil h2;let⟨xs,rfl,h3⟩:=hasW_list h1;let⟨ns,rfl⟩:=items_int h3;have hlen:ns.length<=n:=by
  have h4:=by
   have h4:=(holds_andW hc).1;rw[hn] at h4;show h4
  have h5:=condW_of h4 (w_not (w_lt w_lit (w_len_list (w_arg rfl))))
  simp_all
 cases hwl with
 | cons w1 w2=>
  cases w2;cases w1 with
  | list ho hall=>show⟨_,_,ns,rfl,rfl,ho,zh ns _ hall,hlen⟩
def bd3 (l:OpenLaw)(args:Au WData):l.row.toRowW.claim.post args Xv args=true:=
 postW_of  (X:=(true == true))
  (by first | rfl | decide | lia)
  (w_eq_bool (w_res rfl) w_lit) rfl
theorem attach_call {n:Nat}{q:Program}{loose:Pg}{XP:(Str->OV)->Heap->Prop}{YP:World->Heap->Prop}{d:DefRec}
  (hn:l.most=ZJx) (hdf:d.params.defaults=[])
  (call:∀(w:World) (s₀ s₁:Shared) (mg mb:Str->Option Value) (fa:Addr) (o:Obj) (pm cd doc:Value) (a:Addr) (vs:List Value) (ns:List Int),
   Ground q loose [] XP w s₀ mg mb s₁.heap->YP w s₁.heap->
   s₁.heap.get? fa=some o->o.data=.func (docDef d.name d.params d.body d.scope pm cd doc)->s₁.heap.CodeRec cd d.name->mg d.name=some (A5 fa)->
   s₁.heap.get? a=some { cls:=.type "list",data:=.seq vs.toArray }->IntsAre vs ns->ns.length<=n->s₁.gens = #[]->
   codeAny (model l.prog w) callerA (.call (.ref fa) ⟨[.ref a],[]⟩) (λr s'=>r=.ok (.ret (.bool true))/\OldK s₁.heap s'.heap/\s'.os=s₁.os/\AllBare s'.gens) s₁) :
  WalkO q loose XP YP l.row.toRowW d [] (WZ f vs):=by
 intro w s₀ s₁ mg mb G Y fa o pm cd doc dV kV ho hd hcd hD hmg hg args vals as hpre hlay hrd hwl hlo;obtain rfl:dV=.none:=Dflts.none hD hdf;obtain rfl:kV=.none:=Dflts.noKw hD;let⟨a,vs,ns,rfl,rfl,hobj,hints,hlen⟩:=bc7 hn hpre hwl;show enter_call (ZFJ (call w s₀ s₁ mg mb fa o pm cd doc a vs ns G Y ho (fd_plain hd) hcd hmg hobj hints hlen hg) ?_);let⟨rfl,h2,h3,h4⟩:=hq;show By (FK (ZHT Xv Xv [] Nn Xv (bd3 l _) (A0 (A3 List.Pairwise.nil (λy_ hm=>(nomatch hm)))))) h2 h3 h4
end Att
namespace L2
open PySem PySem.Spec PyProof.Rows
def af9:∀{vs:List Value} {ns:List Int},LI vs ns->GK P2 vs
 | _,_,.nil=>.nil
 | _,_,.cons n t h=>.cons ⟨t,rfl⟩ (af9 h)
def cI (s:Stmt):Arguments:=match s with
 | .FunctionDef _ a _ _ _ _ _ _ _ _=>a
 | _=>{ posonlyargs:=[],args:=[],vararg:=none,kwonlyargs:=[],kw_defaults:=[],kwarg:=none,defaults:=[] }
def bG (s:Stmt):List Stmt:=match s with
 | .FunctionDef _ _ b _ _ _ _ _ _ _=>b
 | _=>[]
def aB (s:Stmt):Scope:=match s with
 | .FunctionDef _ _ _ _ _ _ sc _ _ _=>sc
 | _=>{ kind:=.function,names:=[],isGenerator:=false,isCoroutine:=false }
abbrev CX0:CXT:=An False
abbrev E0:XK:=YU
variable {X:Cx}
def b61:fV CX0 X E0:=λy_ y_ y_ y_ y_ y_ y_ h=>h.elim
structure Fun (K:PySem.W.Frag)(x qual:Str)(st:Stmt)(f:Addr)(fd:FuncData):Prop where
 ex:∃(oc:Value) (od:ZAr) (kV doc pm:Value) (an:ZAr) (cdv ct:Value) (osl:Cq OV),
  fd=PySem.W.fnOf x qual ZFK Zw U5 .none kV doc pm an cdv ct/\K.lookup f=some ⟨oc,od,.func fd,osl⟩/\PySem.W.codeIn K cdv qual=true
 kp:Gv K XS=true
variable {P:Program}{w:World}{K:PySem.W.Frag}{x qual:Str}{st:Stmt}{f:Addr}{fd:FuncData}{ps:Pg}{k:Nat}{sp:Sp}
section
variable {mg:Str->OV}{base:Heap}
def Fun.ok {N:Pg}(F:Fun K x qual st f fd)(S:ZGZ N U5)(len:∀vs H Q E,sp vs H Q E->vs.length=ps.length)
  (hbody:∀(cdv:Value) (A:Around) (outer:List Env) (s:Shared) (H:Hp) (vs:List V) (Q:VK) (E:XK),Room k (A.deeper (envOfC qual (aB st) s.heap.objs.size f cdv))->sp vs H Q E->
   ∃t,PSs (fT CX0 P w K mg base N qual (aB st) f cdv A outer s H E).nox (bG st) t/\t { nx:=λy_ H'=>Q .non H',rt:=Q } (start N vs) H):FnOk P w K mg base CX0 (k+1) f fd ps sp:=by
 let⟨oc,od,kV,doc,pm,an,cdv,ct,osl,rfl,lk,hcd⟩:=F.ex;show b70 lk hcd S len λA outer s H vs Q E hr hsp=>?_;let⟨t,h,q⟩:=hbody cdv A outer s H vs Q E hr hsp;show BH t h.nox q
def Fun.binds (F:Fun K x qual st f fd)
  (h:∀(kV doc pm:Value) (an:Option Addr) (cdv ct:Value) (us:List Value),us.length=ps.length->Ko (Tt x qual ZFK Zw U5 .none doc pm an cdv ct) (YR us)=Gx ZF5):Binds K fd ps []:=by
 let⟨oc,od,kV,doc,pm,an,cdv,ct,osl,rfl,lk,hcd⟩:=F.ex;show .all (h kV doc pm an cdv ct)
def bs4 {oc:Value}{od an:ZAr}{osl:Cq OV}{kV doc pm cdv ct:Value}(l:GW f=FU (By oc od (.func (Tt x qual ZFK Zw U5 .none doc pm an cdv ct)) osl))
  (c:ZBN cdv qual=true) (k:Gv K XS=true):Fun K x qual st f (Tt x qual ZFK Zw U5 .none doc pm an cdv ct):=⟨⟨oc,od,kV,doc,pm,an,cdv,ct,osl,rfl,l,c⟩,k⟩
end
variable {n:Nat}
def uk (h:n<=1000):n<sizeLine:=Dq h AC
def av1 (h:n<=100000):n<PySem.sizeLine:=Dq h AC
def Bd (n:Nat)(i:Int):Prop:=i.natAbs<2 ^ n
variable {m:Nat}{i:Int}
def Bd.mono (h:ZI8)(e:m<=n):Bd n i:=Bo h (Nat.pow_le_pow_right AC e)
variable {j:Int}
def Bd.mul (h:ZI8)(g:Bd n j):Bd (m+n) (i*j):=by
 unfold Bd at *
 rw [Int.natAbs_mul, Nat.pow_add]
 by_cases e:i.natAbs=0
 .rw[e,Nat.zero_mul];show Nat.mul_pos X9 X9
 .show Nat.mul_lt_mul_of_lt_of_le h (Dl g) X9
def Bd.add (h:ZI8)(g:ZI7 j):Bd (m+1) (i+j):=by
 unfold Bd at *;have:=Int.natAbs_add_le i j;rw[Nat.pow_succ];lia
def Bd.neg (h:ZI8):ZI7 (-i):=by
 unfold Bd at *;simp_all
def Bd.sub (h:ZI8)(g:ZI7 j):Bd (m+1) (i - j):=by
 show h.add g.neg
set_option tactic.hygienic true in
def Bd.bits (h:ZI8):Builtin.Int.intBits i<=m:=by
 unfold Builtin.Int.intBits;split
 .show Bh
 .rename_i hz;have hn:i.natAbs≠0:=by
   simp_all
  have:=(Nat.log2_lt hn).mpr h;lia
def Bd.log (h:ZI8)(hm:0<m):i.natAbs.log2<m:=by
 by_cases e:i.natAbs=0
 .rw[e];simpa using hm
 .show (Nat.log2_lt e).mpr h
def Bd.le (h:ZI7 j)(e:i.natAbs<=j.natAbs):ZI8:=Dq e h
def bj (h:ZI8)(g:Bd n j)(e:m+n<=134217728):IntMulOk i j:=by
 intro z;rw[Bool.and_eq_true,Bool.and_eq_true] at z;let⟨_,z⟩:=z;have hz:=Dx z;have h1:=h.bits;have h2:=g.bits;have h3:(bitsLine:Int)=134217728:=by decide +kernel
 rw[h3] at hz;lia
def kH (_ j:Int):Prop:=j≠0/\Bd 9000 j
def b03:ZBp .Mult (rI IntMulOk (TF (i*j))):=opI (EC (mul_int q hc))
def bn9:ZBp .FloorDiv (rI kH (TF (i.fdiv j))):=opI (EC (floordiv_int hc.1 q (CD (PyProof.noPylong_of_log2 (hc.2.log AC)))))
def at2:ZIo XW (∃x n t b,xs=[x,.ty n]/\TyOf X.K H x t/\JW X.K t (C7 n)=UK/\Q ZBx H):=by
 intro pins s σ H xs us Q I r h;let⟨x,n,t,b,rfl,ty,e,q⟩:=h;let⟨u,v,rfl,ru,rv⟩:=a08 r;cases rv;show bg7 I ru ty e λtk=>Py ZBx H C8 q
def at3:∀{bs:List Bool} {us:List Value},TZ (Fh V.bl)->PyProof.Rows.LSm.BoolsAre us bs:=by
 intro bs
 induction bs with
 | nil=>intro us h;cases h;show .nil
 | cons b bs ih=>
  intro us h;cases h with
  | cons r t=>
   cases r;show .cons _ (ih t)
def fU (K:PySem.W.Frag)(H:Hp)(v:V)(ns:NX):Prop:=∃a,v=PK/\SqT K H a P2
variable {pins:Au (Addr×Obj)}{σ:St}{H:Hp}{s:Shared}{h:Heap}{u:Value}
section
open PySem.SeqAt PyProof.V
def af1:∀{ns:List Int} {us:List Value},TZ P2->ReadsAll h us Pi []:=by
 intro ns
 induction ns with
 | nil=>intro us h;cases h;show .nil
 | cons n ns ih=>
  intro us hv;cases hv with
  | cons r t=>
   let⟨k,rfl⟩:=(BD (∃t,_=II n t) r)
   have:=ReadsAll.cons (Reads.int (h:=h) n k) (ih t);simpa using this
def Inv.tupI {v:V}{ns:NX}(I:QO)(r:UA)(t:fU X.K H v ns):Reads s.heap u ZKZ []:=by
 let⟨a,rfl,h⟩:=t;cases r;let⟨its,rv,p,_⟩:=Et h;let⟨o,ho,hc,n,hd⟩:=p;show Reads.tuple ho hc hd (by simpa using af1 rv)
def ag5 (ns:NX):shaped ZKZ=true:=by
 have h1:=PySem.W.depthAll_ints ns;have h2:Mg ZKZ<=64:=by simp only[PyData.depth];lia
 change (PyData.canLay0 ZKZ && Cd (Mg ZKZ<=64))=true;rw[Bool.and_eq_true];show A3 (by simp only[PyData.canLay0];show PySem.W.canLayAll0_ints ns) (IF h2)
end
def blk (X:Cx)(N':Pg)(scope:Scope)(cl:Au (Str×Addr))(C:Addr)(fp:PD)(s0:Shared)(H0:Hp):Cx:=
 { X with N:=N',s₀:=s0,H₀:=H0,env:=compEnvC scope cl C X.env,outer:=X.stack,stack:=X.stack,ex:=fp,fn:=λy_=>false,pn:=[],xe:=λy_ y_=>False }
def cj1 {N':Pg}{scope:Scope}{cl:Au (Str×Addr)}{fp:PD}(I:QO)(hkind:scope.kind=.function)
  (hcl:∀y c,Ip y=Qz->Ba y=Qz) (hhas:∀y,((Th).names.lookup y=PP\/(Th).names.lookup y=RC)->∃c,Ip y=Qz)
  (hf:∀b∈fp,SG X H b) (hlt:∀b∈fp,b<s.heap.objs.size):(Qn X N' cl s.heap.objs.size fp s H).Ok where
 mod:=I.ok.mod
 kind:=by simp[blk,compEnvC,relabel,hkind]
 glob:=I.ok.glob
 blt:=I.ok.blt
 above:=As
 inj:=λx y c h1 h2=>I.ok.inj x y c (hcl x c h1) (hcl y c h2)
 has:=λx h=>hhas x h
 cab:=λx c h=>AN
 hd:=I.ok.hd
 frames:=I.ok.frames
 stk:=OP
 exf:=Cs (A3 (BZ (hlt b hb)) (JG ((ZDv).2.2.2.2.1 x c (hcl x c e))))
 bs:=I.bs
 bsz:=ZKI I.sz
 noex:=λb o e hb=>by
  rcases (ZDv).2.2.2.1 with z|z
  .show I.ok.noex b o e z
  .show CN (Bo WB (ZKI z)) Ep
 exfs:=λb hb z=>by
  rcases List.mem_cons.mp (I.stkSub b z) with e|e
  .show (ZDv).2.1 e
  .show (ZDv).2.2.1 e
 funs:=I.stack
 frf:=I.stkFree
def kF (l:Addr)(H H':Hp):Prop:=∀b o,SV=Nd->b≠l->VE=Nd
structure Fn (K:PySem.W.Frag)(mg:Str->Option Value)(x:Str)(st:Stmt)(f:Addr)(fd:FuncData)(ps:List Str):Prop where
 F:Fun K x x st f fd
 b:Binds K fd ps []
 m:mg x=NO f
variable {j:Addr}{e:Expr}{es:Oh}{p:Pt3}{pos:Pos}
section
variable {j:Nat}{t:TA}{p:Pos}
def cl5 (T:Fn X.K X.mg x st f fd ps)(G:FnOk X.prog X.w X.K X.mg X.base CX0 k f fd ps sp)(hr:Room j X.A)(hj:k<=j)(ha:PA X (e::es) t)(hg:No ZHr)(hdb:Qp ((x == ("__debug__" : Str))=false))
  (he:No (O0 (e::es)=(false,eval e X.env)::SF)) (hpl:No ((ZGD).any (·.1)=false)):PE X (ZAc (W4 p) (e::es) pos) (iE sp [] E0 t):=
 bz8 G (hr.mono hj) hg T.m T.F.kp T.b .nil b61 ha hdb he hpl
def cl2 {n:Str}{T:String}{pos:Pos}(hm:Iw n=none)(hv:Cz n=Af (C7 T))(hg:No (Zr n))(hn:Qp (n≠"__name__"))(hd:Qp ((n == ("__debug__" : Str))=false)):Ry (CW n pos) (tC (.ty T)):=
 bz9 hg hm hv rfl hn hd
end
variable {x:Int}
def qc {k:Int}(h:k≠0):(k*x).fdiv k=x:=Int.mul_fdiv_cancel_left x h
structure Pt3 where
 x:Int
 y:Int
 z:Int
def lex (w u:Int):Bool:=Ak (w=0) (Cd (0<u)) (Cd (0<w))
def ahd (p q:Pt3):Bool:=Ak (p.x*q.z=q.x*p.z) (Cd (p.y*q.z<q.y*p.z)) (Cd (p.x*q.z<q.x*p.z))
def sgn (x:Int):Int:=Ak (0<x) 1 (Ak (x<0) (-1) 0)
def det (p q r:Pt3):Int:=(p.y*q.z - p.z*q.y)*r.x+(p.z*q.x - p.x*q.z)*r.y+(p.x*q.y - p.y*q.x)*r.z
def onB (p a b:Pt3):Bool:=Ak (ZA9=0) ((if ahd a b=true then !ahd p a && !ahd b p else !ahd p b && !ahd a p)) false
structure Is3 (A B C:Int)(r:Pt3):Prop where
 pos:0<r.z
 cop:B7 (B7 r.z r.x) r.y=1
 ex:∃d,0<d/\A=d*r.x/\B=d*r.y/\C=d*r.z
def Apart (p q:Pt3):Prop:=¬(p.x*q.z=q.x*p.z/\p.y*q.z=q.y*p.z)
def k8 {k w u:Int}(h:0<k):lex (k*w) (k*u)=lex w u:=by
 unfold lex;by_cases hw:w=0
 .subst hw;by_cases hu:0<u
  .simp[hu,Int.mul_pos h hu]
  .have:¬0<k*u:=by
    have:=CV k u Ab Aw
    simp_all
   simp[hu,this]
 .have hk:k*w≠0:=Em Ab hw;rw[if_neg hk,if_neg hw];by_cases hp:0<w
  .simp[hp,Int.mul_pos h hp]
  .have:¬0<k*w:=by
    have:=CV k w Ab Ab;lia
   simp[hp,this]
def bp5:lex 0 0=false:=by decide
def a82 {w u:Int}(h:¬(w=0/\u=0)):lex (-w) (-u) = !lex w u:=by
 unfold lex;lia
def uy (p q:Pt3):RW=lex (q.x*p.z - p.x*q.z) (q.y*p.z - p.y*q.z):=by
 unfold ahd lex;lia
def bc3 {k:Int}(h:0<k):sgn (k*x)=ZB3:=by
 unfold sgn;by_cases h1:0<x
 .rw[if_pos (Ci h h1),if_pos h1]
 .have n1:¬0<k*x:=by
   have:=CV k x Ab Aw
   simp_all
  rw[if_neg n1,if_neg h1];by_cases h2:x<0
  .rw[if_pos (Int.mul_neg_of_pos_of_neg h h2),if_pos h2]
  .have:x=0:=by lia
   simp_all
theorem sgn_eq0:ZB3=0↔x=0:=by
 unfold sgn;lia
def bu0 (p q r:Pt3):(q.x*p.z - p.x*q.z)*(r.y*p.z - p.y*r.z) - (q.y*p.z - p.y*q.z)*(r.x*p.z - p.x*r.z)=p.z*det p q r:=by
 unfold det;grind
def as6 (p q r:Pt3):det q p r = - det p q r:=by
 unfold det;grind
variable {a b:Pt3}
def uf (h:Fz a b):ahd b a = !ahd a b:=by
 rw[uy,uy];have e1:a.x*b.z - b.x*a.z = -(b.x*a.z - a.x*b.z):=by lia
 have e2:a.y*b.z - b.y*a.z = -(b.y*a.z - a.y*b.z):=by lia
 rw[e1,e2];show a82 (BT (h (XR (by grind))))
def ao9 (h:Fz a b):onB p b a=ZGK:=by
 unfold onB;have e:(det b a p=0)=(ZA9=0):=by rw[as6];simp_all
 simp only[e,uf h];cases ahd a b <;> simp
variable {q:Pt3}
def ck6 (hp:0<p.z)(hq:0<q.z)(gp:B7 (B7 p.z p.x) p.y=1)(gq:B7 (B7 q.z q.x) q.y=1)(h:¬Fz p q):p.x=q.x/\p.y=q.y/\p.z=q.z:=by
 have h':=by
  show Decidable.of_not_not h
 have key:∀(a b:Pt3),B7 (B7 a.z a.x) a.y=1->a.x*b.z=b.x*a.z->a.y*b.z=b.y*a.z->a.z ∣ b.z:=by
  intro a b g h1 h2;have d1:a.z ∣ (ZDr a.z a.x)*b.z:=by
   rw[<-Int.dvd_natAbs,Int.natAbs_mul,Int.natAbs_natCast,<-Int.gcd_mul_right];show Int.dvd_coe_gcd (Pe b.z) (A3 b.x (by rw[h1,Int.mul_comm]))
  have d2:a.z ∣ a.y*b.z:=A3 b.y (by rw[h2,Int.mul_comm]);have d3:a.z ∣ (ZDr (ZDr a.z a.x) a.y)*b.z:=by
   rw[<-Int.dvd_natAbs,Int.natAbs_mul,Int.natAbs_natCast,<-Int.gcd_mul_right];show Int.dvd_coe_gcd d1 d2
  simp_all
 have z1:=key p q gp h'.1 h'.2;have z2:=key q p gq h'.1.symm h'.2.symm;have ez:=Int.dvd_antisymm Ab Ab z1 z2;show BH ?_ ?_ ez
 .have:=h'.1;rw[ez] at this;show Gf Ab this
 .have:=h'.2;rw[ez] at this;show Gf Ab this
variable {r:Pt3}
def bv1 {s t:Int}(ha:0<a.z)(hb:0<b.z)(ht:0<t)(hab:Fz a b)
  (h:XL (a.x*b.z*t+(b.x*a.z - a.x*b.z)*s) (a.y*b.z*t+(b.y*a.z - a.y*b.z)*s) (a.z*b.z*t)) :
  det a b r=0/\onB r a b=(decide (0<=s) && decide (s<=t)):=by
 let⟨d,hd,e1,e2,e3⟩:=h.ex;have hdet:PU r=0:=by
  have:d*PU r=0:=by
   have h1:d*PU r=(a.y*b.z - a.z*b.y)*(d*r.x)+(a.z*b.x - a.x*b.z)*(d*r.y)+(a.x*b.y - a.y*b.x)*(d*r.z):=by unfold det;grind
   rw[h1,<-e1,<-e2,<-e3];grind
  rcases Int.mul_eq_zero.mp this with z|z
  .simp_all
  .show z
 show Pk hdet;unfold onB;rw[if_pos hdet];simp only[uy];generalize hW:b.x*a.z - a.x*b.z=W;generalize hU:b.y*a.z - a.y*b.z=U;have hWU:¬(W=0/\U=0):=BT (hab (A3 (by grind) (by grind)));rw[hW] at e1;rw[hU] at e2;have c1:lex (a.x*r.z - r.x*a.z) (a.y*r.z - r.y*a.z)=lex (-(s*W)) (-(s*U)):=by
  rw[<-k8 (k:=d) hd,<-k8 (k:=a.z) ha (w:=-(s*W))];congr 1
  .have:d*(a.x*r.z - r.x*a.z)=a.x*(d*r.z) - (d*r.x)*a.z:=by grind
   rw[this,<-e1,<-e3];grind
  .have:d*(a.y*r.z - r.y*a.z)=a.y*(d*r.z) - (d*r.y)*a.z:=by grind
   rw[this,<-e2,<-e3];grind
 have c2:lex (r.x*b.z - b.x*r.z) (r.y*b.z - b.y*r.z)=lex (-((t - s)*W)) (-((t - s)*U)):=by
  rw[<-k8 (k:=d) hd,<-k8 (k:=b.z) hb (w:=-((t - s)*W))];congr 1
  .have:d*(r.x*b.z - b.x*r.z)=(d*r.x)*b.z - b.x*(d*r.z):=by grind
   rw[this,<-e1,<-e3,<-hW];grind
  .have:d*(r.y*b.z - b.y*r.z)=(d*r.y)*b.z - b.y*(d*r.z):=by grind
   rw[this,<-e2,<-e3,<-hU];grind
 have c3:lex (b.x*r.z - r.x*b.z) (b.y*r.z - r.y*b.z)=lex ((t - s)*W) ((t - s)*U):=by
  rw[<-k8 (k:=d) hd,<-k8 (k:=b.z) hb (w:=(t - s)*W)];congr 1
  .have:d*(b.x*r.z - r.x*b.z)=b.x*(d*r.z) - (d*r.x)*b.z:=by grind
   rw[this,<-e1,<-e3,<-hW];grind
  .have:d*(b.y*r.z - r.y*b.z)=b.y*(d*r.z) - (d*r.y)*b.z:=by grind
   rw[this,<-e2,<-e3,<-hU];grind
 have c4:lex (r.x*a.z - a.x*r.z) (r.y*a.z - a.y*r.z)=lex (s*W) (s*U):=by
  rw[<-k8 (k:=d) hd,<-k8 (k:=a.z) ha (w:=s*W)];congr 1
  .have:d*(r.x*a.z - a.x*r.z)=(d*r.x)*a.z - a.x*(d*r.z):=by grind
   rw[this,<-e1,<-e3];grind
  .have:d*(r.y*a.z - a.y*r.z)=(d*r.y)*a.z - a.y*(d*r.z):=by grind
   rw[this,<-e2,<-e3];grind
 have sg:∀k:Int,lex (k*W) (k*U)=if 0<k then lex W U else if k<0 then !lex W U else false:=by
  intro k;by_cases h1:0<k
  .rw[if_pos h1,k8 h1]
  .rw[if_neg h1];by_cases h2:k<0
   .rw[if_pos h2];have e1:k*W=(-k)*(-W):=by grind
    have e2:k*U=(-k)*(-U):=by grind
    rw[e1,e2,k8 Aw,a82 hWU]
   .rw[if_neg h2];have:k=0:=by lia
    subst this;simp[bp5]
 have sn:∀k:Int,lex (-(k*W)) (-(k*U))=if 0<k then !lex W U else if k<0 then lex W U else false:=by
  intro k;have e1 : -(k*W)=(-k)*W:=by grind
  have e2 : -(k*U)=(-k)*U:=by grind
  rw[e1,e2,sg];lia
 have e5:(r.x*b.z - b.x*r.z)=(r.x*b.z - b.x*r.z):=rfl;rw[c1,c2,c3,c4,sg,sg,sn,sn];generalize lex W U=L;clear c1 c2 c3 c4 sg sn e5 e1 e2 e3 hWU hdet;by_cases q1:0<s
 .lia
 .lia
def qv (hab:Fz a b):ZGJ a=true/\ZGJ b=true:=by
 have d1:PU a=0:=by unfold det;grind
 have d2:PU b=0:=by unfold det;grind
 have f:=uf hab;have s1:ahd a a=false:=by rw[uy];simp[lex]
 have s2:ahd b b=false:=by rw[uy];simp[lex]
 unfold onB;rw[if_pos d1,if_pos d2,s1,s2,f];cases ahd a b <;> simp
variable {c:Int}
def av9 {a b:Int}(hc:0<c):let d:Int:=Int.gcd (B7 c a) b;Is3 a b c ⟨a.fdiv d,b.fdiv d,c.fdiv d⟩/\0<d:=by
 intro d;have p1:0<B7 c a:=LF a Ab;have p2:0<Jo (((Int.gcd c a:Nat):Int)) b:=LF b Ab;have hd:0<d:=by change 0<((Int.gcd ((Int.gcd c a:Nat):Int) b:Nat):Int);simp_all
 have dg:d ∣ ((Int.gcd c a:Nat):Int):=Kk;obtain⟨z,hz⟩:d ∣ c:=FM dg (Int.gcd_dvd_left c a);obtain⟨x,hx⟩:d ∣ a:=FM dg (Int.gcd_dvd_right c a);obtain⟨y,hy⟩:d ∣ b:=KY;have ex:a.fdiv d=x:=by
  conv=>lhs;arg 1;rw[hx]
  show qc Ab
 have ey:b.fdiv d=y:=by
  conv=>lhs;arg 1;rw[hy]
  show qc Ab
 have ez:c.fdiv d=z:=by
  conv=>lhs;arg 1;rw[hz]
  show qc Ab
 rw[ex,ey,ez];show A3 (Cu ?_ ?_ d hd hx hy hz) hd
 .change 0<z;by_cases h:0<z
  .show h
  .have:=CV d z Ab Aw;grind
 .change Jo (((Int.gcd z x:Nat):Int)) y=1;have h1:B7 c a=d.natAbs*B7 z x:=by
   conv=>lhs;rw[hz,hx]
   show Int.gcd_mul_left d z x
  have h2:d.natAbs=d.natAbs*Jo (((Int.gcd z x:Nat):Int)) y:=by
   have h3:((Int.gcd c a:Nat):Int)=d*((Int.gcd z x:Nat):Int):=by
    rw[h1];have:((d.natAbs:Nat):Int)=d:=by lia
    rw[Int.natCast_mul,this]
   have h4:Jo (((Int.gcd c a:Nat):Int)) b=d.natAbs*Jo (((Int.gcd z x:Nat):Int)) y:=by
    conv=>lhs;rw[h3,hy]
    show Int.gcd_mul_left d _ y
   show h4
  have h5:d.natAbs*1=d.natAbs*Jo (((Int.gcd z x:Nat):Int)) y:=by rw[Nat.mul_one];show h2
  show (L1 Ab h5).symm
def Is3.le {A B C:Int}(h:XL A B C):r.x.natAbs<=A.natAbs/\r.y.natAbs<=B.natAbs/\r.z.natAbs<=C.natAbs:=by
  let⟨d,hd,e1,e2,e3⟩:=h.ex
  have key:∀z,z.natAbs<=(d*z).natAbs:=λz=>by
    rw[Int.natAbs_mul]
    calc z.natAbs=1*z.natAbs:=(Nat.one_mul _).symm
      _<=d.natAbs*z.natAbs:=Nat.mul_le_mul_right _ (by grind)
  show BH (by rw[e1];show key _) (by rw[e2];show key _) (by rw[e3];show key _)
def lS (K:PySem.W.Frag):V->V->Hp->VK->Prop:=DW (∃p xs i v,x=Pw/\y=P1/\0<=i/\XG K p xs/\atI xs i=Pm/\Q v H)
def br7:PGet X (lS X.K):=by
 intro pins s σ H x y v u Q I rx ry h;let⟨p,xs,i,z,rfl,rfl,h0,hq,he,q⟩:=h;cases rx;let⟨t,rfl⟩:=ry;let⟨its,r,pl,hz⟩:=WK;let⟨j,h1,h2,h3,h4,h5⟩:=am1 he;let⟨w,ew,rw'⟩:=ZI6;have hn:=vv;have hj:i.toNat=j:=by
  rw[seqIndex_of h0 h5] at h1;show BW h1
 show wpAny_getItem_list pl.isList h0 Ab (by rw[hj];simpa using ew) (B0 z H I rw' q)
def nB (H:Hp)(v:V)(ns:NX):Prop:=∃a,v=PK/\Vj=ZIW P2
def Bd.small (h:Qp (i.natAbs<2 ^ 64))(e:Qp (64<=n)):Bd n i:=Bd.mono (m:=64) h e
def as1 {y:Int}(h1:0<=x)(h2:0<=y):B7 y ZJB=B7 x y:=by
 rw[Int.fmod_eq_emod_of_nonneg _ h2];let⟨m,rfl⟩:=Ll h1;let⟨n,rfl⟩:=Ll h2;rw[<-Int.natCast_emod];change LC n (m % n)=LC m n;rw[Nat.gcd_comm,<-Nat.gcd_rec,Nat.gcd_comm]
def zw {y:Int}(h2:0<y):0<=ZJB/\ZJB<y:=by
 rw[Int.fmod_eq_emod_of_nonneg _ (JT h2)];show A3 (Int.emod_nonneg _ Ab) (Int.emod_lt_of_pos _ h2)
def as0 (x:Int)(h:0<=x):((Int.gcd x 0:Nat):Int)=x:=by
 rw[Int.gcd_zero_right];lia
def Bd.gcd_right {a b:Int}(hb:b≠0)(h:Bd n b):Bd n (Int.gcd a b:Int):=by
 show h.le ?_;show Nat.le_of_dvd Aw (Int.gcd_dvd_natAbs_right a b)
def mZ (H:Hp)(vs:Om)(nss:ZAD):Prop:=CB (nB H) vs nss
structure Sz (n:Nat)(p:Pt3):Prop where
 x:Bd n p.x
 y:Bd n p.y
 z:Bd n p.z
def Sz.mono {m n:Nat}{p:Pt3}(h:Sz m p)(e:m<=n):ZFL p:=BH (h.x.mono e) (h.y.mono e) (h.z.mono e)
def L3 (p:Pt3):NX:=[p.x,p.y,p.z]
set_option tactic.hygienic true in
def ac8 {names:Au (Str×NameKind)}{y:Str}{k:NameKind}(e:names.lookup y=YO):(y,k)∈names:=by
 induction names with
 | nil=>cases e
 | cons p r ih=>
  rw[List.lookup_cons] at e;split at e
  .rename_i h;have h':y=p.1:=eq_of_beq h;have e':p.2=k:=ZEd;rw[h',<-e'];show List.mem_cons_self
  .show A7 (ih e)
noncomputable def pt0:Pt3:=BH 0 0 1
variable {ps:NT}
theorem getD_mem (h:k<ps.length):ps.getD k pt0∈ps/\ps[k]?=Af (ps.getD k pt0):=by
 rw[List.getD_eq_getElem?_getD,List.getElem?_eq_getElem h];show Pe (List.getElem_mem h)
def Pt3.ext' (h1:p.x=q.x)(h2:p.y=q.y)(h3:p.z=q.z):p=q:=by
 cases p;simp_all
structure Lp (p:Pt3):Prop where
 pos:0<p.z
 cop:B7 (B7 p.z p.x) p.y=1
def Lp.eq (hp:Pc)(hq:QA)(h:¬Fz p q):p=q:=by
 let⟨h1,h2,h3⟩:=ck6 hp.pos hq.pos hp.cop hq.cop h;show Pt3.ext' h1 h2 h3
def aE (a b:Pt3):Pt3×Pt3:=Ak (ahd a b=true) ((a,b)) ((b,a))
def aT (p q:Pt3):Pt3:=Ak (RW=true) q p
def aV (p q:Pt3):Pt3:=Ak (RW=true) p q
noncomputable instance:DecidableEq Pt3:=λa b=>if h:a.x=b.x/\a.y=b.y/\a.z=b.z then .isTrue (Pt3.ext' h.1 h.2.1 h.2.2) else .isFalse λe=>h ⟨by rw[e],by rw[e],by rw[e]⟩
def aR (a b c d:Pt3):NT:=
 if aT (SC).1 (T3).1=aV (SC).2 (T3).2 then [aT (SC).1 (T3).1]
 else if ahd (aT (SC).1 (T3).1) (aV (SC).2 (T3).2)=true then [aT (SC).1 (T3).1,aV (SC).2 (T3).2] else []
def gS3 (a b c:Int):Int:=Ak (c<0) (-(Int.gcd (B7 a b) c:Int)) ((Int.gcd (B7 a b) c:Int))
def pbF (a b c:Int):Pt3:=BH (a.fdiv ZCz) (b.fdiv ZCz) ZC0
def aA (p q:Pt3):Pt3:=BH (p.y*q.z - p.z*q.y) (p.z*q.x - p.x*q.z) (p.x*q.y - p.y*q.x)
def aI (a b c d:Pt3):NT:=
 if sgn QM=sgn Ri then (Ak (VP=0) (aR a b c d) [])
 else if sgn Yo=sgn ZBL then []
 else [pbF (ZAT).x (ZAT).y (ZAT).z]
def bs3 {a b:Int}(h:c≠0):ZCz≠0:=by
 have:=Kj (ZDr a b) h;unfold gS3;split <;> simp_all
def br9 (x y z:Int):Jo (((Int.gcd x y:Nat):Int)) z=Jo (((Int.gcd z x:Nat):Int)) y:=by
 rw[Int.gcd_comm,<-Int.gcd_assoc]
theorem pb_has {a b:Int}(h:c≠0):Lp (pbF a b c)/\∃k,k≠0/\a=k*(pbF a b c).x/\b=k*(pbF a b c).y/\c=k*(pbF a b c).z:=by
 have hg:=bs3 (a:=a) (b:=b) h;have hp:=Kj ((Int.gcd a b:Nat)) h;have key:∀z,((B7 (ZDr a b) c):Int) ∣ z->z=ZCz*z.fdiv ZCz:=by
  intro z hz;have:ZCz ∣ z:=by
   unfold gS3;split
   .simp_all
   .show hz
  let⟨w,hw⟩:=this
  simp_all
 have dg:((B7 ((Int.gcd a b:Nat)) c):Int) ∣ (ZDr a b):=Kk;have ea:=key a (FM dg (Int.gcd_dvd_left a b));have eb:=key b (FM dg (Int.gcd_dvd_right a b));have ec:=key c KY;show Dt ZF8 ZCz hg ea eb ec
 .by_cases hc:c<0
  .have hG:ZCz<0:=by unfold gS3;rw[if_pos hc];lia
   by_cases h2:0<c.fdiv ZCz
   .show h2
   .have:=Int.mul_nonneg_of_nonpos_of_nonpos (a:=ZCz) (b:=ZC0) Ab Ab;omega
  .have hG:0<ZCz:=by unfold gS3;rw[if_neg hc];lia
   by_cases h2:0<c.fdiv ZCz
   .show h2
   .have:=CV ZCz ZC0 Ab Ab;omega
 .change B7 (ZDr ZC0 (a.fdiv ZCz)) (b.fdiv ZCz)=1;rw[<-br9];generalize hx:a.fdiv ZCz=x at *;generalize hy:b.fdiv ZCz=y at *;generalize hz:c.fdiv ZCz=z at *;have hab:(ZCz).natAbs=Int.gcd (ZDr a b) c:=by unfold gS3;split <;> simp
  generalize gS3 a b c=G at *;have h1:B7 a b=G.natAbs*B7 x y:=by
   conv=>lhs;rw[ea,eb]
   show Int.gcd_mul_left G x y
  have h2:B7 (ZDr a b) c=G.natAbs*B7 (ZDr x y) z:=by
   have e1:B7 (ZDr a b) c=B7 (G*(ZDr x y)) (G*z):=by
    rw[<-ec];unfold Int.gcd;rw[Int.natAbs_mul];congr 1
   rw[e1,Int.gcd_mul_left]
  rw[<-hab] at h2;have h5:G.natAbs*1=G.natAbs*B7 (ZDr x y) z:=by rw[Nat.mul_one];show h2
  show (L1 Ab h5).symm
def a71 {a b a' b' c':Int}{m n:Int}(h:c≠0)(h':c'≠0)(hm:m≠0)(hn:n≠0)(e1:m*a=n*a')(e2:m*b=n*b')(e3:m*c=n*c'):pbF a b c=pbF a' b' c':=by
 let⟨l1,k,hk,f1,f2,f3⟩:=pb_has   h;let⟨l2,k',hk',g1,g2,g3⟩:=pb_has   h';show l1.eq l2 λap=>ap ?_;generalize pbF a b c=p at *;generalize pbF a' b' c'=q at *;have q3:m*k*p.z=n*k'*q.z:=by rw[Int.mul_assoc,Int.mul_assoc,<-f3,<-g3,e3]
 have q1:m*k*p.x=n*k'*q.x:=by rw[Int.mul_assoc,Int.mul_assoc,<-f1,<-g1,e1]
 have q2:m*k*p.y=n*k'*q.y:=by rw[Int.mul_assoc,Int.mul_assoc,<-f2,<-g2,e2]
 have hmk:=Em hm hk;constructor
 .have:(m*k)*(p.x*q.z)=(m*k)*(q.x*p.z):=by
   have h1:(m*k)*(p.x*q.z)=(m*k*p.x)*q.z:=by grind
   have h2:(m*k)*(q.x*p.z)=(m*k*p.z)*q.x:=by grind
   rw[h1,h2,q1,q3];grind
  show Wn hmk
 .have:(m*k)*(p.y*q.z)=(m*k)*(q.y*p.z):=by
   have h1:(m*k)*(p.y*q.z)=(m*k*p.y)*q.z:=by grind
   have h2:(m*k)*(q.y*p.z)=(m*k*p.z)*q.y:=by grind
   rw[h1,h2,q2,q3];grind
  show Wn hmk
def ba1 {u v k:Int}(ha:0<a.z)(hb:0<b.z)(hr:ZD1)(hab:Fz a b)(hu:0<=u)(hv:0<=v)(huv:0<u+v)(hk:0<k)
  (e1:u*a.x+v*b.x=k*r.x) (e2:u*a.y+v*b.y=k*r.y) (e3:u*a.z+v*b.z=k*r.z):onB r a b=true:=by
 have p1:0<=u*a.z:=Gs hu Ab;have p2:0<=v*b.z:=Gs hv Ab;have p3:0<u*a.z+v*b.z:=by
  by_cases h:0<u
  .have:=Int.mul_pos h ha;lia
  .have:0<v:=by lia
   have:=Int.mul_pos this hb;lia
 have hz:=Ci ha hb;have:=(bv1    (s:=v*b.z)  ha hb p3 hab (Cu hr.pos hr.cop (a.z*b.z*k) (Ci hz hk) ?_ ?_ ?_)).2
 .lia
 .have h1:a.z*b.z*k*r.x=a.z*b.z*(k*r.x):=by grind
  rw[h1,<-e1];grind
 .have h1:a.z*b.z*k*r.y=a.z*b.z*(k*r.y):=by grind
  rw[h1,<-e2];grind
 .have h1:a.z*b.z*k*r.z=a.z*b.z*(k*r.z):=by grind
  simp_all
variable {c d:Pt3}
def xf (hc:0<c.z)(hd:0<d.z)(hcd:Fz c d)(h:VP≠YA) :
  (ZAT).z≠0/\onB (pbF (ZAT).x (ZAT).y (ZAT).z) c d=true:=by
 have f1:(ZAT).x=Ri*c.x - QM*d.x:=by unfold aA det;grind
 have f2:(ZAT).y=Ri*c.y - QM*d.y:=by unfold aA det;grind
 have f3:(ZAT).z=Ri*c.z - QM*d.z:=by unfold aA det;grind
 generalize aA (aA a b) (aA c d)=X at *;generalize det a b c=C at *;generalize det a b d=E at *;have cs:(C<=0/\0<=E/\0<E - C)\/(0<=C/\E<=0/\0<C - E):=by
  unfold sgn at h;grind
 have main:∀(u v sg:Int),0<=u->0<=v->0<u+v->(sg=1\/sg = -1)->X.x=sg*(u*c.x+v*d.x)->X.y=sg*(u*c.y+v*d.y)->X.z=sg*(u*c.z+v*d.z)->X.z≠0/\onB (pbF X.x X.y X.z) c d=true:=by
  intro u v sg hu hv huv hs g1 g2 g3;have p2:0<=v*d.z:=Gs hv Ab;have p3:0<u*c.z+v*d.z:=by
   by_cases h:0<u
   .have:=Int.mul_pos h hc;lia
   .have:0<v:=by lia
    have:=Int.mul_pos this hd;lia
  have hz:X.z≠0:=by rw[g3];rcases hs with rfl | rfl <;> omega
  show Pk hz;let⟨lp,k,hk,k1,k2,k3⟩:=GO X.x X.y hz;generalize pbF X.x X.y X.z=r at *;have hss:sg*sg=1:=by rcases hs with rfl | rfl <;> rfl
  have q1:u*c.x+v*d.x=(sg*k)*r.x:=by
   rw[Int.mul_assoc,<-k1,g1,<-Int.mul_assoc,hss,Int.one_mul]
  have q2:u*c.y+v*d.y=(sg*k)*r.y:=by
   rw[Int.mul_assoc,<-k2,g2,<-Int.mul_assoc,hss,Int.one_mul]
  have q3:u*c.z+v*d.z=(sg*k)*r.z:=by
   rw[Int.mul_assoc,<-k3,g3,<-Int.mul_assoc,hss,Int.one_mul]
  have kp:0<sg*k:=by
   by_cases h:0<sg*k
   .show h
   .have:=Int.mul_nonpos_of_nonpos_of_nonneg (a:=sg*k) (b:=r.z) Aw (by have:=lp.pos;lia);lia
  show ba1 hc hd lp hcd hu hv huv kp q1 q2 q3
 rcases cs with⟨c1,c2,c3⟩|⟨c1,c2,c3⟩
 .show main E (-C) 1 c2 Ab Ab OP (by rw[f1];grind) (by rw[f2];grind) (by rw[f3];grind)
 .show main (-E) C (-1) Ab c1 Ab Nt (by rw[f1];grind) (by rw[f2];grind) (by rw[f3];grind)
def gj (p:Pt3):QQ p=false:=by rw[uy];simp[lex]
def jt (hp:0<p.z)(hq:0<q.z)(hr:0<r.z)(h1:RW=true)(h2:ahd q r=true):QQ r=true:=by
 have key:∀(p q:Pt3),RW=true↔(p.x*q.z<q.x*p.z\/(p.x*q.z=q.x*p.z/\p.y*q.z<q.y*p.z)):=by
  intro p q;unfold ahd;grind
 rw[key] at h1 h2 ⊢;have lt:∀{a b c d e f:Int},a*d<c*b->c*f<=e*d->0<b->0<f->0<d->a*f<e*b:=by
  intro a b c d e f g1 g2 hb hf hd;have m1:(a*d)*f<(c*b)*f:=LB g1 hf;have m2:(c*f)*b<=(e*d)*b:=Fy g2 Ab;have:d*(a*f)<d*(e*b):=by
   grind
  show L0 this Ab
 have le:∀{a b c d e f:Int},a*d<=c*b->c*f<e*d->0<b->0<f->0<d->a*f<e*b:=by
  intro a b c d e f g1 g2 hb hf hd;have m1:(a*d)*f<=(c*b)*f:=Fy g1 Ab;have m2:(c*f)*b<(e*d)*b:=LB g2 hb;have:d*(a*f)<d*(e*b):=by
   grind
  show L0 this Ab
 have eq:∀{a b c d e f:Int},a*d=c*b->c*f=e*d->0<d->a*f=e*b:=by
  intro a b c d e f g1 g2 hd;have:d*(a*f)=d*(e*b):=by
   have e1:d*(a*f)=(a*d)*f:=by grind
   have e2:d*(e*b)=(e*d)*b:=by grind
   rw[e1,e2,g1,<-g2];grind
  show Wn Ab
 rcases h1 with a1|⟨a1,b1⟩
 .rcases h2 with a2|⟨a2,b2⟩
  .show CD (lt a1 (JT a2) hp hr hq)
  .show CD (lt a1 (Int.le_of_eq a2) hp hr hq)
 .rcases h2 with a2|⟨a2,b2⟩
  .show CD (le (Int.le_of_eq a1) a2 hp hr hq)
  .show Vo (eq a1 a2 hq) (lt b1 (JT b2) hp hr hq)
def leP (p q:Pt3):Prop:=ZGb=false
def qp (p:Pt3):XN p:=gj p
def jo (hp:Pc)(hq:QA):p=q\/RW=true\/ZGb=true:=by
 by_cases h:Apart p q
 .have:=uf h
  simp_all
 .show CD (hp.eq hq h)
def ja (hp:Pc)(hq:QA):ZBK↔p=q\/RW=true:=by
 constructor
 .intro h;rcases jo hp hq with e|e|e
  .show ZAv
  .show YX
  .rw[h] at e;cases e
 .rintro (rfl|e)
  .show qp _
  .unfold leP;cases e2:ahd q p with
   | false=>rfl
   | true=>
    have:=ZDK hp.pos e e2;rw[gj] at this;cases this
def ki (hp:Pc)(hq:QA)(hr:ZD1)(h1:ZBK)(h2:ZJD r):XN r:=by
 rw[ja hp hq] at h1;rw[ja hq hr] at h2;rw[ja hp hr];rcases h1 with rfl|h1
 .show h2
 .rcases h2 with rfl|h2
  .show ZFq
  .show CK (ZHx h1 h2)
def ad0 (hp:Pc)(hq:QA)(h1:ZBK)(h2:ZJD p):p=q:=by
 rw[ja hp hq] at h1;rcases h1 with e|e
 .show e
 .unfold leP at h2;simp_all
def fm (a b:Pt3):((SC).1=a/\(SC).2=b)\/((SC).1=b/\(SC).2=a):=by
 unfold aE;split <;> simp
def km (h0:ZA9=0):ZGK=true↔leP (SC).1 p/\leP p (SC).2:=by
 unfold onB leP aE;rw[if_pos h0];split <;> simp
def wo (hp:Pc)(hq:QA):Lp (aT p q)/\XN (aT p q)/\ZJD (aT p q)/\(aT p q=p\/aT p q=q):=by
 unfold aT;by_cases h:ahd p q=true
 .rw[if_pos h];show By hq ((ja hp hq).mpr (CK h)) (qp _) Nt
 .rw[if_neg h];show By hp (qp _) ((by unfold leP;simpa using h)) OP
def wn (hp:Pc)(hq:QA):Lp (aV p q)/\leP (aV p q) p/\leP (aV p q) q/\(aV p q=p\/aV p q=q):=by
 unfold aV;by_cases h:ahd p q=true
 .rw[if_pos h];show By hp (qp _) ((ja hp hq).mpr (CK h)) OP
 .rw[if_neg h];show By hq ((by unfold leP;simpa using h)) (qp _) Nt
def bf6 (hp:Pc)(hq:QA):aT q p=aT p q:=by
 unfold aT;rcases jo hp hq with e|e|e
 .subst e;rfl
 .have:=(ja hp hq).mpr YX;rw[if_pos e,if_neg (by rw[this];decide)]
 .have:RW=false:=(ja hq hp).mpr YX
  simp_all
def bf5 (hp:Pc)(hq:QA):aV q p=aV p q:=by
 unfold aV;rcases jo hp hq with e|e|e
 .subst e;rfl
 .have:=(ja hp hq).mpr YX;rw[if_pos e,if_neg (by rw[this];decide)]
 .have:RW=false:=(ja hq hp).mpr YX
  simp_all
def iq (hab:Fz a b)(h1:QM=0)(h2:Ri=0):Yo=0/\ZBL=0:=by
 have i1:Yo*(a.y*b.z - a.z*b.y)=QM*(d.y*a.z - d.z*a.y)+Ri*(a.y*c.z - a.z*c.y):=by unfold det;grind
 have i2:Yo*(a.z*b.x - a.x*b.z)=QM*(d.z*a.x - d.x*a.z)+Ri*(a.z*c.x - a.x*c.z):=by unfold det;grind
 have j1:ZBL*(a.y*b.z - a.z*b.y)=QM*(d.y*b.z - d.z*b.y)+Ri*(b.y*c.z - b.z*c.y):=by unfold det;grind
 have j2:ZBL*(a.z*b.x - a.x*b.z)=QM*(d.z*b.x - d.x*b.z)+Ri*(b.z*c.x - b.x*c.z):=by unfold det;grind
 rw[h1,h2,Int.zero_mul,Int.zero_mul] at i1 i2 j1 j2;have hn:a.y*b.z - a.z*b.y≠0\/a.z*b.x - a.x*b.z≠0:=by
  by_cases z:a.z*b.x - a.x*b.z=0
  .left;intro z2;show hab (A3 (by grind) (by have:=Int.mul_comm a.z b.y;lia))
  .show CK z
 rcases hn with hn|hn
 .show A3 ((Dg i1).resolve_right hn) ((Dg j1).resolve_right hn)
 .show A3 ((Dg i2).resolve_right hn) ((Dg j2).resolve_right hn)
def jd (a b:Pt3):PU a=0/\PU b=0:=A3 (by unfold det;grind) (by unfold det;grind)
def kZ (res:NT)(a b c d:Pt3):Prop:=res.length<=2/\(∀p∈res,Pc/\ZGK=true/\onB p c d=true)/\(∀p q,res=[p,q]->RW=true)
def an4 (ha:XM)(hb:Vu)(hc:ZAd)(hd:ZAe)(hab:Fz a b)(hcd:Fz c d)(h1:QM=0)(h2:Ri=0):kZ (aR a b c d) a b c d:=by
 let⟨c1,c2⟩:=iq hab h1 h2;have la:Lp (SC).1/\Lp (SC).2:=by rcases fm a b with⟨e1,e2⟩ | ⟨e1,e2⟩ <;> rw[e1,e2] <;> show⟨by assumption,by assumption⟩
 have lc:Lp (T3).1/\Lp (T3).2:=by rcases fm c d with⟨e1,e2⟩ | ⟨e1,e2⟩ <;> rw[e1,e2] <;> show⟨by assumption,by assumption⟩
 have mx:=wo la.1 lc.1;have mn:=wn la.2 lc.2;have zero:∀p,(p=a\/p=b\/p=c\/p=d)->ZA9=0/\Xf p=0:=by
  rintro p (rfl|rfl|rfl|rfl)
  .show A3 ((Ga).1) c1
  .show A3 ((Ga).2) c2
  .show A3 h1 ((Ga).1)
  .show A3 h2 ((Ga).2)
 have am:∀p,(p=(SC).1\/p=(T3).1\/p=(SC).2\/p=(T3).2)->(p=a\/p=b\/p=c\/p=d):=by
  intro p hp;rcases fm a b with⟨e1,e2⟩|⟨e1,e2⟩ <;> rcases fm c d with⟨e3,e4⟩|⟨e3,e4⟩ <;> rw[e1,e2,e3,e4] at hp <;> rcases hp with h|h|h|h <;> simp[h]
 have z1:=zero _ (am (aT (SC).1 (T3).1) (mx.2.2.2.elim (BQ ZAv) (BQ (CK ZAv))));have z2:=zero _ (am (aV (SC).2 (T3).2) (mn.2.2.2.elim (BQ (ZIc ZAv)) (BQ (ZIc YX))));unfold aR;generalize hlo:aT (SC).1 (T3).1=lo at *;generalize hhi:aV (SC).2 (T3).2=hi at *;have both:leP lo hi->(ZGJ lo=true/\onB lo c d=true)/\(ZGJ hi=true/\onB hi c d=true):=by
  intro hle;show A3 (A3 ((km z1.1).mpr (A3 mx.2.1 (ki mx.1 mn.1 la.2 hle mn.2.1))) ((km z1.2).mpr (A3 mx.2.2.1 (ki mx.1 mn.1 lc.2 hle mn.2.2.1)))) (A3 ((km z2.1).mpr (A3 (ki la.1 mx.1 mn.1 mx.2.1 hle) mn.2.1)) ((km z2.2).mpr (A3 (ki lc.1 mx.1 mn.1 mx.2.2.1 hle) mn.2.2.1)))
 by_cases e:lo=hi
 .rw[if_pos e];have:=(both (by rw[e];show qp _)).1;show BH (by change 1<=2;decide) SY (JD (by simp at h));rw[List.mem_singleton.mp hp];show ZJ9 mx.1
 .rw[if_neg e];by_cases e2:ahd lo hi=true
  .rw[if_pos e2];have:=both ((ja mx.1 mn.1).mpr (CK e2));show BH (by change 2<=2;decide) SY (JD ?_)
   .rcases List.mem_cons.mp hp with h|h
    .rw[h];show⟨mx.1,this.1⟩
    .rw[List.mem_singleton.mp h];show⟨mn.1,this.2⟩
   simp_all
  .rw[if_neg e2];show BH AC (Bg ((nomatch hp))) (JD (by simp at h))
def ze (p q:Pt3):(aA q p).x = -(aA p q).x/\(aA q p).y = -(aA p q).y/\(aA q p).z = -(aA p q).z:=BH (by unfold aA;grind) (by unfold aA;grind) (by unfold aA;grind)
def uo (ha:XM)(hb:Vu)(hc:ZAd)(hd:ZAe)(hab:Fz a b)(hcd:Fz c d):kZ (aI a b c d) a b c d:=by
 have none:kZ [] a b c d:=BH AC (Bg ((nomatch hp))) (JD (by simp at h));unfold aI;by_cases h1:sgn QM=sgn Ri
 .rw[if_pos h1];by_cases h2:sgn QM=0
  .rw[if_pos h2];show an4 ha hb hc hd hab hcd (DJ h2) (DJ (by rw[<-h1];show h2))
  .rw[if_neg h2];show none
 .rw[if_neg h1];by_cases h2:sgn Yo=sgn ZBL
  .rw[if_pos h2];show none
  .rw[if_neg h2];let⟨z1,o1⟩:=xf hc.pos hd.pos hcd h1;let⟨z2,o2⟩:=xf (a:=c)    ha.pos hb.pos hab h2;let⟨x1,x2,x3⟩:=ze (aA a b) (aA c d);have e:=a71 (a:=(ZAT).x) (b:=(ZAT).y) (a':=(Qd c d a b).x) (b':=(Qd c d a b).y) (m:=-1) (n:=1) z1 z2 AC AC (by rw[x1];simp) (by rw[x2];lia) (by rw[x3];lia);rw[<-e] at o2;show BH (by change 1<=2;decide) SY (JD (by simp at h));rw[List.mem_singleton.mp hp];show BH ((Mf z1).1) o2 o1
def an5 (ha:XM)(hb:Vu)(hc:ZAd)(hd:ZAe):aR c d a b=aR a b c d:=by
 have la:Lp (SC).1/\Lp (SC).2:=by rcases fm a b with⟨e1,e2⟩ | ⟨e1,e2⟩ <;> rw[e1,e2] <;> show⟨by assumption,by assumption⟩
 have lc:Lp (T3).1/\Lp (T3).2:=by rcases fm c d with⟨e1,e2⟩ | ⟨e1,e2⟩ <;> rw[e1,e2] <;> show⟨by assumption,by assumption⟩
 unfold aR;rw[bf6 la.1 lc.1,bf5 la.2 lc.2]
def xt (ha:XM)(hb:Vu)(hc:ZAd)(hd:ZAe)(hab:Fz a b)(hcd:Fz c d):aI c d a b=aI a b c d:=by
 unfold aI;have col:VP=0->YA=0->sgn Yo=0/\sgn ZBL=0:=λz1 z2=>by
  let⟨x,y⟩:=iq hab (DJ z1) (DJ z2);rw[x,y];show⟨rfl,rfl⟩
 have col':sgn Yo=0->sgn ZBL=0->VP=0/\YA=0:=λz1 z2=>by
  let⟨x,y⟩:=iq hcd (DJ z1) (DJ z2);rw[x,y];show⟨rfl,rfl⟩
 by_cases h1:sgn QM=sgn Ri
 .by_cases h2:sgn QM=0
  .let⟨y1,y2⟩:=col h2 (by rw[<-h1];show h2);have h3:sgn Yo=sgn ZBL:=by rw[y1,y2]
   simp only[if_pos h1,if_pos h2,if_pos h3,if_pos y1];show an5 ha hb hc hd
  .by_cases h3:sgn Yo=sgn ZBL
   .simp_all
   simp_all
 .by_cases h3:sgn Yo=sgn ZBL
  .by_cases h4:sgn Yo=0
   .let⟨y1,y2⟩:=col' h4 (by rw[<-h3];show h4)
    simp_all
   .simp only[if_neg h1,if_pos h3,if_neg h4]
  .let⟨z1,_⟩:=xf hc.pos hd.pos hcd h1;let⟨x1,x2,x3⟩:=ze (aA a b) (aA c d);have e:=a71 (a:=(ZAT).x) (b:=(ZAT).y) (a':=(Qd c d a b).x) (b':=(Qd c d a b).y) (c':=(Qd c d a b).z) (m:=-1) (n:=1) z1 Aw AC AC (by rw[x1];lia) (by rw[x2];lia) (by rw[x3];lia);simp only[if_neg h1,if_neg h3];rw[e]
def bn4 {a b c:Int}(h:c≠0)(ha:Bd n a)(hb:Bd n b)(hc:Bd n c):ZFL (pbF a b c):=by
  let⟨_,k,hk,e1,e2,e3⟩:=GO a b h
  have key:∀z,z.natAbs<=(k*z).natAbs:=λz=>by
    rw[Int.natAbs_mul]
    calc z.natAbs=1*z.natAbs:=(Nat.one_mul _).symm
      _<=k.natAbs*z.natAbs:=Nat.mul_le_mul_right _ Ab
  exact ⟨ha.le (by conv => rhs; rw [e1]
                   exact key _), hb.le (by conv => rhs; rw [e2]
                                           exact key _), hc.le (by conv => rhs; rw [e3]
                                                                   exact key _)⟩
def jk (za:Sz m a)(zb:ZLe):Sz (m+n+1) (aA a b):=by
 have h:∀{p q r s:Int},ZI7 p->Bd n q->ZI7 r->Bd n s->Bd (m+n+1) (p*q - r*s):=λa b c d=>(a.mul b).sub (c.mul d);show BH (h za.y zb.z za.z zb.y) (h za.z zb.x za.x zb.z) (h za.x zb.y za.y zb.x)
def ba9 (h:RW=false):q.x*p.z<p.x*q.z\/(p.x*q.z=q.x*p.z/\q.y*p.z<=p.y*q.z):=by
 unfold ahd at h;by_cases e:p.x*q.z=q.x*p.z
 .simp_all
 .rw[if_neg e] at h;left;lia
def cr6 (h:RW=true):p.x*q.z<q.x*p.z\/(p.x*q.z=q.x*p.z/\p.y*q.z<q.y*p.z):=by
 unfold ahd at h;by_cases e:p.x*q.z=q.x*p.z
 .rw[if_pos e] at h
  simp_all
 simp_all
def ao8 (hp:0<p.z)(hc:0<c.z)(hd:0<d.z)(h0:Xf p=0)(hcd:ahd c d=true)(h1:QQ c=false)(h2:ZGa d=false) :
  ∃u v k:Int,0<=u/\0<=v/\0<k/\k*p.x=u*c.x+v*d.x/\k*p.y=u*c.y+v*d.y/\k*p.z=u*c.z+v*d.z:=by
 have i1:c.z*Xf p=(c.y*d.z - c.z*d.y)*(c.z*p.x - c.x*p.z)+(c.z*d.x - c.x*d.z)*(c.z*p.y - c.y*p.z):=by unfold det;grind
 have i2:d.z*Xf p=(c.y*d.z - c.z*d.y)*(d.z*p.x - d.x*p.z)+(c.z*d.x - c.x*d.z)*(d.z*p.y - d.y*p.z):=by unfold det;grind
 have i3:(d.x*c.z - c.x*d.z)*p.y - ((d.x*p.z - p.x*d.z)*c.y+(p.x*c.z - c.x*p.z)*d.y)=Xf p:=by unfold det;grind
 rw[h0,Int.mul_zero] at i1 i2;rw[h0] at i3;rcases cr6 hcd with e|⟨e,e'⟩
 .show IV (d.x*p.z - p.x*d.z) (p.x*c.z - c.x*p.z) (d.x*c.z - c.x*d.z) ?_ ?_ (by grind) (by grind) Ab (by grind)
  .rcases ba9 h2 with f|⟨f,_⟩ <;> grind
  .rcases ba9 h1 with f|⟨f,_⟩ <;> grind
 .have z:c.z*d.x - c.x*d.z=0:=by lia
  have w:c.y*d.z - c.z*d.y≠0:=by grind
  rw[z,Int.zero_mul,Int.add_zero] at i1 i2;have j1:=(Dg i1.symm).resolve_left w;have j2:=(Dg i2.symm).resolve_left w;have y1:c.y*p.z<=p.y*c.z:=by
   rcases ba9 h1 with f|⟨_,f⟩
   .lia
   .show f
  have y2:p.y*d.z<=d.y*p.z:=by
   rcases ba9 h2 with f|⟨_,f⟩
   .have:d.z*p.x=p.x*d.z:=Int.mul_comm _ _;lia
   .show f
  show IV (d.y*p.z - p.y*d.z) (p.y*c.z - c.y*p.z) (d.y*c.z - c.y*d.z) (by grind) (by grind) Ab ?_ (by grind) (by grind);lia
def a74 (hp:0<p.z)(hc:0<c.z)(hd:0<d.z)(hcd:Fz c d)(h:onB p c d=true) :
  ∃u v k:Int,0<=u/\0<=v/\0<k/\k*p.x=u*c.x+v*d.x/\k*p.y=u*c.y+v*d.y/\k*p.z=u*c.z+v*d.z:=by
 unfold onB at h;by_cases h0:det c d p=0
 .rw[if_pos h0] at h;by_cases e:ahd c d=true
  .rw[if_pos e] at h
   simp only [Bool.and_eq_true, Bool.not_eq_true'] at h
   show ao8 hp hc hd h0 e h.1 h.2
  .rw[if_neg e] at h
   simp only [Bool.and_eq_true, Bool.not_eq_true'] at h
   have e':ahd d c=true:=by rw[uf hcd];simpa using e
   let⟨u,v,k,hu,hv,hk,e1,e2,e3⟩:=ao8 hp hd hc (by rw[as6];simp_all) e' h.1 h.2;show IV v u k hv hu hk Ab Ab Ab
 simp_all
def a73 (hp:0<p.z)(hc:0<c.z)(hd:0<d.z)(hcd:Fz c d)(h:onB p c d=true)(e:VP=YA)(n:VP≠0):ZA9≠0:=by
 let⟨u,v,k,hu,hv,hk,e1,e2,e3⟩:=a74 hp hc hd hcd h;have m:k*ZA9=u*QM+v*Ri:=by
  have:k*ZA9=(a.y*b.z - a.z*b.y)*(k*p.x)+(a.z*b.x - a.x*b.z)*(k*p.y)+(a.x*b.y - a.y*b.x)*(k*p.z):=by unfold det;grind
  rw[this,e1,e2,e3];unfold det;grind
 have uv:0<u\/0<v:=by
  by_cases z1:0<u
  .show CD z1
  .by_cases z2:0<v
   .show CK z2
   .have:u=0:=by lia
    have:v=0:=by lia
    subst u v;have:=Ci hk hp
    simp_all
 intro z;rw[z,Int.mul_zero] at m;generalize det a b c=C at *;generalize det a b d=D at *;have cs:(0<C/\0<D)\/(C<0/\D<0):=by
  unfold sgn at e n;by_cases h1:0<C
  .rw[if_pos h1] at e;by_cases h2:0<D
   .show FK (A3 h1 h2)
   .rw[if_neg h2] at e;split at e <;> lia
  .rw[if_neg h1] at e n;by_cases h2:C<0
   .rw[if_pos h2] at e;by_cases h3:0<D
    .rw[if_pos h3] at e;simp_all
    .rw[if_neg h3] at e;by_cases h4:D<0
     .show Vo h2 h4
     .rw[if_neg h4] at e;lia
   .rw[if_neg h2] at n;show absurd rfl n
 rcases cs with⟨c1,c2⟩|⟨c1,c2⟩
 .have p1:0<=u*C:=Gs hu Ab;have p2:0<=v*D:=Gs hv Ab;rcases uv with z|z
  .have:=Int.mul_pos z c1;lia
  .have:=Int.mul_pos z c2;lia
 .have p1:u*C<=0:=JC hu Ab;have p2:v*D<=0:=JC hv Ab;rcases uv with z|z
  .have:=Int.mul_neg_of_pos_of_neg z c1;lia
  .have:=Int.mul_neg_of_pos_of_neg z c2;lia
def ag6 (x:Int):(ZB3=1/\0<x)\/(ZB3 = -1/\x<0)\/(ZB3=0/\x=0):=by
 unfold sgn;by_cases h1:0<x
 .rw[if_pos h1];show .inl ⟨rfl,h1⟩
 .rw[if_neg h1];by_cases h2:x<0
  .rw[if_pos h2];show .inr (FK (OI h2))
  .rw[if_neg h2];show .inr (Eh ZK2)
def ij (h:ZGK=true):ZA9=0:=by
 unfold onB at h;lia
def ai1 (hc:ZAd)(hd:ZAe)(hcd:Fz c d)(h:VP≠YA) :
  (QM=0->pbF (ZAT).x (ZAT).y (ZAT).z=c)/\
  (Ri=0->pbF (ZAT).x (ZAT).y (ZAT).z=d):=by
 have f1:(ZAT).x=Ri*c.x - QM*d.x:=by unfold aA det;grind
 have f2:(ZAT).y=Ri*c.y - QM*d.y:=by unfold aA det;grind
 have f3:(ZAT).z=Ri*c.z - QM*d.z:=by unfold aA det;grind
 have z:=(xf hc.pos hd.pos hcd h).1;let⟨lp,k,hk,k1,k2,k3⟩:=GO ((ZAT).x) ((ZAT).y) z;generalize pbF (ZAT).x (ZAT).y (ZAT).z=r at *;have main:∀(q:Pt3) (m:Int),QA->m≠0->m*q.x=k*r.x->m*q.y=k*r.y->m*q.z=k*r.z->r=q:=by
  intro q m lq hm e1 e2 e3;show lp.eq lq λap=>ap ZF8
  .have:(k*m)*(r.x*q.z)=(k*m)*(q.x*r.z):=by
    have h1:(k*m)*(r.x*q.z)=(k*r.x)*(m*q.z):=by grind
    have h2:(k*m)*(q.x*r.z)=(m*q.x)*(k*r.z):=by grind
    rw[h1,h2,e1,e3]
   show Wn (Em hk hm)
  .have:(k*m)*(r.y*q.z)=(k*m)*(q.y*r.z):=by
    have h1:(k*m)*(r.y*q.z)=(k*r.y)*(m*q.z):=by grind
    have h2:(k*m)*(q.y*r.z)=(m*q.y)*(k*r.z):=by grind
    rw[h1,h2,e2,e3]
   show Wn (Em hk hm)
 constructor
 .intro e;have hD:Ri≠0:=ID (h (by rw[e,w]));show main c Ri hc hD (by rw[<-k1,f1,e];simp) (by rw[<-k2,f2,e];lia) (by rw[<-k3,f3,e];lia)
 .intro e;have hC:QM≠0:=ID (h (by rw[e,w]));show main d (-QM) hd Aw ?_ ?_ ?_
  .rw[<-k1,f1,e,Int.neg_mul];simp
  .rw[<-k2,f2,e,Int.neg_mul];lia
  .rw[<-k3,f3,e,Int.neg_mul];lia
variable {a:Addr}{b:Int}{prog:Program}{E Q:Value->Shared->Prop}{its:OX}{g:ZCf}
section
variable {A:Around}
def cb8 {t:Addr}{y:Value}(st:s.heap.IsTupleIter j t k)(tu:EX t its)(e:its[k]?=Qt)
  (q:∀h',h'.IsTupleIter j t (k+1)->Ul j h'->Q y { s with heap:=h' }):wpAny P0 A (Ey Wh) Q E s:=by
 let⟨u,hu,uc,ud⟩:=ZIy;let⟨v,hv,_,m,vd⟩:=tu;show Ah (ZBc st.typeIs (ZHO st.typeIs ?_ IQ));change EM ((field Wh 0 >>= _)) s;show Ah (EH hu ud (A5 t) rfl ?_);show Ah (ZD2 hu ud ?_);show FS (EA hv vd ?_);simp only[Int.toNat_natCast,e];show Ah (Hn hu ud Aq (CM (Oa y (BA (q _ ?_ (Heap.SameBut.update ..))))));show WC _ (HQ hu (Me (NE ud))) ((Obj.cls_mapFields ..).trans uc);rw[Obj.data_mapFields ud];simp[rawInt]
def bf2 {t:Addr}(hd:A.handled=none)(st:s.heap.IsTupleIter j t k)(tu:EX t its)(e:its[k]?=none)
  (q:∀h' x,Md j s.heap h'->(∃o,Bv x=Nd/\o.cls=Q1)->E (A5 x) { s with heap:=h' }):wpAny P0 A (Ey Wh) Q E s:=by
 let⟨u,hu,uc,ud⟩:=ZIy;let⟨v,hv,_,m,vd⟩:=tu;show Ah (ZBc st.typeIs (ZHO st.typeIs ?_ IQ));change EM ((field Wh 0 >>= _)) s;show Ah (EH hu ud (A5 t) rfl ?_);show Ah (ZD2 hu ud ?_);show IC (seqItems? (A5 t)) (EA hv vd ?_);simp only[Int.toNat_natCast,e];show ZEZ (Ah (Hn hu ud Aq ?_));show FS ?_;show Ah (C1 (IC Lk (ZIi (by first | rfl | lia) (C1 ?_ (by size_fits)))) (by size_fits))
 refine wpAny_bind (wpAny_handled ?_)
 first | rw[hd] | lia
 show Ah (BA (wpAny_throw (q _ _ (((Heap.SameBut.update ..).extBut.push _).push _) ZDh)))
structure Src (prog:Program)(w:World)(j l:Addr)(tu:Nat->Heap->Prop)(has:Array Value->Heap->Prop):Prop where
 tk:∀k h h',tu k h->(∀o,Cj j=Nd->Bv j=Nd)->tu k h'
 hk:∀xs h h',has xs h->(∀o,Cj l=Nd->Bv l=Nd)->has xs h'
 item:∀(A:Around) (k:Nat) (xs:OX) (x:Value) (s:Shared) (Q:Value->Shared->Prop) (E:Value->Shared->Prop),tu k s.heap->has xs s.heap->xs[k]?=some x->
  (∀h',tu (k+1) h'->Ul j h'->Q x { s with heap:=h' })->wpAny P0 A (Ey Wh) Q E s
 stop:∀(A:Around) (k:Nat) (xs:OX) (s:Shared) (Q:Value->Shared->Prop) (E:Value->Shared->Prop),A.handled=none->tu k s.heap->has xs s.heap->xs[k]?=none->
  (∀h' x,Md j s.heap h'->(∃o,Bv x=Nd/\o.cls=Q1)->E (A5 x) { s with heap:=h' })->wpAny P0 A (Ey Wh) Q E s
 obj:∀k h,tu k h->∃o,Cj j=Nd/\∀v,o.data≠ZAX
def bj7 (j l:Addr):Src prog w j l (λk h=>LK j l k) (λxs h=>h.IsList l xs) where
 tk:=λk h h' st f=>ZBM (f o e)
 hk:=λxs h h' st f=>ZBM (f o e)
 item:=Jf (wpAny_nextOf_list_item st hl e q)
 stop:=JS (wpAny_nextOf_list_end hd st hl e q)
 obj:=λk h st=>by
  let⟨o,e,_,d⟩:=st
  simp_all
def j7 (j l:Addr):Src prog w j l (λk h=>KJ j l k) (λxs h=>h.IsTuple l xs) where
 tk:=λk h h' st f=>by
  let⟨o,e,r⟩:=st;show ZCX (f o e) r
 hk:=λxs h h' st f=>by
  let⟨o,e,r⟩:=st;show ZCX (f o e) r
 item:=Jf (cb8 st hl e q)
 stop:=JS (bf2 hd st hl e q)
 obj:=λk h st=>by
  let⟨o,e,_,d⟩:=st
  simp_all
variable {z TI TO i1 i2 l1 l2:Addr}{k1 k2:Nat}{xs ys:OX}{x y a b:Value}{tu1 tu2:Nat->Heap->Prop}{has1 has2:OX->Heap->Prop}
def b75 {g:Heap}(hz:ZDl g z TO)(q:∀g',VR g' z TO (Gq g.objs.size)->GU g' g.objs.size x y->(∀c o,c≠z->g.get? c=Nd->g'.get? c=Nd)->Q (A5 g.objs.size) { s with heap:=g' }) :
  wpAny P0 A (newTuple [x,y] >>= λv=>Builtin.SmallTypes.ownedTupleHandOut (A5 z) v >>= λy_=>ret v) (λfin s'=>∃v,fin=.done (.ret v)/\Q v s') E { s with heap:=g }:=by
 have zl:z≠g.objs.size:=SQ hz;show Ah (wpAny_newTuple Sx);have p0:GU (g.push { cls:=.type "tuple",data:=.seq #[x,y] }) g.objs.size x y:=Ow;show Ah (DV (Ao hz) Aq (λy_ z1 b1=>DV z1 Aq (λy_ z2 b2=>ZBb (q _ z2 ?_ λc o n e=>?_))))
 .show Ev zl.symm (ND zl.symm p0)
 .show Ev n (ND n Ra)
def a05 (D:ZIE z TO i1 i2 l1 l2)(S1:ZGg w i1 l1 tu1 has1)(S2:ZGg w i2 l2 tu2 has2)(hz:VR s.heap z TO .none)(hI:ZA0 TI ZFe ZFf)(hO:ZA0 TO a b)
  (t1:tu1 k1 s.heap) (t2:tu2 k2 s.heap) (c1:ZJE xs) (c2:ZJF ys) (hd:xs[k1]?=none\/ys[k2]?=none->A.handled=none)
  (it:∀x y h',xs[k1]?=some x->ys[k2]?=some y->IsZip h' z TI TO (rawInt s.heap.objs.size)->IsPair h' TO x y->tu1 (k1+1) h'->tu2 (k2+1) h'->IsPair h' s.heap.objs.size x y->
   (∀c o,c≠z/\c≠TO/\c≠i1/\c≠i2->s.heap.get? c=some o->h'.get? c=some o)->Q (.ref s.heap.objs.size) { s with heap:=h' })
  (en:∀h' e,xs[k1]?=none\/ys[k2]?=none->(∀c o,c≠z/\c≠i1/\c≠TO/\c≠i2->BU c=Nd->Bv c=Nd)->(∃o,Bv e=Nd/\o.cls=Q1)->E (A5 e) { s with heap:=h' }) :
  wpAny (model prog w) A (Builtin.«zip.__next__» ⟨[.ref z], []⟩) (fun fin s' => ∃ v, fin = .done (.ret v) ∧ Q v s') E s := by
 have rd:∀{β:Type} {f:Nat} {x:Value} {k:Value->Sem β} {R:β->Shared->Prop},(#[Value.none,.bool false,.bool false,.ref TI,.ref TO]:Array Value)[f]?=OZ->Ia P0 A (k x) R E s->wpAny P0 A (field (A5 z) f >>= k) R E s:=λe h=>Ah (wpAny_field hz rfl e h);show ZDL 2 (ZDL 3 (Ah (EA hI rfl (Ah (ZDL 0 QU)))));rw[if_pos AB];show ZEZ (ZDL 4 (Ah (DV hz Aq (λg hg bg=>Sx))));have hg':ZDl g z TO:=hg;have hO1:GU g TO a b:=NC D.TOz hO;have pass:∀{g1 g2:Heap} {e:Addr},ZDl g1 z TO->(∃o,g1.get? e=Nd/\o.cls=Q1)->DP z g1 g2->∃o,g2.get? e=Nd/\o.cls=Q1:=λiz ⟨o,h1,h2⟩ bb=>ZCX (bb.extBut _ _ (λez=>by rw[ez,iz] at h1;cases h1;simp at h2) h1) h2;dsimp only[List.zipIdx_cons,List.zipIdx_nil];rw[List.forIn_cons];show Ah (Ah (wpAny_onRaise (m:=Builtin.SmallTypes.nextOf ZFe >>= _) Sx));have a1:=ZD3 t1 (bg.extBut _ o D.i1z e);have a2:=S1.hk _ _ _ c1 (Cp (bg.extBut _ o D.l1z e));cases hx:xs[k1]? with
 | none=>show S1.stop _ k1 xs { s with heap:=g } _ _ (hd (CD hx)) a1 a2 hx λg' e bx he=>wpAny_setField_rec (bx _ _ D.i1z.symm hg') Aq λg2 y_ b2=>en g2 e (CD hx) (Mc (Ev n.1 (bx _ _ n.2.1 (NC n.1 f)))) (pass (bx _ _ D.i1z.symm hg') he b2)
 | some x=>
  show S1.item _ k1 xs x { s with heap:=g } _ _ a1 a2 hx λg' u1 bx=>QU;have o1:GU g' TO a b:=NB D.TOi1 hO1;show Ah (EA o1 rfl (ZIX o1 (λg2 o2 b2=>Ah (IO QU))));dsimp only;rw[List.forIn_cons];show Ah (Ah (wpAny_onRaise (m:=Builtin.SmallTypes.nextOf ZFf >>= _) Sx));have up:∀c o,c≠z->c≠i1->c≠TO->BU c=Nd->g2.get? c=Nd:=λc o n1 n2 n3 e=>Ev n3 (NB n2 (NC n1 e));have d1:=ZD4 t2 (up _ o D.i2z D.i12.symm D.TOi2.symm e);have d2:=S2.hk _ _ _ c2 (Cp (up _ o D.l2z D.l2i1 D.l2TO e));have zg2:ZDl g2 z TO:=Ev D.TOz.symm (NB D.i1z.symm hg');cases hy:ys[k2]? with
  | none=>show S2.stop _ k2 ys { s with heap:=g2 } _ _ (hd (CK hy)) d1 d2 hy λg' e by_ he=>wpAny_setField_rec (by_ _ _ D.i2z.symm zg2) Aq λg3 y_ b3=>en g3 e (CK hy) (Mc (b3.extBut _ _ n.1 (by_ _ _ n.2.2.2 (up c o n.1 n.2.1 n.2.2.1 f)))) (pass (by_ _ _ D.i2z.symm zg2) he b3)
  | some y=>
   show S2.item _ k2 ys y { s with heap:=g2 } _ _ d1 d2 hy λg3 u2 by_=>QU;have o3:GU g3 TO x b:=by_.extBut _ _ D.TOi2 o2;show Ah (EA o3 rfl (ZIX o3 (λg4 o4 b4=>Ah (IO QU))));dsimp only;rw[List.forIn_nil];have o4':GU g4 TO x y:=o4;have sz:g4.objs.size=s.heap.objs.size:=b4.1.trans (by_.1.trans (b2.1.trans (bx.1.trans bg.1)));have v1:=ZD3 u1 (b4.extBut _ o D.TOi1.symm (by_.extBut _ o D.i12 (b2.extBut _ o D.TOi1.symm e)));have v2:=ZD4 u2 (b4.extBut _ o D.TOi2.symm e);show Sk (EA o4' rfl (b75 (s:=s) (x:=x) (y:=y) (NA D.TOz.symm (by_.extBut _ _ D.i2z.symm zg2)) λg5 e1 e2 e3=>?_));rw[sz] at e1 e2 ⊢;show it x y g5 hx hy e1 (e3 _ _ D.TOz o4') (ZD3 v1 (e3 _ o D.i1z e)) (ZD4 v2 (e3 _ o D.i2z e)) e2 (Mc (e3 _ _ n.1 (NA n.2.1 (by_.extBut _ _ n.2.2.2 (up c o n.1 n.2.2.1 n.2.1 f)))))
def yi {Q:OV->Shared->Prop}(D:ZIE z TO i1 i2 l1 l2)(S1:ZGg w i1 l1 tu1 has1)(S2:ZGg w i2 l2 tu2 has2)(hz:VR s.heap z TO .none)(hI:ZA0 TI ZFe ZFf)(hO:ZA0 TO a b)
  (t1:tu1 k1 s.heap) (t2:tu2 k2 s.heap) (c1:ZJE xs) (c2:ZJF ys) (ex:xs[k1]?=OZ) (ey:ys[k2]?=Qt)
  (q:∀h',IsZip h' z TI TO (rawInt s.heap.objs.size)->IsPair h' TO x y->tu1 (k1+1) h'->tu2 (k2+1) h'->IsPair h' s.heap.objs.size x y->
   (∀c o,c≠z->c≠TO->c≠i1->c≠i2->s.heap.get? c=some o->h'.get? c=some o)->Q (some (.ref s.heap.objs.size)) { s with heap:=h' }):wpAny (model prog w) A (pyNext (.ref z)) Q E s:=by
 have ty:Km (A5 z) "zip":=ZDg hz;have no:¬(xs[k1]?=none\/ys[k2]?=none):=by simp_all
 show ZIY (EJ ty F.slot_zip_next (C9 F.slot_zip_next ty F.entry_zip_next (a05 D S1 S2 hz hI hO t1 t2 c1 c2 (CG (CN h no)) (λx' y' h' e1 e2 a1 a2 a3 a4 a5 a6=>?_) (Hi (CN h no))) LA));rw[ex] at e1;rw[ey] at e2;cases e1;cases e2;show BA (q h' a1 a2 a3 a4 a5 (Mz (a6 c o (By n1 n2 n3 n4))))
def aa1 {Q:OV->Shared->Prop}(hd:A.handled=none)(D:ZIE z TO i1 i2 l1 l2)(S1:ZGg w i1 l1 tu1 has1)(S2:ZGg w i2 l2 tu2 has2)(hz:VR s.heap z TO .none)(hI:ZA0 TI ZFe ZFf)(hO:ZA0 TO a b)
  (t1:tu1 k1 s.heap) (t2:tu2 k2 s.heap) (c1:ZJE xs) (c2:ZJF ys) (en:xs[k1]?=none\/ys[k2]?=none)
  (q:∀h',(∀c o,c≠z->c≠TO->c≠i1->c≠i2->BU c=Nd->Bv c=Nd)->Q none { s with heap:=h' }):wpAny P0 A (pyNext (A5 z)) Q E s:=by
 have ty:Km (A5 z) "zip":=ZDg hz;show ZIY (Lz Zx ty F.slot_zip_next (C9 F.slot_zip_next ty F.entry_zip_next (a05 D S1 S2 hz hI hO t1 t2 c1 c2 (A0 hd) (λx y h' e1 e2=>?_) λh' e y_ hk he=>?_) LA))
 .simp_all
 .let⟨o,ho,hc⟩:=he;show Ah (wpAny_isInstance  (b:=true) (ZCY hc) isSubtype_stop (BA (q _ (Mz (hk c o (By n1 n3 n2 n4))))))
end
section
variable {h':Heap}{ch:PD}
def Inv.turnedL (I:QO)(k:∀b o,b∉ch->RT=Nd->Qg=Nd)(f:∀b∈ch,SG X H b):ZEy H ({ s with heap:=h' }):=by
 have no:∀b u,SV=O8->b∉ch:=λb u e hb=>by have:=(f b hb).1;lia
 show I.call'   rfl (Cu (GT (k b o n e)) (GT (YQ (k b o n e))) (λy_ y_ y_ n y_=>n) (GS (A3 o (k b o n e))) (Mj e) ZFD (IT (A3 #[] (by rw[e];simp)))) ZKb I.bare U9
 .show (ZH8 a o).stay (λc u hc q=>k c u ?_ q) (Ml q) (Fi q);rcases hc with rfl|hc
  .show no _ _ e
  .show no _ _ hc
 .show By ((f b hb).2.2.2.1) ((f b hb).2.1) ((f b hb).2.2.2.2.1) ((f b hb).2.2.2.2.2)
def Inv.turnedT {x y:V}{v:Value}(I:QO)(k:∀b o,b∉ch->RT=Nd->Qg=Nd)(f:∀b∈ch,SG X H b)(hT:GU h' s.heap.objs.size u v)(ru:ZBF)(rv:F3 y v) :
  Inv X pins σ ZLh { s with heap:=h' }:=by
 have no:∀b u,SV=O8->b∉ch:=λb u e hb=>by have:=(f b hb).1;lia
 have hn:=S0;have ne:∀{b:Addr} {o:Obj},RT=Nd->b≠s.heap.objs.size:=BQ ZEz;show I.call'   rfl (Cu (GT (k b o n e)) (GT (YQ (k b o n e))) (λb o e n y_=>by rw[cj (ne e)];show n) (GS (A3 o (k b o n e))) (λb xs e=>by rw[cj (ZGS e)];show e) (λb o u e=>by rw[cj (ZGS e)];show e) (IT (A3 #[] (by rw[cj (ZGS e),e];simp)))) ZKb I.bare U9
 .by_cases ha:a=s.heap.objs.size
  .subst ha;rw[c6] at e;cases e;show By (by change 2<=sizeLine;decide) [u,v] (Iu ru (ZA3 rv)) (ZJ _ hT _)
  .rw[cj ha] at e;show (ZH8 a o).stay (λc u hc q=>k c u ?_ q) (λc q=>by rw[cj ZGT];show q) λc xs q=>by rw[cj ZGT];show q
   rcases hc with rfl|hc
   .show no _ _ e
   .show no _ _ hc
 .show By ((f b hb).2.2.2.1) ((f b hb).2.1) ((f b hb).2.2.2.2.1) ((f b hb).2.2.2.2.2)
end
structure SrcK (c:List V->HO)(tu:Addr->Addr->Nat->Heap->Prop)(has:Addr->Array Value->Heap->Prop):Prop where
 src:∀(prog:Program) (w:World) (j l:Addr),ZGg w j l (tu j l) (has l)
 of:∀{P:Program} {w:World} {H:Hp} {h:Heap} {a:Addr} {xs:List V},L5 P w H h a (c xs)->∃its:List Value,ZHS/\has a its.toArray h
 inj:∀{xs ys:List V},c xs=c ys->xs=ys
def a65:SrcK HO.lst (λj l k h=>LK j l k) (λl xs h=>h.IsList l xs) where
 src:=λy_ y_ j l=>bj7 j l
 of:=λx=>by
  let⟨_,its,n,r,e⟩:=x;show BH its r (ZJ _ e n)
 inj:=BQ (by cases e;rfl)
def Itz (c d:Om->HO)(a b:Addr):It:=
  ⟨λi H=>∃xs ys x y,H a=some (c xs)/\H b=some (d ys)/\xs[i]?=some x/\ys[i]?=some y,
   λi H v H'=>∃p x y,H p=none/\v=.ref p/\H'=upd H p ZLg/\(∀xs,Vj=Af (c xs)->xs[i]?=OZ)/\∀ys,H b=some (d ys)->ys[i]?=some y,
   λi H=>∃xs ys,H a=some (c xs)/\H b=some (d ys)/\(xs.length<=i\/ys.length<=i)⟩
variable {c:Int}{d:Drawn}
def bj1 {n1}{c d:Om->HO}{tu1 tu2:Addr->Addr->Nat->Heap->Prop}{has1 has2:Addr->OX->Heap->Prop}(K1:SrcK c tu1 has1)(K2:SrcK d tu2 has2)
  {z TI TO i1 i2 b:Addr} (D:ZIE z TO i1 i2 a b):Turn P w K (ZDm n1) (Itz c d a b) [z,TI,TO,i1,i2] z (HC (VR h z TO .none/\GU h TI ZFe ZFf/\(∃x y,GU h TO x y)/\tu1 i1 a i h/\tu2 i2 b i h)) where
 mem:=Aq
 obj:=λi h st e he=>by
  let⟨hz,hI,⟨x,y,hO⟩,t1,t2⟩:=st;simp only[List.mem_cons,List.not_mem_nil,or_false] at he;rcases he with rfl|rfl|rfl|rfl|rfl
  .show U6 hz (Li (nomatch z))
  .show U6 hI (Li (nomatch z))
  .simp_all
  .show (K1.src P w _ a).obj i h t1
  .show (K2.src P w _ b).obj i h t2
 keep:=λi h h' st k=>by
  let⟨hz,hI,⟨x,y,hO⟩,t1,t2⟩:=st;show B0 (ZAa z hz) (ZAa TI hI) (BH x y (ZAa TO hO)) ((K1.src P w i1 a).tk _ _ _ t1 (Cp (k i1 Aq o e))) ((K2.src P w i2 b).tk _ _ _ t2 (Cp (k i2 Aq o e)))
 item:=by
  intro X hP hw hK hc i pins s σ H E I hf st hg;subst hP hw hK;let⟨xs,ys,x,y,ha,hb,ex,ey⟩:=hg;let⟨hz,hI,⟨p,q,hO⟩,t1,t2⟩:=st;let⟨us,ru,c1⟩:=K1.of (Dm a ha);let⟨vs,rv,c2⟩:=K2.of (Dm b hb);let⟨u,hu,rxu⟩:=ZGh;let⟨v,hv,ryv⟩:=rv.get ey;show yi D (K1.src _ _ i1 a) (K2.src _ _ i2 b) hz hI hO t1 t2 c1 c2 (x:=u) (y:=v) (by simpa using hu) (by simpa using hv) (Ki (Ts ?_));show Lh a1 ZFM;have zl:=BN hz;have fr:=S0;have ne:∀{e:Addr} {o:Obj},BU e=Nd->e≠s.heap.objs.size:=CG (SQ h);have up:∀e o,e≠z->h1.get? e=Nd->Lr e=Nd:=Fg (Mx n g);show Cu Nf ZLh ?_ rfl (IZ _ x y fr rfl rfl ZO (λys' h=>?_)) (B0 hz2 (KB D.TIz (a6 _ _ D.TIz D.TITO D.TIi1 D.TIi2 hI)) (U6 _ (KB D.TOz a2)) ((K1.src X.prog X.w i1 a).tk _ _ _ a3 (Cp (up _ o D.i1z e))) ((K2.src X.prog X.w i2 b).tk _ _ _ a4 (Cp (up _ o D.i2z e)))) ZKT
  .show I.turnedT  ZKX hf (KB (Ed zl) a5) rxu ryv
   simp_all
  .rw[ha] at h;rw[<-K1.inj (BW h)];show ex
  .rw[hb] at h;rw[<-K2.inj (BW h)];show ey
  .have:e≠s.heap.objs.size:=by
    simp only[List.mem_cons,List.not_mem_nil,or_false] at he;rcases he with rfl|rfl|rfl|rfl|rfl
    .show ne hz
    .show ne hI
    .show ne hO
    .let⟨o,h,_⟩:=(K1.src X.prog X.w _ a).obj _ _ t1;show ne h
    .let⟨o,h,_⟩:=(K2.src X.prog X.w _ b).obj _ _ t2;show ne h
   rw[cj this];show (hf e he).1
 done:=by
  intro X hP hw hK hc i pins s σ H E I hf st hg;subst hP hw hK;let⟨xs,ys,ha,hb,hl⟩:=hg;let⟨hz,hI,⟨p,q,hO⟩,t1,t2⟩:=st;let⟨us,ru,c1⟩:=K1.of (Dm a ha);let⟨vs,rv,c2⟩:=K2.of (Dm b hb);have l1:=ru.length;have l2:=rv.length;show aa1 S3 D (K1.src _ _ i1 a) (K2.src _ _ i2 b) hz hI hO t1 t2 c1 c2 ?_ λh1 a6=>OI (I.turnedL  ZKX hf)
  .simp_all
  .simp_all
 self:=DK (wpAny_pyIter_zip st.1 h)
section
variable {A:Around}
def af7 {a b:Nat}(ha:a<n)(hb:b<n):ZipApart (n+4) (n+2) (n+3) n (n+1) a b:=by
 constructor <;> lia
end
variable {tp:Pos}
def lU (c d:Om->HO)(t:TA):TI:=KI (t σ H (GB (∃a b xs ys,vs=[PK,V9]/\H1 a=Af (c xs)/\H1 b=Af (d ys)/\R (Itz c d a b) H1)))
def ca2 {c d:Om->HO}{tu1 tu2:Addr->Addr->Nat->Heap->Prop}{has1 has2:Addr->OX->Heap->Prop}(K1:SrcK c tu1 has1)(K2:SrcK d tu2 has2)
  (mk:∀{prog:Program} {w:World} {A:Around} {E:Value->Shared->Prop} {s:Shared} {a b:Addr} {xs ys:Array Value} {Q:Value->Shared->Prop},has1 a xs s.heap->has2 b ys s.heap->
   (∀h',IsZip h' (s.heap.objs.size+4) (s.heap.objs.size+2) (s.heap.objs.size+3) .none->IsPair h' (s.heap.objs.size+2) (.ref s.heap.objs.size) (.ref (s.heap.objs.size+1))->
    IsPair h' (s.heap.objs.size+3) .none .none->tu1 s.heap.objs.size a 0 h'->tu2 (s.heap.objs.size+1) b 0 h'->(∀c o,s.heap.get? c=some o->h'.get? c=some o)->Q (.ref (s.heap.objs.size+4)) { s with heap:=h' })->
   wpAny (model prog w) A (call (.type "zip") [.ref a,.ref b]) Q E s)
  {n1} {e1 e2:Expr} {ta:TA} {p:Pos} (hg:Zs) (hm:Yi = none) (hb:YY = ZJ2) (ha:PA X [e1,e2] ta)
  (hs:No (OY [e1,e2]=[(false,eval e1 X.env),(false,eval e2 X.env)])) (hs2:No (OY [e2]=[(false,eval e2 X.env)])) :
  PI X (ZH n1 tp) (ZDp p [e1,e2]) (lU c d ta):=by
 intro pins s σ H R I h;show Call_ (qa I hg hm hb (Co (thn (WV pos s σ H I h) λus s1 ⟨vs,H1,I1,r1,q1⟩=>?_) (by rw[hs,hs2]) (by rw[hs2];rfl)));let⟨a,b,xs,ys,rfl,h1,h2,q⟩:=q1;cases r1 with
 | cons r rr=>
  cases rr with
  | cons r' rr=>
   cases rr;cases r;cases r';let⟨us1,_,c1⟩:=K1.of (Mw a h1);let⟨us2,_,c2⟩:=K2.of (Mw b h2);have la:=(Mw a h1).lt;have lb:=(Mw b h2).lt;show mk c1 c2 (K9 ?_);show ZIF ?_;show ZDs (s1.heap.objs.size+4) [s1.heap.objs.size+4,s1.heap.objs.size+2,s1.heap.objs.size+3,s1.heap.objs.size,s1.heap.objs.size+1] _ H1 rfl ZD5 (bj1 K1 K2 (af7 la lb)) (B0 z1 z2 (U6 _ z3) z4 z5) ZKT q;have ge:s1.heap.objs.size<=e:=by
    simp only[List.mem_cons,List.not_mem_nil,or_false] at he;rcases he with rfl|rfl|rfl|rfl|rfl <;> simp_all
   show LJ ge (Dk ge)
def bm7 {n1}{e1 e2:Expr}{ta:TA}{p:Pos}(hg:Zs)(hm:Yi = none)(hb:YY = ZJ2)(ha:PA X [e1,e2] ta)
  (hs:No (OY [e1,e2]=[(false,eval e1 X.env),(false,eval e2 X.env)])) (hs2:No (OY [e2]=[(false,eval e2 X.env)])) :
  PI X (ZH n1 tp) (ZDp p [e1,e2]) (lU HO.lst HO.lst ta):=
 ca2 a65 a65 (λc1 c2 q=>call_zip_2 c1 c2 λh' a1 a2 a3 a4 a5 y_ a7=>q h' a1 a2 a3 a4 a5 a7) hg hm hb ha hs hs2
def ah4 {k d a:Int}(lp:Pc)(lr:ZD1)(hk:k≠0)(hd:d≠0)(a1:a=k*p.x)(b1:b=k*p.y)(c1:c=k*p.z)(a2:a=d*r.x)(b2:b=d*r.y)(c2:c=d*r.z):p=r:=by
 show lp.eq lr λap=>ap ZF8
 .have:(k*d)*(p.x*r.z)=(k*d)*(r.x*p.z):=by
   have h1:(k*d)*(p.x*r.z)=(k*p.x)*(d*r.z):=by grind
   have h2:(k*d)*(r.x*p.z)=(d*r.x)*(k*p.z):=by grind
   rw[h1,h2,<-a1,<-c1,<-a2,<-c2]
  show Wn (Em hk hd)
 .have:(k*d)*(p.y*r.z)=(k*d)*(r.y*p.z):=by
   have h1:(k*d)*(p.y*r.z)=(k*p.y)*(d*r.z):=by grind
   have h2:(k*d)*(r.y*p.z)=(d*r.y)*(k*p.z):=by grind
   rw[h1,h2,<-b1,<-c1,<-b2,<-c2]
  show Wn (Em hk hd)
def aw3 {a:Int}(hc:c≠0)(h:XL a b c):pbF a b c=r:=by
 let⟨lp,k,hk,e1,e2,e3⟩:=GO a b hc;let⟨d,hd,f1,f2,f3⟩:=h.ex;show ah4 lp (A3 h.pos h.cop) hk (by grind) e1 e2 e3 f1 f2 f3
def b00 {a:Int}(hc:c≠0)(h:XL (0 - a) (0 - b) (0 - c)):pbF a b c=r:=by
 let⟨lp,k,hk,e1,e2,e3⟩:=GO a b hc;let⟨d,hd,f1,f2,f3⟩:=h.ex;show ah4 (d:=-d) lp (A3 h.pos h.cop) hk (by grind) e1 e2 e3 (by rw[Int.neg_mul];grind) (by rw[Int.neg_mul];omega) (by rw[Int.neg_mul];omega)
def b13:Mb SS "keys" = ZA1:=by kernel_rfl
def ax9:Mb SS "__getattr__" = ZA1:=by kernel_rfl
variable {os:OsState}
section
variable {A:Around}
def b12 {t:Nat}{u:Tok}{R:Result->Shared->Prop}(hx:ZKN=FU ({ cls:=.type "list",data:=.seq its n }))(hA:A.handled=none)
  (q:∀h' tk e,Heap.NewAttrErr h h' e PK "keys"->R (.error (A5 e)) (B0 h' g d tk os)) :
  codeAny P0 A (.call (CF "list.__getattribute__") (YR [PK,.str "keys" u])) R ⟨h,g,d,t,os⟩:=by
 have hT:(⟨h,g,d,t,os⟩:Shared).TypeIs PK "list":=ZDg hx;have f4:=b13;show codeAny_call_builtin F.slot_list_getattribute.plain F.entry_list_ga (F.slot_list_getattribute.check _ _ _ _ _ _ _ _ hT (F.args_list_getattribute_2 _ _) ?_)
 unfold Builtin.«object.__getattribute__»
 repeat (any_goals (first | assumption | wp_step))
 show wpAny_raiseAttrError hA (λh' tk e hx=>q h' tk e hx) (attrMsg_fits AD AD)
def cm3 {t:Nat}{u:Tok}(hx:ZKN=FU ({ cls:=.type "list",data:=.seq its n }))(hA:A.handled=none)
  (q:∀h' tk e,Heap.NewAttrErr h h' e PK "keys"->E (A5 e) (B0 h' g d tk os)):wpAny P0 A (getAttrBy PK (.str "keys" u) false) Q E ⟨h,g,d,t,os⟩:=by
 have hT:(⟨h,g,d,t,os⟩:Shared).TypeIs PK "list":=ZDg hx;have f1:=sub_AttributeError
 have f2 := F.slot_list_getattribute.lookup
 have f3 := F.slot_list_getattribute.bind (.ref a)
 have f5:=ax9
 repeat (any_goals (first | assumption | wp_step))
 show b12 hx hA ZD6;let⟨t',u',he⟩:=hn.there
 show wpAny _ _ (getattributeRaised _ _ _ _ _ _ _) _ _ _
 unfold getattributeRaised
 repeat (any_goals (first | assumption | wp_step))
 show q _ _ _ hn
def b14 {Q:OV->Shared->Prop}(hx:BU a=FU ({ cls:=.type "list",data:=.seq its n }))(hA:A.handled=none)
  (q:∀h' tk,(∀b u,RT=O8->Qg=O8)->Q none { s with heap:=h',toks:=tk }):wpAny P0 A (getAttr? PK "keys") Q E s:=by
 have f1:=sub_AttributeError;unfold getAttr? getAttrBy?;show Ah (wpAny_mkText (ZIY (cm3 hx hA ZD6)));let⟨t',u',he⟩:=hn.there;show Ah (wpAny_isInstance (T:="AttributeError")  (ZDg he) f1 (BA (q h' tk hn.keeps)))
end
def bt0:entryFor table "dict.update.loop" = some Builtin.«dict.update.loop»:=entryFor_of_tree (by kernel_rfl)
def bm2:plainId "dict.update.loop" = true:=by decide +kernel
variable {es:Qh}{d:Addr}{ep:Nat}
section
variable {A:Around}
def DictE (h:Heap)(d:Addr)(es:Qh)(ep:Nat):Prop:=∃o,Cj d=Nd/\o.ExactDict/\o.data=Zg
def DictE.ty (x:ZGC):Km ZHH "dict":=let ⟨o,e,c,_⟩:=x;⟨o,e,c.1⟩
def a85 (hs:(d == sysModules)=false)(x:ZGC)
  (q:Q Nf { s with heap:=s.heap.push { cls:=.type "dict_keyiterator",data:=.fields #[.ref d,.int 0 0,.int es.size 0,.int ep 0] } }):wpAny P0 A (pyIter ZHH) Q E s:=by
 have ty:=x.ty;let⟨u,hu,uc,ud⟩:=x;show wpAny_pyIter_slot ty F.slot_dict_iter (C9 F.slot_dict_iter ty F.entry_dict_iter ?_ (F.args_dict_iter_1 _));show Sx;show Ah (Fx ty QU);show (BD (EM ((Builtin.Dict.showsAll d >>= _)) s) Sx);unfold Builtin.Dict.showsAll;rw[if_neg (c:=(d == sysModules)=true) (by rw[hs];decide)];show Sk (F6 hu ud (Ah (Go hu ud (Ah (wpAny_newObj_type (CM (Cu _ rfl "dict_keyiterator" _ ZDh F.slot_dict_keyiterator_next.lookup ?_)))))));simpa [rawInt] using q
def a86 {i:Nat}{Q:OV->Shared->Prop}(st:s.heap.IsKeyIter j d i es.size ep)(x:ZGC)(hi:i<es.size)
  (q:∀h',h'.IsKeyIter j d (i+1) es.size ep->Ul j h'->Q (FU (es[i].key)) { s with heap:=h' }):wpAny P0 A ZGY Q E s:=by
 let⟨v,hv,vc,vd⟩:=ZIy;let⟨u,hu,uc,ud⟩:=x;show ZIY (ZAJ st.typeIs (ZEj st.typeIs ?_ Hv));show ZV Sx
 first | show wpAny_bind (ZF QU) | lia
 show Ah (Zy hv vd);have own:ZBd = false:=by decide
 show ZV (F6 hu ud ?_);rw[if_neg Aq];show ZV (Go hu ud ?_);rw[if_neg Aq];show QU;simp only[Int.toNat_natCast,Array.getElem?_eq_getElem hi];show Sx
 first | show wpAny_bind (ZF QU) | lia
 show Ah (wpAny_isOneOf_keyiter st.typeIs (BD (EM ((setField Wh 1 (Gq ((i)+1)) >>= _)) s) (Ah (Hn hv vd Aq ?_))));have st':(JU j (Obj.mapFields (·.setIfInBounds 1 (Gq ((i)+1))))).IsKeyIter j d (i+1) es.size ep:=by
  show WC _ (HQ hv (Me (NE vd))) ((Obj.cls_mapFields ..).trans vc);rw[Obj.data_mapFields vd];simp[rawInt]
 show ZBX (Ah (wpAny_isOneOf_keyiter  st'.typeIs ?_));show (BA (ZBb (BA (q _ st' (Heap.SameBut.update ..)))))
def bq2 {i:Nat}{Q:OV->Shared->Prop}(hd:A.handled=none)(st:s.heap.IsKeyIter j d i es.size ep)(x:ZGC)(hi:es.size<=i)
  (q:∀h',Md j s.heap h'->Q none { s with heap:=h' }):wpAny P0 A ZGY Q E s:=by
 let⟨v,hv,vc,vd⟩:=ZIy;let⟨u,hu,uc,ud⟩:=x;show ZIY (ZAJ st.typeIs (ZEj st.typeIs ?_ Hv));show ZV Sx
 first | show wpAny_bind (ZF QU) | lia
 show Ah (Zy hv vd);have own:ZBd = false:=by decide
 show ZV (F6 hu ud ?_);rw[if_neg Aq];show ZV (Go hu ud ?_);rw[if_neg Aq];show QU;simp only[Int.toNat_natCast,Array.getElem?_eq_none hi];show Sx
 first | show wpAny_bind (ZF QU) | lia
 show (BD (EM ((setField Wh 0 .none >>= _)) s) (Ah (Hn hv vd Aq ?_)));show FS ?_;show Ah (C1 (IC Lk (ZIi (by first | rfl | lia) (C1 ?_ (by size_fits)))) (by size_fits))
 refine wpAny_bind (wpAny_handled ?_)
 first | lia | rw[hd]
 refine wpAny_bind (wpAny_pure (wpAny_throw ?_))
 show Ah (Yu ZDh (BA (q _ (((Heap.SameBut.update ..).extBut.push _).push _))))
end
theorem boot_dict : bootBuiltins "dict" = some (.type "dict") := by decide +kernel
noncomputable def ev {α:Type}:Ql->Ql
 | []=>[]
 | [a]=>[a]
 | a::_::l=>a::ev l
def a69 {α:Type}:∀(xs:List α),((B1 ((xs.length+1) / 2)).map (En (2*j))).filterMap (xs[·]?)=Zz
 | []=>by simp[ev]
 | [a]=>by simp[ev]
 | a::b::l=>by
  have e:((a::b::l).length+1) / 2=(l.length+1) / 2+1:=by simp only[List.length_cons];lia
  rw[e,List.range_succ_eq_map,List.map_cons,List.filterMap_cons];simp only[Nat.mul_zero,List.getElem?_cons_zero];congr 1;rw[<-a69 l,List.map_map,List.filterMap_map,List.filterMap_map];show IN (Ma ZD7) (funext ZCh);simp only[Function.comp];rw[show 2*(j+1)=2*j+1+1 from by lia,List.getElem?_cons_succ,List.getElem?_cons_succ]
def az1 {α:Type}:∀(xs:List α),(Zz).length<=xs.length
 | []=>Nat.le_refl _
 | [a]=>Nat.le_refl _
 | a::b::l=>by have:=az1 l;simp only[ev,List.length_cons];lia
def a07:∀{xs:List V} {us:List Value},WS->GK Zz (ev us)
 | [],_,h=>by cases h;show .nil
 | [_],_,h=>by cases h with | cons r h=>cases h;show .cons r .nil
 | _::_::_,_,h=>by cases h with | cons r h=>cases h with | cons _ t=>show .cons r (a07 t)
def bm3 (its:Nk)(hk:k<=1):XJ (FU ((k:Int))) none ZAn=(ev ZDy).toArray:=by
 unfold slicePick;congr 1;have b1:(ZIk YO ZAn).1=((min k its.length:Nat)):=by
  simp only[sliceBounds,Option.getD_some,List.size_toArray];rw[if_pos AC,if_neg (Int.not_lt.2 (Int.natCast_nonneg k)),HT.nmin];show Int.max_eq_right Kl
 have b2:(ZIk YO ZAn).2.1=ZAV:=by
  simp only[sliceBounds,Option.getD_some,show (2:Int) > 0 by decide,if_true,List.size_toArray]
 have b3:(ZIk YO ZAn).2.2=2:=rfl;rw[b1,b2,b3];have e:sliceRange ((min k its.length:Nat)) its.length 2=(B1 (((ZDy).length+1) / 2)).map (En (k+2*j)):=by
  unfold sliceRange;simp only[show (2:Int) > 0 by decide,if_true,List.length_drop];by_cases h:k<its.length
  .rw[Nat.min_eq_left (Dl h),if_pos (Int.ofNat_lt.2 h)];show congr (IN List.map (funext (En Ab))) (IN List.range Ab)
  simp_all
 rw[e,<-a69,List.filterMap_map,List.filterMap_map];show IN (Ma ZD7) (funext ZCh);simp only[Function.comp,List.getElem?_drop];rw[<-Array.getElem?_toList]
section
variable {te:TE}{lo hi st:Sy}{tl th ts:TO}{p2:Pos}
def lG (r:V->Oi->Oi->Oi->Hp->VK->Prop)(te:TE)(tl th ts:TO):TE:=CI (te σ H (EK (tl σ H1 λl H2=>th σ H2 λu H3=>ts σ H3 λg H4=>r x l u g H4 Q)))
def oA (K:PySem.W.Frag):V->Oi->Oi->Oi->Hp->VK->Prop:=λx lo hi g H Q=>
 ∃a xs,∃k:Nat,x=.ref a/\lo=some (k:Int)/\hi=none/\g=some 2/\k<=1/\SqL K H a xs/\∀p,H p=none->Q Pw (Sr p (ev (Dp k)))
def bd7 {g:Expr}(he:ZCx)(hl:PO X lo tl)(hu:PO X hi th)(hg:PO X ZHD ts):Ry (ZHu e hi ZHD p2) (lG (oA X.K) te tl th ts):=by
 intro pins s σ H Q I h;show LH (ZI0 s σ H I h (λv s1 ⟨x,H1,I1,r1,q1⟩=>?_));show ZB1 (hl pins s1 σ H1 _ I1 q1) (λvl s2 ⟨l,H2,I2,pl,q2⟩=>thn (hu pins s2 σ H2 _ I2 q2) λvu s3 ⟨u,H3,I3,pu,q3⟩=>thn (hg pins s3 σ H3 _ I3 q3) λvg s4 ⟨g',H4,I4,pg,q4⟩=>?_);have I5:ZEy H4 ({ s4 with heap:=s4.heap.push { cls:=.type "slice",data:=.fields #[vl,vu,vg] } }):=I4.kept  ZCT;let⟨a,xs,k,rfl,rfl,rfl,rfl,hk,hx,q⟩:=q4;cases r1;let⟨its,r,ht,hz⟩:=I5.list hx;have hlen:=r.length;show Zu ht.isList.typeIs ?_ (by with_unfolding_all rfl);show wpAny_getItem_list_slice ht.isList (Heap.IsSliceOf.new ..) pl pu pg Aq ?_ Aw;rw[bm3 its hk];show Zn KC _ (I5.laid   ZCT As ?_) ZIG;show B0 ?_ _ 0 (a07 (r.drop k)) Ow;have:=az1 (Dp k);rw[List.length_drop] at this;lia
end
variable {l:NT}
def jE:V->Om->Hp->VK->Prop:=HA (∃l xs y,∃k:Nat,x=On/\vs=[BR k,y]/\ZBv=Ou/\k<=xs.length/\xs.length<1000000/\Q .non (Sr l (Dz k++y::Dp k)))
def bq9 {l:Addr}{xs:Om}{t:Tok}{y:V}{Q:VK}(hx:(k:Int)=x)(I:QO)(hH:ZBv=Ou)(ru:ZC1)(hk:k<=xs.length)(hz:xs.length<1000000)
  (q:Q .non (Sr l (Dz k++y::Dp k))):wpAny N6 X.A (call (CF "list.insert") [On,WU x,u]) ZGI X.xe s:=by
 let⟨z,its,n,r,hl,e⟩:=ZF2;have hm:1000000<=sizeLine:=by rw[sizeLine_eq];lia
 have fit:¬(!Builtin.List.listFitsIndex x)=true:=by
  have:Builtin.List.listFitsIndex x=true:=by
   unfold Builtin.List.listFitsIndex
   simp only [Bool.and_eq_true, decide_eq_true_eq]
   lia
  rw[this]
  decide
 have hsz:its.toArray.size<=sizeLine:=by rw[List.size_toArray,<-hl];show z
 have hn:¬x<0:=by lia
 have hx2:x.toNat=k:=by lia
 have M:=AutoSeq1.list_insert_list_int_val_1 l its.toArray n x t u fit hsz;show ZDz F.slot_list_insert e F.entry_list_insert (F.args_list_insert_3 _ _ _) M (Pk e);show Py .non _ (I.lset (its':=its.take k++u::ZDy) hH e ?_ ((r.take k).append (Iu ru (r.drop k))) ?_) q
 .rw[if_neg hn,hx2];have e1:min k its.toArray.size=k:=by rw[List.size_toArray];lia
  rw[e1];simp;show List.take_of_length_le (by rw[List.length_drop];show Nat.le_refl _)
 .simp only[List.length_append,List.length_take,List.length_cons,List.length_drop];lia
def bf3:MtM X "list.insert" jE:=by
 intro pins s σ H x vs v us Q I rx rv h;let⟨l,xs,y,k,rfl,rfl,hH,hk,hz,q⟩:=h;cases rx;cases rv with
 | cons ra rb=>
  cases rb with
  | @cons _ u _ _ ru rc=>
   cases rc;let⟨t,rfl⟩:=ra;show bq9 rfl I hH ru hk hz q
def Srt (l:NT):Prop:=(∀p∈l,Pc)/\l.Pairwise (λp q=>RW=true)
def rn (hp:Pc)(hq:QA)(hr:ZD1)(h1:RW=true)(h2:ahd q r=true):QQ r=true:=ZHx h1 h2
def xj (hp:Pc)(hq:QA)(h1:RW=true)(h2:ZGb=true):False:=by
 have:=rn hp hq hp h1 h2;rw[gj] at this;cases this
def Srt.tail (h:Srt (p::l)):Z0:=A3 (Dw (h.1 q ZFg)) ((Df h.2).2)
def Srt.head (h:Srt (p::l))(hq:q∈l):RW=true:=(Df h.2).1 q hq
def Srt.nil:Srt []:=A3 (λp h=>(AN)) .nil
def Srt.single (h:Pc):Srt [p]:=by
 show A3 (Dw ?_) Aq
 simp_all
def zi:∀{l m:List Pt3},Z0->Srt m->(∀p,p∈l↔p∈m)->l=m
 | [],[],_,_,_=>rfl
 | [],q::m,_,_,h=>nomatch (h q).mpr Aq
 | p::l,[],_,_,h=>nomatch (h p).mp Aq
 | p::l,q::m,hl,hm,h=>by
  have lp:=hl.1 p Aq;have lq:=hm.1 q Aq;have e:p=q:=by
   have a:=(h p).mp Aq;have b:=(h q).mpr Aq;rcases List.mem_cons.mp a with a|a
   .show a
   .rcases List.mem_cons.mp b with b|b
    .show b.symm
    .show (xj lp lq (hl.head b) (hm.head a)).elim
  subst e;have t:∀r,r∈l↔r∈m:=λr=>by
   constructor
   .intro hr;rcases List.mem_cons.mp ((h r).mp (A7 hr)) with e|q
    .subst e;have:=hl.head hr;rw[gj] at this;cases this
    .show q
   .intro hr;rcases List.mem_cons.mp ((h r).mpr (A7 hr)) with e|q
    .subst e;have:=hm.head hr;rw[gj] at this;cases this
    .show q
  rw[zi hl.tail hm.tail t]
def Srt.nodup (h:Z0):l.Nodup:=h.2.imp λ{p q} a e=>by subst e;rw[gj] at a;cases a
set_option tactic.hygienic true in
def Srt.split {l:NT}(h:Z0){p:Pt3}(hp:Pc):∀{q},q∈l.dropWhile ZHb->ZGb=false:=by
 induction l with
 | nil=>simp
 | cons a l ih=>
  intro q hq;rw[List.dropWhile_cons] at hq;split at hq
  .show ih h.tail hq
  .rename_i na;have na':=by simpa using na
   rcases List.mem_cons.mp hq with rfl | hq
   .show na'
   .cases e:ahd q p with
    | false=>rfl
    | true=>
     have:=rn (h.1 a Aq) (h.1 q ZFg) hp (h.head hq) e;lia
def bo7 {f:Pt3->Bool}(h:q∈l.takeWhile f):f q=true:=by
 induction l with
 | nil=>cases h
 | cons a l ih=>
  rw[List.takeWhile_cons] at h;grind
def aa6 (l:NT)(f:Pt3->Bool):l.takeWhile f++l.dropWhile f=l:=List.takeWhile_append_dropWhile
def Srt.parts {m:NT}(h:Srt (l++m)):Z0/\Srt m/\∀p∈l,∀q∈m,RW=true:=by
 let⟨a,b⟩:=h;let⟨b1,b2,b3⟩:=List.pairwise_append.mp b;show BH (A3 (Bg (a p (Ca hp))) b1) (A3 (Bg (a p (BJ hp))) b2) b3
def Srt.join {m:NT}(h1:Z0)(h2:Srt m)(h:∀p∈l,∀q∈m,RW=true):Srt (l++m):=
 ⟨λp hp=>(FI hp).elim (h1.1 p) (h2.1 p),List.pairwise_append.mpr ⟨h1.2,h2.2,h⟩⟩
def Srt.cons {p:Pt3}{l:NT}(hp:Pc)(h:Z0)(ha:∀q∈l,RW=true):Srt (p::l):=Srt.join (l:=[p]) (Srt.single hp) h λa e q hq=>by
 simp_all
def mrg:NT->NT->NT
 | one,[]=>one
 | one,t::other=>one.takeWhile ZHc++t::mrg (Lg ZHc) other
def zj:∀(one other:List Pt3) (p:Pt3),p∈mrg one other↔p∈one\/p∈other
 | one,[],p=>by simp[mrg]
 | one,t::other,p=>by
  unfold mrg;rw[List.mem_append,List.mem_cons,zj];have e:p∈one↔p∈ZHd\/p∈Lg ZHc:=by rw[<-List.mem_append,aa6]
  grind
def a77:∀{one other:List Pt3},Srt one->Srt other->(∀p∈one,p∉other)->Srt (mrg one other)
 | one,[],h1,_,_=>by unfold mrg;show h1
 | one,t::other,h1,h2,hd=>by
  have lt:=h2.1 t Aq;have sp:=λ{q}=>h1.split lt (q:=q);have hh:Srt (ZHd++Lg ZHc):=by simp_all
  let⟨s1,s2,s3⟩:=hh.parts;have sub:∀q∈one.dropWhile (λq=>ahd q t),q∈one:=λq hq=>by rw[<-aa6 one ZHc];show List.mem_append_right _ hq
  have ih:=a77 s2 h2.tail λp hp hq=>hd p (sub p hp) ZFg;have beh:∀q∈mrg (one.dropWhile (λq=>ahd q t)) other,ahd t q=true:=λq hq=>by
   rcases (zj _ _ _).mp hq with hq|hq
   .rcases jo lt (h1.1 q (sub q hq)) with e|e|e
    .subst e;show (hd _ (sub _ hq) Aq).elim
    .show e
    simp_all
   .show h2.head hq
  show s1.join (Srt.cons lt ih beh) λp hp q hq=>?_;have pa:=bo7 hp
  rcases List.mem_cons.mp hq with rfl | hq
  .show pa
  .show rn (s1.1 p hp) lt (ih.1 q hq) pa (beh q hq)
def fD (row:NT)(p:Pt3):NT:=Ak ((ZKl).head?=UL) row (Lf ZHb++p::ZKl)
set_option tactic.hygienic true in
def br1 {row:NT}(h:Vv)(hp:Pc):Srt (fD row p)/\∀q,q∈fD row p↔q∈row\/q=p:=by
 have hh:Srt (Lf ZHb++ZKl):=by rw[aa6];show h
 let⟨s1,s2,s3⟩:=hh.parts;have sub:∀q∈row.dropWhile (λq=>ahd q p),q∈row:=λq hq=>by rw[<-aa6 row ZHb];show List.mem_append_right _ hq
 unfold fD;split
 .rename_i e;have m:=sub p (List.mem_of_mem_head? (by rw[e];rfl))
  simp_all
 .rename_i ne;have beh:∀q∈row.dropWhile (λq=>ahd q p),RW=true:=by
   intro q hq;rcases jo hp (h.1 q (sub q hq)) with e|e|e
   .subst e;cases hd:row.dropWhile ZHb with
    | nil=>simp_all
    | cons a l=>
     rw[hd] at hq ne s2
     rcases List.mem_cons.mp hq with rfl | hq
     .show (ne rfl).elim
     .have f:=h.split hp (q:=a) (by rw[hd];simp);have g:=s2.head hq
      simp_all
   .show e
   .rw[h.split hp hq] at e;cases e
  show A3 (s1.join (Srt.cons hp s2 beh) λa ha q hq=>?_) (EV ?_)
  .have pa:=bo7 ha
   rcases List.mem_cons.mp hq with rfl | hq
   .show pa
   .show s3 a ha q hq
  .have e:q∈row↔q∈Lf ZHb\/q∈ZKl:=by rw[<-List.mem_append,aa6]
   grind
def aP (ps:NT):NT:=ps.foldl fD []
def ie (h:∀p∈ps,Pc):Srt ZB4/\∀q,q∈ZB4↔q∈ps:=by
 have g:∀(ps row:List Pt3),(∀p∈ps,Pc)->Vv->Srt (ZGi fD)/\∀q,q∈ZGi fD↔q∈row\/q∈ps:=by
  intro ps
  induction ps with
  | nil=>intro row _ s;simp_all
  | cons p ps ih=>
   intro row hl s;let⟨a,b⟩:=br1 s (hl p Aq);let⟨c,d⟩:=ih (fD row p) (Dw (hl q ZFg)) a;show A3 c (EV (by rw[List.foldl_cons,d,b,List.mem_cons,or_assoc]))
 let⟨a,b⟩:=g ps [] h Srt.nil;show A3 a (EV ((b q).trans (A3 (BT (z.elim (MZ (nomatch n)) id)) .inr)))
def aL:QK->QK
 | a::b::l=>mrg a b::aL l
 | l=>l
def Rows (l:QK):Prop:=(∀r∈l,Srt r)/\l.Pairwise (λr t=>∀p∈r,p∉t)
def vk:∀(l:List (List Pt3)) (p:Pt3),(∃r∈aL l,p∈r)↔∃r∈l,p∈r
 | [],p=>by simp[aL]
 | [a],p=>by simp[aL]
 | a::b::l,p=>by
  have ih:=vk l p;simp only[aL,List.mem_cons,exists_eq_or_imp,zj,ih,or_assoc]
def yr:∀{l:List (List Pt3)},Rows l->Rows (aL l)
 | [],h=>h
 | [a],h=>h
 | a::b::l,h=>by
  let⟨h1,h2⟩:=h;let⟨p1,p2⟩:=Df h2;let⟨p3,p4⟩:=Df p2;have ih:=yr  (A3 (Gn (h1 r (by simp[hr]))) p4);have m:=a77 (h1 a Aq) (h1 b Aq) (p1 b Aq);show A3 ZKa (List.pairwise_cons.mpr (A3 (λt ht p hp hq=>?_) ih.2))
  .rcases List.mem_cons.mp hr with rfl|hr
   .show m
   .show ih.1 r hr
  .let⟨r,hr,hpr⟩:=(vk l p).mp (BH t ht hq);rcases (zj _ _ _).mp hp with hp|hp
   .show p1 r (A7 hr) p hp hpr
   .show p3 r hr p hp hpr
def ab8:∀{l:List (List Pt3)},1<l.length->(aL l).length<l.length
 | [],h=>by simp at h
 | [a],h=>by simp at h
 | [a,b],_=>by simp[aL]
 | [a,b,c],_=>by simp[aL]
 | a::b::c::d::l,_=>by
  have:=ab8 (l:=c::d::l) Aq;simp only[aL,List.length_cons] at this ⊢;lia
def yq:∀{ps:List Pt3},(∀p∈ps,Pc)->ps.Nodup->Rows (FH (B5 [p]))
 | [],_,_=>⟨λr h=>AN,.nil⟩
 | p::ps,h,n=>by
  let⟨n1,n2⟩:=Dh n;let⟨a,b⟩:=yq  (Dw (h q ZFg)) n2;show Pk ZKa
  .rcases List.mem_cons.mp hr with rfl|hr
   .show Srt.single (h p Aq)
   .show a r hr
  grind
def bk6 {rows:QK}(h:∀p∈ps,Pc)(hr:Rows rows)(hm:∀p,(∃r∈rows,p∈r)↔p∈ps)(h1:rows.length<=1):rows.headD []=ZB4:=by
 let⟨s,m⟩:=ie h
 match rows,h1 with
 | [],_=>show zi Srt.nil s λp=>by simp_all
 | [r],_=>show zi (hr.1 r Aq) s λp=>by rw[m];simp_all
section
variable {CX:CXT}{j:Nat}{ps:Pg}{dvs:Om}{ds:Nk}{E:XK}{x:Str}{p:Pos}{es:Oh}{tx:TE}{t:TA}
def kM (f:Addr)(sp:Sp)(dvs:Om)(E:XK)(tx:TE)(t:TA):TE:=CI (tx σ H λv H1=>v=XS/\t σ H1 λvs H2=>sp (vs++dvs) H2 Q E)
def bn2 (F:FnOk X.prog X.w X.K X.mg X.base CX k f fd ps sp)(hr:VN X.A)(hn:Ry (W4 p) tx)(hk:Gv X.K XS=true)(hb:Binds X.K fd ps ds)(hd:GK dvs ds)(hx:fV CX X E)
  (ha:PA X (e::es) t) (he:No (O0 (e::es)=(false,eval e X.env)::SF)) (hpl:No ((ZGD).any (·.1)=false)) :
  PE X (ZAc (W4 p) (e::es) pos) (kM f sp dvs E tx t):=by
 intro pins s σ H Q I h;show Di (thn (hn pins s σ H _ I h) λv s0 ⟨y,H0,I0,r0,q0⟩=>?_);let⟨rfl,h⟩:=q0;cases r0;show PySem.W.callWith_K (h₀:=X.base) I.ok.mod.kin hk (thn (WV pos s0 σ H0 I0 h) λus s1 ⟨vs,H1,I1,r,q⟩=>Pk I1.kIn) he hpl;show bk5 F hr hb hd hx I1 r q
end
open PySem.W
section
variable {A:Around}
def au1 (hh:A.handled=none)(hjd:j≠d)(es:Qh)(ep:Nat) :
  Walks prog w A j [j,d] [j] es.size (λi v=>∃x,es[i]?=OZ/\v=x.key) (HC (h.IsKeyIter j d i es.size ep/\K8 h d es ep)) where
 sub := fun b hb => by simp at hb; simp [hb]
 frame:=λy_ y_ y_ st hk=>by
  let⟨s1,⟨u,h2,r⟩⟩:=st;show A3 (s1.at (Cp (hk j Aq o e))) (BH u (hk d Aq u h2) r)
 item := fun i s Q E hi st hQ => by
  let⟨s1,⟨u,h2,r⟩⟩:=st;show a86 s1 (BH u h2 r) hi (IH ?_);show hQ _ h' s.toks (Oo (es[i]) (Dn hi)) (A3 st' (BH u ((sb.2 d (BX hjd)).trans h2) r)) (CA ((sb.2 b (BT (hb (by simp[z])))).trans e))
 done:=λs Q E st hQ=>bq2 hh st.1 st.2 As (Hq (hQ h' s.toks (CA (eb b o (BT (hb (by simp[z]))) e))))
 self:=λy_ y_ y_ y_ st hQ=>wpAny_pyIter_keyiter st.1 hQ
def bj8 (hd:(d == sysModules)=false):KdlSrc prog w "dict" d d es.size (λi v=>∃x,es[i]?=OZ/\v=x.key) (CG (K8 h d es ep)) where
 type _ x:=x.ty
 there _ x:=let ⟨_,e,_⟩:=x;⟨Heap.lt_size e,Heap.lt_size e⟩
 keep _ _ x k:=let ⟨u,e,r⟩:=x;⟨u,k d OP u e,r⟩
 notList:=AC
 notTuple:=AC
 hint _ _ _ _ x q:=kdl_hint_dict x.ty q
 iter A s hh x:=by
  let⟨u,e,r⟩:=id x;show IZ _ _ (λE Q q=>a85 hd x q) (au1 hh (Ed WB) es ep) (Vh _ Ow) u Ra r
def ae2 (hh:A.handled=none)(hd:(d == sysModules)=false)(x:ZGC)(hlen:es.size<=sizeLine)
  (hQ : ∀ h' tk acc' c', (∀ b o, s.heap.get? b = some o → h'.get? b = some o) →
   h'.get? s.heap.objs.size=some { cls:=.type "list",dict:=none,data:=.seq acc' c',slots:=#[] }->ItemsOf (λi v=>∃x,es[i]?=some x/\v=x.key) acc' es.size->Q (.ref s.heap.objs.size) { s with heap:=h',toks:=tk }) :
  wpAny P0 A (call SS [ZHH]) Q E s:=kdl_call (bj8 hd) hh x hlen hQ
end
end L2
namespace L2
open PySem PySem.Spec PyProof.Rows
variable {l:Addr}
def cc2 {a t:Pt3}{l o:NT}(h:ahd a t=true):mrg (a::l) (t::o)=a::mrg l (t::o):=by
 simp[mrg,h]
def bo5 {t:Pt3}{l o:NT}(h:∀a,l.head?=RS->ahd a t=false):mrg l (t::o)=t::mrg l o:=by
 cases l with
 | nil=>simp[mrg]
 | cons a l=>
  have:=h a rfl;simp[mrg,this]
def br0 (row:NT)(p:Pt3):(fD row p).length<=row.length+1:=by
 unfold fD;split
 .simp
 .have:=IN List.length (aa6 row ZHb);rw[List.length_append] at this;rw[List.length_append,List.length_cons];lia
def as3:∀(ps row:List Pt3),(ZGi fD).length<=row.length+ps.length
 | [],row=>Nat.le_refl _
 | p::ps,row=>by
  have:=as3 ps (fD row p);have:=br0 row p
  rw [List.foldl_cons, List.length_cons]
  lia
def a78:∀(one other:List Pt3),(mrg one other).length=one.length+other.length
 | one,[]=>by simp[mrg]
 | one,t::other=>by
  unfold mrg;have e:=IN List.length (aa6 one ZHc);rw[List.length_append] at e;rw[List.length_append,List.length_cons,a78,List.length_cons];lia
def tot:QK->Nat
 | []=>0
 | r::l=>r.length+tot l
def aa8:∀{l:List (List Pt3)} {r:List Pt3},r∈l->r.length<=tot l
 | a::l,r,h=>by
  rcases List.mem_cons.mp h with rfl | h
  .simp only[tot];simp
  .have:=aa8 h;simp only[tot];lia
def ag2:∀(l:List (List Pt3)),tot (aL l)=tot l
 | []=>rfl
 | [a]=>rfl
 | a::b::l=>by simp only[aL,tot,a78,ag2 l];lia
def aa7:∀(ps:List Pt3),tot (FH (B5 [p]))=ps.length
 | []=>rfl
 | p::ps=>by simp only[List.map_cons,tot,aa7 ps,List.length_cons,List.length_nil];lia
def vn:∀(l:List (List Pt3)) (i:Nat),(aL l)[i]?=match (ev l)[i]?,(ev (l.drop 1))[i]? with | some a,some b=>some (mrg a b) | some a,none=>some a | none,_=>none
 | [],i=>by simp[aL,ev]
 | [a],0=>by simp[aL,ev]
 | [a],i+1=>by simp[aL,ev]
 | a::b::l,0=>by
  have:(ev (b::l))[0]?=some b:=by cases l <;> simp[ev]
  simp[aL,ev,this]
 | a::b::l,i+1=>by
  have e:(ev (b::l))[i+1]?=(ev (l.drop 1))[i]?:=by cases l <;> simp[ev]
  simp only[List.drop_succ_cons,List.drop_zero,e];show vn l i
def ay9 {α:Type}:∀{xs:List α} {x:α},x∈Zz->x∈xs
 | [a],x,h=>by simpa [ev] using h
 | a::b::l,x,h=>by
  simp only[ev,List.mem_cons] at h;rcases h with h|h
  .simp[h]
  .simp[ay9 h]
def az0 {α β:Type}(f:α->β):∀(xs:List α),ev (Ff f)=(Zz).map f
 | []=>rfl
 | [a]=>rfl
 | a::b::l=>by simp[ev,az0 f l]
def ur {α:Type}:∀(xs:List α),(Zz).length=(xs.length+1) / 2
 | []=>by simp[ev]
 | [a]=>by simp[ev]
 | a::b::l=>by simp only[ev,List.length_cons,ur l];lia
def u5:∀(l:List (List Pt3)),(aL l).length=(l.length+1) / 2
 | []=>by simp[aL]
 | [a]=>by simp[aL]
 | a::b::l=>by simp only[aL,List.length_cons,u5 l];lia
def a98 {α:Type}:∀(xs:List α),xs.length % 2=1->(Zz)[xs.length / 2]?=xs[xs.length - 1]?
 | [],h=>by simp at h
 | [a],h=>by simp[ev]
 | a::b::l,h=>by
  have h':l.length % 2=1:=by grind
  have:=a98 l h';simp only[ev,List.length_cons];rw[show (l.length+1+1) / 2=l.length / 2+1 by lia,List.getElem?_cons_succ,this];cases l with
  | nil=>simp at h'
  | cons c l=>simp
section
variable {α β:Type}{F:α->β->Prop}
def jm:∀{as:List α} {bs:List β},as.length=bs.length->(∀(i:Nat) a,as[i]?=RS->∃b,bs[i]?=UK/\F a b)->ZC6
 | [],[],_,_=>.nil
 | [],b::bs,h,_=>by simp at h
 | a::as,[],h,_=>by simp at h
 | a::as,b::bs,h,g=>by
  let⟨c,hc,r⟩:=g 0 a rfl;have e:b=c:=by simpa using hc
  subst e;show .cons r (jm (by simpa using h) λi x hx=>by
   let⟨y,hy,r⟩:=g (i+1) x (by simpa using hx);show⟨y,by simpa using hy,r⟩)
def cn:∀{as:List α} {bs:List β} {i:Nat} {a:α},ZC6->as[i]?=RS->∃b,bs[i]?=UK/\F a b
 | _,_,_,_,.nil,h=>by simp at h
 | _,_,0,a,.cons r t,h=>by
  simp only [List.getElem?_cons_zero, Option.some.injEq] at h
  subst h;show Ts r
 | _,_,i+1,a,.cons r t,h=>by
  let⟨y,hy,r⟩:=cn (i:=i) t (by simpa using h);show BH y (by simpa using hy) r
def td:∀{as:List α} {bs:List β} {i:Nat} {b:β},ZC6->bs[i]?=UK->∃a,as[i]?=RS/\F a b
 | _,_,_,_,.nil,h=>by simp at h
 | _,_,0,a,.cons r t,h=>by
  simp only [List.getElem?_cons_zero, Option.some.injEq] at h
  subst h;show Ts r
 | _,_,i+1,a,.cons r t,h=>by
  let⟨y,hy,r⟩:=td (i:=i) t (by simpa using h);show BH y (by simpa using hy) r
def qk:∀{as:List α} {bs:List β},ZC6->CB F (ev as) (ev bs)
 | [],_,h=>by cases h;show .nil
 | [_],_,h=>by cases h with | cons r h=>cases h;show .cons r .nil
 | _::_::_,_,h=>by cases h with | cons r h=>cases h with | cons _ t=>show .cons r (qk t)
def we:∀{as:List α} {bs:List β},ZC6->CB F Z1 (bs.drop 1)
 | _,_,.nil=>.nil
 | _,_,.cons r t=>t
def cu:∀{as:List α} {bs:List β},ZC6->as.length=bs.length
 | _,_,.nil=>rfl
 | _,_,.cons r t=>by simp[cu t]
def cv {G:α->β->Prop}:∀{as:List α} {bs:List β},ZC6->(∀a b,F a b->G a b)->ZC5 G
 | _,_,.nil,_=>.nil
 | _,_,.cons r t,f=>.cons (f _ _ r) (cv t f)
def gz {a:α}{b:β}:∀{as:List α} {bs:List β},ZC6->F a b->CB F (as++[a]) (bs++[b])
 | _,_,.nil,r=>.cons r .nil
 | _,_,.cons r t,h=>.cons r (gz t h)
end
variable {X:Cx}
def CompR (X:Cx)(e:Expr)(scope:Scope)(iter:Expr)(t:TE):Prop:=∀(pins:Au (Addr×Obj)) (s:Shared) (σ:St) (H:Hp) (Q:VK) (use:BO (Value->Sem Unit)) (Q':Value->Shared->Prop) (fpos:Pos),Inv X pins σ H s->t σ H Q->
 (∀D C m s5 H4 r,s5.heap.Ns C m->SG X H4 C->P5 H4 s5->Q Wi H4->compPost N6 X.A X.xe use Q' Wi C (.ok r) s5)->
 wpAny N6 X.A (comprehension e scope X.env fpos (newList []) false (O1 iter) use) Q' X.xe s
def bb9 {ps qs:NT}(h:∀p∈ps,Pc)(e:∀p,p∈qs↔p∈ps):aP qs=ZB4:=by
 let⟨s,m⟩:=ie h;let⟨s',m'⟩:=ie (ps:=qs) (Bg (h p ((e p).mp hp)));show zi s' s (B5 (by rw[m,m',e]))
def ag4 (ps:NT):(ZB4).length<=ps.length:=by
 have:=as3 ps [];simpa [aP] using this
def gY (i j:Int):Prop:=0<=j/\(Builtin.Int.intBits i:Int)*j<=2 ^ 27
def b02:ZBp .Pow (rI gY (TF (i ^ j.toNat))):=opI (EC (pow_int hc.1 hc.2 q))
variable {es:Oh}
section
variable {env:Env}
def jx {a b c}:Rv (GH a b c::es)=(false,eval (GH a b c) env)::XA:=rfl
def ab3 {a b}:Rv (.List a b::es)=(false,eval (.List a b) env)::XA:=rfl
def bn {a b c}:Rv (KM a b c::es)=(false,eval (KM a b c) env)::XA:=rfl
def v9 {a b c}:Rv (Iv a b c::es)=(false,eval (Iv a b c) env)::XA:=rfl
def cb {a b c d}:Rv (.BinOp a b c d::es)=(false,eval (.BinOp a b c d) env)::XA:=rfl
def ac {a b}:Rv (CW a b::es)=(false,eval (CW a b) env)::XA:=rfl
def ck {a b c d}:Rv (.Call a b c d::es)=(false,eval (.Call a b c d) env)::XA:=rfl
def bp {a b c}:Rv (Ds a b c::es)=(false,eval (Ds a b c) env)::XA:=rfl
def an2 {a b c d}:Rv (.Compare a b c d::es)=(false,eval (.Compare a b c d) env)::XA:=rfl
def gd {a b c d}:Rv (.ListComp a b c d::es)=(false,eval (.ListComp a b c d) env)::XA:=rfl
end
def cyc (l:NT):Au (Pt3×Pt3):=l.zip (l.drop 1++K7 1)
variable {H:Hp}{K:PySem.W.Frag}
section
variable {σ:St}{D:Ends}{te to:TE}{xs:Om}
def aw4 {α β:Type}{F:α->β->Prop}{as:Ql}{bs:ZJ7}{cs:Ql}{ds:ZJ7}(h:ZC6)(g:CB F cs ds):CB F (as++cs) (bs++ds):=by
 induction h with
 | nil=>show g
 | cons r t ih=>show .cons r ih
end
def bm4 (its:Nk):XJ none none (Af (-1))=its.reverse.toArray:=by
 unfold slicePick;congr 1;have b1:(ZIk none (Af (-1))).1=ZAV - 1:=by
  simp only[sliceBounds,Option.getD_some,show ¬((-1) > 0) by decide,if_false,List.size_toArray]
 have b2:(ZIk none (Af (-1))).2.1 = -1:=by
  simp only[sliceBounds,Option.getD_some,show ¬((-1) > 0) by decide,if_false]
 have b3:(ZIk none (Af (-1))).2.2 = -1:=rfl;rw[b1,b2,b3];have e:sliceRange (ZAV - 1) (-1) (-1)=(B1 its.length).map (En (its.length - 1 - j)):=by
  unfold sliceRange;simp only[show ¬((-1:Int) > 0) by decide,if_false];by_cases h:0<its.length
  .rw[if_pos Ab];have c:(((its.length:Int) - 1 - -1 - -1 - 1) / (- -1)).toNat=its.length:=by
    simp
   rw[c];show Ct (λj hj=>?_);grind
  simp_all
 rw[e];apply List.ext_getElem?;intro i;have key:∀(n:Nat),n<=its.length->((Za).map (En (its.length - 1 - j))).filterMap (λ(i)=>its.toArray[i]?)=(its.reverse).take n:=by
  intro n
  induction n with
  | zero=>intro _;rfl
  | succ n ih=>
   intro hn;rw[List.range_succ,List.map_append,List.filterMap_append,ih Ab,List.take_succ];simp only[List.map_cons,List.map_nil,List.filterMap_cons,List.filterMap_nil];rw[List.getElem?_reverse Ab];simp only[List.getElem?_toArray];cases its[its.length - 1 - n]? <;> rfl
 have:=key its.length As;rw[<-List.length_reverse,List.take_length] at this;rw[List.length_reverse] at this;rw[<-this]
variable {pos:Pos}
section
variable {e:Expr}{te:TE}{lo hi:Sy}{tl th ts:TO}{p2:Pos}
def nX (K:PySem.W.Frag):V->Oi->Oi->Oi->Hp->VK->Prop:=λx lo hi g H Q=>
 ∃a xs,x=.ref a/\lo=none/\hi=none/\g=some (-1)/\SqL K H a xs/\∀p,H p=none->Q Pw (Sr p xs.reverse)
def bd6 {g:Expr}(he:ZCx)(hl:PO X lo tl)(hu:PO X hi th)(hg:PO X ZHD ts):Ry (ZHu e hi ZHD p2) (lG (nX X.K) te tl th ts):=by
 intro pins s σ H Q I h;show LH (ZI0 s σ H I h (λv s1 ⟨x,H1,I1,r1,q1⟩=>?_));show ZB1 (hl pins s1 σ H1 _ I1 q1) (λvl s2 ⟨l,H2,I2,pl,q2⟩=>thn (hu pins s2 σ H2 _ I2 q2) λvu s3 ⟨u,H3,I3,pu,q3⟩=>thn (hg pins s3 σ H3 _ I3 q3) λvg s4 ⟨g',H4,I4,pg,q4⟩=>?_);have I5:ZEy H4 ({ s4 with heap:=s4.heap.push { cls:=.type "slice",data:=.fields #[vl,vu,vg] } }):=I4.kept  ZCT;let⟨a,xs,rfl,rfl,rfl,rfl,hx,q⟩:=q4;cases r1;let⟨its,r,ht,hz⟩:=I5.list hx;have hlen:=r.length;show Zu ht.isList.typeIs ?_ (by with_unfolding_all rfl);show wpAny_getItem_list_slice ht.isList (Heap.IsSliceOf.new ..) pl pu pg Aq ?_ Aw;rw[bm4 its];show Zn KC _ (I5.laid   ZCT As ?_) ZIG;show B0 ?_ _ 0 r.reverse Ow;rw[List.length_reverse];omega
end
variable {r:Pt3}
def b40 {A B C M X Y:Int}(i:XL A B C)(hC:C≠0)(hx:M*A=C*X)(hy:M*B=C*Y):r.z ∣ M:=by
 let⟨d,d0,e1,e2,e3⟩:=i.ex;have hd:d≠0:=by simp_all
 have k1:M*r.x=r.z*X:=by
  rw[e1,e3] at hx;have:d*(M*r.x)=d*(r.z*X):=by rw[<-Int.mul_assoc d r.z X,<-hx,Int.mul_left_comm]
  show Wn hd
 have k2:=by
  rw[e2,e3] at hy;have:d*(M*r.y)=d*(r.z*Y):=by rw[<-Int.mul_assoc d r.z Y,<-hy,Int.mul_left_comm]
  show Wn hd
 have c:LC ZEp r.y.natAbs=1:=i.cop;have n1:r.z.natAbs ∣ M.natAbs*r.x.natAbs:=by rw[<-Int.natAbs_mul,k1,Int.natAbs_mul];show Nat.dvd_mul_right _ _
 have n2:r.z.natAbs ∣ M.natAbs*r.y.natAbs:=by rw[<-Int.natAbs_mul,k2,Int.natAbs_mul];show Nat.dvd_mul_right _ _
 have n3:r.z.natAbs ∣ M.natAbs*ZEp:=by
  rw[<-Nat.gcd_mul_left];show Nat.dvd_gcd (Nat.dvd_mul_left _ _) n1
 have n4:r.z.natAbs ∣ M.natAbs*LC ZEp r.y.natAbs:=by
  rw[<-Nat.gcd_mul_left];show Nat.dvd_gcd n3 n2
 simp_all
structure Dr (k m:Nat)(p:Pt3):Prop where
 pos:0<p.z
 dv:p.z ∣ 6*2 ^ k
 x:p.x.natAbs<=m*p.z.natAbs
 y:p.y.natAbs<=m*p.z.natAbs
 cop:B7 (B7 p.z p.x) p.y=1
variable {k m:Nat}{p:Pt3}
def Dr.mono {k' m':Nat}(h:Dr k m p)(e:k<=k')(f:m<=m'):Dr k' m' p where
 pos:=h.pos
 dv:=by
  let⟨j,rfl⟩:=Nat.exists_eq_add_of_le e;rw[Int.pow_add,<-Int.mul_assoc];show FM h.dv KU
 x:=Bq h.x (FL f)
 y:=Bq h.y (FL f)
 cop:=h.cop
def Dr.lp (h:Dr k m p):Pc:=A3 h.pos h.cop
def Dr.sz (h:Dr k m p)(e:k<=70)(f:m<=1000):Sz 100 p:=by
 have d:=(h.mono e f).dv;have hz:=Int.le_of_dvd AC d;have hp:=h.pos;have hzn:p.z.natAbs<=6*2 ^ 70:=by
  grind
 have b:∀n:Int,n.natAbs<=m*p.z.natAbs->Bd 100 n:=λn hn=>by
  have:=Fp f hzn;show Dq (Bq hn this) AC
 show Qs (b _ h.x) (b _ h.y);unfold Bd;show Dq hzn AC
def bo2 {A B C:Int}(i:XL A B C)(ha:A.natAbs<=m*C.natAbs)(hb:B.natAbs<=m*C.natAbs):r.x.natAbs<=m*r.z.natAbs/\r.y.natAbs<=m*r.z.natAbs:=by
 let⟨d,d0,e1,e2,e3⟩:=i.ex;have hd:0<d.natAbs:=by grind
 rw[e1,e3,Int.natAbs_mul,Int.natAbs_mul,Nat.mul_left_comm] at ha;rw[e2,e3,Int.natAbs_mul,Int.natAbs_mul,Nat.mul_left_comm] at hb;show A3 (Ly ha hd) (Ly hb hd)
def bo6 {a b c d:Int}(h1:a.natAbs<=m*b.natAbs)(h2:c.natAbs<=m*d.natAbs):(a*d+c*b).natAbs<=m*(2*b*d).natAbs:=by
 have e1:(a*d).natAbs<=m*(b.natAbs*d.natAbs):=by
  rw[Int.natAbs_mul,<-Nat.mul_assoc];show FL h1
 have e2:(c*b).natAbs<=m*(b.natAbs*d.natAbs):=by
  rw[Int.natAbs_mul,Nat.mul_comm b.natAbs,<-Nat.mul_assoc];show FL h2
 have e3:(2*b*d).natAbs=2*(b.natAbs*d.natAbs):=by
  rw[Int.natAbs_mul,Int.natAbs_mul,Nat.mul_assoc];rfl
 rw[e3,Nat.mul_left_comm,Nat.two_mul];show Bq FD (Im e1 e2)
def Dr.mid {q:Pt3}(hp:Dr k m p)(hq:Dr k m q)(i:XL (p.x*q.z+q.x*p.z) (p.y*q.z+q.y*p.z) (2*p.z*q.z)):Dr (k+1) m r:=by
 let⟨m1,e1⟩:=hp.dv;let⟨m2,e2⟩:=hq.dv;have hz:2*p.z*q.z≠0:=by
  have h1:=hp.pos;have h2:=hq.pos;have:=Int.mul_pos (show 0<2*p.z by lia) h2;lia
 have n:=bo2 i (bo6 hp.x hq.x) (bo6 hp.y hq.y);show B0 i.pos ?_ n.1 n.2 i.cop;have e0:(6:Int)*2 ^ (k+1)=2*(6*2 ^ k):=by rw[Int.pow_succ];lia
 rw[e0];have sw:∀a b:Int,2*(6*2 ^ k)*(a*q.z+b*p.z)=2*p.z*q.z*(a*m1+b*m2):=λa b=>by
  have f1:2*(6*2 ^ k)*(a*q.z)=2*p.z*q.z*(a*m1):=by rw[e1];grind
  have f2:2*(6*2 ^ k)*(b*p.z)=2*p.z*q.z*(b*m2):=by rw[e2];grind
  rw[Int.mul_add,Int.mul_add,f1,f2]
 show b40 i hz (sw p.x q.x) (sw p.y q.y)
def Dr.fresh {a b c:Int}(k:Nat)(i:XL a b c)(ha:0<=a/\a<=9)(hb:0<=b/\b<=9)(hc:1<=c/\c<=3):Dr k 9 r:=by
 have n:=bo2 (m:=9) i Ab Ab;show B0 i.pos ?_ n.1 n.2 i.cop;let⟨d,d0,e1,e2,e3⟩:=i.ex;have h1:r.z ∣ c:=A3 d (by rw[e3,Int.mul_comm]);have h2:c ∣ 6:=by
  rcases (show c=1\/c=2\/c=3 by lia) with h|h|h <;> rw[h] <;> decide
 show FM h1 (FM h2 KU)
def Dr.step {k m:Nat}{p r:Pt3}(h:Dr k m p)(i:XL (p.x+p.z) p.y p.z):Dr k (m+1) r:=by
 have hp:=h.pos;have n:=bo2 (m:=m+1) i (by
  rw[Nat.succ_mul];show Nat.le_trans (Int.natAbs_add_le _ _) (Nat.add_le_add_right h.x _)) (by
  rw[Nat.succ_mul];show Nat.le_trans h.y (Nat.le_add_right _ _))
 show B0 i.pos ?_ n.1 n.2 i.cop;let⟨d,d0,e1,e2,e3⟩:=i.ex;show Int.dvd_trans (A3 d (by rw[e3,Int.mul_comm])) h.dv
def rgt (p a:Pt3):Nat:=Ak (p.x*a.z<=a.x*p.z) 1 0
def bl0 (p a:Pt3):rgt p a<=1:=by
 unfold rgt;split <;> simp_all
def bk8 (p:Pt3):rgt p p=1:=by
 unfold rgt;simp
def a63 {a:Pt3}(i:XL (p.x+p.z) p.y p.z):r.x*p.z=(p.x+p.z)*r.z:=by
 let⟨d,d0,e1,e2,e3⟩:=i.ex;rw[e1,e3];grind
def ao3 {a:Pt3}(hp:0<p.z)(ha:0<a.z)(i:XL (p.x+p.z) p.y p.z):rgt r a<=rgt p a:=by
 unfold rgt;by_cases h:r.x*a.z<=a.x*r.z
 .have hr:=i.pos;have e:=a63 (a:=a) i;have h1:r.x*a.z*p.z<=a.x*r.z*p.z:=Fy h Ab;have h2:r.x*a.z*p.z=r.z*(p.x*a.z)+r.z*(p.z*a.z):=by
   have:r.x*a.z*p.z=(r.x*p.z)*a.z:=by grind
   rw[this,e];grind
  have h3:a.x*r.z*p.z=r.z*(a.x*p.z):=by grind
  have h4:=Ci hr (Ci hp ha);have h5:r.z*(p.x*a.z)<=r.z*(a.x*p.z):=by lia
  simp_all
 .rw[if_neg h]
  simp_all
def bl1 (hp:0<p.z)(i:XL (p.x+p.z) p.y p.z):rgt r p=0:=by
 unfold rgt;have e:=a63 (a:=p) i;have hr:=i.pos;have h4:=Ci hp hr;rw[if_neg];rw[e,Int.add_mul];lia
section
variable {H1 H2:Hp}{a b c:Addr}
def bk9 {A B:Pt3}(hp:0<p.z)(hA:0<A.z)(hB:0<B.z)(i:XL (p.x+p.z) p.y p.z)(h:rgt p A+rgt p B<=m)(e:p=A\/p=B):1<=m/\rgt r A+rgt r B<=m - 1:=by
 have h1:=ao3 hp hA i;have h2:=ao3 hp hB i;have h3:=bk8 p;have h4:=bl1 hp i;rcases e with rfl|rfl
 .lia
 .lia
end
def Izt (K:PySem.W.Frag)(a b:Addr):It:=
  ⟨λi H=>∃xs ys x y,SqT K H a xs/\SqT K H b ys/\xs[i]?=some x/\ys[i]?=some y,
   λi H v H'=>∃p x y,H p=none/\v=.ref p/\H'=upd H p ZLg/\(∀xs,SqT K H a xs->xs[i]?=OZ)/\∀ys,SqT K H b ys->ys[i]?=some y,
   λi H=>∃xs ys,SqT K H a xs/\SqT K H b ys/\(xs.length<=i\/ys.length<=i)⟩
variable {w:World}
def au5 {P:Program}{n1}
  {z TI TO i1 i2 a b:Addr} (D:ZIE z TO i1 i2 a b):Turn P w K (ZDm n1) (Izt K a b) [z,TI,TO,i1,i2] z (HC (VR h z TO .none/\GU h TI ZFe ZFf/\(∃x y,GU h TO x y)/\KJ i1 a i/\KJ i2 b i)) where
 mem:=Aq
 obj:=λi h st e he=>by
  let⟨hz,hI,⟨x,y,hO⟩,t1,t2⟩:=st;simp only[List.mem_cons,List.not_mem_nil,or_false] at he;rcases he with rfl|rfl|rfl|rfl|rfl
  .simp_all
  .show U6 hI (Li (nomatch z))
  .show U6 hO (Li (nomatch z))
  .show (Hh P w a).obj i h t1
  .show (Hh P w b).obj i h t2
 keep:=λi h h' st k=>by
  let⟨hz,hI,⟨x,y,hO⟩,t1,t2⟩:=st;show B0 (ZAa z hz) (ZAa TI hI) (BH x y (ZAa TO hO)) ((JR P w i1 a).tk _ _ _ t1 (Cp (k i1 Aq o e))) ((JR P w i2 b).tk _ _ _ t2 (Cp (k i2 Aq o e)))
 item:=by
  intro X hP hw hK hc i pins s σ H E I hf st hg;subst hP hw hK;let⟨xs,ys,x,y,ha,hb,ex,ey⟩:=hg;let⟨hz,hI,⟨p,q,hO⟩,t1,t2⟩:=st;let⟨us,ru,c1,_⟩:=Et ha;let⟨vs,rv,c2,_⟩:=Et hb;let⟨u,hu,rxu⟩:=ZGh;let⟨v,hv,ryv⟩:=rv.get ey;show yi D (j7 i1 a) (j7 i2 b) hz hI hO t1 t2 c1 c2 (x:=u)  (by simpa using hu) (by simpa using hv) (Ki (Ts ?_));show Lh a1 ZFM;have zl:=BN hz;have fr:=S0;have ne:∀{e:Addr} {o:Obj},BU e=Nd->e≠s.heap.objs.size:=CG (SQ h);have up:∀e o,e≠z->h1.get? e=Nd->Lr e=Nd:=Fg (Mx n g);show Cu Nf ZLh ?_ rfl (IZ _ x y fr rfl rfl ZO (λys' h=>?_)) (B0 hz2 (KB D.TIz (a6 _ _ D.TIz D.TITO D.TIi1 D.TIi2 hI)) (U6 _ (KB D.TOz a2)) ((JR X.prog X.w i1 a).tk _ _ _ a3 (Cp (up _ o D.i1z e))) ((JR X.prog X.w i2 b).tk _ _ _ a4 (Cp (up _ o D.i2z e)))) ZKT
  .show I.turnedT  ZKX hf (KB (Ed zl) a5) rxu ryv
   simp_all
  .rw[<-I.tuple_inj ha h];show ex
  .rw[<-I.tuple_inj hb h];show ey
  .have:e≠s.heap.objs.size:=by
    simp only[List.mem_cons,List.not_mem_nil,or_false] at he;rcases he with rfl|rfl|rfl|rfl|rfl
    .show ne hz
    .show ne hI
    .show ne hO
    .let⟨o,h,_⟩:=(Hh X.prog X.w a).obj _ _ t1;show ne h
    .let⟨o,h,_⟩:=(Hh X.prog X.w b).obj _ _ t2;show ne h
   rw[cj this];show (hf e he).1
 done:=by
  intro X hP hw hK hc i pins s σ H E I hf st hg;subst hP hw hK;let⟨xs,ys,ha,hb,hl⟩:=hg;let⟨hz,hI,⟨p,q,hO⟩,t1,t2⟩:=st;let⟨us,ru,c1,_⟩:=Et ha;let⟨vs,rv,c2,_⟩:=Et hb;have l1:=ru.length;have l2:=rv.length;show aa1 S3 D (j7 i1 a) (j7 i2 b) hz hI hO t1 t2 c1 c2 ?_ λh1 a6=>OI (I.turnedL (ch:=[z,TI,TO,i1,i2]) ZKX hf)
  .simp_all
  .simp_all
 self:=DK (wpAny_pyIter_zip st.1 h)
variable {E:Value->Shared->Prop}{s:Shared}
section
variable {prog:Program}{A:Around}
def yA (h:Heap)(t:Addr):Heap:=h.push { cls:=.type "tuple_iterator",data:=.fields #[.ref t,.int 0 0] }
def yB (h:Heap)(t l:Addr):Heap:=(yA h t).push { cls:=.type "tuple_iterator",data:=.fields #[.ref l,.int 0 0] }
def yC (h:Heap)(t l:Addr):Heap:=(yB h t l).push { cls:=.type "tuple",data:=.seq #[.ref h.objs.size,.ref (yA h t).objs.size] }
def yD (h:Heap)(t l:Addr):Heap:=(yC h t l).push { cls:=.type "tuple",data:=.seq #[.none,.none] }
def yE (h:Heap)(t l:Addr):Heap:=(yD h t l).push { cls:=.type "zip",data:=.fields #[.none,.bool false,.bool false,.ref (yB h t l).objs.size,.ref (yC h t l).objs.size] }
def ck3 (t l:Addr)(xs ys:OX):Meets (Builtin.«zip.__new__» ⟨[.type "zip",.ref t,.ref l],[]⟩) (λy_ R s=>EX t xs/\EX l ys/\R (T6 (.ref (yD s.heap t l).objs.size)) { s with heap:=yE s.heap t l }):=
 .of_wp λprog w A R s h=>by
  obtain ⟨hp, g, d, tk, os⟩ := s
  let⟨c1,c2,h⟩:=h;have hsub:=sub_zip;have e1:Heap.IsTuple (Shared.heap (B0 hp g d tk os)) t xs:=c1;have e2:Heap.IsTuple (Shared.heap (B0 (hp.push { cls:=.type "tuple_iterator",data:=.fields #[.ref t,.int 0 0] }) g d tk os)) l ys:=Heap.IsTuple.push c2 _
  wp_walk using wpAny_pyIter_tuple e1,wpAny_pyIter_tuple e2
  show Ts h
def az9 {t:Addr}{xs ys:OX}{Q:Value->Shared->Prop}(c1:EX t xs)(c2:EX l ys)
  (q:∀h',IsZip h' (s.heap.objs.size+4) (s.heap.objs.size+2) (s.heap.objs.size+3) .none->IsPair h' (s.heap.objs.size+2) (.ref s.heap.objs.size) (.ref (s.heap.objs.size+1))->
   IsPair h' (s.heap.objs.size+3) .none .none->h'.IsTupleIter s.heap.objs.size t 0->h'.IsTupleIter (s.heap.objs.size+1) l 0->(∀c o,s.heap.get? c=some o->h'.get? c=some o)->Q (.ref (s.heap.objs.size+4)) { s with heap:=h' }) :
  wpAny P0 A (call WH [A5 t,On]) Q E s:=by
 show callType_new F.called_zip AC (F.typeCall_zip_2 _ _) (F.newCall_zip_2 _ _) (λobj=>F.args_object_init_3 obj _ _) F.entry_zip_new (ck3 t l xs ys) (Qs c1 c2);have n1:(yA s.heap t).objs.size=s.heap.objs.size+1:=Heap.size_push ..;have n2:(yB s.heap t l).objs.size=s.heap.objs.size+2:=by unfold yB;rw[Heap.size_push,n1]
 have n3:(yC s.heap t l).objs.size=s.heap.objs.size+3:=by unfold yC;rw[Heap.size_push,n2]
 have n4:(yD s.heap t l).objs.size=s.heap.objs.size+4:=by unfold yD;rw[Heap.size_push,n3]
 have p1:∀c o,(yA s.heap t).get? c=Nd->(ZDM t l).get? c=Nd:=K6 (Ao (Ao (Ao Ra)));have p2:∀c o,(yB s.heap t l).get? c=Nd->(ZDM t l).get? c=Nd:=K6 (Ao (Ao Ra));have p3:∀c o,(yC s.heap t l).get? c=Nd->(ZDM t l).get? c=Nd:=K6 (Ao Ra);have g1:=p1 _ _ Ow;have g2:=p2 _ _ Ow;have g3:=p3 _ _ Ow;have g4:(ZDM t l).get? (yC s.heap t l).objs.size=A8:=Ao Ow;have g5:(ZDM t l).get? (yD s.heap t l).objs.size=A8:=Ow;rw[n2,n3,n4] at g5;rw[n1,n2] at g3;rw[n3] at g4;rw[n1] at g2;rw[n4];show A3 (ZDg g5) (q _ g5 g3 g4 (Vh _ g1) (Vh _ g2) (K6 (p1 c o Ra)))
end
def lT (K:PySem.W.Frag)(t:TA):TI:=KI (t σ H (GB (∃a b xs ys,vs=[PK,V9]/\SqT K H1 a xs/\SqT K H1 b ys/\R (Izt K a b) H1)))
def bm6 {n1}{tp:Pos}{e1 e2:Expr}{ta:TA}{p:Pos}(hg:Zs)(hm:Yi = none)(hb:YY = ZJ2)(ha:PA X [e1,e2] ta)
  (hs:No (OY [e1,e2]=[(false,eval e1 X.env),(false,eval e2 X.env)])) (hs2:No (OY [e2]=[(false,eval e2 X.env)])) :
  PI X (ZH n1 tp) (ZDp p [e1,e2]) (lT X.K ta):=by
 intro pins s σ H R I h;show Call_ (qa I hg hm hb (Co (thn (WV pos s σ H I h) λus s1 ⟨vs,H1,I1,r1,q1⟩=>?_) (by rw[hs,hs2]) (by rw[hs2];rfl)));let⟨a,b,xs,ys,rfl,h1,h2,q⟩:=q1;cases r1 with
 | cons r rr=>
  cases rr with
  | cons r' rr=>
   cases rr;cases r;cases r';let⟨us1,_,c1,_⟩:=I1.tuple h1;let⟨us2,_,c2,_⟩:=I1.tuple h2;have la:a<s1.heap.objs.size:=by
    let⟨o,e,_⟩:=id c1;show WB
   have lb:b<s1.heap.objs.size:=by
    let⟨o,e,_⟩:=id c2;show WB
   show az9 c1 c2 (K9 ?_);show ZIF ?_;show ZDs (s1.heap.objs.size+4) [s1.heap.objs.size+4,s1.heap.objs.size+2,s1.heap.objs.size+3,s1.heap.objs.size,s1.heap.objs.size+1] _ H1 rfl ZD5 (au5 (af7 la lb)) (B0 z1 z2 (U6 _ z3) z4 z5) ZKT q;have ge:s1.heap.objs.size<=e:=by
    simp only[List.mem_cons,List.not_mem_nil,or_false] at he;rcases he with rfl|rfl|rfl|rfl|rfl <;> simp_all
   show LJ ge (Dk ge)
section
variable {pins:Au (Addr×Obj)}{σ:St}{a:Addr}{y v:V}{u r:Value}{o:BO V}{A:Around}
def Inv.big (I:QO):sysModules<s.heap.objs.size:=by
 have h:mainGlobals<s.heap.objs.size:=(ZBP).lt;show Nat.lt_trans AC h
def al7 {h':Heap}{t':Nat}{ob:HO}(I:QO)(mu:Mut Vj)(hs:Ul a h')(he:∃q,Bv a=Af q)(new:ZA4 X.w (PR a ob) h' a ob) :
  Inv X pins σ (PR a ob) { s with heap:=h',toks:=t' }:=
 I.write (x:=a) (e:=a) mu OP (λb q hb z=>(hs.2 b hb).trans z) he new
end
structure M2 (X:Cx)(o:Expr)(m:Str)(apos:Pos)(e f:Expr)(cpos:Pos):Prop where
 base:ZFz o m Zk=Zk
 few:((backTo cpos (starEach [e,f] X.env)).all (λx=>!x.1) && (backToKw cpos (keywordEach [] X.env)).all (λx=>x.1.isSome)
  && decide (([e,f]:List Expr).length+([]:List Keyword).length+(if ([]:List Keyword).isEmpty then 0 else 1)<30))=true
 line:(apos.endLine == cpos.line)=true
 trees:FN cpos (OY [e,f])=[(false,eval e X.env),(false,eval f X.env)]
variable {ks:Au (Str×Addr×Nat)}
section
variable {scope:Scope}
inductive Caught (X:Cx) (scope:Scope):List (Str×Addr×Nat)->Prop
 | nil:Caught X scope []
 | cons {a:Str} {c:Addr} {j:Nat} {ks:Au (Str×Addr×Nat)} (h:Ba a=Qz/\X.N[j]?=RS/\Ef a=PP/\(Th).names.lookup a=PP) (t:ZAf X ks):Caught X scope ((a,c,j)::ks)
def Caught.mem (h:ZAf X ks):∀k∈ks,Ba k.1=Af k.2.1/\X.N[k.2.2]?=Af k.1/\Ef k.1=PP/\(Th).names.lookup k.1=PP:=by
 induction h with
 | nil=>intro k hk;cases hk
 | cons h t ih=>
  intro k hk;rcases List.mem_cons.mp hk with rfl|hk
  .show h
  .show ih k hk
def aq7 {y:Str}{c:Addr}(h:(So ((k.1,k.2.1))).lookup y=Qz):∃k∈ks,k.1=y/\k.2.1=c:=by
 induction ks with
 | nil=>cases h
 | cons k ks ih=>
  rw[List.map_cons,List.lookup_cons] at h;by_cases e:(y == k.1)=true
  .rw[e] at h;cases h;show By k Aq ((beq_iff_eq.mp e).symm) rfl
  .rw[Bool.eq_false_iff.mpr e] at h;let⟨k',hk,h1,h2⟩:=ih h;show By k' (A7 hk) h1 h2
def aq8 {y:Str}(h:∃k∈ks,k.1=y):∃c,(So ((k.1,k.2.1))).lookup y=Qz:=by
 induction ks with
 | nil=>let⟨k,hk,_⟩:=h;cases hk
 | cons k ks ih=>
  rw[List.map_cons,List.lookup_cons];by_cases e:(y == k.1)=true
  .show A3 k.2.1 (by rw[e])
  .rw[Bool.eq_false_iff.mpr e];show ih ?_;let⟨k',hk,h1⟩:=h;rcases List.mem_cons.mp hk with rfl|hk
   .show CN (beq_iff_eq.mpr h1.symm) e
   .show BH k' hk h1
end
open PySem.W
structure KO (α:Type) where
 lt:α->α->Bool
 asym:∀{a b:α},lt a b=true->lt b a=false
 trans:∀{a b c:α},lt b a=false->lt c b=false->lt c a=false
 anti:∀{a b:α},lt a b=false->lt b a=false->a=b
namespace KO
variable {α:Type}(O:KO α)
noncomputable def le (a b:α):Prop:=O.lt b a=false
theorem le_refl (a:α):O.le a a:=by
 cases h:O.lt a a with
 | false=>show h
 | true=>show O.asym h
variable {O}
end KO
section
variable {α:Type}{O:KO α}{n:Nat}{key:Nat->α}{p:ZKO}
def PB (n:Nat)(p:ZKO):Prop:=p.toList.Perm Za
def PB.size (h:PB n p):p.size=n:=by
 have:=h.length_eq;simpa using this
abbrev KQ (key:Nat->α)(p:ZKO)(i:Nat):α:=key (p.getD i 0)
variable (O key) in
def Up (p:ZKO)(k:Nat):Prop:=∀i j,i<=j->j<k->O.le (KQ key p i) (KQ key p j)
end
def ar0:∀{a b:List Int},GJ a b=true->GJ b a=false
 | [],[],_=>rfl
 | [],_::_,_=>rfl
 | _::_,[],h=>by cases h
 | x::a,y::b,h=>by
  rw[HT.lexLt_cons] at h ⊢;by_cases e:x=y
  .rw[if_pos e] at h;rw[if_pos e.symm];show ar0 h
  .rw[if_neg e] at h;rw[if_neg (BX e)];have:=Dx h;show Eg (by omega)
def ar1:∀{a b:List Int},GJ a b=false->GJ b a=false->a=b
 | [],[],_,_=>rfl
 | [], _ :: _, h, _ => by cases h
 | _ :: _, [], _, h => by cases h
 | x::a,y::b,h,h'=>by
  rw[HT.lexLt_cons] at h h';by_cases e:x=y
  .rw[if_pos e] at h;rw[if_pos e.symm] at h';rw[e,ar1 h h']
  .rw[if_neg e] at h;rw[if_neg (BX e)] at h';have h1:=GR h;have h2:=GR h';omega
def ah6:∀{a b c:List Int},GJ b a=false->GJ c b=false->GJ c a=false
 | [],_,[],_,_=>rfl
 | [],[],_::_,_,_=>rfl
 | [], _ :: _, _ :: _, _, _ => rfl
 | _ :: _, [], _, h, _ => by cases h
 | _::_,_::_,[],_,h=>by cases h
 | x :: a, y :: b, z :: c, h, h' => by
  rw[HT.lexLt_cons] at h h' ⊢;by_cases e1:y=x
  .rw[if_pos e1] at h;subst e1;by_cases e2:z=y
   .rw[if_pos e2] at h' ⊢;show ah6 h h'
   .rw[if_neg e2] at h' ⊢;show h'
  .rw[if_neg e1] at h;have h1:=GR h;by_cases e2:z=y
   .subst e2;rw[if_neg e1];show h
   .rw[if_neg e2] at h';have h2:=GR h';rw[if_neg (by omega)];show Eg (by omega)
def lexO:KO NX:=By HT.lexLt ar0 ah6 ar1
end L2
namespace L2
open PySem PySem.Spec PyProof.Rows
def jI:Bool->Keyed->O4->Nat->Nat->Nat->Xh Wk:=sortPriv% PySem.Builtin.gallop
def iH:O4->O4->Xh O4:=sortPriv% PySem.Builtin.mergeLo
def iI:O4->O4->Xh O4:=sortPriv% PySem.Builtin.mergeHi
structure SCx where
 prog:Program
 w:World
 A:Around
 E:Value->Shared->Prop
 s:Shared
 κ:SortKind
 G:Keyed->Prop
 cmp:∀{x y:Keyed} {Q:Bool->Shared->Prop},G x->G y->(∀b,Q b s)->Ia P0 A (keyLt' κ x.1 y.1) Q ZCM s
variable {M:Model}{E:Value->Shared->Prop}{s:Shared}
def bv9 {σ:Type}{A:Around}{st st':σ}{Q:PUnit->σ->Prop}(h:Q ⟨⟩ st'):wpS M A E s (set st':WY σ PUnit) Q st:=by
 unfold wpS;rw[StateT.run_set];show wpAny_pure ⟨rfl,h⟩
variable {c:Prop}
def a06 {σ α:Type}{A:Around}{c:Nat->Prop}{hc:∀G,MY (c G)}{F m:Nat->WY σ α}{Q:α->σ->Prop}{st:σ}(f:Nat->Nat)(h:∀G,ZGj M A E s (F G) Q)(e:∀G,m G=F (f G))(G:Nat):ZGj M A E s (Ak (c G) (m G) (F G)) Q:=by
 split
 .rw[e];show h _
 .show h G
theorem ifT {σ α:Type}{A:Around}{hc:MY c}{a b:WY σ α}{Q:α->σ->Prop}{st:σ}(h:c)(k:ZGj M A E s a Q):ZGj M A E s (Ak c a b) Q:=by
 rw[if_pos h];show k
theorem ifF {σ α:Type}{A:Around}{hc:MY c}{a b:WY σ α}{Q:α->σ->Prop}{st:σ}(h:¬c)(k:ZGj M A E s b Q):ZGj M A E s (Ak c a b) Q:=by
 rw[if_neg h];show k
variable {a b:O4}
def bh0 {σ β:Type}{A:Around}{a b:Nat}{f:Nat->β->WY σ (MX β)}{c:β}{Q:β->σ->Prop}{st:σ}(h:let F:=f;wpS M A E s (forIn [a:b] c F) Q st):ZGj M A E s (forIn [a:b] c f) Q:=h
variable {o:O4}{x:Keyed}
theorem mvX {o z x y all:V8}(m:(o++((z++x)++y)).Perm all):((o++z)++(x++y)).Perm all:=by simpa only[List.append_assoc] using m
theorem mvY {o z x y all:V8}(m:(o++(x++(z++y))).Perm all):((o++z)++(x++y)).Perm all:=by
 rw[List.append_assoc];show ((List.perm_append_comm_assoc z x y).append_left o).trans m
def zx (xs:O4)(i:Nat):(xs.extract i).toList=Gb i:=by
 rw[Array.toList_extract,List.extract_eq_take_drop,List.take_of_length_le Aq]
def as4 (xs:O4)(i k:Nat):(xs.extract i (i+k)).toList=(Gb i).take k:=by
 rw[Array.toList_extract,List.extract_eq_take_drop,Nat.add_sub_cancel_left]
def al5 (xs:O4)(i:Nat):(xs.extract 0 i).toList=FY i:=by
 rw[Array.toList_extract,List.extract_eq_take_drop,List.drop_zero,Nat.sub_zero]
variable {xs:O4}{k n:Nat}
def a97 (h:k<=n):(FY n).reverse=(xs.extract k n).toList.reverse++(FY k).reverse:=by
 rw[Array.toList_extract,List.extract_eq_take_drop,<-List.reverse_append];congr 1;rw[<-List.drop_take,<-show (FY n).take k=xs.toList.take k by rw[List.take_take,Nat.min_eq_left h],List.take_append_drop]
variable {i:Nat}
def rm (h:i<xs.size):∃x,xs[i]?=OZ/\Gb i=x::Gb (i+1)/\x∈xs.toList:=
 ⟨xs[i],Array.getElem?_eq_getElem h,by rw[List.drop_eq_getElem_cons (by simpa using h)];rfl,by simp⟩
def rj (h0:0<n)(h:n<=xs.size):∃x,xs[n - 1]?=OZ/\(FY n).reverse=x::(FY (n - 1)).reverse/\x∈xs.toList:=by
 have h1:n - 1<xs.toList.length:=by simp;grind
 show⟨xs[n - 1]'(by lia),Array.getElem?_eq_getElem (by lia),?_,by simp⟩
 conv=>lhs;rw[show n=n - 1+1 by lia,List.take_succ_eq_append_getElem h1,List.reverse_append]
 rfl
def ae3 {G:Keyed->Prop}(g:∀x∈xs.toList,G x)(h:i<xs.size):∃x,xs[i]?=OZ/\G x:=BH (xs[i]) (Dn h) (g _ Aq)
def ao4 (sa:Nat):∀(r P M S:List Keyed) (d:Nat) (xs:Array Keyed),xs.toList=P++(M++S)->P.length=sa+d->M.length=r.length->((r.zipIdx d).foldl (λa (p,j)=>a.setIfInBounds (sa+j) p) xs).toList=P++(r++S)
 | [],P,M,S,d,xs,e,hp,hm=>by
  obtain rfl:M=[]:=List.eq_nil_of_length_eq_zero hm;show e
 | p::r,P,[],S,d,xs,e,hp,hm=>by simp at hm
 | p::r,P,m::M,S,d,xs,e,hp,hm=>by
  rw[List.zipIdx_cons,List.foldl_cons];have e2:(xs.setIfInBounds (sa+d) p).toList=(P++[p])++(M++S):=by
   rw[Array.toList_setIfInBounds,e,<-hp,List.set_append_right _ _ As,Nat.sub_self];simp
  rw[ao4 sa r (P++[p]) M S (d+1) _ e2 (by simp;lia) (by simpa using hm)];simp
variable {j:Nat}
theorem cut2 (L:V8)(h1:i<=j)(h2:j<=k):L=L.take i++(((MW i).take (j - i)++(MW j).take (k - j))++MW k):=by
 have e:∀{i j},i<=j->(MW i).take (j - i)++MW j=MW i:=λ{i j} h=>by
  conv=>lhs;rw[show L.drop j=(MW i).drop (j - i) by rw[List.drop_drop];congr 1;simp_all]
  show List.take_append_drop ..
 rw[List.append_assoc,e h2,e h1,List.take_append_drop]
def Sg (st st':SortSt):Prop:=∃g,st'=SortSt.mk' ZCo Tr U8 g ZCn
variable {st:SortSt}{Q:O4->SortSt->Prop}
namespace SCx
variable (C:SCx)
abbrev run {α:Type}(m:Xh α)(Q:α->SortSt->Prop)(st:SortSt):Prop:=ZGj (B2 C.prog C.w) C.A C.E C.s m Q
variable {C}
def ac7 {y:Keyed}{Q:BO Bool->SortSt->Prop}(hk:ZCo=C.κ)(gx:Vw)(gy:C.G y)(h:∀b,Q UK st):ZHz (lt' x y):=by
 rw[lt'_eq];have c:=C.cmp (Q:=Hr (s'=C.s)) gx gy Nn;rw[<-hk] at c;show ZW (BK (Ld (Ek (DX c (λb s' z=>?_) (λ_ _ (z:False)=>z.elim)))));subst z;show OI (DT (h b))
def cx {Q:Keyed->SortSt->Prop}(e:xs[i]?=OZ)(h:Q x st):ZHz (elem' xs i):=by
 rw[elem'_eq,e];show DT h
def k0 {left:Bool}{key:Keyed}{base hint:Nat}{Q:Wk->SortSt->Prop}(hk:ZCo=C.κ)(gk:C.G key)(hL:∀i,i<n->∃x,xs[base+i]?=OZ/\Vw)(hh:hint<n)(h:∀k,k<=n->Q YO st) :
  C.run (jI left key xs base n hint) Q st:=by
 have ask:∀(i:Nat) (Q':Option Bool->SortSt->Prop),i<n->(∀b,Q' UK st)->C.run (do let x <-elem' xs (base+i);if left then lt' x key else return (<-lt' key x).map (!·)) Q' st:=λi Q' hi q=>by
  let⟨x,e,g⟩:=hL i hi;show ZEu e;cases left with
  | true=>show ac7 hk g gk q
  | false=>show wpS_bind (ac7 hk gk g (Fj (DT (q _))))
 have half:∀(lo hi:Nat) (body:Nat->BO Wk×Nat×Nat->Xh (MX (BO Wk×Nat×Nat))) (R:BO Wk×Nat×Nat->SortSt->Prop),lo<=hi->hi<=n->(∀k k',k'<=n->R (none,k,k') st)->
   (∀x lo hi (Q':ForInStep (Option (Option Nat)×Nat×Nat)->SortSt->Prop),hi<=n->Q' (.done (none,lo,hi)) st->(lo<hi->∀b:Bool,Q' (.yield (Ak b ((none,lo+(hi - lo) / 2+1,hi)) ((none,lo,lo+(hi - lo) / 2)))) st)->ZDf (body x (none,lo,hi)) Q')->
   C.run (forIn [0:n] ((none,lo,hi):Option Wk×Nat×Nat) body) R st:=λlo hi body R hlh hin hR hb=>by
  show wpS_forRange (I:=Ik (st'=st/\∃lo hi,c=(none,lo,hi)/\lo<=hi/\hi<=n)) ?_ ?_ (ZK lo hi hlh hin)
  .rintro i _ _ _ _ ⟨rfl,lo,hi,rfl,a1,a2⟩;show hb i lo hi _ a2 (hR _ _ Ab) λhlt b=>?_;cases b
   .show ZK _ _ Aq Ab
   .show ZK _ _ Ab a2
  .rintro _ _ ⟨rfl,lo,hi,rfl,a1,a2⟩;show hR _ _ Ab
 show BK (ask hint _ hh W7);dsimp only;cases b
 focus
  rw[if_neg Bool.false_ne_true];show wpS_bind (wpS_mono (wpS_forRange (I:=λy_ c st'=>st'=st/\∃l o,c=(none,l,o)/\l<o/\l<=hint)
   (Q:=λc st'=>st'=st/\∃l o,c=(none,l,o)/\l<o/\l<=hint) ?_ (λy_ y_ z=>z) ⟨rfl,0,1,rfl,by lia,by simp⟩) ?_)
  .rintro i _ _ _ hi ⟨rfl,l,o,rfl,a1,a3⟩;dsimp only;by_cases hge:o≥hint+1
   .rw[if_pos hge];show Br (ZK l o a1 a3)
   .rw[if_neg hge];show BK (ask (hint - o) _ Ab W7);cases b
    .show Br (ZK o (2*o+1) Ab Ab)
    .show Br (ZK l o a1 a3)
 rotate_left
 focus
  rw[if_pos rfl];show wpS_bind (wpS_mono (wpS_forRange (I:=λy_ c st'=>st'=st/\∃l o,c=(none,l,o)/\l<o/\hint+l<n)
   (Q:=λc st'=>st'=st/\∃l o,c=(none,l,o)/\l<o/\hint+l<n) ?_ (λy_ y_ z=>z) ⟨rfl,0,1,rfl,by lia,by omega⟩) ?_)
  .rintro i _ _ _ hi ⟨rfl,l,o,rfl,a1,a3⟩;dsimp only;by_cases hge:o≥n - hint
   .rw[if_pos hge];show Br (ZK l o a1 a3)
   .rw[if_neg hge];show BK (ask (hint+o) _ Ab W7);cases b
    .show Br (ZK l o a1 a3)
    .show Br (ZK o (2*o+1) Ab Ab)
 all_goals
  rintro _ _ ⟨rfl,l,o,rfl,a1,a3⟩;dsimp only;show BK (half _ _ _ _ Ab Ab (λy_ k b1=>DT (h k b1)) (λx lo hi Q' hin q1 q2=>?_));dsimp only;by_cases hge:lo≥hi
  .rw[if_pos hge];show DT q1
  .rw[if_neg hge];show BK (ask (lo+(hi - lo) / 2) _ (by grind) W7);have q:=q2 Aw b;cases b <;> show wpS_pure q
abbrev dG (a b r:O4):Prop:=r.toList.Perm (a.toList++b.toList)
abbrev ML (a b o:O4)(i j:Nat):Prop:=(o.toList++(a.toList.drop i++b.toList.drop j)).Perm (a.toList++b.toList)
def wq (m:ML a b o i j):dG a b (o++a.extract i++b.extract j):=by
 unfold dG;rw[Array.toList_append,Array.toList_append,zx,zx,List.append_assoc];show m
def zn (m:ML a b o i j):dG a b (o++b.extract j++a.extract i):=by
 unfold dG;rw[Array.toList_append,Array.toList_append,zx,zx,List.append_assoc];show (HP).trans m
def aq9 (m:ML a b o i j)(e:a[i]?=OZ):ML a b ZB5 (i+1) j:=by
 let⟨x',h1,h2,_⟩:=rm (xs:=a) (i:=i) (Je e).1;cases h1.symm.trans e;unfold ML at m ⊢;rw[h2] at m;rw[Array.toList_push];show mvX (z:=[x]) m
def ac9 (m:ML a b o i j)(e:b[j]?=OZ):ML a b ZB5 i (j+1):=by
 let⟨x',h1,h2,_⟩:=rm (xs:=b) (i:=j) (Je e).1;cases h1.symm.trans e;unfold ML at m ⊢;rw[h2] at m;rw[Array.toList_push];show mvY (z:=[x]) m
def bp3 (k:Nat)(m:ML a b o i j):ML a b (o++JQ i (i+k)) (i+k) j:=by
 unfold ML;rw[Array.toList_append,as4,<-List.drop_drop];show mvX (by rw[List.take_append_drop];show m)
def bp2 (k:Nat)(m:ML a b o i j):ML a b (o++JP j (j+k)) i (j+k):=by
 unfold ML;rw[Array.toList_append,as4,<-List.drop_drop];show mvY (by rw[List.take_append_drop];show m)
def aq2 (hk:ZCo=C.κ)(ga:∀x∈a.toList,Vw)(gb:∀x∈b.toList,Vw)(ha:0<a.size)(hb:0<b.size)(h:∀r st',dG a b r->Sg st st'->Q r st'):ZHz (iH a b):=by
 let P:BO O4->O4->Nat->Nat->Nat->Prop:=λc o i j n=>(∃r,c=V6/\dG a b r)\/(c=none/\ML a b o i j/\i+1<a.size/\j<b.size/\n<=i+j)
 let⟨y0,e0,d0,g0⟩:=rm hb;have m1:ML a b #[y0] 0 1:=ac9 (o:=#[]) (by simp[ML]) e0;have sg0:Sg st st:=Pe (gallopOf st);by_cases hb1:1=b.size
 .show BK (Ld (K4 (OI (Qf e0 (ifT (by simpa using hb1) (DT (ZGk (wq m1))))))))
 by_cases ha1:0+1=a.size
 .show BK (Ld (K4 (OI (Qf e0 (ifF (by simpa using hb1) (ifT (by simpa using ha1) (DT (ZGk (zn m1)))))))))
 refine wpS_bind (wpS_lift (wpAny_rule ⟨rfl, ?_⟩))
 show ZEu e0;show Ru (by simpa using hb1);show Ru (by simpa using ha1);show ZDB;show wpS_bind ZAg;intro F;show (wpS_mono (wpS_forRange (I:=λn c st'=>Sg st st'/\P c.1 c.2.1 c.2.2.1 c.2.2.2.1 n/\c.1=none)
  (Q:=λc st'=>Sg st st'/\∃r,c.1=some r/\dG a b r) ?_ ?_ ⟨sg0,.inr ⟨rfl,m1,by dsimp only;lia,by dsimp only;lia,Nat.zero_le _⟩,rfl⟩) ?_)
 .rintro n ⟨c,o,i,j,g⟩ st1 _ hn ⟨sg,hP,rfl⟩;show wpS_bind ZAg;intro F;show (wpS_mono (wpS_forRange (I:=λn' c st'=>Sg st st'/\P c.1 c.2.1 c.2.2.1 c.2.2.2.1 (n+n')/\c.1=none)
   (Q:=λc st'=>Sg st st'/\P c.1 c.2.1 c.2.2.1 c.2.2.2.1 (n+1)) ?_ ?_ ⟨sg,hP,rfl⟩) ?_)
  .rintro n' ⟨c,o,i,j,p,q⟩ st1 _ hn' ⟨sg,hP,rfl⟩;rcases hP with⟨r,z,_⟩|⟨_,m,hi,hj,hc⟩
   .cases z
   dsimp only at m hi hj hc;let⟨y,ey,dy,my⟩:=rm hj;let⟨x,ex,dx,mx⟩:=rm (xs:=a) (i:=i) Ab;let⟨_,rfl⟩:=ZFB;dsimp only[F];show Qf ey (ZIj ex (ac7 hk (gb y my) (ga x mx) W7));cases b with
   | true=>
    have m2:=ac9 m ey;show ZLc;by_cases hz:j+1=b.size
    .show Te (by simpa using hz);show Vq sg (wq m2)
    show Ru (by simpa using hz);split
    .show SR sg (Eh (B0 rfl m2 hi (by (try dsimp only);lia) (by dsimp only;lia)))
    .show Br (Oo sg (Eh (B0 rfl m2 hi (by (try dsimp only);lia) (by dsimp only;lia))))
   | false=>
    have m2:=aq9 m ex;show ZLb;by_cases hz:i+1+1=a.size
    .show Te (by simpa using hz);show Vq sg (zn m2)
    show Ru (by simpa using hz);split
    .show SR sg (Eh (B0 rfl m2 (by (try dsimp only);lia) hj (by dsimp only;lia)))
    .show Br (Oo sg (Eh (B0 rfl m2 (by (try dsimp only);lia) hj (by dsimp only;lia))))
  .rintro⟨c,o,i,j,p,q⟩ st1 ⟨sg,hP,rfl⟩;rcases hP with⟨r,z,_⟩|⟨_,m,hi,hj,hc⟩
   .cases z
   dsimp only at hi hj hc;lia
  .rintro⟨c,o,i,j,p,q⟩ st1 ⟨sg,hP⟩;rcases id hP with⟨r,rfl,hr⟩|⟨rfl,m,hi,hj,hc⟩
   .show Br (Pq sg r hr)
   refine wpS_bind (wpS_lift (wpAny_rule ⟨rfl, ?_⟩))
   show wpS_bind ZAg;intro F;show (wpS_mono (wpS_forRange (I:=λn' c st'=>Sg st st'/\P c.1 c.2.1 c.2.2.1 c.2.2.2.1 (n+1+n')/\c.1=none)
    (Q:=λc st'=>Sg st st'/\P c.1 c.2.1 c.2.2.1 c.2.2.2.1 (n+1)) ?_ ?_ ⟨sg,hP,rfl⟩) ?_)
   .rintro n' ⟨c,o,i,j,g',p,q⟩ st1 _ hn' ⟨sg,hP,rfl⟩;rcases hP with⟨r,z,_⟩|⟨-,m,hi,hj,hc⟩
    .cases z
    dsimp only at m hi hj hc;let⟨y,ey,dy,my⟩:=rm hj;let⟨g2,rfl⟩:=ZFB;dsimp only[F];revert g';show a06 (· - 1) (λg'=>?_) ?e
    rotate_left;intro _;rfl
    focus (
     show ZEb (ZIj ey (k0 hk (gb y my) (Ij (ae3 ga (by grind))) (by grind) λk hk'=>?_));dsimp only;by_cases hk0:k > 0
     focus
      show Te hk0;have m3:=bp3 k m;by_cases z1:i+k+1=a.size
      .show Te (by simpa using z1);show ZHm (zn m3)
      show Ru (by simpa using z1);by_cases z2:i+k=a.size
      .show Te (by simpa using z2);show ZHm (wq m3)
      show Ru (by simpa using z2);have hi3:i+k+1<a.size:=by grind
      have hc3:n+1+n'<=i+k+j:=by lia
      generalize o++a.extract i (i+k)=o' at m3 ⊢;generalize i+k=i' at m3 hi3 hc3 ⊢
     rotate_left
     focus
      show Ru hk0;have m3:=m;have hi3:=hi;have hc3:=hc;generalize o=o' at m3 ⊢;generalize i=i' at m3 hi3 hc3 ⊢
     all_goals
      let⟨x,ex,dx,mx⟩:=rm (xs:=a) (i:=i') Ab;have m4:=ac9 m3 ey;show ZLc;by_cases z3:j+1=b.size
      .show Te (by simpa using z3);show ZHm (wq m4)
      show Ru (by simpa using z3);show ZIj ex (k0 hk (ga x mx) (Ij (ae3 gb (by grind))) (by grind) ZJH);dsimp only;by_cases hz1:k1 > 0
      focus
       show Te hz1;have m5:=bp2 k1 m4;by_cases z4:j+1+k1=b.size
       .show Te (by simpa using z4);show ZHm (wq m5)
       show Ru (by simpa using z4);have hj5:j+1+k1<b.size:=by grind
       have hc5:n+1+n'+1<=i'+(j+1+k1):=by lia
       generalize o'.push y++b.extract (j+1) (j+1+k1)=o2 at m5 ⊢;generalize j+1+k1=j' at m5 hj5 hc5 ⊢
      rotate_left
      focus
       show Ru hz1;have m5:=m4;have hj5:j+1<b.size:=by lia
       have hc5:n+1+n'+1<=i'+(j+1):=by lia
       generalize o'.push y=o2 at m5 ⊢;generalize j+1=j' at m5 hj5 hc5 ⊢
      all_goals
       have m6:=aq9 m5 ex;show ZLb;by_cases z5:i'+1+1=a.size
       .show Te (by simpa using z5);show ZHm (zn m6)
       show Ru (by simpa using z5);split
       .show SR R7 (Eh (B0 rfl m6 (by (try dsimp only);lia) hj5 (by dsimp only;lia)))
       .show wpS_pure ⟨⟨_,rfl⟩,.inr ⟨rfl,m6,by (try dsimp only);lia,hj5,by dsimp only;lia⟩,rfl⟩)
   .rintro⟨c,o,i,j,g',p,q⟩ st1 ⟨sg,hP,rfl⟩;rcases hP with⟨r,z,_⟩|⟨_,m,hi,hj,hc⟩
    .cases z
    dsimp only at hi hj hc;lia
   .rintro⟨c,o,i,j,g',p,q⟩ st1 ⟨sg,hP⟩;rcases id hP with⟨r,rfl,hr⟩|⟨rfl,m,hi,hj,hc⟩
    .show Br (Pq sg r hr)
    let⟨g2,rfl⟩:=ZFB;show ZEb (Br (Oo R7 hP))
 .rintro⟨c,o,i,j,g⟩ st1 ⟨sg,hP,rfl⟩;rcases hP with⟨r,z,_⟩|⟨_,m,hi,hj,hc⟩
  .cases z
  dsimp only at hi hj hc;lia
 .rintro⟨c,o,i,j,g⟩ st1 ⟨sg,r,rfl,hr⟩;show DT (h r st1 hr sg)
end SCx
namespace SCx
variable {C:SCx}
abbrev MH (a b o:O4)(i j:Nat):Prop:=(o.toList++((Lc i).reverse++(Lb j).reverse)).Perm (a.toList++b.toList)
theorem ifJ {σ α β γ:Type}{A:Around}{hc:MY c}{x:β}{y:γ}{F:β->γ->WY σ α}{m:WY σ α}{Q:α->σ->Prop}{st:σ}{R:β->γ->Prop}(j:R x y)(k:∀x y,R x y->ZGj M A E s (F x y) Q)(h:(∀x y,R x y->ZGj M A E s (F x y) Q)->ZGj M A E s m Q):ZGj M A E s (Ak c m (F x y)) Q:=by
 by_cases z:c
 .show ifT z (h k)
 .show ifF z (k _ _ j)
def wu (m:MH a b o i j):dG a b (JQ 0 i++JP 0 j++o.reverse):=by
 have t:(JQ 0 i++JP 0 j++o.reverse).toList=(o.toList++((Lb j).reverse++(Lc i).reverse)).reverse:=by
  rw[Array.toList_append,Array.toList_append,al5,al5,Array.toList_reverse,List.reverse_append,List.reverse_append,List.reverse_reverse,List.reverse_reverse]
 unfold dG;rw[t];show (FX).trans ((HP).trans m)
def wt (m:MH a b o i j):dG a b (JP 0 j++JQ 0 i++o.reverse):=by
 have t:(JP 0 j++JQ 0 i++o.reverse).toList=(o.toList++((Lc i).reverse++(Lb j).reverse)).reverse:=by
  rw[Array.toList_append,Array.toList_append,al5,al5,Array.toList_reverse,List.reverse_append,List.reverse_append,List.reverse_reverse,List.reverse_reverse]
 unfold dG;rw[t];show (FX).trans m
def ad5 (m:MH a b o i j)(h0:0<i)(hi:i<=a.size)(e:a[i - 1]?=OZ):MH a b ZB5 (i - 1) j:=by
 let⟨x',h1,h2,_⟩:=rj h0 hi;cases h1.symm.trans e;unfold MH at m ⊢;rw[h2] at m;rw[Array.toList_push];show mvX (z:=[x]) m
def ar8 (m:MH a b o i j)(h0:0<j)(hj:j<=b.size)(e:b[j - 1]?=OZ):MH a b ZB5 i (j - 1):=by
 let⟨x',h1,h2,_⟩:=rj h0 hj;cases h1.symm.trans e;unfold MH at m ⊢;rw[h2] at m;rw[Array.toList_push];show mvY (z:=[x]) m
def br4 (m:MH a b o i j)(hk:k<=i):MH a b (o++(JQ k i).reverse) k j:=by
 unfold MH at m ⊢;rw[Array.toList_append,Array.toList_reverse];rw[a97 hk] at m;show mvX m
def br3 (m:MH a b o i j)(hk:k<=j):MH a b (o++(JP k j).reverse) i k:=by
 unfold MH at m ⊢;rw[Array.toList_append,Array.toList_reverse];rw[a97 hk] at m;show mvY m
def aq3 (hk:ZCo=C.κ)(ga:∀x∈a.toList,Vw)(gb:∀x∈b.toList,Vw)(ha:0<a.size)(hb:0<b.size)(h:∀r st',dG a b r->Sg st st'->Q r st'):ZHz (iI a b):=by
 let P:BO O4->O4->Nat->Nat->Nat->Prop:=λc o i j n=>(∃r,c=V6/\dG a b r)\/(c=none/\MH a b o i j/\0<i/\i<=a.size/\1<j/\j<=b.size/\n+i+j<=a.size+b.size)
 let⟨x0,e0,d0,g0⟩:=rj (xs:=a) ha As;have m0:MH a b #[] a.size b.size:=by
  unfold MH;rw[List.take_of_length_le Aq,List.take_of_length_le Aq];show (FX).append FX
 have m1:MH a b #[x0] (a.size - 1) b.size:=ad5 m0 ha As e0;have sg0:Sg st st:=Pe (gallopOf st);by_cases ha1:a.size - 1=0
 .show BK (Ld (K4 (OI (Qf e0 (ifT (by simpa using ha1) (DT (ZGk (wu m1))))))))
 by_cases hb1:b.size=1
 .show BK (Ld (K4 (OI (Qf e0 (ifF (by simpa using ha1) (ifT (by simpa using hb1) (DT (ZGk (wt m1)))))))))
 refine wpS_bind (wpS_lift (wpAny_rule ⟨rfl, ?_⟩))
 show ZEu e0;show Ru (by simpa using ha1);show Ru (by simpa using hb1);show ZDB;show wpS_bind ZAg;intro F;show (wpS_mono (wpS_forRange (I:=λn c st'=>Sg st st'/\P c.1 c.2.2.2.1 c.2.1 c.2.2.1 n/\c.1=none)
  (Q:=λc st'=>Sg st st'/\∃r,c.1=some r/\dG a b r) ?_ ?_ ⟨sg0,?_,rfl⟩) ?_)
 .rintro n ⟨c,i,j,o,g⟩ st1 _ hn ⟨sg,hP,rfl⟩;show wpS_bind ZAg;intro F;show (wpS_mono (wpS_forRange (I:=λn' c st'=>Sg st st'/\P c.1 c.2.2.2.1 c.2.1 c.2.2.1 (n+n')/\c.1=none)
   (Q:=λc st'=>Sg st st'/\P c.1 c.2.2.2.1 c.2.1 c.2.2.1 (n+1)) ?_ ?_ ⟨sg,hP,rfl⟩) ?_)
  .rintro n' ⟨c,i,j,o,p,q⟩ st1 _ hn' ⟨sg,hP,rfl⟩;rcases hP with⟨r,z,_⟩|⟨_,m,h1,hi,h2,hj,hc⟩
   .cases z
   dsimp only at m hi hj hc h1 h2;let⟨y,ey,dy,my⟩:=ZD8 b j hj;let⟨x,ex,dx,mx⟩:=rj (xs:=a) h1 hi;let⟨_,rfl⟩:=ZFB;dsimp only[F];show Qf ey (ZIj ex (ac7 hk (gb y my) (ga x mx) W7));cases b with
   | true=>
    have m2:=ad5 m h1 hi ex;show ZLb;by_cases hz:i - 1=0
    .show Te (by simpa using hz);show Vq sg (wu m2)
    show Ru (by simpa using hz);split
    .show SR sg (Eh (Cu rfl m2 (by (try dsimp only);lia) (by (try dsimp only);lia) h2 hj (by dsimp only;lia)))
    .show Br (Oo sg (Eh (Cu rfl m2 (by (try dsimp only);lia) (by (try dsimp only);lia) h2 hj (by dsimp only;lia))))
   | false=>
    have m2:=ar8 m Ab hj ey;show ZLc;by_cases hz:j - 1=1
    .show Te (by simpa using hz);show Vq sg (wt m2)
    show Ru (by simpa using hz);split
    .show SR sg (Eh (Cu rfl m2 h1 hi (by (try dsimp only);lia) (by (try dsimp only);lia) (by dsimp only;lia)))
    .show Br (Oo sg (Eh (Cu rfl m2 h1 hi (by (try dsimp only);lia) (by (try dsimp only);lia) (by dsimp only;lia))))
  .rintro⟨c,i,j,o,p,q⟩ st1 ⟨sg,hP,rfl⟩;rcases hP with⟨r,z,_⟩|⟨_,m,h1,hi,h2,hj,hc⟩
   .cases z
   dsimp only at hi hj hc h1 h2;lia
  .rintro⟨c,i,j,o,p,q⟩ st1 ⟨sg,hP⟩;rcases id hP with⟨r,rfl,hr⟩|⟨rfl,m,h1,hi,h2,hj,hc⟩
   .show Br (Pq sg r hr)
   refine wpS_bind (wpS_lift (wpAny_rule ⟨rfl, ?_⟩))
   show wpS_bind ZAg;intro F;show (wpS_mono (wpS_forRange (I:=λn' c st'=>Sg st st'/\P c.1 c.2.2.2.1 c.2.1 c.2.2.1 (n+1+n')/\c.1=none)
    (Q:=λc st'=>Sg st st'/\P c.1 c.2.2.2.1 c.2.1 c.2.2.1 (n+1)) ?_ ?_ ⟨sg,hP,rfl⟩) ?_)
   .rintro n' ⟨c,i,j,o,g',p,q⟩ st1 _ hn' ⟨sg,hP,rfl⟩;rcases hP with⟨r,z,_⟩|⟨-,m,h1,hi,h2,hj,hc⟩
    .cases z
    dsimp only at m hi hj hc h1 h2;let⟨y,ey,dy,my⟩:=ZD8 b j hj;let⟨g2,rfl⟩:=ZFB;dsimp only[F];revert g';show a06 (· - 1) (λg'=>?_) ?e
    rotate_left;intro _;rfl
    focus (
     show ZEb (ZIj ey (k0 hk (gb y my) (Ij (ae3 ga Ab)) Ab λk hk'=>?_));dsimp only;generalize i - k=d;apply ifJ (x:=o) (y:=i) (R:=λo' i'=>MH a b o' i' j/\0<i'/\i'<=a.size/\n+1+n'+i'+j<=a.size+b.size) (By m h1 hi hc)
     rotate_left
     focus
      intro K;have m3:=br4 m (k:=k) hk';by_cases z1:k=0
      .show Te (by simpa using z1);show ZHm (wu m3)
      show Ru (by simpa using z1);show K _ _ (By m3 Ab Ab Ab)
     rintro o' i' ⟨m3,h13,hi3,hc3⟩;have m4:=ar8 m3 Ab hj ey;show ZLc;by_cases z3:j - 1=1
     .show Te (by simpa using z3);show ZHm (wt m4)
     show Ru (by simpa using z3);let⟨x,ex,dx,mx⟩:=ZD8 a i' Ab;show ZIj ex (k0 hk (ga x mx) (Ij (ae3 gb Ab)) Ab ZJH);dsimp only;have h24:1<j - 1:=by lia
     have hj4:j - 1<=b.size:=by lia
     have hc4:n+1+n'+1+i'+(j - 1)<=a.size+b.size:=by lia
     generalize o'.push y=o1 at m4 ⊢;generalize j - 1=j1 at m4 h24 hj4 hc4 hk1 ⊢;generalize j1 - k1=d2;apply ifJ (x:=o1) (y:=j1) (R:=λo2 j'=>MH a b o2 i' j'/\1<j'/\j'<=b.size/\n+1+n'+1+i'+j'<=a.size+b.size) (By m4 h24 hj4 hc4)
     rotate_left
     focus
      intro K;have m5:=br3 m4 (k:=k1) (by omega);by_cases z4:k1=1
      .show Te (by simpa using z4);show ZHm (wt m5)
      show Ru (by simpa using z4);by_cases z5:k1=0
      .show Te (by simpa using z5);show ZHm (wu m5)
      show Ru (by simpa using z5);show K _ _ (By m5 Ab Ab Ab)
     rintro o2 j' ⟨m5,h25,hj5,hc5⟩;have m6:=ad5 m5 Ab Ab ex;show ZLb;by_cases z6:i' - 1=0
     .show Te (by simpa using z6);show ZHm (wu m6)
     show Ru (by simpa using z6);split
     .show SR R7 (Eh (Cu rfl m6 (by (try dsimp only);lia) (by (try dsimp only);lia) h25 hj5 (by dsimp only;lia)))
     .show wpS_pure ⟨⟨_,rfl⟩,.inr ⟨rfl,m6,by (try dsimp only);lia,by (try dsimp only);lia,h25,hj5,by dsimp only;lia⟩,rfl⟩)
   .rintro⟨c,i,j,o,g',p,q⟩ st1 ⟨sg,hP,rfl⟩;rcases hP with⟨r,z,_⟩|⟨_,m,h1,hi,h2,hj,hc⟩
    .cases z
    dsimp only at hi hj hc h1 h2;lia
   .rintro⟨c,i,j,o,g',p,q⟩ st1 ⟨sg,hP⟩;rcases id hP with⟨r,rfl,hr⟩|⟨rfl,m,h1,hi,h2,hj,hc⟩
    .show Br (Pq sg r hr)
    let⟨g2,rfl⟩:=ZFB;show ZEb (Br (Oo R7 hP))
 .rintro⟨c,i,j,o,g⟩ st1 ⟨sg,hP,rfl⟩;rcases hP with⟨r,z,_⟩|⟨_,m,h1,hi,h2,hj,hc⟩
  .cases z
  dsimp only at hi hj hc h1 h2;lia
 .show Eh (Cu rfl m1 (by (try dsimp only);lia) (by (try dsimp only);lia) (by (try dsimp only);lia) (by (try dsimp only);lia) (by dsimp only;lia))
 .rintro⟨c,i,j,o,g⟩ st1 ⟨sg,r,rfl,hr⟩;show DT (h r st1 hr sg)
end SCx
variable {Q:Bool->SortSt->Prop}{P:Nat}
namespace SCx
variable {C:SCx}{l:V8}
def At (C:SCx)(l:V8)(st:SortSt):Prop:=ZCo=C.κ/\ZCn=none/\(Tr).toList.Perm l/\∀x∈l,Vw
def At.size {st:SortSt}(h:ZIJ):(Tr).size=l.length:=by rw[<-Array.length_toList];show h.2.2.1.length_eq
def At.get (h:ZIJ)(hi:i<l.length):∃x,(Tr)[i]?=OZ/\Vw:=ae3 (La (h.2.2.2 x (h.2.2.1.mem_iff.mp m))) (by rw[h.size];show hi)
def At.lt {Q:BO Bool->SortSt->Prop}(h:ZIJ)(hi:i<l.length)(hj:j<l.length)(q:∀b,Q UK st):ZHz (ltAt' i j):=by
 let⟨x,ex,gx⟩:=h.get hi;let⟨y,ey,gy⟩:=h.get hj;rw[ltAt'_eq];show ZW (Qf ex (Qf ey (ac7 h.1 gx gy q)))
def At.perm {st':SortSt}(h:ZIJ)(h1:K5 st'=ZCo)(h2:G8 st'=ZCn)(p:(Yg).Perm Tr):ZHt:=By (h1.trans h.1) (h2.trans h.2.1) ((Array.perm_iff_toList_perm.mp p).trans h.2.2.1) h.2.2.2
def pk {Q:Unit->SortSt->Prop}(h:ZIJ)(q:∀st',ZHt->Wm=U8->Q () st'):ZHz (reverseSlice' i j):=by
 rw[reverseSlice'_eq];show FA (q _ (h.perm rfl rfl (mirror_perm _ _ _ _)) rfl)
def at6 {N:Nat}{β:Type}{body:Nat->BO β×Nat->Xh (MX (BO β×Nat))}{Q:BO β×Nat->SortSt->Prop}(h:ZIJ)(h1:1<=n)(hn:n<=N)(hN:P+N<=l.length)
  (hb:∀x m (Q':ForInStep (Option β×Nat)->SortSt->Prop),ZDf (ltAt' (P+m) (P+m - 1)) (Gm (∃b,c=UK/\Q' (Ak (b=true) (.done (none,m)) (.yield (none,m+1))) st'))->ZDf (body x (none,m)) Q')
  (q:∀m,n<=m->m<=N->Q (none,m) st):C.run (forIn [n:N] ((none,n):Option β×Nat) body) Q st:=by
 show wpS_forRange (I:=JO (st'=st/\c=(none,i))) ?_ ?_ UT
 .rintro i _ _ hi hl ⟨rfl,rfl⟩;show hb i i _ (h.lt Ab Ab (Fj (Oa b ?_)));cases b
  .show UT
  .show q i hi Ab
 .rintro _ _ ⟨rfl,rfl⟩;rw[Nat.max_eq_right hn];show q _ hn As
def bh3 {Q:Wk->SortSt->Prop}(h:ZIJ)(hn:P+n<=l.length)(h1:1<=n)(q:∀m st',1<=m->m<=n->ZHt->Wm=U8->Q (Af m) st'):ZHz (countRun' P n):=by
 obtain⟨p0,hp0⟩:∃p,pendingOf st=p:=R7;rw[hp0] at q;rw[countRun'_eq];show BK (at6 h As h1 hn (λx m Q' hq=>?_) ZIK)
 .show BK (wpS_mono hq λc st3 ⟨b,hb,hq⟩=>by subst hb;cases b <;> show wpS_pure hq)
 dsimp only;by_cases hm:m=n
 .rw[if_pos (by simpa using hm)];show DT (q m st (by omega) (by omega) h hp0)
 rw[if_neg (by simpa using hm)];by_cases hn1:m > 1
 focus
  rw[if_pos hn1];show BK (h.lt Ab Ab W7);dsimp only;rcases b with _|_
  rotate_left
  .rw[if_pos rfl];show DT (q m st (by omega) (by omega) h hp0)
  rw[if_neg Bool.false_ne_true];show BK (pk h λst2 h2 pe=>?_);have pe2:=pe.trans hp0
 rotate_left
 focus
  rw[if_neg hn1];have h2:=h;have pe2:=hp0;generalize st=st2 at h2 pe2 ⊢
 all_goals
  refine wpS_bind (wpS_lift (wpAny_rule ⟨rfl, ?_⟩))
  show BK (Kh (D9 (JO (∃d,c=(none,i,d)/\ZHt/\Wm=p0)) (Gm (∃i d,c=(none,i,d)/\1<=i/\i<=n/\ZHt/\Wm=p0)) ?_ ?_ (Sf 0 h2 pe2)) ?_)
  .rintro i _ st3 hi hlt ⟨d,rfl,h4,pe4⟩;dsimp only;show BK (h4.lt Ab Ab W7);dsimp only;cases b with
   | true=>
    rw[if_pos rfl];by_cases hd0:d > 0
    .rw[if_pos hd0];show BK (pk h4 λst5 h5 pe5=>Br (Sf 0 h5 (pe5.trans pe4)))
    .rw[if_neg hd0];show Br (Sf 0 h4 pe4)
   | false=>
    rw[if_neg Bool.false_ne_true];show BK (h4.lt Ab Ab W7);dsimp only;cases b with
    | true=>show wpS_pure ⟨i,d,rfl,by lia,by lia,h4,pe4⟩
    | false=>show wpS_pure ⟨d+1,rfl,h4,pe4⟩
  .rintro _ st3 ⟨d,rfl,h4,pe4⟩;show OD _ d (by grind) Ab h4 pe4
  .rintro _ st3 ⟨i,d,rfl,hi,hil,h4,pe4⟩;dsimp only;by_cases hd0:d > 0
   focus
    rw[if_pos hd0];show BK (pk h4 λst5 h5 pe=>?_);have pe5:=pe.trans pe4
   rotate_left
   focus
    rw[if_neg hd0];have h5:=h4;have pe5:=pe4;generalize st3=st5 at h5 pe5 ⊢
   all_goals
    show BK (pk h5 λst7 h7 pe7=>?_);show BK (at6 h7 hi hil hn (λx m Q2 hq=>?_) ZIK)
    .show BK (wpS_mono hq λc st3 ⟨b,hb,hq⟩=>by subst hb;cases b <;> show wpS_pure hq)
    .show DT (q m st7 Ab (by omega) h7 (pe7.trans pe5))
def a02 {ok:Nat}(h:ZIJ)(hn:P+n<=l.length)(q:∀st',ZHt->Wm=U8->Q true st'):ZHz (binarySort' P n ok):=by
 rw[binarySort'_eq];show BK (Kh (D9 (Ik (c.1=none/\ZHt/\Wm=U8)) (Gm (c.1=none/\ZHt/\Wm=U8)) ?_ ZKM (Oo rfl h)) ?_)
 .rintro k ⟨c,_⟩ st1 hk hkn ⟨rfl,h1,pe⟩;show BK (Kh (D9 (JO (st'=st1/\∃l r,c=(none,l,r)/\l<=r/\r<=k)) (Gm (st'=st1/\∃l r,c=(none,l,r)/\l<=r/\r<=k)) ?_ ZKM (ZK 0 k Aq Ab)) ?_)
  .rintro i _ _ _ hi ⟨rfl,a,r,rfl,a1,a2⟩;dsimp only;by_cases hge:a≥r
   .rw[if_pos hge];show Br (ZK a r a1 a2)
   .rw[if_neg hge];show BK (h1.lt Ab Ab W7);cases b
    .show Br (ZK _ r Ab (by omega))
    .show Br (ZK a _ Ab Ab)
  .rintro _ st1 ⟨rfl,a,r,rfl,_,_⟩;dsimp only;rw[moveDown'_eq];show ZEb (Br (BH rfl (h1.perm rfl rfl (bubble_perm _ _ _)) pe))
 .rintro⟨c,_⟩ st1 ⟨rfl,a1,a2⟩;show DT (q st1 a1 a2)
def aq4 {s1 n1 n2 pw pw2:Nat}(h:ZIJ)(e1:(U8)[i]?=FU ((s1,n1,pw)))(e2:(U8)[i+1]?=FU ((s1+n1,n2,pw2)))(hx:0<n1)(hy:0<n2)(hs:s1+n1+n2<=l.length)
  (q:∀st',ZHt->Wm=((U8).setIfInBounds i (s1,n1+n2,pw)).eraseIdxIfInBounds (i+1)->Q true st'):C.run (mergeAt' i) Q st:=by
 show ZDB;rw[e1,e2];show BK (bv9 ?_);dsimp only;have hz:=h.size;let⟨y,ey,gy⟩:=h.get (i:=s1+n1) Ab;show ZIj ey (k0 h.1 gy (λi hi=>h.get Ab) hx (Ij ?_));dsimp only;by_cases hz1:n1 - k=0
 .rw[if_pos (by simpa using hz1)];show DT (q _ (h.perm rfl rfl (.refl _)) rfl)
 rw[if_neg (by simpa using hz1)];let⟨x,ex,gx⟩:=h.get (i:=s1+k+(n1 - k) - 1) Ab;show ZIj ex (k0 h.1 gx (λi hi=>h.get Ab) (by grind) λnb hnb=>?_);dsimp only;by_cases hz2:nb=0
 .rw[if_pos (by simpa using hz2)];show DT (q _ (h.perm rfl rfl (.refl _)) rfl)
 rw[if_neg (by simpa using hz2)];have ea:=cut2 (Tr).toList (i:=s1+k) (j:=s1+n1) (k:=s1+n1+nb) Aw Aq;rw[<-List.extract_eq_take_drop,<-List.extract_eq_take_drop,<-Array.toList_extract,<-Array.toList_extract] at ea;have za:((Tr).extract (s1+k) (s1+n1)).size=n1 - k:=by rw[Array.size_extract];lia
 have zb:((Tr).extract (s1+n1) (s1+n1+nb)).size=nb:=by rw[Array.size_extract];lia
 have zt:((Tr).toList.take (s1+k)).length=s1+k+0:=by rw[List.length_take,Array.length_toList];lia
 generalize (Tr).extract (s1+k) (s1+n1)=a at ea za ⊢;generalize (Tr).extract (s1+n1) (s1+n1+nb)=b at ea zb ⊢;have gg:∀x∈a.toList++b.toList,Vw:=La (h.2.2.2 x (h.2.2.1.mem_iff.mp (by rw[ea];show List.mem_append_right _ (Ca m))));have ga:∀x∈a.toList,Vw:=La (gg x (Ca m));have gb:∀x∈b.toList,Vw:=La (gg x (BJ m));by_cases hle:n1 - k<=nb
 focus
  rw[if_pos hle];show BK (aq2 h.1 ga gb Ab Ab ZDN)
 rotate_left
 focus
  rw[if_neg hle];show BK (aq3 h.1 ga gb Ab Ab ZDN)
 all_goals
  let⟨g,rfl⟩:=sg;have pb:=ao4 (s1+k) r.toList _ _ _ 0 Tr ea zt pm.length_eq.symm;show ZEb (ZW (DT ?_));have ft:(ZCn).isNone=true:=by rw[h.2.1];rfl
  change Q (ZCn).isNone _;rw[ft];show q _ (By h.1 h.2.1 ((List.Perm.of_eq pb).trans (((pm.append_right _).append_left _).trans ((List.Perm.of_eq ea.symm).trans h.2.2.1))) h.2.2.2) rfl
def Pend:Au (Nat×Nat×Nat)->Nat->Nat->Prop
 | [],n,m=>n=m
 | a::p,n,m=>a.1=n/\0<a.2.1/\Pend p (n+a.2.1) m
def Pend.le:∀{p:List (Nat×Nat×Nat)} {n m:Nat},Pend p n m->n<=m
 | [],_,_,h=>Nat.le_of_eq h
 | _::_,_,_,⟨_,_,h⟩=>Nat.le_trans (Nat.le_add_right ..) h.le
def Pend.split:∀{p:Au (Nat×Nat×Nat)} {n m:Nat} (i:Nat),Pend p n m->i+1<p.length->
  ∃p1 a b p2,p=p1++a::b::p2/\p1.length=i/\b.1=a.1+a.2.1/\0<a.2.1/\0<b.2.1/\b.1+b.2.1<=m/\∀w,Pend (p1++(a.1,a.2.1+b.2.1,w)::p2) n m
 | a::b::p,n,m,0,⟨h1,h2,h3,h4,h5⟩,_=>⟨[],a,b,p,rfl,rfl,by rw[h3,h1],h2,h4,by rw[h3];show h5.le,λw=>⟨h1,by dsimp only;lia,by dsimp only;rw[<-Nat.add_assoc];show h5⟩⟩
 | [],_,_,_,_,hl=>by simp at hl
 | [_],_,_,0,_,hl=>by simp at hl
 | a::p,n,m,i+1,⟨h1,h2,h3⟩,hl=>by
  let⟨p1,a',b,p2,rfl,e2,e3,e4,e5,e6,e7⟩:=Pend.split i h3 (by simpa using hl);show⟨a::p1,a',b,p2,rfl,by rw[List.length_cons,e2],e3,e4,e5,e6,ID (BH h1 h2 (e7 w))⟩
def Pend.push:∀{p:List (Nat×Nat×Nat)} {n m k w:Nat},Pend p n m->0<k->Pend (p++[(m,k,w)]) n (m+k)
 | [],_,_,_,_,h,hk=>by cases h;show⟨rfl,hk,rfl⟩
 | _::_,_,_,_,_,⟨g1,g2,g3⟩,hk=>⟨g1,g2,g3.push hk⟩
def Pend.mod {f:Nat×Nat×Nat->Nat×Nat×Nat}(hf:∀a,(f a).1=a.1/\(f a).2.1=a.2.1):∀{p:List (Nat×Nat×Nat)} {n m:Nat} (i:Nat),Pend p n m->Pend (p.modify i f) n m
 | [],_,_,i,h=>by cases i <;> show h
 | a::p,n,m,0,⟨h1,h2,h3⟩=>by
  change Pend (f a::p) n m;show BH ((hf a).1.trans h1) (by rw[(hf a).2];show h2) (by rw[(hf a).2];show h3)
 | a::p,n,m,i+1,⟨h1,h2,h3⟩=>⟨h1,h2,Pend.mod hf i h3⟩
def RI (C:SCx)(l:V8)(st:SortSt)(m:Nat):Prop:=ZIJ/\Pend (U8).toList 0 m/\m<=l.length
def RI.merge {m:Nat}(h:RI C l st m)(hi:i+1<(U8).size)(q:∀st',RI C l st' m->Q true st'):ZHz (mergeAt' i):=by
 let⟨p1,⟨a1,a2,a3⟩,⟨b1,b2,b3⟩,p2,e1,rfl,e3,e4,e5,e6,e7⟩:=h.2.1.split i (by simpa using hi);dsimp only at e3 e4 e5 e6 e7;subst e3;show aq4 h.1 (s1:=a1) (n1:=a2) (n2:=b2) (pw:=a3) (pw2:=b3) ?_ ?_ e4 e5 (Bq e6 h.2.2) λst' h' pe=>q st' (BH h' ?_ h.2.2)
 .rw[<-Array.getElem?_toList,e1,List.getElem?_append_right Aq,Nat.sub_self];rfl
 .rw[<-Array.getElem?_toList,e1,List.getElem?_append_right Ab,Nat.add_sub_cancel_left];rfl
 .rw[pe,Array.toList_eraseIdxIfInBounds,Array.toList_setIfInBounds,e1,List.set_append_right _ _ As,Nat.sub_self,List.set_cons_zero,List.eraseIdx_append_of_length_le Ab,Nat.add_sub_cancel_left];show e7 a3
theorem sort_run {Q:Unit->SortSt->Prop}(h:ZIJ)(hp:U8 = #[])(q:∀st',ZHt->Q () st'):ZHz sortRuns':=by
 rw[sortRuns'_eq];show ZDB;simp only[h.size];generalize minRun' l.length l.length 0=mr;show BK (Kh (D9 (Ik (∃m,c=(none,m)/\RI C l st' m)) (Gm (∃m,c=(none,m)/\RI C l st' m)) ?_ ZKM (B0 0 rfl h (by rw[hp];show rfl) Bh)) ?_)
 .rintro i _ st1 _ hi ⟨m,rfl,ri⟩;dsimp only;by_cases hge:m≥l.length
  .rw[if_pos hge];show Br (Oa m ri)
  rw[if_neg hge];show BK (bh3 ri.1 Ab Ab λk st2 m1 m2 h2 pe2=>?_);dsimp only;by_cases hm:k<mr
  focus
   rw[if_pos hm]
   refine wpS_bind (wpS_lift (wpAny_rule ⟨rfl, ?_⟩))
   show BK (a02 h2 (by grind) λst3 h3 pe3=>?_);rw[if_neg Aq];have pe4:=pe3.trans pe2;have n1:1<=min (l.length - m) mr:=by grind
   have n2:min (l.length - m) mr<=l.length - m:=by grind
   generalize min (l.length - m) mr=n at n1 n2 ⊢
  rotate_left
  focus
   rw[if_neg hm];have h3:=h2;have pe4:=pe2;generalize st2=st3 at h3 pe4 ⊢;generalize k=n at m1 m2 ⊢;have n1:=m1;have n2:=m2
  all_goals
   have ri3:RI C l st3 m:=BH h3 (by rw[pe4];show ri.2.1) ri.2.2;have fin:∀st5:SortSt,RI C l st5 m->∃m',(none,m+n)=((none:BO Unit),m')/\RI C l (setPending st5 ((B3 st5).push (m,n,0))) m':=λst5 r5=>by
    show B0 (m+n) rfl (r5.1.perm rfl rfl (.refl _)) ?_ (by grind);rw[show (B3 (setPending st5 ((B3 st5).push (m,n,0)))).toList=(B3 st5).toList++[(m,n,0)] from Array.toList_push];show r5.2.1.push n1
   show ZDB;cases hb:(B3 st3).back? with
   | none=>show wpS_bind (FA (DT (fin st3 ri3)))
   | some top=>
    let⟨s1,n1',w1⟩:=top;dsimp only;generalize power' l.length (2*s1+n1') (2*s1+n1'+n1'+n) l.length=pw;show BK (Kh (D9 (Ik (c.1=none/\RI C l st' m)) (Gm (c.1=none/\RI C l st' m)) ?_ ZKM (OI ri3)) ?_)
    .rintro j ⟨c,_⟩ st4 _ _ ⟨rfl,ri4⟩;show ZDB;cases ho:(Ak ((YV).size > 1) ((YV)[(YV).size - 2]?) none) with
     | none=>show wpS_pure ⟨rfl,ri4⟩
     | some o=>
      let⟨o1,o2,older⟩:=o;dsimp only;have h2':(YV).size > 1:=by
       rcases Nat.lt_or_ge 1 (YV).size with z|z
       .show z
       .rw[if_neg Ab] at ho;cases ho
      by_cases hp2:older<=pw
      .rw[if_pos hp2];show Br (OI ri4)
      rw[if_neg hp2];show BK (ri4.merge Ab λst5 r5=>?_);show Br (OI r5)
    .rintro⟨c,_⟩ st4 ⟨rfl,ri4⟩;dsimp only;show ZEb (ZEb (DT ?_));show fin (setPending st4 _) (BH ri4.1 ?_ ri4.2.2);rw[show (B3 (setPending st4 ((YV).modify ((YV).size - 1) (Bi ((x.1,x.2.1,pw)))))).toList=_ from Array.toList_modify ..];show Pend.mod (f:=Bi ((x.1,x.2.1,pw))) (A0 UT) _ ri4.2.1
 .rintro _ st1 ⟨m,rfl,ri⟩;dsimp only;show BK (Kh (D9 (JO (c.1=none/\RI C l st' m)) (Gm (c.1=none/\RI C l st' m)) ?_ ZKM (OI ri)) ?_)
  .rintro i ⟨c,_⟩ st2 _ _ ⟨rfl,r2⟩;show ZDB;by_cases h1:(B3 st2).size<=1
   .rw[if_pos h1];show Br (OI r2)
   rw[if_neg h1];have go:∀k,k+1<(B3 st2).size->Le (mergeAt' k) (λb st'=>b=true/\RI C l st' m) st2:=Ij (r2.merge hk λst3 r3=>OI r3);show BK (wpS_mono (go _ ?_) λb st3 hb=>?_)
   ·(repeat' split) <;> omega
   .let⟨rfl,r3⟩:=hb;show Br (OI r3)
  .rintro⟨c,_⟩ st2 ⟨rfl,r2⟩;show DT (q _ r2.1)
end SCx
open PySem.W
def jM (h:Heap)(v:Value)(ns:NX):Prop:=∃(a:Addr) (its:List Value),v=PK/\IsTup h a its.toArray/\LI its ns/\ns≠[]
abbrev TK (h:Heap):Nk->ZAD->Prop:=Paired (jM h)
variable {b:Bool}{x:Str}{Q:Value->Shared->Prop}{prog:Program}{w:World}{ns:NX}{h:Heap}{ks:Nk}{nss:ZAD}
section
variable {A:Around}
def bp6 {Q:Bool->Shared->Prop}{fin:Bool}(q:∀b,Q b s):∀{its:List Value} {ns:List Int} {js:List Value} {ms:List Int} (i:Nat),LI its ns->LI js ms->KatLex prog w A true fin Q (its.zip js) i s
 | _,_,_,_,i,.nil,.nil=>kat_nil (q _)
 | _,_,_,_,i,.nil,.cons n t h=>kat_nil (q _)
 | _,_,_,_,i,.cons n t h,.nil=>kat_nil (q _)
 | _,_,_,_,i,.cons n t h,.cons m u h'=>by
  rw[List.zip_cons_cons];show kat_cons (wpAny_eqBool_int (kat_go (BQ (kat_yes (bp6 q (i+1) h h'))) (BQ (kat_no ?_))));by_cases hi:i=0
  .subst hi;show oneLt_int (q _)
  .rw[show (true && i == 0)=false by simpa using hi];show kat_one _ _ (lt_int (q _))
def ce4 {x y:Value}{ms:NX}{Q:Bool->Shared->Prop}(hx:jM s.heap x ns)(hy:jM s.heap y ms)(h:∀b,Q b s):Ia P0 A (keyLt' Vx x y) Q E s:=by
 let⟨a,its,rfl,⟨o,e,c,n,d⟩,hi,_⟩:=hx;let⟨b,js,rfl,⟨o',e',c',n',d'⟩,hj,_⟩:=hy;show kat_lt e d e' d' ?_;rw[List.toList_toArray,List.toList_toArray];show bp6 h 0 hi hj
def bw9 (g:TK h ks nss):∃fs,KatTups h ks fs/\fs.length=ks.length/\∀v∈fs,∃i t,v=II i t:=by
 induction g with
 | nil=>show⟨[],.nil,rfl,λv hv=>by simp at hv⟩
 | cons x r ih=>
  let⟨a,its,e,⟨o,e1,c,n,d⟩,hi,hne⟩:=x;let⟨fs,t,hl,hf⟩:=ih;cases hi with
  | nil=>show absurd rfl hne
  | cons m t' hi=>
   subst e;show By (.int m t'::fs) (.cons e1 c d rfl t) (by simp[hl]) (Ii ((ZDO).elim (BT (BH m t' z)) (hf v)))
def bq0 {Q:SortKind->Shared->Prop}(hk:TK s.heap ks nss)(h1:0<ks.length)(h:Q Vx s):Ia P0 A (keyKind' ks.toArray) Q E s:=by
 let⟨fs,t,hl,hf⟩:=bw9 hk;show kat_kind (T:=E9 "int") t Ab ZKk rfl h;let⟨i,t,rfl⟩:=hf v hv;show .now
def TKI:Nk->ZAD->Prop:=Paired λv ns=>∃n t,v=II n t/\ns=[n]
def TX (b:Bool)(h:Heap)(ks:Nk)(nss:ZAD):Prop:=Ak (b=true) ZJJ (TK h ks nss)
def ak3 {R:Value->NX->Prop}:∀{ks:List Value} {nss:List (List Int)},CB R ks nss->∀v∈ks,∃ns,R v ns
 | _, _, .nil, v, hv => by simp at hv
 | _,_,.cons r t,v,hv=>(ZDO).elim (BQ (Xq (e▸r))) (ak3 t v)
noncomputable def kk (b:Bool)(n:Nat):SortKind:=Ak (n<2) general' (Ak (b=true) oneType' Vx)
def bc0 {β:Type}{F:SortKind->Sem β}{Q:β->Shared->Prop}(hk:TX b s.heap ks nss)(hl:ks.length=n)(h:Ia P0 A (F (kk b n)) Q E s) :
  wpAny P0 A (if n<2 then pure general' >>= F else keyKind' ks.toArray >>= F) Q E s:=by
 unfold kk at h;by_cases h2:n<2
 .rw[if_pos h2] at h ⊢;show Ah (BA h)
 .rw[if_neg h2] at h ⊢;cases b with
  | false=>show wpAny_bind (bq0 (BD (TK s.heap ks nss) hk) Ab h)
  | true=>
   show Ah (kas_kind (T:=E9 "int") Ab ZKk rfl rfl h);let⟨_,i,t,rfl,_⟩:=ak3 (BD ZJJ hk) v hv;show .now
end
def nF (b:Bool)(h:Heap)(v:Value)(ns:NX):Prop:=Ak (b=true) (∃n t,v=II n t/\ns=[n]) (jM h v ns)
def TX.mem (hk:TX b h ks nss):∀v∈ks,∃ns,nF b h v ns:=by
 cases b with
 | true=>show ak3 (BD ZJJ hk)
 | false=>show ak3 (BD (TK h ks nss) hk)
def SortBy {α:Type}(b:Bool)(d:α)(vs:Ql)(nss:ZAD)(out:Ql):Prop:=∃p:Array Nat,PB vs.length p/\((b=true/\vs.length<64)->Up lexO (GF (Mv i [])) p vs.length)/\out=MV (GF (ZGl d))
def SortBy.len {α:Type}{d:α}{vs out:Ql}(h:TB b d vs out):out.length=vs.length:=by
 let⟨p,hp,_,rfl⟩:=h;rw[List.length_map,Array.length_toList,hp.size]
def av8 {α:Type}{d:α}(vs:Ql):(WE).map (GF (ZGl d))=vs:=by
 show FC Aq (JN ?_)
 simp_all
def SortBy.few {α:Type}{d:α}{vs:Ql}(h:vs.length<2):TB b d vs vs:=
 ⟨(WE).toArray,by unfold PB;simp,λy_ i j hij hj=>(show i=j by lia)▸lexO.le_refl _,by show (av8 vs).symm⟩
def SortBy.zip {α:Type}{b:Bool}{d:α}{vs out:Ql}{nss:ZAD}(h:TB b d vs out)(hl:nss.length=vs.length):∃zs:List (α×List Int),zs.Perm (vs.zip nss)/\out=zs.map (·.1)/\((b=true/\vs.length<64)->zs.Pairwise (Jn (GJ b.2 a.2=false))):=by
 let⟨p,hp,hu,rfl⟩:=h;show WC (MV (GF ((vs.getD i d,nss.getD i [])))) ?_ (by rw[List.map_map];rfl)
 .have e:vs.zip nss=(WE).map (GF ((vs.getD i d,nss.getD i []))):=by
   show FC (by simp[hl]) (JN ?_);have h3:=by simpa using h2
   simp_all
  rw[e];show hp.map _
 .intro c;rw[List.pairwise_map,List.pairwise_iff_getElem];intro i j hi hj hij;have z:=hu c i j (Dl hij) (by rw[<-hp.size];simpa using hj);have g:∀k (hk:k<p.toList.length),p.getD k 0=p.toList[k]:=λk hk=>by
   have hk':=by simpa using hk
   simp_all
  unfold KO.le KQ at z;rw[g i hi,g j hj] at z;show z
variable {us:Nk}
def au2 {xs:Om}{out:Nk}(r:WS)(h:TB b Value.none us out):∃ys,GK ys out/\TB b V.non xs ys:=by
 let⟨p,hp,hu,rfl⟩:=h;have hl:=r.length;show Dt (MV (GF (xs.getD i V.non))) ?_ p (by rw[hl];show hp) (by rw[hl];show hu) rfl;have lt:∀i∈p.toList,i<us.length:=λi hi=>Dv (hp.mem_iff.mp hi);revert lt;generalize p.toList=l;intro lt
 induction l with
 | nil=>show .nil
 | cons i l ih=>
  show Iu ?_ (ih λj hj=>lt j (A7 hj));have hi:=lt i (List.mem_cons_self ..);have hi':i<xs.length:=by lia
  let⟨u,e,ru⟩:=r.get (Ax hi')
  simp_all
def bn0 {α β:Type}{f:α->β}:∀{l l':List β},l.Perm l'->∀m:List α,l'=ZFN->∃p:List α,p.Perm m/\l=p.map f:=by
 intro l l' h
 induction h with
 | nil=>intro m e;show⟨m,List.Perm.refl _,e⟩
 | cons x h ih=>
  intro m e;obtain⟨a,m',rfl,rfl,e2⟩:∃a m',m=a::m'/\f a=x/\_=m'.map f:=by
   cases m with
   | nil=>simp at e
   | cons a m'=>show⟨a,m',rfl,(G7 e).1.symm,(G7 e).2⟩
  let⟨p,hp,rfl⟩:=ih m' e2;show Oo (a::p) (hp.cons a)
 | swap x y l=>
  intro m e
  match m,e with
  | a::b::m',e=>
   let⟨e1,e⟩:=G7 e;let⟨e2,e3⟩:=G7 e;show BH (b::a::m') (List.Perm.swap _ _ _) Aw
  | [],e=>simp at e
  | [_],e=>simp at e
 | trans _ _ ih1 ih2=>
  intro m e;let⟨p,hp,e1⟩:=ih2 m e;let⟨p',hp',e2⟩:=ih1 p e1;show BH p' (hp'.trans hp) e2
def TKI.at:∀{ks:List Value} {nss:List (List Int)} {i:Nat},ZJJ->i<ks.length->∃n t,ks.getD i Value.none=II n t/\Mv i []=[n]
 | _,_,0,.cons r _,_=>r
 | _,_,i+1,.cons _ t,hi=>TKI.at (i:=i) t (by simpa using hi)
variable {P:PySem.Fin->Shared->Prop}{vs:Nk}
section
variable {A:Around}
def scx (prog:Program)(w:World)(A:Around)(E:Value->Shared->Prop)(s:Shared)(b:Bool):SCx where
 prog:=prog
 w:=w
 A:=A
 E:=E
 s:=s
 κ:=if b=true then oneType' else tuples' true
 G:=Bi (∃ns,nF b s.heap x.1 ns)
 cmp:=λ{x y Q} gx gy q=>by
  let⟨ns,hx⟩:=gx;let⟨ms,hy⟩:=gy;cases b with
  | false=>show ce4 hx hy q
  | true=>
   let⟨n,t,e1,_⟩:=hx;let⟨m,u,e2,_⟩:=hy;rw[e1,e2];show kat_lt_int (q _)
def bc2 {P:SortSt->Shared->Prop}(hk:TX b s.heap ks nss)(hl:ks.length=vs.length)
  (h:∀out st,TB b Value.none vs out->(Tr).map (·.2)=out.toArray->ZCn=none->P st s) :
  wpAny P0 A ((Ak (vs.toArray.size<2) (pure ()) sortRuns').run (SortSt.mk' (kk b vs.toArray.size) Ro #[] 7 none)) (Mh (P r.2 s')) E s:=by
 unfold kk;have zl:(Ro).toList=Z2:=by simp
 by_cases h2 : vs.toArray.size < 2
 .rw[if_pos h2,if_pos h2,StateT.run_pure];show BA (h vs _ (.few (by simpa using h2)) ?_ rfl);change ((Ro).map (·.2))=_;apply Array.toList_inj.mp;rw[Array.toList_map,zl];show List.map_snd_zip Ab
 .rw[if_neg h2,if_neg h2];have e:Z2=(WE).map (GF ((ks.getD i Value.none,vs.getD i Value.none))):=by
   show FC (by simp[hl]) (JN ?_);have h3:i<vs.length:=by simpa using h2
   have h4:i<ks.length:=by lia
   simp[List.getD_eq_getElem?_getD,List.getElem?_eq_getElem h3,List.getElem?_eq_getElem h4]
  have fin:∀st',(Yg).toList.Perm Z2->G8 st'=none->((b=true/\vs.length<64)->SortedTo Yg vs.length)->P st' s:=λst' pm hf so=>by
   let⟨p,hp,ep⟩:=bn0 pm _ e;show h (p.map (GF (ZGl Value.none))) st' (By p.toArray (by unfold PB;simpa using hp) (λc i j hij hj=>?_) Aq) ?_ hf
   .have hpl:p.length=vs.length:=by rw[hp.length_eq];simp
    have kn:∀k,k<vs.length->Mv (Ih k 0) []=[K Yg k]:=λk hk'=>by
     have hk2:k<p.length:=by lia
     have g:Ih k 0=p[k]:=by simp[Array.getD,hk2]
     have hm:=Dv (hp.mem_iff.mp (List.getElem_mem hk2));let⟨n,t,e1,e2⟩:=(show TKI ks nss by have:=hk;rw[c.1] at this;show this).at (i:=p[k]) Ab;have ea:(Yg)[k]?=FU ((ks.getD p[k] Value.none,vs.getD p[k] Value.none)):=by
      rw[<-Array.getElem?_toList,ep,List.getElem?_map,List.getElem?_eq_getElem hk2];rfl
     rw[g,e2];unfold K;rw[ea];change [n]=[numOf (ks.getD p[k] Value.none)];rw[e1];rfl
    have:=so c i j hij hj;change KO.le lexO (Mv (Ih i 0) []) (Mv (Ih j 0) []);rw[kn i Ab,kn j hj];change HT.lexLt [K Yg j] [K Yg i]=false;rw[HT.lexLt_cons];split
    .show HT.lexLt_nil_nil
    .show Eg Ab
   .apply Array.toList_inj.mp;rw[Array.toList_map,ep,List.map_map];rfl
  by_cases c:b=true/\vs.length<64
  .have hzs:(Ro).size=vs.length:=by rw[<-Array.length_toList,zl,List.length_zip];lia
   rw[if_pos c.1];show DX (wpS_sortRuns (a₀:=Ro) (Q:=λy_ st'=>P st' s) VA (Vh (Array.Perm.refl _) rfl) (by rw[hzs];simpa using h2) (by rw[hzs];show c.2) λst' a1 a2 a3=>?_) (λr s' ⟨e,q⟩=>by subst e;show q) ZKM
   .rw[zl] at hx;let⟨ns,hn⟩:=hk.mem _ (HK x.1 x.2 hx).1;rw[c.1] at hn;let⟨n,t,e,_⟩:=hn;show BH n t e
   .show fin st' (by have:=Array.perm_iff_toList_perm.mp a1;rwa [zl] at this) a2 λy_=>by rw[hzs] at a3;show a3
  .have at0:(scx prog w A E s b).At Z2 (SortSt.mk' (Ak (b=true) oneType' Vx) Ro #[] 7 none):=Sf rfl (.of_eq zl) (Cy (hk.mem _ (HK x.1 x.2 hx).1));show DX (SCx.sort_run (Q:=λy_ st'=>P st' s) at0 rfl λst' a1=>?_) (λr s' ⟨e,q⟩=>by subst e;show q) ZKM;show fin st' a1.2.2.1 a1.2.1 (BT (CN z c))
end
variable {a:Addr}
section
variable {A:Around}
def But (a:Addr)(h h':Heap):Prop:=∀b o,b≠a->Tk=Nd->Qg=Nd
def bc1 {rest:OX->Nat->Value->Sem PySem.Fin}(ho:BU a=Af (Rw vs.toArray n))(hz:vs.length<=sizeLine)
  (k:∀h' kS e,But a s.heap h'->s.heap.objs.size<kS->Bv a=FU ((seqObj "list" #[] e))->Bv kS=FU ((seqObj "list" #[] 0))->wpAny P0 A (rest vs.toArray e (A5 kS)) P E { s with heap:=h' }) :
  wpAny P0 A (Builtin.List.listItems PK >>= λitems=>Builtin.List.listUpdate PK (A0 #[]) >>= λy_=>seqEpoch a >>= λe=>newTuple items.toList >>= λt=>newList [] >>= λy=>holding [t,y] (rest items e y)) P E s:=by
 show Ah (listItems_at ho rfl (Ah (MU ho rfl ?_ hz Bh)));have g:=K3 ho (A0 ((#[]:Array Value)));have b0:But a s.heap (JU a (F9 (A0 ((#[]:Array Value))))):=CA ((ZCd).trans e);have z0:(JU a (F9 (A0 ((#[]:Array Value))))).objs.size=s.heap.objs.size:=Heap.size_update ..;revert g b0 z0;generalize s.heap.update a (F9 (A0 ((#[]:Array Value))))=h1;intro g b0 z0;show Ah (seqEpoch_at g rfl (Ah (wpAny_newTuple (Ah (wpAny_newList (DF (k _ _ _ (CA (Ao (Ao (b0 b o hb e)))) ?_ (Ao (Ao g)) Ow)) Bh)) hz)));change _<(h1.push (JM "tuple" vs.toArray 0)).objs.size;rw[size_push',z0];show LZ
def dH (prog:Program)(w:World)(A:Around)(s:Shared)(src:Value)(P:Nk->Prop):Prop:=∀(E:Value->Shared->Prop) (Q:Nk->Shared->Prop),
 (∀vs h' tk,P vs->(∀b o,RT=Nd->Qg=Nd)->s.heap.objs.size<=h'.objs.size->Q vs { s with heap:=h',toks:=tk })->wpAny P0 A (collect src) Q E s
def af4 {l:Addr}(hl:JL l vs.toArray)(hz:vs.length<=sizeLine):dH prog w A s On (λus=>us=vs):=λE Q h=>by
 show collect_list hl (h _ _ s.toks rfl (B4 ?_) (by rw[Heap.size_update,size_push'];show Nat.le_succ _)) hz;have hlt:b<s.heap.objs.size:=WB;show (Cn (Ed hlt)).trans Ra
end
variable {f:Addr}{body:Expr}
section
variable {A:Around}
def bp9 {f:Value}{kS:Addr}{body:Value->PUnit->Sem (MX PUnit)}{Fin:Nk->Nat->Shared->Prop}(J:Nat->Nk->Shared->Prop)(hz:vs.length<10000)
  (hb:∀v ks e (s':Shared) (C:Value->Shared->Prop),ks.length<10000->wpAny (model prog w) A (call f [v]) (λk s''=>s''.heap.get? kS=some (seqObj "list" ks.toArray e)/\C k s'') (λy_ y_=>False) s'->
   wpAny (model prog w) A (body v ⟨⟩) (λr s''=>r=.yield ⟨⟩/\∃k s0,C k s0/\s0.heap.get? kS=some (seqObj "list" ks.toArray e)/\∃h' c,s''={ s0 with heap:=h' }/\(∀b o,b≠kS->s0.heap.get? b=some o->h'.get? b=some o)/\h'.get? kS=some (seqObj "list" (ks++[k]).toArray c)) E s')
  (step:∀i v ks e s',vs[i]?=some v->ks.length=i->J i ks s'->s'.heap.get? kS=some (seqObj "list" ks.toArray e)->
   wpAny (model prog w) A (call f [v]) (λk s''=>s''.heap.get? kS=some (seqObj "list" ks.toArray e)/\∀h' c,(∀b o,b≠kS->s''.heap.get? b=some o->h'.get? b=some o)->h'.get? kS=some (seqObj "list" (ks++[k]).toArray c)->J (i+1) (ks++[k]) { s'' with heap:=h' }) (λy_ y_=>False) s')
  (fin:∀ks e s',ks.length=vs.length->J vs.length ks s'->Eb kS=Af (Ub e)->Fin ks e s') :
  ∀(r:Nk) (i:Nat) (ks:Nk) (e:Nat) (s:Shared),i+r.length=vs.length->(∀j v,r[j]?=Pm->vs[i+j]?=Pm)->ks.length=i->J i ks s->s.heap.get? kS=some (Ub e)->
   wpAny P0 A (forIn r PUnit.unit body) (Hr (∃ks e,Fin ks e s')) E s:=by
 intro r
 induction r with
 | nil=>
  intro i ks e s hl hr hk hJ ho;have e1:i=vs.length:=by simpa using hl
  subst e1;show CM (BH ks e (fin ks e s hk hJ ho))
 | cons v r ih=>
  intro i ks e s hl hr hk hJ ho;rw[List.length_cons] at hl;rw[List.forIn_cons];show Ah (DX (hb v ks e s _ Ab (step i v ks e s (by simpa using hr 0 v rfl) hk hJ ho)) (λq s' hq=>?_) (Cf x));let⟨rfl,k,s0,hC,h0,h',c,rfl,kp,hk'⟩:=hq;show ih (i+1) (ks++[k]) c _ (by lia) (λj u hj=>by
   have:=hr (j+1) u (by simpa using hj);lia) (by simp[hk]) (hC h' c kp hk') hk'
def af3 (ho:BU a=Af (Rw vs.toArray n))(h64:vs.length<10000)(J:Addr->Nat->Nat->Nk->Shared->Prop)
  (start:∀h' kS e1,(∀b o,b≠a->RT=Nd->Qg=Nd)->s.heap.objs.size<=kS->Bv a=FU ((seqObj "list" #[] e1))->Bv kS=FU ((seqObj "list" #[] 0))->kS<h'.objs.size->J kS e1 0 [] { s with heap:=h' })
  (atA:∀kS e1 i ks s',J kS e1 i ks s'->Eb a=FU ((seqObj "list" #[] e1)))
  (step:∀kS e1 i v ks e s',a≠kS->vs[i]?=some v->ks.length=i->J kS e1 i ks s'->s'.heap.get? kS=some (seqObj "list" ks.toArray e)->
   wpAny (model prog w) A (call (.ref f) [v]) (λk s''=>s''.heap.get? kS=some (seqObj "list" ks.toArray e)/\∀h' c,(∀b o,b≠kS->s''.heap.get? b=some o->h'.get? b=some o)->h'.get? kS=some (seqObj "list" (ks++[k]).toArray c)->J kS e1 (i+1) (ks++[k]) { s'' with heap:=h' }) (λy_ y_=>False) s')
  (fin:∀kS e1 ks s',a≠kS->J kS e1 vs.length ks s'->ks.length=vs.length->∃bk nss,TX bk s'.heap ks nss/\
   ∀h' c out,SortBy bk Value.none vs nss out->(∀b o,b≠a->b≠kS->s'.heap.get? b=some o->h'.get? b=some o)->h'.get? a=some (seqObj "list" out.toArray c)->P (.done (.ret .none)) { s' with heap:=h' }) :
  wpAny P0 A (ksk_tree a XS false) P E s:=by
 have hz:vs.length<=sizeLine:=by rw[sizeLine_eq];lia
 show bc1  ho hz λh2 kS e1 keep hlt ho2 hk0=>?_;have hsz:=Dl hlt;have hne:=BZ (Nat.lt_trans (BN ho) hlt);have J0:=start h2 kS e1 keep hsz ho2 hk0 (BN hk0);unfold ksk_rest;show ZEZ ?_;rw[List.forIn_toArray];show Ah (DX (bp9 (kS:=kS)   (Fin:=λks e s'=>ks.length=vs.length/\J kS e1 vs.length ks s'/\Eb kS=Af (Ub e)) (J kS e1) h64 (λv ks e s' C hz hx=>?_) (λi v ks e s'=>step kS e1 i v ks e s' hne) (λks e s' h1 h2 h3=>BH h1 h2 h3) vs 0 [] 0 _ Aq (λj v hj=>by simpa using hj) rfl J0 hk0) (λy_ s' hd=>?_) (Cf x))
 .show ZIY (DX hx (λk s'' ⟨nk,hC⟩=>?_) Uk);obtain⟨c2,hc2⟩:∃c2,(K0 kS (F9 ((·.push k)))).get? kS=some (seqObj "list" (ks++[k]).toArray c2):=Xq (List.push_toArray ks k▸K3 nk ((·.push k)));show Ah (MU nk rfl ?_ (by rw[List.size_toArray,sizeLine_eq];lia) (Bq (Nat.le_of_eq (Array.size_push ..)) (by rw[List.size_toArray,sizeLine_eq];lia)));show CM ⟨rfl,k,s'',hC,nk,_,c2,rfl,CA ((ZCd).trans e),hc2⟩
 .let⟨ks,e,hl,hJ,hk'⟩:=hd;let⟨bk,nss,hT,hfin⟩:=fin kS e1 ks s' hne hJ hl;have hA:=atA kS e1 _ ks s' hJ
  try dsimp only
  refine wpAny_bind (listItems_at hk' rfl ?_)
  unfold ksk_end;dsimp only;show bc0 hT (by rw[hl];simp) ?_;show Ah (DX (bc2 (P:=λst s''=>∃out,TB bk Value.none vs out/\(Tr).map (·.2)=out.toArray/\ZCn=none/\s''=s') hT hl λout st a1 a2 a3=>B0 out a1 a2 a3 rfl) (λr s'' hr=>?_) (Cf x));let⟨⟨⟩,st⟩:=r;let⟨out,hs,hout,hf,rfl⟩:=hr;unfold ksk_tail;rw[hout];have hlo:=hs.len;show Ah (MU hk' rfl ?_ Aw Bh);have k1:∀b o,b≠kS->LY b=Nd->(K0 kS (F9 (A0 ((#[]))))).get? b=Nd:=CA ((ZCd).trans e);have hA1:=k1 a _ hne hA;show Ah (IO ?_);show Ah (seqEpoch_at hA1 rfl ?_);obtain⟨c2,hc2⟩:∃c2,((K0 kS (F9 (A0 ((#[]:Array Value))))).update a (F9 ZJ8)).get? a=some (Rw out.toArray c2):=Xq (K3 hA1 ZJ8);show Ah (MU hA1 rfl ?_ Bh (by rw[List.size_toArray,sizeLine_eq];lia));rw[hf];simp only[bne_self_eq_false];show BA (hfin _ c2 out hs (λb o hb hb2 e=>(ZCd).trans (k1 b o hb2 e)) hc2)
structure KeyRun (prog:Program)(w:World)(A:Around)(s:Shared)(f:Addr)(vs:List Value)(Q:Value->Shared->Prop)(J:Addr->Addr->Nat->Nat->List Value->Shared->Prop):Prop where
 start:∀h' tk a kS e1,(∀b o,RT=Nd->Qg=Nd)->s.heap.objs.size<=a->a<kS->Bv a=FU ((seqObj "list" #[] e1))->Bv kS=FU ((seqObj "list" #[] 0))->J a kS e1 0 [] { s with heap:=h',toks:=tk }
 atA:∀a kS e1 i ks s',J a kS e1 i ks s'->Eb a=FU ((seqObj "list" #[] e1))
 step:∀a kS e1 i v ks e s',a≠kS->vs[i]?=some v->ks.length=i->J a kS e1 i ks s'->s'.heap.get? kS=some (Ub e)->
   wpAny P0 A.in1.in1 (call XS [v]) (λk s''=>LY kS=Af (Ub e)/\∀h' c,(∀b o,b≠kS->LY b=Nd->Qg=Nd)->Bv kS=Af (seqObj "list" (ks++[k]).toArray c)->J a kS e1 (i+1) (ks++[k]) { s'' with heap:=h' }) ZCM s'
 fin:∀a kS e1 ks s',a≠kS->J a kS e1 vs.length ks s'->ks.length=vs.length->∃bk nss,TX bk s'.heap ks nss/\
   ∀h' c out,SortBy bk Value.none vs nss out->(∀b o,b≠a->b≠kS->Eb b=Nd->Qg=Nd)->h'.get? a=some (Rw out.toArray c)->Q PK { s' with heap:=h' }
def au9 {src:Value}{P:Nk->Prop}(hc:dH prog w A.in1 s src P)(hP:∀vs,P vs->vs.length<10000/\∃J,KeyRun prog w A s f vs Q J) :
  wpAny P0 A (call ZCe [src] [(Str.ofString "key",.ref f)]) Q E s:=by
 show call_function_entry_kw kind_sorted plain_sorted entry_sorted (ksk_s1 _ _) ?_;show FS QU;show Ah (hc _ _ λvs h1 tk pv k1 sz=>?_);let⟨h64,J,R⟩:=hP vs pv;show Ah (wpAny_newList ?_ (by rw[sizeLine_eq];lia));show ZBX (wpAny_call_entry_kw slot_list_sort ZDh entry_list_sort ?body (ksk_l1 _ _))
 case body=>
  show af3  Ow h64 (J h1.objs.size) (λh' kS e1 kp hs2 hA hK y_=>?_) (R.atA h1.objs.size) (R.step h1.objs.size) λkS e1 ks s' hne hJ hl=>?_
  .have hs3:=hs2;rw[size_push'] at hs3;show R.start h' tk _ kS e1 (B4 (kp b o (SQ (k1 b o e)) (Ao (k1 b o e)))) sz Ab hA hK
  .let⟨bk,nss,hT,g⟩:=R.fin _ kS e1 ks s' hne hJ hl;show By bk nss hT (λh' c out a1 a2 a3=>Ts (ZBb (g h' c out a1 a2 a3)))
end
def TabA (P:Addr)(ps:OX):Heap->Prop:=CG (Cj P=Af Z3)
def CodA (c:Addr)(q:Str):Heap->Prop:=CG (h.CodeRec ZCV q)
def FnA (f:Addr)(o:Obj):Heap->Prop:=CG (Cj f=Nd)
def gV (H:Hp)(P:Addr)(q:Str)(pos:Pos):Prop:=∃ps,H P=Af (W9 P ps)/\(ps = #[]\/∃c,ps = #[W8,Yf,ZCV]/\H c=Af (R6 c q))
def BM (base:Heap)(mg:Str->OV):Prop:=∃bm ob,mg "__builtins__" = NO bm/\bm≠builtinsNs/\base.get? bm=Af ob/\ob.cls=C7 "module"/\ob.dict=Af builtinsNs/\ob.data=.plain
variable {c:Addr}{P:Program}{H:Hp}
def CodA.ok {q:Str}(x:h.CodeRec ZCV q):L5 P w H h c (R6 c q):=by
 let⟨c',o,vs,t,e,g,r⟩:=id x;cases e;show BH x (A3 o g) (Kg ?_);let⟨c',o,vs,t,e,g,r⟩:=y;cases e;show Cu c o vs t rfl (k o g) r
def TabA.ok {ps:OX}(x:Cj c=Af Z3):L5 P w H h c (W9 c ps):=BH x (Xq x) (Kg (k _ y))
def FnA.ok {o:Obj}(x:Cj c=Nd):L5 P w H h c (G6 (FnA c o)):=BH x (Xq x) (Kg (k _ y))
variable {X:Cx}{pins:Au (Addr×Obj)}{σ:St}{params:Arguments}{scope:Scope}
def bp7 {P:Addr}{pos:Pos}{clos:Au (Str×Addr)}(I:QO)(hcl:ZAL=Gx clos)(hcode:X.env.code=ZCV)(hC:codeHdIn X.K c P=true)
  (hB:BM X.base X.mg) (hT:gV H P (X.env.qual++"<lambda>") pos) (hdef:ZLV=([],[]))
  (h:∀f c' ctv H' s',Inv X pins σ H' s'->kF P H H'->gV H' P (X.env.qual++"<lambda>") pos->H f=none->f≠P->H' f=some (.ext (FnA f (kla_obj "<lambda>" (X.env.qual++"<lambda>") params body scope clos ((X.mg "__name__").getD .none) c' ctv)))->
   H' c'=some (.ext (CodA c' (X.env.qual++"<lambda>")))->Q (.ref f) s') :
  wpAny N6 X.A (O1 (ZJL body scope pos)) Q E s:=by
 let⟨ps,hP,hps⟩:=hT;have hPh:BU P=Af Z3:=(Dm P hP).1;have hg:=ZBP
 have hgP : mainGlobals ≠ P := fun q => by
  let⟨o,es,ep,e,hd,_⟩:=hg;lia
 have hb:s.heap.BuiltinsAt X.mg P:=by
  let⟨bm,ob,b1,b2,b3,b4,b5,b6⟩:=hB;have b3':=I.bk _ _ b3;show⟨bm,ob,b1,b2,EV ?_,EV ?_,b3',b4,b5,b6⟩
  .let⟨o,es,ep,e,hd,_⟩:=hg;lia
  grind
 have C:=codeHd_of_K I.kIn hC;show kla_eval hdef ?_;rcases hps with rfl|⟨c0,rfl,hc0⟩
 .show kla_makeFunction (mg:=X.mg) hcl I.ok.glob hg hcode C hPh trivial rfl hgP hb λc' ctv h' tk hx hge hlt hrec htb=>?_;have hcn:H c'=none:=Cg hge;have hcP:c'≠P:=BT Ab;have up:∀b,b≠P->b≠c'->upd (PR P (W9 P (#[]++#[W8,Yf,WA]))) c' (R6 c' (X.env.qual++"<lambda>")) b=SV:=λb h1 h2=>by rw[cj h2,cj h1]
  have neP:∀b u,SV=O8->(∀φ,u≠G6 φ)->b≠P:=λb u e n z=>by grind
  have neC:∀b u,SV=O8->b≠c':=Dc (da e hcn);have nP:∀b,SV=none->b≠P:=λb e z=>by rw[z,hP] at e;cases e
  have hok:ZHh (upd (PR P (W9 P (#[]++#[W8,Yf,WA]))) c' (R6 c' (X.env.qual++"<lambda>"))) h':=λb u e=>by
   by_cases hb:b=c'
   .subst hb;rw[c6] at e;cases e;show CodA.ok hrec
   .rw[cj hb] at e;by_cases hb2:b=P
    .subst hb2;rw[c6] at e;cases e;show TabA.ok htb
    .rw[cj hb2] at e;show (ZH8 b u).stay (λd v hd q=>hx d v ?_ q) (λd q=>by rw[up d (ZBQ d q (nomatch z)) (ZJM d)];show q) λd xs q=>by rw[up d (ZBQ d q (nomatch z)) (ZJM d)];show q
     rcases hd with z|z
     .rw[z];show hb2
     .show ZBQ d z (nomatch z)
  have un:Un X.fs [] H (upd (PR P (W9 P (#[]++#[W8,Yf,WA]))) c' (R6 c' (X.env.qual++"<lambda>"))) s.heap h':=by
   show Cu (λb o q n y_ y_=>hx b o (nP b n) q) (λb o q n y_ y_=>YQ (hx b o (nP b n) q)) (λb o q n y_=>?_) (λb o q y_=>?_) (λb xs q=>?_) (λb o u q=>?_) (λb ps q=>Pk #[])
   .rw[up b (nP b n) (BZ (Bo (BN q) hge))];show n
   .by_cases hb:b=P
    .show Xq (by rw[hb];show htb)
    .show A3 o (hx b o hb q)
   .rw[up b (ZBQ b q (nomatch z)) (ZJM b)];show q
   .rw[up b (ZBQ b q (nomatch z)) (ZJM b)];show q
   .rw[up b (ZBQ b q (nomatch z)) (ZJM b),q];simp
  have I1:Inv X pins σ _ { s with heap:=h',toks:=tk }:=I.un un hok;have hfn:=Dk (Nat.le_refl h'.objs.size);have I2:=I1.laid (t':=tk) (a:=h'.objs.size) (o:=G6 (FnA h'.objs.size (kla_obj "<lambda>" (X.env.qual++"<lambda>") params body scope clos ((S8).getD .none) c' ctv)))  (Dc Ra) As (FnA.ok Ow);have hfP:h'.objs.size≠P:=λz=>by
   have:=BN htb
   simp_all
  have hfc:c'≠h'.objs.size:=BZ hlt;have hfH:H h'.objs.size=none:=by rw[<-up _ hfP (BX hfc)];show hfn
  show h _ c' ctv _ _ I2 (GS ?_) (U6 ?_ (Eh (Oa c' ?_))) hfH hfP c6 ?_
  .rw[cj (da e hfH),up b n (neC b _ e)];show e
  .rw[cj (BX hfP),cj (BX hcP),c6];rfl
  .rw[cj hfc,c6]
  .rw[cj hfc,c6]
 .have hf:codeAmong pos (#[rawInt pos.line,rawInt pos.col,Value.ref c0]:Array Value).toList=NO c0:=codeAmong_snoc [] trivial rfl;show kla_makeFunctionHit (mg:=X.mg) hcl I.ok.glob hg hcode C hPh trivial hf hb λctv h' tk hk hsz=>?_;have hfn:=Cg hsz;have I2:=I.laid (t':=tk) (a:=h'.objs.size)  (h':=h'.push (kla_obj "<lambda>" (X.env.qual++"<lambda>") params body scope clos ((S8).getD .none) c0 ctv)) (Dc (Ao (hk b u e))) hsz (FnA.ok Ow);have hfP:h'.objs.size≠P:=BX (da hP hfn);have hfc:c0≠h'.objs.size:=da hc0 hfn;show h _ c0 ctv _ _ I2 (GS ?_) (U6 ?_ (Eh (Oa c0 ?_))) hfn hfP c6 ?_
  .rw[cj (da e hfn)];show e
  .rw[cj (BX hfP)];show hP
  .rw[cj hfc];show hc0
  .rw[cj hfc];show hc0
def fR (X:Cx)(N':Pg)(qual:Str)(scope:Scope)(f c':Addr)(cl:Au (Str×Addr))(A:Around)(s:Shared)(H:Hp):Cx:=
 { prog:=X.prog,w:=X.w,K:=X.K,mg:=X.mg,base:=X.base,A:=A.deeper (envX qual scope s.heap.objs.size f WA cl),N:=N',s₀:=s,H₀:=H,env:=envX qual scope s.heap.objs.size f WA cl,outer:=X.stack,stack:=envX qual scope s.heap.objs.size f WA cl::X.stack,ex:=[],fn:=λy_=>false,calm:=true,pn:=[],xe:=λy_ y_=>False }
def bp8 {A:Around}{c':Addr}{name qual:Str}{cl:Au (Str×Addr)}{pm ctv u:Value}{v:V}{N':Pg}{fr:St->St}{te:TE}{Q:VK}
  (I:QO) (hA:A.frames=Af X.stack) (hr:Room (k+1) A) (hf:BU f=Af (kla_obj name qual params body scope cl pm c' ctv)) (hcd:s.heap.CodeRec WA qual) (rv:UA)
  (hbind:Ko (kla_fn name qual params body scope cl pm WA ctv) (YR [u])=pure [(x,u)]) (hx:B9 x=N9) (hco:scope.isCoroutine=false) (hgen:scope.isGenerator=false) (hk:scope.kind=.function)
  (hcell:∀y∈scope.names,y.2≠.cell) (hN0:N'[0]?=OZ) (hcl:∀y c,Ip y=Qz->Ba y=Qz)
  (hhas:∀y,(B9 y=PP\/B9 y=RC)->∃c,Ip y=Qz) (hfl:(Z4).length+1=N'.length)
  (hfr:∀(i:Nat) (y:Str) (v':V),N'[i+1]?=Qt->(Z4)[i]?=Af (Af v')->∃j:Nat,X.N[j]?=Qt/\σ[j]?=Af (Af v')/\Ef y=PP/\B9 y=RC)
  (he:PE (fR X N' qual scope f c' cl A s H) body te) (q:te (Pm::Z4) H Q) :
  wpAny N6 A (call XS [u]) (λu' s'=>∃v' H',P5 H' s'/\F3 v' u'/\Q v' H') ZCM s:=by
 show wpAny_call (kla_callFunE hr.depth hf rfl hco hgen rfl hcd ?_);rw[hbind];show BA (wpAny_newFunctionEnv hcell ZF1 (λh₁ hns hsb=>Pk ((I.nolimit).fresh _ hsb)) hk)
 .simp_all
 have hk₁:=B4 (hsb.extBut b o ZEz Ra);have nox:∀b:Addr,b∉(fR X N' qual scope f c' cl A s H).ex:=λb z=>CN (BD (b∈([]:List Addr)) z) Aq;have ok:(fR X N' qual scope f c' cl A s H).Ok:=⟨I.ok.mod,hk,rfl,rfl,Nat.le_refl _,λy z c h1 h2=>I.ok.inj y z c (hcl y c h1) (hcl z c h2),λy hy=>hhas y hy,λy c z y_=>absurd (show false=true from z) (by decide),λy_=>hr.hd,Around.frames_deeper hA,.inr ⟨rfl,rfl⟩,
  λb z=>absurd z (nox b),I.bs,Nat.le_trans I.ok.bsz I.sz,λb y_ y_=>nox b,λb z=>absurd z (nox b),I.stack,I.stkFree⟩
 have IB:Inv (fR X N' qual scope f c' cl A s H) [] (some v::fr σ) H { s with heap:=h₁,toks:=s.toks+([(x,u)]).length }:=by
  show⟨ok,rfl,I.bare,Un.kept hk₁,U6 hns (λi y v' e1 e2 e3=>?_),λy c e=>?_,S0,λy c e=>ZDC y (hcl y c e),Bg (by simp[fR] at hp),I.hok.kept hk₁,by simpa [fR] using hfl⟩
  .cases i with
   | zero=>
    have ey:=BW (hN0.symm.trans e1);subst ey;have ev:=by simpa using e2
    subst ev;show BH u rv (FK (Pk hx));simp
   | succ i=>
    let⟨j,n1,n2,n3,n4⟩:=hfr i y v' e1 (by simpa using e2);let⟨m,_,hl⟩:=I.loc;let⟨u',r,l⟩:=hl j y v' n1 n2 (CK (CD n3));show BH u' r (Eh (Pk (CK n4)));rcases l with⟨k,_⟩|⟨_,c,e,ic⟩
    .simp_all
    .let⟨c2,e'⟩:=hhas y (CK n4);have e'':=hcl y c2 e';rw[e] at e'';cases e'';let⟨o,ho,hd⟩:=ic;show B0 c e' o (hk₁ c o ho) hd
  .let⟨v',o,ho,hd⟩:=Yr y (hcl y c e);show By v' o (hk₁ c o ho) hd
 show kla_codeExpr (DX (he [] _ _ H Q IB q) (λu' s' ⟨v',H',J,r',q'⟩=>?_) Uk);show B0 v' H' (I.call' (s':=s') (ch:=[]) J.os J.base J.hok J.bare (Cs (by simp at hb))) r' q'
abbrev SRC:=V->Hp->(Om->Prop)->Prop
def iV (X:Cx)(src:SRC):Prop:=∀(pins:List (Addr×Obj)) (s:Shared) (σ:St) (H:Hp) (x:V) (u:Value) (R:List V->Prop),QO->ZBF->src x H R->∃ys,R ys/\dH X.prog X.w X.A.in1 s u (λus=>TZ ys)
def nV (K:PySem.W.Frag):SRC:=JB (∃l ys,x=On/\XG K l ys/\R ys)
variable {kvs:Om}
def au8:iV X (nV X.K):=λpins s σ H x u R I r ⟨l,ys,e,h,q⟩=>by
 subst e;cases r;let⟨its,rv,⟨o,n,e,hc,hd,hs⟩,hz⟩:=GI h;show BH ys q (λE Q h=>af4 (B0 o e hc n hs) (by rw[<-rv.length];show hz) E Q λus h' tk e=>h us h' tk (by rw[e];show rv))
def Inv.take {kS:Addr}{h':Heap}{ys:Om}{c:Nat}{t':Nat}(I:QO)(fa:SG X H a)(fk:SG X H kS)(k:∀b o,b≠a->b≠kS->RT=Nd->Qg=Nd)
  (ho:Bv a=Af (Rw us.toArray c)) (rv:TZ ys) (hz:ys.length<=sizeLine):Inv X pins σ (Sr a ys) { s with heap:=h',toks:=t' }:=by
 have na:∀b u,SV=O8->b≠a:=Dc (da e fa.1);have nk:∀b u,SV=O8->b≠kS:=Dc (da e fk.1);have neL:∀b,b∉([a,kS]:List Addr)->b≠a/\b≠kS:=Cs (A3 (BT (hb (by simp[z]))) (BT (hb (by simp[z]))));show I.step (g':=s.gens) (d':=s.drawn) (ch:=[a,kS]) U9 (FO (k b o (ZGn).1 (ZGn).2 e)) (FO (YQ (k b o (ZGn).1 (ZGn).2 e))) (λb o hc y_ n=>by rw[cj (ZGn).1];show n)
  (λb o hc e=>A3 o (k b o (ZGn).1 (ZGn).2 e)) (λb xs e=>by rw[cj (na b _ e)];show e) (λb o u e=>by rw[cj (na b _ e)];show e) (IT (A3 #[] (by rw[cj (na b _ e),e];simp))) (λm hm=>?_) (Dc ?_) I.bare
 .rcases List.mem_cons.mp hb with rfl | hb
  .show By fa.2.2.2.1 fa.2.1 fa.2.2.2.2.1 fa.2.2.2.2.2
  .have e:b=kS:=by simpa using hb
   subst e;show By fk.2.2.2.1 fk.2.1 fk.2.2.2.2.1 fk.2.2.2.2.2
 .let⟨o,es,ep,ho',r⟩:=hm;show B0 o es ep (k _ o (BX fa.2.1) (BX fk.2.1) ho') r
 .by_cases hb:b=a
  .subst hb;rw[c6] at e;cases e;show B0 hz us c rv ho
  .rw[cj hb] at e;show (ZH8 b u).stay (λd v hd q=>?_) (λd q=>by rw[cj (na d _ q)];show q) λd xs q=>by rw[cj (na d _ q)];show q
   rcases hd with z|z
   .rw[z] at q ⊢;show k b v hb (nk b u e) q
   .show k d v (na d _ z) (nk d _ z) q
def bj4 (I:QO)(h:GK kvs ks)(g:mZ H kvs nss)(hne:∀ns∈nss,ns≠[]):TK s.heap ks nss:=by
 induction h generalizing nss with
 | nil=>cases g;show .nil
 | cons r t ih=>
  rcases g with _|⟨z,zs⟩;show Iu ?_ (ih zs λns hns=>hne ns (A7 hns));let⟨a,rfl,ha⟩:=z;cases r;let⟨_,its,rv,ht⟩:=(BD (ZA4 X.w H s.heap a (.tup _)) (Dm a ha))
  show Dt a its rfl ht (ay7 rv) (hne _ (List.mem_cons_self ..))
def iY (b:Bool)(H:Hp)(k:V)(ns:NX):Prop:=Ak (b=true) (∃n,k=BR n/\ns=[n]) (nB H k ns)
def b84 (I:QO)(rv:GK kvs ks)(h:CB (iY b H) kvs nss)(hne:∀ns∈nss,ns≠[]):TX b s.heap ks nss:=by
 cases b with
 | false=>show bj4 I rv h hne
 | true=>
  change ZJJ
  induction h generalizing ks with
  | nil=>cases rv;show .nil
  | cons p t ih=>
   cases rv with
   | cons r rs=>
    let⟨n,rfl,e⟩:=p;let⟨t',e'⟩:=r;show .cons (By n t' e' e) (ih rs λns h=>hne ns (A7 h))
def Room.units65 {A:Around}(r:VN A):A.units+65<cLine:=by have:=r.un;lia
section
open PySem.SeqAt PyProof.V
def tw:∀{a b:List Int},a.map V.int=b.map V.int->a=b
 | [],[],_=>rfl
 | [],_::_,h=>by cases h
 | _::_,[],h=>by cases h
 | x::a,y::b,h=>by
  simp only[List.map_cons,List.cons.injEq,V.int.injEq] at h;rw[h.1,tw h.2]
open Classical in
def hV (K:PySem.W.Frag)(H:Hp)(ns:NX):Value->Bool
 | .ref a=>decide (fU K H PK ns)
 | _=>false
open Classical in
set_option tactic.hygienic true in
def b29 (I:QO):∀{ys:List V} {us:List Value} {nss:List (List Int)},TZ ys->CB (fU X.K H) ys nss->us.any (hV X.K H ns)=Cd (ns∈nss)/\∀u∈us,∃y ms,ZC1/\fU X.K H y ms/\hV X.K H ns u=Cd (ms=ns):=by
 intro ys
 induction ys with
 | nil=>intro _ _ h g;cases h;cases g;show⟨by simp,λu hu=>by simp at hu⟩
 | cons y ys ih=>
  intro _ _ h g;rcases h with _|⟨r,t⟩;rcases g with _|⟨p,q⟩;rename_i u us ms nss;let⟨h1,h2⟩:=ih t q;have e:hV X.K H ns u=Cd (ms=ns):=by
   let⟨a,rfl,ha⟩:=id p;cases r;change Cd (fU X.K H PK ns)=_;by_cases hm:ms=ns
   .rw[decide_eq_true hm,decide_eq_true (hm▸p)]
   .rw[decide_eq_false hm,decide_eq_false];rintro⟨b,eb,hb⟩;cases eb;have:=I.tuple_inj ha hb;show hm (tw this)
  show ZHE ZKk
  .rw[List.any_cons,h1,e];by_cases hm:ms=ns
   .simp[hm]
   .simp[hm,Ne.symm hm]
  .rcases List.mem_cons.mp hv with rfl|hv
   .show B0 y ms r p e
   .show h2 v hv
end
variable {K:PySem.W.Frag}{mg:Str->OV}{fd:FuncData}
def Fun.okL {base:Heap}{qual:Str}{st:Stmt}{N ps:Pg}{sp:Sp}(F:Fun K x qual st f fd)(hc:fd.code=ZCV)(S:ZGZ N U5)
  (len:∀vs H Q E,sp vs H Q E->vs.length=ps.length)
  (hbody:∀(A:Around) (outer:List Env) (s:Shared) (H:Hp) (vs:List V) (Q:VK) (E:XK),Room k (A.deeper (envOfC qual (aB st) s.heap.objs.size f (.ref c)))->sp vs H Q E->
   ∃t,PSs (fT CX0 P w K mg base N qual (aB st) f (.ref c) A outer s H E).nox (bG st) t/\t { nx:=λy_ H'=>Q .non H',rt:=Q } (start N vs) H):FnOk P w K mg base CX0 (k+1) f fd ps sp:=by
 let⟨oc,od,kV,doc,pm,an,cdv,ct,osl,e,lk,hcd⟩:=F.ex;subst e;have e2:=hc;subst e2;show b70 lk hcd S len λA outer s H vs Q E hr hsp=>let ⟨t,h,q⟩:=hbody A outer s H vs Q E hr hsp;⟨t,h.nox,q⟩
variable {ts:PD}
def bg3 {mb:Str->OV}{fa:Addr}{sp:Sp}{s₁:Shared}
  (KX:K.In s₁.heap) (hns:s₁.heap.Ns mainGlobals mg) (hb:s₁.heap.Ns builtinsNs mb) (hbb:∀x:Str,x≠"__name__"->mb x=Cz x) (hlim:s₁.heap.NoLimit) (hg:s₁.gens = #[])
  (ha:Kf a=FU ({ cls:=.type "list",data:=.seq vs.toArray })) (hi:LI vs ns) (hl:ns.length<=sizeLine) (hr:VN callerA)
  (hT:∀p∈ts,Kf p=FU ((tabObj #[]))/\GW p=none/\isCodeTable s₁.heap p) (hBM:BM s₁.heap mg)
  (F:∀base:Heap,K.In base->ZIw mg->BM base mg->FnOk P w K mg base CX0 k fa fd [x] sp) (hbind:∀(s:Shared) (u:Value),BindsTo s fd (YR [u]) [(x,u)])
  (hsp:∀H:Hp,XG K a P2->(∀p∈ts,H p=ZFc ((TabA p #[])))->sp [PK] H (λv H'=>v=TN/\∀p∈ts,∃ps,H' p=Af (W9 p ps)) YU) :
  codeAny (B2 P w) callerA (.call (A5 fa) (YR [PK])) (Mh (r=T6 Xv/\OldK s₁.heap s'.heap/\s'.os=s₁.os/\ZEn)) s₁:=by
 have rv:=af9 hi;have naT:a∉ts:=λz=>by
  simp_all
 have core:∀(Ha:ZAE) (H:Hp),(∀b,SV=Ak (b∈ts) (ZFc ((TabA b #[]))) (Ak (b=a) Ha none))->(Ha=none\/∃o xs,Ha=Wz o Ps/\GW a=none)->SqL K H a P2->HOk P w H s₁.heap->
   codeAny (B2 P w) callerA (.call (A5 fa) (YR [PK])) (Mh (r=T6 Xv/\OldK s₁.heap s'.heap/\s'.os=s₁.os/\ZEn)) s₁:=by
  intro Ha H hH hHa hS hok;have tr:∀b,SV≠none->b∈ts\/(b=a/\GW a=none):=λb hb=>by
   rw[hH b] at hb;by_cases h1:b∈ts
   .show CD h1
   .rw[if_neg h1] at hb;by_cases h2:b=a
    .rw[if_pos h2] at hb;rcases hHa with z|⟨o,xs,z,q⟩
     .show CN z hb
     .show Vo h2 q
    simp_all
  have free:∀{b:Addr} {o:Obj},Kf b=Nd->(∀ps,o.data≠.fields ps)->(∀xs n,o.data≠.seq xs n)->SV=none:=λ{b o} e n1 n2=>by
   cases q:H b with
   | none=>rfl
   | some u=>
    rcases tr b (by rw[q];simp) with z|⟨z,_⟩
    .have:=(hT b z).1;rw[e] at this;cases this;show ZHI (n1 _)
    grind
  have nsK:∀{b:Addr} {m:Str->Option Value},s₁.heap.Ns b m->(Yq H).Ns b m:=λ{b m} ⟨o,es,ep,e,d,r⟩=>Dt o es ep (ad4 e (free e (Fe (by rw[d] at z;cases z)) (Ce (by rw[d] at z;cases z)))) d r;have hKb:K.In (fS s₁.heap H):=λb o e=>ad4 (KX b o e) (by
   grind)
  have hBb:BM (Yq H) mg:=by
   let⟨bm,ob,b1,b2,b3,b4,b5,b6⟩:=hBM;show IZ bm ob b1 b2 (ad4 b3 (free b3 (Fe (by rw[b6] at z;cases z)) (Ce (by rw[b6] at z;cases z)))) b4 b5 b6
  have hM:Mod K mg (Yq H):=⟨hKb,nsK hns,⟨mb,nsK hb,hbb⟩,let ⟨mc,h1,h2⟩:=hlim;⟨mc,nsK h1,h2⟩⟩
  have e0:Env0 P w K mg (Yq H) callerA [] s₁ H:=IZ rfl hM (B4 (b10 e)) (Nat.le_of_eq (bg9 _ _)) trivial (Cs (CN (BD (b∈([]:List Addr)) hb) Aq)) hok (.of_eq hg);show codeAny_mono ((F _ hKb (nsK hns) hBb).run callerA [] s₁ H (YR [PK]) [PK] [PK] _ _ hr e0 (hbind s₁ PK) (ZA3 rfl) (hsp H hS (Bg (by rw[hH p,if_pos hp])))) λr s' h=>?_;cases r with
  | error e=>show False.elim h
  | ok fl=>
   cases fl with
   | next=>show False.elim h
   | brk=>show False.elim h
   | cont=>show False.elim h
   | ret u=>
    let⟨v,H',os,bare,un,hok',r',q,qT⟩:=h;subst q;obtain rfl:u=Value.bool true:=r';have tab:∀p∈ts,∃ps,Eb p=Af Z3:=λp hp=>by
     let⟨ps,e⟩:=qT p hp;show A3 ps ((hok' p _ e).1)
    have old:=λb o e n=>by
     cases q:H b with
     | none=>show un.keep b o e q (BT (CN (BD (b∈([]:List Addr)) z) Aq)) Aq
     | some u=>
      rw[hH b,if_neg n] at q;by_cases h2:b=a
      .rw[if_pos h2] at q;rcases hHa with z|⟨ob,xs,z,_⟩
       .rw[z] at q;cases q
       .have hb':SV=Wz ob Ps:=by rw[hH b,if_neg n,if_pos h2,z]
        have z2:=un.frzs b ob _ hb';let⟨e1,_⟩:=hok b _ hb';let⟨e2,_⟩:=hok' b _ z2;rw[e] at e1;lia
      .rw[if_neg h2] at q;cases q
    show By rfl (A3 (B4 ?_) (B4 ?_)) os bare
    .by_cases hb:b∈ts
     .let⟨ps,e2⟩:=tab b hb;have e3:=(hT b hb).1;rw[e] at e3;cases e3;show CK (FK (Dt ((hT b hb).2.2) rfl #[] ps rfl (by rw[e2];simp)))
     .show CD (old b o e hb)
    .by_cases hb:b∈ts
     .let⟨ps,e2⟩:=tab b hb;show Xq e2
     .show A3 o (old b o e hb)
 have lenV:=hi.length;cases hk:K.lookup a with
 | some o=>
  have e:=KX a o hk;rw[ha] at e;cases e;show core none (Fj (Ak (b∈ts) (ZFc ((TabA b #[]))) (Ak (b=a) none none))) (Fj rfl) OP (Eh (IV _ vs.toArray _ hk rfl rfl rfl (by rw[List.size_toArray,lenV];show hl) (by simpa using rv))) λb u z=>?_;by_cases h1:b∈ts
  .have z':=(if_pos h1).symm.trans z;cases z';show TabA.ok (hT b h1).1
  simp_all
 | none=>
  show core (Af (.frz { cls:=.type "list",data:=.seq vs.toArray } (Bc P2))) (Fj (Ak (b∈ts) (ZFc ((TabA b #[]))) (Ak (b=a) (Af (.frz { cls:=.type "list",data:=.seq vs.toArray } (Bc P2))) none))) (Fj rfl) (Eh (Pq _ _ hk)) (CD (Vo ({ cls:=.type "list",data:=.seq vs.toArray }) ((if_neg naT).trans (if_pos rfl)))) λb u z=>?_;by_cases h1:b∈ts
  .have z':=(if_pos h1).symm.trans z;cases z';show TabA.ok (hT b h1).1
  .have z':=(if_neg h1).symm.trans z;by_cases hb:b=a
   .have z2:=(if_pos hb).symm.trans z';cases z2;subst hb;show Dt ha (by rw[List.length_map];show hl) vs _ rv ha
   simp_all
theorem walk_ofT {l:PySem.W.OpenLaw}{q:Program}{loose:Pg}{XP:(Str->OV)->Heap->Prop}{YP:World->Heap->Prop}{d:DefRec}{K:Params->PySem.W.Frag}{sp:World->Sp}
  (hn:l.most=ZJx) (hn2:n<=sizeLine) (hdf:d.params.defaults=[]) (hr:VN callerA) (hY:∀(w:World) (h:Heap),YP w h->(YD).In h) (hTs:∀(w:World) (h:Heap),YP w h->∀p∈ts,Cj p=FU ((tabObj #[])))
  (F:∀(w:World) (mg:Str->Option Value) (fa:Addr) (h:Heap),(K w.params).In h->h.Ns mainGlobals mg->mg d.name=some (.ref fa)->
   (∀p∈ts,(K w.params).lookup p=none/\∃c,codeHdIn (K w.params) c p=true)/\∃fd:FuncData,(∀(s:Shared) (u:Value),BindsTo s fd ⟨[u],[]⟩ [(x,u)])/\∀base:Heap,(K w.params).In base->base.Ns mainGlobals mg->BM base mg->FnOk l.prog w (K w.params) mg base CX0 k fa fd [x] (sp w))
  (hsp:∀(w:World) (H:Hp) (a:Addr) (ns:List Int),ns.length<=n->XG YD a P2->(∀p∈ts,H p=ZFc ((TabA p #[])))->sp w [PK] H (λv H'=>v=TN/\∀p∈ts,∃ps,H' p=Af (W9 p ps)) YU) :
  PySem.W.WalkO q loose XP YP l.row.toRowW d [] (WZ f vs):=by
 show Att.attach_call hn hdf λw s₀ s₁ mg mb fa o pm cd doc a vs ns G Y ho hd hcd hmg hobj hints hlen hg=>?_;have KX:=hY w _ Y;let⟨hKt,fd,hb,hF⟩:=F w mg fa _ KX G.T.g hmg;show bg3  KX G.T.g G.T.b G.T.builtins G.T.nolimit hg hobj hints (Bq hlen hn2) hr (Bg (Qs (hTs w _ Y p hp) ((hKt p hp).1))) G.T.bmain hF hb λH hS hT=>hsp w H a ns hlen hS hT;let⟨c,hc⟩:=(hKt p hp).2;let⟨o,vs',file,tf,fl,tg,b,n',tt,e1,e2,e3,e4,_⟩:=codeHd_of_K KX hc;show Cu c o vs' e1 e2 e3 e4
end L2
namespace L2
open PySem PySem.Spec PyProof.Rows
def Ite (a:Addr):It:=
  ⟨λi H=>∃xs x,H a=some (.lst xs)/\xs[i]?=some x,
   λi H v H'=>∃p x,H p=none/\v=.ref p/\H'=upd H p (ZHQ P1 x)/\∀xs,H a=some Ps->xs[i]?=some x,
   λi H=>∃xs,H a=some (.lst xs)/\xs.length<=i⟩
variable {w:World}{es:Oh}{pos:Pos}{e:Expr}{it:Addr}{a:Pt3}
def bb6 {P:Program}{K:PySem.W.Frag}{n1}{e a:Addr}(hne:e≠it):Turn P w K (ZDm n1) (Ite a) [e,it] e (HC ((∃old,IsEnum h e it i old)/\LK it a i)) where
 mem:=Aq
 obj:=λi h st b hb=>by
  let⟨⟨old,he⟩,o,ho,_,hd⟩:=st
  simp only [List.mem_cons, List.not_mem_nil, or_false] at hb
  rcases hb with rfl|rfl
  .show U6 he (Li (nomatch z))
  simp_all
 keep:=λi h h' st k=>by
  let⟨⟨old,he⟩,o,ho,r⟩:=st;show By (A3 old (ZAa e he)) o (ZAa it ho) r
 item:=by
  intro X hP hw hK hc i pins s σ H E I hf st hg;let⟨xs,x,ha,ex⟩:=hg;let⟨⟨old,he⟩,hit⟩:=st;let⟨_,its,n,ru,e'⟩:=(BD (ZA4 X.w H s.heap a Ps) (Dm a ha))
  let⟨u,hu,rxu⟩:=ZGh;have hl:JL a its.toArray:=ZJ _ e' n;show wpAny_pyNext_enum_item he hit hl  (by simpa using hu) hne λh1 a1 a2 a3 a4 a5=>Ts ?_;show wpAny_letOwnedTupleGo_enum (s:={ s with heap:=h1,toks:=s.toks+1 }) a1 λh2 he2 sb=>?_;have el:=BN he;have fr:=S0;have up:∀b o,b≠e->h1.get? b=Nd->Lr b=Nd:=λb o n g=>Mx n g;have hT:=KB (Ed el) a3;have I2:Inv X pins σ (upd H s.heap.objs.size (.tup [.int i,x])) { s with heap:=h2 }:=I.turnedT (ch:=[e,it]) (λb o n g=>by
   simp_all) hf hT ⟨_,rfl⟩ rxu
  show Cu Nf (QI (ZHQ P1 x)) (I2.tok _) rfl (Re _ x fr rfl ZO) (A3 (Pk u) (a2.at λo g=>up _ o (BX hne) g)) U9
  .simp_all
  .show he2
  .have:b≠s.heap.objs.size:=by
    simp only [List.mem_cons, List.not_mem_nil, or_false] at hb
    rcases hb with rfl|rfl
    .show BZ el
    .let⟨o,ho,_⟩:=hit;show SQ ho
   rw[cj this];show (ZDv).1
 done:=by
  intro X hP hw hK hc i pins s σ H E I hf st hg;let⟨xs,ha,hl'⟩:=hg;let⟨⟨old,he⟩,hit⟩:=st;let⟨_,its,n,ru,e'⟩:=(BD (ZA4 X.w H s.heap a Ps) (Dm a ha))
  have hl:JL a its.toArray:=ZJ _ e' n;have l1:=ru.length;show wpAny_pyNext_enum_end S3 he hit hl (by simp;lia) λh' ext=>OI (I.turnedL  (λb o n g=>?_) hf);simp only[List.mem_cons,List.not_mem_nil,or_false,not_or] at n;show ext b o n.2 g
 self:=λy_ y_ y_ y_ y_ st h=>by
  let⟨⟨old,he⟩,_⟩:=st;show wpAny_pyIter_enum he h
variable {X:Cx}{p:Pt3}
def lZ (t:TA):TI:=KI (t σ H (GB (∃a xs,vs=[PK]/\H1 a=Ou/\R (Ite a) H1)))
def bz2 {n1}{tp:Pos}{ta:TA}{p:Pos}(hg:ZLW)(hm:ZKn = none)(hb:ZKQ = Af ZKR)(ha:PA X [e] ta)
  (hs:No (OY [e]=[(false,eval e X.env)])):PI X (ZH n1 tp) (ZBu "enumerate" p [e]) (lZ ta):=by
 intro pins s σ H R I h;show Call_ (qa I hg hm hb (Co (thn (WV pos s σ H I h) λus s1 ⟨vs,H1,I1,r1,q1⟩=>?_) (by rw[hs];rfl) AB));let⟨a,xs,rfl,h1,q⟩:=q1;cases r1 with
 | cons r rr=>
  cases rr;cases r;let⟨_,its,n,ru,e'⟩:=(Mw a h1)
  show call_enumerate_list  (ZJ _ e' n) λh' z1 z2 z3 k=>?_;show wpAny_pyIter_enum  z1 ?_;show ZDs (s1.heap.objs.size+1) [s1.heap.objs.size+1,s1.heap.objs.size] _ H1 rfl ZD5 (bb6 (Ed LZ)) (A3 (Xq z1) z2) U9 q;have ge:s1.heap.objs.size<=b:=by
   simp only [List.mem_cons, List.not_mem_nil, or_false] at hb
   rcases hb with rfl|rfl <;> lia
  show LJ ge (Dk ge)
open PyProof.V PySem.SeqAt PySem.W
def jC (K:PySem.W.Frag):V->V->Hp->VK->Prop:=DW (∃p ys nss ns,y=Pw/\XG K p ys/\CB (fU K H) ys nss/\fU K H x ns/\Q (.bl (!decide (ns∈nss))) H)
def be2 (hu:X.A.units+65<cLine):QY (DO .NotIn) (jC X.K):=by
 intro pins s σ H x y v u Q I rx ry h;let⟨p,ys,nss,ns,rfl,hq,pt,tx,q⟩:=h;cases ry;let⟨its,r,pl,hz⟩:=WK;let⟨h1,h2⟩:=b29 (ns:=ns) I r pt;show SeqAt.notIn_listAt (hV X.K H ns) pl.isList (λw hw=>?_) (Py (.bl _) H I ?_)
 .let⟨z,ms,rz,tz,e⟩:=h2 w (by simpa using hw);rw[e];let⟨a,rfl,ha⟩:=id tz;let⟨b,rfl,hb⟩:=id tx;cases rz;cases rx;by_cases hab:a=b
  .subst hab;have e2:ms=ns:=tw (I.tuple_inj ha hb);rw[decide_eq_true e2];show SeqAt.EqAt.same _
  .show SeqAt.EqAt.of_refs hab λprog w E Q' hq'=>?_;show eq_dataH_same (I.tupI (v:=PK) rfl tz) (I.tupI (v:=V9) rfl tx) (ag5 ms) (ag5 ns) (by change X.A.units+1+64<_;omega) (by simp only[noMix];show PySem.W.noMix_ints ms ns) ?_;rw[show PySem.Spec.same (PyData.tuple Vy) (PyData.tuple Pi)=decide (ms=ns) by simp only[PySem.Spec.same];rw[PySem.W.same_ints]];show hq'
 .rw[show its.toArray.any (hV X.K H ns)=its.any (hV X.K H ns) by simp,h1];show q
def fN (a:Addr)(n:Nat):Heap->Prop:=CG (∃t u v,IsRange h a 0 n 1 t u v)
def as9:ZIo (C7 "range") (∃n:Nat,xs=[BR n]/\∀p,H p=none->Q Pw (PR p (G6 (fN p n)))):=by
 intro pins s σ H xs us Q I r h;let⟨n,rfl,q⟩:=h;let⟨u,rfl,ru⟩:=ZAb;let⟨t,rfl⟩:=(BD (∃t,u=II n t) ru)
 show call_range_1 (Zn KC _ (I.laid (t':=s.toks+1+1) (o:=G6 (fN s.heap.objs.size n)) WF As ?_) S0);show BH ⟨_,_,_,IsRange.new ..⟩ (Xq Ow) (λh1 h2 ⟨a,b,c,p⟩ k=>By a b c (k _ p))
variable {prog:Program}{E:Value->Shared->Prop}{s:Shared}{n:Nat}{v:Value}
section
variable {A:Around}
def ae1 {r:Addr}{t u v:Tok}(hh:A.handled=none)(hr:IsRange s.heap r 0 n 1 t u v)(hn:n<=100000):dH prog w A s (A5 r) (λus=>us.length=n/\∀(i:Nat) x,us[i]?=OZ->∃t,x=ZE6):=λE Q h=>by
 unfold collect
 refine wpAny_bind (wpAny_runValue (codeAny_builtin entry_proto_collect' ?_))
 change EM ((do again (.builtin "list.__iadd__" (YR [<-newList [],.ref r])))) s
 refine wpAny_bind (wpAny_newList (wpAny_pure ⟨Code.quiet_builtin _ (by decide +kernel), codeAny_builtin entry_list_iadd' ?_⟩))
 change wpAny _ _ (Builtin.List.listExtendWith Nf (A5 r) Nf) _ _ { s with heap:=s.heap.push (seqObj "list" #[] 0) };rw[Around.under_plainId (id:="list.__iadd__") AD];show wpAny_extend_range (s:={ s with heap:=s.heap.push (seqObj "list" #[] 0) }) (A:=A) (n:=n) (R:=λr s'=>match r with
  | .ok (.ret v)=>wpAny (model prog w) A (match v with
   | .ref a=>do
    let o <-load a
    match o.data with
    | .seq xs _=>pure xs.toList
    | _ => unsupported "internal:collect"
   | _=>unsupported "internal:collect") Q E s'
  | .ok _=>False
  | .error e=>E e s') (by show hh) (Heap.get?_push_of_some _ hr) (small_one (by lia) (by lia) (by lia) (by lia)) (by rw[rangeSize_one];split <;> lia) (by lia) _ _ 0 (Heap.get?_push_size _ rfl) λh' tk acc c hk hS it=>?_
 show wpAny (model prog w) A (do
   let o <-load s.heap.objs.size
   match o.data with
   | .seq xs _=>pure xs.toList
   | _=>unsupported "internal:collect") Q E { s with heap:=h',toks:=tk }
 show Ah (wpAny_load hS ?_);change wpAny _ _ (Gx acc.toList) Q E _;show BA (h _ h' tk (A3 (by simpa using it.1) ZJN) (B4 (hk b o ZEz Ra)) (Dl (BN hS)));let⟨t,e⟩:=it.2 i x (by simpa using hx);show A3 t (by rw[e,Int.zero_add,Int.mul_one])
end
def nU:SRC:=JB (∃a n,x=PK/\Vj=Af (G6 (fN a n))/\n<=100000/\R ((Za).map λ(i:Nat)=>ZFO))
variable {us:Nk}
def au3 (h1:us.length=n)(h2:∀(i:Nat) x,us[i]?=OZ->∃t,x=ZE6):TZ ((Za).map λ(i:Nat)=>ZFO):=by
 have key:∀(us:List Value) (k:Nat),(∀(i:Nat) x,us[i]?=OZ->∃t,x=.int ((k+i:Nat):Int) t)->TZ ((List.range' k us.length).map λ(i:Nat)=>ZFO):=by
  intro us
  induction us with
  | nil=>intro k _;show .nil
  | cons u us ih=>
   intro k h;rw[List.length_cons,List.range'_succ];show Iu (h 0 u rfl) (ih (k+1) ZJN);let⟨t,e⟩:=h (i+1) x (by simpa using hx);show A3 t (by rw[e];congr 1;lia)
 rw[List.range_eq_range',<-h1];show key us 0 λi x hx=>by let⟨t,e⟩:=h2 i x hx;show⟨t,by rw[e];congr 1;lia⟩
def an3 (hc:X.calm=true):iV X nU:=λpins s σ H x u R I r ⟨a,n,e,h,hn,q⟩=>by
 subst e;obtain rfl:u=Value.ref a:=r;let⟨⟨t,u,v,hr⟩,_,_⟩:=(BD (ZA4 X.w H s.heap a (G6 (fN a n))) (Dm a h))
 show U6 q (λE Q k=>ae1 (A:=X.A.in1) (by show I.ok.hd hc) hr hn E Q λus h' tk ⟨l,z⟩ kp sz=>k us h' tk (au3 l z) kp sz)
def b34 (l:Addr)(items:OX)(n:Nat)(b:Addr)(items2:OX)(hs1:items.size+items2.size<=sizeLine) :
  Meets (Builtin.«list.extend» ⟨[.ref l,.ref b],[]⟩) (λy_ R s=>BU l=FU ({ cls:=.type "list",dict:=none,data:=.seq items n,slots:=#[] })/\IsTup s.heap b items2/\R (T6 Value.none) { s with heap:=s.heap.update l (F9 (Bi (x++items2))),toks:=s.toks }):=
 .of_wp λprog w A R s h=>by
  let⟨hl,⟨o,ho,hc,n2,hd⟩,h⟩:=h;have e:Builtin.«list.extend» ⟨[.ref l,.ref b],[]⟩=Builtin.List.listExtendWith On V9 .none:=rfl;rw[e]
  refine wpAny_bind (wpAny_typeOf ⟨o, ho, hc⟩ ?_)
  have h1:(MT On V9 || Yd == E9 "list" || Yd == Yd)=true:=by simp
  simp only[h1];show Sx
  refine wpAny_bind (wpAny_seqItems ho hd (wpAny_pure ?_))
  show Sx;show Ah (EA hl rfl QU);have hlong:¬(!items.isEmpty && Builtin.List.listTooLong (items.size+items2.size))=true:=by
   rw[ap7 hs1,Bool.and_false]
   simp_all
  rw[if_neg hlong];show Ah (wpAny_updateSeq hl rfl ?_ (hz:=Ab) (_hz':=by rw[Array.size_append];lia));show ZBb h
def iG:V->Om->Hp->VK->Prop:=HA (∃l b xs zs,x=On/\vs=[V9]/\ZBv=Ou/\SV=ZIW zs/\xs.length+zs.length<=100000/\Q .non (Sr l (xs++zs)))
def ay0:MtM X "list.extend" iG:=by
 intro pins s σ H x vs v us Q I rx rv h;let⟨l,b,xs,zs,rfl,rfl,hH,hB,hz,q⟩:=h;cases rx;let⟨u,rfl,ru⟩:=rv.one;cases ru;have hz':xs.length+zs.length<=sizeLine:=Dl (av1 hz);let⟨z,its,n,r,hl,e⟩:=ZF2;let⟨_,its2,r2,e2⟩:=(Dm b hB)
 have l2:=r2.length;have hsz:its.toArray.size+its2.toArray.size<=sizeLine:=by grind
 show ZDz F.slot_list_extend e F.entry_list_extend Jg (b34 l its.toArray n b its2.toArray hsz) (Qs e e2);show Py .non _ (I.lset  hH e Aq (Lm r2) ?_) q;rw[List.length_append];omega
def mB (K:PySem.W.Frag)(n:Nat)(t:TGs):TG:=HD (∃a xs,v=PK/\XG K a xs/\xs.length=n/\t xs σ H Q)
def bz4 {k:Nat}{t:TGs}(hc:X.calm=true)(h:PGs X es t)
  (hn:No ((Yk).length=n)) (hst:No ((Yk).findIdx? (·.1)=none)):PG X (ZDm k) (mB X.K n t):=by
 intro pins s σ H v u Q I r hw;let⟨a,xs,e1,hq,hl,hw⟩:=hw;subst e1;cases r;let⟨its,rv,ht,hz⟩:=WK;show Ah (Lo ?_);unfold unpack;have hsz:(Yk).length=its.toArray.size:=by simp[hn,<-hl,rv.length]
 rw[hsz,hst];show ZBX (kun_itemsOf S3 ht.isList λh' hx=>?_);have I1:=ZI2 (B4 (hx b o ZEz e));show h pins _ σ H xs _ Q I1 (by simpa using rv) hw
def bp4:Mb ZE "__length_hint__" = Gx (Af (CF "list_reverseiterator.__length_hint__")):=by kernel_rfl
def b18:Mb ZE "__len__" = ZA1:=by kernel_rfl
variable {l:Addr}{i:Nat}{Q:Value->Shared->Prop}
section
variable {A:Around}
def bx6 {i:Int}{Q:Bool->Shared->Prop}(st:s.heap.IsRevIter it l i)(h:Q false s):Ia P0 A (Builtin.List.listLengthHint W0) Q E s:=by
 show Ah (MS st.typeIs b18 ?_);show Ah (MS st.typeIs bp4 ?_);generalize hid:("list_reverseiterator.__length_hint__")=id0
 wp_delta
 rw[show splitId id0=some ("list_reverseiterator","__length_hint__") from by subst hid;decide +kernel];subst hid;show Ah (wpAny_isInstance (T:="list_reverseiterator") (b:=true) st.typeIs (by kernel_rfl) ?_);show wpAny_ite_split (λhab=>CN hab AC) (A0 ?_);show wpAny_ite_split (A0 ?_) (λhab=>CN AD hab);show BA h
def af6 {items:OX}(hh:A.handled=none)(st:s.heap.IsRevIter it l ((items.size:Int) - 1))(hl:JL l items)(hne:it≠l)(hlen:items.size<=sizeLine)
  (hQ:∀h' tk acc' c',(∀b o,b≠it->s.heap.get? b=some o->h'.get? b=some o)->
   h'.get? s.heap.objs.size=some { cls:=.type "list",dict:=none,data:=.seq acc' c',slots:=#[] }->ItemsOf (λi v=>items[items.size - 1 - i]?=some v) acc' items.size->Q (.ref s.heap.objs.size) { s with heap:=h',toks:=tk }) :
  wpAny (model prog w) A (call (.type "list") [.ref it]) Q E s := by
 let⟨od,hod,rd1,rd2⟩:=ZIy;let⟨ol,hol,rl⟩:=id hl
 refine callType_codes (Q₁ := fun obj s₁ => obj = .ref s.heap.objs.size ∧ s₁ = { s with heap := s.heap.push { cls := .type "list", data := .seq #[] } }) F.called_list (F.typeCall_list_1 _) F.entry_list_init
  (code_list_new _ ⟨rfl, rfl⟩) fun obj s₁ h₁ => ?_
 let⟨rfl,rfl⟩:=h₁
 have hS : (s.heap.push { cls := .type "list", data := .seq #[] }).get? s.heap.objs.size = some { cls := .type "list", data := .seq #[] } := Heap.get?_push_size _ rfl
 have n1:=SQ hod;have n2:=SQ hol;show Qs (ZDg hS) (F.args_list_init_2 _ _);show Sx;unfold Builtin.List.listItems
 refine wpAny_bind (wpAny_seqItems hS rfl (wpAny_pure ?_))
 refine wpAny_bind (wpAny_updateSeq hS rfl ?_)
 have hS₂:=Heap.get?_update_self (JE (A0 ((#[])))) hS rfl;show Ah (IO ?_);have up:∀b o,b≠s.heap.objs.size->RT=Nd->((HB ({ cls:=.type "list",data:=.seq #[] })).update s.heap.objs.size (JE (A0 ((#[]))))).get? b=Nd:=CA ((ZCd).trans Ra);generalize ((HB ({ cls:=.type "list",data:=.seq #[] })).update s.heap.objs.size (JE (A0 ((#[])))))=h2 at hS₂ up ⊢;have st2:h2.IsRevIter it l ((items.size) - 1):=By od (KB n1 hod) rd1 rd2;have hl2:h2.IsList l items:=BH ol (KB n2 hol) rl;have hSf:s.heap.objs.size∉[it,l]:=λhm=>by
  rcases List.mem_cons.mp hm with e | hm
  .show n1 e.symm
  simp_all
 have W:=(Walks.listRev (prog:=prog) (w:=w) (A:=A.in1.in1) hh it l (BX hne) items).toS;show Ah (wpAny_typeOf (T:="list_reverseiterator")  st2.typeIs ?_);have z1:MT Nf W0=false:=by simp[Builtin.List.listSameRef,Ne.symm n1]
 have z2:(ZG == E9 "list")=false:=by decide
 have z3:(ZG == Yd)=false:=by decide
 simp only[z1,Bool.false_eq_true];show Ah (wpAny_pyIter_revIter  st2 ?_);show ZBX (bx6  st2 ?_);show CM (Pk (J9 F.plain_extend_loop));show codeAny_extend_loopS W hlen s.heap.objs.size hSf .none items.size 0 { s with heap:=h2 } #[] _ rfl Bh ⟨Nat.zero_le _,by simpa using st2,hl2⟩ hS₂ (ItemsOf.nil _) λs' acc' c' hm hS' hacc=>?_;rw[Moved.eq_with hm];show OI (hQ s'.heap s'.toks acc' c' (CA (hm.heap b o (λhmem=>?_) (up b o ZEz e))) hS' hacc)
 rcases List.mem_cons.mp hmem with e' | hmem
 .show CN WB Aw
 .show hb (De hmem)
end
theorem boot_reversed : bootBuiltins "reversed" = some (.type "reversed") := by decide +kernel
def iC (te:TE):TE:=CI (te σ H (EK (∃a xs,x=PK/\H1 a=Ou/\∀p,H1 p=none->Q Pw (upd H1 p (Bc xs.reverse)))))
def aw2 {te:TE}{p p' pos':Pos}(hc:X.calm=true)(hgl:Zr "list")(hml:Iw "list" = none)(hgr:Zr "reversed")(hmr:Iw "reversed" = none)(he:ZCx)
  (h1:OY [ZDk [e]]=(false,eval (ZDk [e]) X.env)::WP) (h2:(ZLJ).any (·.1)=false)
  (h3:OY [e]=(false,eval e X.env)::WP) (h4:(FN pos' WP).any (·.1)=false):PE X (ZBu "list" p [ZDk [e]]) (iC te):=by
 intro pins s σ H Q I h;show Di (qa I hgl hml PyProof.Rows.boot_list ?_);show Co ?_ h1 h2;change HR (spliced ((false,eval (ZDk [e]) X.env)::ZLJ)) s;show Calls.spliced_cons (thn (Q:=λu s2=>∃(it a:Addr) (its:List Value) (xs:List V) (H1:Hp),u=W0/\it≠a/\s2.heap.IsRevIter it a (VD - 1)/\s2.heap.IsList a its.toArray/\ZHS/\its.length<=sizeLine/\P5 H1 s2/\SG X H1 it/\H1 a=Ou/\∀p,H1 p=none->Q Pw (upd H1 p (Bc xs.reverse))) ?_ λu s2 hu=>?_)
 .show Di (qa I hgr hmr boot_reversed ?_);show Co ?_ h3 h4;show thn (a72 he bn6 h3 pos' pins s σ H (λvs H1=>match vs with | [x]=>∃a xs,x=.ref a/\H1 a=some (.lst xs)/\∀p,H1 p=none->Q (.ref p) (upd H1 p (.lst xs.reverse)) | _=>False) I h) λus s1 ⟨vs,H1,I1,r1,q1⟩=>?_
  match vs,q1 with
  | [x],q1=>
   let⟨a,xs,rfl,ha,q⟩:=q1;let⟨u,rfl,ru⟩:=ph r1;cases ru;let⟨hz,its,n,rv,hlen,ol⟩:=I1.lstM ha;have ll:=BN ol;show call_reversed_list  (ZJ _ ol n) ⟨s1.heap.objs.size,a,its,xs,H1,rfl,Ed ll,Vh _ Ow,ZJ _ (Ao ol) n,rv,by omega,I1.kept  WF,LJ As ZCg,ha,q⟩
 .let⟨it,a,its,xs,H1,rfl,hne,st,hl,rv,hz,I2,fk,ha,q⟩:=hu;show Calls.spliced_nil ?_;show af6 (I2.ok.hd hc) st hl hne (by simpa using hz) λh' tk acc c kp hS hacc=>?_;have fa:=ZD9 As As;have eacc:acc.toList=its.reverse:=by
   show ZEk;have hs:=by simpa using hacc.1
   by_cases hj:j<its.length
   .have h1:acc.toList[j]?=some (acc[j]'(by simp_all)):=by simp[hj]
    have h2:=hacc.2 j (acc[j]'(by simp_all)) (by simp[hs]);rw[h1,List.getElem?_reverse hj,<-h2];simp
   simp_all
  show Zn KC _ (I2.take (t':=tk) (c:=c)  fa fk (λb o y_ hb e=>kp b o hb e) ?_ rv.reverse ?_) fa.1
  .rw[hS,<-eacc]
  .rw[List.length_reverse,rv.length];show hz
def flp (p:Pt3):Pt3:=BH p.y p.x p.z
def l5 (h:Lp p):Lp (flp p):=⟨h.pos,by
 have:=h.cop;change B7 (B7 p.z p.y) p.x=1;rw[<-this];unfold Int.gcd;simp only[Int.natAbs_natCast];rw[Nat.gcd_assoc,Nat.gcd_comm p.y.natAbs,<-Nat.gcd_assoc]⟩
def bs7 (h:ZFL p):ZFL (flp p):=BH h.y h.x h.z
def aK (xs:Au (Pt3×Pt3)):NT:=Ch ((·.1))++Ch ((·.2))
variable {xs:Au (Pt3×Pt3)}{x:Pt3×Pt3}
def tv (h:x∈xs):x.1∈TU/\x.2∈TU:=
 ⟨List.mem_append_left _ (E5 h),List.mem_append_right _ (E5 h)⟩
def Spans (xs:Au (Pt3×Pt3))(sp:Au (Int×Int)):Prop:=sp.length=xs.length/\∃r:Pt3->Int,(∀p q,p∈TU->q∈TU->ZBK->r p<=r q)/\∀(i:Nat) x s,xs[i]?=OZ->sp[i]?=ZJw->s=(min (r x.1) (r x.2),max (r x.1) (r x.2))
variable {sp:Au (Int×Int)}{y:Pt3×Pt3}{q:Pt3}
def Spans.meet (h:Spans xs sp){j:Nat}{s t:Int×Int}(hx:xs[i]?=OZ)(hy:xs[j]?=Qt)(hs:sp[i]?=ZJw)(ht:sp[j]?=Af t)(hp:p=x.1\/p=x.2)(hq:q=y.1\/q=y.2)(hpq:ZBK):s.1<=t.2:=by
 let⟨_,r,hm,hr⟩:=h;rw[hr j y t hy ht];have ex:=tv ZAC;have ey:=tv V5;grind
open Classical in
def bW (row:NT)(p:Pt3):Int:=if h:∃i:Nat,row[i]?=some p then (Classical.choose h:Nat) else 0
variable {row:NT}
def aj9 (hs:Vv)(h:row[i]?=UL):bW row p=i:=by
 have hex:∃i:Nat,row[i]?=UL:=A3 i h;unfold bW;rw[dif_pos hex];have:=He hex;have e:=(Fk ((Ag this).1) hs.nodup).mp (this.trans h.symm);rw[e]
def bx9 (hs:Vv)(hp:p∈row)(hq:q∈row)(h:ZBK):bW row p<=bW row q:=by
 let⟨i,hi⟩:=A9 hp;let⟨j,hj⟩:=A9 hq;rw[aj9 hs hi,aj9 hs hj];by_cases hlt:j<i
 .exfalso;have li:=(ZJ5)
  have lj:=(ZFd)
  have:=FG hs.2 j i lj.1 li.1 hlt;rw[li.2,lj.2] at this;rw[show leP p q=(ZGb=false) from rfl] at h
  simp_all
 .lia
variable {b:Pt3}
def bh1 (h:Fz a b):Fz (flp a) (flp b):=BQ (h (A3 e.2 e.1))
def a75 (hp:Pc)(ha:XM)(hb:Vu)(hab:Fz a b)(h:ZGK=true):onB (flp p) (flp a) (flp b)=true:=by
 let⟨u,v,k,hu,hv,hk,e1,e2,e3⟩:=a74 hp.pos ha.pos hb.pos hab h;show ba1    ha.pos hb.pos (l5 hp) (bh1 hab) hu hv ?_ hk e2.symm e1.symm e3.symm;rcases Int.lt_or_le 0 (u+v) with h|h
 .show h
 .have hu0:u=0:=by lia
  have hv0:v=0:=by lia
  rw[hu0,hv0] at e3;have:=Ci hk hp.pos
  simp_all
variable {d:Addr}
def bj2 {X c d:Pt3}(hX:Lp X)(ha:XM)(hb:Vu)(hc:ZAd)(hd:ZAe)(h1:ZGJ X=true)(h2:onB X c d=true):∃p q,(p=a\/p=b)/\(q=c\/q=d)/\ZBK:=by
 have o1:=(km (ij h1)).mp h1;have o2:=(km (ij h2)).mp h2;show ZIa ((SC).1) ((T3).2) ?_ ?_
 .rcases fm a b with h|h
  .show CD h.1
  .show CK h.1
 .rcases fm c d with h|h
  .show CK h.2
  .show CD h.2
 .have l1:Lp (SC).1:=by
   rcases fm a b with h|h
   .rw[h.1];show ha
   simp_all
  have l2:Lp (T3).2:=by
   rcases fm c d with h|h
   .rw[h.2];show hd
   .rw[h.2];show hc
  show ki l1 hX l2 o1.1 o2.2
structure OkS (n:Nat)(x:Pt3×Pt3):Prop where
 a:Lp x.1
 b:Lp x.2
 ab:Fz x.1 x.2
 za:ZFL x.1
 zb:ZFL x.2
def Touch (x y:Pt3×Pt3):Prop:=∃X,Lp X/\onB X x.1 x.2=true/\onB X y.1 y.2=true
def Touch.symm (h:ZLm):Touch y x:=let ⟨X,a,b,c⟩:=h;⟨X,a,c,b⟩
def flS (x:Pt3×Pt3):Pt3×Pt3:=(flp x.1,flp x.2)
def Touch.flip (hx:OkS n x)(hy:OkS n y)(h:ZLm):Touch (flS x) (flS y):=by
 let⟨X,l,h1,h2⟩:=h;show By (flp X) (l5 l) (a75 l hx.a hx.b hx.ab h1) (a75 l hy.a hy.b hy.ab h2)
def Touch.span (h:Spans xs sp){j:Nat}{s t:Int×Int}(hx:xs[i]?=OZ)(hy:xs[j]?=Qt)(hs:sp[i]?=ZJw)(ht:sp[j]?=Af t)(lx:Lp x.1/\Lp x.2)(ly:Lp y.1/\Lp y.2)(c:ZLm):s.1<=t.2:=by
 let⟨X,l,h1,h2⟩:=c;let⟨p,q,hp,hq,hpq⟩:=bj2 l lx.1 lx.2 ly.1 ly.2 h1 h2;show h.meet hx hy hs ht hp hq hpq
def lC (ss:Au (Pt3×Pt3))(prs:Au (Int×Int)):Prop:=prs.length<=ss.length*ss.length/\(∀c∈prs,∃i j:Nat,c=((i:Int),(j:Int))/\i<ss.length/\j<ss.length/\i≠j)/\∀(i j:Nat) x y,i≠j->ss[i]?=OZ->ss[j]?=Qt->ZLm->((i:Int),(j:Int))∈prs\/((j:Int),(i:Int))∈prs
def gO (sp hp:Au (Int×Int))(i j:Nat):Prop:=∃s t a b,sp[i]?=ZJw/\sp[j]?=Af t/\hp[i]?=RS/\hp[j]?=UK/\t.1<=s.2/\b.1<=a.2/\a.1<=b.2
def b16 {ss:Au (Pt3×Pt3)}{hp prs:Au (Int×Int)}{row:VZ}(hn:∀x∈ss,OkS n x)(h1:Spans ss sp)(h2:Spans ZEA hp)(hr:row.Perm (B1 ss.length))
  (hl:prs.length<=ss.length*ss.length) (hv:∀c∈prs,∃i j:Nat,c=((i:Int),(j:Int))/\i<ss.length/\j<ss.length/\i≠j) (hg:∀(a b i j:Nat),a<b->row[a]?=ZCP->row[b]?=ZCQ->gO sp hp i j->((i:Int),(j:Int))∈prs):lC ss prs:=by
 have pos:∀{i:Nat},i<ss.length->∃a,row[a]?=ZCP:=λ{i} hi=>A9 (hr.mem_iff.mpr (List.mem_range.mpr hi));have good:∀{i j:Nat} {x y:Pt3×Pt3},ss[i]?=OZ->ss[j]?=Qt->ZLm->gO sp hp i j:=λ{i j x y} hx hy t=>by
  have li:=(ZJ4).1;have lj:=(ZCR).1;have ox:=hn x ZAC;have oy:=hn y V5;have l1:=h1.1;have l2:=h2.1;rw[List.length_map] at l2;obtain⟨s,hs⟩:∃s,sp[i]?=some s:=Xe;obtain⟨u,hu⟩:∃s,sp[j]?=some s:=Xe;obtain⟨a,ha⟩:∃s,hp[i]?=some s:=Xe;obtain⟨b,hb⟩:∃s,hp[j]?=some s:=Xe;have fx:(ZEA)[i]?=Af (flS x):=by rw[List.getElem?_map,hx];rfl
  have fy:(ZEA)[j]?=Af (flS y):=by rw[List.getElem?_map,hy];rfl
  have ft:=t.flip ox oy;show⟨s,u,a,b,hs,hu,ha,hb,t.symm.span h1 hy hx hu hs (A3 oy.a oy.b) (A3 ox.a ox.b),ft.symm.span h2 fy fx hb ha (A3 (l5 oy.a) (l5 oy.b)) (A3 (l5 ox.a) (l5 ox.b)),ft.span h2 fx fy ha hb (A3 (l5 ox.a) (l5 ox.b)) (A3 (l5 oy.a) (l5 oy.b))⟩
 show BH hl hv (λi j x y hij hx hy t=>?_);let⟨a,ha⟩:=pos (ZJ4).1;let⟨b,hb⟩:=pos (ZCR).1;rcases Nat.lt_trichotomy a b with h|h|h
 .show CD (hg a b i j h ha hb (good hx hy t))
 .simp_all
 .show CK (hg b a j i h hb ha (good hy hx t.symm))
def yn {c d:Pt3}(ha:XM)(hb:Vu)(hc:ZAd)(hd:ZAe):∀p∈aR a b c d,p=a\/p=b\/p=c\/p=d:=by
 have lo:aT (SC).1 (T3).1=a\/aT (SC).1 (T3).1=b\/aT (SC).1 (T3).1=c\/aT (SC).1 (T3).1=d:=by
  unfold aT;rcases fm a b with h|h <;> rcases fm c d with g|g <;> rw[h.1,g.1] <;> split <;> simp
 have hi:aV (SC).2 (T3).2=a\/aV (SC).2 (T3).2=b\/aV (SC).2 (T3).2=c\/aV (SC).2 (T3).2=d:=by
  unfold aV;rcases fm a b with h|h <;> rcases fm c d with g|g <;> rw[h.2,g.2] <;> split <;> simp
 intro p hp;unfold aR at hp;split at hp
 .rw[List.mem_singleton.mp hp];show lo
 .split at hp
  .rcases List.mem_cons.mp hp with rfl | hp
   .show lo
   simp_all
  .cases hp
def dB (x y:Pt3×Pt3):Prop:=sgn (det x.1 x.2 y.1)*sgn (det x.1 x.2 y.2)<0/\sgn (det y.1 y.2 x.1)*sgn (det y.1 y.2 x.2)<0
def crS (x y:Pt3×Pt3):Pt3:=pbF (Qd x.1 x.2 y.1 y.2).x (Qd x.1 x.2 y.1 y.2).y (Qd x.1 x.2 y.1 y.2).z
def bn8 {x y:Int}(h:ZB3≠sgn y)(hx:x≠0)(hy:y≠0):ZB3*sgn y<0:=by
 rcases ag6 x with⟨e,h1⟩|⟨e,h1⟩|⟨e,h1⟩ <;> rcases ag6 y with⟨f,h2⟩|⟨f,h2⟩|⟨f,h2⟩ <;> first|(rw[e,f] at h;show absurd rfl h)|(rw[e,f];decide)|show absurd h1 hx|show absurd h2 hy
def ay1 (hx:OkS n x)(hy:OkS n y)(hp:p∈aI x.1 x.2 y.1 y.2):(p=x.1\/p=x.2\/p=y.1\/p=y.2)\/(dB x y/\p=crS x y):=by
 have sw:=xt hx.a hx.b hy.a hy.b hx.ab hy.ab;by_cases h1:sgn (det x.1 x.2 y.1)=sgn (det x.1 x.2 y.2)
 .unfold aI at hp;rw[if_pos h1] at hp;split at hp
  .show CD (yn hx.a hx.b hy.a hy.b p hp)
  .cases hp
 .by_cases h2:sgn (det y.1 y.2 x.1)=sgn (det y.1 y.2 x.2)
  .unfold aI at hp;rw[if_neg h1,if_pos h2] at hp;cases hp
  .have e1:aI x.1 x.2 y.1 y.2=[crS x y]:=by unfold aI crS;rw[if_neg h1,if_neg h2]
   have e2:aI y.1 y.2 x.1 x.2=[crS y x]:=by unfold aI crS;rw[if_neg h2,if_neg h1]
   rw[e1] at hp sw;rw[e2] at sw;have hp:=De hp;have es:crS y x=crS x y:=List.singleton_inj.mp sw;have c1:=ai1 hy.a hy.b hy.ab h1;have c2:=ai1 hx.a hx.b hx.ab h2;by_cases z1:det x.1 x.2 y.1=0
   .show ZEg (CK (CD (by rw[hp];show c1.1 z1)))
   by_cases z2:det x.1 x.2 y.2=0
   .show ZEg (ZIc (by rw[hp];show c1.2 z2))
   by_cases z3:det y.1 y.2 x.1=0
   .show CD (CD (by rw[hp,<-es];show c2.1 z3))
   by_cases z4:det y.1 y.2 x.2=0
   .show ZEg (CD (by rw[hp,<-es];show c2.2 z4))
   show Vo (A3 (bn8 h1 z1 z2) (bn8 h2 z3 z4)) hp
def gX (ss:Au (Pt3×Pt3))(p:Pt3):Prop:=∃s∈ss,p=s.1\/p=s.2
def bH (ss:Au (Pt3×Pt3))(p:Pt3):Prop:=gX ss p\/∃(k o:Nat) (x y:Pt3×Pt3),o<k/\ss[k]?=OZ/\ss[o]?=Qt/\dB x y/\p=crS x y
def Is3.lp {A B C:Int}{r:Pt3}(i:XL A B C):ZD1:=A3 i.pos i.cop
def ku (hp:Pc)(hq:QA)(h:p≠q):Fz p q:=CY (BQ (h (hp.eq hq e)))
def frP (f a b c:Int)(p:Pt3):Pt3:=pbF (f*p.x+a*p.z) (f*p.y+b*p.z) (p.z*c)
variable {a:Addr}
def bs6 {f a b c:Int}{r s:Pt3}(hf:0<f)(hc:0<c)(hp:0<p.z)(hq:0<q.z)(h:Apart p q)(i:Is3 (f*p.x+a*p.z) (f*p.y+b*p.z) (p.z*c) r)(j:Is3 (f*q.x+a*q.z) (f*q.y+b*q.z) (q.z*c) s):Apart r s:=λe=>h (by
 let⟨d,d0,e1,e2,e3⟩:=i.ex;let⟨d',d0',f1,f2,f3⟩:=j.ex;have key:∀{X Y U V a:Int},f*X+a*p.z=d*U->f*Y+a*q.z=d'*V->U*s.z=V*r.z->X*q.z=Y*p.z:=by
  intro X Y U V a g1 g2 g3;have:(f*X+a*p.z)*(q.z*c)=(f*Y+a*q.z)*(p.z*c):=by
   rw[g1,g2,f3,e3];have l:d*U*(d'*s.z)=d*d'*(U*s.z):=by grind
   have m:d'*V*(d*r.z)=d*d'*(V*r.z):=by grind
   rw[l,m,g3]
  have h2:(f*c)*(X*q.z)=(f*c)*(Y*p.z):=by
   clear g1 g2 g3 e1 e2 e3 f1 f2 f3 e h i j;grind
  show B8 (Em (by grind) (by omega)) h2
 show⟨key e1 f1 e.1,key e2 f2 e.2⟩)
variable {h:Heap}{vs:Nk}
section
variable (prog:Program)(w:World)
def Hsh (A:Around)(h:Heap)(v:Value)(n:Int)(d:Nat):Prop:=
 ∀(E:Value->Shared->Prop) (s:Shared) (Q:Int->Shared->Prop),s.heap=h->Q n { s with toks:=s.toks+d }->wpAny P0 A (pyHash v) Q E s
def Eqs (A:Around)(h:Heap)(u v:Value)(b:Bool):Prop:=
 ∀(E:Value->Shared->Prop) (s:Shared) (Q:Bool->Shared->Prop),s.heap=h->Q b s->wpAny P0 A (eqBool u v) Q E s
def Qui (A:Around)(h:Heap)(k:Nat)(v:Value):Prop:=
 ∀(E:Value->Shared->Prop) (s:Shared) (Q:Bool->Shared->Prop),s.heap=h->Q true s->wpAny P0 A (eqIsQuiet k v) Q E s
variable {prog w}{A:Around}
def b27 {ps:Au (Int×Nat)}(ht:VG h a)(hu:A.units<cLine)(hv:CB (λv (p:Int×Nat)=>Hsh prog w A.in1 h v p.1 p.2) vs ps) :
  Hsh prog w A h PK (reduceHash (Ke (FH ((·.1))))) ((FH ((·.2))).sum+1):=by
 intro E s Q e q;subst e;show pyHash_slot ht.typeIs F.slot_tuple_hash F.entry_tuple_hash (F.args_tuple_hash_1 _) AC (CK hu) ?_;show IC (slotArgs _ _ _) QU;show Ah (JV ht Sx);rw[<-Array.forIn_toList];show IA (λrest (b) s1=>∃us ws:List (Int×Nat),us++ws=ps/\b.toList=us.map (·.1)/\CB (λv (p)=>Hsh prog w A.in1 s.heap v p.1 p.2) rest ws/\s1={ s with toks:=s.toks+(us.map (·.2)).sum }) ?step ?fin (Re [] ps rfl hv rfl)
 case step=>
  intro v rest b s1 hinv;let⟨us,ws,hps,hb,hpr,rfl⟩:=hinv;cases hpr with
  | @cons _ p _ ws' hv1 hrest=>
   show Ah (hv1 E _ _ rfl ?_);show CM (Dt (us++[p]) ws' Aw Aw hrest (by rw[List.map_append,List.sum_append,<-Nat.add_assoc];rfl))
 case fin=>
  intro b s1 hinv;let⟨us,ws,hps,hb,hpr,rfl⟩:=hinv;cases hpr;rw[List.append_nil] at hps;subst hps;dsimp only;rw[hb];rw[<-Nat.add_assoc] at q;show DX (wpAny_ret_mkInt (Q:=λv s'=>∃n t,v=WU n/\Q (reduceHash n) s') (Pq _ _ q)) (λfin s' hf=>?_) (Cf x);let⟨v,rfl,n,t,rfl,hq⟩:=hf;show Pq n t hq
def by0 {k:Nat}(ht:VG h a)(hv:∀v∈vs,Qui prog w A h k v):Qui prog w A h (k+1) PK:=by
 intro E s Q e q;subst e
 obtain ⟨o, ho, hc, n, hd⟩ := id ht
 unfold eqIsQuiet;show Ah (MS ht.typeIs F.slot_tuple_eq.lookup (Ah (Wb ht.typeIs ?_)));show Ah (EA ho hd Sx);rw[<-Array.forIn_toList];show IA (λrest r s1=>s1=s/\r.1=none/\∀v∈rest,Qui prog w A s.heap k v) ?step ?fin (Oa rfl hv)
 case step=>
  intro v rest r s1 hinv;let⟨rfl,hr,hall⟩:=hinv;show Ah (hall v List.mem_cons_self E _ _ rfl ?_);show CM (Oa rfl (λu hu=>hall u (A7 hu)))
 case fin=>
  intro r s1 hinv;let⟨rfl,hr,_⟩:=hinv;rcases r with⟨r1,r2⟩
  cases hr;show BA q
def b35 {κ:Type}[DecidableEq κ]{I:Value->κ->Prop}{b:Addr}{xs ys:Au κ}(ha:VH h a)(hb:VG h b)(hu:A.units<cLine)
  (px:CB I us xs) (py:CB I vs ys) (inj:∀v x y,I v x->I v y->x=y) (he:∀u v x y,I u x->I v y->Eqs prog w A.in1 h u v (GX (x=y))):Eqs prog w A h PK V9 (decide (xs=ys)):=by
 intro E s Q e q;subst e;unfold eqBool
 try with_reducible show wpAny_holding ?_
 by_cases hab:a=b
 .subst hab;have huv:us=vs:=by
   let⟨o,h1,_,n,h2⟩:=ha;let⟨o',h1',_,n',h2'⟩:=hb
   simp_all
  subst huv;have hxy:∀{us:List Value} {xs ys:List κ},CB I us xs->CB I us ys->xs=ys:=by
   intro us xs ys p
   induction p generalizing ys with
   | nil=>intro p';cases p';rfl
   | cons h1 _ ih=>
    intro p';cases p' with
    | cons h2 t2=>rw[inj _ _ _ h1 h2,ih t2]
  rw[if_pos Aq];rw[decide_eq_true (hxy px py)] at q;show ZEZ (BA q)
 .rw[if_neg (by simp[hab])];show Ah (wpAny_richCompare_same_room  ha.typeIs hb.typeIs F.slot_tuple_eq (C9 F.slot_tuple_eq ha.typeIs F.entry_tuple_eq ?_ (F.args_tuple_eq_2 _ _)) hu);show FS (Sk (Wb hb.typeIs ?_));show Ah (JV ha (Ah (JV hb Sx)));show IA (λrest r s1=>s1=s/\r.1=none/\∃us' vs' xs' ys',rest=List.zip us' vs'/\CB I us' xs'/\CB I vs' ys'/\(xs=ys↔xs'=ys')/\(us.length=vs.length↔us'.length=vs'.length)) ?step ?fin ⟨rfl,rfl,us,vs,xs,ys,rfl,px,py,Iff.rfl,Iff.rfl⟩
  case step=>
   intro z rest r s1 hinv;let⟨rfl,hr,us',vs',xs',ys',hz,hp,hq,hxy,hl⟩:=hinv;cases hp with
   | nil=>simp at hz
   | @cons u x _ xs2 hu1 hus=>
    cases hq with
    | nil=>simp at hz
    | @cons v y _ ys2 hv1 hvs=>
     cases hz;show Ah (he _ _ _ _ hu1 hv1 E _ _ rfl ?_);by_cases hxe:x=y
     .rw[decide_eq_true hxe];show CM (ZDs rfl rfl _ xs2 ys2 rfl hus hvs (by rw[hxy,hxe];simp) (by rw[hl];simp))
     .rw[decide_eq_false hxe,if_pos AC];have hne:=BT (hxe (G7 (hxy.mp z)).1);rw[decide_eq_false hne] at q
      refine wpAny_bind  (wpAny_pure (wpAny_pure ?_))
      show CM (Sf (Ji false) ((BT (nomatch z))) (Gr q))
  case fin=>
   intro r s1 hinv;let⟨rfl,hr,us',vs',xs',ys',hz,hp,hq,hxy,hl⟩:=hinv;rcases r with⟨r1,r2⟩
   cases hr;have hlen:(us.toArray.size == vs.toArray.size)=Cd (xs=ys):=by
    rw[Bool.eq_iff_iff,beq_iff_eq,decide_eq_true_iff,List.size_toArray,List.size_toArray,hl,hxy];cases hp with
    | nil=>
     cases hq with
     | nil=>simp
     | cons _ _=>simp
    | cons _ _=>
     cases hq with
     | nil=>simp
     | cons _ _=>simp at hz
   show CM (Sf (Ji (us.toArray.size == vs.toArray.size)) ((BT (nomatch z))) (Gr ?_));rw[hlen];show q
end
variable {h':Heap}{o:Obj}
section
variable {A:Around}
def b28 (n:Int)(t:Tok):Hsh prog w A h (WU n) (hashInt n) 1:=λE s Q y_ q=>wpAny_pyHash_int q
def bw7 {h:Heap}(ha:VH h a)(hb:VG h a):us=vs:=by
 let⟨o,h1,_,n,h2⟩:=ha;let⟨o',h1',_,n',h2'⟩:=hb;rw[h1] at h1';cases h1';rw[h2] at h2';injection h2' with z _;simpa using congrArg Array.toList z
def bb7 {h:Heap}{es ep}(x:VH h a)(ho:Cj d=Nd)(hd:o.data=Zg)(hs:DP d h h'):VH h' a:=by
 let⟨o',h1,hc,n,h2⟩:=x;show B0 o' ((hs.2 a Ot).trans h1) hc n h2;rw[e,ho] at h1;cases h1;rw[hd] at h2;cases h2
end
variable {es:Qh}{ep:Nat}
section
variable {A:Around}
def bn7 {j:Addr}{u k x:Value}(st:Kz h j d i n ep u v)
  (q:∀h',IsItemIterOut h' j d i n ep k x h.objs.size->GU h' h.objs.size k x->(∀b o,b≠j->Tk=Nd->Qg=Nd)->Q (A5 h.objs.size) { s with heap:=h' }) :
  wpAny P0 A (Builtin.Dict_items.pairFromOwner Wh 6 k x) Q E { s with heap:=h }:=by
 have lj:=SQ st;have p0:GU (h.push { cls:=.type "tuple",data:=.seq #[k,x] }) h.objs.size k x:=Ow;have s0:Kz (h.push { cls:=.type "tuple",data:=.seq #[k,x] }) j d i n ep u v:=Ao st;show Ah (wpAny_newTuple (Ah (Ah (EH s0 rfl .none rfl QU))));show Ah (EH s0 rfl u rfl (Ah (EH s0 rfl v rfl ?_)));show Ah (DV s0 Aq (λy_ s1 b1=>Ah (DV s1 Aq (λy_ s2 b2=>Ah (DV s2 Aq (λy_ s3 b3=>Ah (DV s3 Aq (λg s4 b4=>Ah (IO QU)))))))));have up:∀c o,c≠j->(h.push { cls:=.type "tuple",data:=.seq #[k,x] }).get? c=Nd->g.get? c=Nd:=λc o nc e=>NA nc (b3.extBut _ _ nc (Ev nc (ND nc e)));show q g s4 (KB lj.symm p0) λc o nc e=>up c o nc Ra
def a89 {j:Addr}{u:Value}{Q:OV->Shared->Prop}(st:Kz s.heap j d i es.size ep u v)(x:ZGC)(hd:es.size<=i->A.handled=none)
  (q1:∀(hi:i<es.size) h',IsItemIterOut h' j d (i+1) es.size ep es[i].key es[i].val s.heap.objs.size->IsPair h' s.heap.objs.size es[i].key es[i].val->(∀b o,b≠j->RT=Nd->Qg=Nd)->Q (NO s.heap.objs.size) { s with heap:=h' })
  (q2:es.size<=i->∀h',Md j s.heap h'->Q none { s with heap:=h' }):wpAny P0 A ZGY Q E s:=by
 let⟨o,ho,_,od⟩:=x;have ty:∀{h:Heap} {i:Nat} {u v:Value},Kz h j d i es.size ep u v->Shared.TypeIs { s with heap:=h } Wh "dict_itemiterator":=BT (ZDg z);have ows:ZAz = true:=by decide
 show ZIY (Lz Zx ZFP F.slot_dict_itemiterator_next (C9 F.slot_dict_itemiterator_next ZFP F.entry_dict_itemiterator_next ?_ (F.args_dict_itemiterator_next_1 _)));show ZV (Ah (Ah (Fw ZFP (Sk (Zy st rfl)))));rw[ows,if_pos rfl]
 show wpAny _ _ (if _ then _ else _) _ _ _
 rw[if_neg Aq];show ZV (F6 ho od ?_);rw[if_neg Aq];show ZV (Go ho od ?_);rw[if_neg Aq];show QU;rcases Nat.lt_or_ge i es.size with hi|hi
 .simp only[Int.toNat_natCast,Array.getElem?_eq_getElem hi];show Ah (Ah (Fw ZFP (Sk (Hm ZFP ?_))));show (BD (EM ((setField Wh 3 (Gq ((i)+1)) >>= _)) s) (Ah (DV st Aq (λg sg bg=>?_))));have sg':Kz g j d (i+1) es.size ep u v:=by
   unfold IsItemIter;rw[show ((i+1:Nat):Int)=i+1 by simp];simpa [rawInt] using sg
  have sz:g.objs.size=s.heap.objs.size:=bg.1;show ZBX (Ah (Hm (ty sg') (Ah (Hm (ty sg') (bn7  sg' ZDP)))));rw[sz] at a1 a2 ⊢;show ZBb (BA (q1 hi h' a1 a2 (CA (a3 b o hb (bg.extBut b o hb e)))))
 .simp only[Int.toNat_natCast,Array.getElem?_eq_none hi];show Ah (Ah (Fw ZFP (BA (BD (EM ((setField Wh 2 .none >>= _)) s) (Ah (Hn st rfl Aq (FS ?_)))))));show Ah (C1 (FS (ZIi (by first | rfl | lia) (C1 ?_ (by size_fits)))) (by size_fits));simp only[raiseNew]
  refine wpAny_bind (wpAny_handled ?_)
  rw[show A.in1.handled=none from hd hi]
  refine wpAny_bind (wpAny_pure (wpAny_throw ?_))
  show Ah (Yu ZDh (BA (q2 hi _ (((Heap.SameBut.update ..).extBut.push _).push _))))
def b22 {v:Addr}(hv:s.heap.IsItemsView v d)(x:ZGC)
  (q:∀h',Kz h' s.heap.objs.size d 0 es.size ep .none .none->(∀b o,RT=Nd->Qg=Nd)->Q Nf { s with heap:=h' }):wpAny P0 A (pyIter (A5 v)) Q E s:=by
 let⟨o,ho,_,od⟩:=x;let⟨ov,h1,_,h2⟩:=id hv;have ows:ZAz = true:=by decide
 refine wpAny_pyIter_slot hv.typeIs F.slot_dict_items_iter (wpAny_call_entry F.slot_dict_items_iter hv.typeIs F.entry_dict_items_iter ?_ (F.args_dict_items_iter_1 _))
 show ZV (Ah (ZD2 h1 h2 (Sk (Ah (F6 ho od (Ah (Go ho od ?_)))))));simp only[ows,if_true];show C1 (CM (Cu _ rfl "dict_itemiterator" _ ZDh F.slot_dict_itemiterator_next.lookup (q _ ?_ WF))) (by simp only[sizeOk,Builtin.Dict_items.ownedTupleFields,List.size_toArray,List.length_append,List.length_cons,List.length_nil,sizeLine_eq];simp_all);show Ow
def b21 (hs:(d == sysModules)=false)(x:ZGC)
  (q:∀h',h'.IsItemsView s.heap.objs.size d->(∀b o,RT=Nd->Qg=Nd)->h'.objs.size=s.heap.objs.size+1->Q Nf { s with heap:=h' }):wpAny P0 A (call (CF "dict.items") [ZHH]) Q E s:=by
 show C9 F.slot_dict_items x.ty F.entry_dict_items ?_ (F.args_dict_items_1 _);show Ah (Ah (Fx x.ty (BA (FS ?_))));unfold Builtin.Dict.showsAll;rw[if_neg Aw];show Sk (wpAny_newObj_type (ZBb (q _ (Vh _ Ow) WF (Heap.size_push ..))))
end
section
variable {A:Around}{κ:Type}[DecidableEq κ]{knd:Yw w κ}{xs:Au (κ×Addr×Value)}{k:κ}
def cm5 (ho:Cj d=Nd)(hc:o.ExactDict)(hd:o.data=Zg)(he:es.toList=Ff (entryOfKey knd))(hk:∀x∈xs,knd.is h x.1 x.2.1)(hn:(Ch ((·.1))).Nodup)(ha:knd.is h k a)(no:k∉Ch ((·.1))) :
  (h.update d (Obj.mapDictKeys (·.push ⟨knd.hash k,.ref a,v⟩))).DictOfH knd d (xs++[(k,a,v)]):=by
 have sb:=Heap.SameBut.update h d (Obj.mapDictKeys (·.push ⟨knd.hash k,.ref a,v⟩));show IV _ _ (ep+1) (HQ ho (Obj.isFreed_of_dict (Lx hd))) (hc.mapDictKeys _) (Lx hd) ?_ (La ?_) ?_
 .rw[Array.toList_push,he,List.map_append];rfl
 .rcases List.mem_append.mp m with m|m
  .show knd.keeps (hk x m) ho hd sb
  .obtain rfl:=De m;show knd.keeps ha ho hd sb
 .rw[List.map_append];show Cw (BH hn Aq (λx m y m' z=>no (by rw[show k=x from (De m').symm.trans z.symm];show m)))
def bc4 (hu:knd.room A)(hkey:knd.is s.heap k a)(hm:s.heap.DictOfH knd d xs)(hz:xs.length<=sizeLine)
  (q1:∀p,Z5 k=UL->∀tk,Q p.2 { s with toks:=tk }) (q2:Z5 k=none->∀h' tk,Kd knd d (xs++[(k,a,v)])->Ul d h'->Q v { s with heap:=h',toks:=tk }) :
  wpAny P0 A (dictSetDefault d PK v) Q E s:=by
 let⟨o,es,ep,ho,hc,hd,he,hk,hn⟩:=hm;show DF (Ah (knd.pyHash hu hkey (Ah (wpAny_dictFind_heap  hu hkey ho hd he hk hn (λno=>?_) λj p hj=>?_))))
 .have sz:=size_of_entries he;show ZEZ (Ah (wpAny_updateDictKeys (hz:=Aw)  ho hd (BA (q2 (atKey_none_of_get no) _ _ (cm5 ho hc hd he hk hn hkey (not_mem_keys_of_get no)) (Heap.SameBut.update ..)))))
 .show Ah (wpAny_dictEntries  ho hd ?_);rw[entry_at he j,hj];show ZEZ (BA (q1 p (atKey_of_get hn hj) _))
def bh4 (hu:knd.room A.in1)(hd:(d == sysModules)=false)(hkey:knd.is s.heap k a)(hm:s.heap.DictOfH knd d xs)(hz:xs.length<=sizeLine)
  (q1:∀p,Z5 k=UL->∀tk,Q p.2 { s with toks:=tk }) (q2:Z5 k=none->∀h' tk,Kd knd d (xs++[(k,a,v)])->Ul d h'->Q v { s with heap:=h',toks:=tk }) :
  wpAny P0 A (call (CF "dict.setdefault") [ZHH,PK,v]) Q E s:=by
 show C9 F.slot_dict_setdefault hm.typeIs F.entry_dict_setdefault ?_ (F.args_dict_setdefault_3 _ _ _);show Ah (Ah (Fx hm.typeIs (BA (BD (HR (ite ((d == sysModules)=true) _ _) s) ?_))));rw[if_neg Aw];show Ah (bc4 hu hkey hm hz (λp e tk=>ZBb (q1 p e tk)) λe h' tk m sb=>ZBb (q2 e h' tk m sb))
end
def TuS (h h':Heap):Prop:=∀b o,o.cls=Sb->Tk=Nd->Qg=Nd
def TuS.tr {h1 h2 h3:Heap}(a:TuS h1 h2)(b:TuS h2 h3):TuS h1 h3:=λc o z e=>b c o z (a c o z e)
def TuS.but {c:Addr}(sb:DP c h h')(ho:Cj c=Nd)(n:o.cls≠Sb):ZGp:=λb u z e=>(sb.2 b (ID (n Aw))).trans e
variable {its:OX}
section
variable {A:Around}{κ:Type}[DecidableEq κ]{hk:Yw w κ}
def PairH (hk:Yw w κ)(h:Heap)(p:Value)(x:κ×Addr×Value):Prop:=∃pa,p=.ref pa/\IsTup h pa #[.ref x.2.1,x.2.2]/\hk.is h x.1 x.2.1
def Tst (hk:Yw w κ):Prop:=∀{h h':Heap} {k:κ} {a:Addr},ZGp->hk.is h k a->hk.is h' k a
def PairH.st (T:ZJP){p:Value}{x:κ×Addr×Value}(q:PairH hk h p x)(t:ZGp):PairH hk h' p x:=by
 let⟨pa,e,⟨o,e1,c,r⟩,k⟩:=q;show By pa e (By o (t _ _ c e1) c r) (T t k)
def xc (T:ZJP){ys:Au (κ×Addr×Value)}(D:h.DictOfH hk d ys)(t:ZGp)(e:∀o,Cj d=Nd->Bv d=Nd):Kd hk d ys:=by
 let⟨o,es,ep,ho,r1,r2,r3,r4,r5⟩:=D;show IV o es ep (e o ho) r1 r2 r3 (Cy (T t (r4 x hx))) r5
def an1 {xs:Au (κ×Addr×Value)}{k:κ}:(storedH xs k a v).length<=xs.length+1:=by
 unfold storedH;split <;> simp
def ci4 (T:ZJP){xs:Au (κ×Addr×Value)}{res:Value}{R:Result->Shared->Prop}(hh:A.handled=none)(hu:hk.room A.in1)(hdl:l≠d)(hdi:d≠it)(hli:l≠it)(hsz:its.size=xs.length)(hz:xs.length<=100000) :
  ∀(k i:Nat) (s:Shared) (ys:Au (κ×Addr×Value)),i+k=xs.length->(∀(j:Nat) x,xs[j]?=OZ->∃p,its[j]?=UL/\PairH hk s.heap p x)->s.heap.IsListIter it l i->s.heap.IsList l its->s.heap.DictOfH hk d ys->ys.length<=i->
   (∀h' tk,Kd hk d ((Dp i).foldl (ZEB ys x.1 x.2.1 x.2.2) ys)->(∀b o,b≠d->b≠it->RT=Nd->Qg=Nd)->R (T6 res) { s with heap:=h',toks:=tk })->
   codeAny P0 A (.builtin "dict.update.loop" (YR [ZHH,W0,Gq i,res])) R s:=by
 intro k
 induction k with
 | zero=>
  intro i s ys hk' hp hit hl hD hy q;obtain rfl:i=xs.length:=by omega
  let⟨oi,hoi,ci,di⟩:=id hit;show ZJQ ?_;show (Ah (wpAny_pyNext_list_end hh hit hl (by rw[<-hsz];simp) (Hq ?_)));have t:ZGo s.heap:=λb o z e=>eb b o (ID Aw) e;show (Ah (BA (BA (q h' s.toks ?_ λb o y_ n e=>eb b o n e))));rw[List.drop_length];show xc T hD t (Cp (eb d o hdi e))
 | succ k ih=>
  intro i s ys hk' hp hit hl hD hy q;have hlt:i<xs.length:=by lia
  let⟨oi,hoi,ci,di⟩:=id hit;let⟨p,hpi,pq⟩:=hp i xs[i] (Ax hlt);show ZJQ ?_;show (Ah (wpAny_pyNext_list_item hit hl hpi λh1 hit1 sb1=>?_));have t1:=TuS.but sb1 hoi (by rw[ci];decide);let⟨pa,rfl,⟨op,hop,hpc,np,hpd⟩,hkey⟩:=pq.st T t1;have hD1:=xc T hD t1 (Cp ((sb1.2 d hdi).trans e));let⟨od,_,_,hod,hdc,_⟩:=id hD1;show (ZBX (Ah (wpAny_tryCatch (Ah (wpAny_typeOf  (U6 hop hpc) ?_)))));show Ah (EA hop hpd (BA (DF (wpAny_dictSet_heap   hu hkey hD1 (λh2 hD2 sb2=>CM (Pk (J9 bm2))) (Dl (av1 (by grind)))))));have t2:=TuS.but sb2 hod (by rw[hdc.1];decide);let⟨ol,hol,rl⟩:=id hl;have up:∀b o,b≠d->b≠it->RT=Nd->Lr b=Nd:=λb o m1 m2 e=>(sb2.2 b m1).trans ((sb1.2 b m2).trans e);show ih (i+1) { s with heap:=h2,toks:=s.toks+hk.draws xs[i].1 } (storedH ys xs[i].1 xs[i].2.1 xs[i].2.2) Ab YF (hit1.at (Cp ((sb2.2 it (BX hdi)).trans e))) (BH ol (up l ol hdl hli hol) rl) hD2 (Bq an1 Ab) λh3 tk hD3 k3=>?_
  .let⟨p',e1,pq'⟩:=hp j x hj;show BH p' e1 (pq'.st T (t1.tr t2))
  .show q h3 tk ?_ λb o m1 m2 e=>k3 b o m1 m2 (up b o m1 m2 e)
   rw [List.drop_eq_getElem_cons hlt]
   show hD3
def a00 (T:ZJP){xs:Au (κ×Addr×Value)}(hh:A.handled=none)(hu:hk.room A.in1.in1)(hl:BU l=FU ({ cls:=.type "list",data:=.seq its n }))(hsz:its.size=xs.length)(hz:xs.length<=100000)
  (hp:∀(j:Nat) x,xs[j]?=OZ->∃p,its[j]?=UL/\PairH hk s.heap p x)
  (q:∀h' tk,Kd hk s.heap.objs.size (xs.foldl (ZEB ys x.1 x.2.1 x.2.2) [])->(∀b o,RT=Nd->Qg=Nd)->Q Nf { s with heap:=h',toks:=tk }) :
  wpAny P0 A (call ZAH [On]) Q E s:=by
 refine callType_codes (Q₁ := fun obj s₁ => obj = .ref s.heap.objs.size ∧ s₁ = { s with heap := s.heap.push { cls := .type "dict", data := .dict #[] } }) F.kt_called_dict (F.kt_typeCall_dict_1 _) F.entry_dict_init (kt_code_dict_new _ ⟨rfl, rfl⟩) ?_
 rintro obj s₁ ⟨rfl,rfl⟩;have D0:(HB ({ cls:=.type "dict",data:=.dict #[] })).DictOfH hk s.heap.objs.size []:=Heap.DictOfH.new s.heap;have u0:∀b o,RT=Nd->(HB ({ cls:=.type "dict",data:=.dict #[] })).get? b=Nd:=WF;revert D0 u0;generalize s.heap.push { cls:=.type "dict",data:=.dict #[] }=g;intro D0 u0;have ty:=D0.typeIs (s:={ s with heap:=g });show Qs ty (F.args_dict_init_2 _ _);show Ah (Ah (Fx ty (Sk (wpAny_typeOf  (ZDg (u0 _ _ hl)) ?_))));show Ah (b14  (u0 _ _ hl) hh λh2 tk2 k2=>?_);have up:=B4 (k2 b o (u0 b o e));have D2:=xc T D0 (LX (k2 b o e)) (Cp (k2 _ o e));let⟨od,_,_,hod,_⟩:=id D2;have dlt:=BN hod;have lt2:∀{b:Addr} {o:Obj},RT=Nd->b≠s.heap.objs.size/\b≠h2.objs.size:=BQ (A3 ZEz (SQ (up _ _ e)));have pu:∀o' b o,Lr b=Nd->(h2.push o').get? b=Nd:=λo' b o e=>Ra;show ZEZ (Ah (wpAny_pyIter_list   (ZJ _ (up _ _ hl) n) (CM (Pk (J9 bm2)))));show ci4 T (A:=A.in1)   hh hu (lt2 hl).1 (BZ dlt) (lt2 hl).2 hsz hz xs.length 0 _ [] Aw YF (Vh _ Ow) (ZJ _ (pu _ _ _ (up _ _ hl)) n) (xc T D2 (LX (pu _ b o e)) (Cp (pu _ _ o e))) As λh' tk D' kk=>?_
 .let⟨p,e1,pq⟩:=hp j x hj;show BH p e1 (pq.st T (LX (pu _ b o (up b o e))))
 .show OI (q h' tk D' (B4 (kk b o (lt2 e).1 (lt2 e).2 (pu _ b o (up b o e)))))
end
def bu3 (hc:X.calm=true):ZIo (CF "any") (∃(p:Addr) (bs:List Bool),xs=[Pw]/\ZHn p (Fh V.bl)/\Q (.bl ZGq) H):=by
 intro pins s σ H xs us Q I r h;let⟨p,bs,rfl,hq,q⟩:=h;let⟨u,rfl,ru⟩:=ZAb;cases ru;let⟨vs,rv,pl,hz⟩:=WK;have hl:=pl.isList;have hb:=at3 rv;have W:=Walks.list (A:=X.A.in1) (prog:=X.prog) (w:=X.w) S3 s.heap.objs.size p (BZ (by let⟨_,e,_⟩:=hl;show Heap.lt_size e)) vs.toArray;have tr:∀(i:Nat) (v:Value) (s':Shared) (Q':Bool->Shared->Prop) (E':Value->Shared->Prop),vs.toArray[i]?=Pm->Q' ((bs[i]?).getD false) s'->Ia N6 X.A.in1 ZBz Q' E' s':=λi v s' Q' E' e q'=>by
  let⟨b,e2,rfl⟩:=hb.get i v (by simpa using e);rw[e2] at q';show Gr q'
 have tot:((B1 vs.toArray.size).any (GF ((bs[i]?).getD false)))=ZGq:=by
  rw[List.size_toArray,hb.length];show PyProof.Rows.LSm.range_any bs
 show call_any_walk (wpAny_pyIter_list hl ⟨_,_,_,_,_,_,λi=>(bs[i]?).getD false,rfl,W,⟨⟨_,Heap.get?_push_size _ rfl,rfl,rfl⟩,hl.push _⟩,tr,λh' tk hk=>by
  rw[tot];show⟨.bl _,H,I.kept (PyProof.Rows.LSm.kept_iter hk),rfl,q⟩⟩)
abbrev Bit:=(Pt3×Pt3)×NX
def gB (ns ms:NX):NX:=List.zipWith (Jn (a+b)) ns ms
def ngL (ns:NX):NX:=ns.map (MZ (-n))
open Classical in
def atB (es:Pp)(e:Pt3×Pt3):BO NX:=(Jm (T8 (x.1=e))).map (·.2)
open Classical in
def dI (es:Pp)(e:Pt3×Pt3)(ws:NX):Pp:=Ak ((ZDA).isSome) (Fd (Bi (Ak (x.1=e) ((x.1,ws)) x))) (es++[(e,ws)])
def fI (es:List Bit)(e:Pt3×Pt3)(ws:List Int):List Bit:=dI es e (match atB es e with | some ns=>gB ns ws | none=>ws)
def bk3 {es:Pp}{e:Pt3×Pt3}{ws:NX}:(dI es e ws).length<=es.length+1:=by
 unfold dI;split
 .rw[List.length_map];simp_all
 .rw[List.length_append];show Nat.le_refl _
abbrev Oth:=Pt3×NT
open Classical in
def atO (os:UO)(z:Pt3):BO NT:=(os.find? (T8 (x.1=z))).map (·.2)
open Classical in
def aX (os:UO)(z q:Pt3):UO:=(Ak ((atO os z).isSome) os (os++[(z,[])])).map (Bi (Ak (x.1=z) ((x.1,x.2++[q])) x))
end L2
namespace PySem
def TupO (h:Heap)(l:Addr)(its:OX):Prop:=∃d n sl,Cj l=FU ({ cls:=.type "tuple",dict:=d,data:=.seq its n,slots:=sl })
variable {l:Addr}{its:OX}
def TupO.ty {s:Shared}(h:TupO s.heap l its):Km On "tuple":=let ⟨_,_,_,e⟩:=h;⟨_,e,rfl⟩
def bo3 {a:Int}{t:Tok}:Meets (Builtin.«int.__rmul__» ⟨[.int a t,.ref l],[]⟩) λy_ R s=>TupO s.heap l its/\R (T6 .notImplemented) s:=by
 show YG ?_;let⟨⟨d,n,sl,o⟩,r⟩:=h
 wp_walk
 show Ts r
def aq6 (v:Value)(k:Nat):∀acc:Array Value,(List.replicate k #[v]).foldl (G5 (x++y)) acc=acc++(BC k v).toArray:=by
 induction k with
 | zero=>simp
 | succ k ih=>
  intro acc;rw[List.replicate_succ,List.foldl_cons,ih];apply Array.ext';simp[List.replicate_succ]
def nC (v:Value)(l:Addr)(x:Int)(R:Result->Shared->Prop)(s:Shared):Prop:=
 (x=1->R (T6 On) s)/\(x≠1->R (T6 Nf) { s with heap:=s.heap.push { cls:=.type "tuple",data:=.seq (BC x.toNat v).toArray } })
def bj5 {v:Value}{x:Int}{u:Tok}(h0:0<=x)(h1:x<=100000):Meets (Builtin.«tuple.__mul__» ⟨[.ref l,.int x u],[]⟩) λy_ R s=>TupO s.heap l #[v]/\nC v l x R s:=by
 show YG ?_;cases s;let⟨⟨d,n,sl,o⟩,r1,r2⟩:=h;have big:(100000:Int)<=sizeLine:=by decide
 wp_walk
 show GQ (by simp;lia) ?_
 wp_walk
 by_cases e:x=1
 .subst e
  wp_walk
  show Ts (r1 rfl)
 .have r:=r2 e;show GQ (by simp[e]) ?_
  wp_walk
  by_cases e0:x<=0
  .obtain rfl:x=0:=by lia
   wp_walk
   show Ts r
  .rw[<-show (List.replicate x.toNat #[v]).foldl (G5 (x++y)) #[]=(BC x.toNat v).toArray by rw[aq6];simp] at r;show GQ (by simp;lia) ?_
   wp_walk
   show GQ (by simp;lia) ?_
   wp_walk
   show GQ (by simp[Builtin.Tuple.tupleTooMany];lia) ?_;have few:¬((List.replicate x.toNat #[v]).foldl (G5 (x++y)) #[]).size > sizeLine:=by rw[aq6];simp;lia
   wp_walk
   show Ts r
end PySem
namespace L2
open PySem PySem.Spec PyProof.Rows PySem.W
section
variable {X:Cx}
def lR (K:PySem.W.Frag):R2:=DW (∃a v n,x=PK/\y=BR n/\SqT K H a [v]/\0<=n/\n<=100000/\(n=1->Q PK H)/\(n≠1->∀p,H p=none->Q Pw (PR p (F0 (BC n.toNat v)))))
def am7 {v:V}{u:Value}(r:UA):∀k,GK (BC k v) (BC k u)
 | 0=>.nil
 | k+1=>.cons r (am7 r k)
def b01:ZBp .Mult (lR X.K):=by
 rintro pins s σ H x y v u Q I rx ry ⟨a,v0,n,rfl,rfl,ha,h1,h2,q1,q2⟩;cases rx;let⟨tk,rfl⟩:=ry;let⟨its,r1,⟨⟨cls,d,data,sl⟩,ho,hcl,k,hd⟩,_⟩:=Et ha;let⟨v1,rfl,rv⟩:=ph r1;subst hcl hd;have at_:TupO s.heap a #[v1]:=By _ _ _ ho;have rep:seqRepeat? Sb=Gx (Af (CF "tuple.__mul__")):=by
  simp only[seqRepeat?];rfl
 show wpAny_binaryOp_repeat_ref AC at_.ty (λs'=>typeIs_int s' n _) (PySem.fillsNumberSlot_seq F.slot_tuple_mul.lookup AD F.slot_tuple_rmul.lookup AD) F.fills_int_mul F.slot_int_rmul rep F.slot_int_index.lookup ?_;show call_meets F.slot_int_rmul (typeIs_int s n _) F.entry_int_rmul (F.args_int_rmul_2 _ _) bo3 (Sf at_ at_.ty ?_);show call_meets F.slot_tuple_mul at_.ty F.entry_tuple_mul (F.args_tuple_mul_2 _ _) (bj5 h1 h2) (BH at_ (BQ (Py PK H I (q1 e))) Ot);show Py Nf _ (I.laid   ZCT As ?_) (q2 e _ S0);show By (by rw[List.length_replicate];show Nat.le_of_lt (av1 Ab)) _ (am7 rv _) Jh
end
structure Wt (F:Pt3->Pt3->Int):Prop where
 rev:∀u v,F v u = -F u v
 cut:∀{u v w:Pt3},Lp u->Lp v->Lp w->det u v w=0->ahd u w=true->ZJA w=true->F u v=F u w+F w v
open Classical in
def flow (z u v:Pt3):Int:=Xi (u=z) 1 0 - Xi (v=z) 1 0
def b65 {a b z w:Pt3}(hab:Fz a b)(h1:PU z=0)(h2:PU w=0):N7 z w=0:=by
 have e1:N7 z w*(a.y*b.z - a.z*b.y)=0:=by unfold det at *;grind
 have e2:N7 z w*(a.z*b.x - a.x*b.z)=0:=by unfold det at *;grind
 rcases Int.mul_eq_zero.mp e1 with h|h
 .show h
 rcases Int.mul_eq_zero.mp e2 with h'|h'
 .show h'
 exfalso;unfold Apart at hab;grind
def bE (row:NT):Au (Pt3×Pt3):=row.zip (row.drop 1)
def p7 (x y:Pt3)(l:NT):bE (x::y::l)=(x,y)::bE (y::l):=rfl
def a67 {F:Pt3->Pt3->Int}(W:ZEC){a b:Pt3}(hab:Fz a b)(hb:Vu):∀(l:List Pt3) (x:Pt3),Srt (x::l)->(x::l).getLast?=UK->(∀z∈x::l,PU z=0)->((bE (x::l)).map (BQ (F e.1 e.2))).sum=Ak (x=b) 0 (F x b)
 | [],x,_,e,_=>by
  cases e;simp[bE]
 | y::l,x,s,e,h=>by
  have s2:Srt (y::l):=A3 (Cv (s.1 z (A7 hz))) ((Df s.2).2);have e2:=by show e
  have ih:=a67 W hab hb l y s2 e2 (Cv (h z (A7 hz)));have bm:b∈y::l:=Mu e2;have xb:=s.head bm;have xy:=s.head List.mem_cons_self;have nx:x≠b:=λz=>by rw[z,gj] at xb;cases xb
  rw[p7,List.map_cons,List.sum_cons,ih,if_neg nx];by_cases yb:y=b
  .simp_all
  .rw[if_neg yb];show (W.cut (s.1 x List.mem_cons_self) hb (s.1 y Aq) (b65 hab (P8 x) (h y Aq)) xy ?_).symm;rcases List.mem_cons.mp bm with z|z
   .show CN z.symm yb
   .show s2.head z
def bO (F:Pt3->Pt3->Int)(j:Nat)(es:Pp):Int:=(Fd (BQ (F e.1.1 e.1.2*e.2.getD j 0))).sum
def ml (F:Pt3->Pt3->Int)(j:Nat)(e:Bit)(es:Pp):bO F j (e::es)=F e.1.1 e.1.2*e.2.getD j 0+bO F j es:=by unfold bO;rw[List.map_cons,List.sum_cons]
variable {es:Pp}{e:Pt3×Pt3}
def bu7 (h:ZDA=none):∀x∈es,x.1≠e:=by
 intro x hx z;have:=List.find?_eq_none.mp (Option.map_eq_none_iff.mp h) x hx;simp[z] at this
def bc6 (es:Pp)(e:Pt3×Pt3)(ws:NX):(dI es e ws).map (·.1)=Ak ((ZDA).isSome) (Fd ((·.1))) (Fd ((·.1))++[e]):=by
 unfold dI;by_cases h:(ZDA).isSome=true
 .rw[if_pos h,if_pos h,List.map_map];show Ct ZAi;change (Ak (x.1=e) ((x.1,ws)) x).1=x.1;split <;> rfl
 .rw[if_neg h,if_neg h,List.map_append];rfl
variable {ws:NX}
def a66 (nd:(Fd ((·.1))).Nodup):((dI es e ws).map (·.1)).Nodup:=by
 rw[bc6];by_cases h:(ZDA).isSome=true
 .rw[if_pos h];show nd
 .rw[if_neg h];have hn:ZDA=none:=by simp_all
  show Cw (BH nd Aq (λx hx y hy z=>?_));let⟨x',hx',rfl⟩:=TY;show bu7 hn x' hx' (z.trans (De hy))
def a79 {F:Pt3->Pt3->Int}{j:Nat}{e:Pt3×Pt3}{ws ns:NX}:∀{es:List Bit},(Fd ((·.1))).Nodup->ZDA=Af ns->bO F j (Fd (Bi (Ak (x.1=e) ((x.1,ws)) x)))=bO F j es+F e.1 e.2*(Ky j 0 - ns.getD j 0)
 | x::es,nd,h=>by
  rw[List.map_cons,List.nodup_cons] at nd;rw[List.map_cons,ml,ml];unfold atB at h;by_cases z:x.1=e
  .rw[List.find?_cons_of_pos (by simpa using z)] at h;cases h;have:(Fd (Bi (Ak (x.1=e) ((x.1,ws)) x)))=es:=by
    show (Ct ZF1).trans (List.map_id _);rw[if_neg λw=>nd.1 (by rw[z,<-w];show List.mem_map_of_mem hy)];rfl
   rw[this,if_pos z,z];rw[Int.mul_sub];lia
  .rw[List.find?_cons_of_neg (by simpa using z)] at h;rw[if_neg z,a79 nd.2 h];lia
variable {ns:NX}
def bv4 (h:ws.length=ns.length)(j:Nat):(gB ns ws).getD j 0=ns.getD j 0+Ky j 0:=by
 unfold gB;rw[List.getD_eq_getElem?_getD,List.getD_eq_getElem?_getD,List.getD_eq_getElem?_getD,List.getElem?_zipWith];by_cases hj:j<ns.length
 .rw[List.getElem?_eq_getElem hj,List.getElem?_eq_getElem Aw];rfl
 simp_all
def b15 (ws:NX)(j:Nat):(ngL ws).getD j 0 = -Ky j 0:=by
 unfold ngL
 rw [List.getD_eq_getElem?_getD, List.getD_eq_getElem?_getD, List.getElem?_map]
 cases ws[j]? <;> simp
def b49 {m:Nat}(h:ZDA=Af ns)(hl:∀x∈es,x.2.length=m):ns.length=m:=by
 unfold atB at h;cases f:es.find? (T8 (x.1=e)) with
 | none=>simp_all
 | some x=>rw[f] at h;cases h;show hl x (Ex f)
def bl4 {F:Pt3->Pt3->Int}{j:Nat}(nd:(Fd ((·.1))).Nodup)(hl:∀x∈es,x.2.length=ws.length):bO F j (fI es e ws)=bO F j es+F e.1 e.2*Ky j 0:=by
 unfold fI dI;cases h:atB es e with
 | none=>
  simp[bO]
 | some ns=>
  rw[if_pos (BD ((Af ns).isSome=true) rfl)];rw[a79 nd h];rw[bv4 (b49 h hl).symm];congr 2;lia
section
variable {X:Cx}{pos:Pos}
def lI (i j l:Nat)(ta:TA):TS:=Ee (ta σ H (GB (∃v w u,vs=[v,w,u]/\D.nx (((ZGM).set j ZEY).set l O8) H1)))
def by5 {i j l:Nat}{x y z:Str}{a b c:Expr}{ta:TA}{px py pz pt:Pos}{kt k2 pt2}(hc:X.calm=true)(hN:X.N.Nodup)(hi:X.N[i]?=OZ)(hj:X.N[j]?=Qt)(hl:X.N[l]?=Wf)(hij:i≠j)(hil:i≠l)(hjl:j≠l)
  (hx:XT=N9) (hy:BI y=N9) (hz:BI z=N9) (ha:PA X [a,b,c] ta)
  (hw:ZCm (ZFv [W5,Wp,CW z pz]) (ZC7 [a,b,c])=Gx (FU [x,y,z]))
  (hs:No (ZC2 (ZFv [W5,Wp,CW z pz]) (ZC7 [a,b,c])=Rs)) :
  PS X (ZHX (ZFv [W5,Wp,CW z pz]) (ZC7 [a,b,c])) (lI i j l ta):=by
 intro pins s σ H D I h;show Assign_Tuple_swapped (names:=[x,y,z]) (Tuple_ (thn (ha _ pins s σ H _ I h) λus s1 hh_=>?_)) hs hw;let⟨vs,H1,I1,r,v,w,u,e,q⟩:=hh_;subst e;obtain⟨u1,u2,u3,rfl,rv,rw',ru⟩:∃u1 u2 u3,us=[u1,u2,u3]/\RelV v u1/\RelV w u2/\RelV u u3:=by
  rcases r with _|⟨p,_|⟨p',_|⟨p'',_|_⟩⟩⟩;show Cu _ _ _ rfl p p' p''
 show C1 ?_ (by change 3<=sizeLine;decide);show ZN #[u1,u2,u3] S3 s1.heap (λh' k=>?_);have I3:ZEy H1 ({ s1 with heap:=h' }):=I1.kept (t':=s1.toks) (B4 (k b o (SQ Ra) Ra));show ET (Gc (k9 I3 hN hl (CD hz) ru (λs4 I4=>?_) (CK hz)));show ET (Gc (k9 I4 hN hj (CD hy) rw' (λs5 I5=>?_) (CK hy)));show ET (Gc (k9 I5 hN hi (CD hx) rv (λs6 I6=>assignInOrder_nil ?_) (CK hx)));rw[List.set_comm O8 ZEY (BX hjl),List.set_comm O8 Pm (BX hil),List.set_comm ZEY Pm (BX hij)] at I6;show By _ H1 I6 q
end
end L2
namespace L2
open PySem PySem.Spec PyProof.Rows
def Nb (n:Nat)(r:NT):Prop:=(∀(i:Nat) a b,r[i]?=RS->r[i+1]?=UK->a≠b)/\(r.length=n->2<=n->∀a b,r[n - 1]?=RS->r[0]?=UK->a≠b)
def cc1 (n:Nat):Nb n []:=A3 (λi a b h=>by simp at h) (λy_ y_ a b h=>by simp at h)
variable {r:NT}
theorem nb_snoc {n:Nat}{p:Pt3}(h:Nb n r)(h1:r≠[]->p≠XZ (r.length - 1)/\(r.length+1=n->p≠XZ 0)):Nb n (r++[p]):=by
 show A3 (Jd ?_) (λhl h2 a b ha hb=>?_)
 .have hi:=(Ag hb).1;rw[List.length_append,List.length_singleton] at hi;rw[List.getElem?_append_left Aw] at ha;by_cases e:i+1<r.length
  .rw[List.getElem?_append_left e] at hb;show h.1 i a b ha hb
  .have ei:i+1=r.length:=by lia
   rw[List.getElem?_append_right Aw,ei,Nat.sub_self] at hb;cases hb;have:=(h1 (by rintro rfl;simp at ei)).1;rw[List.getD_eq_getElem?_getD,<-ei,Nat.add_sub_cancel,ha] at this;show BT (this z.symm)
 .rw[List.length_append,List.length_singleton] at hl;have hn:r≠[]:=by rintro rfl;simp at hl;lia
  have l0:=List.length_pos_iff.mpr hn;rw[List.getElem?_append_right Ab,show n - 1 - r.length=0 by simp_all] at ha;rw[List.getElem?_append_left l0] at hb;have:=(h1 hn).2 hl
  simp_all
def Nb.rev (h:Nb r.length r):Nb r.reverse.length r.reverse:=by
 rw[List.length_reverse];show A3 (Jd ?_) (λy_ h2 a b ha hb=>?_)
 .have hi:=(Ag hb).1;rw[List.length_reverse] at hi;rw[List.getElem?_reverse (by omega)] at ha hb;show BT (h.1 (r.length - 1 - (i+1)) b a hb (by grind) z.symm)
 .rw[List.getElem?_reverse Ab] at ha hb;rw[Nat.sub_self] at ha;show BT (h.2 rfl h2 b a hb ha z.symm)
structure RgOk (n:Nat)(r:List Pt3):Prop where
 l3:3<=r.length
 l12:r.length<=12
 nb:Nb r.length r
 pt:∀p∈r,ZFL p/\Pc
def RgOk.rev {n:Nat}{r:NT}(h:RgOk n r):RgOk n r.reverse:=By (by rw[List.length_reverse];show h.l3) (by rw[List.length_reverse];show h.l12) h.nb.rev (Bg (h.pt p (IL hp)))
def FrQ (f a b c:Int)(p r:Pt3):Prop:=XL (f*p.x+a*p.z) (f*p.y+b*p.z) (p.z*c)
def FrQ.ne {f a b c:Int}{p q r s:Pt3}(hf:0<f)(hc:0<c)(hp:Pc)(hq:QA)(h1:FrQ f a b c p r)(h2:FrQ f a b c q s)(n:p≠q):r≠s:=BQ (bs6 hf hc hp.pos hq.pos (ku hp hq n) h1 h2 (by rw[e];show⟨rfl,rfl⟩))
structure LyOk (n a b c:Nat)(lys:List (List (List Pt3))):Prop where
 la:lys.length<=a
 lb:∀rs∈lys,1<=rs.length/\rs.length<=b
 lc:∀rs∈lys,∀r∈rs,RgOk n r/\r.length<=c
def ba0 (r:NT):(cyc r).length=r.length:=by
 unfold cyc;grind
def ad9 {c:Nat}:∀{rs:List (List Pt3)},(∀r∈rs,r.length<=c)->(ZJR).length<=rs.length*c
 | [],_=>by simp
 | r::rs,h=>by
  have:=ad9 λs hs=>h s (A7 hs);have h0:=P8 r;rw[List.flatMap_cons,List.length_append,ba0,List.length_cons];lia
end L2
namespace L3
open PySem PySem.Spec PyProof.Rows L2
inductive A where
 | non | bl (b:Bool) | int (i:Int) | str (x:Str) | ref (a:Addr) | ty (n:String) | tup (xs:Oe)
noncomputable instance:DecidableEq A:=λa b=>Classical.propDecidable (a=b)
mutual
def VI (h:Heap):A->Value->Prop
 | .int i, v => ∃ t, v = .int i t
 | .tup xs,v=>∃a us,v=.ref a/\IsTup h a us.toArray/\VIL h xs us
 | .non,_=>False
 | .bl _,_=>False
 | .str _,_=>False
 | .ref _,_=>False
 | .ty _,_=>False
def VIL (h:Heap):Oe->Nk->Prop
 | [],us=>us=[]
 | x::xs,us=>∃u r,us=u::r/\VI h x u/\VIL h xs r
end
noncomputable def hk:Nat->A->Bool
 | 0,.int _=>true
 | n+1,.tup xs=>xs.all (hk n)
 | _,_=>false
mutual
def fX:A->Int
 | .int i=>hashInt i
 | .tup xs=>reduceHash (Ke (hashL xs))
 | _=>0
def hashL:Oe->NX
 | []=>[]
 | x::xs=>fX x::hashL xs
end
mutual
def fZ:A->Nat
 | .tup xs=>drawL xs+1
 | _=>1
def drawL:Oe->Nat
 | []=>0
 | x::xs=>fZ x+drawL xs
end
def qy {n:Nat}{k:A}(h:hk (n+1) k=true):∃xs,k=Qm/\∀x∈xs,hk n x=true:=by
 cases k with
 | tup xs=>show⟨xs,rfl,List.all_eq_true.mp h⟩
 | _=>cases h
def vw {k:A}(h:hk 0 k=true):∃i,k=P1:=by
 cases k with
 | int i=>show⟨i,rfl⟩
 | _=>cases h
section
variable {prog:Program}{w:World}{h:Heap}
def VI.one:∀(n:Nat) {x y:A} {v:Value},hk n x=true->hk n y=true->VI h x v->VI h y v->x=y:=by
 intro n
 induction n with
 | zero=>
  intro x y v hx' hy' h1 h2;let⟨i,rfl⟩:=ZJS;let⟨j,rfl⟩:=vw hy';let⟨t,rfl⟩:=h1;let⟨t',e⟩:=h2;cases e;rfl
 | succ n ih=>
  intro x y v hx' hy' h1 h2;let⟨xs,rfl,hx⟩:=ZJT;let⟨ys,rfl,hy⟩:=qy hy';let⟨a,us,rfl,t1,l1⟩:=h1;let⟨b,vs,e,t2,l2⟩:=h2;cases e;rw[bw7 t1 t2] at l1;congr 1;clear t1 t2 hx' hy'
  induction xs generalizing ys vs with
  | nil=>
   have:=l1;subst this;cases ys with
   | nil=>rfl
   | cons y ys=>let⟨_,_,e,_⟩:=l2;cases e
  | cons x xs ihx=>
   let⟨u,r,rfl,h1,h2⟩:=l1;cases ys with
   | nil=>cases l2
   | cons y ys=>
    let⟨u',r',e,g1,g2⟩:=l2;cases e;rw[ih (hx x Aq) (hy y Aq) h1 g1,ihx (Cv (hx z (by simp[hz]))) ys (Cv (hy z (by simp[hz]))) _ h2 g2]
def VI.hsh:∀(n:Nat) {A':Around} {x:A} {v:Value},hk n x=true->VI h x v->A'.units+n<cLine->Hsh prog w A' h v (fX x) (fZ x):=by
 intro n
 induction n with
 | zero=>
  intro A' x v hx' h1 hu;let⟨i,rfl⟩:=ZJS;let⟨t,rfl⟩:=h1;rw[fX,fZ]
  .show b28 i t
  lia
 | succ n ih=>
  intro A' x v hx' h1 hu;let⟨xs,rfl,hx⟩:=ZJT;let⟨a,us,rfl,t1,l1⟩:=h1;have key:∃ps:List (Int×Nat),FH ((·.1))=hashL xs/\(FH ((·.2))).sum=drawL xs/\CB (λv (p)=>Hsh prog w A'.in1 h v p.1 p.2) us ps:=by
   clear t1 hx'
   induction xs generalizing us with
   | nil=>have:=l1;subst this;show⟨[],rfl,rfl,.nil⟩
   | cons x xs ihx=>
    let⟨u,r,rfl,h1,h2⟩:=l1;let⟨ps,e1,e2,p⟩:=ihx (Cv (hx z (by simp[hz]))) _ h2;show By ((fX x,fZ x)::ps) (by rw[List.map_cons,e1];rfl) (by rw[List.map_cons,List.sum_cons,e2];rfl) (Iu (ih (hx x Aq) h1 Ab) p)
  let⟨ps,e1,e2,p⟩:=key;have:=b27   t1 Ab p;rw[e1,e2] at this;show this
def VI.qui:∀(n:Nat) {k:Nat} {A':Around} {x:A} {v:Value},hk n x=true->VI h x v->Qui prog w A' h (n+k) v:=by
 intro n
 induction n with
 | zero=>
  intro k A' x v hx' h1;let⟨i,rfl⟩:=ZJS;let⟨t,rfl⟩:=h1;intro E s Q _ q;rw[eqIsQuiet_byValue _ AB];show BA q
 | succ n ih=>
  intro k A' x v hx' h1;let⟨xs,rfl,hx⟩:=ZJT;let⟨a,us,rfl,t1,l1⟩:=h1;rw[show n+1+k=n+k+1 by lia];show by0 t1 ZKk;clear t1 hx'
  induction xs generalizing us with
  | nil=>have:=l1;subst this;cases hv
  | cons x xs ihx=>
   let⟨u,r,rfl,h1,h2⟩:=l1;rcases List.mem_cons.mp hv with e|hv
   .rw[e];show ih (hx x Aq) h1
   .show ihx (Cv (hx z (by simp[hz]))) _ h2 hv
def VI.eqs:∀(n:Nat) {A':Around} {x y:A} {u v:Value},hk n x=true->hk n y=true->VI h x u->VI h y v->A'.units+n<cLine->Eqs prog w A' h u v (GX (x=y)):=by
 intro n
 induction n with
 | zero=>
  intro A' x y u v hx' hy' h1 h2 hu;let⟨i,rfl⟩:=ZJS;let⟨j,rfl⟩:=vw hy';let⟨t,rfl⟩:=h1;let⟨t',rfl⟩:=h2;intro E s Q _ q;show wpAny_eqBool_int ?_;rw[show (i == j)=decide (i=j) from rfl,show decide (i=j)=decide (Er i=Er j) from decide_eq_decide.mpr Aq];show q
 | succ n ih=>
  intro A' x y u v hx' hy' h1 h2 hu;let⟨xs,rfl,hx⟩:=ZJT;let⟨ys,rfl,hy⟩:=qy hy';let⟨a,us,rfl,t1,l1⟩:=h1;let⟨b,vs,rfl,t2,l2⟩:=h2;have pr:∀{zs:List A} {ws:List Value},(∀z∈zs,hk n z=true)->VIL h zs ws->CB (λv x=>hk n x=true/\VI h x v) ws zs:=by
   intro zs
   induction zs with
   | nil=>intro ws _ l;rw[l];show .nil
   | cons z zs ihz=>
    intro ws hz l;let⟨u,r,rfl,g1,g2⟩:=l;show .cons (A3 (hz z Aq) g1) (ihz (Dw (hz q (by simp[hq]))) g2)
  have:=b35 (prog:=prog)    t1 t2 (show A'.units<cLine by lia) (pr hx l1) (pr hy l2) (λv x y i j=>VI.one n i.1 j.1 i.2 j.2) λu v x y i j=>ih i.1 j.1 i.2 j.2 Ab
  simp_all
end
mutual
def VI.keeps {h h':Heap}{d:Addr}{o:Obj}{es ep}(ho:Cj d=Nd)(hd:o.data=Zg)(hs:DP d h h'):∀{x:A} {v:Value},VI h x v->VI h' x v
 | .int _,_,z=>z
 | .tup _,_,h=>by let⟨a,us,e,t,l⟩:=h;show⟨a,us,e,bb7 t ho hd hs,VIL.keeps ho hd hs l⟩
def VIL.keeps {h h':Heap}{d:Addr}{o:Obj}{es ep}(ho:Cj d=Nd)(hd:o.data=Zg)(hs:DP d h h'):∀{xs:List A} {us:List Value},VIL h xs us->VIL h' xs us
 | [],_,z=>z
 | _::_,_,h=>by let⟨u,r,e,z,l⟩:=h;show⟨u,r,e,VI.keeps ho hd hs z,VIL.keeps ho hd hs l⟩
end
mutual
def VI.tst {h h':Heap}(t:ZGp):∀{x:A} {v:Value},VI h x v->VI h' x v
 | .int _,_,z=>z
 | .tup _,_,h=>by let⟨a,us,e,⟨o,e1,c,r⟩,l⟩:=h;show⟨a,us,e,⟨o,t _ _ c e1,c,r⟩,VIL.tst t l⟩
def VIL.tst {h h':Heap}(t:ZGp):∀{xs:List A} {us:List Value},VIL h xs us->VIL h' xs us
 | [],_,z=>z
 | _::_,_,h=>by let⟨u,r,e,z,l⟩:=h;show⟨u,r,e,VI.tst t z,VIL.tst t l⟩
end
noncomputable def kd (n:Nat)(hn:n<=6)(prog:Program)(w:World):HeapKind prog w A where
 is h k a:=hk (n+1) k=true/\VI h k PK
 hash:=fX
 draws:=fZ
 room A':=A'.units+(n+1)<cLine
 inj:=CL (VI.one (n+1) i.1 j.1 i.2 j.2)
 keeps:=λz ho hd hs=>A3 z.1 (VI.keeps ho hd hs z.2)
 pyHash:=λhu z q=>VI.hsh (n+1) z.1 z.2 hu _ _ _ rfl q
 eqBool:=λhu x y q=>VI.eqs (n+1) x.1 y.1 x.2 y.2 hu _ _ _ rfl q
 quiet:=λ{A' E s k a Q} z q=>by
  have:=VI.qui (prog:=prog) (w:=w) (A':=A') (n+1) (k:=8 - (n+1)) z.1 z.2;rw[show n+1+(8 - (n+1))=8 by lia] at this;show this _ _ _ rfl q
def b85 (n:Nat)(hn:n<=6)(prog:Program)(w:World):Tst (kd n hn prog w):=λt z=>A3 z.1 (VI.tst t z.2)
mutual
def Is (H:Hp):A->V->Prop
 | .non,v=>v=.non
 | .bl b,v=>v=.bl b
 | .int i,v=>v=.int i
 | .str x,v=>v=.str x
 | .ref a,v=>v=.ref a
 | .ty n,v=>v=.ty n
 | .tup xs,v=>∃a vs,v=.ref a/\H a=some (F0 vs)/\IsL H xs vs
def IsL (H:Hp):Oe->Om->Prop
 | [],vs=>vs=[]
 | x::xs,vs=>∃v r,vs=v::r/\Is H x v/\IsL H xs r
end
def Keep (H H':Hp):Prop:=∀a xs,Vj=V7->H' a=V7
def Keep.refl (H:Hp):Gk H H:=Hi h
variable {H H':Hp}
def Keep.trans {H'':Hp}(a:Sd)(b:Gk H' H''):Gk H H'':=Hi (b _ _ (a _ _ h))
variable {l:Addr}
def Keep.new {o:HO}(h:ZBv=none):Gk H (PR l o):=λa xs e=>by
 rw[cj (da e h)];show e
def Keep.set {o u:HO}(h:ZBv=O8)(n:∀xs,u≠Qm):Gk H (PR l o):=λa xs e=>by
 rw[cj (a76 e h (BT (n xs z.symm)))];show e
mutual
def Is.keep {H H':Hp}(k:Sd):∀{a:A} {v:V},Yp->Is H' a v
 | .non,_,h=>h
 | .bl _,_,h=>h
 | .int _,_,h=>h
 | .str _,_,h=>h
 | .ref _,_,h=>h
 | .ty _,_,h=>h
 | .tup _,_,⟨a,vs,e,h,t⟩=>⟨a,vs,e,k _ _ h,IsL.keep k t⟩
def IsL.keep {H H':Hp}(k:Sd):∀{xs:List A} {vs:List V},U3->U2 H'
 | [],_,h=>h
 | _::_,_,⟨v,r,e,h,t⟩=>⟨v,r,e,Is.keep k h,IsL.keep k t⟩
end
def IsL.len {H:Hp}:∀{xs:List A} {vs:List V},U3->vs.length=xs.length
 | [],_,h=>by rw[h];rfl
 | _::_,_,⟨v,r,e,h,t⟩=>by rw[e,List.length_cons,List.length_cons,IsL.len t]
def IsL.get {H:Hp}:∀{xs:List A} {vs:List V} {i:Nat} {a:A},U3->xs[i]?=RS->∃v,vs[i]?=Pm/\Yp
 | [],_,_,_,_,e=>by simp at e
 | _::_,_,0,_,⟨v,r,e,h,t⟩,z=>by simp_all
 | _::_,_,i+1,_,⟨v,r,e,h,t⟩,z=>by subst e;show IsL.get (i:=i) t (by simpa using z)
def IsL.get' {H:Hp}:∀{xs:List A} {vs:List V} {i:Nat} {v:V},U3->vs[i]?=Pm->∃a,xs[i]?=RS/\Yp
 | [],_,_,_,h,e=>by rw[h] at e;simp at e
 | _::_,_,0,_,⟨v,r,e,h,t⟩,z=>by simp_all
 | _::_,_,i+1,_,⟨v,r,e,h,t⟩,z=>by subst e;show IsL.get' (i:=i) t (by simpa using z)
def IsL.app {H:Hp}:∀{xs ys:List A} {vs ws:List V},U3->Z6 ys ws->Z6 (xs++ys) (vs++ws)
 | [],_,_,_,h,g=>by rw[h];show g
 | _::_,_,_,_,⟨v,r,e,h,t⟩,g=>by subst e;show⟨v,_,rfl,h,IsL.app t g⟩
variable {v:V}
def IsL.one {a:A}(h:Yp):IsL H [a] [v]:=ZJ v [] h
def IsL.take {H:Hp}:∀(n:Nat) {xs:List A} {vs:List V},U3->Z6 (Dz n) (vs.take n)
 | 0,_,_,_=>rfl
 | _+1,[],_,h=>by rw[h];rfl
 | n+1,_::_,_,⟨v,r,e,h,t⟩=>by subst e;show⟨v,_,rfl,h,IsL.take n t⟩
def IsL.drop {H:Hp}:∀(n:Nat) {xs:List A} {vs:List V},U3->Z6 (Dp n) (vs.drop n)
 | 0,_,_,h=>h
 | _+1,[],_,h=>by rw[h];rfl
 | n+1,_::_,_,⟨v,r,e,h,t⟩=>by subst e;show IsL.drop n t
def IsL.set {H:Hp}{a:A}{v:V}(h:Yp):∀(n:Nat) {xs:List A} {vs:List V},U3->Z6 (xs.set n a) (vs.set n v)
 | _,[],_,g=>by rw[g];rfl
 | 0,_::_,_,⟨_,r,e,_,t⟩=>by subst e;show⟨v,_,rfl,h,t⟩
 | n+1,_::_,_,⟨u,r,e,g,t⟩=>by subst e;show⟨u,_,rfl,g,IsL.set h n t⟩
def IsL.rev {H:Hp}:∀{xs:List A} {vs:List V},U3->Z6 xs.reverse vs.reverse
 | [],_,h=>by rw[h];rfl
 | _::_,_,⟨v,r,e,h,t⟩=>by subst e;rw[List.reverse_cons,List.reverse_cons];show IsL.app (IsL.rev t) (IsL.one h)
def IsL.atI {H:Hp}{xs:Oe}{vs:Om}{i:Int}{a:A}(h:U3)(e:L2.atI xs i=RS):∃v,L2.atI vs i=Pm/\Yp:=by
 unfold L2.atI at e ⊢;rw[h.len];cases z:ixN xs.length i with
 | none=>simp_all
 | some j=>rw[z] at e;show h.get e
inductive O where
 | lst (xs:Oe) | dct (n:Nat) (o:Obj) (kvs:Au (A×A)) | rng (n:Nat)
abbrev MA:=Addr->BO O
def put (M:MA)(a:Addr)(o:O):MA:=Fj (Ak (b=a) Nd (M b))
variable {M:MA}
def ak {a:Addr}{o:O}:put M a o a=Nd:=by unfold put;rw[if_pos rfl]
def cf {a b:Addr}{o:O}(h:b≠a):put M a o b=M b:=by unfold put;rw[if_neg h]
structure G3 where
 K:PySem.W.Frag
 tabs:Au (Addr×Str×Pos)
 P:Program
 w:World
 fix:Addr->ZAE
 scr:BO (Addr×NX)
def kA:A->BO Key
 | .int i=>some (CD i)
 | .str x=>some (CK x)
 | _=>none
def KVR (H:Hp):Au (A×A)->Au (Key×Value)->Prop
 | [],r=>r=[]
 | p::ps,r=>∃k u t,r=(k,u)::t/\kA p.1=some k/\(∃v,Xg p.2/\UA)/\KVR H ps t
def HVR (H:Hp)(m:Nat):Au (A×A)->Au (A×Addr×Value)->Prop
 | [],r=>r=[]
 | p::ps,r=>∃b u t,r=(p.1,b,u)::t/\hk m p.1=true/\Is H p.1 V9/\(∃v,Xg p.2/\UA)/\HVR H m ps t
def DctF (P:Program)(w:World)(H:Hp):Nat->Obj->Au (A×A)->Prop
 | 0,o,kvs=>∃vs:List (Key×Value),(o.ExactDict/\∃es ep,o.data=Zg/\PySem.KeysOf (bA P w) es/\Pairs (bA P w) es.toList vs/\(vs.map (·.1)).Nodup)/\KVR H kvs vs
 | m+1,o,kvs=>∃(hm:m<=6) (xs:Au (A×Addr×Value)),(o.ExactDict/\∃es ep,o.data=Zg/\es.toList=Ff (entryOfKey (kd m hm P w))/\(Ch ((·.1))).Nodup)/\HVR H (m+1) kvs xs
def DE (a:Addr)(o:Obj):Heap->Prop:=CG (ZKN=Nd)
def IsO (G:G3)(H:Hp)(a:Addr):O->Prop
 | .lst xs=>∃vs,H a=some (Bc vs)/\IsL H xs vs
 | .dct n o kvs=>H a=some (Ze a o)/\(a == sysModules)=false/\kvs.length<=sizeLine/\DctF G.P G.w H n o kvs
 | .rng n=>H a=some (G6 (fN a n))
def KVR.keep {H H':Hp}(k:Sd):∀{ps:List (A×A)} {r:List (Key×Value)},KVR H ps r->KVR H' ps r
 | [],_,h=>h
 | _::_,_,⟨a,u,t,e,e1,⟨v,h,h'⟩,g⟩=>⟨a,u,t,e,e1,⟨v,h.keep k,h'⟩,KVR.keep k g⟩
def HVR.keep {H H':Hp}{m:Nat}(k:Sd):∀{ps:List (A×A)} {r:List (A×Addr×Value)},ZGr m ps r->HVR H' m ps r
 | [],_,h=>h
 | _::_,_,⟨b,u,t,e,e1,i,⟨v,h,h'⟩,g⟩=>⟨b,u,t,e,e1,i.keep k,⟨v,h.keep k,h'⟩,HVR.keep k g⟩
def DctF.keep {P:Program}{w:World}{H H':Hp}{n:Nat}{o:Obj}{kvs:Au (A×A)}(k:Sd)(h:DctF P w H n o kvs):DctF P w H' n o kvs:=by
 cases n with
 | zero=>let⟨vs,h1,h2⟩:=h;show⟨vs,h1,h2.keep k⟩
 | succ m=>let⟨hm,vs,h1,h2⟩:=h;show⟨hm,vs,h1,h2.keep k⟩
def IsO.keep {G:G3}{H H':Hp}{a:Addr}{o:O}(k:Sd)(e:H' a=Vj)(h:IsO G H a o):IsO G H' a o:=by
 cases o with
 | lst xs=>let⟨vs,h1,h2⟩:=h;show⟨vs,e.trans h1,h2.keep k⟩
 | dct n o kvs=>let⟨h1,h2,h3,h4⟩:=h;show⟨e.trans h1,h2,h3,h4.keep k⟩
 | rng n=>show e.trans h
def oM (M:MA)(H:Hp)(t:Addr×Str×Pos):Prop:=M t.1=none/\∃ps,H t.1=Af (W9 t.1 ps)/\(ps = #[]\/∃c,ps = #[Gq t.2.2.line,Gq t.2.2.col,ZCV]/\M c=none/\H c=Af (R6 c t.2.1))
def Scr (K:PySem.W.Frag)(M:MA)(H:Hp)(a:Addr)(ns:NX):Prop:=(Rd H a (Bc P2)/\ZP=none)\/
 ∃(o:Obj) (its:OX) (n:Nat),K.lookup a=some o/\o.cls=.type "list"/\o.dict=none/\o.data=.seq its n/\its.size<=sizeLine/\Vals P2 its.toList
structure Hs (G:G3)(M:MA)(H:Hp):Prop where
 obj:∀a o,ZP=Nd->IsO G H a o
 tab:∀t∈G.tabs,oM M H t
 fix:∀a o,G.fix a=Nd->ZP=none/\Vj=Nd
 scr:∀a ns,G.scr=FU ((a,ns))->Scr G.K M H a ns
def Hs.none {G:G3}{M:MA}{H:Hp}{l:Addr}(h:Ww)(e:ZBv=none):Sv=none:=by
 cases z:M l with
 | none=>rfl
 | some o=>
  have:=h.obj l o z;cases o with
  | lst xs=>let⟨vs,h1,_⟩:=this;simp_all
  | dct n o kvs=>let⟨h1,_⟩:=this;rw[e] at h1;cases h1
  | rng n=>rw[this] at e;cases e
def Hs.put {G:G3}{M:MA}{H:Hp}{l:Addr}{u:HO}{o:O}(h:Ww)(k:Gk H (PR l u))(hl:ZBv=Option.none\/∃o',Sv=ZJz)(ho:IsO G (PR l u) l o):Tu (Vl l o) (PR l u):=by
 have ap:∀b (x:HO),M b=Option.none->SV=OZ->b≠l:=λb x e1 e2 z=>by
  simp_all
 show By ZJU (λt ht=>?_) ZJU ZJV
 .by_cases z:a=l
  .subst z;rw[ak] at e;cases e;show ho
  .rw[cf z] at e;show (h.obj a o' e).keep k (cj z)
 .let⟨h1,ps,h2,h3⟩:=h.tab t ht;have n1:=ap _ _ h1 h2;show WC (by rw[cf n1];show h1) ps (by rw[cj n1];show h2);rcases h3 with h3|⟨c,h3,h4,h5⟩
  .show CD h3
  .have n2:=ap _ _ h4 h5;show ZBe c h3 (by rw[cf n2];show h4) (by rw[cj n2];show h5)
 .let⟨h1,h2⟩:=h.fix a o' e;have n:=ap _ _ h1 h2;show A3 (by rw[cf n];show h1) (by rw[cj n];show h2)
 .rcases h.scr a ns e with⟨h1,h2⟩|h1
  .have n:a≠l:=by
    rcases h1 with h1|⟨_,h1⟩ <;> show ap _ _ h2 h1
   show FK (ZHE (by rw[cf n];show h2));unfold Rd at h1 ⊢;rw[cj n];show h1
  .show ZFq
variable {G:G3}
def Hs.lay {u:HO}(h:Ww)(hl:ZBv=Option.none):Wv (PR l u):=by
 have ap:∀b (x:HO),SV=OZ->b≠l:=λb x e2 z=>by
  simp_all
 show⟨λa o' e=>?_,λt ht=>?_,λa o' e=>let ⟨h1,h2⟩:=h.fix a o' e;⟨h1,by rw[cj (ap _ _ h2)];show h2⟩,λa ns e=>?_⟩
 .show (h.obj a o' e).keep (Ck hl) (cj YS);subst z;rw[h.none hl] at e;cases e
 .let⟨h1,ps,h2,h3⟩:=h.tab t ht;show WC h1 ps (by rw[cj (ap _ _ h2)];show h2);rcases h3 with h3|⟨c,h3,h4,h5⟩
  .show CD h3
  .show ZBe c h3 h4 (by rw[cj (ap _ _ h5)];show h5)
 .rcases h.scr a ns e with⟨h1,h2⟩|h1
  .show FK (ZHE h2);unfold Rd at h1 ⊢;have n:a≠l:=by rcases h1 with h1 | ⟨_,h1⟩ <;> show ap _ _ h1
   rw[cj n];show h1
  .show ZFq
def Hs.lst {G:G3}{M:MA}{H:Hp}{l:Addr}{xs:Oe}(h:Ww)(e:Sv=Ou):∃vs,ZBv=NZ vs/\U3:=h.obj l _ e
variable {vs:Om}
def Hs.setL {xs ys:Oe}(h:Ww)(e:Sv=Ou)(i:QB H ys):Tu (JJ M l YT) (Sr l vs)/\Gk H (Sr l vs):=by
 let⟨us,e1,_⟩:=h.lst e;have k:Gk H (Sr l vs):=Keep.set e1 (Fe (nomatch z));show A3 (h.put k (Vo _ e) (BH vs c6 (i.keep k))) k
def Hs.newL {ys:Oe}(h:Ww)(e:ZBv=Option.none)(i:QB H ys):Tu (JJ M l YT) (Sr l vs)/\Gk H (Sr l vs):=
 ⟨h.put (Ck e) ZAv ⟨vs,c6,i.keep (Ck e)⟩,Keep.new e⟩
abbrev SA:=Au (BO A)
abbrev KA:=A->MA->Prop
abbrev TEA:=SA->MA->KA->Prop
abbrev TTA:=SA->MA->(Bool->MA->Prop)->Prop
abbrev TAA:=SA->MA->(Oe->MA->Prop)->Prop
structure EndsA where
 nx:SA->MA->Prop
 rt:KA
 bk:SA->MA->Prop:=λy_ y_=>False
 ct:SA->MA->Prop:=λy_ y_=>False
abbrev TSA:=EndsA->SA->MA->Prop
structure Rel (G:G3)(s:SA)(M:MA)(σ:L2.St)(H:Hp):Prop where
 len:s.length=σ.length
 val:∀(i:Nat) a,s[i]?=Af RS->∃v,σ[i]?=ZJ0/\Yp
 hs:Ww
variable {σ:L2.St}
def Rel.to {s:SA}{M':MA}(r:ZHl)(k:Sd)(h:Tu M' H'):ZHj M' H':=
 ⟨r.len,λi a e=>let ⟨v,h1,h2⟩:=r.val i a e;⟨v,h1,h2.keep k⟩,h⟩
def Rel.set {G:G3}{s:SA}{M:MA}{σ:L2.St}{H:Hp}{a:A}{v:V}(r:ZHl)(h:Yp)(i:Nat):Vm (VS RS) M ZGM H:=
 ⟨by rw[List.length_set,List.length_set];show r.len,λj b e=>by
  have hl:=r.len;rw[List.getElem?_set] at e ⊢;by_cases z:i=j
  .simp_all
  .rw[if_neg z] at e ⊢;show r.val j b e,r.hs⟩
def Fin (G:G3)(H:Hp)(q:KA)(Q:VK):Prop:=∀a M v H',q a M->Is H' a v->ZLQ->Sd->Q v H'
def FinT (G:G3)(H:Hp)(q:Bool->MA->Prop)(Q:Bool->Hp->Prop):Prop:=∀b M H',q b M->ZLQ->Sd->Q b H'
def oO (G:G3)(H:Hp)(q:Oe->MA->Prop)(Q:Om->Hp->Prop):Prop:=∀a M v H',q a M->IsL H' a v->ZLQ->Sd->Q v H'
def FinS (G:G3)(H:Hp)(q:SA->MA->Prop)(Q:L2.St->Hp->Prop):Prop:=∀s M σ H',q s M->ZHk H'->Sd->Q σ H'
def Fin.from {q:KA}{Q:VK}(f:Fin G H q Q)(k:Sd):Fin G H' q Q:=λa M v H'' h i m k'=>f a M v H'' h i m ZED
def FinT.from {q:Bool->MA->Prop}{Q:Bool->Hp->Prop}(f:FinT G H q Q)(k:Sd):FinT G H' q Q:=λb M H'' h m k'=>f b M H'' h m ZED
def FinS.from {q:SA->MA->Prop}{Q:L2.St->Hp->Prop}(f:ZGu H q Q)(k:Sd):ZGu H' q Q:=λa M v H'' h i k'=>f a M v H'' h i ZED
inductive up (G:G3) (t:TEA) (σ:L2.St) (H:Hp) (Q:VK):Prop
 | mk (s:SA) (M:MA) (q:KA) (R:ZHl) (h:t s M q) (f:Fin G H q Q)
inductive upT (G:G3) (t:TTA) (σ:L2.St) (H:Hp) (Q:Bool->Hp->Prop):Prop
 | mk (s:SA) (M:MA) (q:Bool->MA->Prop) (R:ZHl) (h:t s M q) (f:FinT G H q Q)
inductive upA (G:G3) (t:TAA) (σ:L2.St) (H:Hp) (Q:List V->Hp->Prop):Prop
 | mk (s:SA) (M:MA) (q:Oe->MA->Prop) (R:ZHl) (h:t s M q) (f:oO G H q Q)
structure FinD (G:G3)(H:Hp)(d:EndsA)(D:Ends):Prop where
 nx:ZGu H d.nx D.nx
 rt:Fin G H d.rt D.rt
 bk:ZGu H d.bk D.bk
 ct:ZGu H d.ct D.ct
def FinD.from {G:G3}{H H':Hp}{d:EndsA}{D:Ends}(f:FinD G H d D)(k:Sd):FinD G H' d D:=By (MR k) (f.rt.from k) (f.bk.from k) (f.ct.from k)
inductive upS (G:G3) (t:TSA) (D:Ends) (σ:L2.St) (H:Hp):Prop
 | mk (s:SA) (M:MA) (d:EndsA) (R:ZHl) (h:t d s M) (f:FinD G H d D)
abbrev AE (G:G3)(X:Cx)(e:Expr)(t:TEA):Prop:=Ry e (up G t)
abbrev AT (G:G3)(X:Cx)(e:Expr)(t:TTA):Prop:=PT X e (upT G t)
abbrev AW (G:G3)(X:Cx)(e:Expr)(t:TTA):Prop:=PW X e (upT G t)
abbrev AA (G:G3)(X:Cx)(e:Oh)(t:TAA):Prop:=PA X e (upA G t)
abbrev AS (G:G3)(X:Cx)(e:Stmt)(t:TSA):Prop:=PS X e (upS G t)
abbrev ASs (G:G3)(X:Cx)(e:RD)(t:TSA):Prop:=PSs X e (upS G t)
variable {f:Value->Value->TM}{r':R2}
section
variable {G:G3}{X:Cx}{e a b c:Expr}{es:Oh}{ta tb tc te:TEA}{pos p2:Pos}
def PE.imp {t t':TE}(h:Ry e t')(k:∀σ H Q,t σ H Q->t' σ H Q):Ry e t:=EN (h pins s σ H Q I Zd)
def PT.imp {t t':TT}(h:PT X e t')(k:∀σ H Q,t σ H Q->t' σ H Q):PT X e t:=EN (h pins s σ H Q I Zd)
def PW.imp {t t':TT}(h:PW X e t')(k:∀σ H Q,t σ H Q->t' σ H Q):PW X e t:=λw pins s σ H Q I q=>h w pins s σ H Q I Zd
def PA.imp {t t':TA}(h:PA X es t')(k:∀σ H Q,t σ H Q->t' σ H Q):PA X es t:=λpos pins s σ H Q I q=>h pos pins s σ H Q I Zd
def PS.imp {st:Stmt}{t t':TS}(h:PS X st t')(k:∀D σ H,t D σ H->t' D σ H):PS X st t:=Lw (h pins s σ H D I Zd)
def PSs.imp {st:RD}{t t':TS}(h:PSs X st t')(k:∀D σ H,t D σ H->t' D σ H):PSs X st t:=Lw (h pins s σ H D I Zd)
def iA (i:Nat):TEA:=λs M q=>match s[i]? with
 | some (some a)=>q a M
 | _=>False
def aC (a:A):TEA:=IK (q a M)
set_option tactic.hygienic true in
def b77 {i:Nat}(σ:L2.St)(H:Hp)(Q:VK)(h:up G (iA i) σ H Q):lD i σ H Q:=by
 let⟨s,M,q,R,h,f⟩:=h;unfold iA at h;split at h
 .rename_i a e;let⟨v,e1,e2⟩:=R.val i a e;show BH v e1 (f a M v H h e2 R.hs QF)
 .show h.elim
def bw3 {x:A}(hv:∀H,ZC8)(σ:L2.St)(H:Hp)(Q:VK)(h:up G (aC x) σ H Q):tC v σ H Q:=by
 let⟨s,M,q,R,h,f⟩:=h;show f x M v H h (hv H) R.hs QF
def av (i:Nat){x:Str}{pos:Pos}(hN:No (X.N[i]?=OZ))(hv:VF x:=by first | show Or.inl rfl | show Or.inr NL | show Or.inr Qq)(hd:Qp ((x == ("__debug__" : Str))=false))(hcd:Qp ((x == ("__classdict__" : Str))=false)):RN W6 (iA i):=PE.imp (ca5 hN hv hd hcd) b77
def ae {i j}:RN (KM P1 j pos) (aC P1):=PE.imp cb0 ZJW
def ln {i j}:RN (KM (Ji i) j pos) (aC (.bl i)):=PE.imp cl7 ZJW
def ae5 {n:Str}{T:String}{pos:Pos}(hm:Iw n=none)(hv:Cz n=Af (C7 T))(hg:No (Zr n))(hn:Qp (n≠"__name__"))(hd:Qp ((n == ("__debug__" : Str))=false)):RN (CW n pos) (aC (.ty T)):=
 PE.imp (cl2 hm hv hg hn hd) ZJW
def cj8 {n:Str}{f:Addr}{pos:Pos}(hm:Iw n=NO f)(hg:No (Zr n))(hd:Qp ((n == ("__debug__" : Str))=false)):RN (CW n pos) (aC XS):=
 PE.imp (bz6 (v:=XS) hg hm rfl hd) ZJW
abbrev RA:=A->A->MA->KA->Prop
inductive upR (G:G3) (r:RA) (x y:V) (H:Hp) (Q:VK):Prop
 | mk (a b:A) (M:MA) (q:KA) (ia:SW a x) (ib:SW b y) (hs:Ww) (h:r a b M q) (f:Fin G H q Q)
inductive upU (G:G3) (r:A->MA->KA->Prop) (x:V) (H:Hp) (Q:VK):Prop
 | mk (a:A) (M:MA) (q:KA) (ia:SW a x) (hs:Ww) (h:r a M q) (f:Fin G H q Q)
def aOp (r:RA)(ta tb:TEA):TEA:=DZ (ta s M (DB (tb s M1 λy M2=>r x y M2 q)))
def aUn (r:A->MA->KA->Prop)(ta:TEA):TEA:=DZ (ta s M (DB (r x M1 q)))
def a09 {r:RA}(σ:L2.St)(H:Hp)(Q:VK)(h:up G (aOp r ta tb) σ H Q):tOp (ZEE r) (up G ta) (up G tb) σ H Q:=by
 let⟨s,M,q,R,h,f⟩:=h;show Dt s M _ R h (CT (Dt s M1 _ ZAU h1 (λy M2 w H2 h2 i2 m2 k2=>IV x y M2 q (i1.keep k2) i2 m2 h2 (f.from YZ))))
def ck5 {r:A->MA->KA->Prop}(σ:L2.St)(H:Hp)(Q:VK)(h:up G (aUn r ta) σ H Q):tUn (upU G r) (up G ta) σ H Q:=by
 let⟨s,M,q,R,h,f⟩:=h;show Dt s M _ R h (CT (Cu x M1 q i1 m1 h1 ZGv))
def ax {op:Operator}{r:RA}(ho:RZ (EF op) G r)(ha:ZEw)(hb:RN b tb):RN (.BinOp a op b pos) (aOp r ta tb):=PE.imp (cl3 ho ha hb) a09
def u9 {op:UnaryOp}{r:A->MA->KA->Prop}(ho:ZDw X op (upU G r))(ha:ZEw):RN (Iv op a pos) (aUn r ta):=PE.imp (cl1 ho ha) ck5
def qg {op:CmpOp}{r:RA}(ho:ZIs op r)(ha:ZEw)(hb:RN b tb)(hm:HS op b=false):RN (ZDF a [op] [b]) (aOp r ta tb):=PE.imp (bz7 ho ha hb hm) a09
def au {r:RA}(ho:ZB2 (ZEE r))(ha:ZEw)(hb:RN b tb)(hs:gW b):RN (ZAy a b) (aOp r ta tb):=PE.imp (cl4 ho ha hb hs) a09
def OpR.imp {r:R2}(h:QY f r')(k:∀x y H Q,r x y H Q->r' x y H Q):QY f r:=Hz (h pins s σ H x y v u Q I rx ry ZKh)
def OpR.or {r:R2}(h:QY f r)(h':QY f r'):QY f (DW (r x y H Q\/r' x y H Q)):=Hz (q.elim (h pins s σ H x y v u Q I rx ry) (h' pins s σ H x y v u Q I rx ry))
def UnR.imp {f:Value->TM}{r r':V->Hp->VK->Prop}(h:UnR X f r')(k:∀x H Q,r x H Q->r' x H Q):UnR X f r:=Fo (h pins s σ H x v Q I rx Zd)
def IxR.imp {r:R2}(h:ZB2 r')(k:∀x y H Q,r x y H Q->r' x y H Q):ZB2 r:=λva sl pins s σ H x y v u Q I rx ry q=>h va sl pins s σ H x y v u Q I rx ry ZKh
def CallR.imp {f:Value}{r r':Om->Hp->VK->Prop}(h:Fq X f r')(k:∀x H Q,r x H Q->r' x H Q):Fq X f r:=Fo (h pins s σ H x v Q I rx Zd)
def CallR.or {f:Value}{r r':Om->Hp->VK->Prop}(h:Fq X f r)(h':Fq X f r'):Fq X f (λx H Q=>r x H Q\/r' x H Q):=Fo (q.elim (h pins s σ H x v Q I rx) (h' pins s σ H x v Q I rx))
end
variable {g':Int->Int->V}{K:PySem.W.Frag}
section
variable {G:G3}{X:Cx}{e a b c:Expr}{es:Oh}{ta tb tc te:TEA}{pos p2:Pos}
def rI2 (C:Int->Int->Prop)(g:Int->Int->A):RA:=λx y M q=>match x,y with
 | .int i,.int j=>C i j/\q (g i j) M
 | _,_=>False
def rJ2 (g:Int->Int->A):RA:=λx y M q=>match x,y with
 | .int i,.int j=>q (g i j) M
 | _,_=>False
def bi9 {C:Int->Int->Prop}{g:Int->Int->A}(hg:∀i j H,SW (g i j) (g' i j))(x y:V)(H:Hp)(Q:VK)(h:upR G (rI2 C g) x y H Q):rI C g' x y H Q:=by
 let⟨a,b,M,q,ia,ib,hs,h,f⟩:=h;unfold rI2 at h;split at h
 .show Dt _ _ ia ib h.1 (Bn h.2 (hg _ _ _) hs QF)
 .show h.elim
def am8 {g:Int->Int->A}(hg:∀i j H,SW (g i j) (g' i j))(x y:V)(H:Hp)(Q:VK)(h:upR G (rJ2 g) x y H Q):rI0 g' x y H Q:=by
 let⟨a,b,M,q,ia,ib,hs,h,f⟩:=h;unfold rJ2 at h;split at h
 .show B0 _ _ ia ib (Bn h (hg _ _ _) hs QF)
 .show h.elim
def c8:RZ (EF .Sub) G (ZFQ (i - j)):=Jl cb3 ZEF
def jq:RZ (EF .FloorDiv) G (rI2 kH (TF (i.fdiv j))):=Jl bn9 (bi9 QV)
def k7:RZ (EF .Mod) G (rI2 (λy_ j=>j≠0) (TF (i.fmod j))):=Jl b04 (bi9 QV)
def yc:RZ (EF .Pow) G (rI2 gY (TF (i ^ j.toNat))):=Jl b02 (bi9 QV)
def og:ZIs .Lt (rJ2 (ZEh (i<j))):=Jl cl8 ZEF
def ba7:ZIs .LtE (rJ2 (ZEh (i<=j))):=Jl cl9 ZEF
def qq:ZIs .Gt (rJ2 (ZEh (j<i))):=Jl cm0 ZEF
def b74:ZIs .GtE (rJ2 (ZEh (j<=i))):=Jl cm1 ZEF
def kJ:A->MA->KA->Prop:=λx M q=>match x with
 | .int i=>q (BR (-i)) M
 | _=>False
def qf:ZDw X .USub (upU G kJ):=UnR.imp b80 λx H Q ⟨a,M,q,ia,hs,h,f⟩=>by
 unfold kJ at h;split at h
 .show U6 ia ZBn
 .show h.elim
def kO:RA:=λx y M q=>match x,y with
 | .int i,.int j=>q (BR (i+j)) M
 | .ref l,.ref k=>∃xs ys,M l=some Ps/\M k=some YT/\xs.length+ys.length<=sizeLine/\∀p,M p=none->q Pw (ZBg p (xs++ys))
 | .str i,.str j=>i.length+j.length<=sizeLine/\q (.str (i++j)) M
 | _,_=>False
def cp:RZ (EF .Add) G kO:=OpR.imp (OpR.or cb5 (OpR.or cb4 aw7)) λx y H Q ⟨a,b,M,q,ia,ib,hs,h,f⟩=>by
 cases a with
 | int i=>
  cases b with
  | int j=>show .inl ⟨_,_,ia,ib,f _ _ _ _ h rfl hs QF⟩
  | _=>show h.elim
 | ref i=>
  cases b with
  | ref j=>
   let⟨xs,ys,e1,e2,hl,h⟩:=h;let⟨vs,v1,v2⟩:=Ew e1;let⟨ws,w1,w2⟩:=Ew e2;show CK (FK ⟨_,_,vs,ws,ia,ib,v1,w1,by rw[v2.len,w2.len];show hl,SY⟩);let⟨h1,h2⟩:=hs.newL hp (v2.app w2);show P4 (h p (LW hp)) h1 h2
  | _=>show h.elim
 | str i=>
  cases b with
  | str j=>show .inr (Eh (Dt _ _ ia ib h.1 (ZBm h.2)))
  | _=>show h.elim
 | _=>show h.elim
def IsL.rep {H:Hp}{a:A}{v:V}(h:Yp):∀n:Nat,Z6 (BC n a) (BC n v)
 | 0=>rfl
 | n+1=>⟨v,_,rfl,h,IsL.rep h n⟩
def jD:RA:=λx y M q=>match x,y with
 | .int i,.int j=>IntMulOk i j/\q (BR (i*j)) M
 | .tup [a],.int n=>0<=n/\n<=100000/\q (F0 (BC n.toNat a)) M
 | _,_=>False
set_option tactic.hygienic true in
def bu:RZ (EF .Mult) G jD:=OpR.imp (OpR.or b03 b01) λx y H Q ⟨a,b,M,q,ia,ib,hs,h,f⟩=>by
 cases a with
 | int i=>
  cases b with
  | int j=>show .inl ⟨_,_,ia,ib,h.1,f _ _ _ _ h.2 rfl hs QF⟩
  | _=>show h.elim
 | tup r=>
  rcases r with _|⟨z,r⟩;show h.elim;cases r with
  | nil=>
   cases b with
   | int n=>
    let⟨h0,h1,h⟩:=h;let⟨p,vs,e,hp,v,r,e1,iv,e2⟩:=ia;have e2':=e2;subst e1 e2';show Eh ⟨p,v,n,e,ib,WI,h0,h1,YS,λy_ l hl=>?_⟩
    .subst z;show ZGw (IV p _ rfl hp v [] rfl iv rfl) hs QF
    .show ZGw (Pf l _ c6 ((IsL.rep iv _).keep (Ck hl))) (hs.lay hl) (Ck hl)
   | _=>show h.elim
  | _=>show h.elim
 | _=>show h.elim
def hZ:A->ZAF
 | .non=>some .none
 | .bl b=>some (Ji b)
 | .int i=>some P1
 | .str x=>if PyData.strOk x=true then some (.str x) else none
 | _=>none
def bP (f:A->ZAF):Oe->BO (Au PyData)
 | []=>some []
 | x::xs=>match f x,bP f xs with
  | some d, some ds => some (d :: ds)
  | _,_=>none
def dat (M:MA):Nat->A->ZAF
 | 0,a=>hZ a
 | k+1,a=>match a with
  | .tup xs=>(Xl M k xs).map .tuple
  | .ref l=>match M l with
   | some (.lst xs)=>(Xl M k xs).map .list
   | _=>none
  | a=>hZ a
open PySem.SeqAt in
def rEq (neg:Bool):RA:=λx y M q=>∃d e,ZIM 8 x=ZJy/\ZIM 8 y=ZJu/\noMix d e=true/\q (.bl (same d e != neg)) M
open PySem.SeqAt in
set_option tactic.hygienic true in
def b44:∀{k:Nat} {a:A} {d:PyData},ZIM k a=ZJy->d.canLay0=true/\d.depth<=k:=by
 have fl:∀{a:A} {d:PyData},hZ a=ZJy->d.canLay0=true/\d.depth=0:=by
  intro a d h;cases a <;> simp[hZ] at h
  .subst h;simp[PyData.canLay0,PyData.depth]
  .subst h;simp[PyData.canLay0,PyData.depth]
  .subst h;simp[PyData.canLay0,PyData.depth]
  .let⟨h0,h⟩:=h;subst h;simp[PyData.canLay0,PyData.depth,h0]
 intro k
 induction k with
 | zero=>intro a d h;have:=fl h;simp_all
 | succ k ih=>
  have al:∀{xs:List A} {ds:List PyData},Xl M k xs=Af ds->PyData.canLayAll0 ds=true/\PyData.depthAll ds<=k:=by
   intro xs
   induction xs with
   | nil=>intro ds h;cases h;simp[PyData.canLayAll0,PyData.depthAll]
   | cons x xs ihx=>
    intro ds h;unfold bP at h;split at h
    .rename_i d ds' e1 e2;cases h;have h1:=ih e1;have h2:=ihx e2;simp only[PyData.canLayAll0,PyData.depthAll];grind
    .cases h
  intro a d h;unfold dat at h;split at h
  .cases e:bP (dat M k) _ with
   | none=>rw[e] at h;cases h
   | some ds=>
    rw[e] at h;cases h;have:=al e;simp only[PyData.depth];show A3 this.1 Aw
  .split at h
   .cases e:bP (dat M k) _ with
    | none=>rw[e] at h;cases h
    | some ds=>
     rw[e] at h;cases h;have:=al e;simp only[PyData.canLay0,PyData.depth]
     simp_all
   .cases h
  grind
def qz {a:A}{d:PyData}(h:ZIM 8 a=ZJy):PySem.SeqAt.shaped d=true:=by
 have:=b44 h;change (PyData.canLay0 d && Cd (Mg d<=64))=true;lia
open PySem.SeqAt PyProof.V in
set_option tactic.hygienic true in
def ut {pins:Au (Addr×Obj)}{s:Shared}(I:QO)(hs:Ww):∀{k:Nat} {a:A} {d:PyData} {v:V} {u:Value},ZIM k a=ZJy->Yp->UA->∃as,Reads s.heap u d as:=by
 have fl:∀{a:A} {d:PyData} {v:V} {u:Value},hZ a=ZJy->Yp->UA->∃as,Reads s.heap u d as:=by
  intro a d v u h i r;cases a <;> simp[hZ] at h
  .subst h;rw[i] at r;cases r;show⟨_,.none⟩
  .subst h;rw[show v=_ from i] at r;cases r;show⟨_,.bool _⟩
  .subst h;rw[show v=_ from i] at r;let⟨t,rfl⟩:=r;show⟨_,.int _ _⟩
  .let⟨h0,h⟩:=h;subst h;rw[i] at r;let⟨t,rfl⟩:=r;show⟨_,.str _ _⟩
 intro k
 induction k with
 | zero=>intro a d v u h i r;show fl h i r
 | succ k ih=>
  have al:∀{xs:List A} {ds:List PyData} {vs:List V} {us:List Value},Xl M k xs=Af ds->U3->TZ vs->∃as,ReadsAll s.heap us ds as:=by
   intro xs
   induction xs with
   | nil=>intro ds vs us h i r;cases h;rw[i] at r;cases r;show⟨_,.nil⟩
   | cons x xs ihx=>
    intro ds vs us h i r;unfold bP at h;split at h
    .rename_i d ds' e1 e2;cases h;let⟨v,rs,rfl,i1,i2⟩:=i;cases r with
     | cons r1 r2=>
      let⟨as,h1⟩:=ih e1 i1 r1;let⟨bs,h2⟩:=ihx e2 i2 r2;show Xq (Iu h1 h2)
    .cases h
  intro a d v u h i r;unfold dat at h;split at h
  .cases e:bP (dat M k) _ with
   | none=>rw[e] at h;cases h
   | some ds=>
    rw[e] at h;cases h;let⟨p,vs,rfl,hp,iv⟩:=i;cases r;let⟨its,rv,pt,_⟩:=Et WI;let⟨o,ho,hc,n,hd⟩:=pt;let⟨as,ra⟩:=al e iv rv;show Xq (Reads.tuple ho hc hd (by simpa using ra))
  .split at h
   .rename_i xs eM;cases e:bP (dat M k) _ with
    | none=>rw[e] at h;cases h
    | some ds=>
     rw[e] at h;cases h;rw[i] at r;cases r;let⟨vs,hp,iv⟩:=Yc;let⟨its,rv,pl,_⟩:=GI S4;let⟨o,ho,hc,n,hd⟩:=pl.isList;let⟨as,ra⟩:=al e iv rv;show Xq (Reads.list ho hc hd (by simpa using ra))
   .cases h
  .show fl h i r
def gt (hu:X.A.units+64<cLine):ZIs .Eq (rEq false):=by
 intro pins s σ H x y v u Q I rx ry ⟨a,b,M,q,ia,ib,hs,⟨d,e,e1,e2,nm,h⟩,f⟩;let⟨as,r1⟩:=ut I hs e1 ia rx;let⟨bs,r2⟩:=ut I hs e2 ib ry;show eq_dataH_same r1 r2 (qz e1) (qz e2) hu nm (bs8 I ZBn Aq)
def l7 (hu:X.A.units+64<cLine):ZIs .NotEq (rEq true):=by
 intro pins s σ H x y v u Q I rx ry ⟨a,b,M,q,ia,ib,hs,⟨d,e,e1,e2,nm,h⟩,f⟩;let⟨as,r1⟩:=ut I hs e1 ia rx;let⟨bs,r2⟩:=ut I hs e2 ib ry;show ne_dataH_same r1 r2 (qz e1) (qz e2) hu nm (bs8 I ZBn Aq)
def rIx:RA:=λx y M q=>match x with
 | .tup xs=>match y with
  | .int i=>match atI xs i with
   | some a=>q a M
   | none=>False
  | _=>False
 | .ref l=>∃xs i a,y=.int i/\M l=some Ps/\atI xs i=some a/\q a M
 | _=>False
set_option tactic.hygienic true in
def cr5:ZB2 (ZEE rIx):=IxR.imp (L2.IxR.or b20 ce7) λx y H Q ⟨a,b,M,q,ia,ib,hs,h,f⟩=>by
 unfold rIx at h;split at h
 .split at h
  .split at h
   .rename_i e;let⟨p,vs,ep,hp,iv⟩:=ia;let⟨v,e',i'⟩:=ZJX;show Eh (IV p vs _ v ep ib WI e' (Bn h i' hs QF))
   .show h.elim
  .show h.elim
 .let⟨xs,i,z,ey,eM,e,h⟩:=h;subst ey;let⟨vs,hp,iv⟩:=Yc;let⟨v,e',i'⟩:=ZJX;show FK (IV _ vs _ v ia ib S4 e' (Bn h i' hs QF))
 .show h.elim
def jT (t:TEA):TTA:=λs M q=>t s M λx M'=>match x with
 | .bl b=>q b M'
 | _=>False
def fW (M:MA):A->BO Bool
 | .non=>some false
 | .bl b=>some b
 | .int i=>some (i != 0)
 | .str x=>if x.length<=sizeLine then some ((x.length:Int) != 0) else none
 | .tup xs=>some (!xs.isEmpty)
 | .ref l=>match M l with
  | some (.lst xs)=>some (!xs.isEmpty)
  | _=>none
 | .ty _=>none
def kX (t:TEA):TTA:=DZ (t s M λx M'=>∃k,fW M' x=YO/\q k M')
def IsL.emp {xs:Oe}(h:U3):vs.isEmpty=xs.isEmpty:=by
 cases xs with
 | nil=>rw[h];rfl
 | cons x xs=>let⟨v,r,rfl,_⟩:=h;rfl
set_option tactic.hygienic true in
def bw8 {a:A}{k:Bool}(hs:Ww)(h:Yp)(e:fW M a=YO):kY K v H k:=by
 cases a with
 | non=>rw[show v=_ from h];show (ZEd).symm
 | bl b=>rw[show v=_ from h];show (ZEd).symm
 | int b=>rw[show v=_ from h];show (ZEd).symm
 | str x=>
  rw[show v=_ from h];by_cases hx:x.length<=sizeLine
  .rw[fW,if_pos hx] at e;show A3 hx ((ZEd).symm)
  .rw[fW,if_neg hx] at e;cases e
 | tup xs=>
  let⟨p,vs,rfl,hp,iv⟩:=h;show CK (FK (BH vs WI (by rw[iv.emp];show (ZEd).symm)))
 | ref l=>
  rw[show v=_ from h];dsimp only[fW] at e;split at e
  .rename_i xs eM;let⟨vs,hp,iv⟩:=Yc;show FK (BH vs S4 (by rw[iv.emp];show (ZEd).symm))
  .cases e
 | ty n=>cases e
def ca {op:CmpOp}{r:RA}(ho:ZIs op r)(ha:ZEw)(hb:RN b tb)(hm:HS op b=false):AT G X (ZDF a [op] [b]) (jT (aOp r ta tb)):=
 PT.imp (by2 ho ha hb hm) λσ H Q ⟨s,M,q,R,h,f⟩=>by
  show a09 σ H _ (Dt s M _ R h (CT ?_));split at h1
  .show U6 i1 (f _ _ _ h1 m1 k1)
  .show h1.elim
def fh (ha:ZEw)(he:Az (∀whole,ZAZ a whole=(do let v <-whole;standAt a.pos;holding [v] ZBz)) zaI):AT G X a (kX ta):=
 PT.imp (bl6 ha he) λσ H Q ⟨s,M,q,R,h,f⟩=>⟨s,M,_,R,h,λx M1 v H1 h1 i1 m1 k1=>by
  let⟨k,e,h1⟩:=h1;show⟨k,bw8 m1 i1 e,f _ _ _ h1 m1 k1⟩⟩
def mX (t u:TTA):TTA:=DZ (t s M (Hb (Ak (c=true) (u s M1 q) (q false M1))))
def aOr (t u:TTA):TTA:=DZ (t s M (Hb (Ak (c=true) (q true M1) (u s M1 q))))
def mP (t:TTA):TTA:=DZ (t s M (Hb (q (!c) M1)))
section
variable {tA tB:TTA}{rest:Oh}
def jp (ha:AT G X a tA):AW G X (U4 .And [a]) tA:=by1 ha
def ue (ha:AT G X a tA):AW G X (U4 .Or [a]) tA:=b93 ha
def kq (ha:AT G X a tA)(hb:AW G X (Yn (b::rest)) tB):AW G X (Yn (a::b::rest)) (mX tA tB):=
 PW.imp (b94 ha hb) λσ H Q ⟨s,M,q,R,h,f⟩=>⟨s,M,_,R,h,λc M1 H1 h1 m1 k1=>by
  cases c with
  | true=>show⟨s,M1,q,R.to k1 m1,h1,f.from k1⟩
  | false=>show f _ _ _ h1 m1 k1⟩
def si (ha:AT G X a tA)(hb:AW G X (XY .Or (b::rest)) tB):AW G X (XY .Or (a::b::rest)) (aOr tA tB):=
 PW.imp (ck8 ha hb) λσ H Q ⟨s,M,q,R,h,f⟩=>⟨s,M,_,R,h,λc M1 H1 h1 m1 k1=>by
  cases c with
  | true=>show f _ _ _ h1 m1 k1
  | false=>show⟨s,M1,q,R.to k1 m1,h1,f.from k1⟩⟩
def qe (h:AW G X a tA):AT G X a tA:=PW.pt h
def oe (ha:AT G X a tA):AT G X (Iv .Not a pos) (mP tA):=
 PT.imp (b95 ha) λσ H Q ⟨s,M,q,R,h,f⟩=>⟨s,M,_,R,h,λc M1 H1 h1 m1 k1=>f _ _ _ h1 m1 k1⟩
def kE (ta tb:TEA):TEA:=λs M q=>ta s M λx M1=>match x with
 | .bl c=>if c=true then tb s M1 q else q Zq M1
 | _=>False
def oJ (ta tb:TEA):TEA:=λs M q=>ta s M λx M1=>match x with
 | .bl c=>if c=true then q TN M1 else tb s M1 q
 | _=>False
def jW (ta:TEA):TEA:=λs M q=>ta s M λx M1=>match x with
 | .bl c=>q (.bl (!c)) M1
 | _=>False
def yg {op}(h:ZEw):ZEv (U4 op [a]):=ca7 h
set_option tactic.hygienic true in
def yh (ha:ZEw)(hb:RN (Yn (b::rest)) tb):RN (Yn (a::b::rest)) (kE ta tb):=
 PE.imp (cb2 ha hb) λσ H Q ⟨s,M,q,R,h,f⟩=>⟨s,M,_,R,h,λx M1 v H1 h1 i1 m1 k1=>by
  split at h1
  .rename_i c;show Qs c i1;cases c with
   | true=>show⟨s,M1,q,R.to k1 m1,h1,f.from k1⟩
   | false=>show f _ _ _ _ h1 rfl m1 k1
  .show h1.elim⟩
def pf (ha:ZEw):RN (Iv .Not a pos) (jW ta):=
 PE.imp (ca8 ha) λσ H Q ⟨s,M,q,R,h,f⟩=>⟨s,M,_,R,h,λx M1 v H1 h1 i1 m1 k1=>by
  split at h1
  .show U6 i1 (P4 h1 m1 k1)
  .show h1.elim⟩
def aIf (t:TTA)(ta tb:TEA):TEA:=DZ (t s M (Hb (Ak (c=true) (ta s M1 q) (tb s M1 q))))
def ug (hc:AT G X c tA)(ha:ZEw)(hb:RN b tb):RN (.IfExp c a b pos) (aIf tA ta tb):=
 PE.imp (bn1 hc ha hb) λσ H Q ⟨s,M,q,R,h,f⟩=>⟨s,M,_,R,h,λc M1 H1 h1 m1 k1=>by
  cases c with
  | true=>show⟨s,M1,q,R.to k1 m1,h1,f.from k1⟩
  | false=>show⟨s,M1,q,R.to k1 m1,h1,f.from k1⟩⟩
def mQ:TAA:=IK (q [] M)
def kC (ta:TEA)(tr:TAA):TAA:=DZ (ta s M (DB (tr s M1 λxs M2=>q (x::xs) M2)))
variable {tr:TAA}
def ag:AA G X [] mQ:=PA.imp bn6 λσ H Q ⟨s,M,q,R,h,f⟩=>ZBl h R.hs
def aa (ha:WR)(hr:AA G X es tr)(hs:No (O0 (e::es)=(false,eval e X.env)::SF)):AA G X (e::es) (kC te tr):=
 PA.imp (a72 ha hr hs) λσ H Q ⟨s,M,q,R,h,f⟩=>⟨s,M,_,R,h,λx M1 v H1 h1 i1 m1 k1=>⟨s,M1,_,R.to k1 m1,h1,λxs M2 vs H2 h2 i2 m2 k2=>f _ _ _ _ h2 ⟨v,vs,rfl,i1.keep k2,i2⟩ m2 YZ⟩⟩
def mF (t:TAA):TEA:=DZ (t s M (Kx (xs.length<=sizeLine/\q Qm M1)))
def mS (t:TAA):TEA:=DZ (t s M (Kx (xs.length<=sizeLine/\∀p,M1 p=none->q Pw (Nu M1 p xs))))
def cw {x1}(h:AA G X es tr):RN (ZDm x1) (mF tr):=
 PE.imp (ca6 h) λσ H Q ⟨s,M,q,R,h,f⟩=>⟨s,M,_,R,h,λx M1 v H1 h1 i1 m1 k1=>⟨by rw[i1.len];show h1.1,λp hp=>f _ _ _ _ h1.2 ⟨p,v,rfl,c6,i1.keep (Ck hp)⟩ (m1.lay hp) (DD (Ck hp))⟩⟩
def dl (h:AA G X es tr):RN (.List es pos) (mS tr):=
 PE.imp (ca9 h) λσ H Q ⟨s,M,q,R,h,f⟩=>⟨s,M,_,R,h,λx M1 v H1 h1 i1 m1 k1=>⟨by rw[i1.len];show h1.1,λp hp=>by
  let⟨z1,z2⟩:=m1.newL hp i1;show f _ _ _ _ (h1.2 p (m1.none hp)) rfl z1 (k1.trans z2)⟩⟩
abbrev SpA:=Oe->MA->KA->Prop
inductive upC (G:G3) (r:SpA) (vs:List V) (H:Hp) (Q:VK):Prop
 | mk (as:Oe) (M:MA) (q:KA) (i:QB H as) (hs:Ww) (h:r as M q) (f:Fin G H q Q)
def upF (G:G3)(Φ:SpA):Sp:=λvs H Q y_=>upC G Φ vs H Q
def fM (Φ:SpA)(t:TAA):TEA:=λs M q=>t s M λxs M1=>Φ xs M1 q
variable {x:Str}{st:Stmt}{f:Addr}{fd:FuncData}{ps:List Str}{Φ:SpA}{k j:Nat}{p:Pos}{id T:String}
def bw2 (σ:L2.St)(H:Hp)(Q:VK)(h:up G (fM Φ tr) σ H Q):iE (upF G Φ) [] E0 (upA G tr) σ H Q:=by
 let⟨s,M,q,R,h,f⟩:=h;show⟨s,M,_,R,h,λx M1 v H1 h1 i1 m1 k1=>by
  rw[List.append_nil];show⟨x,M1,q,i1,m1,h1,f.from k1⟩⟩
def b56 (σ:L2.St)(H:Hp)(Q:VK)(h:up G (fM Φ tr) σ H Q):tCB (upC G Φ) (upA G tr) σ H Q:=by
 let⟨s,M,q,R,h,f⟩:=h;show Dt s M _ R h (CT (Cu x M1 q i1 m1 h1 ZGv))
def bi (T:Fn X.K X.mg x st f fd ps)(F:FnOk X.prog X.w X.K X.mg X.base CX0 k f fd ps (upF G Φ))(hr:Room j X.A)(hj:k<=j)(ha:AA G X (e::es) tr)(hg:autoParam (Gl X x) zaR)(hdb:autoParam ((x == ("__debug__" : Str))=false) zaD)
  (he:autoParam (starEach (e::es) X.env=(false,eval e X.env)::starEach es X.env) zaR) (hpl:autoParam ((backTo pos (starEach es X.env)).any (·.1)=false) zaR):AE G X (.Call (.Name x p) (e::es) [] pos) (fM Φ tr):=
 PE.imp (cl5 T F hr hj ha hg hdb he hpl) bw2
def et (hc:CallR X (.builtin id) (upC G Φ))(hg:Gl X x)(hm:X.mg x=none)(hv:bootBuiltins x=some (.builtin id))(ha:AA G X (e::es) tr)(hn:autoParam (x≠"__name__") zaD)(hdb:autoParam ((x == ("__debug__" : Str))=false) zaD)
  (he:autoParam (starEach (e::es) X.env=(false,eval e X.env)::starEach es X.env) zaR) (hpl:autoParam ((backTo pos (starEach es X.env)).any (·.1)=false) zaR):AE G X (.Call (.Name x p) (e::es) [] pos) (fM Φ tr):=
 PE.imp (bn3 hc hg hm hv ha hn hdb he hpl) b56
def ji (hc:CallR X (.type T) (upC G Φ))(hg:Gl X x)(hm:X.mg x=none)(hv:bootBuiltins x=some (.type T))(ha:AA G X (e::es) tr)(hn:autoParam (x≠"__name__") zaD)(hdb:autoParam ((x == ("__debug__" : Str))=false) zaD)
  (he:autoParam (starEach (e::es) X.env=(false,eval e X.env)::starEach es X.env) zaR) (hpl:autoParam ((backTo pos (starEach es X.env)).any (·.1)=false) zaR):AE G X (.Call (.Name x p) (e::es) [] pos) (fM Φ tr):=
 PE.imp (bd8 hc hg hm hv ha hn hdb he hpl) b56
end
end
section
variable {G:G3}{X:Cx}{e a b c:Expr}{es:Oh}{ta tb tc te:TEA}{tA:TTA}{tr:TAA}{pos p2:Pos}{st:Stmt}{rest:RD}{t u:TSA}
def jX:TSA:=E7 (d.nx s M)
def jL (t u:TSA):TSA:=E7 (t { d with nx:=u d } s M)
def cr:ASs G X [] jX:=PSs.imp by4 λD σ H ⟨s,M,d,R,h,f⟩=>f.nx _ _ _ _ h R QF
def aw (h:AS G X st t):ASs G X [st] t:=by3 h
def aq (h1:AS G X st t)(h2:ASs G X rest u):ASs G X (st::rest) (jL t u):=
 PSs.imp (bl7 h1 h2) λD σ H ⟨s,M,d,R,h,f⟩=>⟨s,M,_,R,h,λs1 M1 σ1 H1 h1 R1 k1=>⟨s1,M1,d,R1,h1,f.from k1⟩,f.rt,f.bk,f.ct⟩
def kB (te:TEA):TSA:=E7 (te s M λy_ M1=>d.nx s M1)
def mN (te:TEA):TSA:=E7 (te s M d.rt)
def mM:TSA:=λd y_ M=>d.rt .non M
def df (he:WR)(hs:No (ZF4 e none=Rs)):AS G X (.Expr e pos) (kB te):=
 PS.imp (by6 he hs) λD σ H ⟨s,M,d,R,h,f⟩=>⟨s,M,_,R,h,λx M1 v H1 h1 i1 m1 k1=>f.nx _ _ _ _ h1 ZAU k1⟩
def bq (he:WR):AS G X (.Return ZJu pos) (mN te):=PS.imp (b97 he) λD σ H ⟨s,M,d,R,h,f⟩=>Dt s M _ R h f.rt
def mU (c:TTA)(t u:TSA):TSA:=E7 (c s M (MQ (Ak (b=true) (t d s M1) (u d s M1))))
def cz {x y:RD}(hc:AT G X c tA)(ha:ASs G X x t)(hb:ASs G X y u):AS G X (.If c x y pos) (mU tA t u):=
 PS.imp (cl0 hc ha hb) λD σ H ⟨s,M,d,R,h,f⟩=>⟨s,M,_,R,h,λk M1 H1 h1 m1 k1=>by
  cases k with
  | true=>show⟨s,M1,d,R.to k1 m1,h1,f.from k1⟩
  | false=>show⟨s,M1,d,R.to k1 m1,h1,f.from k1⟩⟩
abbrev TGA:=A->SA->MA->(SA->MA->Prop)->Prop
abbrev fK:=Oe->SA->MA->(SA->MA->Prop)->Prop
inductive upG (G:G3) (t:TGA) (v:V) (σ:L2.St) (H:Hp) (Q:L2.St->Hp->Prop):Prop
 | mk (a:A) (s:SA) (M:MA) (q:SA->MA->Prop) (ia:Yp) (R:ZHl) (h:t a s M q) (f:ZGu H q Q)
inductive upGs (G:G3) (t:fK) (v:List V) (σ:L2.St) (H:Hp) (Q:L2.St->Hp->Prop):Prop
 | mk (a:Oe) (s:SA) (M:MA) (q:SA->MA->Prop) (ia:Z6 a v) (R:ZHl) (h:t a s M q) (f:ZGu H q Q)
abbrev AG (G:G3)(X:Cx)(e:Expr)(t:TGA):Prop:=PG X e (upG G t)
abbrev AGs (G:G3)(X:Cx)(e:Oh)(t:fK):Prop:=PGs X e (upGs G t)
def PG.imp {t t':TG}(h:PG X e t')(k:∀v σ H Q,t v σ H Q->t' v σ H Q):PG X e t:=F5 (h pins s σ H v u Q I r ZKh)
def PG.or {t t':TG}(h:PG X e t)(h':PG X e t'):PG X e (HD (t v σ H Q\/t' v σ H Q)):=F5 (q.elim (h pins s σ H v u Q I r) (h' pins s σ H v u Q I r))
def PGs.imp {t t':TGs}(h:PGs X es t')(k:∀v σ H Q,t v σ H Q->t' v σ H Q):PGs X es t:=F5 (h pins s σ H v u Q I r ZKh)
def dF (i:Nat):TGA:=λa s M q=>q (VS RS) M
def bh {i:Nat}{x:Str}(hN:X.N.Nodup)(hi:X.N[i]?=OZ)(hx:ZHZ)(hf:UD=true\/XT=N9:=by first | show .inl rfl | show .inr rfl | assumption):AG G X W6 (dF i):=
 PG.imp (bz5 hN hi hx hf) λv σ H Q ⟨a,s,M,q,ia,R,h,f⟩=>f _ _ _ _ h (R.set ia i) QF
def jK:fK:=λvs s M q=>vs=[]/\q s M
def fE (t:TGA)(u:fK):fK:=λvs s M q=>match vs with
 | v::r=>t v s M λs' M'=>u r s' M' q
 | []=>False
def e8:AGs G X [] jK:=PGs.imp bz3 λv σ H Q ⟨a,s,M,q,ia,R,⟨h0,h⟩,f⟩=>by
 subst h0;show A3 ia (f _ _ _ _ h R QF)
def bt {t:TGA}{u:fK}(h1:AG G X e t)(h2:AGs G X es u)
  (hs:No ((SE (e::es)).map (·.2)=VL e::(Yk).map (·.2))):AGs G X (e::es) (fE t u):=
 PGs.imp (bm8 h1 h2 hs) λv σ H Q ⟨a,s,M,q,ia,R,h,f⟩=>by
  cases a with
  | nil=>show h.elim
  | cons x xs=>
   let⟨w,r,rfl,i1,i2⟩:=ia;show⟨w,r,rfl,x,s,M,_,i1,R,h,λs1 M1 σ1 H1 h1 R1 k1=>IZ xs s1 M1 q (i2.keep k1) R1 h1 ZGv⟩
def jJ (n:Nat)(t:fK):TGA:=λa s M q=>match a with
 | .tup xs=>xs.length=n/\t xs s M q
 | .ref l=>∃xs,M l=some Ps/\xs.length=n/\t xs s M q
 | _=>False
def fw {k n:Nat}{t:fK}(hc:X.calm=true)(h:AGs G X es t)
  (hn:No ((Yk).length=n)) (hst:No ((Yk).findIdx? (·.1)=none)):AG G X (ZDm k) (jJ n t):=
 PG.imp (PG.or (ca3 hc h hn hst) (bz4 hc h hn hst)) λv σ H Q ⟨a,s,M,q,ia,R,h,f⟩=>by
  unfold jJ at h;split at h
  .let⟨p,vs,rfl,hp,iv⟩:=ia;show FK ⟨p,vs,rfl,WI,by rw[iv.len];show h.1,_,s,M,q,iv,R,h.2,f⟩
  .let⟨xs,e,hl,h⟩:=h;let⟨vs,hp,iv⟩:=R.hs.lst e;rw[ia];show Eh ⟨_,vs,rfl,S4,by rw[iv.len];show hl,_,s,M,q,iv,R,h,f⟩
  .show h.elim
abbrev cL:=A->A->A->MA->(MA->Prop)->Prop
inductive upSet (G:G3) (t:cL) (o i v:V) (H:Hp) (Q:Hp->Prop):Prop
 | mk (ao ai av:A) (M:MA) (q:MA->Prop) (io:SW ao o) (ii:SW ai i) (iv:Xg av) (hs:Ww) (h:t ao ai av M q) (f:∀M' H',q M'->Tu M' H'->Sd->Q H')
def PSet.imp {t t':gM}(h:VM t')(k:∀o i v H Q,t o i v H Q->t' o i v H Q):VM t:=Gj (h pins s σ H o i v ov iv u Q I r1 r2 r3 (k _ _ _ _ _ q))
def PSet.or {t t':gM}(h:VM t)(h':VM t'):VM (λo i v H Q=>t o i v H Q\/t' o i v H Q):=Gj (q.elim (h pins s σ H o i v ov iv u Q I r1 r2 r3) (h' pins s σ H o i v ov iv u Q I r1 r2 r3))
def mE (to ti:TEA)(t:cL):TGA:=λv s M q=>to s M (MO (ti s M1 (MP (t o i v M2 λM3=>q s M3))))
def oj {o i:Expr}{to ti:TEA}{t:cL}(ho:RN o to)(hi:RN i ti)(hs:ZE4 G t)
  (ha:autoParam (∀v,assign (.Subscript o i pos) X.env v=(do
   let ov <-holding [v] Zk
   let iv <-holding [v,ov] (O1 i)
   standAt pos
   holding [v,ov,iv] (Zt iv v)
   release [v,ov,iv] [])) zaI):AG G X (.Subscript o i pos) (mE to ti t):=
 PG.imp (ca4 ho hi hs ha) λv σ H Q ⟨a,s,M,q,ia,R,h,f⟩=>⟨s,M,_,R,h,λx M1 v1 H1 h1 i1 m1 k1=>⟨s,M1,_,R.to k1 m1,h1,λy M2 v2 H2 h2 i2 m2 k2=>
  ⟨x,y,a,M2,_,i1.keep k2,i2,ia.keep (k1.trans k2),m2,h2,λM3 H3 h3 m3 k3=>f _ _ _ _ h3 (R.to (k1.trans (k2.trans k3)) m3) (k1.trans (k2.trans k3))⟩⟩⟩
def setL:cL:=λo i v M q=>match o,i with
 | .ref l,.int k=>∃xs j,M l=some Ps/\ixN xs.length k=some j/\q (ZHv (xs.set j v))
 | _,_=>False
def bh9:ZE4 G setL:=PSet.imp bk1 λo i v H Q ⟨ao,ai,av,M,q,io,ii,iv,hs,h,f⟩=>by
 unfold setL at h;split at h
 .let⟨xs,j,e,hj,h⟩:=h;let⟨vs,hp,is⟩:=ZCj;let⟨h1,h2⟩:=Mt e (is.set iv j);show IV _ vs _ j io ii hp (by rw[is.len];show hj) (f _ _ h h1 h2)
 .show h.elim
def iT (te:TEA)(g:TGA):TSA:=E7 (te s M (DB (g x s M1 d.nx)))
def b78 {g:TGA}(D:Ends)(σ:L2.St)(H:Hp)(h:upS G (iT te g) D σ H):jB (up G te) (upG G g) D σ H:=by
 let⟨s,M,d,R,h,f⟩:=h;show Dt s M _ R h (CT (IZ x s M1 _ i1 ZAU h1 (MR k1)))
def kh {tg:Expr}{g:TGA}(he:WR)(hg:AG G X tg g)(hs:No (ZC2 [tg] e=Rs))(hw:No (ZCm [tg] e=ZA1))
  (h1:No ((assignEach [tg] X.env).map (·.2)=[VL tg])):AS G X (ZHX [tg] e) (iT te g):=PS.imp (ca1 he hg hs hw h1) b78
def ay {i:Nat}{x:Str}{pos':Pos}(hN:X.N.Nodup)(hi:X.N[i]?=OZ)(hx:ZHZ)(he:WR)(hs:No (ZF4 e (Af X6)=Rs))(hf:UD=true\/XT=N9:=by first | show .inl rfl | show .inr rfl | assumption) :
  AS G X (ZHX [X6] e) (iT te (dF i)):=
 PS.imp (b96 hN hi hx he hs hf) λD σ H ⟨s,M,d,R,h,f⟩=>⟨s,M,_,R,h,λx M1 v H1 h1 i1 m1 k1=>f.nx _ _ _ _ h1 ((ZAU).set i1 i) k1⟩
def mO (i j:Nat)(tr:TAA):TSA:=λd s M=>tr s M λvs M1=>match vs with
 | [v,w]=>d.nx ((ZLM).set j ZEY) M1
 | _=>False
def cj5 {i j:Nat}{x y:Str}{px py pt:Pos}{kt k2 pt2}(hc:X.calm=true)(hN:X.N.Nodup)(hi:X.N[i]?=OZ)(hj:X.N[j]?=Qt)(hij:i≠j)
  (hx:XT=N9) (hy:BI y=N9) (ha:AA G X [a,b] tr)
  (hw:ZCm (ZFv [W5,Wp]) (ZC7 [a,b])=Gx (FU [x,y]))
  (hs:No (ZC2 (ZFv [W5,Wp]) (ZC7 [a,b])=Rs)) :
  AS G X (ZHX (ZFv [W5,Wp]) (ZC7 [a,b])) (mO i j tr):=
 PS.imp (b98 hc hN hi hj hij hx hy ha hw hs) λD σ H ⟨s,M,d,R,h,f⟩=>⟨s,M,_,R,h,λxs M1 vs H1 h1 i1 m1 k1=>by
  split at h1
  .let⟨v,r,rfl,j1,w,r',rfl,j2,j3⟩:=i1;have:=j3;subst this;show Pq v w (f.nx _ _ _ _ h1 (((ZAU).set j1 i).set j2 j) k1)
  .show h1.elim⟩
def jV (i j l:Nat)(tr:TAA):TSA:=λd s M=>tr s M λvs M1=>match vs with
 | [v,w,u]=>d.nx (((ZLM).set j ZEY).set l O8) M1
 | _=>False
def b50 {i j l:Nat}{x y z:Str}{px py pz pt:Pos}{kt k2 pt2}(hc:X.calm=true)(hN:X.N.Nodup)(hi:X.N[i]?=OZ)(hj:X.N[j]?=Qt)(hl:X.N[l]?=Wf)(hij:i≠j)(hil:i≠l)(hjl:j≠l)
  (hx:XT=N9) (hy:BI y=N9) (hz:BI z=N9) (ha:AA G X [a,b,c] tr)
  (hw:ZCm (ZFv [W5,Wp,CW z pz]) (ZC7 [a,b,c])=Gx (FU [x,y,z]))
  (hs:No (ZC2 (ZFv [W5,Wp,CW z pz]) (ZC7 [a,b,c])=Rs)) :
  AS G X (ZHX (ZFv [W5,Wp,CW z pz]) (ZC7 [a,b,c])) (jV i j l tr):=
 PS.imp (by5 hc hN hi hj hl hij hil hjl hx hy hz ha hw hs) λD σ H ⟨s,M,d,R,h,f⟩=>⟨s,M,_,R,h,λxs M1 vs H1 h1 i1 m1 k1=>by
  rcases xs with _|⟨x,_|⟨y,_|⟨z,_|_⟩⟩⟩ <;> try show h1.elim
  let⟨v,r,rfl,j1,w,r',rfl,j2,u,r'',rfl,j3,j4⟩:=i1;have:=j4;subst this;show⟨v,w,u,rfl,f.nx _ _ _ _ h1 ((((R.to k1 m1).set j1 i).set j2 j).set j3 l) k1⟩⟩
def PIp.imp {op:Operator}{t t':TIp}(h:PIp X op t')(k:∀x y H Q,t x y H Q->t' x y H Q):PIp X op t:=λpins s σ H x y v u Q I r1 r2 q=>h pins s σ H x y v u Q I r1 r2 ZKh
def bi8 {g:Int->Int->Int}(x y:V)(H:Hp)(Q:VK)(h:upR G (ZFQ (g i j)) x y H Q):ipI g x y H Q:=by
 let⟨a,b,M,q,ia,ib,hs,h,f⟩:=h;unfold rJ2 at h;split at h
 .show B0 _ _ ia ib ZBn
 .show h.elim
def a03:PIp X .Add (ZEE (ZFQ (i+j))):=PIp.imp cf3 bi8
def am2:PIp X .Sub (ZEE (ZFQ (i - j))):=PIp.imp cf2 bi8
def mW (i:Nat)(te:TEA)(r:RA):TSA:=E7 (∃x,s[i]?=Af OZ/\te s M λy M1=>r x y M1 λz M2=>d.nx (VS Wf) M2)
def ae4 {i:Nat}{x:Str}{op:Operator}{r:RA}{pos':Pos}(hN:X.N.Nodup)(hi:X.N[i]?=OZ)(hx:ZHZ)(he:WR)(ho:PIp X op (ZEE r))(hf:UD=true\/XT=N9:=by first | show .inl rfl | show .inr rfl | assumption) :
  AS G X (Yt X6 op e) (mW i te r):=
 PS.imp (ca0 hN hi hx he ho hf) λD σ H ⟨s,M,d,R,⟨x,e,h⟩,f⟩=>by
  let⟨v,e1,i0⟩:=R.val i x e;show IZ v e1 s M _ R h (λy M1 w H1 h1 i1 m1 k1=>IV x y M1 _ (i0.keep k1) i1 m1 h1 (λz M2 u H2 h2 i2 m2 k2=>f.nx _ _ _ _ h2 ((R.to YZ m2).set i2 i) YZ))
def kD (to ti te:TEA)(rg:RA)(r:RA)(t:cL):TSA:=E7 (to s M (MO (ti s M1 (MP (rg o i M2 λx M3=>te s M3 λy M4=>r x y M4 λz M5=>t o i z M5 λM6=>d.nx s M6)))))
def ba6 {o i:Expr}{to ti:TEA}{rg r:RA}{t:cL}{op:Operator}{tpos:Pos}(ho:RN o to)(hi:RN i ti)(hg:PGet X (ZEE rg))(he:WR)(hp:PIp X op (ZEE r))(hs:ZE4 G t)
  (ha:∀ov iv new,augStore i ov iv new=(do holding [new,ov,iv] (Zt iv new);release [new,ov,iv] [];pure .next):=by intros;rfl):AS G X (Yt (Ds o i tpos) op e) (kD to ti te rg r t):=
 PS.imp (by7 ho hi hg he hp hs ha) λD σ H ⟨s,M,d,R,h,f⟩=>⟨s,M,_,R,h,λx M1 v1 H1 h1 i1 m1 k1=>⟨s,M1,_,R.to k1 m1,h1,λy M2 v2 H2 h2 i2 m2 k2=>
  ⟨x,y,M2,_,i1.keep k2,i2,m2,h2,λz M3 v3 H3 h3 i3 m3 k3=>⟨s,M3,_,R.to (k1.trans (k2.trans k3)) m3,h3,λw M4 v4 H4 h4 i4 m4 k4=>
   ⟨z,w,M4,_,i3.keep k4,i4,m4,h4,λg M5 v5 H5 h5 i5 m5 k5=>⟨x,y,g,M5,_,i1.keep (k2.trans (k3.trans (k4.trans k5))),i2.keep (k3.trans (k4.trans k5)),i5,m5,h5,λM6 H6 h6 m6 k6=>
    f.nx _ _ _ _ h6 (R.to (k1.trans (k2.trans (k3.trans (k4.trans (k5.trans k6))))) m6) (k1.trans (k2.trans (k3.trans (k4.trans (k5.trans k6)))))⟩⟩⟩⟩⟩⟩
def PGet.imp {t t':V->V->Hp->VK->Prop}(h:PGet X t')(k:∀o i H Q,t o i H Q->t' o i H Q):PGet X t:=λpins s σ H o i ov iv Q I r1 r2 q=>h pins s σ H o i ov iv Q I r1 r2 ZKh
def gI:RA:=λx y M q=>match x,y with
 | .ref l,.int i=>∃xs a,M l=some Ps/\0<=i/\atI xs i=some a/\q a M
 | _,_=>False
def ai8:PGet X (ZEE gI):=PGet.imp br7 λx y H Q ⟨a,b,M,q,ia,ib,hs,h,f⟩=>by
 unfold gI at h;split at h
 .let⟨xs,z,eM,h0,e,h⟩:=h;let⟨vs,hp,iv⟩:=Yc;let⟨v,e',i'⟩:=ZJX;show⟨_,vs,_,v,ia,ib,h0,S4,e',Bn h i' hs QF⟩
 .show h.elim
def eK (c:TTA)(t:TSA)(d:EndsA):Nat->SA->MA->Prop
 | 0,_,_=>False
 | n+1,s,M=>c s M λb M1=>if b=true then t { d with nx:=eK c t d n,ct:=eK c t d n,bk:=d.nx } s M1 else d.nx s M1
def iP (c:TTA)(t:TSA):TSA:=E7 (∃n,eK c t d n s M)
def j5 {body:RD}(hp:XH N6 X.A X.xe)(hc:AT G X c tA)(hb:ASs G X body t):AS G X (.While c body [] pos) (iP tA t):=
 PS.imp (bl8 hp hc hb) λD σ H ⟨s,M,d,R,⟨n,h⟩,f⟩=>by
  show Qs (λm σ' H'=>∃s' M',Vm s' M' σ' H'/\eK tA t d m s' M'/\Sd) (Dt n s M R h QF);rintro m σ1 H1 ⟨s1,M1,R1,h1,k1⟩;cases m with
  | zero=>show h1.elim
  | succ m=>
   show Dt s1 M1 _ R1 h1 (λb M2 H2 h2 m2 k2=>?_);cases b with
   | true=>
    show Qs (IS (∃s' M',Vm s' M' σ' H'/\eK tA t d m s' M'/\Sd)) (λσ' H' ⟨s',M',h⟩=>B0 m (Nat.lt_succ_self m) s' M' h);have nx:ZGu H2 (eK tA t d m) (IS (∃s' M',Vm s' M' σ' H'/\eK tA t d m s' M'/\Sd)):=λs3 M3 σ3 H3 h3 R3 k3=>B0 s3 M3 R3 h3 ZC9;show IV s1 M2 _ (R1.to k2 m2) h2 nx (f.rt.from YZ) (MR YZ) nx
   | false=>show f.nx _ _ _ _ h2 (R1.to k2 m2) YZ
abbrev TIA:=SA->MA->(Oe->(MA->Prop)->MA->Prop)->Prop
def gN (G:G3)(H1:Hp)(J:It)(xs:Oe)(P:MA->Prop):Prop:=∀(i:Nat) M H,Keep H1 H->Hs G M H->P M->
 (∀a,xs[i]?=RS->J.go i H/\∀x H',J.yld i H x H'->Sd/\ZLQ/\Is H' a x)/\(xs.length<=i->J.stop i H)
inductive upI (G:G3) (t:TIA) (σ:L2.St) (H:Hp) (R:It->Hp->Prop):Prop
 | mk (s:SA) (M:MA) (q:Oe->(MA->Prop)->MA->Prop) (Rl:ZHl) (h:t s M q) (f:∀xs P M' J H',q xs P M'->Tu M' H'->Sd->gN G H' J xs P->R J H')
abbrev AI (G:G3)(X:Cx)(tg iter:Expr)(t:TIA):Prop:=PI X tg iter (upI G t)
def PI.imp {tg:Expr}{t t':TI}(h:PI X tg e t')(k:∀σ H R,t σ H R->t' σ H R):PI X tg e t:=λpins s σ H R I q=>h pins s σ H R I Zd
def cG (g:TGA)(t:TSA)(P:MA->Prop)(d:EndsA):Oe->SA->MA->Prop
 | [],s,M=>P M/\d.nx s M
 | x::xs,s,M=>P M/\g x s M λs1 M1=>t { d with nx:=cG g t P d xs,ct:=cG g t P d xs,bk:=d.nx } s1 M1
def mV (ti:TIA)(g:TGA)(t:TSA):TSA:=E7 (ti s M (MN (cG g t P d xs s M1)))
def e9 {tg iter:Expr}{body:RD}{ti:TIA}{g:TGA}(hp:XH N6 X.A X.xe)(hc:X.calm=true)(hi:AI G X tg iter ti)(hg:AG G X tg g)(hb:ASs G X body t)
  (hs:Az (∀x,ZLj=Gx x) zaI):AS G X (.For tg iter body [] pos) (mV ti g t):=
 PS.imp (b99 hp hc hi hg hb hs) λD σ H ⟨s,M,d,R,h,f⟩=>⟨s,M,_,R,h,λxs P M1 J H1 h1 m1 k1 it=>by
  show Qs (λi m σ' H'=>m=xs.length - i/\i<=xs.length/\∃s' M',Vm s' M' σ' H'/\cG g t P d (Dp i) s' M'/\R0 H1) (IZ _ rfl Bh s M1 ZAU h1 (Bm H1));rintro i m σ2 H2 ⟨rfl,hi,s2,M2,R2,h2,k2⟩;by_cases hl:i<xs.length
  .rw[List.drop_eq_getElem_cons hl] at h2;let⟨p2,h2⟩:=h2;let⟨go,y⟩:=(it i M2 H2 k2 R2.hs p2).1 xs[i] (Ax hl);show ZBe go (IS (∃s' M',Vm s' M' σ' H'/\cG g t P d (Dp (i+1)) s' M'/\R0 H1)) (λσ' H' ⟨s',M',h⟩=>OD (xs.length - (i+1)) (by grind) Ab s' M' h) ZIN;let⟨k3,m3,i3⟩:=y x H3 y3;show IZ _ s2 M2 _ i3 (R2.to k3 m3) h2 (KT ?_);have nx:ZGu H4 (cG g t P d (Dp (i+1))) (IS (∃s' M',Vm s' M' σ' H'/\cG g t P d (Dp (i+1)) s' M'/\R0 H1)):=λs5 M5 σ5 H5 h5 R5 k5=>B0 s5 M5 R5 h5 (E3 (Ie (k4.trans k5)));have kk:=Xs (Ie k4);show IV s4 M4 _ R4 h4 nx (f.rt.from kk) (MR kk) nx
  .have e:i=xs.length:=by lia
   subst e;rw[List.drop_length] at h2;show .inl ⟨(it _ M2 H2 k2 R2.hs h2.1).2 (Nat.le_refl _),f.nx _ _ _ _ h2.2 R2 (k1.trans k2)⟩⟩
def bg6 {xs:Oe}:gN G H (Itl K l) xs (E4 (Vz=Ou)):=λi M H' k hs e=>by
 let⟨vs,hp,iv⟩:=ZCj;show ZHG (BH vs S4 (by rw[iv.len];show hi));let⟨v,e1,i1⟩:=iv.get ha;show A3 (By vs v S4 e1) (λx H'' ⟨z,y⟩=>?_);subst z;have:=y vs S4;rw[e1] at this;cases this;show BH G4 hs i1
def bq5 {xs:Oe}(hp:ZBv=ZIW vs)(iv:U3):gN G H (Itt K l) xs Uj:=λi M H' k hs y_=>by
 have hp':=k _ _ hp;show ZHG (BH vs (E8 hp') (by rw[iv.len];show hi));let⟨v,e1,i1⟩:=(iv.keep k).get ha;show A3 (By vs v (E8 hp') e1) (λx H'' ⟨z,y⟩=>?_);subst z;have:=y vs (E8 hp');rw[e1] at this;cases this;show BH G4 hs i1
end
end L3
namespace L2
open PySem PySem.Spec PyProof.Rows
def PIf (X:Cx)(ifs:Oh)(tc:TT):Prop:=∀(pins:Au (Addr×Obj)) (s:Shared) (σ:St) (H:Hp) (Q:Bool->Hp->Prop),Inv X pins σ H s->tc σ H Q->
 wpAny N6 X.A (forIn ifs true λc r=>if r=true then do let ok <-isTrue c X.env (O1 c);pure (ForInStep.yield ok) else pure (ForInStep.yield r)) (TP X pins σ Q) X.xe s
def jP:TT:=KN (Q true H)
def iD (wi:TI)(fr:St->St)(g:TG)(tc:TT)(te:TE):TE:=λσ H Q=>wi σ H λJ H1=>∀D,H1 D=none->∃W:Nat->Nat->St->Hp->Prop,(∃m,W 0 m Z4 (upd H1 D Tp))/\
 ∀i m σ' H2,W i m σ' H2->(J.stop i H2/\Q (.ref D) H2)\/(J.go i H2/\∀x H3,J.yld i H2 x H3->g x σ' H3 λσ2 H3'=>tc σ2 H3' λb H4=>
  match b with
  | false=>∃m',m'<m/\W (i+1) m' σ2 H4
  | true=>te σ2 H4 λy H5=>∃ys,H5 D=some (.lst ys)/\ys.length<sizeLine/\∃m',m'<m/\W (i+1) m' σ2 (upd H5 D (.lst (ys++[y]))))
variable {elt iter:Expr}{ifs:Oh}{scope:Scope}{pos:Pos}
section
variable {X:Cx}
def bz1:PIf X [] jP:=λy_ y_ y_ H y_ I q=>wpAny_tests_nil (BH H I q)
def bz0 {c:Expr}{tc:TT}(h:PT X c tc):PIf X [c] tc:=EN (wpAny_tests_one (h pins s σ H Q I q))
def b47 {tg:Expr}{tc:TT}{cl:Au (Str×Addr)}{N':Pg}{wi:TI}{fr:St->St}{g:TG}{te:TE}
  (hc:X.calm=true) (hi:PI X tg iter wi)
  (hg:∀C fp s0 H0,PG (Qn X N' cl C fp s0 H0) tg g) (hq:∀C fp s0 H0,PIf (Qn X N' cl C fp s0 H0) ifs tc) (he:∀C fp s0 H0,PE (Qn X N' cl C fp s0 H0) elt te)
  (hclos:ZAL=Gx cl) (hkind:scope.kind=.function) (hnames:∀x∈scope.names,x.2=.local->B9 x.1=N9) (hcell:∀y∈scope.names,y.2≠.cell)
  (hcl:∀y c,Ip y=Qz->Ba y=Qz) (hhas:∀y,((Th).names.lookup y=PP\/(Th).names.lookup y=RC)->∃c,Ip y=Qz)
  (hfl:∀σ:St,σ.length=X.N.length->(Z4).length=N'.length)
  (hfr:∀(σ:St) (i:Nat) (y:Str) (v:V),N'[i]?=Qt->(Z4)[i]?=ZJ0->∃j:Nat,X.N[j]?=Qt/\σ[j]?=ZJ0/\Ef y=PP/\(Th).names.lookup y=PP)
  (hs:Az (∀x,ZLj=Gx x) zaI) :
  CompR X ZH7 scope iter (iD wi fr g tc te):=by
 intro pins s σ H Q use Q' fpos I h fin;show wpAny_comprehension_free (use:=use) rfl hs hclos hkind hnames ?_;show thn (hi pins s σ H _ I h) λv s1 h1=>thn h1 ZFH;let⟨it,fp,tn,J,H2,rfl,I2,T,st2,f2,q2⟩:=h2;have D0:H2 s2.heap.objs.size=none:=Hf As;let⟨W,⟨m0,w0⟩,turn⟩:=q2 _ D0
 refine wpAny_newObj_type (wpAny_newFunctionEnv hcell (by intro y hy; simp at hy) (fun h₁ hns₁ hsb₁ => ?_) hkind)
 dsimp only at hns₁ hsb₁ ⊢;have I3:ZEy (upd H2 s2.heap.objs.size Tp) ({ s2 with heap:=s2.heap.push { cls:=.type "list",dict:=none,data:=.seq ([]:List Value).toArray } }):=
  I2.laid (t':=s2.toks) (Dc Ra) As ⟨Nat.zero_le _,[],_,.nil,Heap.get?_push_size _ rfl⟩
 generalize hH3:upd H2 s2.heap.objs.size Tp=H3 at I3 w0;generalize hs3:({ s2 with heap:=s2.heap.push { cls:=.type "list",dict:=none,data:=.seq ([]:List Value).toArray } }:Shared)=s3 at I3;have eh:s3.heap=s2.heap.push { cls:=.type "list",dict:=none,data:=.seq ([]:List Value).toArray }:=by rw[<-hs3]
 have fl:∀b∈fp,b<s2.heap.objs.size:=λb hb=>by
  let⟨o,e,_⟩:=T.obj 0 _ st2 b hb;show WB
 have fn:∀b∈fp,H3 b=none:=λb hb=>by
  rw[<-hH3,cj (BZ (fl b hb))];show (f2 b hb).1
 have f3:∀b∈fp,SG X H3 b:=Cs (A3 (fn b hb) ((f2 b hb).2));have old:∀b u,MM b=O8->h₁.get? b=O8:=λb u e=>by
  show hsb₁.extBut b u ?_ (Ao (by rw[<-eh];show e));have:=WB;rw[eh] at this;show BZ this
 have up:∀b u,s2.heap.get? b=O8->MM b=O8:=λb u e=>by rw[eh];show Heap.get?_push_of_some _ e
 have ok:=cj1 (N':=N') (scope:=scope) (cl:=cl) (fp:=fp) I3 hkind hcl hhas f3 λb hb=>by rw[eh,Heap.size_push];show Nat.lt_succ_of_lt (fl b hb)
 rw[<-eh] at hns₁ ⊢;have IB:Inv (Qw X N' cl fp s3 H3) [] Z4 H3 { s3 with heap:=h₁,toks:=s2.toks+([]:List (Str×Value)).length }:=by
  show⟨ok,rfl,I3.bare,Un.kept old,U6 hns₁ (λi y v e1 e2 e3=>?_),JG ?_,I3.hok.fresh As,JG (I3.freeC x c (hcl x c e)),Bg (by simp[blk] at hp),I3.hok.kept old,hfl σ I3.len⟩
  .let⟨j,n1,n2,n3,n4⟩:=hfr σ i y v e1 e2;let⟨m,_,hl⟩:=I3.loc;let⟨u,r,l⟩:=hl j y v n1 n2 (CK (CD n3));show BH u r (Eh (Pk (CD n4)));rcases l with⟨k,_⟩|⟨_,c,e,ic⟩
   .rw[n3] at k;cases k
   .let⟨c',e'⟩:=hhas y (CD n4);have e'':=hcl y c' e';rw[e] at e'';cases e'';let⟨o,ho,hd⟩:=ic;show B0 c e' o (old c o ho) hd
  .let⟨v,o,ho,hd⟩:=I3.cell x c (hcl x c e);show By v o (old c o ho) hd
 have stB:tn 0 h₁:=KH st2 (Iq (old b o (up b o e)));have D2:s2.heap.objs.size<s3.heap.objs.size:=by rw[eh,Heap.size_push];show Nat.lt_succ_self _
 have stat:∀{H':Hp},(∀b∈fp,VE=none)->∀b∈fp,cH (Qw X N' cl fp s3 H3) [] H' b:=λhn b hb=>
  ⟨hn b hb,Nat.ne_of_lt (Nat.lt_trans (fl b hb) D2),ok.exfs b hb,.inl hb,λx c e=>(ok.exf b hb).2 x c e,λp hp=>by simp[blk] at hp⟩
 have loop:codeAny N6 X.A (.compLoop ZH7 0 W0 QT (UE scope cl X.env))
   (compPost N6 X.A X.xe use Q' QT s3.heap.objs.size) { s3 with heap:=h₁,toks:=s2.toks+([]:List (Str×Value)).length }:=by
  show codeAny_loop rfl (λn s'=>∃i τ H',Inv (Qw X N' cl fp s3 H3) [] τ H' s'/\tn i s'.heap/\(∀b∈fp,VE=none)/\W i n τ H') ?_ m0 (Cu 0 Z4 H3 IB stB fn w0);rintro n s4 ⟨i,τ,H4,I4,st4,fr4,w4⟩;change HR ((compTurn ZH7 0 W0 QT (UE scope cl X.env)).onRaise (λx=>do noteFrame x (UE scope cl X.env);theTreesLotGoes x)) s4;show wpAny_noted ?_;rw[compTurn_list]
  refine wpAny_bind (wpAny_standAt (wpAny_bind ?_))
  rcases turn i n τ H4 w4 with⟨stop,qn⟩|⟨go,step⟩
  .show thn (T.done (Qw X N' cl fp s3 H3) rfl rfl rfl hc i [] s4 τ H4 _ I4 (stat fr4) st4 stop) λr s5 ⟨hr,I5⟩=>?_;subst hr;show QU;let⟨m,hn,_⟩:=I5.loc;have hlt:∀b u,MM b=O8->b≠s3.heap.objs.size:=Dc ZEz;have B:=I5.base;show fin _ _ m s5 H4 _ hn (I3.fpOk As I5.free) ?_ qn;show I3.call' (s':=s5) (ch:=fp) I5.os (Cu (λb o e n1 n2 n3=>B.keep b o e n1 n2 n3) (λb o e n1 n2 n3=>B.slot b o e n1 n2 n3) B.free (λb o e n1=>B.there b o e n1) B.tups B.frzs B.tbls) (Gp (I5.hok a o e)) I5.bare (λb hb'=>?_);show By ((f2 b hb').2.2.2.1) ((f2 b hb').2.1) ((f2 b hb').2.2.2.2.1) ((f2 b hb').2.2.2.2.2)
  .show thn (T.item (Qw X N' cl fp s3 H3) rfl rfl rfl hc i [] s4 τ H4 _ I4 (stat fr4) st4 go) λr s5 ⟨u,hr,h5⟩=>?_;subst hr;show Ah (thn h5 λ_ s6 ⟨x,H6,I6,r6,y6,st6,fr6⟩=>?_);have I6':=I6.pinned (stat fr6) (T.obj _ _ st6);show Ah (DX (hg s3.heap.objs.size fp s3 H3 _ s6 τ H6 x u _ I6' r6 (step x H6 y6)) (λ_ s7 ⟨σ7,H7,I7,q7⟩=>?_) Uk);show Ah (DX (hq s3.heap.objs.size fp s3 H3 _ s7 σ7 H7 _ I7 q7) (λb s8 hb=>?_) Uk);let⟨H8,I8,q8⟩:=hb;cases b with
   | false=>
    let⟨m',hm,w8⟩:=q8;show CM ⟨rfl,m',hm,i+1,σ7,H8,?_,?_,?_,w8⟩
    .show I8.unpinned
    .show KH st6 (Iq ((I8.pin (b,o) (BJ (BJ (kz hb e)))).1))
    .intro b hb;let⟨o,e,d⟩:=T.obj _ _ st6 b hb;show (I8.pin (b,o) (BJ (BJ (kz hb e)))).2.1
   | true=>
   show Ah (Ah (DX (he s3.heap.objs.size fp s3 H3 _ s8 σ7 H8 _ I8 q8) (λv8 s8 ⟨y8,H8,I8,r8,ys,hD,hz,m',hm,w8⟩=>?_) Uk));have ap:=ah5 (X:=Qw X N' cl fp s3 H3) _ s8 σ7 H8 QT [y8] QT [v8] (λy_ H9=>W (i+1) m' σ7 H9) I8 rfl (ZA3 r8) (ZHT _ ys y8 rfl hD hz w8);show Ah (DX ap (λ_ s9 ⟨_,H9,I9,_,w9⟩=>BA (CM ⟨rfl,m',hm,i+1,σ7,H9,?_,?_,?_,w9⟩)) Uk)
   .show I9.unpinned
   .show KH st6 (Iq ((I9.pin (b,o) (BJ (BJ (kz hb e)))).1))
   .intro b hb;let⟨o,e,d⟩:=T.obj _ _ st6 b hb;show (I9.pin (b,o) (BJ (BJ (kz hb e)))).2.1
 subst hs3;show codeAny_compStart_list loop (T.self X.A 0 _ _ _ stB loop)
def ao6 {tg:Expr}{t:TE}(h:Wx X ZH7 iter t):Ry ZH7 t:=by
 intro pins s σ H Q I hw;show h pins s σ H Q none _ _ I hw λD C m s5 H4 r hn f I5 q=>BH m hn (λh' sb=>Py Wi H4 ?_ q);show I5.turned (t':=s5.toks) (CA (sb.extBut b o hb e)) f.1 f.2.1 f.2.2.2.1 f.2.2.2.2.1 f.2.2.2.2.2
def bl9 {i:Nat}{y:Str}{py spos:Pos}{tg:Expr}{t:TE}(hN:X.N.Nodup)(hi:X.N[i]?=Qt)(hx:BI y=N9)(h:Wx X ZH7 iter t)
  (hsw:No (ZF3 ZH7 (Af Wp) spos.line=Gx true)):PS X (Ir [Wp] ZH7 spos) (jB t (iL i)):=by
 intro pins s σ H D I hw
 rw [exec_Assign_Name_used _ _ _ _ hsw]
 refine wpAny_bind (wpAny_standAt (wpAny_bind ?_))
 show Ah (DX (h pins { s with } σ H _ (Af (VL Wp)) (Hr (SP X pins D .next s')) _ I hw λD' C m s5 H4 r hn f I5 q=>?_) (λy_ s' hq=>BA (BA hq)) (Mj e));show wpAny_assign_Name (ag3 I5 hN hi (A1 hx) (v:=A5 D') rfl (λs6 I6 ⟨a,sb,ha⟩=>?_) (CK hx));have na:C≠a:=by
  rcases ha with e|e
  .rw[e];show f.2.1
  .show BX (f.2.2.2.2.1 y a e)
 show BH m (hn.sameBut sb na) (λh' sb'=>By _ H4 ?_ q);show I6.turned  (CA (sb'.extBut b o hb e)) f.1 f.2.1 f.2.2.2.1 f.2.2.2.2.1 f.2.2.2.2.2
end
end L2
namespace L3
open PySem PySem.Spec PyProof.Rows L2
variable {n k:Nat}{ti:TIA}{g:TGA}{scope:Scope}{tg:Expr}{H:Hp}{d:Addr}{P:Program}{tp p:Pos}
section
variable {G:G3}{X:Cx}{e a b c:Expr}{es:Oh}{ta tb tc te:TEA}{tA:TTA}{tr:TAA}{pos p2:Pos}{st:Stmt}{rest:RD}{t u:TSA}
def eJ (g:TGA)(tc:TTA)(te:TEA)(P:MA->Prop)(D:Addr)(k:MA->Prop):Oe->SA->MA->Prop
 | [],_,M=>P M/\k M
 | x::xs,s,M=>P M/\g x s M λs2 M2=>tc s2 M2 λb M3=>if b=true then te s2 M3 λy M4=>∃ys,M4 D=some YT/\ys.length<sizeLine/\eJ g tc te P D k xs s2 (Nu M4 D (ys++[y]))
  else eJ g tc te P D k xs s2 M3
def gU (n:Nat)(js:VZ)(ti:TIA)(g:TGA)(tc:TTA)(te:TEA):TEA:=λs M q=>ti s M λxs P M1=>∀D,M1 D=none->
 eJ g tc te P D (q Wi) xs (ZE3++V0 ((s[j]?).join)) (Qb M1 D)
def frS (n:Nat)(js:VZ)(σ:L2.St):L2.St:=ZE3++V0 ((σ[j]?).join)
def fF:TTA:=IK (q true M)
def bw0 (σ:L2.St)(H:Hp)(Q:Bool->Hp->Prop)(h:upT G fF σ H Q):jP σ H Q:=by
 let⟨s,M,q,R,h,f⟩:=h;show f _ _ _ h R.hs QF
def Rel.frS {s:SA}{M:MA}{σ:L2.St}{H:Hp}(R:ZHl)(n:Nat)(js:VZ):Vm (ZE3++V0 ((s[j]?).join)) M (L3.frS n js σ) H:=by
 show BH (by simp[L3.frS]) ZQ R.hs;unfold L3.frS;by_cases hi:i<n
 .rw[List.getElem?_append_left (by simpa using hi),List.getElem?_replicate] at e
  simp_all
 .rw[List.getElem?_append_right (by simpa using hi)] at e ⊢;simp only[List.length_replicate,List.getElem?_map] at e ⊢;cases z:js[i - n]? with
  | none=>simp_all
  | some j=>
   rw[z] at e;have e':(s[j]?).join=RS:=ZEd;have e2:s[j]?=Af RS:=by
    cases w:s[j]? with
    | none=>rw[w] at e';cases e'
    | some o=>rw[w] at e';simp_all
   let⟨v,h1,h2⟩:=R.val j a e2
   simp_all
def bw1 {js:VZ}{tc:TTA}(σ:L2.St)(H:Hp)(Q:VK)(h:up G (gU n js ti g tc te) σ H Q):iD (upI G ti) (frS n js) (upG G g) (upT G tc) (up G te) σ H Q:=by
 let⟨s,M,q,R,h,f⟩:=h;show Dt s M _ R h (λxs P M1 J H1 h1 m1 k1 it=>MK ?_);let⟨z1,z2⟩:=m1.newL hD (ys:=[])  rfl;show Qs (λi m σ' H'=>m=xs.length - i/\i<=xs.length/\∃s' M',Vm s' M' σ' H'/\eJ g tc te P D (q Wi) (Dp i) s' M'/\R0 H1) (IZ _ rfl Bh _ _ ((R.to (DD z2) z1).frS n js) (h1 D (m1.none hD)) z2);rintro i m σ2 H2 ⟨rfl,hi,s2,M2,R2,h2,k2⟩;by_cases hl:i<xs.length
 .rw[List.drop_eq_getElem_cons hl] at h2;let⟨p2,h2⟩:=h2;let⟨go,y⟩:=(it i M2 H2 k2 R2.hs p2).1 xs[i] (Ax hl);show Vo go ZIN;let⟨k3,m3,i3⟩:=y x H3 y3;show IZ _ s2 M2 _ i3 (R2.to k3 m3) h2 (KT (Dt s4 M4 _ R4 h4 (λb M5 H5 h5 m5 k5=>?_)));have kk:=E3 (Ie (k4.trans k5));cases b with
  | false=>show⟨xs.length - (i+1),by omega,rfl,by lia,s4,M5,R4.to k5 m5,h5,kk⟩
  | true=>
   show Dt s4 M5 _ (R4.to k5 m5) h5 (λw M6 v6 H6 h6 i6 m6 k6=>?_);let⟨ys,e6,l6,h6⟩:=h6;let⟨vs,hp,iv⟩:=m6.lst e6;let⟨z3,z4⟩:=m6.setL e6 (iv.app (IsL.one i6));show⟨vs,hp,by rw[iv.len];show l6,xs.length - (i+1),by grind,rfl,Ab,s4,_,R4.to (k5.trans (k6.trans z4)) z3,h6,Ic (k6.trans z4)⟩
 .have e:i=xs.length:=by lia
  subst e;rw[List.drop_length] at h2;show FK (A3 ((it _ M2 H2 k2 R2.hs h2.1).2 As) (P4 h2.2 R2.hs YZ))
def CompR.imp {iter:Expr}{t t':TE}(h:Wx X e iter t')(k:∀σ H Q,t σ H Q->t' σ H Q):Wx X e iter t:=λpins s σ H Q use Q' fpos I q fin=>h pins s σ H Q use Q' fpos I Zd fin
def b55 {elt iter:Expr}{ifs:Oh}{tc:TTA}(tn:Pg)(ks:Au (Str×Addr×Nat))(hc:X.calm=true)(hi:AI G X tg iter ti)
  (hg:∀C fp s0 H0,AG G (Qn X (tn++DN ((·.1))) (So ((k.1,k.2.1))) C fp s0 H0) tg g)
  (hq:∀C fp s0 H0,PIf (Qn X (tn++DN ((·.1))) (So ((k.1,k.2.1))) C fp s0 H0) ifs (upT G tc))
  (he:∀C fp s0 H0,RK (Qn X (tn++DN ((·.1))) (So ((k.1,k.2.1))) C fp s0 H0) elt te)
  (hclos:ZAL=Gx (So ((k.1,k.2.1)))) (hkind:scope.kind=.function) (hnames:∀x∈scope.names,x.2=.local->B9 x.1=N9) (hcell:∀y∈scope.names,y.2≠.cell)
  (hks:ZAf X ks) (hall:((Th).names.all (B5 ((p.2 != .cell && p.2 != .free) || ZEG (p.1 == k.1))))=true)
  (hs:Az (∀x,ZLj=Gx x) zaI) :
  CompR X ZH7 scope iter (up G (gU tn.length (DN ((·.2.2))) ti g tc te)):=by
 show CompR.imp (b47    hc hi hg hq he hclos hkind hnames hcell ZIO (λy' h=>?_) (Ac (by simp[frS])) (λσ i y' v e1 e2=>?_) hs) bw1
 .let⟨k,hk,rfl,rfl⟩:=aq7 h;show (ZGz hk).1
 .rw[List.all_eq_true] at hall;have key:∀k,(k=.cell\/k=.free)->(Th).names.lookup y'=YO->∃k∈ks,k.1=y':=λk hk e=>by
   have:=hall _ (ac8 e);rw[Bool.or_eq_true] at this;rcases this with z|z
   .simp_all
   simp_all
  show aq8 ?_;rcases h with h|h
  .show key _ OP h
  .show key _ Nt h
 .unfold frS at e2;by_cases hi:i<tn.length
  .rw[List.getElem?_append_left (by simpa using hi),List.getElem?_replicate,if_pos hi] at e2;cases e2
  .rw[List.getElem?_append_right (by simpa using hi)] at e1;rw[List.getElem?_append_right (by simpa using hi)] at e2;simp only[List.length_replicate,List.getElem?_map] at e1 e2;cases z:ks[i - tn.length]? with
   | none=>rw[z] at e1;cases e1
   | some k=>
    rw[z] at e1 e2;have e1':=BW e1;have e2':(σ[k.2.2]?).join=Pm:=BW e2;let⟨h1,h2,h3,h4⟩:=ZGz (Ad z);show B0 k.2.2 (by rw[<-e1'];show h2) ?_ (by rw[<-e1'];show h3) (by rw[<-e1'];show h4);cases w:σ[k.2.2]? with
    | none=>rw[w] at e2';cases e2'
    | some o=>rw[w] at e2';simp_all
def dh:PIf X [] (upT G fF):=EN (bz1 pins s σ H Q I (bw0 _ _ _ q))
def ux (h:AT G X c tA):PIf X [c] (upT G tA):=bz0 h
def dk {tg elt iter:Expr}{ifs:Oh}{scope:Scope}{t:TEA}(h:Wx X ZH7 iter (up G t)):RN ZH7 t:=ao6 h
def uu {i:Nat}{y:Str}{py spos:Pos}{elt iter tg:Expr}{ifs:Oh}{scope:Scope}{t:TEA}(hN:X.N.Nodup)(hi:X.N[i]?=Qt)(hx:BI y=N9)(h:Wx X ZH7 iter (up G t))
  (hsw:No (ZF3 ZH7 (Af Wp) spos.line=Gx true)):AS G X (Ir [Wp] ZH7 spos) (iT t (dF i)):=
 PS.imp (bl9 hN hi hx h hsw) λD σ H ⟨s,M,d,R,h,f⟩=>⟨s,M,_,R,h,λx M1 v H1 h1 i1 m1 k1=>f.nx _ _ _ _ h1 ((ZAU).set i1 i) k1⟩
def ItR (X:Cx)(tg:Expr)(r:V->Hp->(It->Hp->Prop)->Prop):Prop:=∀(pins:Au (Addr×Obj)) (s:Shared) (σ:L2.St) (H:Hp) (x:V) (v:Value) (R:It->Hp->Prop),Inv X pins σ H s->RelV x v->r x H R->
 wpAny N6 X.A (pyIter v) (PIE X pins σ tg R) X.xe s
def b23:Y1 X (JB (∃l xs,x=On/\ZHn l xs/\R (Itl X.K l) H)):=λpins s1 σ H1 x v R I1 r1 ⟨l,xs,e,hq,q⟩=>by
 subst e;cases r1;let⟨its,rv,p,hz⟩:=I1.list hq;show wpAny_pyIter_list p.isList ?_;show ZDs s1.heap.objs.size ZFC _ H1 rfl ZBy (bb5 l _) (Vh _ Ow) U9 q;rw[show b=s1.heap.objs.size by simpa using hb];show LJ As ZCg
def ce9:Y1 X (JB (∃l xs,x=On/\ZGW H l xs/\R (Itt X.K l) H)):=λpins s1 σ H1 x v R I1 r1 ⟨l,xs,e,hq,q⟩=>by
 subst e;cases r1;let⟨its,rv,p,hz⟩:=I1.tuple hq;show wpAny_pyIter_tuple p ?_;show ZDs s1.heap.objs.size ZFC _ H1 rfl ZBy (au6 l _) (Vh _ Ow) U9 q;rw[show b=s1.heap.objs.size by simpa using hb];show LJ As ZCg
abbrev RIA:=A->MA->(Oe->(MA->Prop)->MA->Prop)->Prop
inductive upRI (G:G3) (r:RIA) (x:V) (H:Hp) (R:It->Hp->Prop):Prop
 | mk (a:A) (M:MA) (q:Oe->(MA->Prop)->MA->Prop) (ia:SW a x) (hs:Ww) (h:r a M q) (f:∀xs P M' J H',q xs P M'->Tu M' H'->Sd->gN G H' J xs P->R J H')
def gT (r:RIA)(te:TEA):TIA:=DZ (te s M (DB (r x M1 q)))
def cj6 {r:RIA}(hr:Y1 X (upRI G r))(he:WR):AI G X tg e (gT r te):=λpins s σ H R I ⟨s0,M,q,Rl,h,f⟩=>
 thn (he pins s σ H _ I (Dt s0 M _ Rl h (CT (Cu x M1 q i1 m1 h1 (λxs P M2 J H2 h2 m2 k2 it=>f xs P M2 J H2 h2 m2 YZ it)))))
  λv s1 ⟨x,H1,I1,r1,q1⟩=>hr pins s1 σ H1 x v R I1 r1 q1
def ItR.imp {r r':V->Hp->(It->Hp->Prop)->Prop}(h:Y1 X r')(k:∀x H R,r x H R->r' x H R):Y1 X r:=Jc (h pins s σ H x v R I rx Zd)
def ItR.or {r r':V->Hp->(It->Hp->Prop)->Prop}(h:Y1 X r)(h':Y1 X r'):Y1 X (JB (r x H R\/r' x H R)):=Jc (q.elim (h pins s σ H x v R I rx) (h' pins s σ H x v R I rx))
def kI:RIA:=λx M q=>match x with
 | .tup xs=>q xs Uj M
 | .ref l=>∃xs,M l=some Ps/\q xs (E4 (Vz=Ou)) M
 | _=>False
def cf0:Y1 X (upRI G kI):=ItR.imp (ItR.or b23 ce9) λx H R ⟨a,M,q,ia,hs,h,f⟩=>by
 unfold kI at h;split at h
 .let⟨p,vs,rfl,hp,iv⟩:=ia;show Eh (Pf p vs WI (IY h hs QF (bq5 hp iv)))
 .let⟨xs,eM,h⟩:=h;let⟨vs,hp,iv⟩:=Yc;show FK (B0 _ vs ia S4 (IY h hs QF bg6))
 .show h.elim
def zA (xs ys:Oe):Oe:=List.zipWith (G5 ZLg) xs ys
def jS (tr:TAA):TIA:=λs M q=>tr s M λvs M1=>match vs with
 | [.ref l,.ref k]=>∃xs ys,M1 l=some Ps/\M1 k=some YT/\q (zA xs ys) (E4 (Vz=Ou/\M' k=WM)) M1
 | _=>False
def bq4 {c d:Om->HO}{l k:Addr}{xs ys:Oe}{P:MA->Prop}(h1:∀M H',Sd->ZLQ->P M->∃vs ws,H' l=Af (c vs)/\H' k=Af (d ws)/\U2 H'/\IsL H' ys ws)
  (ic:∀x y,c x=c y->x=y) (id:∀x y,d x=d y->x=y):gN G H (Itz c d l k) (zA xs ys) P:=λi M H' kp hs p=>by
 let⟨vs,ws,e1,e2,i1,i2⟩:=h1 M H' kp hs p;show ZHG (B0 vs ws e1 e2 (by rw[i1.len,i2.len];unfold zA at hi;rw[List.length_zipWith] at hi;lia));unfold zA at ha;rw[List.getElem?_zipWith] at ha;cases z1:xs[i]? with
 | none=>rw[z1] at ha;cases ha
 | some x=>
  cases z2:ys[i]? with
  | none=>simp_all
  | some y=>
   rw[z1,z2] at ha;cases ha;let⟨v,f1,j1⟩:=i1.get z1;let⟨w,f2,j2⟩:=i2.get z2;show A3 (IZ vs ws v w e1 e2 f1 f2) (λu H'' ⟨p',x',y',hn,eu,eH,g1,g2⟩=>?_);subst eu eH;have:=g1 vs e1;rw[f1] at this;cases this;have:=g2 ws e2;rw[f2] at this;cases this;show⟨Sa,Wc,p',_,rfl,c6,v,[w],rfl,ZEH,w,[],rfl,j2.keep Sa,rfl⟩
set_option tactic.hygienic true in
def am3 {n1}{e1 e2:Expr}{pos:Pos}(hg:Zs)(hm:Yi = none)(hb:YY = ZJ2)(ha:AA G X [e1,e2] tr)
  (hs:No (OY [e1,e2]=[(false,eval e1 X.env),(false,eval e2 X.env)])) (hs2:No (OY [e2]=[(false,eval e2 X.env)])) :
  AI G X (ZH n1 tp) (ZDp p [e1,e2]) (jS tr):=
 PI.imp (bm7 hg hm hb ha hs hs2) λσ H R ⟨s,M,q,Rl,h,f⟩=>⟨s,M,_,Rl,h,λxs M1 vs H1 h1 i1 m1 k1=>by
  rcases xs with _|⟨x,r⟩;show h1.elim;cases x with
  | ref l=>
   rcases r with _|⟨x,r⟩;show h1.elim;cases x with
   | ref k=>
    cases r with
    | nil=>
     let⟨xs,ys,e1,e2,h1⟩:=h1;let⟨v,r,rfl,j1,w,r',rfl,j2,j3⟩:=i1;rw[j1,show w=_ from j2,j3];let⟨vs,p1,_⟩:=m1.lst e1;let⟨ws,p2,_⟩:=m1.lst e2;show IZ l k vs ws rfl p1 p2 (IY h1 m1 k1 (bq4 (λM' H' kp hs ⟨a1,a2⟩=>?_) (Ce (by cases z;rfl)) (Ce (by cases z;rfl))));let⟨vs',p1',q1'⟩:=Ew a1;let⟨ws',p2',q2'⟩:=Ew a2;show Dt vs' ws' p1' p2' q1' q2'
    | _=>show h1.elim
   | _=>show h1.elim
  | _=>show h1.elim⟩
def eA (xs:Oe):Oe:=xs.zipIdx.map (B5 (ZHQ (BR p.2) p.1))
def jZ (tr:TAA):TIA:=λs M q=>tr s M λvs M1=>match vs with
 | [.ref l]=>∃xs,M1 l=some Ps/\q (eA xs) (E4 (Vz=Ou)) M1
 | _=>False
set_option tactic.hygienic true in
def ba8 {n1}{tp:Pos}{p pos:Pos}(hg:ZLW)(hm:ZKn = none)(hb:ZKQ = Af ZKR)(ha:AA G X [e] tr)
  (hs:No (OY [e]=[(false,eval e X.env)])):AI G X (ZH n1 tp) (ZBu "enumerate" p [e]) (jZ tr):=
 PI.imp (bz2 hg hm hb ha hs) λσ H R ⟨s,M,q,Rl,h,f⟩=>⟨s,M,_,Rl,h,λxs M1 vs H1 h1 i1 m1 k1=>by
  split at h1
  .rename_i l;let⟨xs,e1,h1⟩:=h1;let⟨v,r,rfl,j1,j3⟩:=i1;rw[show v=_ from j1,j3];let⟨vs,p1,_⟩:=m1.lst e1;show Pf l vs p1 (f _ _ _ _ _ h1 m1 k1 λi M' H' kp hs eM=>?_);let⟨vs',p1',q1'⟩:=Yc;show ZHG (BH vs' p1' (by rw[q1'.len];unfold eA at hi;simp_all));unfold eA at ha;rw[List.getElem?_map,List.getElem?_zipIdx] at ha;cases z1:xs[i]? with
   | none=>simp_all
   | some x=>
    rw[z1] at ha;simp only[Option.map_some,Option.some.injEq] at ha;subst ha;let⟨v,f1,j1⟩:=q1'.get z1;show A3 (By vs' v p1' f1) (λu H'' ⟨p',x',hn,eu,eH,g1⟩=>?_);subst eu eH;have:=g1 vs' p1';rw[f1] at this;cases this;show⟨Sa,Wc,p',_,rfl,c6,P1,[v],rfl,by simp[Is],v,[],rfl,ZEH,rfl⟩
  .show h1.elim⟩
def rgA (lo:Int)(n:Nat):Oe:=(Za).map λ(i:Nat)=>BR (lo+i)
def bq6 {lo:Int}:gN G H (Itr lo n) (rgA lo n) Uj:=λi M H' kp hs y_=>by
 show ZHG (by unfold rgA at hi;change n<=i;simpa using hi);unfold rgA at ha;rw[List.getElem?_map] at ha;have hi:i<n:=by
  by_cases z:i<n
  .show z
  simp_all
 rw[List.getElem?_range hi] at ha;cases ha;show A3 hi (λx H'' ⟨z1,z2⟩=>?_);subst z1 z2;show Oo G4 hs
def mK (tr:TAA):TIA:=λs M q=>tr s M λvs M1=>match vs with
 | [.int j]=>-(2 ^ 62)<=j/\j<2 ^ 62/\q (rgA 0 j.toNat) Uj M1
 | _=>False
def gu {tg:Expr}{p pos:Pos}(hg:Zr "range")(hm:Iw "range" = none)(ha:AA G X [a] tr)(hs:No (OY [a]=[(false,eval a X.env)])):AI G X tg (ZBu "range" p [a]) (mK tr):=
 PI.imp (bd4 hg hm ha hs) λσ H R ⟨s,M,q,Rl,h,f⟩=>⟨s,M,_,Rl,h,λxs M1 vs H1 h1 i1 m1 k1=>by
  rcases xs with _|⟨x,r⟩;show h1.elim;cases x with
  | int j=>
   cases r with
   | nil=>
    let⟨v,r,rfl,j1,j3⟩:=i1;rw[show v=_ from j1,j3];show B0 _ rfl h1.1 h1.2.1 (IY h1.2.2 m1 k1 bq6)
   | _=>show h1.elim
  | _=>show h1.elim⟩
end
variable {w:World}{K:PySem.W.Frag}{mg:Str->OV}{base:Heap}{G:G3}{x:Str}{st:Stmt}{f:Addr}{fd:FuncData}{ps:Pg}
def cN (N:Pg)(as:Oe):SA:=HZ some++UQ (N.length - as.length)
def Rel.start {M:MA}{H:Hp}{as:Oe}{vs:Om}(N:Pg)(h:QB H as)(hs:Ww):Vm (cN N as) M (L2.start N vs) H:=by
 show BH (by simp[cN,L2.start,h.len]) ZQ hs;unfold cN at e;unfold L2.start;by_cases hi:i<as.length
 .rw[List.getElem?_append_left (by simpa using hi),List.getElem?_map] at e;cases z:as[i]? with
  | none=>rw[z] at e;cases e
  | some x=>
   rw[z] at e;cases e;let⟨v,e1,e2⟩:=h.get z;show BH v ?_ e2;rw[List.getElem?_append_left (by rw[List.length_map,h.len];show hi),List.getElem?_map,e1];rfl
 .rw[List.getElem?_append_right (by simpa using hi),List.getElem?_replicate] at e
  simp_all
def af {qual:Str}{N:List Str}{Φ:SpA}{t:TSA}(F:Fun K x qual st f fd)(S:FnScope N ps (aB st))(len:∀as M q,Φ as M q->as.length=ps.length)
  (hbody:∀(cdv:Value) (A:Around) (outer:List Env) (s:Shared) (H:Hp) (E:XK),VN (Ln (Zi U5 f cdv))->ASs G (fT CX0 P w K mg base N qual U5 f cdv A outer s H E).nox Zw t)
  (spec:∀as M q,Φ as M q->t { nx:=λy_ M'=>q .non M',rt:=q } (cN N as) M):FnOk P w K mg base CX0 (k+1) f fd ps (upF G Φ):=by
 show F.ok S (λvs H Q E ⟨as,M,q,i,_,h,_⟩=>by rw[i.len];show len as M q h) λcdv A outer s H vs Q E hr h=>?_;let⟨as,M,q,i,hs,h,fin⟩:=h;show⟨_,hbody cdv A outer s H E hr,cN N as,M,_,Rel.start N i hs,spec as M q h,?_,fin,?_,?_⟩
 .show KR (KS h' rfl R'.hs k')
 .show Yb
 .show Yb
variable {g:Expr}{vs:Om}{Q:VK}{M:MA}{v:V}{o:Obj}
section
variable {G:G3}{X:Cx}{e a b c:Expr}{es:Oh}{ta tb tc te to:TEA}{tA:TTA}{tr:TAA}{pos p2:Pos}
noncomputable def c1 (r:A->MA->KA->Prop):SpA:=λas M q=>match as with
 | [x]=>r x M q
 | _=>False
noncomputable def c2 (r:RA):SpA:=λas M q=>match as with
 | [x,y]=>r x y M q
 | _=>False
def aj0 {r:A->MA->KA->Prop}(h:upC G (c1 r) vs H Q):∃v,vs=[v]/\upU G r v H Q:=by
 let⟨as,M,q,i,hs,h,f⟩:=h;unfold c1 at h;split at h
 .let⟨v,r,rfl,j1,j2⟩:=i;rw[j2];show IV v rfl _ M q j1 hs h f
 .show h.elim
def b79 {r:RA}(h:upC G (c2 r) vs H Q):∃v w,vs=[v,w]/\upR G r v w H Q:=by
 let⟨as,M,q,i,hs,h,f⟩:=h;unfold c2 at h;split at h
 .let⟨v,r,rfl,j1,w,r',rfl,j2,j3⟩:=i;rw[j3];show⟨v,w,rfl,_,_,M,q,j1,j2,hs,h,f⟩
 .show h.elim
def kW:A->MA->KA->Prop:=λx M q=>match x with
 | .int i=>q (ZX (i<0) (-i) i) M
 | _=>False
def ae8:WJ X (CF "abs") G (c1 kW):=CallR.imp bu4 λxs H Q h0=>by
 let⟨v,rfl,x,M,q,i,hs,h,f⟩:=VU;unfold kW at h;split at h
 .show U6 (by rw[i]) ZBn
 .show h.elim
def ck1 (hc:X.calm=true):WJ X (CF "max") G (c2 (ZFQ (Ak (j > i) j i))):=CallR.imp (bh6 hc) λxs H Q h0=>by
 let⟨v,w,rfl,x,y,M,q,i,j,hs,h,f⟩:=b79 h0;unfold rJ2 at h;split at h
 .show By _ _ (by rw[show v=_ from i,j]) ZBn
 .show h.elim
def bv5 (hc:X.calm=true):WJ X (CF "min") G (c2 (ZFQ (Ak (j<i) j i))):=CallR.imp (bh5 hc) λxs H Q h0=>by
 let⟨v,w,rfl,x,y,M,q,i,j,hs,h,f⟩:=b79 h0;unfold rJ2 at h;split at h
 .show By _ _ (by rw[show v=_ from i,j]) ZBn
 .show h.elim
def kT:A->MA->KA->Prop:=λx M q=>match x with
 | .int i=>q P1 M
 | .bl k=>q (ZX k 1 0) M
 | _=>False
def am5:WJ X ZKS G (c1 kT):=CallR.imp bh7 λxs H Q h0=>by
 let⟨v,rfl,x,M,q,i,hs,h,f⟩:=VU;unfold kT at h;split at h
 .show FK (U6 (by rw[show v=_ from i]) ZBn)
 .show Eh (U6 (by rw[i]) ZBn)
 .show h.elim
def itm (M:MA):A->BO Oe
 | .tup xs=>some xs
 | .ref l=>match M l with
  | some (.lst xs)=>some xs
  | _=>none
 | _=>none
set_option tactic.hygienic true in
def ce8 {x:A}{xs:Oe}(hs:Ww)(i:ZC8)(e:itm M x=ZJv):∃l vs,v=On/\(XG K l vs\/SqT K H l vs)/\U3:=by
 cases x with
 | tup ys=>
  cases e;let⟨p,vs,rfl,hp,iv⟩:=i;show Pf p vs (CK WI) iv
 | ref l=>
  rw[i];dsimp only[itm] at e;split at e
  .rename_i ys eM;cases e;let⟨vs,hp,iv⟩:=Yc;show Pf l vs (CD S4) iv
  .cases e
 | _=>cases e
def iN:A->MA->KA->Prop:=λx M q=>match x with
 | .str z=>z.length<=sizeLine/\q ZCb M
 | .ref l=>∃xs,M l=some Ps/\q Tj M
 | .tup xs=>q Tj M
 | _=>False
def fq:WJ X ZKK G (c1 iN):=CallR.imp (CallR.or am0 al9) λxs H Q h0=>by
 let⟨v,rfl,x,M,q,i,hs,h,f⟩:=VU;unfold iN at h;split at h
 .show ZBe _ (by rw[i]) h.1 (ZBm h.2)
 .rw[show v=_ from i];let⟨ys,e,h⟩:=h;let⟨vs,hp,iv⟩:=ZCj;show FK (Pf _ vs (CD S4) (Bn h (by rw[iv.len];rfl) hs QF))
 .let⟨p,vs,rfl,hp,iv⟩:=i;show FK (Pf p vs (CK WI) (Bn h (by rw[iv.len];rfl) hs QF))
 .show h.elim
def jQ:A->MA->KA->Prop:=λx M q=>∃xs,itm M x=ZJv/\∀p,M p=none->q Pw (ZBg p xs)
def am4:WJ X SS G (c1 jQ):=CallR.imp al8 λxs H Q h0=>by
 let⟨v,rfl,x,M,q,i,hs,⟨xs,e,h⟩,f⟩:=VU;let⟨l,vs,rfl,hp,iv⟩:=ce8 (K:=X.K) hs i e;show Pf l vs hp ZCl;let⟨z1,z2⟩:=hs.newL hn iv;show ZH1 (h p (LW hn))
def iM:A->MA->KA->Prop:=λx M q=>∃xs,itm M x=ZJv/\q Qm M
set_option tactic.hygienic true in
def jj:WJ X Sb G (c1 iM):=CallR.imp af5 λxs H Q h0=>by
 let⟨v,rfl,x,M,q,i,hs,⟨xs,e,h⟩,f⟩:=VU;cases x with
 | tup ys=>
  cases e;let⟨p,vs,rfl,hp,iv⟩:=i;show Pq p vs (Vo WI (ZGw (Pf p vs hp iv) hs QF))
 | ref l=>
  rw[i];dsimp only[itm] at e;split at e
  .rename_i ys eM;cases e;let⟨vs,hp,iv⟩:=Yc;show Pq l vs (FK (A3 S4 (GE (ZGw (Pf p vs c6 (iv.keep Sa)) Wc Sa))))
  .cases e
 | _=>cases e
def tyA (M:MA):A->BO String
 | .non=>some "NoneType"
 | .bl _=>some "bool"
 | .int _=>some "int"
 | .str _=>some "str"
 | .tup _=>some "tuple"
 | .ref l=>match M l with
  | some (.lst _)=>some "list"
  | _=>none
 | .ty _=>none
set_option tactic.hygienic true in
def b83 {x:A}{n:String}(hs:Ww)(i:ZC8)(e:tyA M x=ZJx):TyOf K H v (C7 n):=by
 cases x with
 | tup ys=>cases e;let⟨p,vs,rfl,hp,iv⟩:=i;show .tup hp
 | non=>cases e;rw[show v=_ from i];show .non
 | bl k=>cases e;rw[show v=_ from i];show .bl k
 | int k=>cases e;rw[i];show .int k
 | str k=>cases e;rw[show v=_ from i];show .str k
 | ref l=>
  rw[i];dsimp only[tyA] at e;split at e
  .rename_i ys eM;cases e;let⟨vs,hp,iv⟩:=hs.lst eM;show .lst hp
  .cases e
 | ty _=>cases e
def kR:RA:=λx y M q=>match y with
 | .ty n=>∃t k,tyA M x=some t/\(∀K,JW K (C7 t) (C7 n)=YO)/\q ZFE M
 | _=>False
def vz:WJ X XW G (c2 kR):=CallR.imp at2 λxs H Q h0=>by
 let⟨v,w,rfl,x,y,M,q,i,j,hs,h,f⟩:=b79 h0;unfold kR at h;split at h
 .let⟨t,k,e,hk,h⟩:=h;rw[j];show IZ v _ _ k rfl (b83 hs i e) (hk _) ZBn
 .show h.elim
def IsL.bls {H:Hp}:∀{bs:List Bool} {vs:List V},QB H (Fh A.bl)->vs=Fh V.bl
 | [],_,h=>h
 | _::_,_,⟨v,r,e,h,t⟩=>by rw[e,h,IsL.bls t];rfl
def kU (g:List Bool->Bool):A->MA->KA->Prop:=λx M q=>match x with
 | .ref l=>∃bs:List Bool,M l=some (Bc (Fh A.bl))/\q (.bl (g bs)) M
 | _=>False
def ck2 (hc:X.calm=true):WJ X (CF "any") G (c1 (kU λbs=>ZGq)):=CallR.imp (bu3 hc) λxs H Q h0=>by
 let⟨v,rfl,x,M,q,i,hs,h,f⟩:=VU;unfold kU at h;split at h
 .let⟨bs,e,h⟩:=h;let⟨vs,hp,iv⟩:=ZCj;show B0 _ bs (by rw[i]) (Fu (iv.bls▸hp)) ZBn
 .show h.elim
def mL (te:TEA):TEA:=λs M q=>te s M λx M1=>match x with
 | .ref l=>∃xs,M1 l=some Ps/\∀p,M1 p=none->q Pw (ZI M1 p)
 | _=>False
def cj7 {p p' pos pos':Pos}(hc:X.calm=true)(hgl:Zr "list")(hml:Iw "list" = none)(hgr:Zr "reversed")(hmr:Iw "reversed" = none)(he:WR)
  (h1:No (OY [ZDk [e]]=(false,eval (ZDk [e]) X.env)::WP)) (h2:No ((ZLJ).any (·.1)=false))
  (h3:No (OY [e]=(false,eval e X.env)::WP)) (h4:No ((FN pos' WP).any (·.1)=false)):AE G X (ZBu "list" p [ZDk [e]]) (mL te):=
 PE.imp (aw2 hc hgl hml hgr hmr he h1 h2 h3 h4) λσ H Q ⟨s,M,q,R,h,f⟩=>⟨s,M,_,R,h,λx M1 v H1 h1 i1 m1 k1=>by
  split at h1
  .let⟨xs,e,h1⟩:=h1;let⟨vs,hp,iv⟩:=ZJY;show B0 _ vs i1 hp ZCl;let⟨z1,z2⟩:=m1.newL hn iv.rev;show ZF9 (h1 p (m1.none hn)) (DD z2)
  .show h1.elim⟩
abbrev TOA:=SA->MA->(Oi->MA->Prop)->Prop
inductive upO (G:G3) (t:TOA) (σ:L2.St) (H:Hp) (Q:Option Int->Hp->Prop):Prop
 | mk (s:SA) (M:MA) (q:Oi->MA->Prop) (R:ZHl) (h:t s M q) (f:∀o M' H',q o M'->Tu M' H'->Sd->Q o H')
def PO.imp {o:Sy}{t t':TO}(h:PO X o t')(k:∀σ H Q,t σ H Q->t' σ H Q):PO X o t:=EN (h pins s σ H Q I Zd)
def aoN:TOA:=IK (q none M)
def aoS (te:TEA):TOA:=λs M q=>te s M λx M1=>match x with
 | .int i=>q ZCP M1
 | _=>False
def jc:Ut X none G aoN:=PO.imp by9 λσ H Q ⟨s,M,q,R,h,f⟩=>f _ _ _ h R.hs QF
def jh (he:AE G X e te):PO X (some e) (upO G (aoS te)):=PO.imp (by8 he) λσ H Q ⟨s,M,q,R,h,f⟩=>⟨s,M,_,R,h,λx M1 v H1 h1 i1 m1 k1=>by
 split at h1
 .show U6 i1 (f _ _ _ h1 m1 k1)
 .show h1.elim⟩
def bN (xs:Oe)(lo hi:Oi):Oe:=(Dp ZK1).take (ZLD - ZK1)
def IsL.cut {xs:Oe}(h:U3)(lo hi:Oi):Z6 (bN xs lo hi) (gJ vs lo hi):=by
 unfold bN gJ;rw[h.len];show (h.drop _).take _
def rSl:A->Option Int->Option Int->MA->KA->Prop:=λx lo hi M q=>match x with
 | .ref l=>∃xs,M l=some Ps/\∀p,M p=none->q Pw (ZBg p (bN xs lo hi))
 | _=>False
def aSl (te:TEA)(tl th:TOA):TEA:=DZ (te s M (DB (tl s M1 λl M2=>th s M2 λu M3=>rSl x l u M3 q)))
def ae6 {lo hi:Sy}{tl th:TOA}(he:WR)(hl:Ut X lo G tl)(hu:Ut X hi G th):RN (ZHu e hi none p2) (aSl te tl th):=
 PE.imp (ab7 a64 he hl hu) λσ H Q ⟨s,M,q,R,h,f⟩=>⟨s,M,_,R,h,λx M1 v H1 h1 i1 m1 k1=>⟨s,M1,_,R.to k1 m1,h1,λl M2 H2 h2 m2 k2=>⟨s,M2,_,R.to (k1.trans k2) m2,h2,λu M3 H3 h3 m3 k3=>by
  have kk:=ZC9;unfold rSl at h3;split at h3
  .have ex:=i1;let⟨xs,e,h3⟩:=h3;let⟨vs,hp,iv⟩:=m3.lst e;show B0 _ vs ex S4 ZCl;let⟨z1,z2⟩:=m3.newL hn (iv.cut l u);show ZF9 (h3 p (m3.none hn)) ZKj
  .show h3.elim⟩⟩⟩
def mH (G:G3)(te:TEA)(tl th:TOA):TEA:=λs M q=>te s M λx M1=>tl s M1 λl M2=>th s M2 λu M3=>match x with
 | .ref a=>∃ns,G.scr=some (a,ns)/\∀p,M3 p=none->q Pw (Nu M3 p (bN PQ l u))
 | _=>False
def a92 {H:Hp}:∀ns:List Int,Z6 PQ P2
 | []=>rfl
 | n::ns=>⟨.int n,_,rfl,rfl,a92 ns⟩
def bi3 {lo hi:Sy}{tl th:TOA}(hK:X.K=G.K)(he:WR)(hl:Ut X lo G tl)(hu:Ut X hi G th):RN (ZHu e hi none p2) (mH G te tl th):=
 PE.imp (ab7 a64 he hl hu) λσ H Q ⟨s,M,q,R,h,f⟩=>⟨s,M,_,R,h,λx M1 v H1 h1 i1 m1 k1=>⟨s,M1,_,R.to k1 m1,h1,λl M2 H2 h2 m2 k2=>⟨s,M2,_,R.to (k1.trans k2) m2,h2,λu M3 H3 h3 m3 k3=>by
  have kk:=ZC9;split at h3
  .have ex:=i1;let⟨ns,e,h3⟩:=h3;show B0 _ P2 ex ?_ ZCl
   .rw[hK];rcases m3.scr _ _ e with⟨h1,_⟩|h1
    .show CD h1
    .show ZFq
   .let⟨z1,z2⟩:=m3.newL hn ((a92 ns).cut l u);show ZF9 (h3 p (m3.none hn)) ZKj
  .show h3.elim⟩⟩⟩
def b71 {H:Hp}:∀{xs:List A} {vs:List V},U3->Z6 Zz (ev vs)
 | [],_,h=>by rw[h];rfl
 | [_],_,⟨v,r,e,h,t⟩=>by rw[show r=_ from t] at e;subst e;show⟨v,[],rfl,h,rfl⟩
 | _::_::_,_,⟨v,r,e,h,w,r',e',h',t⟩=>by subst e e';show⟨v,_,rfl,h,b71 t⟩
def mJ (te:TEA)(tl th ts:TOA):TEA:=λs M q=>te s M λx M1=>tl s M1 λl M2=>th s M2 λu M3=>ts s M3 λg M4=>match x,l,u,g with
 | .ref a,some k,none,some 2=>(k=0\/k=1)/\∃xs,M4 a=some Ps/\∀p,M4 p=none->q Pw (Nu M4 p (ev Ya))
 | _,_,_,_=>False
set_option tactic.hygienic true in
def ai9 {lo hi:Sy}{tl th ts:TOA}(he:WR)(hl:Ut X lo G tl)(hu:Ut X hi G th)(hg:Ut X ZHD G ts):RN (ZHu e hi ZHD p2) (mJ te tl th ts):=
 PE.imp (bd7 he hl hu hg) λσ H Q ⟨s,M,q,R,h,f⟩=>⟨s,M,_,R,h,λx M1 v H1 h1 i1 m1 k1=>⟨s,M1,_,R.to k1 m1,h1,λl M2 H2 h2 m2 k2=>⟨s,M2,_,R.to (k1.trans k2) m2,h2,λu M3 H3 h3 m3 k3=>⟨s,M3,_,R.to (k1.trans (k2.trans k3)) m3,h3,λg M4 H4 h4 m4 k4=>by
  have kk:=Xs (Ie k4);split at h4
  .let⟨hk,xs,e,h4⟩:=h4;rename_i k;let⟨vs,hp,iv⟩:=m4.lst e;show⟨_,vs,k.toNat,i1,by congr 1;lia,rfl,rfl,Ab,S4,ZCl⟩;let⟨z1,z2⟩:=m4.newL hn (b71 (iv.drop k.toNat));show ZF9 (h4 p (m4.none hn)) ZKj
  .show h4.elim⟩⟩⟩⟩
def mI (te:TEA)(tl th ts:TOA):TEA:=λs M q=>te s M λx M1=>tl s M1 λl M2=>th s M2 λu M3=>ts s M3 λg M4=>match x,l,u,g with
 | .ref a,none,none,some (-1)=>∃xs,M4 a=some Ps/\∀p,M4 p=none->q Pw (ZI M4 p)
 | _,_,_,_=>False
def yf {lo hi:Sy}{tl th ts:TOA}(he:WR)(hl:Ut X lo G tl)(hu:Ut X hi G th)(hg:Ut X ZHD G ts):RN (ZHu e hi ZHD p2) (mI te tl th ts):=
 PE.imp (bd6 he hl hu hg) λσ H Q ⟨s,M,q,R,h,f⟩=>⟨s,M,_,R,h,λx M1 v H1 h1 i1 m1 k1=>⟨s,M1,_,R.to k1 m1,h1,λl M2 H2 h2 m2 k2=>⟨s,M2,_,R.to (k1.trans k2) m2,h2,λu M3 H3 h3 m3 k3=>⟨s,M3,_,R.to (k1.trans (k2.trans k3)) m3,h3,λg M4 H4 h4 m4 k4=>by
  have kk:=Xs (Ie k4);split at h4
  .let⟨xs,e,h4⟩:=h4;let⟨vs,hp,iv⟩:=m4.lst e;show ZHT _ vs i1 rfl rfl S4 ZCl;let⟨z1,z2⟩:=m4.newL hn iv.rev;show ZF9 (h4 p (m4.none hn)) ZKj
  .show h4.elim⟩⟩⟩⟩
inductive upM (G:G3) (r:A->List A->MA->KA->Prop) (x:V) (vs:List V) (H:Hp) (Q:VK):Prop
 | mk (a:A) (as:Oe) (M:MA) (q:KA) (ia:SW a x) (is:QB H as) (hs:Ww) (h:r a as M q) (f:Fin G H q Q)
def aLM (r:A->Oe->MA->KA->Prop)(to:TEA)(tr:TAA):TEA:=DZ (to s M (DB ((∃l xs,x=On/\ZGx=Ou)/\tr s M1 λvs M2=>r x vs M2 q)))
def MtR.imp {id:String}{r r':V->Om->Hp->VK->Prop}(h:ZDH r')(k:∀x vs H Q,r x vs H Q->r' x vs H Q):ZDH r:=λpins s σ H x xs v us Q I r1 r2 q=>h pins s σ H x xs v us Q I r1 r2 ZKh
def jv {o:Expr}{name:Str}{apos cpos:Pos}{id:String}{r:A->Oe->MA->KA->Prop}(slot:Slot "list" name id)(hty:Zv=Gx RG)(hm:ZDH (upM G r))(ho:RN o to)(ha:AA G X (e::es) tr)
  (hbase:No (ZFz o name Zk=Zk))
  (hfew:autoParam (((backTo cpos (starEach (e::es) X.env)).all (λx=>!x.1) && (backToKw cpos (keywordEach [] X.env)).all (λx=>x.1.isSome)
   && decide ((e::es).length+([]:List Keyword).length+(if ([]:List Keyword).isEmpty then 0 else 1)<30))=true) zaR)
  (hline:No ((apos.endLine == cpos.line)=true)) (hs:No (O0 (e::es)=(false,eval e X.env)::SF)) (hplain:No ((FN cpos SF).any (·.1)=false)) :
  AE G X (ZAc (ZDe o name) (e::es) cpos) (aLM r to tr):=
 PE.imp (cl6 PySem.F.plainAttrs_list slot hty hm ho ha hbase hfew hline hs hplain) λσ H Q ⟨s,M,q,R,h,f⟩=>⟨s,M,_,R,h,λx M1 v H1 h1 i1 m1 k1=>by
  let⟨⟨l,xs,rfl,e⟩,h1⟩:=h1;let⟨vs,hp,iv⟩:=ZJY;rw[i1];show⟨.inl ⟨rfl,vs,SqL.of hp⟩,s,M1,_,R.to k1 m1,h1,λys M2 ws H2 h2 i2 m2 k2=>⟨.ref l,ys,M2,q,rfl,i2,m2,h2,f.from (k1.trans k2)⟩⟩⟩
def bV:A->List A->MA->KA->Prop:=λx vs M q=>match x,vs with
 | .ref l,[y]=>∃xs,M l=some Ps/\xs.length<sizeLine/\q .non (ZHv (xs++[y]))
 | _,_=>False
def dt:ZDG "list.append" (upM G bV):=MtR.imp ah5 λx vs H Q ⟨a,as,M,q,ia,is,hs,h,f⟩=>by
 unfold bV at h;split at h
 .let⟨xs,e,hl,h⟩:=h;let⟨ws,hp,iv⟩:=ZCj;let⟨v,r,rfl,j1,j2⟩:=is;rw[j2];let⟨z1,z2⟩:=Mt e (iv.app (IsL.one j1));show IZ _ ws v ia rfl hp (by rw[iv.len];show hl) ZLi
 .show h.elim
def eO:A->List A->MA->KA->Prop:=λx vs M q=>match x,vs with
 | .ref l,[y]=>∃xs ys,M l=some Ps/\itm M y=some ys/\xs.length+ys.length<=100000/\q .non (ZHv (xs++ys))
 | _,_=>False
set_option tactic.hygienic true in
def yd:ZDG "list.extend" (upM G eO):=MtR.imp (L2.MtR.or bf4 ay0) λx vs H Q ⟨a,as,M,q,ia,is,hs,h,f⟩=>by
 unfold eO at h;split at h
 .rename_i l y;let⟨xs,ys,e,ey,hl,h⟩:=h;let⟨ws,hp,iv⟩:=ZCj;let⟨v,r,rfl,j1,j2⟩:=is;rw[j2];have hz:100000<=sizeLine:=by decide
  cases y with
  | tup zs=>
   cases ey;let⟨p,us,rfl,hq,iu⟩:=j1;let⟨z1,z2⟩:=Mt e (iv.app iu);show Eh ⟨_,p,ws,us,ia,rfl,hp,hq,by rw[iv.len,iu.len];show hl,ZLi⟩
  | ref k=>
   dsimp only[itm] at ey;split at ey
   .rename_i zs eM;cases ey;let⟨us,hq,iu⟩:=Yc;let⟨z1,z2⟩:=Mt e (iv.app iu);rw[show v=_ from j1];show FK ⟨_,k,ws,us,ia,rfl,hp,hq,by rw[iv.len,iu.len];lia,ZLi⟩
   .cases ey
  | _=>cases ey
 .show h.elim
end
def aH (kvs:Au (A×A))(k:A):BO A:=(kvs.find? (B5 (Cd (p.1=k)))).map (·.2)
def putA (kvs:Au (A×A))(k x:A):Au (A×A):=Ak ((Tb).isSome) (kvs.map (B5 (Ak (p.1=k) ((p.1,x)) p))) (kvs++[(k,x)])
def aQ:Nat->A->Prop
 | 0,k=>(kA k).isSome=true
 | m+1,k=>hk (m+1) k=true
def al0 {a b:A}{k:Key}(h:kA a=YO)(g:kA b=YO):a=b:=by
 cases a <;> cases b <;> simp[kA] at h g <;> subst h <;> simp_all
def ah7 {p:A×A}{ps:Au (A×A)}{k:A}:aH (p::ps) k=Ak (p.1=k) (Af p.2) (aH ps k):=by
 unfold aH;rw[List.find?_cons];by_cases h:p.1=k
 .simp_all
 .rw[decide_eq_false h,if_neg h]
def KVR.at {H:Hp}{k:A}{kk:Key}(hk:kA k=some kk):∀{kvs:List (A×A)} {vs:List (Key×Value)},KVR H kvs vs->match aH kvs k with
  | some x=>∃u v,valueAt vs kk=some u/\Is H x v/\RelV v u
  | none=>valueAt vs kk=none
 | [],_,h=>by rw[h];rfl
 | p::ps,_,⟨k',u,t,e,e1,⟨v,h1,h2⟩,g⟩=>by
  subst e;rw[ah7];unfold valueAt;rw[List.find?_cons];by_cases z:p.1=k
  .rw[if_pos z];have:k'=kk:=by simp_all
   subst this;simp only[decide_true];show Pf u v h1 h2
  .rw[if_neg z];have:¬k'=kk:=λz'=>z (al0 e1 (by rw[z'];show hk));simp only[this,decide_false];show KVR.at hk g
def HVR.at {H:Hp}{m:Nat}{k:A}:∀{kvs:List (A×A)} {xs:List (A×Addr×Value)},HVR H m kvs xs->match aH kvs k with
  | some x=>∃p v,atKey xs k=some p/\Is H x v/\RelV v p.2
  | none=>atKey xs k=none
 | [],_,h=>by rw[h];rfl
 | p::ps,_,⟨b,u,t,e,e1,e2,⟨v,h1,h2⟩,g⟩=>by
  subst e;rw[ah7];unfold atKey;rw[List.find?_cons];by_cases z:p.1=k
  .rw[if_pos z];simp only[z,decide_true];show Pf ((b,u)) v h1 h2
  .simp only[z,decide_false];show HVR.at g
def KVR.mapPut {H:Hp}{k x:A}{kk:Key}{v:V}{u:Value}(hk:kA k=Af kk)(i:ZC8)(r:UA):∀{kvs:List (A×A)} {vs:List (Key×Value)},ZIL H vs->KVR H (Xu (Ak (p.1=k) ((p.1,x)) p)) (vs.map λkv=>Ak (kv.1=kk) ((kv.1,u)) kv)
 | [],_,h=>by rw[h];rfl
 | p::ps,_,⟨k',u',t,e,e1,h1,g⟩=>by
  subst e;rw[List.map_cons,List.map_cons];by_cases z:p.1=k
  .have:k'=kk:=by simp_all
   rw[if_pos z,if_pos this];show Cu k' u _ rfl e1 (BH v i r) (KVR.mapPut hk i r g)
  .have:¬k'=kk:=λz'=>z (al0 e1 (by rw[z'];show hk));rw[if_neg z,if_neg this];show Cu k' u' _ rfl e1 h1 (KVR.mapPut hk i r g)
def KVR.app {H:Hp}{k x:A}{kk:Key}{v:V}{u:Value}(hk:kA k=Af kk)(i:ZC8)(r:UA):∀{kvs:List (A×A)} {vs:List (Key×Value)},ZIL H vs->KVR H (kvs++[(k,x)]) (vs++[(kk,u)])
 | [],_,h=>by rw[h];show⟨kk,u,[],rfl,hk,⟨v,i,r⟩,rfl⟩
 | p::ps,_,⟨k',u',t,e,e1,h1,g⟩=>by subst e;show⟨k',u',_,rfl,e1,h1,KVR.app hk i r g⟩
variable {u:Value}
def KVR.put {k x:A}{kk:Key}{kvs:Au (A×A)}{vs:Au (Key×Value)}(hk:kA k=Af kk)(i:ZC8)(r:UA)(h:ZIL H vs):KVR H (Tv k x) (stored vs kk u):=by
 have a:=h.at hk;unfold putA stored;have e:vs.any (λkv=>Cd (kv.1=kk))=(valueAt vs kk).isSome:=by
  unfold valueAt;rw[Option.isSome_map,Bool.eq_iff_iff,List.find?_isSome,List.any_eq_true]
 rw[e];cases z:aH kvs k with
 | none=>rw[z] at a;rw[a];show h.app hk i r
 | some y=>
  rw[z] at a;let⟨u',v',a,_⟩:=a;rw[a];show h.mapPut hk i r
def HVR.mapPut {H:Hp}{m:Nat}{k x:A}{v:V}{u:Value}(i:ZC8)(r:UA):∀{kvs:List (A×A)} {xs:List (A×Addr×Value)},ZGs m xs->ZGr m (Xu (Ak (p.1=k) ((p.1,x)) p)) (Ff (putAt k u))
 | [],_,h=>by rw[h];rfl
 | p::ps,_,⟨b,u',t,e,e1,e2,h1,g⟩=>by
  subst e;rw[List.map_cons,List.map_cons];unfold putAt;by_cases z:p.1=k
  .rw[if_pos z,if_pos z];show ZHT b u _ e1 e2 (BH v i r) (HVR.mapPut i r g)
  .rw[if_neg z,if_neg z];show ZHT b u' _ e1 e2 h1 (HVR.mapPut i r g)
def HVR.app {H:Hp}{m:Nat}{k x:A}{b:Addr}{v:V}{u:Value}(hk':hk m k=true)(ik:SW k V9)(i:ZC8)(r:UA):∀{kvs:List (A×A)} {xs:List (A×Addr×Value)},ZGs m xs->ZGr m (kvs++[(k,x)]) (xs++[(k,b,u)])
 | [],_,h=>by rw[h];show⟨b,u,[],rfl,hk',ik,⟨v,i,r⟩,rfl⟩
 | p::ps,_,⟨b',u',t,e,e1,e2,h1,g⟩=>by subst e;show⟨b',u',_,rfl,e1,e2,h1,HVR.app hk' ik i r g⟩
def HVR.put {m:Nat}{k x:A}{b:Addr}{kvs:Au (A×A)}{xs:Au (A×Addr×Value)}(hk':hk m k=true)(ik:SW k V9)(i:ZC8)(r:UA)(h:ZGs m xs):ZGr m (Tv k x) (storedH xs k b u):=by
 have a:=h.at (k:=k);unfold putA storedH;cases z:aH kvs k with
 | none=>rw[z] at a;rw[a];show h.app hk' ik i r
 | some y=>
  rw[z] at a;let⟨u',v',a,_⟩:=a;rw[a];show h.mapPut i r
def KVR.len {H:Hp}:∀{kvs:List (A×A)} {vs:List (Key×Value)},ZIL H vs->vs.length=kvs.length
 | [],_,h=>by rw[h];rfl
 | _::_,_,⟨_,_,_,e,_,_,g⟩=>by rw[e,List.length_cons,List.length_cons,KVR.len g]
def HVR.len {H:Hp}{m:Nat}:∀{kvs:List (A×A)} {vs:List (A×Addr×Value)},ZGs m vs->vs.length=kvs.length
 | [],_,h=>by rw[h];rfl
 | _::_,_,⟨_,_,_,e,_,_,_,g⟩=>by rw[e,List.length_cons,List.length_cons,HVR.len g]
def ab6 (kvs:Au (A×A))(k x:A):(Tv k x).length<=kvs.length+1:=by
 unfold putA;split
 .simp
 simp_all
variable {h:Heap}
def bq7 (ok:HOk P w H h):∀(n:Nat) {k:A} {v:V} {u:Value},hk n k=true->Xg k->UA->VI h k u:=by
 intro n
 induction n with
 | zero=>
  intro k v u hk' i r;let⟨j,rfl⟩:=vw hk';rw[i] at r;show r
 | succ n ih=>
  intro k v u hk' i r;let⟨xs,rfl,hx⟩:=qy hk';let⟨a,vs,rfl,e,l⟩:=i;cases r;let⟨hz0,its,rv,ht⟩:=(ok a _ e)
  show Pf a its ht ?_;clear ht e hk' hz0
  induction xs generalizing vs its with
  | nil=>
   have:=l;subst this;cases rv;rfl
  | cons x xs ihx=>
   let⟨v,r,rfl,h1,h2⟩:=l;cases rv with
   | cons r1 r2=>show⟨_,_,rfl,ih (hx x Aq) h1 r1,ihx (Cv (hx z (by simp[hz]))) _ h2 _ r2⟩
variable {a:Addr}
def DE.ok (e:ZKN=Nd):L5 P w H h a (Ze a o):=BH e (A3 o e) (λy_ y_ e1 k=>k _ e1)
variable {Q:Value->Shared->Prop}{X:Cx}{pins:Au (Addr×Obj)}{σ:L2.St}{s:Shared}{y:V}
section
variable {A':Around}{E:Value->Shared->Prop}{kvs:Au (A×A)}
def Hs.dct (hs:Ww)(e:ZP=ZBC):Vj=Af (Ze a o)/\(a == sysModules)=false/\kvs.length<=sizeLine/\ZGt G.w H n o kvs:=hs.obj a _ e
def Inv.de (I:QO)(e:Vj=Af (Ze a o)):BU a=Nd:=(Dm a e).1
def DctF.obj (h:DctF P w H n o kvs):o.ExactDict/\∃es ep,o.data=Zg/\es.size=kvs.length:=by
 cases n with
 | zero=>
  let⟨vs,⟨h1,es,ep,h2,_,h3,_⟩,k⟩:=h;show B0 h1 es ep h2 (by rw[<-k.len,<-h3.length,Array.length_toList])
 | succ m=>
  let⟨hm,vs,⟨h1,es,ep,h2,h3,_⟩,k⟩:=h;show B0 h1 es ep h2 (by rw[<-k.len,<-Array.length_toList,h3,List.length_map])
def bi7 (ok:ZHh H s.heap){m:Nat}:∀{kvs:List (A×A)} {xs:List (A×Addr×Value)},ZGs (m+1) xs->∀x∈xs,hk (m+1) x.1=true/\VI s.heap x.1 (A5 x.2.1)
 | [],_,h,x,hx=>by rw[h] at hx;cases hx
 | p::ps,_,⟨b,u,t,e,e1,e2,_,g⟩,x,hx=>by
  subst e
  rcases List.mem_cons.mp hx with rfl | hx
  .show A3 e1 (bq7 ok _ e1 e2 rfl)
  .show bi7 ok g x hx
def ah9 {k:A}(hP:X.prog=G.P)(hw:X.w=G.w)(I:QO)(hd:Vj=Af (Ze a o))(hD:ZGt G.w H n o kvs)(hk':aQ n k)(ik:SW k y)(ry:ZC1) :
  (∃kk vs,n=0/\kA k=Af kk/\(ZGR).is kk u=true/\s.heap.DictOf ZGR a vs/\ZIL H vs)\/
  ∃m b,∃(hm:m<=6) (xs:Au (A×Addr×Value)),n=m+1/\hk (m+1) k=true/\u=.ref b/\Is H k V9/\(kd m hm X.prog X.w).is s.heap k b/\s.heap.DictOfH (kd m hm X.prog X.w) a xs/\HVR H (m+1) kvs xs:=by
 have ho:=MJ I hd;rw[<-hP,<-hw] at hD;cases n with
 | zero=>
  let⟨vs,⟨h1,es,ep,h2,h3,h4,h5⟩,kr⟩:=hD;let⟨kk,e⟩:=KD hk';show FK (OD kk vs e ?_ (IV o es ep ho h1 h2 h3 h4 h5) kr);cases k with
  | int i=>
   cases e;rw[ik] at ry;let⟨t,rfl⟩:=ry;show aq1 _ _ i t
  | str x=>
   cases e;rw[ik] at ry;let⟨t,rfl⟩:=ry;show aq0 _ _ x t
  | _=>cases e
 | succ m=>
  let⟨hm,xs,⟨h1,es,ep,h2,h3,h4⟩,kr⟩:=hD;let⟨ks,e,_⟩:=qy hk';subst e;let⟨b,vs,rfl,hb,iv⟩:=ik;cases ry;have ik':SW (F0 ks) V9:=Pf b vs hb iv;show Eh ⟨m,b,hm,xs,rfl,hk',rfl,ik',A3 hk' (bq7 I.hok _ hk' ik' rfl),IV o es ep ho h1 h2 h3 (bi7 I.hok kr) h4,kr⟩
def ci6 {k x:A}(hu:A'.units+64<cLine)(hP:X.prog=G.P)(hw:X.w=G.w)(I:QO)(hs:Ww)(e:ZP=ZBC)(hk':aQ n k)(ik:SW k y)(ry:ZC1)(hx:Tb=OZ) :
  ∃w v,Is H x v/\RelV v w/\∀{Q:Value->Shared->Prop},(∀s',QN s'->Q w s')->wpAny N6 A' (NG PK u) Q E s:=by
 let⟨hd,hsm,_,hD⟩:=ZA2;rcases ah9 hP hw I hd hD hk' ik ry with⟨kk,vs,_,ek,is,dd,kr⟩|⟨m,b,hm,xs,_,hkb,rfl,ikb,is,dd,kr⟩
 .have:=ZB6;rw[hx] at this;let⟨w,v,h1,h2,h3⟩:=this;show B0 w v h2 h3 (CG (wpAny_getItem_of is dd.mapOf h1 (h _ C8)))
 .have:=JA k;rw[hx] at this;let⟨p,v,h1,h2,h3⟩:=this;show B0 _ v h2 h3 (CG (wpAny_getItem_heap (show A'.units+1+(m+1)<cLine by lia) is dd h1 (h _ C8)))
def cr3 {k:A}(hu:A'.units+64<cLine)(hP:X.prog=G.P)(hw:X.w=G.w)(I:QO)(hs:Ww)(e:ZP=ZBC)(hk':aQ n k)(ik:SW k y)(ry:ZC1)
  (h:∀s',QN s'->Q (.bool (Tb).isSome) s'):wpAny N6 A' (compareOp .In u PK) Q E s:=by
 let⟨hd,hsm,_,hD⟩:=ZA2;rcases ah9 hP hw I hd hD hk' ik ry with⟨kk,vs,_,ek,is,dd,kr⟩|⟨m,b,hm,xs,_,hkb,rfl,ikb,is,dd,kr⟩
 .have:=ZB6;show wpAny_in_of is hsm dd.mapOf ?_;have e:(valueAt vs kk).isSome=(Tb).isSome:=by
   cases z:aH kvs k with
   | none=>rw[z] at this;rw[this];rfl
   | some x=>rw[z] at this;let⟨_,_,h1,_⟩:=this;rw[h1];rfl
  rw[e];show h _ C8
 .have:=JA k;show wpAny_in_heap (show A'.units+1+(m+1)<cLine by lia) is hsm dd ?_;have e:(Z5 k).isSome=(Tb).isSome:=by
   cases z:aH kvs k with
   | none=>simp_all
   | some x=>rw[z] at this;let⟨_,_,h1,_⟩:=this;rw[h1];rfl
  rw[e];show h _ C8
def bt9 {k:A}(hu:A'.units+64<cLine)(hP:X.prog=G.P)(hw:X.w=G.w)(I:QO)(hs:Ww)(e:ZP=ZBC)(hk':aQ n k)(ik:SW k y)(ry:ZC1)
  (h:∀s',QN s'->Q (.bool (!(Tb).isSome)) s'):wpAny N6 A' (compareOp .NotIn u PK) Q E s:=by
 let⟨hd,hsm,_,hD⟩:=ZA2;rcases ah9 hP hw I hd hD hk' ik ry with⟨kk,vs,_,ek,is,dd,kr⟩|⟨m,b,hm,xs,_,hkb,rfl,ikb,is,dd,kr⟩
 .have:=ZB6;show wpAny_notIn_of is hsm dd.mapOf ?_;have e:(valueAt vs kk).isSome=(Tb).isSome:=by
   cases z:aH kvs k with
   | none=>rw[z] at this;rw[this];rfl
   | some x=>rw[z] at this;let⟨_,_,h1,_⟩:=this;rw[h1];rfl
  rw[e];show h _ C8
 .have:=JA k;show wpAny_notIn_heap (show A'.units+1+(m+1)<cLine by lia) is hsm dd ?_;have e:(Z5 k).isSome=(Tb).isSome:=by
   cases z:aH kvs k with
   | none=>simp_all
   | some x=>rw[z] at this;let⟨_,_,h1,_⟩:=this;rw[h1];rfl
  rw[e];show h _ C8
def Hs.setD {o':Obj}{kvs':Au (A×A)}(hs:Ww)(e:ZP=ZBC)(hl:kvs'.length<=sizeLine)(hD:ZGt G.w H n o' kvs'):Tu (JJ M a (ZFw n kvs')) (PR a (Ze a o'))/\Gk H (PR a (Ze a o')):=by
 let⟨hd,hsm,_,_⟩:=ZA2;have k:Gk H (PR a (Ze a o')):=Keep.set hd (Fe (nomatch z));show A3 (hs.put k (Vo _ e) (By c6 hsm hl (hD.keep k))) k
def ci5 {k x:A}{r:Value}{Q:Unit->Shared->Prop}(hu:A'.units+64<cLine)(hP:X.prog=G.P)(hw:X.w=G.w)(I:QO)(hs:Ww)(e:ZP=ZBC)(hk':aQ n k)(ik:SW k y)(ry:ZC1)(ix:ZC8)(rv:F3 v r)(hl:kvs.length<sizeLine)
  (h:∀o' s',P5 (PR a (Ze a o')) s'->Tu (JJ M a (ZFw n (Tv k x))) (PR a (Ze a o'))->Gk H (PR a (Ze a o'))->Q () s'):wpAny N6 A' (setItem PK u r) Q E s:=by
 let⟨hd,hsm,hle,hD⟩:=ZA2;have hl':(Tv k x).length<=sizeLine:=by have:=ab6 kvs k x;lia
 rcases ah9 hP hw I hd hD hk' ik ry with⟨kk,vs,rfl,ek,is,dd,kr⟩|⟨m,b,hm,xs,rfl,hkb,rfl,ikb,is,dd,kr⟩
 .show wpAny_setItem_pairs (hsz:=by rw[kr.len];show hle) is dd ZFR;let⟨o',es,ep,ho,h1,h2,h3,h4,h5⟩:=dd';have hD':ZGt G.w H 0 o' (Tv k x):=by rw[<-hP,<-hw];show⟨_,⟨h1,es,ep,h2,h3,h4,h5⟩,kr.put ek ix rv⟩
  let⟨z1,z2⟩:=hs.setD e hl' hD';show h o' _ (al7 I (by rw[hd];show True.intro) sb (A3 o' ho) ZB7) z1 z2
 .show wpAny_setItem_heap (hsz:=by rw[kr.len];show hle) (show A'.units+1+(m+1)<cLine by lia) is dd ZFR;let⟨o',es,ep,ho,h1,h2,h3,h4,h5⟩:=dd';have hD':ZGt G.w H (m+1) o' (Tv k x):=by show⟨hm,_,⟨h1,es,ep,h2,h3,h5⟩,kr.put hkb ikb ix rv⟩
  let⟨z1,z2⟩:=hs.setD e hl' hD';show h o' _ (al7 I (by rw[hd];show True.intro) sb (A3 o' ho) ZB7) z1 z2
end
section
variable {G:G3}{X:Cx}{e a b c o i f:Expr}{es:Oh}{ta tb tc te to ti tf:TEA}{tA:TTA}{tr:TAA}{pos p2:Pos}
def rDg:RA:=λx k M q=>match x with
 | .ref l=>∃n o kvs v,M l=some (PX n o)/\aQ n k/\aH kvs k=some v/\q v M
 | _=>False
def b52 (hu:X.A.units+64<cLine)(hP:No (X.prog=G.P))(hw:No (X.w=G.w)):ZB2 (ZEE rDg):=by
 intro value slice pins s σ H x y v u Q I rx ry ⟨a,k,M,q,ia,ik,hs,h,f⟩ hsl;unfold rDg at h;split at h
 .let⟨n,o,kvs,z,e,hk',hx,h⟩:=h;rw[ia] at rx;cases rx;let⟨w,v',i',r',get⟩:=ci6  hu hP hw I hs e hk' ik ry hx;have ho:=Inv.de I (ZA2).1;have hT:Km KC "dict":=ZCY ((ZA2).2.2.2.obj.1.1);show subscriptTail_builtinR  hT PySem.F.slot_dict_getitem.lookup (get (LL (Dt rfl v' H I' r' (Bn h i' hs QF)))) hsl
 .show h.elim
def rSub:RA:=λx k M q=>match x with
 | .tup xs=>rIx Qm k M q
 | x=>rIx x k M q\/rDg x k M q
def ar (hu:X.A.units+64<cLine)(hP:No (X.prog=G.P))(hw:No (X.w=G.w)):ZB2 (ZEE rSub):=
 IxR.imp (L2.IxR.or (cr5 ) (b52 hu hP hw)) λx y H Q ⟨a,k,M,q,ia,ik,hs,h,f⟩=>by
  unfold rSub at h;split at h
  .show FK (IV _ k M q ia ik hs h f)
  .rcases h with h|h
   .show FK (IV a k M q ia ik hs h f)
   .show Eh (IV a k M q ia ik hs h f)
def rIn (neg:Bool):RA:=λk x M q=>match x with
 | .ref l=>∃n o kvs,M l=some (PX n o)/\aQ n k/\q (.bl ((Tb).isSome != neg)) M
 | _=>False
def b73 (hu:X.A.units+64<cLine)(hP:No (X.prog=G.P))(hw:No (X.w=G.w)):ZIs .In (rIn false):=by
 intro pins s σ H x y v u Q I rx ry ⟨k,a,M,q,ik,ia,hs,h,f⟩;unfold rIn at h;split at h
 .let⟨n,o,kvs,e,hk',h⟩:=h;rw[ia] at ry;cases ry;show cr3 hu hP hw I hs e hk' ik rx (LL (Py (.bl _) H I' (Bn h (by simp[Is]) hs QF)))
 .show h.elim
def bu9 (hu:X.A.units+64<cLine)(hP:No (X.prog=G.P))(hw:No (X.w=G.w)):ZIs .NotIn (rIn true):=by
 intro pins s σ H x y v u Q I rx ry ⟨k,a,M,q,ik,ia,hs,h,f⟩;unfold rIn at h;split at h
 .let⟨n,o,kvs,e,hk',h⟩:=h;rw[ia] at ry;cases ry;show bt9 hu hP hw I hs e hk' ik rx (LL (Py (.bl _) H I' (Bn h (by simp only[Is];simp) hs QF)))
 .show h.elim
def setD:cL:=λx k v M q=>match x with
 | .ref l=>∃n o kvs,M l=some (PX n o)/\aQ n k/\kvs.length<sizeLine/\∀o',q (Vl l (ZFw n (Tv k v)))
 | _=>False
def bi0 (hu:X.A.units+64<cLine)(hP:No (X.prog=G.P))(hw:No (X.w=G.w)):ZE4 G setD:=by
 intro pins s σ H o i v ov iv u Q I r1 r2 r3 ⟨ao,k,av,M,q,io,ik,iv',hs,h,f⟩;unfold setD at h;split at h
 .let⟨n,ob,kvs,e,hk',hl,h⟩:=h;rw[io] at r1;cases r1;show ci5 hu hP hw I hs e hk' ik r2 iv' r3 hl λo' s' I' z1 z2=>U6 I' (f _ _ (h o') z1 z2)
 .show h.elim
def fH:cL:=λx k v M q=>setL x k v M q\/setD x k v M q
def xz (hu:X.A.units+64<cLine)(hP:No (X.prog=G.P))(hw:No (X.w=G.w)):ZE4 G fH:=
 PSet.imp (PSet.or (bh9 ) (bi0 hu hP hw)) λo i v H Q ⟨ao,k,av,M,q,io,ik,iv',hs,h,f⟩=>by
  rcases h with h|h
  .show FK ⟨ao,k,av,M,q,io,ik,iv',hs,h,f⟩
  .show Eh ⟨ao,k,av,M,q,io,ik,iv',hs,h,f⟩
def mR:TEA:=IK (∃n,n<=7/\∀p o,M p=none->q Pw (Vl p (ZDS n o)))
def ae7:RN (.Dict [] [] pos) mR:=λpins s σ H Q I ⟨s0,M,q,R,⟨n,hn,h⟩,f⟩=>by
 have hb:=LV (BX (BZ I.big));have hp:=S0;have ho:(HB ({ cls:=.type "dict",data:=.dict #[] })).get? s.heap.objs.size=FU ({ cls:=.type "dict",data:=.dict #[] }):=Ow;show wpAny_Dict_empty (Py Nf _ (I.laid    (Fi ZCS) As ZB7) (P4 (h _ { cls:=.type "dict",data:=.dict #[] } (R.hs.none hp)) (R.hs.put (Ck hp) (CD hp) (WC c6 hb Bh)) (Ck hp)));cases n with
 | zero=>show⟨[],⟨⟨rfl,rfl,rfl⟩,#[],0,rfl,λy_ he=>by simp at he,.nil,List.nodup_nil⟩,rfl⟩
 | succ m=>show⟨by simp_all,[],⟨⟨rfl,rfl,rfl⟩,#[],0,rfl,rfl,List.nodup_nil⟩,rfl⟩
def Hs.dty {l:Addr}{o:Obj}{kvs:Au (A×A)}(I:QO)(hs:Ww)(e:Sv=ZBC) :
  s.TypeIs On "dict"/\∀b,Value.ref l=.ref b->∃ob,s.heap.get? b=some ob/\ob.dict=Option.none:=by
 have ho:=Inv.de I (ZA2).1;have hx:=(ZA2).2.2.2.obj.1;show A3 (ZCY hx.1) (λb z=>by cases z;show⟨o,ho,hx.2.1⟩)
def jY (to te tf:TEA):TEA:=DZ (to s M (DB (∃l n o kvs,x=On/\ZGx=ZBC/\te s M1 λk M2=>tf s M2 λz M3=>∃n o kvs,M3 l=ZBC/\aQ n k/\q ((Tb).getD z) M3)))
def bb1 {apos cpos:Pos}(hu:X.A.units+64<cLine)(ho:RN o to)(he:WR)(hf:RN f tf)(m:M2 X o "get" apos e f cpos)(hP:No (X.prog=G.P))(hw:No (X.w=G.w)):RN (Uz (ZDe o "get") [e,f] cpos) (jY to te tf):=by
 intro pins s σ H Q I ⟨s0,M,q,R,h,fin⟩;show wpAny_Call_method m.base m.few m.line PySem.F.plainAttrs_dict PySem.F.slot_dict_get PySem.F.type_dict_get (thn (ho pins s σ H (λv H1=>∃l M1,v=On/\Tu M1 H1/\Gk H H1/\∃n o kvs,ZGx=ZBC/\te s0 M1 λk M2=>tf s0 M2 λz M3=>∃n o kvs,M3 l=ZBC/\aQ n k/\q ((Tb).getD z) M3) I (Dt s0 M _ R h (CT ?_))) λu s1 hh=>?_)
 .let⟨l,n,o,kvs,rfl,e1,h1⟩:=h1;show⟨l,M1,i1,m1,k1,n,o,kvs,e1,h1⟩
 .let⟨x,H1,I1,rx,l,M1,ex,m1,k1,n,ob,kvs,e1,h1⟩:=hh;subst ex;obtain rfl:u=Value.ref l:=rx;let⟨t1,t2⟩:=Hs.dty I1 m1 e1;show Qs t1 t2;rw[m.trees];show Calls.callWith_builtin rfl (Calls.evalArgs_plain (Calls.spliced_cons (thn (he pins s1 σ H1 (λv H2=>∃k M2,Is H2 k v/\Hs G M2 H2/\Keep H1 H2/\tf s0 M2 λz M3=>∃n o kvs,M3 l=some (.dct n o kvs)/\aQ n k/\q ((aH kvs k).getD z) M3) I1 ⟨s0,M1,_,R.to k1 m1,h1,λk M2 v H2 h2 i2 m2 k2=>⟨k,M2,i2,m2,k2,h2⟩⟩) λiv s2 ⟨y,H2,I2,ry,k,M2,i2,m2,k2,h2⟩=>
   Calls.spliced_cons (thn (hf pins s2 σ H2 (λv H3=>∃z M3,Is H3 z v/\Hs G M3 H3/\Keep H2 H3/\∃n o kvs,M3 l=some (.dct n o kvs)/\aQ n k/\q ((aH kvs k).getD z) M3) I2 ⟨s0,M2,_,R.to (k1.trans k2) m2,h2,λz M3 v H3 h3 i3 m3 k3=>⟨z,M3,i3,m3,k3,h3⟩⟩) λfv s3 hh_=>Calls.spliced_nil ?_))))
  let⟨z,H3,I3,rz,za,M3,i3,m3,k3,n3,o3,kvs3,e3,hk3,h3⟩:=hh_;let⟨hd,hsm,_,hD⟩:=m3.dct e3;have kk:=ZC9;rcases ah9 hP hw I3 hd hD hk3 (i2.keep k3) ry with⟨kk',vs,_,ek,is,dd,kr⟩|⟨mm,b,hm,xs,_,hkb,rfl,ikb,is,dd,kr⟩
  .show ZEI PySem.F.slot_dict_get dd.typeIs IX (meets_dict_get_default ZGR l is hsm fv) (Qs _ dd.mapOf);have:=ZB6;cases g:aH kvs3 k with
   | none=>rw[g] at this h3;rw[this];show⟨z,H3,I3.tok _,rz,fin _ _ _ _ h3 i3 m3 kk⟩
   | some v=>rw[g] at this h3;let⟨u',v',a1,a2,a3⟩:=this;rw[a1];show⟨v',H3,I3.tok _,a3,fin _ _ _ _ h3 a2 m3 kk⟩
  .show ZEI PySem.F.slot_dict_get dd.typeIs IX (meetsH_dict_get_default (kd mm hm X.prog X.w) l b hsm fv) (Dt ((show X.A.units+1+(mm+1)<cLine by lia)) k xs is dd ?_);have:=JA k;cases g:aH kvs3 k with
   | none=>rw[g] at this h3;rw[this];show⟨z,H3,I3.tok _,rz,fin _ _ _ _ h3 i3 m3 kk⟩
   | some v=>rw[g] at this h3;let⟨u',v',a1,a2,a3⟩:=this;rw[a1];show⟨v',H3,I3.tok _,a3,fin _ _ _ _ h3 a2 m3 kk⟩
def jU (to te tf:TEA):TEA:=λs M q=>to s M λx M1=>∃l n o kvs,x=.ref l/\M1 l=some (PX n o)/\te s M1 λk M2=>tf s M2 λz M3=>∃n o kvs,M3 l=some (PX (n+1) o)/\aQ (n+1) k/\kvs.length<sizeLine/\
 (∀v,Tb=Pm->q v M3)/\(Tb=none->∀o',q z (put M3 l (ZFw (n+1) (kvs++[(k,z)]))))
def bb0 {apos cpos:Pos}(hu:X.A.units+64<cLine)(ho:RN o to)(he:WR)(hf:RN f tf)(m:M2 X o "setdefault" apos e f cpos)(hP:No (X.prog=G.P))(hw:No (X.w=G.w)):RN (Uz (ZDe o "setdefault") [e,f] cpos) (jU to te tf):=by
 intro pins s σ H Q I ⟨s0,M,q,R,h,fin⟩;show wpAny_Call_method m.base m.few m.line PySem.F.plainAttrs_dict PySem.F.slot_dict_setdefault PySem.F.type_dict_setdefault (thn (ho pins s σ H (λv H1=>∃l M1,v=.ref l/\Hs G M1 H1/\Keep H H1/\∃n o kvs,M1 l=some (.dct n o kvs)/\te s0 M1 λk M2=>tf s0 M2 λz M3=>∃n o kvs,M3 l=some (.dct (n+1) o kvs)/\aQ (n+1) k/\kvs.length<sizeLine/\
   (∀v,aH kvs k=some v->q v M3)/\(aH kvs k=none->∀o',q z (put M3 l (.dct (n+1) o' (kvs++[(k,z)]))))) I ⟨s0,M,_,R,h,λx M1 v H1 h1 i1 m1 k1=>?_⟩) λu s1 hh=>?_)
 .let⟨l,n,o,kvs,rfl,e1,h1⟩:=h1;show⟨l,M1,i1,m1,k1,n,o,kvs,e1,h1⟩
 .let⟨x,H1,I1,rx,l,M1,ex,m1,k1,n,ob,kvs,e1,h1⟩:=hh;subst ex;obtain rfl:u=Value.ref l:=rx;let⟨t1,t2⟩:=Hs.dty I1 m1 e1;show Qs t1 t2;rw[m.trees];show Calls.callWith_builtin rfl (Calls.evalArgs_plain (Calls.spliced_cons (thn (he pins s1 σ H1 (λv H2=>∃k M2,Is H2 k v/\Hs G M2 H2/\Keep H1 H2/\tf s0 M2 λz M3=>∃n o kvs,M3 l=some (.dct (n+1) o kvs)/\aQ (n+1) k/\kvs.length<sizeLine/\
    (∀v,aH kvs k=some v->q v M3)/\(aH kvs k=none->∀o',q z (put M3 l (.dct (n+1) o' (kvs++[(k,z)]))))) I1 ⟨s0,M1,_,R.to k1 m1,h1,λk M2 v H2 h2 i2 m2 k2=>⟨k,M2,i2,m2,k2,h2⟩⟩) λiv s2 ⟨y,H2,I2,ry,k,M2,i2,m2,k2,h2⟩=>
   Calls.spliced_cons (thn (hf pins s2 σ H2 (λv H3=>∃z M3,Is H3 z v/\Hs G M3 H3/\Keep H2 H3/\∃n o kvs,M3 l=some (.dct (n+1) o kvs)/\aQ (n+1) k/\kvs.length<sizeLine/\
    (∀v,aH kvs k=some v->q v M3)/\(aH kvs k=none->∀o',q z (put M3 l (.dct (n+1) o' (kvs++[(k,z)]))))) I2 ⟨s0,M2,_,R.to (k1.trans k2) m2,h2,λz M3 v H3 h3 i3 m3 k3=>⟨z,M3,i3,m3,k3,h3⟩⟩) λfv s3 hh_=>Calls.spliced_nil ?_))))
  let⟨z,H3,I3,rz,za,M3,i3,m3,k3,n3,o3,kvs3,e3,hk3,hl3,h3,h4⟩:=hh_;let⟨hd,hsm,hle,hD⟩:=m3.dct e3;have kk:=ZC9;rcases ah9 hP hw I3 hd hD hk3 (i2.keep k3) ry with⟨kk',vs,z0,_⟩|⟨mm,b,hm,xs,z0,hkb,rfl,ikb,is,dd,kr⟩
  .cases z0
  .cases z0;have at':=JA k;show bh4    (show X.A.units+1+(n3+1)<cLine by lia) hsm is dd (by rw[kr.len];show hle) (λp ep tk=>?_) λep h' tk dd' sb=>?_
   .cases g:aH kvs3 k with
    | none=>rw[g] at at';rw[at'] at ep;cases ep
    | some v=>
     rw[g] at at';let⟨p',v',a1,a2,a3⟩:=at';rw[ep] at a1;cases a1;show B0 v' H3 (I3.tok _) a3 (KS (h3 v g) a2 m3 kk)
   .cases g:aH kvs3 k with
    | some v=>simp_all
    | none=>
     let⟨o',es,epp,ho',g1,g2,g3,g4,g5⟩:=dd';have hD':ZGt G.w H3 (n3+1) o' (kvs3++[(k,za)]):=by show⟨hm,_,⟨g1,es,epp,g2,g3,g5⟩,kr.app hkb ikb i3 rz⟩
     let⟨z1,z2⟩:=m3.setD e3 (by rw[List.length_append];show hl3) hD';show B0 z _ (al7 I3 (by rw[hd];show True.intro) sb (A3 o' ho') (DE.ok ho')) rz (KS (h4 g o') (i3.keep z2) z1 ZKj)
end
open PySem.W
def ItD (d:Addr)(o:Obj)(es:Qh)(prs:Bool):It:=
  ⟨λi H=>i<es.size/\H d=some (.ext (DE d o)),
   λi H v H'=>∃e x y,es[i]?=some e/\RelV x e.key/\RelV y e.val/\if prs=true then ∃p,H p=none/\v=.ref p/\H'=upd H p ZLg else v=x/\H'=H,
   λi H=>es.size<=i/\H d=some (.ext (DE d o))⟩
def lB (es:Qh):Prop:=∀e∈es,(∃x,F3 x e.key)/\∃y,F3 y e.val
variable {es:Qh}{ep:Nat}
def bw5 {j:Addr}(hc:o.ExactDict)(hd:o.data=Zg)(re:lB es) :
  Turn P w K tg (ItD d o es false) [j] j (HC (h.IsKeyIter j d i es.size ep)) where
 mem:=Aq
 obj:=λi h st e he=>by
  let⟨o,h1,_,d1⟩:=st
  simp_all
 keep:=HH (ZBM (k j Aq o e))
 item:=by
  intro X hP hw hK hcm i pins s σ H E I hf st ⟨hi,hg⟩;have de:ZGC:=By o (MJ I hg) hc hd;let⟨f0,f1,f2,f3,f4,f5⟩:=ZI3 j;let⟨⟨x,rx⟩,y,ry⟩:=re es[i] ZB8;show a86 st de hi (IH ?_);have I1:=Ud (CA ((sb.2 b hb).trans e)) f0 f1 f3 f4 f5;let⟨o,e,c,dd⟩:=id st';show Ts (a94  e c dd AC (Cu x H I1 rx (Cu (es[i]) x y (Dn hi) rx ry Aq) st' (Cs ((ZDv).1))))
 done:=by
  intro X hP hw hK hcm i pins s σ H E I hf st ⟨hi,hg⟩;subst hP hw hK;have de:ZGC:=By o (MJ I hg) hc hd;let⟨f0,f1,f2,f3,f4,f5⟩:=ZI3 j;show bq2 (Es hcm) st de hi (Hq (OI (Ud (CA (eb b o hb e)) f0 f1 f3 f4 f5)))
 self:=DK (wpAny_pyIter_keyiter st h)
def bw6 {es':Oh}{n1}{pos:Pos}{j:Addr}(hc:o.ExactDict)(hd:o.data=Zg)(re:lB es) :
  Turn P w K (GH es' n1 pos) (ItD d o es true) [j] j (HC (∃u v,Kz h j d i es.size ep u v)) where
 mem:=Aq
 obj:=λi h ⟨u,v,st⟩ e he=>by
  simp_all
 keep:=λi h h' ⟨u,v,st⟩ k=>BH u v (ZAa j st)
 item:=by
  intro X hP hw hK hcm i pins s σ H E I hf ⟨u,v,st⟩ ⟨hi,hg⟩;subst hP hw hK;have de:ZGC:=By o (MJ I hg) hc hd;let⟨⟨x,rx⟩,y,ry⟩:=re es[i] ZB8;show a89 st de (BT Ab) (λhi' h1 a1 a2 a3=>Ts ?_) (BT (by omega));show wpAny_letOwnedTupleGo_items  a1 λh2 s2 b2=>?_;have jl:=BN st;have fr:=S0;show Cu Nf ZLh ?_ rfl (Cu (es[i]) x y (Dn hi) rx ry (by show⟨_,fr,rfl,rfl⟩)) (U6 _ s2) U9
  .show I.turnedT (ch:=[j]) ZKX hf (Ev (Ed jl) a2) rx ry;have n':e≠j:=BT (n (by simp[z]));show Ev n' (a3 e o n' g)
  .have:=(ZDv).1;rw[List.mem_singleton.mp hb] at this ⊢;rw[cj (BZ jl)];show this
 done:=by
  intro X hP hw hK hcm i pins s σ H E I hf ⟨u,v,st⟩ ⟨hi,hg⟩;have de:ZGC:=By o (MJ I hg) hc hd;let⟨f0,f1,f2,f3,f4,f5⟩:=ZI3 j;show a89 st de (A0 (Es hcm)) (BT (by omega)) λy_ h' eb=>OI (Ud (CA (eb b o hb e)) f0 f1 f3 f4 f5)
 self:=λ_ _ _ _ _ ⟨u,v,st⟩ h=>kcp_self st h
def DctF.ents {kvs:Au (A×A)}(h:DctF P w H n o kvs)(hd:o.data=Zg) :
  es.size=kvs.length/\∀(i:Nat) p,kvs[i]?=some p->∃e x y,es[i]?=some e/\RelV x e.key/\RelV y e.val/\Is H p.1 x/\Is H p.2 y:=by
 cases n with
 | zero=>
  let⟨vs,⟨h1,es',ep',h2,h3,h4,_⟩,k⟩:=h;rw[hd] at h2;cases h2;show A3 (by rw[<-k.len,<-h4.length,Array.length_toList]) ZKd;have key:∀{l:List DictEntry} {vs:List (Key×Value)} {kvs:List (A×A)},Pairs (bA P w) l vs->ZIL H vs->∀(i:Nat) p,kvs[i]?=UL->∃e x y,l[i]?=ZJu/\F3 x e.key/\F3 y e.val/\SW p.1 x/\SW p.2 y:=by
   intro l vs kvs pr
   induction pr generalizing kvs with
   | nil=>
    intro kr i p hp;cases kvs with
    | nil=>cases hp
    | cons q qs=>let⟨_,_,_,e,_⟩:=kr;cases e
   | @cons e kv l vs g1 g2 _ ih=>
    intro kr i p hp;cases kvs with
    | nil=>cases kr
    | cons q qs=>
     let⟨k',u,t,e',e1,⟨v,a1,a2⟩,g⟩:=kr;cases e';cases i with
     | succ i=>show ih g i p (by simpa using hp)
     | zero=>
      cases hp;replace a2:RelV v e.val:=by rw[g2];show a2
      rcases gn g1 with⟨z,t,e2,e3⟩|⟨z,t,e2,e3⟩
      .show ZHT e (BR z) v (A3 t e3) a2 ?_ a1;have:p.1=Er z:=al0 e1 (by rw[show k'=_ from e2];rfl);rw[this];rfl
      .show ZHT e (.str z) v (A3 t e3) a2 ?_ a1;have:p.1=A.str z:=al0 e1 (by rw[show k'=_ from e2];rfl);rw[this];rfl
  let⟨e,x,y,a1,a2⟩:=key h4 k i p hp;show B0 e x y Aw a2
 | succ m=>
  let⟨hm,vs,⟨h1,es',ep',h2,h3,_⟩,k⟩:=h;rw[hd] at h2;cases h2;show A3 (by rw[<-k.len,<-Array.length_toList,h3,List.length_map]) ZKd;have key:∀{vs:List (A×Addr×Value)} {kvs:List (A×A)},ZGs (m+1) vs->∀(i:Nat) p,kvs[i]?=UL->∃z y,vs[i]?=Wf/\F3 y z.2.2/\SW p.1 (A5 z.2.1)/\SW p.2 y:=by
   intro vs kvs
   induction kvs generalizing vs with
   | nil=>intro _ i p hp;cases hp
   | cons q qs ih=>
    intro ⟨b,u,t,e,e1,e2,⟨v,a1,a2⟩,g⟩ i p hp;subst e;cases i with
    | zero=>cases hp;show⟨_,v,rfl,a2,e2,a1⟩
    | succ i=>show ih g i p (by simpa using hp)
  let⟨z,y,a1,a2,a3,a4⟩:=key k i p hp;show IZ (entryOfKey (kd m hm P w) z) (A5 z.2.1) y ?_ rfl a2 a3 a4;rw[<-Array.getElem?_toList,h3,List.getElem?_map,a1];rfl
def DctF.relE {kvs:Au (A×A)}(h:DctF P w H n o kvs)(hd:o.data=Zg):lB es:=λe he=>by
 let⟨h1,h2⟩:=h.ents hd;let⟨i,hi,rfl⟩:=Array.mem_iff_getElem.mp he;let⟨e',x,y,a1,a2,a3,_⟩:=h2 i kvs[i] (Ax (by omega));rw[Array.getElem?_eq_getElem hi] at a1;cases a1;show BH (A3 x a2) y a3
section
variable {G:G3}{X:Cx}{e a b c o i f:Expr}{es:Oh}{ta tb tc te to ti tf:TEA}{tA:TTA}{tr:TAA}{pos p2:Pos}
def a68 {a:A}{x:V}(h:SW a x)(r:ZBF)(r':ZC1):SW a y:=by rw[<-r.inj r'];show h
def ar4 {ob:Obj}{kvs:Au (A×A)}{es:Qh}(prs:Bool)(hd:ob.data=Zg) :
  gN G H (ItD d ob es prs) (Xu (Ak (prs=true) (ZHQ p.1 p.2) p.1)) (E4 (M' d=ZBB ob)):=λi M H' kp hs eM=>by
 let⟨h1,_,_,hD⟩:=Hy eM;let⟨es1,es2⟩:=hD.ents hd;show ZHG (A3 Aw h1);rw[List.getElem?_map] at ha;cases z:kvs[i]? with
 | none=>simp_all
 | some p=>
  rw[z] at ha;have ha:Xi (prs=true) (G1 [p.1,p.2]) p.1=a:=BW ha;have hi:=(Ag z).1;let⟨e,x,y,a1,a2,a3,a4,a5⟩:=es2 i p z;show A3 (A3 Aw h1) (λv H'' ⟨e',x',y',b1,b2,b3,b4⟩=>?_);rw[a1] at b1;cases b1;have ix:=a68 a4 a2 b2;have iy:=a68 a5 a3 b3;cases prs with
  | false=>
   let⟨rfl,rfl⟩:=b4;subst ha;show BH G4 hs ix
  | true=>
   let⟨p',hn,rfl,rfl⟩:=b4;subst ha;show⟨Sa,Wc,p',_,rfl,c6,x',[y'],rfl,ix.keep Sa,y',[],rfl,iy.keep Sa,rfl⟩
def iB:RIA:=λx M q=>match x with
 | .ref l=>∃n o kvs,M l=some (PX n o)/\q (Xu p.1) (E4 (Vz=ZBC)) M
 | _=>False
set_option tactic.hygienic true in
def b24:Y1 X (upRI G iB):=λpins s σ H x v R I rx ⟨a,M,q,ia,hs,h,f⟩=>by
 unfold iB at h;split at h
 .rename_i l;let⟨n,o,kvs,e,h⟩:=h;rw[ia] at rx;cases rx;let⟨h1,h2,h3,h4⟩:=ZA2;let⟨g1,es,ep,g2,g3⟩:=h4.obj;have ho:=MJ I h1;show a85 h2 (By o ho g1 g2) ?_;show ZDs s.heap.objs.size [s.heap.objs.size] _ H rfl (I.kept  WF) (bw5 g1 g2 (h4.relE g2)) (Vh _ Ow) U9 (IY h hs QF ?_)
  .rw [List.mem_singleton.mp hb]
   show I.fpOk As S0
  .have:=ZJZ G H l n false g2;simpa using this
 .show h.elim
def gZ:RIA:=λx M q=>kI x M q\/iB x M q
def cf1:Y1 X (upRI G gZ):=ItR.imp (ItR.or (cf0 ) (b24 )) λx H R ⟨a,M,q,ia,hs,h,f⟩=>by
 rcases h with h|h
 .show FK (Cu a M q ia hs h f)
 .show Eh (Cu a M q ia hs h f)
def dj {tg:Expr}(he:WR):AI G X tg e (gT gZ te):=cj6 cf1 he
def gC:RIA:=λx M q=>match x with
 | .ref l=>∃n o kvs,M l=some (PX n o)/\q (Xu (ZHQ p.1 p.2)) (E4 (Vz=ZBC)) M
 | _=>False
def at8 {es:Oh}{n1}{tp:Pos}{apos cpos:Pos}(he:WR)(hbase:No (ZFz e "items" (O1 e)=O1 e))(hline:No ((apos.endLine == cpos.line)=true)) :
  AI G X (ZH n1 tp) (Uz (ZDe e "items") [] cpos) (gT gC te):=by
 intro pins s σ H R I ⟨s0,M,q,Rl,h,f⟩;show ZBO hline (thn (he pins s σ H (EK (∃l M1,x=On/\Tu M1 H1/\Gk H H1/\∃n o kvs,ZGx=ZBC/\q (Xu (ZHQ p.1 p.2)) (E4 (Vz=ZBC)) M1)) I (Dt s0 M _ Rl h (CT ?_))) λv s1 hh=>?_)
 .unfold gC at h1;split at h1
  .show Dt _ M1 i1 m1 k1 h1
  .show h1.elim
 .let⟨x,H1,I1,r1,l,M1,ex,m1,k1,n,o,kvs,e1,h1⟩:=hh;subst ex;cases r1;let⟨h2,h3,h4,h5⟩:=m1.dct e1;let⟨g1,es,ep,g2,g3⟩:=h5.obj;have ho:=MJ I1 h2;have de:K8 s1.heap l es ep:=By o ho g1 g2;show IZ "dict" "dict.items" PySem.F.plainAttrs_dict PySem.F.slot_dict_items PySem.F.type_dict_items de.ty ?_ (ZKi rfl (b21 h3 de ZDP))
  .intro b e;cases e;show ZCY g1.2.1
  .have de':K8 h' l es ep:=By o (a2 _ _ ho) g1 g2;have I2:=I1.kept (t':=s1.toks) a2;show b22  a1 de' λh2' b1 b2=>?_;show ZDs h'.objs.size [h'.objs.size] _ H1 rfl (I2.kept  b2) (bw6 g1 g2 (h5.relE g2)) (U6 _ b1) U9 (IY h1 m1 k1 ?_)
   .rw [List.mem_singleton.mp hb]
    show ZD9 As As
   .have:=ZJZ G H1 l n true g2;simpa using this
def gK:A->MA->KA->Prop:=λx M q=>match x with
 | .ref l=>∃n o kvs,M l=some (PX n o)/\∀p,M p=none->q Pw (ZBg p (FQ (BT z.1)))
 | _=>False
def ay5 {H:Hp}{n:Nat}{α:Type}(g:α->A):∀{kvs:List α} {vs:List V},vs.length=kvs.length->(∀(i:Nat) p,kvs[i]?=UL->∃v,vs[i]?=Pm/\Xg (g p))->QB H (kvs.map g)
 | [],vs,hl,_=>List.length_eq_zero_iff.mp hl
 | p::ps,[],hl,_=>by cases hl
 | p::ps,v::vs,hl,h=>by
  show Pf v vs ?_ (ay5 (n:=n) g (by simpa using hl) λi q hq=>by simpa using h (i+1) q (by simpa using hq));let⟨v',e,i'⟩:=h 0 p rfl;cases e;show i'
set_option tactic.hygienic true in
def bv6 (hc:X.calm=true):WJ X SS G (c1 gK):=λpins s σ H vs us Q I r h0=>by
 let⟨v,rfl,x,M,q,ix,hs,h,f⟩:=VU;unfold gK at h;split at h
 .rename_i l;let⟨n,o,kvs,e,h⟩:=h;let⟨u,rfl,ru⟩:=ZAb;rw[ix] at ru;cases ru;let⟨h2,h3,h4,h5⟩:=ZA2;let⟨g1,es,ep,g2,g3⟩:=h5.obj;have ho:=MJ I h2;let⟨_,ent⟩:=h5.ents g2;show ae2 S3 h3 (By o ho g1 g2) Aw λh' tk acc' c' kp e' it=>?_;have ex:∃ys:List V,ys.length=kvs.length/\GK ys acc'.toList/\∀(i:Nat) p,kvs[i]?=UL->∃v,ys[i]?=Pm/\Xg p.1:=by
   have sz:acc'.size=kvs.length:=by have:=it.1;simp_all
   have key:∀m,m<=kvs.length->∃ys:List V,ys.length=m/\GK ys (acc'.toList.take m)/\∀(i:Nat) p,i<m->kvs[i]?=UL->∃v,ys[i]?=Pm/\Xg p.1:=by
    intro m
    induction m with
    | zero=>intro _;show⟨[],rfl,by show .nil,λi p hi=>by simp_all⟩
    | succ m ih=>
     intro hm;let⟨ys,y1,y2,y3⟩:=ih Ab;let⟨en,x,y,a1,a2,a3,a4,a5⟩:=ent m kvs[m] (Ax Ab);let⟨x',b1,b2⟩:=it.2 m acc'[m] (Dn Ab);rw[a1] at b1;cases b1;show By (ys++[x]) (by simp[y1]) ?_ (λi p hi hp=>?_)
     .rw[List.take_succ,Array.getElem?_toList,Array.getElem?_eq_getElem Ab];show y2.append (ZA3 (by rw[b2];show a2))
     .by_cases hm':i<m
      .let⟨v,c1,c2⟩:=y3 i p hm' hp
       simp_all
      .have:i=m:=by lia
       subst this;rw[List.getElem?_eq_getElem Ab] at hp
       simp_all
   let⟨ys,y1,y2,y3⟩:=key kvs.length As;rw[List.take_of_length_le (by grind)] at y2;show By ys y1 y2 (G2 (y3 i p (ZJ3).1 hp))
  let⟨ys,y1,y2,y3⟩:=ex;have fr:=S0;let⟨z1,z2⟩:=hs.newL fr (ay5 (n:=n) (λz:A×A=>z.1) y1 y3);show Py Nf _ (I.laid (t':=tk) kp As (BD (ObjOk X.prog X.w _ h' _ YT) (B0 Ab acc'.toList c' y2 (by simpa using e')))) (ZH1 (h _ (LW fr)))
 .show h.elim
end
def az8 (a:Addr)(q:Str):∃h:Heap,CodA a q h/\∀o,h.get? a=some o->o.data=.fields #[.none,.str q 0]/\o.cls=.type "code":=by
 have z:({ objs:=Array.replicate a default }:Heap).objs.size=a:=by simp
 have g:=by
  have:=Heap.get?_push_size ({ objs:=Array.replicate a default }) (o:=⟨.type "code",none,.fields #[.none,.str q 0],#[]⟩) rfl;rw[z] at this;show this
 show U6 (IZ a _ _ 0 rfl g rfl rfl) (Cp Aw)
variable {q:Str}
def ci8 {es ep}(hd:o.data=Zg):HO.ext (DE a o)≠HO.ext (CodA a q):=λe=>by
 let⟨h,h1,h2⟩:=az8 a q;rw[<-HO.ext.inj e] at h1;have:=(h2 o h1).1
 simp_all
def bx0 {ps:OX}:HO.ext (TabA a ps)≠HO.ext (CodA a q):=λe=>by
 let⟨h,h1,h2⟩:=az8 a q;rw[<-HO.ext.inj e] at h1;have:=(h2 _ h1).2;cases this
def bx8:HO.ext (fN a n)≠HO.ext (CodA a q):=λe=>by
 let⟨h,h1,h2⟩:=az8 a q;rw[<-HO.ext.inj e] at h1;let⟨t,u,v,h3⟩:=h1;show absurd (h2 _ h3).2 Aq
def b11 {o:O}(h:IsO G H a o)(e:Vj=Af (R6 a q)):False:=by
 cases o with
 | lst xs=>let⟨vs,h1,_⟩:=h;simp_all
 | dct n ob kvs=>
  let⟨h1,_,_,h4⟩:=h;let⟨_,es,ep,hd,_⟩:=h4.obj;rw[e] at h1;show ci8 hd (BW h1).symm
 | rng n=>
  have h1:Vj=_:=h;rw[e] at h1;show bx8 (BW h1).symm
def Hs.lam {H2:Hp}{t:Addr×Str×Pos}{c':Addr}{of:HO}(ht:t∈G.tabs)(nd:∀t'∈G.tabs,t'.1=t.1->t'=t)(hs:Ww)(sb:kF t.1 H H2)(hT:gV H2 t.1 t.2.1 t.2.2)(hf:H f=Option.none)(hf2:H2 f=Af of)(hc2:H2 c'=Af (R6 c' t.2.1))(hfix:G.fix t.1=Option.none) :
  Keep H H2/\Hs { G with fix:=λa=>if a=f then some of else if a=c' then some (R6 c' t.2.1) else G.fix a } M H2:=by
 let⟨m1,ps,p1,p2⟩:=hs.tab t ht;have k:Gk H H2:=λa xs e=>sb a _ e (a76 e p1 (BT (nomatch z)));have mc:∀c q,H2 c=Af (R6 c q)->M c=Option.none:=λc q e=>by
  cases z:M c with
  | none=>rfl
  | some o=>
   exfalso;have io:=hs.obj c o z;have ne:c≠t.1:=ID Ab;have e2:∃x,H c=OZ:=by
    cases o with
    | lst xs=>let⟨vs,h1,_⟩:=io;show⟨_,h1⟩
    | dct n ob kvs=>show⟨_,io.1⟩
    | rng n=>show⟨_,io⟩
   let⟨x,e2⟩:=e2;have:=sb c x e2 ne;rw[e] at this;rw[<-this] at e2;show b11 io e2
 show B0 k ZKb (λt' ht'=>?_) ZKb ZJV
 .have ne:a≠t.1:=ID Ab;have io:=hs.obj a o e;have e2:∃x,Vj=OZ:=by
   cases o with
   | lst xs=>let⟨vs,h1,_⟩:=io;show⟨_,h1⟩
   | dct n ob kvs=>show⟨_,io.1⟩
   | rng n=>show⟨_,io⟩
  let⟨x,e2⟩:=e2;show IsO.keep (G:={ G with fix:=_ }) k (by rw[e2];show sb a x e2 ne) (by cases o <;> show io)
 .by_cases w:t'.1=t.1
  .have:=nd t' ht' w;subst this;let⟨ps',p3,p4⟩:=hT;show WC m1 ps' p3;rcases p4 with p4|⟨c,p4,p5⟩
   .show CD p4
   .show ZBe c p4 (mc c _ p5) p5
  .let⟨m3,ps3,p3,p4⟩:=hs.tab t' ht';show WC m3 ps3 (sb _ _ p3 w);rcases p4 with p4|⟨c,p4,p5,p6⟩
   .show CD p4
   .show ZBe c p4 p5 (sb _ _ p6 YS);subst z;rw[p1] at p6;show bx0 (BW p6)
 .have e':Xi (a=f) (Af of) (Ak (a=c') (Af (R6 c' t.2.1)) (G.fix a))=Nd:=e;by_cases w:a=f
  .rw[if_pos w] at e';cases e';subst w;show A3 (LW hf) hf2
  .rw[if_neg w] at e';by_cases w2:a=c'
   .rw[if_pos w2] at e';cases e';subst w2;show A3 (mc a _ hc2) hc2
   .rw[if_neg w2] at e';let⟨h1,h2⟩:=hs.fix a o e';show A3 h1 (sb a o h2 (BT Aw))
 .rcases hs.scr a ns e with⟨h1,h2⟩|h1
  .show FK (ZHE h2);rcases h1 with h1|⟨o,h1⟩
   .show CD (sb a _ h1 (a76 h1 p1 (BT (nomatch z))))
   .show Vo o (sb a _ h1 (a76 h1 p1 (BT (nomatch z))))
  .show ZFq
def Hs.unfix {fx:Addr->ZAE}(h:Hs { G with fix:=fx } M H)(hx:∀a o,G.fix a=Nd->fx a=Nd):Ww:=
 ⟨λa o e=>by have:=h.obj a o e;cases o <;> show this,h.tab,λa o e=>h.fix a o (hx a o e),h.scr⟩
def iK (bk:Bool)(ns:NX):A:=Ak (bk=true) (BR (ns.headD 0)) (F0 PQ)
def ar6 {H:Hp}:∀{ns:List Int} {vs:List V},QB H PQ->vs=P2
 | [],_,h=>h
 | _::_,_,⟨v,r,e,h,t⟩=>by rw[e,h,ar6 t];rfl
def IsL.getD {H:Hp}:∀{xs:List A} {vs:List V} (i:Nat),U3->SW (xs.getD i .non) (ZGl .non)
 | [],_,_,h=>by rw[h];rfl
 | _::_,_,0,⟨v,r,e,h,t⟩=>by subst e;show h
 | _::_,_,i+1,⟨v,r,e,h,t⟩=>by subst e;simpa using IsL.getD i t
def a91 {H:Hp}{f:Nat->A}{g:Nat->V}(h:∀i,SW (f i) (g i)):∀l:List Nat,Z6 Ye ZKY
 | []=>rfl
 | i::l=>⟨g i,_,rfl,h i,a91 h l⟩
variable {c:Bool}
def av0 {α:Type}{d:α}{ys zs:Ql}{kf:α->NX}(h:SortBy c d ys ZG0 zs):zs.Perm ys/\((c=true/\ys.length<64)->zs.Pairwise (Jn (GJ (kf b) (kf a)=false))):=by
 let⟨ws,h1,h2,h3⟩:=h.zip Aq;have e:ys.zip ZG0=ys.map λy=>(y,kf y):=by
  clear h h1 h3
  induction ys with
  | nil=>rfl
  | cons y ys ih=>simp_all
 rw[e] at h1;have key:∀w∈ws,w.2=kf w.1:=λw hw=>by
  let⟨y,_,rfl⟩:=BL (h1.mem_iff.mp hw);rfl
 subst h2;constructor
 .have:=h1.map (·.1)
  rwa [List.map_map,show ((λx:α×List Int=>x.1)∘λy=>(y,kf y))=id from rfl,List.map_id] at this
 .intro z;rw[List.pairwise_map];show (List.Pairwise.and_mem.mp (h3 z)).imp λ{a b} z=>?_;rw[<-key a z.1,<-key b z.2.1];show z.2.2
def IsL.sort {xs:Oe}{ys zs:Om}{nss:ZAD}(h:Z6 xs ys)(p:TB c V.non ys zs):∃zs',TB c A.non xs zs'/\Z6 zs' zs:=by
 let⟨p,h1,h2,rfl⟩:=p;rw[h.len] at h1 h2;show U6 (By p h1 h2 rfl) (a91 (GF (h.getD i)) _)
inductive CaughtL (X:Cx) (scope:Scope):List (Str×Addr×Nat)->Prop
 | nil:CaughtL X scope []
 | cons {a:Str} {c:Addr} {j:Nat} {ks:Au (Str×Addr×Nat)} (h:Ba a=Qz/\X.N[j]?=RS/\Ef a=PP/\B9 a=RC) (t:Y2 X ks):CaughtL X scope ((a,c,j)::ks)
def CaughtL.mem {ks:Au (Str×Addr×Nat)}(h:Y2 X ks):∀k∈ks,Ba k.1=Af k.2.1/\X.N[k.2.2]?=Af k.1/\Ef k.1=PP/\B9 k.1=RC:=by
 induction h with
 | nil=>simp
 | cons h t ih=>
  intro k hk;rcases List.mem_cons.mp hk with rfl|hk
  .show h
  .show ih k hk
variable {c:Addr}
section
variable {te:TEA}{tr:TAA}
def gD (M:MA):A->BO Oe
 | .ref l=>match M l with
  | some (.lst xs)=>some xs
  | some (.rng n)=>some (rgA 0 n)
  | _=>none
 | _=>none
def iQ (js:List Nat)(tr:TAA)(te:TEA):TEA:=λs M q=>tr s M λxs M1=>match xs with
 | [x]=>∃ys,gD M1 x=some ys/\ys.length<10000/\∃(bk:Bool) (kf:A->NX) (J:MA->Prop),J M1/\(∀y∈ys,(bk=true->∃n,ZJa=[n])/\ZJa≠[]/\∀M,J M->te (Qt::V0 ((s[j]?).join)) M λk M'=>J M'/\k=iK bk ZJa)/\
  ∀M zs D,J M->M D=none->List.Perm zs ys->((bk=true/\ys.length<64)->zs.Pairwise (Jn (GJ (kf b) (kf a)=false)))->q Wi (ZBg D zs)
 | _=>False
set_option tactic.hygienic true in
def b53 {arg body:Expr}{params:Arguments}{kp pos:Pos}(t:Addr×Str×Pos)(ks:Au (Str×Addr×Nat))
  (hr:Room (k+3) X.A) (hg:Zr "sorted") (hm:Iw "sorted" = none) (ha:AA G X ZH4 tr) (hcm:X.calm=true) (ht:t∈G.tabs) (nd:∀t'∈G.tabs,t'.1=t.1->t'=t) (hq:X.env.qual++"<lambda>" = t.2.1)
  (hcl:ZAL=Gx (So ((k.1,k.2.1)))) (hcode:X.env.code=ZCV) (hC:codeHdIn X.K c t.1=true) (hB:BM X.base X.mg) (hdef:ZLV=([],[]))
  (hbind:∀(c':Addr) (ctv u:Value),Ko (kla_fn "<lambda>" t.2.1 params body scope (So ((k.1,k.2.1))) ((S8).getD .none) WA ctv) (YR [u])=pure [(x,u)]) (hx:B9 x=N9) (hco:scope.isCoroutine=false) (hgen:scope.isGenerator=false) (hk:scope.kind=.function)
  (hcell:∀y∈scope.names,y.2≠.cell) (hks:Y2 X ks) (hall:(scope.names.all (B5 ((p.2 != .cell && p.2 != .free) || ZEG (p.1 == k.1))))=true)
  (he:∀fx f c' s0 H0,AE { G with fix:=fx } (fR X (x::DN ((·.1))) t.2.1 scope f c' (So ((k.1,k.2.1))) X.A.in1.in1 s0 H0) body te) (hfix:G.fix t.1=none)
  (hst:No (ZLK=(false,eval arg X.env)::ZLJ)) (hpl:No ((ZLK).any (·.1)=false)) :
  AE G X (HG (CW "sorted" p) ZH4 [BH (Af "key") (ZJL body scope t.2.2) kp] pos) (iQ (DN ((·.2.2))) tr te):=by
 intro pins s σ H Q I ⟨s0,M,q,R,h,fin⟩;show Di (qa I hg hm (u:=ZCe) rfl ?_);show callWith_kw ?_ hst hpl rfl rfl;show thn (ha pos pins s σ H (λvs H1=>∃x v M1,vs=[v]/\Is H1 x v/\Hs G M1 H1/\Keep H H1/\∃ys,gD M1 x=some ys/\ys.length<10000/\∃(bk:Bool) (kf:A->List Int) (J:MA->Prop),J M1/\(∀y∈ys,(bk=true->∃n,kf y=[n])/\kf y≠[]/\∀M,J M->te (some y::(ks.map (·.2.2)).map λj=>(s0[j]?).join) M λk M'=>J M'/\k=iK bk (kf y))/\
  ∀M zs D,J M->M D=none->List.Perm zs ys->((bk=true/\ys.length<64)->zs.Pairwise (λa b=>HT.lexLt (kf b) (kf a)=false))->q (.ref D) (put M D (.lst zs))) I ⟨s0,M,_,R,h,λxs M1 vs H1 h1 i1 m1 k1=>?_⟩) λus s1 hh_=>?_
 .split at h1
  .let⟨v,r,rfl,j1,j2⟩:=i1;rw[show r=_ from j2];show ZHT _ v M1 j1 m1 k1 h1
  .show h1.elim
 let⟨xs,H1,I1,r1,xa,v,M1,rfl,ix,m1,k1,ys,hy,hz,bk,kf,J,J1,hkey,q2⟩:=hh_;let⟨u,rfl,ru⟩:=ph r1;let⟨tm,ps,p1,p2⟩:=m1.tab t ht;have hT:gV H1 t.1 (X.env.qual++"<lambda>") t.2.2:=by
  rw[hq];show Qs ps p1;rcases p2 with p2|⟨c,p2,_,p3⟩
  .show CD p2
  .show Eh (BH c p2 p3)
 show kws_cons (bp7 I1 hcl hcode hC hB hT hdef λf c' ctv H2 s2 I2 sb hT2 hf hfP hf2 hc2=>kws_nil ?_);rw[hq] at hT2 hf2 hc2;let⟨k2,m2⟩:=m1.lam ht nd sb hT2 hf hf2 hc2 hfix;generalize hG':({ G with fix:=λa=>if a=f then some _ else if a=c' then some (R6 c' t.2.1) else G.fix a }:G3)=G' at m2;have back:∀{M':MA} {H':Hp},Hs G' M' H'->Tu M' H':=λ{M' H'} hm'=>by
  subst hG';show hm'.unfix ZKb;let⟨_,e2⟩:=m1.fix a o e;have n1:a≠f:=λz=>by rw[z,hf] at e2;cases e2
  have n2:a≠t.1:=λz=>by rw[z,hfix] at e;cases e
  change Xi (a=f) _ _=_;rw[if_neg n1];by_cases w:a=c'
  .rw[if_pos w];have:=sb a o e2 n2;rw[w,hc2] at this;show this
  .rw[if_neg w];show e
 have heG:∀f c' s0 H0,AE G' (fR X (x::DN ((·.1))) t.2.1 scope f c' (So ((k.1,k.2.1))) X.A.in1.in1 s0 H0) body te:=by subst hG';show he _
 have fixf:∀{M':MA} {H':Hp},Hs G' M' H'->H' f=Af (G6 (FnA f (kla_obj "<lambda>" t.2.1 params body scope (So ((k.1,k.2.1))) ((S8).getD .none) c' ctv)))/\H' c'=Af (R6 c' t.2.1):=λ{M' H'} hm'=>by
  subst hG';have a1:=hm'.fix f _ (BD (Xi (f=f) _ _=_) (if_pos rfl));have ne:c'≠f\/c'=f:=(Classical.em (c'=f)).symm;show Pk a1.2;rcases ne with ne|ne
  .show (hm'.fix c' _ (show (Ak (c'=f) _ (Ak (c'=c') _ _))=_ by rw[if_neg ne,if_pos rfl])).2
  .rw[ne,a1.2,<-hf2,<-ne,hc2]
 have src:∃src:SRC,iV X src/\∃vs,QB H2 ys/\∀R:List V->Prop,R vs->src v H2 R:=by
  cases xa with
  | ref l=>
   have ev:v=On:=ix;dsimp only[gD] at hy;split at hy
   .rename_i zs eM;cases hy;let⟨vs,hp,iv⟩:=m2.lst eM;show B0 _ au8 vs iv (λR r=>B0 l vs ev S4 r)
   .rename_i n eM;cases hy;have hp:H2 l=_:=m2.obj l _ eM;show B0 _ (an3 hcm) ((Za).map λ(i:Nat)=>ZFO) ?_ (λR r=>Dt l n ev hp ?_ r)
    .show ay5 (n:=0) (λ(i:Nat)=>Er (0+i)) Aq ZKd;have:i<n:=by
      by_cases z:i<n
      .show z
      .rw[List.getElem?_eq_none (by simpa using z)] at hp;cases hp
     rw[List.getElem?_range this] at hp;cases hp;show BH P1 (by rw[List.getElem?_map,List.getElem?_range this];rfl) (by simp[Is])
    .have:n<10000:=by simpa [rgA] using hz
     lia
   .cases hy
  | _=>cases hy
 let⟨src,hsrc,vs,iv,srcv⟩:=src;let⟨zz,hzz,hc⟩:=hsrc pins s2 σ H2 v u (BT (z=vs)) I2 ru (srcv _ rfl);subst hzz;change wpAny _ _ (call ZCe [u] [(Str.ofString "key",.ref f)]) _ _ _;show au9 hc λus rv=>?_;have hlen:=rv.length;have hlv:=iv.len;show BH Aw (λa kS e1 i ks' s'=>∃H3 M3 kvs e,P5 H3 s'/\Hs G' M3 H3/\J M3/\Gk H2 H3/\SG X H3 a/\SG X H3 kS/\Eb a=FU ((seqObj "list" #[] e1))/\Eb kS=Af (Rw ks'.toArray e)/\GK kvs ks'/\CB (iY bk H3) kvs ((ys.take i).map kf)) (By (λh' tk a kS e1 kp sz lt hA hK=>?_) (λa kS e1 i ks' s' ⟨_,_,_,_,_,_,_,_,_,_,h,_⟩=>h) (λa kS e1 i v ks' e s' hne hv hl hJ hK=>?_) (λa kS e1 ks' s' hne hJ hl=>?_))
 .have szk:s2.heap.objs.size<=kS:=Dl (Dq sz lt);show⟨H2,M1,[],0,I2.kept (t':=tk) kp,m2,J1,G4,ZD9 sz sz,ZD9 szk szk,hA,hK,.nil,by simp;show .nil⟩
 .let⟨H3,M3,kvs,e',I3,m3,J3,k3,fa,fk,hA,hK',rk,tk⟩:=hJ;obtain⟨y,hy',ry⟩:∃y,zz[i]?=some y/\RelV y v:=by
   cases h1:zz[i]? with
   | none=>rw[Vals.none_of rv h1] at hv;cases hv
   | some y=>
    let⟨u',h2,h3⟩:=rv.get h1;rw[hv] at h2;cases h2;show Oa y h3
  let⟨ya,hya,iy⟩:=(iv.keep k3).get' hy';have hym:ya∈ys:=Ad hya;let⟨hk1,hk0,hkM⟩:=hkey ya hym;have IP:Inv X (pins++[(a,seqObj "list" #[] e1),(kS,seqObj "list" ks'.toArray e)]) σ H3 s':=I3.pins_of λp hp=>by
   rcases List.mem_append.mp hp with hp | hp
   .show I3.pin p (BJ hp)
   .rcases List.mem_cons.mp hp with rfl | hp
    .show B0 hA fa.1 fa.2.1 fa.2.2.1 (λ_ z=>nomatch z)
    .have ep:p=(kS,seqObj "list" ks'.toArray e):=by simpa using hp
     subst ep;show B0 hK fk.1 fk.2.1 fk.2.2.1 (λ_ z=>nomatch z)
  let⟨hf3,hc3⟩:=fixf m3;have hfh:Eb f=A8:=(I3.hok f _ hf3).1;have hch:s'.heap.CodeRec WA _:=(I3.hok c' _ hc3).1;have R3:Rel G' s0 M3 σ H3:=⟨R.len,λi a e=>let ⟨v,h1,h2⟩:=R.val i a e;⟨v,h1,h2.keep ZC9⟩,m3⟩
  have R4:Rel G' (Af ya::(DN ((·.2.2))).map (En ((s0[j]?).join))) M3 (Qt::frS 0 (DN ((·.2.2))) σ) H3:=by
   have:=R3.frS 0 (DN ((·.2.2)));simp only[List.replicate_zero,List.nil_append] at this;show BH (by simp[frS]) ZQ m3;cases i with
   | zero=>cases e;show⟨y,rfl,iy⟩
   | succ i=>show this.val i a (by simpa using e)
  show thn (bp8 (A:=X.A.in1.in1) (k:=k) (fr:=frS 0 (DN ((·.2.2)))) IP I.ok.frames hr.in1.in1 hfh hch ry (hbind c' ctv v) hx hco hgen hk hcell rfl ZIO (λy' h=>?_) (by simp[frS]) (λi y' v' e1 e2=>?_) (heG f c' s' H3) (Q:=λkv H4=>∃M4,Hs G' M4 H4/\J M4/\Gk H3 H4/\iY bk H4 kv (kf ya)) (Dt _ M3 _ R4 (hkM M3 J3) (λka M4 kv H4 h4 i4 m4 k4=>?_))) λkv s4 ⟨k4,H4,I4,r4,M4,m4,J4,k34,t4⟩=>?_
  .let⟨k,hk,rfl,rfl⟩:=aq7 h;show (ZGz hk).1
  .rw[List.all_eq_true] at hall;have key:∀k,(k=.cell\/k=.free)->B9 y'=YO->∃k∈ks,k.1=y':=λk hk e=>by
    have:=hall _ (ac8 e);rw[Bool.or_eq_true] at this;rcases this with z|z
    .rcases hk with rfl|rfl
     .simp at z
     .simp at z
    .rw[List.any_eq_true] at z;let⟨k',hk',e'⟩:=z;show BH k' hk' ((beq_iff_eq.mp e').symm)
   show aq8 ?_;rcases h with h|h
   .show key _ OP h
   .show key _ Nt h
  .unfold frS at e2;simp only[List.replicate_zero,List.nil_append,List.getElem?_map] at e2;simp only[List.getElem?_cons_succ,List.getElem?_map] at e1;cases z:ks[i]? with
   | none=>rw[z] at e1;cases e1
   | some k=>
    rw[z] at e1 e2;have e1':k.1=y':=BW e1;have e2':(σ[k.2.2]?).join=Af v':=BW e2;let⟨h1,h2,h3,h4⟩:=ZGz (Ad z);show B0 k.2.2 (by rw[<-e1'];show h2) ?_ (by rw[<-e1'];show h3) (by rw[<-e1'];show h4);cases w:σ[k.2.2]? with
    | none=>rw[w] at e2';cases e2'
    | some o=>rw[w] at e2';show congrArg some e2'
  .let⟨J4,ek⟩:=h4;subst ek;show ZIa M4 m4 J4 k4;unfold iK at i4;unfold iY;cases bk with
   | true=>
    rw[if_pos rfl] at i4 ⊢;let⟨n,en⟩:=hk1 rfl;rw[en] at i4 ⊢;show Oo n i4
   | false=>
    rw[if_neg Bool.false_ne_true] at i4 ⊢;let⟨p,vs,rfl,hp,il⟩:=i4;show Oa p (by rw[hp,ar6 il])
  .have pA:=I4.pin (a,seqObj "list" #[] e1) (BJ (LU ((List.mem_cons_self ..))));have pK:=I4.pin (kS,seqObj "list" ks'.toArray e) (BJ (BJ (List.mem_cons_of_mem _ (List.mem_cons_self ..))));have I4':P5 H4 s4:=I4.unpinned;show A3 pK.1 (λh' cc kp hk'=>⟨H4,M4,kvs++[k4],cc,?_,m4,J4,Ie k34,A3 pA.2.1 fa.2,A3 pK.2.1 fk.2,kp _ _ hne pA.1,hk',rk.append (ZA3 r4),?_⟩)
   .show I4'.turned (t':=s4.toks) kp pK.2.1 fk.2.1 fk.2.2.2.1 fk.2.2.2.2.1 fk.2.2.2.2.2
   .have e5:ys.take (i+1)=ys.take i++[ya]:=by
     rw[List.take_add_one,hya];rfl
    rw[e5,List.map_append];show Paired.snoc (Paired.mapP tk λ_ _ z=>?_) t4;unfold iY at z ⊢;cases bk with
    | true=>show z
    | false=>
     rw[if_neg Bool.false_ne_true] at z ⊢;let⟨p,e,hp⟩:=z;show BH p e (k34 _ _ hp)
 .let⟨H3,M3,kvs,e',I3,m3,J3,k3,fa,fk,hA,hK',rk,tk⟩:=hJ;rw[show us.length=ys.length by simp_all,List.take_length] at tk;show By bk ZG0 (b84 I3 rk tk (λns hns=>?_)) (λh' cc out ho kp hl'=>?_)
  .let⟨y,hy,rfl⟩:=BL hns;show (hkey y hy).2.1
  .let⟨zs,rz,hzs⟩:=au2 rv ho;have hz2:zs.length<=sizeLine:=by
    rw[hzs.len];have:10000<=sizeLine:=by rw[sizeLine_eq];decide
    lia
   let⟨zs',sz,iz⟩:=(iv.keep k3).sort hzs;let⟨pz,wz⟩:=av0 sz;let⟨w1,w2⟩:=(back m3).newL fa.1 iz;show Py PK _ (I3.take (t':=s'.toks) fa fk kp hl' rz hz2) (KS (q2 M3 zs' a J3 ((back m3).none fa.1) pz wz) rfl w1 (Xs (Ie w2)))
end
section
variable {G:G3}{X:Cx}{e:Expr}{es:Oh}{te tx:TEA}{tr:TAA}{pos:Pos}
def gA (kvs:Au (A×A)):Au (A×A):=kvs.foldl (LT (putA a p.1 p.2)) []
def iO:A->MA->KA->Prop:=λx M q=>match x with
 | .ref l=>∃n kvs,n<=6/\M l=some (Bc (Xu (ZHQ p.1 p.2)))/\kvs.length<=100000/\(∀p∈kvs,hk (n+1) p.1=true)/\∀d o,M d=none->q ZHH (Vl d (Fm (n+1) o ZEJ))
 | _=>False
def bu1 (kvs:Au (A×A)):(ZEJ).length<=kvs.length:=by
 have:∀(l acc:List (A×A)),(Ms (LT (putA a p.1 p.2)) acc).length<=acc.length+l.length:=by
  intro l
  induction l with
  | nil=>intro acc;simp
  | cons p l ih=>
   intro acc
   rw [List.foldl_cons, List.length_cons]
   have h1:=ih (putA acc p.1 p.2);have h2:=ab6 acc p.1 p.2;lia
 simpa [gA] using this kvs []
def bn5 (I:QO):∀{kvs:Au (A×A)} {vs:Om} {us:Nk},IsL H (Xu (ZHQ p.1 p.2)) vs->Vals vs us->(∀p∈kvs,hk (n+1) p.1=true)->
  ∃xs:List (A×Addr×Value),xs.length=kvs.length/\HVR H (n+1) kvs xs/\∀(j:Nat) x,xs[j]?=some x->∃p pa,us[j]?=some p/\p=.ref pa/\IsTup s.heap pa #[.ref x.2.1,x.2.2]/\hk (n+1) x.1=true/\VI s.heap x.1 (A5 x.2.1):=by
 intro kvs
 induction kvs with
 | nil=>show λh r y_=>⟨[],rfl,rfl,λj x e=>by simp at e⟩
 | cons p ps ih=>
  intro _ _ h r hk';let⟨v,t,e,i,l⟩:=h;subst e;let⟨pa,ws,rfl,hp,w1,r1,e1,i1,w2,r2,e2,i2,e3⟩:=i;have e3':=e3;subst e1 e2 e3';cases r with
  | cons r0 rs=>
   cases r0;let⟨xs,x1,x2,x3⟩:=ih l rs (Dw (hk' q ZFg));let⟨_,its,rv,ht⟩:=(Dm pa hp)
   let⟨ua,ub,rfl,ra,rb⟩:=a08 rv;have hkp:=hk' p (List.mem_cons_self ..);let⟨ks,ek,_⟩:=qy hkp;have:∃b,w1=V9:=by rw[ek] at i1;let⟨b,_,rfl,_⟩:=i1;show⟨b,rfl⟩
   let⟨b,rfl⟩:=this;have vi:=bq7 I.hok _ hkp i1 ra;cases ra;show By ((p.1,b,ub)::xs) (by simp[x1]) (ZHT b ub xs hkp i1 (BH w2 i2 rb) x2) (λj x e=>?_);cases j with
   | zero=>cases e;show⟨_,pa,rfl,rfl,ht,hkp,vi⟩
   | succ j=>show x3 j x (by simpa using e)
def ar7 {H:Hp}{n:Nat}:∀{kvs acc:List (A×A)} {xs ys:List (A×Addr×Value)},ZGs (n+1) xs->ZGr (n+1) acc ys->ZGr (n+1) (kvs.foldl (LT (putA a p.1 p.2)) acc) (xs.foldl (ZEB ys x.1 x.2.1 x.2.2) ys)
 | [],_,_,_,h,g=>by rw[h];show g
 | p::ps,_,_,_,⟨b,u,t,e,e1,e2,⟨v,h1,h2⟩,g⟩,k=>by
  subst e
  rw [List.foldl_cons, List.foldl_cons]
  show ar7 g (k.put e1 e2 h1 h2)
set_option tactic.hygienic true in
def am6 (hc:X.calm=true)(hu:X.A.units+64<cLine)(hP:No (X.prog=G.P))(hw:No (X.w=G.w)):WJ X ZAH G (c1 iO):=λpins s σ H vs us Q I r h0=>by
 let⟨v,rfl,x,M,q,ix,hs,h,f⟩:=VU;unfold iO at h;split at h
 .rename_i l;let⟨n,kvs,hn,e,hl,hk',h⟩:=h;let⟨u,rfl,ru⟩:=ZAb;rw[ix] at ru;cases ru;let⟨ws,hp,iv⟩:=ZCj;let⟨_,its,nn,rv,ol⟩:=(Dm l hp)
  let⟨xs,x1,x2,x3⟩:=bn5  I iv rv hk';have fr:=S0;have hb:=LV (BX (BZ I.big));have il:its.length=kvs.length:=by rw[<-rv.length,iv.len,List.length_map]
  show a00  (b85 n hn _ _)  S3 (by change X.A.units+1+1+(n+1)<cLine;lia) ol (by simpa using il.trans x1.symm) Aw YF λh' tk D kp=>?_
  .let⟨p,pa,a1,a2,a3,a4⟩:=x3 j x hj;show Dt p (by simpa using a1) pa a2 a3 a4
  .let⟨o,es,ep,ho,g1,g2,g3,_,g5⟩:=D;have hD:ZGt G.w H (n+1) o ZEJ:=by show⟨hn,_,⟨g1,es,ep,g2,g3,g5⟩,ar7 x2 rfl⟩
   have hlen:=bu1 kvs;have hz:100000<=sizeLine:=by decide
   show Py Nf _ (I.laid   kp As ZB7) (P4 (h _ o (LW fr)) (hs.put (Ck fr) (CD fr) (By c6 hb Ab (hD.keep (Ck fr)))) (Ck fr))
 .show h.elim
def ae0 {kvs:Au (A×A)}(h:(FQ ((·.1))).Nodup):ZEJ=kvs:=by
 have:∀(l acc:List (A×A)),((acc++l).map (·.1)).Nodup->Ms (LT (putA a p.1 p.2)) acc=acc++l:=by
  intro l
  induction l with
  | nil=>intro acc _;simp
  | cons p l ih=>
   intro acc h;have no:aH acc p.1=none:=by
    unfold aH;rw[Option.map_eq_none_iff,List.find?_eq_none];intro z hz e;rw[List.map_append] at h;show (List.nodup_append.mp h).2.2 _ (E5 hz) _ (List.mem_cons_self ..) (Dx e)
   rw[List.foldl_cons,show putA acc p.1 p.2=acc++[p] by unfold putA;rw[no];rfl,ih _ (by simpa using h)];simp
 simpa [gA] using this kvs [] (by simpa using h)
def kQ:A->MA->KA->Prop:=λx M q=>match x with
 | .int j=>0<=j/\∀p,M p=none->q Pw (Vl p (.rng j.toNat))
 | _=>False
set_option tactic.hygienic true in
def ck0:WJ X (C7 "range") G (c1 kQ):=CallR.imp as9 λxs H Q h0=>by
 let⟨v,rfl,x,M,q,i,hs,h,f⟩:=VU;unfold kQ at h;split at h
 .rename_i j;show BH j.toNat (by rw[i,show ((j.toNat))=j by lia]) (GE (P4 (h.2 p (LW hn)) (hs.put Sa (CD hn) c6) Sa))
 .show h.elim
def iS (f:Addr)(Φ:SpA)(tx:TEA)(tr:TAA):TEA:=λs M q=>tx s M λx M1=>x=.ref f/\tr s M1 λxs M2=>Φ xs M2 q
def bv2 {Φ:SpA}(F:FnOk X.prog X.w X.K X.mg X.base CX0 k f fd ps (upF G Φ))(hr:Room k X.A)(hn:AE G X (.Name x p) tx)(hk:PySem.W.keepIn X.K (.ref f)=true)(hb:Binds X.K fd ps [])
  (ha:AA G X (e::es) tr) (he:autoParam (starEach (e::es) X.env=(false,eval e X.env)::starEach es X.env) zaR) (hpl:autoParam ((backTo pos (starEach es X.env)).any (·.1)=false) zaR):AE G X (.Call (.Name x p) (e::es) [] pos) (iS f Φ tx tr):=
 PE.imp (bn2 (E:=E0) F hr hn hk hb .nil b61 ha he hpl) λσ H Q ⟨s,M,q,R,h,fin⟩=>⟨s,M,_,R,h,λx M1 v H1 h1 i1 m1 k1=>by
  let⟨rfl,h1⟩:=h1;show Cu i1 s M1 _ ZAU h1 (λxs M2 vs H2 h2 i2 m2 k2=>?_);rw[List.append_nil];show⟨xs,M2,q,i2,m2,h2,fin.from (k1.trans k2)⟩⟩
end
theorem afL {qual:Str}{N:List Str}{Φ:SpA}{t:TSA}(F:Fun K x qual st f fd)(hc:fd.code=.ref c)(S:FnScope N ps (aB st))(len:∀as M q,Φ as M q->as.length=ps.length)
  (hbody:∀(A:Around) (outer:List Env) (s:Shared) (H:Hp) (E:XK),VN (Ln (Zi U5 f ZCV))->ASs G (fT CX0 P w K mg base N qual U5 f ZCV A outer s H E).nox Zw t)
  (spec:∀as M q,Φ as M q->t { nx:=λy_ M'=>q .non M',rt:=q } (cN N as) M):FnOk P w K mg base CX0 (k+1) f fd ps (upF G Φ):=by
 show F.okL hc S (λvs H Q E ⟨as,M,q,i,_,h,_⟩=>by rw[i.len];show len as M q h) λA outer s H vs Q E hr h=>?_;let⟨as,M,q,i,hs,h,fin⟩:=h;show⟨_,hbody A outer s H E hr,cN N as,M,_,Rel.start N i hs,spec as M q h,?_,fin,?_,?_⟩
 .show KR (KS h' rfl R'.hs k')
 .show Yb
 .show Yb
def bg2 {Φ:SpA}{ns:List Int}{ts:List (Addr×Str×Pos)}{G:G3}(hG:G.tabs=ts)(hscr:G.scr=some (a,ns))(hfix:G.fix=λy_=>none)(hS:SqL G.K H a (ns.map V.int))(hT:∀p∈ts.map (·.1),H p=some (.ext (TabA p #[])))
  (h:Φ [.ref a] (λy_=>none) λv y_=>v=.bl true):upF G Φ [.ref a] H (λv H'=>v=.bl true/\∀p∈ts.map (·.1),∃ps,H' p=some (.ext (TabA p ps))) λy_ y_ y_=>False:=by
 show Cu [PK] ZAo _ (ZJ PK [] rfl) (By (B4 ((nomatch e))) (λt ht=>By rfl #[] (hT _ (E5 (hG▸ht))) OP) (B4 ((Aw))) (λb ms e=>?_)) h (λx M v H' hx i m y_=>?_)
 .rw[hscr] at e;cases e;rcases hS with h1|h1
  .show FK (Pe h1)
  .show ZFq
 .subst hx;show A3 i SY;let⟨t,ht,rfl⟩:=BL hp;let⟨_,ps,h1,_⟩:=m.tab t (hG▸ht);show A3 ps h1
noncomputable def c3 (r:A->A->A->MA->KA->Prop):SpA:=λas M q=>match as with
 | [x,y,z]=>r x y z M q
 | _=>False
noncomputable def c4 (r:A->A->A->A->MA->KA->Prop):SpA:=λas M q=>match as with
 | [x,y,z,u]=>r x y z u M q
 | _=>False
noncomputable def c5 (r:A->A->A->A->A->MA->KA->Prop):SpA:=λas M q=>match as with
 | [x,y,z,u,v]=>r x y z u v M q
 | _=>False
section
variable {as:Oe}{q:KA}{R:Oe->MA->KA->Prop}
def h9 {r}(h:c1 r as M q):as.length=1:=by unfold c1 at h;split at h;rfl;show h.elim
def jb {r}(h:c2 r as M q):as.length=2:=by unfold c2 at h;split at h;rfl;show h.elim
def u8 {r}(f:∀x y z M q,r x y z M q->R [x,y,z] M q):∀as M q,c3 r as M q->R as M q:=λas M q h=>by rcases as with _ | ⟨x,_ | ⟨y,_ | ⟨z,_ | _⟩⟩⟩ <;> first | show h.elim | show f _ _ _ _ _ h
def q9 {r}(h:c3 r as M q):as.length=3:=u8 (R:=LS (as.length=3)) (An rfl) _ _ _ h
def t9 {r}(f:∀x y z u M q,r x y z u M q->R [x,y,z,u] M q):∀as M q,c4 r as M q->R as M q:=λas M q h=>by rcases as with _ | ⟨x,_ | ⟨y,_ | ⟨z,_ | ⟨u,_ | _⟩⟩⟩⟩ <;> first | show h.elim | show f _ _ _ _ _ _ h
def qd {r}(h:c4 r as M q):as.length=4:=t9 (R:=LS (as.length=4)) (λy_ y_ y_ y_ y_ y_ y_=>rfl) _ _ _ h
def bu6 {r}(f:∀x y z u v M q,r x y z u v M q->R [x,y,z,u,v] M q):∀as M q,c5 r as M q->R as M q:=λas M q h=>by rcases as with _ | ⟨x,_ | ⟨y,_ | ⟨z,_ | ⟨u,_ | ⟨v,_ | _⟩⟩⟩⟩⟩ <;> first | show h.elim | show f _ _ _ _ _ _ _ h
def bu5 {r}(h:c5 r as M q):as.length=5:=bu6 (R:=LS (as.length=5)) (λy_ y_ y_ y_ y_ y_ y_ y_=>rfl) _ _ _ h
def jz {r}(f:∀x M q,r x M q->R [x] M q):∀as M q,c1 r as M q->R as M q:=λas M q h=>by unfold c1 at h;split at h;show f _ _ _ h;show h.elim
def ko {r}(f:∀x y M q,r x y M q->R [x,y] M q):∀as M q,c2 r as M q->R as M q:=λas M q h=>by unfold c2 at h;split at h;show f _ _ _ _ h;show h.elim
end
section
variable {G:G3}{X:Cx}{e:Expr}{es:Oh}{te tx:TEA}{tr:TAA}{pos:Pos}
def iR:TSA:=YU
def bu8:AS G X st iR:=PS.imp bm0 λD σ H ⟨s,M,d,R,h,f⟩=>h.elim
def jR (tr:TAA):TIA:=λs M q=>tr s M λvs M1=>match vs with
 | [.tup xs,.tup ys]=>q (zA xs ys) Uj M1
 | _=>False
set_option tactic.hygienic true in
def b51 {n1}{e1 e2:Expr}{pos:Pos}(hg:Zs)(hm:Yi = none)(hb:YY = ZJ2)(ha:AA G X [e1,e2] tr)
  (hs:No (OY [e1,e2]=[(false,eval e1 X.env),(false,eval e2 X.env)])) (hs2:No (OY [e2]=[(false,eval e2 X.env)])) :
  AI G X (ZH n1 tp) (ZDp p [e1,e2]) (jR tr):=
 PI.imp (bm6 hg hm hb ha hs hs2) λσ H R ⟨s,M,q,Rl,h,f⟩=>⟨s,M,_,Rl,h,λxs M1 vs H1 h1 i1 m1 k1=>by
  rcases xs with _|⟨x,r⟩;show h1.elim;cases x with
  | tup xs=>
   rcases r with _|⟨x,r⟩;show h1.elim;cases x with
   | tup ys=>
    cases r with
    | nil=>
     let⟨v,r,rfl,⟨l,vs,rfl,p1,iv⟩,w,r',rfl,⟨k,ws,rfl,p2,iw⟩,j3⟩:=i1;rw[j3];show IZ l k vs ws rfl (E8 p1) (E8 p2) (f _ _ _ _ _ h1 m1 k1 λi M' H' kp hs y_=>?_);have p1':=kp _ _ p1;have p2':=kp _ _ p2;have iv':=iv.keep kp;have iw':=iw.keep kp;show ZHG (B0 vs ws (E8 p1') (E8 p2') (by rw[iv.len,iw.len];unfold zA at hi;grind));unfold zA at ha;rw[List.getElem?_zipWith] at ha;cases z1:xs[i]? with
     | none=>simp_all
     | some x=>
      cases z2:ys[i]? with
      | none=>simp_all
      | some y=>
       rw[z1,z2] at ha;cases ha;let⟨v,f1,j1⟩:=iv'.get z1;let⟨w,f2,j2⟩:=iw'.get z2;show A3 (IZ vs ws v w (E8 p1') (E8 p2') f1 f2) (λu H'' hh_=>?_);let⟨p',x',y',hn,eu,eH,g1,g2⟩:=hh_;subst eu eH;have:=g1 vs (E8 p1');rw[f1] at this;cases this;have:=g2 ws (E8 p2');rw[f2] at this;cases this;show⟨Sa,Wc,p',_,rfl,c6,v,[w],rfl,ZEH,w,[],rfl,j2.keep Sa,rfl⟩
    | _=>show h1.elim
   | _=>show h1.elim
  | _=>show h1.elim⟩
def gR:A->List A->MA->KA->Prop:=λx vs M q=>match x,vs with
 | .ref l,[.int k,y]=>∃xs,M l=some Ps/\0<=k/\k<=xs.length/\xs.length<1000000/\q .non (ZHv (Dz k.toNat++y::Ya))
 | _,_=>False
set_option tactic.hygienic true in
def bi1:ZDG "list.insert" (upM G gR):=MtR.imp bf3 λx vs H Q ⟨a,as,M,q,ia,is,hs,h,f⟩=>by
 cases a with
 | ref l=>
  rcases as with _|⟨x,r⟩;show h.elim;cases x with
  | int k=>
   rcases r with _|⟨y,r⟩;show h.elim;cases r with
   | nil=>
    let⟨xs,e,h0,hk,hl,h⟩:=h;let⟨ws,hp,iv⟩:=ZCj;let⟨v,r,rfl,j1,w,r',rfl,j2,j3⟩:=is;rw[show r'=_ from j3,show v=_ from j1];let⟨z1,z2⟩:=Mt e ((iv.take k.toNat).app (BD (Z6 (y::Ya) (w::ws.drop k.toNat)) (Pf w _ j2 (iv.drop _))));have hlen:=iv.len;show⟨_,ws,w,k.toNat,ia,by rw[show ((k.toNat:Nat):Int)=k by grind],hp,Aw,by omega,ZLi⟩
   | _=>show h.elim
  | _=>show h.elim
 | _=>show h.elim
def mT (r:A->Oe->MA->KA->Prop)(to:TEA):TEA:=DZ (to s M (DB ((∃l xs,x=On/\ZGx=Ou)/\r x [] M1 q)))
def cj9 {o:Expr}{to:TEA}{name:Str}{apos cpos:Pos}{id:String}{r:A->Oe->MA->KA->Prop}(slot:Slot "list" name id)(hty:Zv=Gx RG)(hm:ZDH (upM G r))(ho:RN o to)
  (hbase:No (ZFz o name Zk=Zk)) (hline:No ((apos.endLine == cpos.line)=true)):AE G X (Uz (ZDe o name) [] cpos) (mT r to):=
 PE.imp (cb1 PySem.F.plainAttrs_list slot hty hm ho hbase hline) λσ H Q ⟨s,M,q,R,h,f⟩=>⟨s,M,_,R,h,λx M1 v H1 h1 i1 m1 k1=>by
  let⟨⟨l,xs,rfl,e⟩,h1⟩:=h1;let⟨vs,hp,iv⟩:=ZJY;rw[i1];show⟨.inl ⟨rfl,vs,SqL.of hp⟩,.ref l,[],M1,q,rfl,rfl,m1,h1,f.from k1⟩⟩
def iJ:A->List A->MA->KA->Prop:=λx vs M q=>match x,vs with
 | .ref l,[]=>∃xs,M l=some Ps/\q .non (Qb M l)
 | _,_=>False
def bv0:ZDG "list.clear" (upM G iJ):=MtR.imp bo4 λx vs H Q ⟨a,as,M,q,ia,is,hs,h,f⟩=>by
 unfold iJ at h;split at h
 .let⟨xs,e,h⟩:=h;let⟨ws,hp,iv⟩:=ZCj;let⟨z1,z2⟩:=Mt e (BD (IsL H [] []) rfl);show Dt _ ws ia is hp ZLi
 .show h.elim
end
end L3
namespace L3
open PySem PySem.Spec PyProof.Rows L2
def Pa (p:Pt3):A:=F7 [ZKC,ZKE,ZKD]
variable {t:TSA}{s:SA}{M:MA}
theorem stx {d:EndsA}{s':SA}(e:s=s')(h:t d s' M):t d s M:=by subst e;show h
def cb6:∀{l:List (Addr×Str×Pos)},(J2 ((·.1))).Nodup->∀a∈l,∀b∈l,b.1=a.1->b=a:=by
 intro l
 induction l with
 | nil=>intro _ a ha;cases ha
 | cons x l ih=>
  intro h a ha b hb e;rw[List.map_cons,List.nodup_cons] at h;rcases List.mem_cons.mp ha with ea|ha'
  .rcases List.mem_cons.mp hb with eb|hb'
   .rw[ea,eb]
   .show CN (by rw[<-ea,<-e];show List.mem_map_of_mem hb') h.1
  .rcases List.mem_cons.mp hb with eb|hb'
   .show CN (by rw[<-eb,e];show List.mem_map_of_mem ha') h.1
   .show ih h.2 a ha' b hb' e
variable {q:KA}{qb:Bool->MA->Prop}{ta tb:TEA}{tA:TTA}{tr:TAA}{D:EndsA}{r:RA}{g:TGA}{i:Nat}{n:Bool}{k j:Int}{f:SA->MA->Prop}{p:Pt3}
section
variable {α:Type}{a b c d x y z:α}{tB:TTA}{u:TSA}{Φ:SpA}{n:Nat}
theorem at20:atI [a,b] 0=RS:=rfl
theorem at21:atI [a,b] 1=UK:=rfl
theorem at30:atI [a,b,c] 0=RS:=rfl
theorem at31:atI [a,b,c] 1=UK:=rfl
theorem at32:atI [a,b,c] 2=Qz:=rfl
def bt1 {v:A}:iA 0 (Pm::s) M q=q v M:=rfl
def cf9 {v:BO A}:iA (i+1) (v::s) M q=iA i s M q:=rfl
theorem e_c {v:A}:aC v s M q=q v M:=rfl
theorem e_op:aOp r ta tb s M q=ta s M (DB (tb s M1 λy M2=>r x y M2 q)):=rfl
theorem e_un {r:A->MA->KA->Prop}:aUn r ta s M q=ta s M (DB (r x M1 q)):=rfl
def cn7:jL t u D s M=t { D with nx:=u D } s M:=rfl
def cg8:jX D s M=ZGX M:=rfl
def cq5:iT ta g D s M=ta s M (DB (g x s M1 D.nx)):=rfl
def oa {v:A}:dF i v s M f=f ZLM M:=rfl
def co0:mN ta D s M=ta s M D.rt:=rfl
def ch5:kB ta D s M=ta s M λy_ M1=>ZGX M1:=rfl
def cp8:mU tA t u D s M=tA s M (MQ (Ak (b=true) (t D s M1) (u D s M1))):=rfl
theorem e_if:aIf tA ta tb s M q=tA s M (MQ (Ak (b=true) (ta s M1 q) (tb s M1 q))):=rfl
def cg2:jT ta s M qb=ta s M λx M'=>match x with
 | .bl b=>qb b M'
 | _=>False:=rfl
def co6:mP tA s M qb=tA s M (Hb (qb (!c) M1)):=rfl
def cr0:mX tA tB s M qb=tA s M (Hb (Ak (c=true) (tB s M1 qb) (qb false M1))):=rfl
theorem e_or:aOr tA tB s M qb=tA s M (Hb (Ak (c=true) (qb true M1) (tB s M1 qb))):=rfl
def co7 {f:Oe->MA->Prop}:mQ s M f=f [] M:=rfl
def ch6 {f:Oe->MA->Prop}:kC ta tr s M f=ta s M (DB (tr s M1 λxs M2=>f (x::xs) M2)):=rfl
def ch8:fM Φ tr s M q=tr s M λxs M1=>Φ xs M1 q:=rfl
def cn0:mF tr s M q=tr s M (Kx (xs.length<=sizeLine/\q Qm M1)):=rfl
def cp3:mS tr s M q=tr s M (Kx (xs.length<=sizeLine/\∀p,M1 p=none->q Pw (Nu M1 p xs))):=rfl
def cp0 {i:Int}:jD P1 Wl M q=(IntMulOk i j/\q (BR (i*j)) M):=rfl
def cr1 {i:Int}:kO P1 Wl M q=q (BR (i+j)) M:=rfl
theorem e_j2 {f:Int->Int->A}{i:Int}:rJ2 f P1 Wl M q=q (f i j) M:=rfl
theorem e_i2 {C:Int->Int->Prop}{f:Int->Int->A}{i:Int}:rI2 C f P1 Wl M q=(C i j/\q (f i j) M):=rfl
def co9 {i:Int}:kJ P1 M q=q (BR (-i)) M:=rfl
def b72 {xs:List A}:rSub (.tup xs) (.int k) M q=match atI xs k with
 | some a=>q a M
 | none=>False:=rfl
def co4:UF VV 0 M q=q ZKC M:=rfl
def co3:UF VV 1 M q=q ZKE M:=rfl
def co2:UF VV 2 M q=q ZKD M:=rfl
def cr2 {i:Int}:c1 kW [P1] M q=q (ZX (i<0) (-i) i) M:=rfl
end
open PySem.SeqAt
def cq3 {i:Int}:rEq n (.int i) (.int j) M q=q (.bl (decide (i=j) != n)) M:=propext ⟨λ⟨d,e,h1,h2,_,h⟩=>by
 cases h1;cases h2;show h,λh=>⟨_,_,rfl,rfl,rfl,h⟩⟩
def cq4 {i j:Bool}:rEq n (.bl i) (.bl j) M q=q (.bl ((i == j) != n)) M:=propext ⟨λ⟨d,e,h1,h2,_,h⟩=>by
 cases h1;cases h2;show h,λh=>⟨_,_,rfl,rfl,rfl,h⟩⟩
def ak2 (p r:Pt3):same (Hx [ZKC,ZKE,ZKD]) (Hx [BR r.x,BR r.y,BR r.z])=Cd (p=r):=by
 have:(p=r)↔(p.x=r.x/\p.y=r.y/\p.z=r.z):=by
  constructor
  .rintro rfl;show⟨rfl,rfl,rfl⟩
  .cases p;simp_all
 simp only[same,sameAll,Bool.and_true,this,Bool.decide_and];rfl
def cq2 {r:Pt3}:rEq n (Pa p) (Pa r) M q=q (.bl (decide (p=r) != n)) M:=propext ⟨λ⟨d,e,h1,h2,_,h⟩=>by
 cases h1;cases h2;rw[ak2] at h;show h,λh=>⟨_,_,rfl,rfl,rfl,by rw[ak2];show h⟩⟩
variable {l:Addr}
section
variable {k x:A}
set_option tactic.hygienic true in
def bt3:rSub (.ref l) k M q=match M l with
  | some (.lst xs)=>(match k with
   | .int i=>(match atI xs i with
    | some a=>q a M
    | none=>False)
   | _=>False)
  | some (.dct n _ kvs)=>aQ n k/\(match aH kvs k with
   | some v=>q v M
   | none=>False)
  | _=>False:=propext ⟨λh=>by
 rcases h with⟨xs,i,a,rfl,e,e2,h⟩|⟨n,o,kvs,v,e,e2,e3,h⟩
 .simp_all
 simp_all,λh=>by
 split at h
 .rename_i xs e;split at h
  .split at h
   .rename_i e2;show .inl ⟨xs,_,_,rfl,e,e2,h⟩
   .show h.elim
  .show h.elim
 .rename_i n o kvs e;let⟨h1,h⟩:=h;split at h
  .rename_i e2;show .inr ⟨n,o,kvs,_,e,h1,e2,h⟩
  .show h.elim
 .show h.elim⟩
set_option tactic.hygienic true in
def bt5 {v:A}{f:MA->Prop}:fH (.ref l) k v M f=match M l with
  | some (.lst xs)=>(match k with
   | .int i=>(match ixN xs.length i with
    | some j=>f (ZHv (xs.set j v))
    | none=>False)
   | _=>False)
  | some (.dct n _ kvs)=>aQ n k/\kvs.length<sizeLine/\∀o',f (Vl l (ZFw n (Tv k v)))
  | _=>False:=propext ⟨λh=>by
 rcases h with h|⟨n,o,kvs,e,h1,h2,h⟩
 .unfold setL at h;split at h
  .rename_i h0;let⟨xs,j,e,e2,h⟩:=h
   simp_all
  .show h.elim
 .simp only[e];show⟨h1,h2,h⟩,λh=>by
 split at h
 .rename_i xs e;split at h
  .split at h
   .rename_i e2;show .inl ⟨xs,_,e,e2,h⟩
   .show h.elim
  .show h.elim
 .rename_i n o kvs e;show Eh (B0 n o kvs e h)
 .show h.elim⟩
set_option tactic.hygienic true in
def cq6 {y:A}:bV (.ref l) [y] M q=match M l with
  | some (.lst xs)=>xs.length<sizeLine/\q .non (ZHv (xs++[y]))
  | _=>False:=propext ⟨λ⟨xs,e,h⟩=>by simp only[e];show h,λh=>by
 split at h
 .rename_i xs e;show⟨xs,e,h⟩
 .show h.elim⟩
set_option tactic.hygienic true in
def cq0 {y:A}:eO (.ref l) [y] M q=match M l with
  | some (.lst xs)=>(match itm M y with
   | some ys=>xs.length+ys.length<=100000/\q .non (ZHv (xs++ys))
   | none=>False)
  | _=>False:=propext ⟨λ⟨xs,ys,e,e2,h⟩=>by simp only[e,e2];show h,λh=>by
 split at h
 .rename_i xs e;split at h
  .rename_i ys e2;show⟨xs,ys,e,e2,h⟩
  .show h.elim
 .show h.elim⟩
theorem e_lm {r:A->Oe->MA->KA->Prop}{to:TEA}:aLM r to tr s M q=to s M (DB ((∃l xs,x=On/\ZGx=Ou)/\tr s M1 λvs M2=>r x vs M2 q)):=rfl
set_option tactic.hygienic true in
def ch1:c1 iN [.ref l] M q=match M l with
  | some (.lst xs)=>q Tj M
  | _=>False:=propext ⟨λ⟨xs,e,h⟩=>by simp_all,λh=>by
 split at h
 .rename_i xs e;show⟨xs,e,h⟩
 .show h.elim⟩
def ch0 {xs:Oe}:c1 iN [Qm] M q=q Tj M:=rfl
set_option tactic.hygienic true in
def cg9:c1 jQ [x] M q=match itm M x with
  | some xs=>∀p,M p=none->q Pw (ZBg p xs)
  | none=>False:=propext ⟨λ⟨xs,e,h⟩=>by simp only[e];show h,λh=>by
 split at h
 .rename_i xs e;show⟨xs,e,h⟩
 .show h.elim⟩
set_option tactic.hygienic true in
def b37:c1 iM [x] M q=match itm M x with
  | some xs=>q Qm M
  | none=>False:=propext ⟨λ⟨xs,e,h⟩=>by simp_all,λh=>by
 split at h
 .rename_i xs e;show⟨xs,e,h⟩
 .show h.elim⟩
def ch2:itm M (.ref l)=match M l with
  | some (.lst xs)=>some xs
  | _=>none:=rfl
def az3 {xs:Oe}:itm M Qm=ZJv:=rfl
set_option tactic.hygienic true in
def az6 {l':Addr}:kO (.ref l) (.ref l') M q=match M l,M l' with
  | some (.lst xs),some (.lst ys)=>xs.length+ys.length<=sizeLine/\∀p,M p=none->q Pw (ZBg p (xs++ys))
  | _,_=>False:=propext ⟨λ⟨xs,ys,e,e2,h⟩=>by simp only[e,e2];show h,λh=>by
 split at h
 .rename_i xs ys e e2;show⟨xs,ys,e,e2,h⟩
 .show h.elim⟩
set_option tactic.hygienic true in
def ch3:gI (.ref l) k M q=match M l with
  | some (.lst xs)=>(match k with
   | .int i=>0<=i/\(match atI xs i with
    | some a=>q a M
    | none=>False)
   | _=>False)
  | _=>False:=propext ⟨λh=>by
 unfold gI at h;split at h
 .rename_i h0;let⟨xs,a,e,h1,e2,h⟩:=h
  simp_all
 .show h.elim,λh=>by
 split at h
 .rename_i xs e;split at h
  .let⟨h1,h⟩:=h;split at h
   .rename_i e2;show⟨xs,_,e,h1,e2,h⟩
   .show h.elim
  .show h.elim
 .show h.elim⟩
set_option tactic.hygienic true in
def a99 {f:List A->(MA->Prop)->MA->Prop}:gZ (.ref l) M f=match M l with
  | some (.lst xs)=>f xs (E4 (Vz=Ou)) M
  | some (.dct n o kvs)=>f (Xu p.1) (E4 (Vz=ZBC)) M
  | _=>False:=propext ⟨λh=>by
 rcases h with⟨xs,e,h⟩|⟨n,o,kvs,e,h⟩
 .simp only[e];show h
 simp_all,λh=>by
 split at h
 .rename_i xs e;show .inl ⟨xs,e,h⟩
 .rename_i n o kvs e;show .inr ⟨n,o,kvs,e,h⟩
 .show h.elim⟩
def b36 {xs:List A}{f:List A->(MA->Prop)->MA->Prop}:gZ (.tup xs) M f=f xs (λy_=>True) M:=propext ⟨λh=>by
 rcases h with h|h
 .show h
 .show h.elim,λh=>.inl h⟩
set_option tactic.hygienic true in
def cp7 {neg:Bool}:rIn neg k (.ref l) M q=match M l with
  | some (.dct n _ kvs)=>aQ n k/\q (.bl ((Tb).isSome != neg)) M
  | _=>False:=propext ⟨λ⟨n,o,kvs,e,h⟩=>by simp only[e];show h,λh=>by
 split at h
 .rename_i n o kvs e;show⟨n,o,kvs,e,h⟩
 .show h.elim⟩
end
variable {te:TEA}{tc:TTA}{P:MA->Prop}
section
variable {to ti:TEA}{wi:TIA}{rg:RA}{w:RIA}{n:Nat}
def cp9:mV wi g t D s M=wi s M (MN (cG g t P D xs s M1)):=rfl
def cf8 {f:Oe->(MA->Prop)->MA->Prop}:gT w te s M f=te s M (DB (w x M1 f)):=rfl
def ch9 {v:A}{ts:cL}:mE to ti ts v s M f=to s M (MO (ti s M1 (MP (ts o i v M2 λM3=>f s M3)))):=rfl
def ci0 {ts:cL}:kD to ti te rg r ts D s M=to s M (MO (ti s M1 (MP (rg o i M2 λx M3=>te s M3 λy M4=>r x y M4 λz M5=>ts o i z M5 λM6=>ZGX M6)))):=rfl
def bt2 {xs:Oe}{us:fK}:jJ n us Qm s M f=(xs.length=n/\us xs s M f):=rfl
def az5:jK [] s M f=f s M:=propext (A3 (CG h.2) (CG (OI h)))
def wx {x:A}{xs:Oe}{us:fK}:fE g us (x::xs) s M f=g x s M λs' M'=>us xs s' M' f:=rfl
def ch7 {js:VZ}:gU n js wi g tc te s M q=wi s M (MN (∀D,M1 D=none->eJ g tc te P D (q Wi) xs (ZE3++V0 ((s[j]?).join)) (Qb M1 D))):=rfl
def bf7 {xs:Oe}(I:Nat->SA->MA->Prop)(hP:∀i s M,I i s M->P M)
  (step:∀i x s M (N:SA->MA->Prop),xs[i]?=OZ->I i s M->(∀s' M',I (i+1) s' M'->N s' M')->g x s M λs1 M1=>t { D with nx:=N,ct:=N,bk:=D.nx } s1 M1)
  (fin:∀s M,I xs.length s M->ZGX M):∀(k i:Nat) s M,i+k=xs.length->I i s M->cG g t P D (Dp i) s M:=by
 intro k
 induction k with
 | zero=>
  intro i s M e h;rw[show i=xs.length by omega] at h ⊢;rw[List.drop_length];show A3 (hP _ _ _ h) (fin s M h)
 | succ k ih=>
  intro i s M e h;rw[List.drop_eq_getElem_cons Ab];show A3 (hP _ _ _ h) (step i _ s M _ (Ax Ab) h λs' M' h'=>ih (i+1) s' M' Ab h')
theorem loop {xs:Oe}(I:Nat->SA->MA->Prop)(h0:I 0 s M)(hP:∀i s M,I i s M->P M)
  (step:∀i x s M (N:SA->MA->Prop),xs[i]?=OZ->I i s M->(∀s' M',I (i+1) s' M'->N s' M')->g x s M λs1 M1=>t { D with nx:=N,ct:=N,bk:=D.nx } s1 M1)
  (fin:∀s M,I xs.length s M->ZGX M):cG g t P D xs s M:=by
 have:=bf7 I hP step fin xs.length 0 s M Aq h0
 simp_all
def p9 {c:TTA}(I:Nat->SA->MA->Prop){n:Nat}(h0:I n s M)
  (step:∀n s M (N:SA->MA->Prop),I n s M->(∀m s' M',m<n->I m s' M'->N s' M')->c s M (MQ (Ak (b=true) (t { D with nx:=N,ct:=N,bk:=D.nx } s M1) (ZGX M1)))):iP c t D s M:=by
 have key:∀k n s M,n<=k->I n s M->eK c t D (k+1) s M:=by
  intro k
  induction k with
  | zero=>
   intro n s M hn h;show step n s M _ h λm s' M' hm=>Aw
  | succ k ih=>
   intro n s M hn h;show step n s M _ h λm s' M' hm h'=>ih m s' M' Ab h'
 show A3 (n+1) (key n n s M As h0)
def bp0 {k:MA->Prop}{D:Addr}{xs:Oe}(I:Nat->Oe->SA->MA->Prop)(hP:∀i ys s M,I i ys s M->P M)
  (step:∀i x ys s M (N:SA->MA->Prop) (Y:SA->A->MA->Prop),xs[i]?=some x->I i ys s M->(∀s' M',I (i+1) ys s' M'->N s' M')->(∀s' y M',M' D=some (.lst ys)->ys.length<sizeLine->I (i+1) (ys++[y]) s' (put M' D (.lst (ys++[y])))->Y s' y M')->
   g x s M λs2 M2=>tc s2 M2 λb M3=>if b=true then te s2 M3 (Y s2) else N s2 M3)
  (fin:∀ys s M,I xs.length ys s M->k M):∀(m i:Nat) ys s M,i+m=xs.length->I i ys s M->eJ g tc te P D k (Dp i) s M:=by
 intro m
 induction m with
 | zero=>
  intro i ys s M e h;rw[show i=xs.length by omega] at h ⊢;rw[List.drop_length];show A3 (hP _ _ _ _ h) (fin ys s M h)
 | succ m ih=>
  intro i ys s M e h;rw[List.drop_eq_getElem_cons Ab];show A3 (hP _ _ _ _ h) (step i _ ys s M _ (λs2 y M4=>∃ys,M4 D=WM/\ys.length<sizeLine/\eJ g tc te P D k (Dp (i+1)) s2 (Nu M4 D (ys++[y]))) (Ax Ab) h (λs' M' h'=>ih (i+1) ys s' M' Ab h') λs' y M' h1 h2 h'=>By ys h1 h2 (ih (i+1) _ s' _ Ab h'))
def ay3 {k:MA->Prop}{D:Addr}{xs:Oe}(I:Nat->Oe->SA->MA->Prop)(h0:I 0 [] s M)(hP:∀i ys s M,I i ys s M->P M)
  (step:∀i x ys s M (N:SA->MA->Prop) (Y:SA->A->MA->Prop),xs[i]?=some x->I i ys s M->(∀s' M',I (i+1) ys s' M'->N s' M')->(∀s' y M',M' D=some (.lst ys)->ys.length<sizeLine->I (i+1) (ys++[y]) s' (put M' D (.lst (ys++[y])))->Y s' y M')->
   g x s M λs2 M2=>tc s2 M2 λb M3=>if b=true then te s2 M3 (Y s2) else N s2 M3)
  (fin:∀ys s M,I xs.length ys s M->k M):eJ g tc te P D k xs s M:=by
 have:=bp0 I hP step fin xs.length 0 [] s M Aq h0
 simp_all
def pp {M:MA}{a:Addr}{o o':O}:put (Vl a o) a o'=Vl a o':=by
 funext b;unfold put;split <;> rfl
def wp {k:MA->Prop}{D:Addr}{xs:Oe}{cs:SA}(n:Nat)(f:A->A)(hl:xs.length<=sizeLine)(hP:∀o,P (Vl D o))
  (el:∀x∈xs,∀(vs:SA) o (Y:SA->A->MA->Prop),vs.length=n->(∀vs':SA,vs'.length=n->Y (vs'++cs) (f x) (Vl D o))->g x (vs++cs) (Vl D o) (Kw (te s2 M2 (Y s2))))
  (fin:k (ZBg D (Ff f))):eJ g fF te P D k xs (ZE3++cs) (Qb M D):=by
 show ay3 (GD (i<=xs.length/\ys=(Zc).map f/\M'=ZBg D ys/\∃vs:SA,vs.length=n/\s'=vs++cs)) (Dt Bh Aq rfl _ Aq rfl) ?_ ?_ ?_
 .simp_all
 .rintro i x ys s' M' N Y hx ⟨hi,hy,rfl,vs,hv,rfl⟩ hN hY;have hi':=(ZJ4).1;show el x ZAC vs _ Y hv λvs' hv'=>Jz ak ?_ (Dt Ab ?_ (by rw[pp]) vs' hv' rfl)
  .rw[hy,List.length_map,List.length_take];lia
  .rw[hy,List.take_add_one,hx,List.map_append];rfl
 simp_all
end
def Sm (M M':MA):Prop:=∀a o,ZP=Nd->ZGy=Nd
def SmB (l:Addr)(M M':MA):Prop:=∀a o,ZP=Nd->a≠l->ZGy=Nd
def Sm.refl (M:MA):ZJb M:=Hi h
variable {M' M'':MA}
def Sm.trans (a:Td)(b:Sm M' M''):ZJb M'':=Hi (b _ _ (a _ _ h))
def Sm.new {o:O}(h:Sv=none):ZJb (Vl l o):=λa u e=>by
 rw[cf λz=>by simp_all];show e
def Sm.free (s:Td)(h:Vz=none):Sv=none:=by
 cases e:M l with
 | none=>rfl
 | some o=>rw[s l o e] at h;cases h
def SmB.refl (l:Addr)(M:MA):SmB l M M:=ZFS
def SmB.trans (a:QG l M)(b:SmB l M' M''):SmB l M M'':=λy_ y_ h n=>b _ _ (a _ _ h n) n
def SmB.put {l:Addr}{M:MA}{o:O}:SmB l M (JJ M l o):=λa u e n=>by rw[cf n];show e
def Sm.toB (s:Td):QG l M:=λa o e y_=>s a o e
variable {b:Bool}
def db {a b:Addr}{o:O}(h:ZP=Nd)(h':M b=none):a≠b:=BT Aw
noncomputable def pt (a:A)(f:Pt3->Prop):Prop:=match a with
 | .tup [.int x,.int y,.int z]=>f ⟨x,y,z⟩
 | _=>False
variable {f:Pt3->Prop}
def ck9:pt VV f=f p:=rfl
def dw {a:A}(h:pt a f):∃p,a=VV/\f p:=by
 cases a with
 | tup l=>
  rcases l with _|⟨x,l⟩;show h.elim;cases x with
  | int x=>
   rcases l with _|⟨y,l⟩;show h.elim;cases y with
   | int y=>
    rcases l with _|⟨z,l⟩;show h.elim;cases z with
    | int z=>cases l;show⟨⟨x,y,z⟩,rfl,h⟩;show h.elim
    | _=>show h.elim
   | _=>show h.elim
  | _=>show h.elim
 | _=>show h.elim
noncomputable def nm (a:A)(f:Int->Prop):Prop:=match a with
 | .int i=>f i
 | _=>False
variable {f:Int->Prop}
theorem nm_i {i:Int}:nm P1 f=f i:=rfl
def nj {a:A}(h:nm a f):∃i,a=P1/\f i:=by
 unfold nm at h;split at h
 .show Ts h
 .show h.elim
noncomputable def rf (a:A)(f:Addr->Prop):Prop:=match a with
 | .ref l=>f l
 | _=>False
variable {f:Addr->Prop}
theorem rf_r:rf On f=f l:=rfl
def wc {a:A}(h:rf a f):∃l,a=On/\f l:=by
 unfold rf at h;split at h
 .show Ts h
 .show h.elim
section
variable {c:Prop}[Decidable c]{X Y:Prop}
theorem ifn (h1:¬c->X)(h2:c->Y):Ak ((decide c != true)=true) X Y:=by
 simp_all
theorem ife (h1:c->X)(h2:¬c->Y):Ak ((decide c != false)=true) X Y:=by
 simp_all
theorem ifd (h1:c->X)(h2:¬c->Y):Ak (Cd c=true) X Y:=by
 simp_all
theorem ifb (h1:b=true->X)(h2:b=false->Y):Ak (b=true) X Y:=by
 simp_all
end
def le3 {a b c:A}:[a,b,c].length<=sizeLine:=by rw[sizeLine_eq];simp
variable {f:Oi->MA->Prop}
section
variable {tB:TTA}
set_option tactic.hygienic true in
def cg1:kX ta s M qb=ta s M λx M'=>match fW M' x with
  | some k=>qb k M'
  | none=>False:=by
 unfold kX;congr 1;funext x M';show propext ⟨λ⟨k,e,h⟩=>by rw[e];show h,λh=>by
  split at h
  .rename_i k e;show⟨k,e,h⟩
  .show h.elim⟩
def cn1:fW M ZBx=UK:=rfl
def cn2:fW M (.ref l)=match M l with
  | some (.lst xs)=>some (!xs.isEmpty)
  | _=>none:=rfl
def ci2:kE ta tb s M q=ta s M λx M1=>match x with
  | .bl c=>if c=true then tb s M1 q else q Zq M1
  | _=>False:=rfl
def co5:oJ ta tb s M q=ta s M λx M1=>match x with
  | .bl c=>if c=true then q TN M1 else tb s M1 q
  | _=>False:=rfl
def cg7:jW ta s M q=ta s M λx M1=>match x with
  | .bl c=>q (.bl (!c)) M1
  | _=>False:=rfl
def bt6:iR D s M=False:=rfl
def cp6:c1 kT [ZBx] M q=q (ZX b 1 0) M:=rfl
def cp2 {i:Int}:c2 (rJ2 (CL (Er (Ak (j > i) j i)))) [P1,Wl] M q=q (ZX (j > i) j i) M:=rfl
def cp1 {i:Int}:c2 (rJ2 (CL (Er (Ak (j<i) j i)))) [P1,Wl] M q=q (ZX (j<i) j i) M:=rfl
def cg5:mM D s M=D.rt .non M:=rfl
def co1 {j:Nat}:mO i j tr D s M=tr s M λvs M1=>match vs with
  | [v,w]=>D.nx ((ZLM).set j ZEY) M1
  | _=>False:=rfl
def cg6 {j k:Nat}:jV i j k tr D s M=tr s M λvs M1=>match vs with
  | [v,w,u]=>D.nx (((ZLM).set j ZEY).set k O8) M1
  | _=>False:=rfl
set_option tactic.hygienic true in
def ci1:mW i te r D s M=match s[i]? with
  | some (some x)=>te s M λy M1=>r x y M1 λz M2=>D.nx (VS Wf) M2
  | _=>False:=propext ⟨λ⟨x,e,h⟩=>by rw[e];show h,λh=>by
 split at h
 .rename_i x e;show⟨x,e,h⟩
 .show h.elim⟩
theorem e_sl {tl th:TOA}:aSl ta tl th s M q=ta s M (DB (tl s M1 λl M2=>th s M2 λu M3=>rSl x l u M3 q)):=rfl
def cq8:aoN s M f=f none M:=rfl
def cq7:aoS ta s M f=ta s M λx M1=>match x with
  | .int i=>f ZCP M1
  | _=>False:=rfl
set_option tactic.hygienic true in
def cn5 {lo hi:Option Int}:rSl (.ref l) lo hi M q=match M l with
  | some (.lst xs)=>∀p,M p=none->q Pw (ZBg p (bN xs lo hi))
  | _=>False:=propext ⟨λ⟨xs,e,h⟩=>by simp only[e];show h,λh=>by
 split at h
 .rename_i xs e;show⟨xs,e,h⟩
 .show h.elim⟩
def cf7 {f:List A->(MA->Prop)->MA->Prop}:jS tr s M f=tr s M λvs M1=>match vs with
  | [.ref l,.ref k]=>∃xs ys,M1 l=some Ps/\M1 k=some YT/\f (zA xs ys) (E4 (Vz=Ou/\M' k=WM)) M1
  | _=>False:=rfl
def cf6 {f:List A->(MA->Prop)->MA->Prop}:jR tr s M f=tr s M λvs M1=>match vs with
  | [.tup xs,.tup ys]=>f (zA xs ys) Uj M1
  | _=>False:=rfl
def cn8 {f:List A->(MA->Prop)->MA->Prop}:mK tr s M f=tr s M λvs M1=>match vs with
  | [.int j]=>-(2 ^ 62)<=j/\j<2 ^ 62/\f (rgA 0 j.toNat) Uj M1
  | _=>False:=rfl
def ch4 {f:List A->(MA->Prop)->MA->Prop}:jZ tr s M f=tr s M λvs M1=>match vs with
  | [.ref l]=>∃xs,M1 l=some Ps/\f (eA xs) (E4 (Vz=Ou)) M1
  | _=>False:=rfl
def cp5 {x:A}{n:String}:c2 kR [x,.ty n] M q = ∃t k,tyA M x=Af t/\(∀K,JW K (C7 t) (C7 n)=YO)/\q ZFE M:=rfl
end
def Hd (M:MA)(hd sc:Addr):Prop:=∃(ns:List Int) (i b c p r:Int),M hd=SO [A5 sc,P1,BR b,BR c,BR p,BR r]/\M sc=NZ PQ/\0<=i
variable {p hd sc:Addr}
def Hd.ne {ns:NX}{i b c p r:Int}(h1:M hd=SO [A5 sc,P1,BR b,BR c,BR p,BR r])(h2:M sc=NZ PQ):sc≠hd:=by
 intro e;subst e;rw[h1] at h2;cases ns with
 | nil=>simp at h2
 | cons n ns=>simp at h2
def Hd.same (h:SL M)(s:Td):VC:=by
 let⟨ns,i,b,c,p,r,h1,h2,h3⟩:=h;show IV ns i b c p r (s _ _ h1) (s _ _ h2) h3
def Hd.ls (h:SL M):∃xs,M hd=Ou:=by
 let⟨ns,i,b,c,p,r,h1,h2,h3⟩:=h;show Xq h1
section
variable {f:MA->Prop}{a b c x y z u v:A}{xs ys:Oe}
def c7 (h:Sv=Ou)(e:atI xs k=RS):UF On k M q=q a M:=by rw[bt3];simp only[h,e]
def an6 (h:Sv=Ou)(e:XI k=ZCP):fH On (BR k) v M f=f (ZHv (xs.set i v)):=by rw[bt5];simp only[h,e]
def b68 (h:Sv=Ou)(h0:0<=k)(e:atI xs k=RS):gI On (BR k) M q=q a M:=by
 rw[ch3];simp_all
def ju (h:Sv=Ou):c1 iN [On] M q=q Tj M:=by rw[ch1];simp only[h]
def j6 (h:Sv=Ou):bV On [y] M q=(xs.length<sizeLine/\q .non (ZHv (xs++[y]))):=by rw[cq6];simp only[h]
def bs9 (h:Sv=Ou)(e:itm M y=Af ys):eO On [y] M q=(xs.length+ys.length<=100000/\q .non (ZHv (xs++ys))):=by rw[cq0];simp only[h,e]
def jy (h:Sv=Ou):(∃l' xs,Ej l=A5 l'/\M l'=Ou)=True:=eq_true (Pq l xs h)
def n6 (h:Sv=Ou):itm M On=ZJv:=by rw[ch2];simp only[h]
def fi {f:Oe->(MA->Prop)->MA->Prop}(h:Sv=Ou):gZ On M f=f xs (E4 (Vz=Ou)) M:=by rw[a99];simp only[h]
def g60 (h:Sv=SO [a,b,c,x,y,z]):UF On 0 M q=q a M:=ZGO
def g61 (h:Sv=SO [a,b,c,x,y,z]):UF On 1 M q=q b M:=ZGO
def g62 (h:Sv=SO [a,b,c,x,y,z]):UF On 2 M q=q c M:=ZGO
def g63 (h:Sv=SO [a,b,c,x,y,z]):UF On 3 M q=q x M:=ZGO
def g64 (h:Sv=SO [a,b,c,x,y,z]):UF On 4 M q=q y M:=ZGO
def g65 (h:Sv=SO [a,b,c,x,y,z]):UF On 5 M q=q z M:=ZGO
def h61 (h:Sv=SO [a,b,c,x,y,z]):gI On ZEc M q=q b M:=b68 h AC rfl
def h63 (h:Sv=SO [a,b,c,x,y,z]):gI On (BR 3) M q=q x M:=b68 h AC rfl
def p61 (h:Sv=SO [a,b,c,x,y,z]):fH On ZEc v M f=f (OH M l [a,v,c,x,y,z]):=WW 1 h
def p62 (h:Sv=SO [a,b,c,x,y,z]):fH On (BR 2) v M f=f (OH M l [a,b,v,x,y,z]):=WW 2 h
def p63 (h:Sv=SO [a,b,c,x,y,z]):fH On (BR 3) v M f=f (OH M l [a,b,c,v,y,z]):=WW 3 h
def p64 (h:Sv=SO [a,b,c,x,y,z]):fH On (BR 4) v M f=f (OH M l [a,b,c,x,v,z]):=WW 4 h
def p65 (h:Sv=SO [a,b,c,x,y,z]):fH On (BR 5) v M f=f (OH M l [a,b,c,x,y,v]):=WW 5 h
def le6:[a,b,c,x,y,z].length<=sizeLine:=by rw[sizeLine_eq];simp
end
section
variable {xs:Oe}
theorem atI_map {α:Type}{f:α->A}{ns:Ql}{n:α}(h0:0<=k)(h:ns[k.toNat]?=ZJx):atI (CQ f) k=Af (f n):=by
 have:=ba4 (xs:=CQ f) (j:=k.toNat) (v:=f n) Aw
 rwa [Int.toNat_of_nonneg h0] at this
def cy {α:Type}{f:α->A}{ns:Ql}{n:α}{j:Nat}(h:ns[j]?=ZJx):atI (CQ f) (j:Int)=Af (f n):=
 ba4 Aw
end
def an9 {a b:TSA}(I:MA->Prop)(h1:∀N:SA->MA->Prop,(∀M,I M->N s M)->a { D with nx:=N } s M)(h2:∀M,I M->b D s M):jL a b D s M:=h1 _ λM h=>h2 M h
def jw {a b:TSA}(I:SA->MA->Prop)(h1:∀N,(∀s M,I s M->N s M)->a { D with nx:=N } s M)(h2:∀s M,I s M->b D s M):jL a b D s M:=h1 _ h2
section
variable {a b c d:A}
theorem at40:atI [a,b,c,d] 0=RS:=rfl
theorem at41:atI [a,b,c,d] 1=UK:=rfl
theorem at42:atI [a,b,c,d] 2=Qz:=rfl
theorem at43:atI [a,b,c,d] 3=ZJy:=rfl
end
def Hd.fresh (h:SL M)(hp:M p=none):p≠hd/\p≠sc:=by
 let⟨ns,i,b,c,x,r,h1,h2,h3⟩:=h;show A3 (T7 h1 hp) (T7 h2 hp)
def Hd.put {M:MA}{hd sc p:Addr}{o:O}(h:SL M)(n:p≠hd/\p≠sc):SL (JJ M p o):=by
 let⟨ns,i,b,c,x,r,h1,h2,h3⟩:=h;show IV ns i b c x r (by rw[cf (BX n.1)];show h1) (by rw[cf (BX n.2)];show h2) h3
def Hd.pts {ps:NT}(h:SL M)(hp:M p=ZKz):p≠hd:=by
 let⟨ns,i,b,c,x,r,h1,h2,h3⟩:=h;intro e;subst e;rw[h1] at hp;cases ps with
 | nil=>simp at hp
 | cons p ps=>simp[Pa] at hp
def Sm2 (k l:Addr)(M M':MA):Prop:=∀a o,ZP=Nd->a≠k->a≠l->ZGy=Nd
variable {k:Addr}
def Sm2.refl:Sm2 k l M M:=λy_ y_ h y_ y_=>h
def Sm2.trans (a:Sm2 k l M M')(b:Sm2 k l M' M''):Sm2 k l M M'':=λy_ y_ h n m=>b _ _ (a _ _ h n m) n m
def SmB.one (a:QG k M):Sm2 k l M M':=λy_ y_ h n y_=>a _ _ h n
def SmB.two (a:QG l M):Sm2 k l M M':=λy_ y_ h y_ n=>a _ _ h n
def Sm2.new {o:O}(a:Sm2 k l M M')(h:M p=none):Sm2 k l M (JJ M' p o):=λb u e n m=>by
 rw[cf λz=>by simp_all];show a _ _ e n m
def SmB.new {o:O}(a:QG k M)(h:M p=none):SmB k M (JJ M' p o):=λb u e n=>by
 rw[cf λz=>by simp_all];show a _ _ e n
variable {k:Nat}
def ak0 {lo:Int}:(rgA lo k).length=k:=by unfold rgA;simp
def b92 {x:A}(h:(rgA 0 k)[i]?=OZ):x=P1/\i<k:=by
 have hi:i<k:=by
  have:=(Ag h).1
  rwa [ak0] at this
 unfold rgA at h;rw[List.getElem?_map,List.getElem?_range hi] at h;show ZHE hi;injection h with h;rw[<-h];simp only[Int.zero_add]
def r9 {m:Int}(n:Nat)(hm:m.toNat=n)(I:Nat->SA->MA->Prop)(h0:I 0 s M)
  (step:∀(j:Nat) s M (N:SA->MA->Prop),j<n->I j s M->(∀s' M',I (j+1) s' M'->N s' M')->g Wl s M λs1 M1=>t { D with nx:=N,ct:=N,bk:=D.nx } s1 M1)
  (fin:∀s M,I n s M->ZGX M):cG g t Uj D (rgA 0 m.toNat) s M:=by
 rw[hm];show loop I h0 ZEa (λi x s M N hx h hN=>?_) (by rw[ak0];show fin);let⟨rfl,hi⟩:=b92 hx;show step i s M N hi h hN
variable {scope:Scope}
section
variable {G:G3}{X:Cx}{e a b c:Expr}{es:Oh}{tc:TEA}{pos p2:Pos}{st:Stmt}{rest:RD}{u:TSA}
def cq {tg elt iter:Expr}{ifs:Oh}{ti:TIA}{tc:TTA}(tn:Pg)(ks:Au (Str×Addr×Nat))(js:VZ)(hc:X.calm=true)(hi:AI G X tg iter ti)
  (hg:∀C fp s0 H0,AG G (Qn X (tn++DN ((·.1))) (So ((k.1,k.2.1))) C fp s0 H0) tg g)
  (hq:∀C fp s0 H0,PIf (Qn X (tn++DN ((·.1))) (So ((k.1,k.2.1))) C fp s0 H0) ifs (upT G tc))
  (he:∀C fp s0 H0,RK (Qn X (tn++DN ((·.1))) (So ((k.1,k.2.1))) C fp s0 H0) elt te)
  (hclos:ZAL=Gx (So ((k.1,k.2.1)))) (hkind:scope.kind=.function) (hnames:∀x∈scope.names,x.2=.local->B9 x.1=N9) (hcell:∀y∈scope.names,y.2≠.cell)
  (hks:ZAf X ks) (hall:((Th).names.all (B5 ((p.2 != .cell && p.2 != .free) || ZEG (p.1 == k.1))))=true)
  (hs:∀x,ZLj=Gx x) (hj:DN ((·.2.2))=js) :
  CompR X ZH7 scope iter (up G (gU tn.length js ti g tc te)):=by
 subst hj;show b55 tn ks hc hi hg hq he hclos hkind hnames hcell hks hall hs
end
open PySem.W
section
variable {G:G3}{X:Cx}
def at9 {c:Addr}{arg body:Expr}{params:Arguments}{kp p pos:Pos}{x:Str}(t:Addr×Str×Pos)(ks:Au (Str×Addr×Nat))(js:VZ)
  (hr:Room (k+3) X.A) (hg:Zr "sorted") (hm:Iw "sorted" = none) (ha:AA G X ZH4 tr) (hcm:X.calm=true) (ht:t∈G.tabs) (nd:∀t'∈G.tabs,t'.1=t.1->t'=t) (hq:X.env.qual++"<lambda>" = t.2.1)
  (hcl:ZAL=Gx (So ((k.1,k.2.1)))) (hcode:X.env.code=ZCV) (hC:codeHdIn X.K c t.1=true) (hB:BM X.base X.mg) (hdef:ZLV=([],[]))
  (hbind:∀(c':Addr) (ctv u:Value),Ko (kla_fn "<lambda>" t.2.1 params body scope (So ((k.1,k.2.1))) ((S8).getD .none) WA ctv) (YR [u])=pure [(x,u)]) (hx:B9 x=N9) (hco:scope.isCoroutine=false) (hgen:scope.isGenerator=false) (hk:scope.kind=.function)
  (hcell:∀y∈scope.names,y.2≠.cell) (hks:Y2 X ks) (hall:(scope.names.all (B5 ((p.2 != .cell && p.2 != .free) || ZEG (p.1 == k.1))))=true)
  (he:∀fx f c' s0 H0,AE { G with fix:=fx } (fR X (x::DN ((·.1))) t.2.1 scope f c' (So ((k.1,k.2.1))) X.A.in1.in1 s0 H0) body te) (hfix:G.fix t.1=none)
  (hst:ZLK=(false,eval arg X.env)::ZLJ) (hpl:(ZLK).any (·.1)=false) (hj:DN ((·.2.2))=js) :
  AE G X (HG (CW "sorted" p) ZH4 [BH (Af "key") (ZJL body scope t.2.2) kp] pos) (iQ js tr te):=by
 subst hj;show b53 t ks hr hg hm ha hcm ht nd hq hcl hcode hC hB hdef hbind hx hco hgen hk hcell hks hall he hfix hst hpl
end
end L3
namespace L3
open PySem PySem.Spec PyProof.Rows L2
variable {M:MA}{q:Pt3}{l:Addr}{n:Nat}{o:Obj}{te:TEA}{f:Bit}{g:TGA}
section
variable {q:KA}{k x v:A}{kvs:Au (A×A)}{s:SA}{to tf ta:TEA}{tr:TAA}{f:MA->Prop}
def ab2 (h:Sv=ZBC)(hk:aQ n k)(e:Tb=Pm):rSub On k M q=q v M:=by
 rw[bt3];simp_all
def cf4 {neg:Bool}(h:Sv=ZBC)(hk:aQ n k):rIn neg k On M q=q (.bl ((Tb).isSome != neg)) M:=by
 rw[cp7];simp_all
def an7 (h:Sv=ZBC):fH On k v M f=(aQ n k/\kvs.length<sizeLine/\∀o',f (Vl l (ZFw n (Tv k v)))):=by rw[bt5];simp only[h]
def bi6 {f:Oe->(MA->Prop)->MA->Prop}(h:Sv=ZBC):gZ On M f=f (Xu p.1) (E4 (Vz=ZBC)) M:=by rw[a99];simp only[h]
def a88 {f:List A->(MA->Prop)->MA->Prop}(h:M l=some (.dct n o kvs)):gC (.ref l) M f=f (kvs.map λp=>.tup [p.1,p.2]) (λM'=>M' l=some (.dct n o kvs)) M:=propext ⟨λ⟨n',o',kvs',e,h'⟩=>by
 simp_all,λh'=>⟨n,o,kvs,h,h'⟩⟩
def co8:mR s M q = ∃n,n<=7/\∀p o,M p=none->q Pw (Vl p (ZDS n o)):=rfl
def bt7:jY to te tf s M q=to s M (DB (∃l n o kvs,x=On/\ZGx=ZBC/\te s M1 λk M2=>tf s M2 λz M3=>∃n o kvs,M3 l=ZBC/\aQ n k/\q ((Tb).getD z) M3)):=rfl
def cg3:jU to te tf s M q=to s M λx M1=>∃l n o kvs,x=.ref l/\M1 l=some (PX n o)/\te s M1 λk M2=>tf s M2 λz M3=>∃n o kvs,M3 l=some (PX (n+1) o)/\aQ (n+1) k/\kvs.length<sizeLine/\
 (∀v,Tb=Pm->q v M3)/\(Tb=none->∀o',q z (put M3 l (ZFw (n+1) (kvs++[(k,z)])))):=rfl
def b38:c1 gK [On] M q = ∃n o kvs,Sv=ZBC/\∀p,M p=none->q Pw (ZBg p (FQ (BT z.1))):=rfl
def az4:c1 iO [On] M q = ∃n kvs,n<=6/\Sv=NZ (Xu (ZHQ p.1 p.2))/\kvs.length<=100000/\(∀p∈kvs,hk (n+1) p.1=true)/\∀d o,M d=none->q ZHH (Vl d (Fm (n+1) o ZEJ)):=rfl
def cg4 {j:Int}:c1 kQ [Wl] M q=(0<=j/\∀p,M p=none->q Pw (Vl p (.rng j.toNat))):=rfl
def cq9 {g:Au Bool->Bool}:c1 (kU g) [On] M q = ∃bs:List Bool,Sv=NZ (Fh A.bl)/\q (.bl (g bs)) M:=rfl
def cn9:mL te s M q=te s M λx M1=>match x with
 | .ref l=>∃xs,M1 l=some Ps/\∀p,M1 p=none->q Pw (ZI M1 p)
 | _=>False:=rfl
def cn6 {tl th ts:TOA}:mJ te tl th ts s M q=te s M λx M1=>tl s M1 λl M2=>th s M2 λu M3=>ts s M3 λg M4=>match x,l,u,g with
 | .ref a,some k,none,some 2=>(k=0\/k=1)/\∃xs,M4 a=some Ps/\∀p,M4 p=none->q Pw (Nu M4 p (ev Ya))
 | _,_,_,_=>False:=rfl
def cn4 {tl th ts:TOA}:mI te tl th ts s M q=te s M λx M1=>tl s M1 λl M2=>th s M2 λu M3=>ts s M3 λg M4=>match x,l,u,g with
 | .ref a,none,none,some (-1)=>∃xs,M4 a=some Ps/\∀p,M4 p=none->q Pw (ZI M4 p)
 | _,_,_,_=>False:=rfl
def b39 {g:Addr}{Φ:SpA}{tx:TEA}:iS g Φ tx tr s M q=tx s M λx M1=>x=.ref g/\tr s M1 λxs M2=>Φ xs M2 q:=rfl
def cp4 {r:A->Oe->MA->KA->Prop}:mT r to s M q=to s M (DB ((∃l xs,x=On/\ZGx=Ou)/\r x [] M1 q)):=rfl
def bt4 {js:List Nat}:iQ js tr te s M q=tr s M λxs M1=>match xs with
 | [x]=>∃ys,gD M1 x=some ys/\ys.length<10000/\∃(bk:Bool) (kf:A->NX) (J:MA->Prop),J M1/\(∀y∈ys,(bk=true->∃n,ZJa=[n])/\ZJa≠[]/\∀M,J M->te (Qt::V0 ((s[j]?).join)) M λk M'=>J M'/\k=iK bk ZJa)/\
  ∀M zs D,J M->M D=none->List.Perm zs ys->((bk=true/\ys.length<64)->zs.Pairwise (Jn (GJ (kf b) (kf a)=false)))->q Wi (ZBg D zs)
 | _=>False:=rfl
def cg0 {qb:Bool->MA->Prop}:fF s M qb=qb true M:=rfl
end
variable {D:Addr}{M':MA}
def SmB.of_new {o:O}(h:M D=none)(s:QG D (JJ M D o)):Td:=λa u e=>s a u (by rw[cf (db e h)];show e) (db e h)
variable {a:Pt3}
def SmB.ne_new {a:Addr}{o:O}(h:M D=none)(s:QG D (JJ M D o))(e:ZGy=none)(hd:∃u,VT=O8):ZP=none/\a≠D:=by
 let⟨u,hu⟩:=hd;show A3 ((EB h s).free e) (BT Aw)
variable {cs:SA}{tc:TTA}{P k:MA->Prop}
section
variable {xs:Oe}
def a80 (n:Nat)(R:MA->A->A->Prop)(hR:∀M1 M2 x y,SmB D M1 M2->R M1 x y->R M2 x y)(hl:xs.length<=sizeLine)(hP:∀M',ZIr->P M')
  (el:∀(i:Nat) x,xs[i]?=OZ->∀(vs:SA) M' ys (Y:SA->A->MA->Prop),vs.length=n->ZIr->VT=WM->(∀(vs':SA) y M'',vs'.length=n->Sm M' M''->R M'' x y->Y (vs'++cs) y M'')->g x (vs++cs) M' (Kw (te s2 M2 (Y s2))))
  (fin:∀ys M',ZIr->VT=WM->CB (R M') xs ys->k M'):eJ g fF te P D k xs (ZE3++cs) (Qb M D):=by
 show ay3 (GD (i<=xs.length/\VT=WM/\ZIr/\CB (R M') Zc ys/\∃vs:SA,vs.length=n/\s'=vs++cs)) (Cu Bh ak EW (by show .nil) _ Aq rfl) ?_ ?_ ?_
 .simp_all
 .rintro i x ys s' M' N Y hx ⟨hi,hD,hs,pr,vs,hv,rfl⟩ hN hY;have hi':i<xs.length:=(ZJ4).1;show el i x hx vs M' ys Y hv hs hD λvs' y M'' hv' s' r=>Jz Z7 ?_ (Cu (by grind) ak ?_ ?_ vs' hv' rfl)
  .have:=ZJc;rw[List.length_take] at this;grind
  .show (To).trans SmB.put
  .rw[List.take_add_one,hx];show gz (cv pr λa b h=>hR _ _ _ _ ZCA h) (hR _ _ _ _ SmB.put r)
 simp_all
end
def Rl (M:MA)(l:Addr)(ps:NT):Prop:=Sv=ZKz
variable {ps:NT}
def Rl.same (h:Rl M l ps)(s:Td):Rl M' l ps:=s _ _ h
def Rl.but {d:Addr}(h:Rl M l ps)(s:QG d M)(n:l≠d):Rl M' l ps:=s _ _ h n
variable {p:Pt3}
def ke (h:VV=Pa q):p=q:=by
 cases p;unfold Pa at h;simp_all
variable {vs:SA}
def bf9 (h:vs.length=2):∃a b,vs=[a,b]:=by
 match vs,h with
 | [a,b],_=>show⟨a,b,rfl⟩
def qx (h:vs.length=1):∃a,vs=[a]:=by
 match vs,h with
 | [a],_=>show⟨a,rfl⟩
def b19 (h:vs.length=3):∃a b c,vs=[a,b,c]:=by
 match vs,h with
 | [a,b,c],_=>show⟨a,b,c,rfl⟩
def ip {α:Type}{P:α->Prop}:∀x∈([]:List α),P x:=MI (CN h List.not_mem_nil)
variable {b c:Pt3}
theorem cross_z {d:Pt3}(hc:0<c.z)(hd:0<d.z)(h:VP≠YA):(ZAT).z≠0:=by
 rw[show (ZAT).z=det a b d*c.z - det a b c*d.z by unfold aA det;grind];generalize det a b c=C at *;generalize det a b d=E at *;intro z;have key:∀{x y:Int},0<y->(0<x*y↔0<x)/\(x*y<0↔x<0):=λ{x y} hy=>by
  rcases Int.lt_trichotomy x 0 with h|h|h
  .have:=Int.mul_pos (show 0 < -x by simp_all) hy;rw[Int.neg_mul] at this;lia
  .subst h;simp
  .have:=Ci h hy;lia
 have k1:=key (x:=E) hc;have k2:=key (x:=C) hd;rw[show E*c.z=C*d.z by lia] at k1;show h ?_;unfold sgn;simp only[k2.1.symm.trans k1.1,k2.2.symm.trans k1.2]
def aj2:∀{rows:List (List Pt3)} {i:Nat} {r sh:List Pt3},rows[i]?=V6->tot (Kc i (r++sh))=ZJG+sh.length
 | [], _, _, _, h => by simp at h
 | a::l,0,r,sh,h=>by
  have e:=by simpa using h
  subst e;simp only[List.set_cons_zero,tot,List.length_append];lia
 | a::l,i+1,r,sh,h=>by
  have:=aj2    (sh:=sh) (by simpa using h);simp only[List.set_cons_succ,tot,this];lia
def aw6 (ha:XM)(hb:Vu):Lp (SC).1/\Lp (SC).2:=by
 rcases fm a b with⟨e1,e2⟩|⟨e1,e2⟩ <;> rw[e1,e2]
 .show A3 ha hb
 .show A3 hb ha
def bo8 {d:Pt3}(za:ZFL a)(zb:ZLe)(zc:ZFL c)(zd:ZFL d)(hc:ZAd)(hd:ZAe)(hcd:Fz c d):∀p∈aI a b c d,Sz (n+n+1+(n+n+1)+1) p:=by
 have up:∀{q:Pt3},ZFL q->Sz (n+n+1+(n+n+1)+1) q:=WG Ab;have zo:∀{a b:Pt3},ZFL a->ZLe->Sz n (SC).1/\Sz n (SC).2:=λ{a b} h1 h2=>by
  rcases fm a b with⟨e1,e2⟩|⟨e1,e2⟩ <;> rw[e1,e2]
  .show A3 h1 h2
  .show A3 h2 h1
 intro p hp;unfold aI at hp;by_cases h1:sgn QM=sgn Ri
 .rw[if_pos h1] at hp;split at hp
  .have zlo:ZFL (aT (SC).1 (T3).1):=by
    unfold aT;split
    .show (zo zc zd).1
    simp_all
   have zhi:ZFL (aV (SC).2 (T3).2):=by
    unfold aV;split
    .show (zo za zb).2
    .show (zo zc zd).2
   unfold aR at hp;split at hp
   .rw[List.mem_singleton.mp hp];show up zlo
   .split at hp
    .rcases List.mem_cons.mp hp with h|h
     .simp_all
     simp_all
    .cases hp
  .cases hp
 .rw[if_neg h1] at hp;split at hp
  .cases hp
  .rw [List.mem_singleton.mp hp]
   have z:=jk (jk za zb) (jk zc zd);show bn4 (cross_z hc.pos hd.pos h1) z.x z.y z.z
def gQ (xs:Au ((Pt3×Pt3)×NX))(rows:QK):Prop:=rows.length=xs.length/\∀(i:Nat) x r,xs[i]?=OZ->rows[i]?=V6->x.1.1∈r/\x.1.2∈r
def aW (a b:Pt3)(ps:NT):NT:=Ak (ahd a b=true) (aP (HY (Od z a b))) ((aP (HY (Od z a b))).reverse)
def aY (p q:Pt3):Pt3×Pt3:=Ak (RW=true) ((p,q)) ((q,p))
def aO (p q:Pt3)(ws:NX):NX:=Ak (RW=true) ws (ngL ws)
abbrev Stk:=(Pt3×Pt3)×NX
def aM (row:NT):Au (Pt3×Pt3):=row.zip (row.drop 1)
def aU (ws:NX)(es:Pp)(l:Au (Pt3×Pt3)):Pp:=Ms (λes e=>fI es (aY e.1 e.2) (ZBR e.1 e.2)) es
def aN (zs:Au (Stk×NT)):Pp:=zs.foldl (λes z=>aU z.1.2 es (ZR z.1.1.1 z.1.1.2 z.2)) []
def aJ (xs:Ph)(rows:QK):Pp:=(ZJd).filter λe=>e.2.any λn=>!decide (n=0)
variable {es:Pp}{e:Pt3×Pt3}{ns:NX}
def ba5 (h:ZDA=Af ns):(e,ns)∈es:=by
 unfold atB at h;cases f:es.find? (T8 (x.1=e)) with
 | none=>simp_all
 | some x=>
  grind
def bv3 {ms:NX}(h:ms.length=ns.length):(gB ns ms).length=ns.length:=by unfold gB;simp_all
variable {ws:NX}{m:Nat}
def bc5 (h:∀x∈es,x.2.length=m)(hw:ws.length=m):∀x∈dI es e ws,x.2.length=m:=by
 intro x hx;unfold dI at hx;split at hx
 .let⟨y,hy,rfl⟩:=TY;split
  .show hw
  .show h y hy
 .rcases List.mem_append.mp hx with hx|hx
  .show h x hx
  simp_all
set_option tactic.hygienic true in
def ag8 (h:∀x∈es,x.2.length=m)(hw:ws.length=m):∀x∈fI es e ws,x.2.length=m:=by
 show bc5 h ?_;split
 .rename_i ns z;have:=h _ (ba5 z);rw[bv3 Aw];show this
 .show hw
theorem along_len:(ZBR p q).length=ws.length:=by unfold aO ngL;split <;> simp
def uq {ws:NX}{m:Nat}(hw:ws.length=m):∀(l:List (Pt3×Pt3)) (es:List Bit),(∀x∈es,x.2.length=m)->(∀x∈aU ws es l,x.2.length=m)/\(aU ws es l).length<=es.length+l.length
 | [],es,h=>⟨h,Nat.le_refl _⟩
 | e::l,es,h=>by
  have:=uq hw l _ (ag8 (e:=aY e.1 e.2) (ws:=ZBR e.1 e.2) h (along_len.trans hw));have l1:(fI es (aY e.1 e.2) (ZBR e.1 e.2)).length<=es.length+1:=bk3;show A3 this.1 (Bq this.2 (by rw[List.length_cons];lia))
def bu2 (a b:Pt3)(ps:NT):(aW a b ps).length<=ps.length:=by
 unfold aW;have:=Bq (ag4 (HY (Od z a b))) (List.length_filter_le _ _);split
 .show this
 simp_all
def ai0 (h:∀p∈ps,Pc):(aW a b ps).Nodup/\∀z∈aW a b ps,z∈ps:=by
 let⟨s,m⟩:=ie  (Bg (h p (BS hp).1));unfold aW;split
 .show A3 s.nodup (Cv ((BS ((m z).mp hz)).1))
 .show A3 (List.pairwise_reverse.mpr (s.nodup.imp λh e=>h e.symm)) (Cv ((BS ((m z).mp (IL hz))).1))
def aD (es:Pp):UO:=es.foldl (λos e=>aX (Z8 e.1.1 e.1.2) e.1.2 e.1.1) []
variable {R:Pt3->Prop}
def yv (h:∀e∈es,R e.1.1/\R e.1.2):∀o∈aD es,R o.1/\∀q∈o.2,R q:=by
 have add:∀{os:List Oth} {z q:Pt3},(∀o∈os,R o.1/\∀q∈o.2,R q)->R z->R q->∀o∈aX os z q,R o.1/\∀q∈o.2,R q:=by
  intro os z q h hz hq o ho;let⟨x,hx,rfl⟩:=BL ho;have hx':R x.1/\∀q∈x.2,R q:=by
   split at hx
   .show h x hx
   .rcases List.mem_append.mp hx with hx|hx
    .show h x hx
    simp_all
  split
  .show A3 hx'.1 ZF1;rcases List.mem_append.mp hy with hy|hy
   .show hx'.2 y hy
   simp_all
  .show hx'
 have go:∀(es:List Bit) (os:List Oth),(∀e∈es,R e.1.1/\R e.1.2)->(∀o∈os,R o.1/\∀q∈o.2,R q)->∀o∈es.foldl (λos e=>aX (aX os e.1.1 e.1.2) e.1.2 e.1.1) os,R o.1/\∀q∈o.2,R q:=by
  intro es
  induction es with
  | nil=>intro os _ h;show h
  | cons e es ih=>
   intro os h ho;have he:=P8 e;show ih _ (DH (h e (A7 he))) (add (add ho he.1 he.2) he.2 he.1)
 show go es [] h ip
abbrev Onw:=Pt3×Pt3
def bK (o:Oth):Option Onw:=match o.2 with
 | [p,q]=>if onB o.1 p q=true then some (o.1,if ahd p q=true then q else p) else none
 | _=>none
def aG (os:UO):Vb:=os.filterMap bK
def xq {o:Oth}{w:Onw}(h:bK o=ZEY):w.1=o.1:=by
 unfold bK at h;split at h
 .split at h
  .cases h;rfl
  .cases h
 .cases h
def yu {R:Pt3->Pt3->Prop}(h:∀e∈es,R e.1.1 e.1.2/\R e.1.2 e.1.1):∀o∈aD es,∀q∈o.2,R o.1 q:=by
 have add:∀{os:List Oth} {z q:Pt3},(∀o∈os,∀q∈o.2,R o.1 q)->R z q->∀o∈aX os z q,∀q∈o.2,R o.1 q:=by
  intro os z q h hq o ho;let⟨x,hx,rfl⟩:=BL ho;have hx':∀q∈x.2,R x.1 q:=by
   grind
  split
  .intro y hy;rcases List.mem_append.mp hy with hy|hy
   .show hx' y hy
   simp_all
  .show hx'
 have go:∀(es:List Bit) (os:List Oth),(∀e∈es,R e.1.1 e.1.2/\R e.1.2 e.1.1)->(∀o∈os,∀q∈o.2,R o.1 q)->∀o∈es.foldl (λos e=>aX (aX os e.1.1 e.1.2) e.1.2 e.1.1) os,∀q∈o.2,R o.1 q:=by
  intro es
  induction es with
  | nil=>intro os _ h;show h
  | cons e es ih=>
   intro os h ho;have he:=P8 e;show ih _ (DH (h e (A7 he))) (add (add ho he.1) he.2)
 show go es [] h ip
def atW (ws:Vb)(z:Pt3):BO Pt3:=(ws.find? (T8 (x.1=z))).map (·.2)
variable {ws:Vb}{z:Pt3}
def xi (h:atW ws z=Af q):(z,q)∈ws:=by
 unfold atW at h;cases f:ws.find? (T8 (x.1=z)) with
 | none=>simp_all
 | some x=>
  grind
def ah8 {α:Type}{p r:α->Bool}{x:α}:∀{ws:List α},(∀w∈ws,p w=true->r w=true)->(MG p).length<=(MG r).length/\(x∈ws->r x=true->p x=false->(MG p).length<(MG r).length)
 | [],_=>⟨Nat.le_refl _,nofun⟩
 | y::ws,h=>by
  have ih:=ah8 (x:=x)    λw hw=>h w (A7 hw);cases hp:p y with
  | true=>
   rw[List.filter_cons_of_pos hp,List.filter_cons_of_pos (h y List.mem_cons_self hp)];show A3 (Nat.succ_le_succ ih.1) (λhx hr hn=>?_);rcases List.mem_cons.mp hx with e|hx
   .lia
   .show Nat.succ_lt_succ (ih.2 hx hr hn)
  | false=>
   rw[List.filter_cons_of_neg (by rw[hp];decide)];cases hr:r y with
   | true=>
    grind
   | false=>
    rw[List.filter_cons_of_neg (by rw[hr];decide)];show A3 ih.1 (λhx hr' hn=>?_);rcases List.mem_cons.mp hx with e|hx
    .simp_all
    .show ih.2 hx hr' hn
def iX (ws:Vb):Prop:=∀w∈ws,ahd w.1 w.2=true/\Lp w.1/\Lp w.2
set_option tactic.hygienic true in
def aw8 (h:∀e∈es,Lp e.1.1/\Lp e.1.2/\e.1.1≠e.1.2):iX Q9:=by
 intro w hw;let⟨o,ho,e⟩:=Dj hw;have rel:=yu (R:=Jn (XM/\Vu/\a≠b))  (DH (By (h e he) ((h e he).2.1) ((h e he).1) ((h e he).2.2.symm))) o ho;unfold bK at e;split at e
 .rename_i p q e2;rw[e2] at rel;have rp:=rel p Aq;have rq:=rel q Aq;split at e
  .rename_i on;cases e;unfold onB at on;split at on
   .split at on
    .rename_i a;rw[if_pos a];simp only[Bool.and_eq_true] at on;rcases jo rq.1 rq.2.1 with e|e|e
     .show CN e rq.2.2
     .show BH e rq.1 rq.2.1
     simp_all
    .rename_i a;rw[if_neg a];simp only[Bool.and_eq_true,Bool.not_eq_true'] at on;rcases jo rp.1 rp.2.1 with e|e|e
     .show CN e rp.2.2
     .show BH e rp.1 rp.2.1
     simp_all
   .cases on
  .cases e
 .cases e
def ac1 (ok:iX ws)(h:atW ws z=Af q):(ws.filter λw=>!ahd w.1 q).length<(ws.filter λw=>!ahd w.1 z).length:=by
 have m:=xi h;let⟨a,lz,lq⟩:=ok _ m;show (ah8 (x:=(z,q)) λw hw e=>?_).2 m ?_ ?_
 .cases c:ahd w.1 z with
  | false=>rfl
  | true=>rw[rn (ok w hw).2.1 lz lq c a] at e;cases e
 .change (!ahd z z)=true;rw[gj];rfl
 simp_all
inductive Goes (ws:List Onw):Pt3->Pt3->Prop
 | stop {z:Pt3}:atW ws z=none->Goes ws z z
 | step {z q e:Pt3}:atW ws z=some q->Goes ws q e->Goes ws z e
def eL (ws:Vb)(e:Bit)(p:Stk):Prop:=p.1.1=e.1.1/\Xn e.1.2 p.1.2/\p.2=e.2
def jf {α β:Type}{f:β->α->β}{I:β->Prop}:∀(l:List α) (b:β),I b->(∀b a,a∈l->I b->I (f b a))->I (Ms f b)
 | [],_,h,_=>h
 | a::l,b,h,s=>jf l _ (s b a List.mem_cons_self h) λb a ha=>s b a (A7 ha)
def an8 {R:Pt3×Pt3->Prop}{ws:NX}(h:∀x∈es,R x.1)(he:R e):∀x∈dI es e ws,R x.1:=by
 intro x hx;unfold dI at hx;split at hx
 .let⟨y,hy,rfl⟩:=TY;split
  .show h y hy
  .show h y hy
 .rcases List.mem_append.mp hx with hx|hx
  .show h x hx
  simp_all
variable {row:NT}
def ah2 (nd:row.Nodup)(h:e∈aM row):e.1∈row/\e.2∈row/\e.1≠e.2:=by
 let⟨j,hj⟩:=A9 h;unfold aM at hj;rw[List.getElem?_zip_eq_some,List.getElem?_drop,Nat.add_comm] at hj;show BH (Ad hj.1) (Ad hj.2) (λe'=>?_);have:=(Fk ((Ag hj.1).1) nd).mp (hj.1.trans (by rw[e'];show hj.2.symm));lia
def bq1 (hp:Pc)(hq:QA)(n:p≠q):ahd (aY p q).1 (aY p q).2=true:=by
 unfold aY;by_cases h:ahd p q=true
 .rw[if_pos h];show h
 .rw[if_neg h];rcases jo hp hq with e|e|e
  .show CN e n
  .show CN e h
  .show e
def fG (k:Pt3×Pt3):Prop:=(PV k.1/\PV k.2)/\Lp k.1/\Lp k.2/\ahd k.1 k.2=true
variable {xs:Ph}{rows:QK}
def zy (h:∀r∈rows,∀q∈r,QA/\ZLC):∀e∈aJ xs rows,fG e.1:=by
 intro e he;show (?_:∀e∈aN (xs.zip rows),fG e.1) e (BS he).1;show Jb (λes:List Bit=>∀e∈es,fG e.1) ip (Jy ?_);have hr:=h z.2 (ZCB).2;have cg:=ai0 (a:=z.1.1.1) (b:=z.1.1.2) (Dw ((hr q hq).1));show Jb (λes:List Bit=>∀e∈es,fG e.1) ih (λes e he ih=>an8 ih ?_);let⟨m1,m2,n⟩:=ah2 cg.1 he;have g1:=hr _ (cg.2 _ m1);have g2:=hr _ (cg.2 _ m2);show By ?_ ?_ ?_ (bq1 g1.1 g2.1 n)
 all_goals unfold aY;split
 .show A3 g1.2 g2.2
 .show A3 g2.2 g1.2
 .show g1.1
 .show g2.1
 .show g2.1
 .show g1.1
set_option tactic.hygienic true in
def b07 (h:∀e∈es,R e.1.1/\R e.1.2):∀w∈aG (aD es),R w.2:=by
 intro w hw;let⟨o,ho,e⟩:=Dj hw;have:=(yv h o ho).2;unfold bK at e;split at e
 .rename_i p q e2;rw[e2] at this;split at e
  .cases e;split
   .show this q Aq
   .show this p Aq
  .cases e
 .cases e
variable {e:Bit}
def br6 (h:∀w∈ws,R w.2){e:Pt3}(g:Xn z e):R z->R e:=by
 induction g with
 | stop _=>show id
 | step a _ ih=>show λy_=>ih (h _ (xi a))
def ag9 {ps:Ph}(good:∀r∈rows,∀q∈r,QA/\ZLC)(pj:CB (eL ZFU) ((Pu).filter (BQ ((atW ZFU e.1.1).isNone))) ps):∀x∈ps,(Lp x.1.1/\PV x.1.1)/\Lp x.1.2/\PV x.1.2:=λx hx=>by
 have bo:=ZJe good
 obtain ⟨j, hj⟩ := List.getElem?_of_mem hx
 let⟨e,he,h1,h2,_⟩:=td pj hj;have he:=(ZY he).1;have be:=UH;show A3 (by rw[h1];show⟨be.2.1,be.1.1⟩) (br6 (R:=B5 (Pc/\PV p)) (b07 (R:=B5 (Pc/\PV p)) (DH (BH (A3 ((UH).2.1) ((UH).1.1)) ((UH).2.2.1) ((UH).1.2)))) h2 (A3 be.2.2.1 be.1.2))
variable {F:Pt3->Pt3->Int}
def bi2 (W:ZEC)(p q:Pt3)(ws:NX)(j:Nat):F (aY p q).1 (aY p q).2*(ZBR p q).getD j 0=F p q*Ky j 0:=by
 unfold aY aO;by_cases h:ahd p q=true
 .rw[if_pos h,if_pos h]
 .rw[if_neg h,if_neg h,b15,W.rev];rw[Int.neg_mul_neg]
def ad1 {F:Pt3->Pt3->Int}(W:ZEC)(j:Nat){ws:NX}:∀(l:List (Pt3×Pt3)) (es:List Bit),(Fd ((·.1))).Nodup->(∀x∈es,x.2.length=ws.length)->bO F j (aU ws es l)=bO F j es+(J2 (BQ (F e.1 e.2))).sum*Ky j 0/\((aU ws es l).map (·.1)).Nodup
 | [],es,nd,_=>⟨by simp[aU],nd⟩
 | e::l,es,nd,hl=>by
  have hw:(ZBR e.1 e.2).length=ws.length:=along_len;have ih:=ad1 W j l (fI es (aY e.1 e.2) (ZBR e.1 e.2)) (a66 nd) (ag8 hl hw);have p:=bl4 (F:=F) (j:=j) (e:=aY e.1 e.2)  nd (by rw[hw];show hl);rw[bi2 W] at p;show ZHE ih.2;change bO F j (aU ws (fI es (aY e.1 e.2) (ZBR e.1 e.2)) l)=_;rw[ih.1,p,List.map_cons,List.sum_cons,Int.add_mul];lia
def ah3 (f:Pt3×Pt3->Int)(x:Pt3):∀(l:List Pt3) (y:Pt3),l.getLast?=Qt->((bE (l++[x])).map f).sum=((bE l).map f).sum+f (y,x)
 | [],y,h=>by cases h
 | [a],y,h=>by
  cases h;simp[bE]
 | a::b::l,y,h=>by
  have ih:=ah3 f x (b::l) y h;rw[List.cons_append,List.cons_append,p7,p7,List.map_cons,List.sum_cons,List.map_cons,List.sum_cons,<-List.cons_append,ih];lia
def ah1 (f:Pt3×Pt3->Int):∀(l:List Pt3),((bE l.reverse).map f).sum=((bE l).map (BQ (f (e.2,e.1)))).sum
 | []=>rfl
 | [a]=>rfl
 | a::b::l=>by
  rw[List.reverse_cons,ah3 f a _ b (by rw[List.getLast?_reverse];rfl),ah1 f (b::l),p7,List.map_cons,List.sum_cons];dsimp only;lia
def b46 (W:ZEC)(h:∀p∈ps,Pc)(ha:a∈ps)(hb:b∈ps)(n:a≠b):((ZR a b ps).map (BQ (F e.1 e.2))).sum=F a b:=by
 have la:=h a ha;have lb:=h b hb;have hab:=CY (BT (n (la.eq lb z)));let⟨s,m⟩:=ie (ps:=HY (Od z a b)) (Bg (h p (BS hp).1));have ms:=Cv ((BS ((m z).mp hz)).2);have am:=(m a).mpr (EG (A3 ha ((qv hab).1)));have bm:=(m b).mpr (EG (A3 hb ((qv hab).2)));have key:∀{c d:Pt3} {row:List Pt3},ZAd->ZAe->c≠d->Fz c d->Vv->c∈row->d∈row->(∀z∈row,Xf z=0/\ahd z c=false/\ahd d z=false)->((bE row).map (BQ (F e.1 e.2))).sum=F c d:=by
  intro c d row lc ld ncd hcd s cm dm on;cases row with
  | nil=>cases cm
  | cons x l=>
   have ex:x=c:=by
    rcases List.mem_cons.mp cm with z|z
    .show z.symm
    .have:=s.head z
     simp_all
   cases el:(x::l).getLast? with
   | none=>simp at el
   | some y=>
    have ey:y=d:=by
     have ym:=Mu el;rcases jo (s.1 y ym) ld with z|z|z
     .show z
     .exfalso;let⟨ini,e⟩:=List.getLast?_eq_some_iff.mp el;rw[e] at dm s;rcases List.mem_append.mp dm with w|w
      .have:=s.parts.2.2 d w y Aq;show xj ld (s.1 y Aq) this z
      .rw[List.mem_singleton.mp w,gj] at z;cases z
     .rw[(on y ym).2.2] at z;cases z
    subst ex ey;rw[a67 W hcd ld l _ s el λz hz=>(on z hz).1,if_neg ncd]
 unfold aW;by_cases o:ahd a b=true
 .rw[if_pos o];show key la lb n hab s am bm ZKP;have:=ms z hz;unfold onB at this
  simp_all
 .rw[if_neg o];have hba:Fz b a:=λ⟨z1,z2⟩=>hab (A3 z1.symm z2.symm);have k:=key lb la n.symm hba s bm am ZKP
  .change ((bE _).map _).sum=_;rw[ah1];have:((bE (aP (HY (Od z a b)))).map (BQ (F e.2 e.1)))=((bE (aP (HY (Od z a b)))).map (BQ (F e.1 e.2))).map (GF (-i)):=by
    rw[List.map_map];show Ct (λe y_=>W.rev _ _)
   rw[this];have neg:∀l:List Int,(J2 (GF (-i))).sum = -l.sum:=λl=>by
    induction l with
    | nil=>rfl
    | cons a l ih=>rw[List.map_cons,List.sum_cons,List.sum_cons,ih];lia
   rw[neg,k,W.rev];simp
  .have:=ms z hz;unfold onB at this;by_cases e:det a b z=0
   .rw[if_pos e,if_neg o,Bool.and_eq_true,Bool.not_eq_true',Bool.not_eq_true'] at this;show ZJ9 (by unfold det at e ⊢;grind)
   simp_all
def ay4 (W:ZEC)(j m:Nat)(zs:Au (Stk×NT))(h:∀z∈zs,(∀p∈z.2,Pc)/\z.1.1.1∈z.2/\z.1.1.2∈z.2/\z.1.1.1≠z.1.1.2/\z.1.2.length=m):bO F j (aN zs)=(zs.map (BT (F z.1.1.1 z.1.1.2*z.1.2.getD j 0))).sum:=by
 have go:∀(zs:List (Stk×List Pt3)) (es:List Bit),(∀z∈zs,(∀p∈z.2,Pc)/\z.1.1.1∈z.2/\z.1.1.2∈z.2/\z.1.1.1≠z.1.1.2/\z.1.2.length=m)->(Fd ((·.1))).Nodup->(∀x∈es,x.2.length=m)->bO F j (zs.foldl (λes z=>aU z.1.2 es (ZR z.1.1.1 z.1.1.2 z.2)) es)=bO F j es+(zs.map (BT (F z.1.1.1 z.1.1.2*z.1.2.getD j 0))).sum:=by
  intro zs
  induction zs with
  | nil=>intro es _ _ _;simp
  | cons z zs ih=>
   intro es h nd hl;let⟨h1,h2,h3,h4,h5⟩:=P8 z;have hl':=Cy ((hl x hx).trans h5.symm);have r:=ad1 W j  (ZR z.1.1.1 z.1.1.2 z.2) es nd hl';rw[List.foldl_cons,ih _ (Cv (h z (A7 hz))) r.2 (uq h5 _ _ hl).1,r.1,b46 W h1 h2 h3 h4,List.map_cons,List.sum_cons];lia
 have:=go zs [] h .nil ip;rw[show bO F j []=0 from rfl,Int.zero_add] at this;show this
def vx (F:Pt3->Pt3->Int)(j:Nat):∀es:List Bit,bO F j (es.filter λe=>e.2.any λn=>!decide (n=0))=bO F j es
 | []=>rfl
 | e::es=>by
  rw[ml];cases h:(e.2.any λn=>!decide (n=0)) with
  | true=>rw[List.filter_cons_of_pos (by show h),ml,vx F j es]
  | false=>
   rw[List.filter_cons_of_neg (by rw[h];decide),vx F j es];have:e.2.getD j 0=0:=by
    rw [List.getD_eq_getElem?_getD]
    cases g:e.2[j]? with
    | none=>rfl
    | some n=>
     have:=List.any_eq_false.mp h n (Ad g);simpa using this
   simp_all
def at4 (W:ZEC)(j:Nat)(ein:gQ xs rows)(good:∀r∈rows,∀q∈r,QA/\ZLC)(hx:∀x∈xs,x.1.1≠x.1.2/\x.2.length=m):bO F j Pu=(Rm (F x.1.1 x.1.2*x.2.getD j 0)).sum:=by
 unfold aJ;rw[vx,ay4 W j m]
 .have e:xs=(RJ).map Prod.fst:=(Ja (by rw[ein.1];show Nat.le_refl _)).symm
  conv=>rhs;rw[e,List.map_map]
  rfl
 .intro z hz;let⟨i,hi⟩:=ZFh;let⟨h1,h2⟩:=EO hi;have ee:=ein.2 i z.1 z.2 h1 h2;have hh:=hx z.1 ZCN;show B0 (Bg ((good z.2 ZJs p hp).1)) ee.1 ee.2 hh.1 hh.2
def Has (os:UO)(z q:Pt3):Prop:=∃o∈os,o.1=z/\q∈o.2
def bi4 (os:UO)(z q:Pt3):(Z8 z q).map (·.1)=(Ak ((atO os z).isSome) os (os++[(z,[])])).map (·.1):=by
 unfold aX;rw[List.map_map];show Ct ZAi;change (Ak (x.1=z) ((x.1,x.2++[q])) x).1=x.1;split <;> rfl
variable {os:UO}{r:Pt3}
def uh {y:Pt3}(h:Has os y r):Has (Z8 z q) y r:=by
 let⟨o,ho,e,hr⟩:=h;show WC (Ak (o.1=z) ((o.1,o.2++[q])) o) (E2 (Oo o ?_)) ?_
 .split
  .show ho
  .show Ca ho
 .split <;> show e
 .split
  .show Ca hr
  .show hr
set_option tactic.hygienic true in
def au0:Has (Z8 z q) z q:=by
 have:∃o∈(if (atO os z).isSome then os else os++[(z,[])]),o.1=z:=by
  split
  .rename_i h;unfold atO at h
   simp_all
  .show Oo ((z,[])) Aq
 let⟨o,ho,e⟩:=this;show By ((o.1,o.2++[q])) (E2 (ZCY (by rw[if_pos e]))) e Aq
set_option tactic.hygienic true in
def bb2 (nd:(HE ((·.1))).Nodup):((Z8 z q).map (·.1)).Nodup:=by
 rw[bi4];split
 .show nd
 .rename_i h;rw[List.map_append];show Cw (BH nd Aq (λx hx y hy e=>?_));let⟨o,ho,rfl⟩:=TY;have hy:=by simpa using hy
  show h ?_;unfold atO
  simp_all
def be0 (es:Pp):((Pj).map (·.1)).Nodup:=jf (I:=λos:List Oth=>(HE ((·.1))).Nodup) es [] .nil (HX (bb2 (bb2 h)))
def ac0 (he:e∈es):Has Pj e.1.1 e.1.2/\Has Pj e.1.2 e.1.1:=by
 let⟨l,r,rfl⟩:=List.append_of_mem he;unfold aD;rw[List.foldl_append];show jf (I:=λos:List Oth=>Has os e.1.1 e.1.2/\Has os e.1.2 e.1.1) r _ (A3 (uh au0) au0) (HX (A3 (uh (uh h.1)) (uh (uh h.2))))
def cc0 (nd:(HE ((·.1))).Nodup){o o':Oth}(h:o∈os)(h':o'∈os)(e:o.1=o'.1):o=o':=by
 let⟨i,hi⟩:=A9 h;let⟨j,hj⟩:=A9 h';have:=(List.getElem?_inj  (j:=j) (by rw[List.length_map];show (ZJ5).1) nd).mp Aw
 simp_all
set_option tactic.hygienic true in
def b67 (bo:∀e∈es,fG e.1)(h:ZAj b=Af q):ahd b q=true/\Vu/\QA/\(∃e∈es,e.1=(b,q))/\(∀e∈es,e.1.1=b->e.1.2=q)/\∀e∈es,e.1.2=b->det e.1.1 q b=0:=by
 have lp:∀e∈es,Lp e.1.1/\Lp e.1.2/\e.1.1≠e.1.2:=DH (BH ((UH).2.1) ((UH).2.2.1) (BT (by have:=(UH).2.2.2;rw[z,gj] at this;cases this)));let⟨a,lb,lq⟩:=aw8 lp _ (xi h);let⟨o,ho,e⟩:=Dj (xi h);have rel:=yu (R:=λz q=>∃e∈es,e.1=(z,q)\/e.1=(q,z))  (DH (By (BH e he OP) e he Nt)) o ho;have ob:o.1=b:=(xq e).symm;have inO:∀{y:Pt3},Has Pj b y->y∈o.2:=λ⟨o',ho',e1,e2⟩=>by rw[cc0 (be0 es) ho ho' (ob.trans e1.symm)];show e2
 unfold bK at e;split at e
 .rename_i p1 q1 e2;split at e
  .rename_i on;rw[e2] at rel inO;have key:∃r,det r q b=0/\ahd b r=false/\q∈[p1,q1]/\∀y∈[p1,q1],y=q\/y=r:=by
    have e3:q=Ak (ahd p1 q1=true) q1 p1:=by cases e;rfl
    rw[ob] at on;unfold onB at on;by_cases d0:det p1 q1 b=0
    .rw[if_pos d0] at on;by_cases o1:ahd p1 q1=true
     .rw[if_pos o1,Bool.and_eq_true,Bool.not_eq_true'] at on;rw[if_pos o1] at e3;show B0 p1 (by rw[e3];show d0) on.1 (by simp[e3]) ZF1;simp only[List.mem_cons,List.not_mem_nil,or_false] at hy;rw[e3];show hy.symm
     .rw[if_neg o1,Bool.and_eq_true,Bool.not_eq_true'] at on;rw[if_neg o1] at e3;show B0 q1 (by rw[e3];unfold det at d0 ⊢;grind) on.1 (by simp[e3]) ZF1
      simp_all
    simp_all
   let⟨r,hd,nr,qm,two⟩:=key;show Dt a lb lq ?_ ZIP ZIP
   .obtain⟨f,hf,z|z⟩:=rel q qm
    .show BH f hf (by rw[z,ob])
    .exfalso;have:=(bo f hf).2.2.2;rw[z,ob] at this;show xj lb lq a this
   .rcases two _ (inO (eb▸(ac0 he).1)) with z|z
    .show z
    .have:=(UH).2.2.2
     simp_all
   .rcases two _ (inO (eb▸(ac0 he).2)) with z|z
    .exfalso;have:=(UH).2.2.2;rw[eb,z] at this;show xj lb lq a this
    .rw[z];show hd
  .cases e
 .cases e
def ay8 (ok:iX ws)(z:Pt3):∃e,Xn z e:=by
 have go:∀(n:Nat) (z:Pt3),(ws.filter λw=>!ahd w.1 z).length<=n->∃e,Xn z e:=by
  intro n
  induction n with
  | zero=>
   intro z h;cases w:atW ws z with
   | none=>show⟨z,.stop w⟩
   | some q=>have:=ac1 ok w;lia
  | succ n ih=>
   intro z h;cases w:atW ws z with
   | none=>show⟨z,.stop w⟩
   | some q=>
    have:=ac1 ok w;let⟨e,g⟩:=ih q Ab;show A3 e (.step w g)
 show go _ z As
def ad6 {e:Pt3}(g:Xn z e):∀{e':Pt3},Xn z e'->e=e':=by
 induction g with
 | stop h=>
  intro e' g';cases g' with
  | stop _=>rfl
  | step h' _=>simp_all
 | step h _ ih=>
  intro e' g';cases g' with
  | stop h'=>rw[h] at h';cases h'
  | step h' g'=>
   rw[h] at h';cases h';show ih g'
set_option tactic.hygienic true in
def br5 (W:ZEC)(bo:∀e∈es,fG e.1){e:Pt3}(g:Goes Q9 b e):∀f∈es,f.1.2=b->F f.1.1 e=F f.1.1 b+F b e/\Lp e/\(b=e\/(ahd b e=true/\det f.1.1 e b=0)):=by
 have zz:∀u,F u u=0:=λu=>by have:=W.rev u u;lia
 induction g with
 | stop h=>
  intro f hf fb;show BH (by rw[zz];simp) (by rw[<-fb];show (bo f hf).2.2.1) OP
 | step h g ih=>
  rename_i b q e;intro f hf fb;let⟨a,lb,lq,⟨f2,hf2,e2⟩,_,hd⟩:=b67 bo h;let⟨_,le,i3⟩:=ih f2 hf2 (by rw[e2]);rw[e2] at i3;have d1:=hd f hf fb;have bf:=bo f hf;have lf:=bf.2.1;have fb':=by have:=bf.2.2.2;rw[fb] at this;show this
  have key:ahd b e=true/\det f.1.1 e b=0:=by
   rcases i3 with z|z
   .rw[<-z];show⟨a,d1⟩
   .show Pk (rn lb lq le a z.1);have ap:HN q b:=λ⟨z1,z2⟩=>by
     have:=lq.eq lb (ID (w (A3 z1 z2)));rw[this,gj] at a;cases a
    have:=b65 (z:=f.1.1) (w:=e) ap (by unfold det at d1 ⊢;grind) (by have:=z.2;unfold det at this ⊢;grind);unfold det at this ⊢;grind
  show BH (W.cut lf le lb key.2 fb' key.1) le (CK key)
def bq3 (W:ZEC)(j:Nat)(bo:∀e∈es,fG e.1):∃T:Pt3->Int,∀{ps:Ph},Paired (eL Q9) (es.filter (BQ ((ZAj e.1.1).isNone))) ps->
  (FH (Bi (F x.1.1 x.1.2*x.2.getD j 0))).sum=bO F j es - bO (LR (T u - T v)) j es:=by
 have lp:∀e∈es,Lp e.1.1/\Lp e.1.2/\e.1.1≠e.1.2:=DH (BH ((UH).2.1) ((UH).2.2.1) (BT (by have:=(UH).2.2.2;rw[z,gj] at this;cases this)));have tot:=BT (ay8 (aw8 lp) z);have zz:∀u,F u u=0:=λu=>by have:=W.rev u u;lia
 show Pk (BT (F z (tot z).choose));have T1:∀{z e:Pt3},Goes Q9 z e->F z (tot z).choose=F z e:=λ{z e} g=>by rw[ad6 (tot z).choose_spec g]
 have go:∀(fs:List Bit) (ps:List Stk),(∀f∈fs,f∈es)->CB (eL Q9) (fs.filter (BQ ((ZAj e.1.1).isNone))) ps->(FH (Bi (F x.1.1 x.1.2*x.2.getD j 0))).sum=bO F j fs - bO (LR (F u (tot u).choose - F v (tot v).choose)) j fs:=by
  intro fs
  induction fs with
  | nil=>intro ps _ p;cases p;rfl
  | cons f fs ih=>
   intro ps h p;have hf:=P8 f;have ih:=λps=>ih ps λf hf=>h f (A7 hf);let⟨e,ge⟩:=tot f.1.2;have tb:=T1 ge;have gc:=(br5 W bo ge f hf rfl).1;rw[ml,ml];cases w:atW Q9 f.1.1 with
   | none=>
    rw[List.filter_cons_of_pos (by rw[w];rfl)] at p;cases p with
    | cons jr t=>
     let⟨j1,j2,j3⟩:=jr;have ta:=T1 (.stop w);have:=ad6 j2 ge;rw[List.map_cons,List.sum_cons,ih _ t,ta,tb,j1,j3,this,gc,zz];grind
   | some q=>
    rw[List.filter_cons_of_neg Aw] at p;have eq:=(b67 bo w).2.2.2.2.1 f hf rfl;have ta:=T1 (.step w (by rw[<-eq];show ge));rw[ih _ p,ta,tb,gc];grind
 show λ{ps} p=>go es ps (MI h) p
def aw1 (W:ZEC)(j:Nat)(ein:gQ xs rows)(good:∀r∈rows,∀q∈r,QA/\ZLC)(hx:∀x∈xs,x.1.1≠x.1.2/\x.2.length=m)
  (closed:∀T:Pt3->Int,(Rm ((T x.1.1 - T x.1.2)*x.2.getD j 0)).sum=0) {ps:Ph} (p:CB (eL ZFU) ((Pu).filter (BQ ((atW ZFU e.1.1).isNone))) ps) :
  (FH (Bi (F x.1.1 x.1.2*x.2.getD j 0))).sum=(Rm (F x.1.1 x.1.2*x.2.getD j 0)).sum:=by
 let⟨T,hT⟩:=bq3 W j (zy  good);have WT:Wt (LR (T u - T v)):=A3 (LR Ab) (An Ab);rw[hT p,at4 W j ein good hx,at4 WT j ein good hx,closed T]
 simp_all
def a62 {α:Type}(f:α->Int)(c:Int):∀l:List α,(J2 (Bi (f x*c))).sum=(Ye).sum*c
 | []=>by simp
 | x::l=>by rw[List.map_cons,List.sum_cons,List.map_cons,List.sum_cons,a62 f c l,Int.add_mul]
def bm9 {l m:NX}(h:l.Perm m):l.sum=m.sum:=by
 induction h with
 | nil=>rfl
 | cons a _ ih=>simp_all
 | swap a b l=>rw[List.sum_cons,List.sum_cons,List.sum_cons,List.sum_cons];lia
 | trans _ _ i1 i2=>show i1.trans i2
def ai2 (h:∀x∈xs,x.2.length=m):∀e∈aJ xs rows,e.2.length=m:=by
 intro e he;show (?_:∀e∈aN (xs.zip rows),e.2.length=m) e (BS he).1;show Jb (λes:List Bit=>∀e∈es,e.2.length=m) ip (Jy ((uq (h z.1 (ZCB).1) _ _ ih).1))
def ff {X:Pt3}(ap:HN X q)(h1:PU X=0)(h2:PU q=0)(h3:det X q c=0):QM=0:=by
 have e1:QM*(X.y*q.z - X.z*q.y)=0:=by unfold det at *;grind
 have e2:QM*(X.z*q.x - X.x*q.z)=0:=by unfold det at *;grind
 rcases Int.mul_eq_zero.mp e1 with h|h
 .show h
 rcases Int.mul_eq_zero.mp e2 with h'|h'
 .show h'
 exfalso;unfold L2.Apart at ap;grind
def kb (h:RW=true)(hp:Pc)(hq:QA):ZBK:=(ja hp hq).mpr (CK h)
def vy (h:RW=true):p≠q:=λe=>by rw[e,gj] at h;cases h
def ir (h:RW=true)(hp:Pc)(hq:QA):HN p q:=ku hp hq (vy h)
def b66 (hp:Pc)(hq:QA)(hr:ZD1)(h1:ZBK)(h2:ahd q r=true):QQ r=true:=by
 rcases (ja hp hq).mp h1 with e|e
 .rw[e];show h2
 .show ZHx e h2
def b63 (hp:Pc)(hq:QA)(hr:ZD1)(h1:RW=true)(h2:ZJD r):QQ r=true:=by
 rcases (ja hq hr).mp h2 with e|e
 .rw[<-e];show h1
 .show ZHx h1 e
def u7 (hp:Pc)(hq:QA)(h:ZBK)(n:p≠q):RW=true:=((ja hp hq).mp h).resolve_left n
def wl (h:RW≠true):ZJD p:=by
 unfold leP
 simp_all
def kg (h:ahd a b=true):ZGK=true↔ZA9=0/\leP a p/\XN b:=by
 constructor
 .intro h0;have d:=ij h0;have:=(km d).mp h0;unfold aE at this;rw[if_pos h] at this;show ZJ9 d
 .rintro⟨d,h0⟩;show (km d).mpr ?_;unfold aE;rw[if_pos h];show h0
def aw5 (ha:XM)(hb:Vu)(n:a≠b):ZGK=onB p (SC).1 (SC).2/\ahd (SC).1 (SC).2=true:=by
 unfold aE;by_cases h:ahd a b=true
 .rw[if_pos h];show⟨rfl,h⟩
 .rw[if_neg h];have hA:=ku ha hb n;show Pk ((ao9 hA).symm);rw[uf hA]
  simp_all
variable {Y u v:Pt3}
def vp (hY:ZJC)(hu:Lp u)(hv:Lp v)(ha:XM)(hb:Vu)(n:a≠b)(huv:ZLl=true)(h1:ZGJ u=true)(h2:ZGJ v=true)(h:ZDI u v=true):ZGJ Y=true:=by
 let⟨e,o⟩:=aw5  ha hb n;have eu:=(aw5 (p:=u) ha hb n).1;have ev:=(aw5 (p:=v) ha hb n).1;let⟨d0,y1,y2⟩:=(kg huv).mp h;have lo:=aw6 ha hb;rw[eu] at h1;rw[ev] at h2;let⟨du,u1,_⟩:=(kg o).mp h1;let⟨dv,_,v2⟩:=(kg o).mp h2;rw[e];show (kg o).mpr (BH (ff (ir huv hu hv) du dv d0) (ki lo.1 hu hY u1 y1) (ki hY hv lo.2 y2 v2))
def qw {d:Pt3}(ha:XM)(hb:Vu)(hc:ZAd)(hd:ZAe)(hq:QA)(hab:HN a b)(hcd:HN c d)(h1:ZGJ q=true)(h2:onB q c d=true)(n:¬(QM=0/\Ri=0)):q∈aI a b c d:=by
 have told:=uo ha hb hc hd hab hcd;have q1:=ij h1;have q2:=ij h2;unfold aI at told ⊢;by_cases s1:sgn QM=sgn Ri
 .by_cases z:sgn QM=0
  .show absurd (A3 (DJ z) (DJ (s1▸z))) n
  .show CN q1 (a73 hq.pos hc.pos hd.pos hcd h2 s1 z)
 .rw[if_neg s1] at told ⊢;by_cases s2:sgn Yo=sgn ZBL
  .by_cases z:sgn Yo=0
   .show CN (iq hcd (DJ z) (DJ (s2▸z))) n
   .show CN q2 (a73 hq.pos ha.pos hb.pos hab h1 s2 z)
  .rw[if_neg s2] at told ⊢;let⟨lX,X1,X2⟩:=told.2.1 _ (Lv rfl);rw[List.mem_singleton];show CY (λne=>n ?_);have ap:=ku lX hq (BX ne);have dX:=ij X1;have cX:=ij X2;let⟨k1,k2⟩:=iq hcd cX q2;show A3 (ff ap dX q1 k1) (ff ap dX q1 k2)
def cc8 (hp:Pc)(hq:QA)(h:ZBK):aT p q=q:=by
 obtain⟨_,h1,h2,e|e⟩:=wo hp hq
 .rw[e] at h2 ⊢;show ad0 hp hq h h2
 .show e
def cc4 (hp:Pc)(hq:QA)(h:ZJD p):aV p q=q:=by
 obtain⟨_,h1,h2,e|e⟩:=wn hp hq
 .rw[e] at h2 ⊢;show ad0 hp hq h2 h
 .show e
def ce0 (hp:Pc)(hq:QA)(h1:leP r p)(h2:leP r q):leP r (aV p q):=by
 obtain⟨_,_,_,e|e⟩:=wn hp hq
 .rw[e];show h1
 .rw[e];show h2
def cc6 (hp:Pc)(hq:QA)(h1:XN r)(h2:ZJD r):leP (aT p q) r:=by
 obtain⟨_,_,_,e|e⟩:=wo hp hq
 .rw[e];show h1
 .rw[e];show h2
set_option tactic.hygienic true in
def bo9 {d:Pt3}(ha:XM)(hb:Vu)(hc:ZAd)(hd:ZAe)(hab:HN a b)(hcd:HN c d)(hq:q=c\/q=d)(h1:ZGJ q=true):q∈aI a b c d:=by
 have lq:Lp q:=by rcases hq with e | e <;> (rw[e];assumption)
 have oq:onB q c d=true:=by rcases hq with e | e <;> rw[e];show (qv hcd).1;show (qv hcd).2
 by_cases n:det a b c=0/\det a b d=0
 .unfold aI;rw[if_pos (by rw[n.1,n.2]),if_pos (by rw[n.1];rfl)];let⟨q1,q2⟩:=(km (ij h1)).mp h1;let⟨q3,q4⟩:=(km (ij oq)).mp oq;let⟨l1,l2⟩:=aw6 ha hb;let⟨l3,l4⟩:=aw6 hc hd;have hq':q=(T3).1\/q=(T3).2:=by
   rcases fm c d with⟨e1,e2⟩|⟨e1,e2⟩ <;> rw[e1,e2]
   .show hq
   .show hq.symm
  have lM:=(wo l1 l3).1;have lm:=(wn l2 l4).1;have hM:=cc6 l1 l3 q1 q3;have hm:=ce0 l2 l4 q2 q4;have key:q=aT (SC).1 (T3).1\/q=aV (SC).2 (T3).2:=by
   rcases hq' with e|e
   .left;rw[cc8 l1 l3 (by rw[<-e];show q1)];show e
   .right;rw[cc4 l2 l4 Aw];show e
  unfold aR;split
  .simp_all
  .rename_i e;have:ahd (aT (SC).1 (T3).1) (aV (SC).2 (T3).2)=true:=u7 lM lm (ki lM lq lm hM hm) e
   simp_all
 .show qw ha hb hc hd lq hab hcd h1 oq n
def as7 {xs:Oe}{j:Nat}(h:j<=xs.length):bN xs (FU ((j:Int))) none=Dp j:=by
 unfold bN;have e1:N5 0 ZCQ=j:=by
  change ZDx j=j
  simp_all
 have e2:Pz none=xs.length:=rfl;rw[e1,e2,List.take_of_length_le (by rw[List.length_drop];lia)]
def Sm.upd {o:O}(s:Td)(h:Sv=none):ZJb (JJ M' l o):=λa u e=>by rw[cf (db e h)];show s _ _ e
variable {i:Nat}
def al6 {α:Type}{l:Ql}{x:α}(h:l[i]?=OZ):l.drop i=x::l.drop (i+1):=by
 obtain ⟨hi, e⟩ := List.getElem?_eq_some_iff.mp h
 rw[List.drop_eq_getElem_cons hi,e]
def gi {α:Type}{f:α->A}{l:Ql}{x:A}(h:(Ye)[i]?=OZ):∃p,l[i]?=UL/\x=f p:=by
 rw[List.getElem?_map] at h;cases e:l[i]? with
 | none=>simp_all
 | some p=>simp_all
def ak1 {α:Type}{f:α->A}(inj:∀p q,f p=f q->p=q){F:Addr->α->Prop}:∀{l:List α} {ys:List A},CB (G5 (∃p q,x=f p/\y=A5 q/\F q p)) Ye ys->∃as:List Addr,ys=Qv/\W3 F l
 | [],_,h=>by cases h;show⟨[],rfl,.nil⟩
 | p::l,_,h=>by
  cases h with
  | cons h1 h2=>
   let⟨as,e,pr⟩:=ak1 inj h2;let⟨p',q,e1,e2,hF⟩:=h1;have:=inj _ _ e1;subst this;show BH (q::as) (by rw[e,e2];rfl) (Iu hF pr)
def a81 {α:Type}{f:α->A}(inj:∀p q,f p=f q->p=q):∀{l m:List α},Ye=ZFN->l=m
 | [],[],_=>rfl
 | [],_::_,h=>by cases h
 | _::_,[],h=>by cases h
 | p::l,q::m,h=>by
  injection h with h1 h2;rw[inj _ _ h1,a81 inj h2]
variable {qs:NT}
def Rl.one (h:Rl M l ps)(g:Rl M l qs):ps=qs:=by
 unfold Rl at h g;rw[h] at g;injection g with g;injection g with g;show a81 (Ac ke) g
noncomputable def rr (p:Addr×Addr):A:=ZHQ (A5 p.1) (A5 p.2)
def b91 (p q:Addr×Addr)(h:rr p=rr q):p=q:=by
 unfold rr at h;simp at h;show IR h.1 h.2
def ck4 (l m:PD):zA (GN A.ref) (m.map A.ref)=(l.zip m).map rr:=by
 unfold zA;rw[List.zipWith_map,List.zip,List.map_zipWith];rfl
def bi5 {α β:Type}(f:α->A)(g:β->A)(l:Ql)(m:ZJ7):zA Ye (m.map g)=(l.zip m).map (ZBa [f p.1,g p.2]):=by
 unfold zA;rw[List.zipWith_map,List.zip,List.map_zipWith]
def vb {α β:Type}{l:Ql}{m:ZJ7}{p:α×β}(h:(l.zip m)[i]?=UL):l[i]?=Af p.1/\m[i]?=Af p.2:=EO h
def wr (p:Pt3):hk 1 VV=true:=rfl
set_option tactic.hygienic true in
def b42 (v:A)(ps:NT):∃qs:List Pt3,gA (FH (B5 ((Pa p,v))))=qs.map (B5 ((Pa p,v)))/\qs.Nodup/\(∀p,p∈qs↔p∈ps)/\qs.length<=ps.length:=by
 have g:∀(l acc:List Pt3),acc.Nodup->∃qs:List Pt3,(J2 (B5 ((Pa p,v)))).foldl (LT (putA a p.1 p.2)) (ZBS ((Pa p,v)))=qs.map (B5 ((Pa p,v)))/\qs.Nodup/\(∀p,p∈qs↔p∈acc\/p∈l)/\qs.length<=acc.length+l.length:=by
  intro l
  induction l with
  | nil=>intro acc nd;show⟨acc,rfl,nd,by simp,by simp⟩
  | cons x l ih=>
   intro acc nd;rw[List.map_cons,List.foldl_cons];by_cases hx:x∈acc
   .have e:putA (ZBS ((Pa p,v))) (Pa x) v=ZBS ((Pa p,v)):=by
     unfold putA;split
     .simp
     .rename_i h;exfalso;apply h;unfold aH;rw[Option.isSome_map,List.find?_isSome];show U6 (E2 (Oo x hx)) Aq
    rw[e];let⟨qs,h1,h2,h3,h4⟩:=ih acc nd;show B0 qs h1 h2 (B5 ?_) (by simp;lia);rw[h3,List.mem_cons];constructor
    .rintro (h|h)
     .show Vc
     simp_all
    lia
   .have e:putA (ZBS ((Pa p,v))) (Pa x) v=(acc++[x]).map (B5 ((Pa p,v))):=by
     unfold putA;split
     .rename_i h;exfalso;unfold aH at h;rw[Option.isSome_map,List.find?_isSome] at h;let⟨z,hz,e⟩:=h;let⟨p,hp,rfl⟩:=BL hz;show hx (by rw[<-ke (Dx e)];show hp)
     simp
    rw[e];let⟨qs,h1,h2,h3,h4⟩:=ih (acc++[x]) (Cw (BH nd Aq (λa ha b hb e'=>hx Aw)));show B0 qs h1 h2 (B5 ?_) (by simp at h4 ⊢;lia);rw[h3,List.mem_append,List.mem_singleton,List.mem_cons,or_assoc]
 let⟨qs,h1,h2,h3,h4⟩:=g ps [] .nil;show B0 qs h1 h2 (B5 (by rw[h3];simp)) (by simpa using h4)
def rkA (row:NT):Au (A×A):=row.zipIdx.map (Bi ((Pa x.1,A.int x.2)))
def aj8 (hs:Vv)(hp:p∈row):aH (rkA row) VV=NP (bW row p):=by
 let⟨i,hi⟩:=A9 hp;rw[aj9 hs hi];have g:∀(l:List Pt3) (i k:Nat),l.Nodup->l[i]?=UL->aH ((l.zipIdx k).map (Bi ((Pa x.1,A.int x.2)))) VV=NP ((k+i:Nat)):=by
  intro l
  induction l with
  | nil=>intro i k _ h;simp at h
  | cons x l ih=>
   intro i k nd h;rw[List.zipIdx_cons,List.map_cons];unfold aH;cases i with
   | zero=>
    simp_all
   | succ i=>
    have ne:x≠p:=BQ ((ZFr).1 (by rw[e];show List.mem_of_getElem? h));rw[List.find?_cons_of_neg (by simpa using λe=>ne (ke e))];have:=ih i (k+1) (ZFr).2 h;rw[show k+(i+1)=k+1+i by lia];show this
 have:=g row i 0 hs.nodup hi;rw[Nat.zero_add] at this;show this
def bk7 (hs:Vv):((rkA row).map (·.1)).Nodup:=by
 unfold rkA;rw[List.map_map];have:(row.zipIdx.map ((λx:A×A=>x.1)∘λx:Pt3×Nat=>(Pa x.1,A.int x.2)))=row.map Pa:=by
  have e:(row.zipIdx.map Prod.fst).map Pa=row.map Pa:=by simp
  rw[<-e,List.map_map];rfl
 rw[this];show hs.nodup.map (f:=Pa) (MF (h (ke e)))
def sdA (x:Pt3×Pt3):A:=ZHQ (Pa x.1) (Pa x.2)
def ipA (x:Int×Int):A:=ZHQ (BR x.1) (BR x.2)
def stA (x:(Pt3×Pt3)×NX):A:=F7 [Pa x.1.1,Pa x.1.2,F0 (x.2.map A.int)]
section
variable {α:Type}{l:Ql}{f:α->A}
def jg (n:Nat)(h:α->A)(hl:l.length<=sizeLine)(hP:∀o,P (Vl D o))
  (el:∀p∈l,∀(vs:SA) o (Y:SA->A->MA->Prop),vs.length=n->(∀vs':SA,vs'.length=n->Y (vs'++cs) (h p) (Vl D o))->g (f p) (vs++cs) (Vl D o) (Kw (te s2 M2 (Y s2))))
  (fin:k (ZBg D (GN h))):eJ g fF te P D k Ye (ZE3++cs) (Qb M D):=by
 show ay3 (GD (i<=l.length/\ys=(K7 i).map h/\M'=ZBg D ys/\∃vs:SA,vs.length=n/\s'=vs++cs)) (Dt Bh Aq rfl _ Aq rfl) ?_ ?_ ?_
 .simp_all
 .rintro i x ys s' M' N Y hx ⟨hi,hy,rfl,vs,hv,rfl⟩ hN hY;let⟨p,hp,rfl⟩:=SX;have hi':=(ZJ3).1;show el p ZFb vs _ Y hv λvs' hv'=>Jz ak ?_ (Dt Ab ?_ (by rw[pp]) vs' hv' rfl)
  .rw[hy,List.length_map,List.length_take];lia
  .rw[hy,List.take_add_one,hp,List.map_append];rfl
 simp_all
def xu (n:Nat)(b:α->Bool)(h:α->A)(hl:l.length<=sizeLine)(hP:∀M',ZIr->P M')
  (el:∀p∈l,∀(vs:SA) M' ys (N:SA->MA->Prop) (Y:SA->A->MA->Prop),vs.length=n->SmB D (put M D (.lst [])) M'->M' D=some (.lst ys)->(b p=false->∀(vs':SA) M'',vs'.length=n->Sm M' M''->N (vs'++cs) M'')->(b p=true->∀(vs':SA) M'',vs'.length=n->Sm M' M''->Y (vs'++cs) (h p) M'')->
   g (f p) (vs++cs) M' λs2 M2=>tc s2 M2 λc M3=>if c=true then te s2 M3 (Y s2) else N s2 M3)
  (fin:∀M',ZIr->VT=NZ ((l.filter b).map h)->k M'):eJ g tc te P D k Ye (ZE3++cs) (Qb M D):=by
 show ay3 (GD (i<=l.length/\ys=((K7 i).filter b).map h/\VT=WM/\ZIr/\∃vs:SA,vs.length=n/\s'=vs++cs)) (Cu Bh Aq ak EW _ Aq rfl) ?_ ?_ ?_
 .simp_all
 .rintro i x ys s' M' N Y hx ⟨hi,hy,hD,hs,vs,hv,rfl⟩ hN hY;let⟨p,hp,rfl⟩:=SX;have hi':=(ZJ3).1;have e0:(K7 (i+1)).filter b=(K7 i).filter b++Ak (b p=true) [p] []:=by
   rw[List.take_add_one,hp];by_cases e:b p=true <;> simp[e]
  have hlen:ys.length<=i:=by
   rw[hy,List.length_map];show Jx ((List.length_filter_le ..)) ?_
   simp_all
  show el p ZFb vs M' ys N Y hv hs hD (ME (DU (Cu Ab Aw Z7 To vs' hv' rfl))) (ME (Jz Z7 Ab (Cu Ab Aw ak ((To).trans SmB.put) vs' hv' rfl)))
 simp_all
end
def cc3 (a b:Int):(Ak (b<a) b a)=min a b:=by split <;> grind
def cc7 (a b:Int):(Ak (b > a) b a)=max a b:=by split <;> lia
theorem lex1 {m n:Int}(h:HT.lexLt [n] [m]=false):m<=n:=by
 simp[HT.lexLt] at h;grind
def ah0 {α:Type}{f:α->A}{ys zs:Oe}(h:ys.Perm zs):∀{l:List α},ys=Ye->∃m:List α,zs=ZFN/\m.Perm l:=by
 induction h with
 | nil=>simp
 | cons x _ ih=>
  intro l e;cases l with
  | nil=>cases e
  | cons a l=>
   injection e with e1 e2;let⟨m,h1,h2⟩:=ih e2;show BH (a::m) (by rw[h1,e1];rfl) (h2.cons a)
 | swap x y l'=>
  intro l e
  match l,e with
  | a::b::l,e=>
   injection e with e1 e2;injection e2 with e2 e3;show⟨b::a::l,by simp_all,.swap ..⟩
 | trans _ _ i1 i2=>
  intro l e;let⟨m,h1,h2⟩:=i1 e;let⟨m',h3,h4⟩:=i2 h1;show BH m' h3 (h4.trans h2)
def j8 (n:Nat):rgA 0 n=(Za).map λi:Nat=>Er i:=by
 unfold rgA;simp
def ci3 {α:Type}(f:α->A)(l:Ql):eA Ye=l.zipIdx.map (Bi (G1 [BR x.2,f x.1])):=by
 unfold eA;rw[List.zipIdx_map,List.map_map];rfl
def af8 {α:Type}{l:Ql}{x:α×Nat}(h:l.zipIdx[i]?=OZ):l[i]?=Af x.1/\x.2=i:=by
 rw[List.getElem?_zipIdx] at h;cases e:l[i]? with
 | none=>simp_all
 | some a=>rw[e] at h;have:=Option.some.inj h;subst this;simp
def mw {α β:Type}{F G:α->β->Prop}:∀{as:List α} {bs:List β},ZC6->(∀a∈as,∀b,F a b->G a b)->ZC5 G
 | _,_,.nil,_=>.nil
 | _,_,.cons h t,k=>.cons (k _ List.mem_cons_self _ h) (mw t (Fc (k a (A7 ha))))
section
variable {α:Type}{l:Ql}{f:α->A}
def cc9 (n:Nat)(R:MA->α->Addr->Prop)(hR:∀M1 M2 x y,SmB D M1 M2->y≠D->R M1 x y->R M2 x y)(hS:∀M1 x y,R M1 x y->∃o,M1 y=Nd)(hl:l.length<=sizeLine)(hP:∀M',ZIr->P M')
  (el:∀(i:Nat) p,l[i]?=UL->∀(vs:SA) M' (ys:List A) (Y:SA->A->MA->Prop),vs.length=n->ZIr->VT=WM->(∀(vs':SA) q M'',vs'.length=n->Sm M' M''->M' q=none->R M'' p q->Y (vs'++cs) (A5 q) M'')->g (f p) (vs++cs) M' (Kw (te s2 M2 (Y s2))))
  (hD0:M D=none)
  (fin:∀(as:List Addr) M',ZIr->VT=NZ Qv->as.Nodup->(∀q∈as,M q=none/\q≠D)->W3 (λq p=>R M' p q) l->k M'):eJ g fF te P D k Ye (ZE3++cs) (Qb M D):=by
 show ay3 (GD (i<=l.length/\VT=WM/\ZIr/\(∃as:List Addr,ys=Qv/\as.Nodup/\(∀q∈as,M q=none/\q≠D)/\W3 (λq p=>R M' p q) (K7 i))/\∃vs:SA,vs.length=n/\s'=vs++cs)) (Cu Bh ak EW (B0 [] rfl .nil ip (by show .nil)) _ Aq rfl) ?_ ?_ ?_
 .simp_all
 .rintro i x ys s' M' N Y hx ⟨hi,hD,hs,⟨as,rfl,nd,ha,pr⟩,vs,hv,rfl⟩ hN hY;let⟨p,hp,rfl⟩:=SX;have hi':i<l.length:=(ZJ3).1;show el i p hp vs M' _ Y hv hs hD λvs' q M'' hv' s' fr r=>Jz Z7 ?_ (Cu Ab ak ?_ (ZIa (as++[q]) (by rw[List.map_append];rfl) ?_ ?_) vs' hv' rfl)
  .have:=ZJc;rw[List.length_take] at this;rw[List.length_map];lia
  .show (To).trans SmB.put
  .show Cw (BH nd Aq (λa ha' b hb e=>?_));rw[List.mem_singleton] at hb;subst e;let⟨j,hj⟩:=A9 ha';let⟨z,_,hz⟩:=cn pr hj;let⟨o,ho⟩:=hS _ _ _ hz
   simp_all
  .intro a ha';rcases List.mem_append.mp ha' with h|h
   .show ha a h
   .rw[List.mem_singleton.mp h];show ZBT hD0 hs fr hD
  .have qD:=(ZBT hD0 hs fr hD).2;rw[List.take_add_one,hp];show gz (mw pr λa ha' b h=>hR _ _ _ _ ZCA (ha a ha').2 h) (hR _ _ _ _ SmB.put qD r)
 .rintro ys s' M' ⟨_,hD,hs,⟨as,rfl,nd,ha,pr⟩,_⟩;rw[List.length_map,List.take_length] at pr;show fin as M' hs hD nd ha pr
end
def ab9 {ms:PD}{a:Addr}{r':NT}(h:CB (Rl M) ms rows)(nd:ms.Nodup)(ha:ms[i]?=RS):CB (Rl (ZBg a (r'.map Pa))) ms (Kc i r'):=by
 show jm (by rw[List.length_set];show cu h) λj b hb=>?_;let⟨r,hr,hl⟩:=cn h hb;by_cases e:i=j
 .subst e;rw[ha] at hb;cases hb;show BH r' (by rw[List.getElem?_set_self (Ag hr).1]) ak
 .show Qs r Aw;have:b≠a:=BT (e ((Fk ((Ag ha).1) nd).mp (by rw[ha,hb,z])));unfold Rl;rw[cf this];show hl
def SmF (F:Addr->Prop)(M M':MA):Prop:=∀a o,ZP=Nd->¬F a->ZGy=Nd
def SmF.refl (F:Addr->Prop)(M:MA):SmF F M M:=ZFS
variable {F:Addr->Prop}
def Sm.toF (s:Td):XQ F M:=λa o e y_=>s a o e
def SmF.put {F:Addr->Prop}{M M':MA}{a:Addr}{o:O}(s:XQ F M)(h:F a):SmF F M (JJ M' a o):=λb u e n=>by
 rw[cf λz=>n (by rw[z];show h)];show s _ _ e n
def SmF.old {M0:MA}(s:XQ F M)(s0:Sm M0 M)(h:∀a,F a->M0 a=none):TV M0:=Gp (s _ _ (s0 _ _ e) (Ma Aw))
open PySem.SeqAt
def cj0 (xs:Oe)(j:Nat):bN xs (FU ((j:Int))) none=Dp j:=by
 by_cases h:j<=xs.length
 .show as7 h
 .unfold bN;have e1:N5 0 ZCQ=xs.length:=by
   change ZDx j=xs.length;grind
  rw[e1,List.drop_length,List.drop_eq_nil_of_le Ab];simp
section
variable {κ β:Type}[DecidableEq κ]{kf:κ->A}(inj:∀x y,kf x=ZJa->x=y)(vf:β->A)
include inj
def al3 (l:Au (κ×β))(k:κ):aH (J2 (Bi ((kf x.1,vf x.2)))) (kf k)=((l.find? (T8 (x.1=k))).map (·.2)).map vf:=by
 unfold aH;rw[List.find?_map];have:((λp:A×A=>Cd (p.1=kf k))∘λx:κ×β=>(kf x.1,vf x.2))=T8 (x.1=k):=by
  funext x;by_cases e:x.1=k
  .simp[e]
  .have:kf x.1≠kf k:=CG (e (inj _ _ h));simp[e,this]
 rw[this];cases l.find? λx=>decide (x.1=k) <;> rfl
def bl5 (l:Au (κ×β))(k:κ)(v:β):putA (J2 (Bi ((kf x.1,vf x.2)))) (kf k) (vf v)=(Ak (((l.find? (T8 (x.1=k))).map (·.2)).isSome) (J2 (Bi (Ak (x.1=k) ((x.1,v)) x))) (l++[(k,v)])).map (Bi ((kf x.1,vf x.2))):=by
 unfold putA;rw[al3 inj vf,Option.isSome_map];by_cases e:((l.find? (T8 (x.1=k))).map (·.2)).isSome=true
 .rw[if_pos e,if_pos e,List.map_map,List.map_map];show Ct ZAi;simp only[Function.comp_apply];by_cases h:x.1=k
  .rw[if_pos h,if_pos (by rw[h])]
  .rw[if_neg h,if_neg λz=>h (inj _ _ z)]
 .rw[if_neg e,if_neg e,List.map_append];rfl
end
def aj5 (x y:Pt3×Pt3)(h:sdA x=sdA y):x=y:=by
 unfold sdA at h;simp only[A.tup.injEq,List.cons.injEq,and_true] at h;show IR (ke h.1) (ke h.2)
def br2 (x:Pt3×Pt3):aQ 2 (sdA x):=by
 rfl
variable {x:Pt3×Pt3}
def cq1 {q:KA}{n:Bool}{y:Pt3×Pt3}:rEq n (sdA x) (sdA y) M q=q (.bl (decide (x=y) != n)) M:=by
 have key:same (Hx [Hx [BR x.1.x,BR x.1.y,BR x.1.z],Hx [BR x.2.x,BR x.2.y,BR x.2.z]]) (Hx [Hx [BR y.1.x,BR y.1.y,BR y.1.z],Hx [BR y.2.x,BR y.2.y,BR y.2.z]])=Cd (x=y):=by
  have h1:=ak2 x.1 y.1;have h2:=ak2 x.2 y.2;rw[same,sameAll,sameAll,sameAll,h1,h2,Bool.and_true,<-Bool.decide_and];show decide_eq_decide.mpr (A3 (CG (IR h.1 h.2)) (CG (by rw[h];show⟨rfl,rfl⟩)))
 show propext ⟨λ⟨d,e,h1,h2,_,h⟩=>by
  cases h1;cases h2;simp_all,λh=>⟨_,_,rfl,rfl,rfl,by rw[key];show h⟩⟩
def ipT (ns:NX):A:=F0 PQ
def bX (e:Bit):A×A:=(sdA e.1,ipT e.2)
def cm6 (es:Pp)(e:Pt3×Pt3):aH ZKo (sdA e)=(ZDA).map ipT:=al3 aj5 ipT es e
def b59 (es:Pp)(e:Pt3×Pt3)(ws:NX):L3.putA ZKo (sdA e) (ipT ws)=(dI es e ws).map bX:=bl5 aj5 ipT es e ws
structure Marks (ss:List (Pt3×Pt3))(rows:List (List Pt3)):Prop where
 len:rows.length=ss.length
 ends:∀(i:Nat) x r,ss[i]?=OZ->rows[i]?=V6->x.1∈r/\x.2∈r
 meet:∀(i j:Nat) x y r,i≠j->ss[i]?=OZ->ss[j]?=Qt->rows[i]?=V6->∀q∈aI x.1 x.2 y.1 y.2,q∈r
 only:∀r∈rows,∀q∈r,gX ss q\/∃(k o:Nat) (x y:Pt3×Pt3),k≠o/\ss[k]?=OZ/\ss[o]?=Qt/\q∈aI x.1 x.2 y.1 y.2
structure MarksN (ss:List (Pt3×Pt3))(prs:List (Int×Int))(rows:List (List Pt3)):Prop where
 len:rows.length=ss.length
 ends:∀(i:Nat) x r,ss[i]?=OZ->rows[i]?=V6->x.1∈r/\x.2∈r
 meet:∀(i j:Nat) x y,((i:Int),(j:Int))∈prs->ss[i]?=OZ->ss[j]?=Qt->∀q∈aI x.1 x.2 y.1 y.2,(∀r,rows[i]?=V6->q∈r)/\∀r,rows[j]?=V6->q∈r
 only:∀r∈rows,∀q∈r,gX ss q\/∃(k o:Nat) (x y:Pt3×Pt3),k≠o/\ss[k]?=OZ/\ss[o]?=Qt/\q∈aI x.1 x.2 y.1 y.2
variable {r:NT}
def bk2 {j:Nat}{r' sh:NT}(h:rows[i]?=V6)(e:(Kc i (r++sh))[j]?=Af r'):∃r0,rows[j]?=Af r0/\(∀q∈r0,q∈r')/\(∀q∈r',q∈r0\/q∈sh)/\(j=i->∀q∈sh,q∈r'):=by
 by_cases z:i=j
 .subst z;rw[List.getElem?_set_self (Ag h).1] at e;cases e;show B0 r h (Dw (Ca hq)) (Dw (FI hq)) (λy_ q hq=>BJ hq)
 .rw[List.getElem?_set_ne z] at e;show B0 r' e (λq h=>h) (λq h=>Vc) (CG (CN h.symm z))
def MarksN.start (ss:Au (Pt3×Pt3)):MarksN ss [] (ss.map (Bi [x.1,x.2])) where
 len:=Aq
 ends:=λi x r h1 h2=>by
  rw[List.getElem?_map,h1] at h2;cases h2
  simp_all
 meet:=λi j x y h=>by cases h
 only:=λr hr q hq=>by
  let⟨x,hx,rfl⟩:=BL hr;show FK (Qs x hx);simpa using hq
def MarksN.step {ss:Au (Pt3×Pt3)}{prs:Au (Int×Int)}{rows:QK}(h:MarksN ss prs rows){i j:Nat}{x y:Pt3×Pt3}{r r2:NT}(n:i≠j)(hx:ss[i]?=OZ)(hy:ss[j]?=Qt)(hr:rows[i]?=V6)
  (hr2:(Kc i (r++aI x.1 x.2 y.1 y.2))[j]?=Af r2):MarksN ss (prs++[((i:Int),(j:Int))]) ((Kc i (r++aI x.1 x.2 y.1 y.2)).set j (r2++aI x.1 x.2 y.1 y.2)):=by
 have two:∀{k:Nat} {r'},((Kc i (r++aI x.1 x.2 y.1 y.2)).set j (r2++aI x.1 x.2 y.1 y.2))[k]?=Af r'->∃r0,rows[k]?=Af r0/\(∀q∈r0,q∈r')/\(∀q∈r',q∈r0\/q∈aI x.1 x.2 y.1 y.2)/\(k=i\/k=j->∀q∈aI x.1 x.2 y.1 y.2,q∈r'):=λ{k r'} e=>by
  let⟨r1,e1,a1,a2,a3⟩:=bk2 hr2 e;let⟨r0,e0,b1,b2,b3⟩:=bk2 hr e1;show B0 r0 e0 (Dw (a1 q (b1 q hq))) (Dw ?_) (λz q hq=>?_)
  .rcases a2 q hq with h|h
   .show b2 q h
   .show CK h
  .rcases z with z|z
   .show a1 q (b3 z q hq)
   .show a3 z q hq
 show By (by rw[List.length_set,List.length_set];show h.len) (λk z r' h1 h2=>?_) (λk o z w hm h1 h2 q hq=>?_) (λr' hr' q hq=>?_)
 .let⟨r0,e0,a,_⟩:=two h2;have:=h.ends k z r0 h1 e0
  simp_all
 .rcases List.mem_append.mp hm with hm | hm
  .let⟨m1,m2⟩:=h.meet k o z w hm h1 h2 q hq;show⟨λr' e=>let ⟨r0,e0,a,_⟩:=two e;a _ (m1 r0 e0),λr' e=>let ⟨r0,e0,a,_⟩:=two e;a _ (m2 r0 e0)⟩
  .have e:=De hm;have e1:k=i:=by grind
   have e2:o=j:=by lia
   subst e1 e2;rw[hx] at h1;cases h1;rw[hy] at h2;cases h2;show⟨λr' e=>let ⟨r0,e0,_,_,a⟩:=two e;a OP _ hq,λr' e=>let ⟨r0,e0,_,_,a⟩:=two e;a Nt _ hq⟩
 .let⟨k,hk⟩:=A9 hr';let⟨r0,e0,_,a,_⟩:=two hk;rcases a q hq with a|a
  .show h.only r0 (Ad e0) q a
  .show Eh (IZ i j x y n hx hy a)
variable {ss:Au (Pt3×Pt3)}
def MarksN.done {prs:Au (Int×Int)}(h:MarksN ss prs rows)(ok:∀x∈ss,OkS m x)(hn:lC ss prs):ZDV ss:=by
 show By h.len h.ends (λi j x y r n hx hy hr q hq=>?_) h.only;have ox:=SM x hx;have oy:=SM y hy;have told:=(uo ox.a ox.b oy.a oy.b ox.ab oy.ab).2.1 q hq;rcases hn.2.2 i j x y n hx hy ⟨q,told.1,told.2.1,told.2.2⟩ with hm|hm
 .show (h.meet i j x y hm hx hy q hq).1 r hr
 .show (h.meet j i y x hm hy hx q (by rw[xt ox.a ox.b oy.a oy.b ox.ab oy.ab];show hq)).2 r hr
def Marks.on {ss:Au (Pt3×Pt3)}{rows:QK}{m:Nat}(h:ZDV ss)(ok:∀x∈ss,OkS m x){q:Pt3}{r0:NT}(h0:r0∈rows)(hq:q∈r0){i:Nat}{x:Pt3×Pt3}{r:NT}(hx:ss[i]?=OZ)(hr:rows[i]?=V6)(on:onB q x.1 x.2=true):q∈r:=by
 have ox:=SM x hx;have endIn:∀{k:Nat} {z:Pt3×Pt3},ss[k]?=Wf->(q=z.1\/q=z.2)->q∈r:=λ{k z} hz e=>by
  by_cases n:i=k
  .subst n;rw[hx] at hz;cases hz;rcases e with e|e <;> rw[e]
   .show (h.ends i x r hx hr).1
   .show (h.ends i x r hx hr).2
  .have oz:=SM z hz;show h.meet i k x z r n hx hz hr q (bo9 ox.a ox.b oz.a oz.b ox.ab oz.ab e on)
 rcases h.only r0 h0 q hq with⟨z,hz,e⟩|⟨k,o,z,w,n,hz,hw,hm⟩
 .let⟨k,hk⟩:=ZFh;show endIn hk e
 .have oz:=SM z hz;have ow:=SM w hw;let⟨lq,q1,q2⟩:=(uo oz.a oz.b ow.a ow.b oz.ab ow.ab).2.1 q hm;have viaZ:∀{k:Nat} {z:Pt3×Pt3},ss[k]?=Wf->onB q z.1 z.2=true->¬(det x.1 x.2 z.1=0/\det x.1 x.2 z.2=0)->q∈r:=λ{k z} hz oq nc=>by
   have oz:=SM z hz;have n:i≠k:=λe=>by
    subst e;rw[hx] at hz;cases hz;show nc Ga
   show h.meet i k x z r n hx hz hr q (qw ox.a ox.b oz.a oz.b lq ox.ab oz.ab on oq nc)
  by_cases c1:det x.1 x.2 z.1=0/\det x.1 x.2 z.2=0
  .by_cases c2:det x.1 x.2 w.1=0/\det x.1 x.2 w.2=0
   .let⟨d1,d2⟩:=iq ox.ab c1.1 c1.2;have e1:=ff ox.ab d1 d2 c2.1;have e2:=ff ox.ab d1 d2 c2.2;unfold aI at hm;rw[if_pos (by rw[e1,e2]),if_pos (by rw[e1];rfl)] at hm;rcases yn oz.a oz.b ow.a ow.b q hm with e|e|e|e
    .show endIn hz ZAv
    .show endIn hz YX
    .show endIn hw ZAv
    .show endIn hw YX
   .show viaZ hw q2 c2
  .show viaZ hz q1 c1
def bg0 (ws:NX)(l:Au (Pt3×Pt3))(es:Pp)(nd:(Fd ((·.1))).Nodup):((aU ws es l).map (·.1)).Nodup:=jf (I:=λes:List Bit=>(Fd ((·.1))).Nodup) l es nd (HX (a66 h))
def bg1 (zs:Au (Stk×NT)):((aN zs).map (·.1)).Nodup:=jf (I:=λes:List Bit=>(Fd ((·.1))).Nodup) zs [] .nil (HX (bg0 _ _ _ h))
def xg (xs:Ph)(rows:QK):((Pu).map (·.1)).Nodup:=(bg1 _).sublist ((List.filter_sublist).map _)
def t7 {zs:Au (Stk×NT)}{z:Stk×NT}(h:zs[i]?=Wf):aN (LQ (i+1))=aU z.1.2 (aN (LQ i)) (ZR z.1.1.1 z.1.1.2 z.2):=by
 unfold aN;rw[List.take_add_one,h,List.foldl_append];rfl
def ar3 {ws:NX}{l:Au (Pt3×Pt3)}{z:Pt3×Pt3}(h:l[i]?=Wf):aU ws es (K7 (i+1))=fI (aU ws es (K7 i)) (aY z.1 z.2) (ZBR z.1 z.2):=by
 unfold aU;rw[List.take_add_one,h,List.foldl_append];rfl
def bj3 (h:rows[i]?=V6):tot (MD (i+1))=tot (MD i)+r.length:=by
 have app:∀a b:List (List Pt3),tot (a++b)=tot a+tot b:=by
  intro a b
  induction a with
  | nil=>simp[tot]
  | cons x a ih=>rw[List.cons_append,tot,tot,ih];lia
 rw[List.take_add_one,h,app];simp[tot]
def yk:∀(rows:List (List Pt3)) (i:Nat),tot (MD i)<=ZJG
 | [],i=>by simp
 | r::rows,0=>by simp[tot]
 | r::rows,i+1=>by
  have:=yk rows i;rw[List.take_succ_cons,tot,tot];simp_all
def bd9 (row:NT):(aM row).length<=row.length:=by unfold aM;simp
def a95 {kvs:Au (A×A)}(nd:(FQ ((·.1))).Nodup){k v:A}(h:kvs[i]?=FU ((k,v))):Tb=Pm:=by
 unfold aH;have hm:=Ad h;cases e:kvs.find? λp=>decide (p.1=k) with
 | none=>
  rw[List.find?_eq_none] at e;show CN Aq (e _ hm)
 | some y=>
  have y1:=List.find?_some e;let⟨j,hj⟩:=A9 (Ex e);have:j=i:=(Eu (by rw[List.length_map];show (ZFd).1) nd).mp Aw;rw[this,h] at hj;cases hj;rfl
def b31 {kvs:Au (A×A)}{k:A}(h:∀p∈kvs,p.1≠k):Tb=none:=by
 unfold aH;rw[Option.map_eq_none_iff,List.find?_eq_none];intro p hp e;show h p hp (Dx e)
def ar9 {kvs:Au (A×A)}{k v:A}(h:Tb=Pm):(k,v)∈kvs:=by
 unfold aH at h;cases e:kvs.find? λp=>decide (p.1=k) with
 | none=>simp_all
 | some y=>
  grind
structure OdA (M M':MA)(O':Addr)(o:Obj)(os:List Oth)(ls:List Addr):Prop where
 sm:Td
 at':M' O'=Af (Fm 1 o ((Yj).map (B5 ((Pa p.1.1,A.ref p.2)))))
 nd:ls.Nodup
 new:∀l∈ls,Sv=none
 pr:CB (λl o=>Rl M' l o.2) ls os
 kn:(HE ((·.1))).Nodup
variable {O':Addr}{ls:PD}
def OdA.keys (h:OdA M M' O' o os ls):(((Yj).map (B5 ((Pa p.1.1,A.ref p.2)))).map (·.1)).Nodup:=by
 have e:((Yj).map (B5 ((Pa p.1.1,A.ref p.2)))).map (·.1)=(HE ((·.1))).map Pa:=by
  have:(Yj).map Prod.fst=os:=Ja (by rw[cu h.pr];show Nat.le_refl _);have e2:((Yj).map Prod.fst).map (λo=>Pa o.1)=HE (λo=>Pa o.1):=by rw[this]
  rw [List.map_map, List.map_map]
  rw[List.map_map] at e2;show e2
 rw[e];show h.kn.map (f:=Pa) λa b n e=>n (ke e)
def m8 (nd:(HE ((·.1))).Nodup)(h:os[i]?=FU ((z,qs))):Z8 z q=os.set i (z,qs++[q]):=by
 have hs:(atO os z).isSome=true:=by
  unfold atO;rw[Option.isSome_map,List.find?_isSome];show U6 (Ad h) Aq
 unfold aX;rw[if_pos hs];show ZEk;rw[List.getElem?_map,List.getElem?_set];have li:=(Ag h).1;by_cases e:i=j
 .subst e;rw[h];simp[li]
 .rw[if_neg e];cases ej:os[j]? with
  | none=>rfl
  | some x=>
   have:x.1≠z:=λhx=>e ((Eu Aw nd).mp Aw);simp[this]
def u4 (h:∀o∈os,o.1≠z):Z8 z q=os++[(z,[q])]:=by
 have hs:(atO os z).isSome=false:=by
  unfold atO;rw[Option.isSome_map,Bool.eq_false_iff];intro hh;rw[List.find?_isSome] at hh;let⟨x,hx,e⟩:=hh;show h x hx (Dx e)
 unfold aX;rw[hs];simp only[Bool.false_eq_true,if_false,List.map_append,List.map_cons];congr 1;rw[List.map_congr_left (g:=id) λx hx=>by rw[if_neg (h x hx)];rfl,List.map_id]
def Bnd (n:Nat)(os:UO):Prop:=os.length<=n/\∀o∈os,o.2.length<=n
def bv8 {qs':NT}(h:os[i]?=FU ((z,qs))):((os.set i (z,qs')).zip ls).map (B5 ((Pa p.1.1,A.ref p.2)))=(Yj).map (B5 ((Pa p.1.1,A.ref p.2))):=by
 show ZEk;rw[List.getElem?_map,List.getElem?_map];simp only[List.zip,List.getElem?_zipWith];by_cases e:i=j
 .subst e;rw[List.getElem?_set_self (Ag h).1,h];cases ls[i]? <;> rfl
 simp_all
variable {k:Nat}
def bo1 {k:KA}(od:OdA M M' O' o os ls)(hO:M O'=none)(hb:Bnd n os)(hn:n<20000)
  (f:∀o' ls' M'',OdA M M'' O' o' (Z8 z q) ls'->Bnd (n+1) (Z8 z q)->k .non M'') :
  ∃l n o kvs,A.ref O'=.ref l/\M' l=some (PX n o)/\([]:List A).length<=sizeLine/\∀p,M' p=none->∃n o kvs,put M' p Tp l=some (PX (n+1) o)/\aQ (n+1) ZG1/\kvs.length<sizeLine/\
   (∀v,QZ ZG1=Pm->(∃l xs,v=On/\put M' p Tp l=Ou)/\bV v [Pa q] (Qb M' p) k)/\
   (QZ ZG1=none->∀o',(∃l_1 xs,Ej p=A5 l_1/\put (Qb M' p) l (ZFw (n+1) (kvs++[(Pa z,.ref p)])) l_1=Ou)/\bV Pw [Pa q] (put (Qb M' p) l (ZFw (n+1) (kvs++[(Pa z,.ref p)]))) k):=by
 have sL:100000<sizeLine:=by decide
 have hlen:=cu od.pr;have kl:((Yj).map (B5 ((Pa p.1.1,A.ref p.2)))).length<sizeLine:=by
  rw[List.length_map,List.length_zip];have:=hb.1;lia
 show IZ O' _ _ _ rfl od.at' Bh (Bg (IZ 0 _ _ (Bz hp od.at') (wr z) kl ZKk (λhv o'=>?_)))
 .let⟨i,hi⟩:=A9 (ar9 hv);rw[List.getElem?_map] at hi;cases ei:(Yj)[i]? with
  | none=>rw[ei] at hi;cases hi
  | some y=>
   let⟨⟨z',qs⟩,l⟩:=y;rw[ei] at hi;simp only[Option.map_some,Option.some.injEq,Prod.mk.injEq] at hi;have ez:=ke hi.1;subst ez;rw[<-hi.2];let⟨h1,h2⟩:=vb ei;let⟨w,hw,lw⟩:=ZEL h2;have ew:w=(z',qs):=BW (hw.symm.trans h1);subst ew;have lp:Rl (Qb M' p) l qs:=lw.same SD;have hql:qs.length<=n:=hb.2 _ ZCN;show Pk (Pq l _ lp);rw[j6 lp];show A3 (by rw[List.length_map];lia) (f o ls _ (Dt ?_ ?_ od.nd od.new ?_ ?_) ZF8)
   .show ((ZJg).upd (od.new l ZJs))
   .have:O'≠l:=λe=>by rw[<-e] at lw;unfold Rl at lw;rw[od.at'] at lw;cases lw
    rw[cf this,m8 od.kn h1,bv8 h1];show Bz hp od.at'
   .rw[m8 od.kn h1];show jm (by rw[List.length_set];show hlen) ZIQ;let⟨w,hw',lw'⟩:=ZEL hb';by_cases e:i=j
    .subst e;rw[h2] at hb';cases hb';show U6 (by rw[List.getElem?_set_self (Ag h1).1]) (by unfold Rl;rw[ak,List.map_append];rfl)
    .show Qs w (by rw[List.getElem?_set_ne e];show hw');have:b≠l:=BT (e ((Fk ((Ag h2).1) od.nd).mp (by rw[h2,hb',z])));show (lw'.same SD).but SmB.put this
   .rw[m8 od.kn h1];have:(os.set i (z',qs++[q])).map (·.1)=HE ((·.1)):=by
     rw[List.map_set];show ZEk;by_cases e:i=j
     .subst e;rw[List.getElem?_set_self (by rw[List.length_map];show (Ag h1).1),List.getElem?_map,h1];rfl
     .rw[List.getElem?_set_ne e]
    rw[this];show od.kn
   .rw[m8 od.kn h1,List.length_set];have:=hb.1;lia
   .rw[m8 od.kn h1];intro x hx;rcases List.mem_or_eq_of_mem_set hx with h|h
    .have:=hb.2 x h;lia
    .rw[h];simp;omega
 .have no:∀o∈os,o.1≠z:=λx hx e=>by
   let⟨i,hi⟩:=A9 hx;let⟨l,hl,_⟩:=td od.pr hi;have:=a95 od.keys (i:=i) (k:=ZG1) (v:=On) (by rw[List.getElem?_map,(List.getElem?_zip_eq_some (z:=(x,l))).mpr ⟨hi,hl⟩];simp[e]);rw[this] at hv;cases hv
  have pO:p≠O':=λe=>by rw[e,od.at'] at hp;cases hp
  have lp:put (Qb M' p) O' (ZFw 1 (((Yj).map (B5 ((Pa p.1.1,A.ref p.2))))++[(Pa z,.ref p)])) p=SO []:=by rw[cf pO];show ak
  show Pk (Pq p _ lp);rw[j6 lp];have pls:∀l∈ls,l≠p:=λl hl e=>by
   let⟨i,hi⟩:=A9 hl;let⟨w,_,lw⟩:=ZEL hi;rw[e] at lw;unfold Rl at lw;rw[hp] at lw;cases lw
  have lsO:∀l∈ls,l≠O':=λl hl e=>by
   let⟨i,hi⟩:=A9 hl;let⟨w,_,lw⟩:=ZEL hi;rw[e] at lw;unfold Rl at lw;rw[od.at'] at lw;cases lw
  show A3 (by simp;lia) (f o' (ls++[p]) _ (Dt ?_ ?_ ?_ ?_ ?_ ?_) ZF8)
  .show ((ZJg).upd hO).upd (od.sm.free hp)
  .rw[cf (BX pO),ak,u4 no,List.zip_append hlen.symm,List.map_append];rfl
  .show Cw (BH od.nd Aq (JZ (pls a ha (by rw[e];show List.mem_singleton.mp hb))))
  .intro l hl;rcases List.mem_append.mp hl with h|h
   .show od.new l h
   .rw[List.mem_singleton.mp h];show od.sm.free hp
  .rw[u4 no];show gz (mw od.pr λl hl w lw=>?_) ak;unfold Rl;rw[cf (pls l hl),cf (lsO l hl),cf (pls l hl)];show lw
  .rw[u4 no,List.map_append];show Cw (BH od.kn Aq (JZ ?_));let⟨x,hx,rfl⟩:=BL ha;show no x hx (by rw[e];simpa using hb)
  .rw[u4 no];simp;have:=hb.1;omega
  .rw[u4 no];intro x hx;rcases List.mem_append.mp hx with h|h
   .have:=hb.2 x h;lia
   .rw[List.mem_singleton.mp h];simp
def ci9 {xs:Oe}(j:Nat)(h:0<j):ZDR xs (FU ((j:Int)))=Dz j:=by
 unfold bN;have e1:N5 0 none=0:=rfl;have e2:Pz ZCQ=ZDx j:=by
  rfl
 simp_all
def RlF (F:Addr->Prop)(M:MA)(b:Addr)(r:NT):Prop:=¬F b/\Rl M b r
def RgF (F:Addr->Prop)(M:MA)(a:Addr)(rs:QK):Prop:=¬F a/\∃bs:List Addr,ZP=ZCq/\Zb F M bs rs
def LyF (F:Addr->Prop)(M:MA)(l:Addr)(lys:ZCU):Prop:=¬F l/\∃as:List Addr,Sv=NZ Qv/\W3 (RgF F M) lys
def ax8 {F':Addr->Prop}{b:Addr}{o:O}(n:¬F b)(h:M b=Nd)(i:∀a,F' a->F a\/ZP=none):¬F' b:=λf=>by
 grind
def RlF.mv {F':Addr->Prop}{b:Addr}(h:RlF F M b r)(s:XQ F M)(i:∀a,F' a->F a\/ZP=none):RlF F' M' b r:=A3 (ax8 h.1 h.2 i) (s _ _ h.2 h.1)
def RgF.mv {F F':Addr->Prop}{M M':MA}{a:Addr}{rs:QK}(h:RgF F M a rs)(s:XQ F M)(i:∀a,F' a->F a\/ZP=none):RgF F' M' a rs:=let ⟨n,bs,h1,h2⟩:=h;⟨ax8 n h1 i,bs,s _ _ h1 n,cv h2 λy_ y_ h=>h.mv s i⟩
def LyF.mv {F F':Addr->Prop}{M M':MA}{l:Addr}{lys:ZCU}(h:LyF F M l lys)(s:XQ F M)(i:∀a,F' a->F a\/ZP=none):LyF F' M' l lys:=let ⟨n,bs,h1,h2⟩:=h;⟨ax8 n h1 i,bs,s _ _ h1 n,cv h2 λy_ y_ h=>h.mv s i⟩
def bs5 {as:PD}{lys:ZCU}(h:W3 (RgF F M) lys)(n:0<as.length)(h1:∀rs∈lys,1<=rs.length):∃(a b:Addr) (bs:List Addr) (r:List Pt3),as[0]?=RS/\ZP=ZCq/\bs[0]?=UK/\RlF F M b r/\∃rs∈lys,r∈rs:=by
 cases h with
 | nil=>simp at n
 | @cons a rs as lys x t=>
  let⟨_,bs,h2,h3⟩:=x;have:=h1 rs List.mem_cons_self;cases h3 with
  | nil=>simp at this
  | @cons b r bs rs y t'=>show⟨a,b,b::bs,r,rfl,h2,rfl,y,_,List.mem_cons_self,List.mem_cons_self⟩
def SmB.toF (s:QG l M)(h:F l):XQ F M:=λa o e n=>s a o e (BT (n (by rw[z];show h)))
def Sm2.toF {k:Addr}(s:Sm2 k l M M')(h:F k)(h':F l):XQ F M:=λa o e n=>s a o e (BT (n (by rw[z];show h))) (BT (n (by rw[z];show h')))
def b43 (M:MA)(k:Nat)(i:Int):dat M k P1=some P1:=by cases k <;> rfl
def t8 (M:MA)(k:Nat):∀ns:List Int,Xl M k PQ=Af Pi
 | []=>rfl
 | n::ns=>by
  rw[List.map_cons,bP,b43,t8 M k ns];rfl
theorem same_ints:∀ns ms:List Int,sameAll Pi Vy=Cd (ns=ms)
 | [],[]=>by simp[sameAll]
 | [],m::ms=>by simp[sameAll]
 | n::ns,[]=>by simp[sameAll]
 | n::ns,m::ms=>by
  rw[List.map_cons,List.map_cons,sameAll,same_ints ns ms];have:same (BR n) ZKB=Cd (n=m):=by rfl
  simp_all
def tq:∀ns ms:List Int,noMixAll Pi Vy=true
 | [], [] => by simp [noMixAll]
 | [],m::ms=>by simp[noMixAll]
 | n::ns,[]=>by simp[noMixAll]
 | n::ns,m::ms=>by
  rw[List.map_cons,List.map_cons,noMixAll,tq ns ms];simp[noMix]
section
variable {q:KA}{n:Bool}{a b:NX}
def as5:rEq n (ipT a) (ipT b) M q=q (.bl (decide (a=b) != n)) M:=by
 have d:∀c:List Int,ZIM 8 (ipT c)=Af (GV ZG3):=λc=>by
  change (Xl M 7 (c.map A.int)).map PyData.tuple=_;rw[t8];rfl
 have s:same (GV TQ) (GV TR)=Cd (a=b):=by rw[same,same_ints]
 have m:noMix (GV TQ) (GV TR)=true:=by rw[noMix,tq]
 show propext ⟨λ⟨x,y,h1,h2,_,h⟩=>by
  simp_all,λh=>⟨_,_,d a,d b,m,by rw[s];show h⟩⟩
def cm9 {x y:Addr}(hx:M x=NZ (a.map A.int))(hy:M y=NZ (b.map A.int)):rEq n (A5 x) (A5 y) M q=q (.bl (decide (a=b) != n)) M:=by
 have d:∀{x:Addr} {c:List Int},M x=NZ (c.map A.int)->ZIM 8 (A5 x)=Af (.list ZG3):=λ{x c} h=>by
  change (match M x with
   | some (.lst xs)=>(Xl M 7 xs).map PyData.list
   | _=>none)=_
  simp only[h];rw[t8];rfl
 have s:same (.list TQ) (.list TR)=Cd (a=b):=by rw[same,same_ints]
 have m:noMix (.list TQ) (.list TR)=true:=by rw[noMix,tq]
 show propext ⟨λ⟨u,v,h1,h2,_,h⟩=>by
  rw[d hx] at h1;rw[d hy] at h2;simp_all,λh=>⟨_,_,d hx,d hy,m,by rw[s];show h⟩⟩
end
def bq8 (x y:Int×Int)(h:ipA x=ipA y):x=y:=by
 unfold ipA at h;simp at h;show IR h.1 h.2
section
variable {G:G3}{X:Cx}{e:Expr}{te:TEA}{pos p2:Pos}
def mG (te:TEA)(tl th:TOA):TEA:=λs M q=>te s M λx M1=>tl s M1 λl M2=>th s M2 λu M3=>match x with
 | .tup xs=>¬(N5 0 l=0/\Pz u=xs.length)/\q (F0 (bN xs l u)) M3
 | _=>False
def ye {lo hi:Sy}{tl th:TOA}(he:WR)(hl:Ut X lo G tl)(hu:Ut X hi G th):RN (ZHu e hi none p2) (mG te tl th):=
 PE.imp (ab7 b90 he hl hu) λσ H Q ⟨s,M,q,R,h,f⟩=>⟨s,M,_,R,h,λx M1 v H1 h1 i1 m1 k1=>⟨s,M1,_,R.to k1 m1,h1,λl M2 H2 h2 m2 k2=>⟨s,M2,_,R.to (k1.trans k2) m2,h2,λu M3 H3 h3 m3 k3=>by
  have kk:=ZC9;split at h3
  .have i3:=i1.keep (E3 k3);let⟨a,vs,rfl,hp,iv⟩:=i3;have hlen:=iv.len;show Dt a vs rfl WI (by rw[hlen];show h3.1) ZCl;show f _ _ _ _ h3.2 (Pf p _ c6 ((iv.cut l u).keep Sa)) (m3.lay hn) (Ic Sa)
  .show h3.elim⟩⟩⟩
end
def cn3 {tl th:TOA}{s:SA}{q:KA}:mG te tl th s M q=te s M λx M1=>tl s M1 λl M2=>th s M2 λu M3=>match x with
 | .tup xs=>¬(N5 0 l=0/\Pz u=xs.length)/\q (F0 (bN xs l u)) M3
 | _=>False:=rfl
def upV (m:Nat)(val:Int->Int->NX)(i j:Int):NX:=(B1 m).map (Ec ((QH (i - 1)).getD k 0 - (Ss).getD k 0))
def rtV (m:Nat)(val:Int->Int->NX)(i j:Int):NX:=(B1 m).map (Ec ((Ss).getD k 0 - (ZS (j - 1)).getD k 0))
noncomputable def gp (i j:Int):Pt3:=BH i j 1
def gUp (m:Nat)(val:Int->Int->NX)(i j:Int):Ph:=Ak (ZG4 m i j≠ZD) [((gp i j,gp i (j+1)),upV m val i j)] []
def gRt (m:Nat)(val:Int->Int->NX)(i j:Int):Ph:=Ak (rtV m val i j≠ZD) [((gp i j,gp (i+1) j),rtV m val i j)] []
def dC (m:Nat)(val:Int->Int->NX)(i:Int)(n:Nat):Ph:=(Za).flatMap λj:Nat=>gUp m val i j++gRt m val i j
def cJ (m:Nat)(val:Int->Int->NX)(W H:Nat):Ph:=(B1 W).flatMap λi:Nat=>ZDW m i H
def xw (m:Nat)(val:Int->Int->NX)(i:Int)(n:Nat):ZDW m i (n+1)=ZDW m i n++(gUp m val i n++gRt m val i n):=by
 unfold dC;rw[List.range_succ];simp
def xx (m:Nat)(val:Int->Int->NX)(W H:Nat):Y3 m (W+1) H=Y3 m W H++ZDW m W H:=by
 unfold cJ;rw[List.range_succ];simp
def a96 (m:Nat)(val:Int->Int->NX)(i j:Int):(gUp m val i j).length<=1:=by unfold gUp;split <;> simp
def b32 (m:Nat)(val:Int->Int->NX)(i j:Int):(gRt m val i j).length<=1:=by unfold gRt;split <;> simp
def ad7 (m:Nat)(val:Int->Int->NX)(i:Int):∀n:Nat,(ZDW m i n).length<=2*n
 | 0=>by simp[dC]
 | n+1=>by
  have:=ad7 m val i n;have h1:=a96 m val i n;have h2:=b32 m val i n;rw[xw,List.length_append,List.length_append];lia
def ww (m:Nat)(val:Int->Int->NX)(H:Nat):∀W:Nat,(Y3 m W H).length<=2*H*W
 | 0=>by simp[cJ]
 | W+1=>by
  have:=ww m val H W;have h1:=ad7 m val W H;rw[xx,List.length_append];lia
def ad8 {val:Int->Int->NX}{W H:Nat}{x:Stk}(h:x∈Y3 m W H):x.2.length=m/\∃i j:Int,0<=i/\i<W/\0<=j/\j<H/\x.1.1=gp i j/\(x.1.2=gp i (j+1)\/x.1.2=gp (i+1) j):=by
 unfold cJ at h;let⟨i,hi,h⟩:=ZBU;let⟨j,hj,h⟩:=ZBU
 have hi' := List.mem_range.mp hi
 have hj' := List.mem_range.mp hj
 rcases List.mem_append.mp h with h | h
 .unfold gUp at h;split at h
  .rw[List.mem_singleton.mp h];show IV (by simp[upV]) i j Ab Ab Ab Ab rfl OP
  .cases h
 .unfold gRt at h;split at h
  .rw[List.mem_singleton.mp h];show IV (by simp[rtV]) i j Ab Ab Ab Ab rfl Nt
  .cases h
section
variable (T:Pt3->Int)(k m:Nat)(val:Int->Int->NX)
def gS (xs:Ph):Int:=(Rm ((T x.1.1 - T x.1.2)*x.2.getD k 0)).sum
def al4 (xs ys:Ph):gS T k (xs++ys)=gS T k xs+gS T k ys:=by unfold gS;rw[List.map_append,List.sum_append]
def aa2 (l:NX)(h:l=ZD):l.getD k 0=0:=by
 rw[h,List.getD_eq_getElem?_getD,List.getElem?_replicate];split <;> rfl
def bw4 (hl:∀i j,(Ss).length=m)(i j:Int):(ZG4 m i j).getD k 0=(QH (i - 1)).getD k 0 - (Ss).getD k 0:=by
 unfold upV;by_cases h:k<m
 .rw[List.getD_eq_getElem?_getD,List.getElem?_map,List.getElem?_range h];rfl
 simp_all
def bx7 (hl:∀i j,(Ss).length=m)(i j:Int):(rtV m val i j).getD k 0=(Ss).getD k 0 - (ZS (j - 1)).getD k 0:=by
 unfold rtV;by_cases h:k<m
 .rw[List.getD_eq_getElem?_getD,List.getElem?_map,List.getElem?_range h];rfl
 simp_all
set_option tactic.hygienic true in
def cm7 (i j:Int):gS T k (gUp m val i j)=(ZCC i j - ZCC i (j+1))*(ZG4 m i j).getD k 0:=by
 unfold gUp;split
 .simp[gS]
 .rename_i h;rw[aa2 k m _ (Mr h)];simp[gS]
set_option tactic.hygienic true in
def cm8 (i j:Int):gS T k (gRt m val i j)=(ZCC i j - ZCC (i+1) j)*(rtV m val i j).getD k 0:=by
 unfold gRt;split
 .simp[gS]
 .rename_i h;rw[aa2 k m _ (Mr h)];simp[gS]
def bs1 (hl:∀i j,(Ss).length=m)(i:Int)(h0:∀i,(ZS (-1)).getD k 0=0):∀n:Nat,gS T k (ZDW m i n)=((Za).map λj:Nat=>(ZCC i j - ZCC i (j+1))*(QH (i - 1)).getD k 0 - (ZCC (i+1) j - ZCC (i+1) (j+1))*(Ss).getD k 0).sum+(ZCC i n - ZCC (i+1) n)*(ZS ((n:Int) - 1)).getD k 0
 | 0=>by
  simp only[dC,gS,List.range_zero,List.flatMap_nil,List.map_nil]
  simp_all
 | n+1=>by
  rw[xw,al4,al4,bs1 hl i h0 n,cm7,cm8,bw4 k m val hl,bx7 k m val hl,List.range_succ,List.map_append,List.sum_append]
  simp only [List.map_cons, List.map_nil, List.sum_cons, List.sum_nil]
  grind
def bs2 (hl:∀i j,(Ss).length=m)(h0:∀i,(ZS (-1)).getD k 0=0)(hL:∀j,(QH (-1)).getD k 0=0)(H:Nat)(hH:∀i,(ZS ((H:Int) - 1)).getD k 0=0):∀W:Nat,gS T k (Y3 m W H) = - ((B1 H).map λj:Nat=>(ZCC W j - ZCC W (j+1))*(QH ((W:Int) - 1)).getD k 0).sum
 | 0=>by
  have e:((B1 H).map λj:Nat=>(T (gp (0:Nat) j) - T (gp (0:Nat) (j+1)))*(QH (((0:Nat)) - 1)).getD k 0).sum=0:=by
   have:∀l:List Nat,(J2 (λj:Nat=>(T (gp (0:Nat) j) - T (gp (0:Nat) (j+1)))*(QH (((0:Nat)) - 1)).getD k 0)).sum=0:=by
    intro l
    induction l with
    | nil=>rfl
    | cons a l ih=>simp_all
   show this _
  rw[e];rfl
 | W+1=>by
  rw[xx,al4,bs2 hl h0 hL H hH W,bs1 T k m val hl W h0 H,hH];have sub:∀(f g:Nat->Int) (l:List Nat),(J2 (En (f j - g j))).sum=(Ye).sum - (ZKY).sum:=by
   intro f g l
   induction l with
   | nil=>rfl
   | cons a l ih=>simp only[List.map_cons,List.sum_cons,ih];lia
  rw[sub];lia
def as2 (hl:∀i j,(Ss).length=m)(h0:∀i,ZS (-1)=ZD)(hL:∀j,QH (-1)=ZD)(W H:Nat)(hH:∀i,ZS ((H:Int) - 1)=ZD)(hW:∀j,QH ((W:Int) - 1)=ZD):gS T k (Y3 m W H)=0:=by
 have z:=aa2 k m;rw[bs2 T k m val hl (GF (z _ (h0 i))) (En (z _ (hL j))) H λi=>z _ (hH i)];have:∀l:List Nat,(J2 (λj:Nat=>(ZCC W j - ZCC W (j+1))*(QH ((W) - 1)).getD k 0)).sum=0:=by
  intro l
  induction l with
  | nil=>rfl
  | cons a l ih=>simp_all
 rw[this];rfl
end
def Cl (xs:Ph):Prop:=∀(T:Pt3->Int) (k:Nat),gS T k xs=0
def Cl.nil:Cl []:=NJ
def Cl.app {ys:Ph}(h:ZFV)(g:Cl ys):Cl (xs++ys):=λT k=>by rw[al4,h,g];rfl
def Cl.rev (h:ZFV):Cl xs.reverse:=λT k=>by
 have:=h T k;unfold gS at this ⊢;rw[List.map_reverse,List.sum_reverse];show this
def Cl.map {xs:Ph}(h:ZFV)(f:Pt3->Pt3):Cl (Rm (((f x.1.1,f x.1.2),x.2))):=λT k=>by
 have:=h (B5 (T (f p))) k;unfold gS at this ⊢;rw[List.map_map];show this
def fJ (r:NT):Au (Pt3×Pt3):=(r.drop (r.length - 1)++r.take (r.length - 1)).zip r
def xh (r:NT):(ZJh).length=r.length:=by
 unfold fJ;simp
def bv7 (T:Pt3->Int):∀(a b:List Pt3),a.length=b.length->((a.zip b).map λs=>T s.1 - T s.2).sum=(a.map T).sum - (b.map T).sum:=by
 intro a
 induction a with
 | nil=>intro b h;cases b with
  | nil=>rfl
  | cons=>cases h
 | cons x a ih=>intro b h;cases b with
  | nil=>cases h
  | cons y b=>
   have:=ih b (by simpa using h);simp only[List.zip_cons_cons,List.map_cons,List.sum_cons,this];lia
def at5 (r:NT)(ws:NX):Cl ((ZJh).map λs=>(s,ws)):=λT k=>by
 unfold gS;rw[List.map_map];change ((ZJh).map λs=>(T s.1 - T s.2)*Ky k 0).sum=0;rw[a62];have:((ZJh).map λs=>T s.1 - T s.2).sum=0:=by
  unfold fJ;rw[bv7 T _ _ Aq];have:(Hu T).sum=((r.drop (r.length - 1)++r.take (r.length - 1)).map T).sum:=by
   conv=>lhs;rw[<-List.take_append_drop (r.length - 1) r]
   rw[List.map_append,List.map_append,List.sum_append,List.sum_append];lia
  lia
 rw[this];simp
def ba3 (h:k<r.length):∃p c,r[Ak (k=0) (r.length - 1) (k - 1)]?=UL/\r[k]?=Qz/\(ZJh)[k]?=FU ((p,c)):=by
 obtain⟨c,hc⟩:∃c,r[k]?=some c:=QP _ h;obtain⟨p,hp⟩:∃p,r[if k=0 then r.length - 1 else k - 1]?=some p:=QP _ (by split <;> grind);show B0 p c hp hc (JY (ZHE hc));by_cases e:k=0
 .rw[if_pos e] at hp;rw[e,List.getElem?_append_left (by grind)];simpa using hp
 .rw[if_neg e] at hp;rw[List.getElem?_append_right (by rw[List.length_drop];lia),List.length_drop,List.getElem?_take_of_lt Ab];rw[Nat.sub_sub_self (Dq (Nat.zero_le k) h)];show hp
def b48 (h:RgOk n r){s:Pt3×Pt3}(hs:s∈ZJh):s.1∈r/\s.2∈r/\s.1≠s.2:=by
 let⟨k,hk⟩:=A9 hs;have kl:=by have:=(Ag hk).1;rwa [xh] at this
 let⟨p,c,h1,h2,h3⟩:=ba3 kl;rw[hk] at h3;have:=BW h3;subst this;show Qs ZCN ZJs;by_cases e:k=0
 .rw[if_pos e] at h1;rw[e] at h2;show h.nb.2 rfl (by have:=h.l3;lia) _ _ h1 h2
 .rw[if_neg e] at h1;show h.nb.1 (k - 1) _ _ h1 (by rw[show k - 1+1=k by lia];show h2)
def Adj (l:NT)(u v:Pt3):Prop:=∃k:Nat,l[k]?=O8/\l[k+1]?=Pm
def Adj.has {l:NT}(hs:Z0)(h:Adj l u v):ZLl=true/\u∈l/\v∈l/\∀z∈l,¬(ahd u z=true/\ZJA z=true):=by
 let⟨k,h1,h2⟩:=h;have lt:∀{i j:Nat} {x y:Pt3},i<j->l[i]?=OZ->l[j]?=Qt->ahd x y=true:=λ{i j x y} hij hx hy=>by
  have a:=ZJ4;have b:=ZCR;have:=FG hs.2 i j a.1 b.1 hij
  rwa [a.2,b.2] at this
 have asym:∀{x y:Pt3},x∈l->y∈l->ahd x y=true->ahd y x=true->False:=λ{x y} hx hy a b=>by
  have:=jt (hs.1 x hx).pos (hs.1 y hy).pos (hs.1 x hx).pos a b;rw[gj] at this;cases this
 have mu:=ZCN;have mv:=ZJs;show By (lt (Nat.lt_succ_self k) h1 h2) mu mv (λz hz ⟨a,b⟩=>?_);let⟨j,hj⟩:=ZFh;rcases Nat.lt_trichotomy j k with h|h|h
 .show asym hz mu (lt h hj h1) a
 .subst h;rw[h1] at hj;cases hj;rw[gj] at a;cases a
 .rcases Nat.lt_or_eq_of_le h with h'|h'
  .show asym hz mv b (lt h' h2 hj)
  .rw[<-h',h2] at hj;cases hj;rw[gj] at b;cases b
def eI (x:Pt3×Pt3)(r:NT):NT:=aP (r.filter (Od z x.1 x.2))
def b54 (h:∀p∈r,Pc){p:Pt3×Pt3}(hp:p∈ZR x.1 x.2 r):Adj (eI x r) (aY p.1 p.2).1 (aY p.1 p.2).2:=by
 have hf:∀q∈r.filter λz=>onB z x.1 x.2,QA:=Dw (h q (BS hq).1);let⟨hs,_⟩:=ie hf;let⟨k,hk⟩:=A9 hp;let⟨k1,k2⟩:=EO hk;rw[List.getElem?_drop,Nat.add_comm] at k2;by_cases e:ahd x.1 x.2=true
 .have ec:aW x.1 x.2 r=eI x r:=by unfold aW eI;rw[if_pos e]
  rw[ec] at k1 k2;have ad:Adj (eI x r) p.1 p.2:=BH k k1 k2;have:=(ad.has hs).1;unfold aY;rw[if_pos this];show ad
 .have ec:aW x.1 x.2 r=(eI x r).reverse:=by unfold aW eI;rw[if_neg e]
  rw[ec] at k1 k2;have l2:=(Ag k2).1;rw[List.length_reverse] at l2;rw[List.getElem?_reverse Ab] at k1;rw[List.getElem?_reverse (by omega)] at k2;have ad:Adj (eI x r) p.2 p.1:=U6 k2 (by grind);let⟨a,m1,m2,_⟩:=ad.has hs;have:ahd p.1 p.2≠true:=λb=>by
   have:=jt (hs.1 _ m1).pos (hs.1 _ m2).pos (hs.1 _ m1).pos a b;rw[gj] at this;cases this
  unfold aY;rw[if_neg this];show ad
def gP (xs:Ph)(rows:QK)(k:Pt3×Pt3):Prop:=∃(i:Nat) (x:Stk) (r:List Pt3),xs[i]?=OZ/\rows[i]?=V6/\Adj (eI x.1 r) k.1 k.2
def bh8 (good:∀r∈rows,∀q∈r,QA):∀e∈aJ xs rows,ZHy e.1:=by
 have:∀e∈aN (xs.zip rows),ZHy e.1:=by
  unfold aN;show Jb (λes:List Bit=>∀e∈es,ZHy e.1) ip (Jy ?_);let⟨i,hi⟩:=ZFh;let⟨h1,h2⟩:=EO hi;show Jb (λes:List Bit=>∀e∈es,ZHy e.1) ih (λes p hp ih=>?_);show an8 ih (Dt i z.1 z.2 h1 h2 (b54 (good _ ZJs) hp))
 show DH (this e (BS he).1)
def mj (h:∀p∈r,Pc)(q:Pt3):q∈eI x r↔q∈r/\onB q x.1 x.2=true:=by
 have hf:∀q∈r.filter λz=>onB z x.1 x.2,QA:=Dw (h q (BS hq).1);unfold eI;rw[(ie hf).2,List.mem_filter]
def aj7 (h:∀p∈r,Pc):Srt (eI x r):=(ie (Dw (h q (BS hq).1))).1
def a01 (mk:ZDV (Ch ((·.1))))(ok:∀x∈xs,OkS m x.1)(good:∀r∈rows,∀q∈r,QA){k k':Pt3×Pt3}(hk:ZHy k)(hk':ZHy k')(lY:ZJC)(h1:ZDI k.1 k.2=true)(n1:Y≠k.1)(n2:Y≠k.2)(h2:ZDI k'.1 k'.2=true):k=k':=by
 have okS:∀x∈xs.map (·.1),OkS m x:=λx hx=>by let⟨y,hy,rfl⟩:=List.mem_map.mp hx;show ok y hy
 let⟨i,x,r,hx,hr,ad⟩:=hk;let⟨j,y,s,hy,hs,ad'⟩:=hk';have gr:=good r ZCO;have gs:=good s (Ad hs);have sr:=aj7 (x:=x.1) gr;have ss:=aj7 (x:=y.1) gs;let⟨uv,mu,mv,adj⟩:=ad.has sr;let⟨uv',mu',mv',adj'⟩:=ad'.has ss;have ox:=SM x hx;have oy:=SM y hy;have hx':(Ch ((·.1)))[i]?=Af x.1:=by simp_all
 have hy':(Ch ((·.1)))[j]?=Af y.1:=by simp_all
 let⟨ru,ou⟩:=(ZFW).mp mu;let⟨rv,ov⟩:=(ZFW).mp mv;let⟨ru',ou'⟩:=(mj gs _).mp mu';let⟨rv',ov'⟩:=(mj gs _).mp mv';have lu:=gr _ ru;have lv:=gr _ rv;have lu':=gs _ ru';have lv':=gs _ rv';have nx:x.1.1≠x.1.2:=BQ (ox.ab (by rw[e];show⟨rfl,rfl⟩));have ny:y.1.1≠y.1.2:=BQ (oy.ab (by rw[e];show⟨rfl,rfl⟩));have Yx:=vp lY lu lv ox.a ox.b nx uv ou ov h1;have Yy:=vp lY lu' lv' oy.a oy.b ny uv' ou' ov' h2;let⟨dY,uY,Yv⟩:=(kg uv).mp h1;let⟨dY',uY',Yv'⟩:=(kg uv').mp h2;have uYs:=u7 lu lY uY (BX n1);have Yvs:=u7 lY lv Yv n2;by_cases col:det x.1.1 x.1.2 y.1.1=0/\det x.1.1 x.1.2 y.1.2=0
 .let⟨c1,c2⟩:=iq ox.ab col.1 col.2;have onx:∀{q:Pt3},QA->onB q y.1.1 y.1.2=true->leP k.1 q->ZJD k.2->onB q x.1.1 x.1.2=true:=λ{q} lq hq a b=>by
   have dq:=ff oy.ab col.1 col.2 (ij hq);show vp lq lu lv ox.a ox.b nx uv ou ov ((kg uv).mpr (BH (ff ox.ab (iq (ir uv lu lv |> λy_=>ox.ab) (ij ou) (ij ov)).1 (iq ox.ab (ij ou) (ij ov)).2 dq) a b))
  have ony:∀{q:Pt3},QA->onB q x.1.1 x.1.2=true->leP k'.1 q->ZJD k'.2->onB q y.1.1 y.1.2=true:=λ{q} lq hq a b=>by
   have dq:det y.1.1 y.1.2 q=0:=ff ox.ab c1 c2 (ij hq);show vp lq lu' lv' oy.a oy.b ny uv' ou' ov' ((kg uv').mpr (BH (ff oy.ab (iq oy.ab (ij ou') (ij ov')).1 (iq oy.ab (ij ou') (ij ov')).2 dq) a b))
  have inR:∀{q:Pt3} {t:List Pt3},t∈rows->q∈t->onB q x.1.1 x.1.2=true->q∈eI x.1 r:=λht hq on=>(ZFW).mpr (A3 (mk.on okS ht hq hx' hr on) on);have inS:∀{q:Pt3} {t:List Pt3},t∈rows->q∈t->onB q y.1.1 y.1.2=true->q∈eI y.1 s:=λht hq on=>(mj gs _).mpr (A3 (mk.on okS ht hq hy' hs on) on);have mr:=ZCO;have ms:=Ad hs;have p1:=wl λa=>by
   have b:=b66 lu' lY lv uY' Yvs;show adj _ (inR ms ru' (onx lu' ou' (kb a lu lu') (kb b lu' lv))) (A3 a b)
  have p2:=wl λa=>by
   have b:=b63 lu lY lv' uYs Yv';show adj _ (inR ms rv' (onx lv' ov' (kb b lu lv') (kb a lv' lv))) (A3 b a)
  have q1:=b63 lu lY lv' uYs Yv';have q2:=b66 lu' lY lv uY' Yvs;have e1:k'.1=k.1:=by
   show CY (MZ ?_);show adj' _ (inS mr ru (ony lu ou p1 (kb q1 lu lv'))) (A3 (u7 lu' lu p1 n) q1)
  have e2:k.2=k'.2:=by
   show CY (MZ ?_);show adj' _ (inS mr rv (ony lv ov (kb q2 lu' lv) p2)) (A3 q2 (u7 lv lv' p2 n))
  show IR e1.symm e2
 .exfalso;have nij:i≠j:=λe=>by
   subst e;rw[hx] at hy;cases hy;show col Ga
  have mY:=mk.meet i j x.1 y.1 r nij hx' hy' hr Y (qw ox.a ox.b oy.a oy.b lY ox.ab oy.ab Yx Yy col);show adj Y ((ZFW).mpr (A3 mY Yx)) (A3 uYs Yvs)
noncomputable def nb (es:Pp)(z:Pt3):NT:=es.flatMap (BQ (Ak (e.1.1=z) [e.1.2] (Ak (e.1.2=z) [e.1.1] [])))
set_option tactic.hygienic true in
theorem nb_mem {x:Pt3}:x∈ZJj↔∃e∈es,(e.1.1=z/\x=e.1.2)\/(e.1.1≠z/\e.1.2=z/\x=e.1.1):=by
 unfold nb;rw[List.mem_flatMap];constructor
 .rintro⟨e,he,h⟩;show Qs e he;split at h
  .rename_i h1;show .inl ⟨h1,List.mem_singleton.mp h⟩
  simp_all
 .rintro⟨e,he,h⟩;show Qs e he;rcases h with⟨h1,rfl⟩|⟨h1,h2,rfl⟩
  .simp_all
  simp_all
theorem nb_snoc (es:Pp)(e:Bit)(z:Pt3):nb (es++[e]) z=ZJj++Ak (e.1.1=z) [e.1.2] (Ak (e.1.2=z) [e.1.1] []):=by
 unfold nb;simp
structure OtI (f:Pt3->List Pt3)(os:List Oth):Prop where
 kn:(HE ((·.1))).Nodup
 val:∀o∈os,o.2=f o.1
 all:∀z,f z≠[]->∃o∈os,o.1=z
def OtI.add {f:Pt3->NT}(h:OtI f os)(z q:Pt3):OtI (λy=>Ak (y=z) (f z++[q]) (f y)) (Z8 z q):=by
 by_cases ex:∃o∈os,o.1=z
 .let⟨o,ho,e⟩:=ex;let⟨i,hi⟩:=A9 ho;let⟨y,qs⟩:=o;simp only at e;subst e;have hv:qs=f y:=h.val _ ho;have li:=(ZJ5).1;rw[m8 h.kn hi];have keys:(os.set i (y,qs++[q])).map (·.1)=HE ((·.1)):=by
   rw[List.map_set];show ZEk;by_cases e:i=j
   .subst e
    simp_all
   simp_all
  show BH (by rw[keys];show h.kn) (λo ho=>?_) VA
  .let⟨j,hj⟩:=A9 ho;by_cases e:i=j
   .subst e;rw[List.getElem?_set_self li] at hj;lia
   .rw[List.getElem?_set_ne e] at hj;have:o.1≠y:=BT (e ((Eu (by rw[List.length_map];show li) h.kn).mp Aw));rw[if_neg this];show h.val o (Ad hj)
  .have:x∈HE ((·.1)):=by
    by_cases e:x=y
    .rw[e];show List.mem_map.mpr ⟨_,List.mem_of_getElem? hi,rfl⟩
    .rw[if_neg e] at hx;let⟨o,ho,eo⟩:=h.all x hx;show E2 (ZCY eo)
   rw[<-keys] at this;let⟨o,ho,eo⟩:=BL this;show ZCY eo
 .have no:=λo ho e=>ex (ZCY e);have fz:=CY (MZ (ex (h.all z n)));rw[u4 no];show BH ?_ (λo ho=>?_) VA
  .rw[List.map_append];show Cw (BH h.kn Aq (JZ ?_));let⟨x,hx,rfl⟩:=BL ha;show no x hx (by rw[e];simpa using hb)
  .rcases List.mem_append.mp ho with h'|h'
   .rw[if_neg (no o h')];show h.val o h'
   simp_all
  .by_cases e:x=z
   .show U6 (BJ (Lv rfl)) e.symm
   .rw[if_neg e] at hx;let⟨o,ho,eo⟩:=h.all x hx;show ZCX (Ca ho) eo
def be1 (ne:∀e∈es,e.1.1≠e.1.2):OtI (nb es) Pj:=by
 have g:∀(l done:List Bit) (os:List Oth),(∀e∈l,e.1.1≠e.1.2)->OtI (nb done) os->OtI (nb (done++l)) (Ms (λos e=>aX (Z8 e.1.1 e.1.2) e.1.2 e.1.1) os):=by
  intro l
  induction l with
  | nil=>intro done os _ h;simpa using h
  | cons e l ih=>
   intro done os hne h;rw[show done++e::l=(done++[e])++l by simp];show ih _ _ (Cy (hne x (A7 hx))) ?_;have n:=hne e List.mem_cons_self;have:=(h.add e.1.1 e.1.2).add e.1.2 e.1.1;have ef:(λy=>Ak (y=e.1.2) (Xi (e.1.2=e.1.1) (nb done e.1.1++[e.1.2]) (nb done e.1.2)++[e.1.1]) (Ak (y=e.1.1) (nb done e.1.1++[e.1.2]) (nb done y)))=nb (done++[e]):=by
    funext y;rw[nb_snoc];by_cases h1:y=e.1.2
    .subst h1;rw[if_pos rfl,if_neg (BX n),if_neg n,if_pos rfl]
    .rw[if_neg h1];by_cases h2:y=e.1.1
     .simp_all
     .rw[if_neg h2,if_neg (BX h2),if_neg (BX h1),List.append_nil]
   rw[<-ef];show this
 have:=g es [] [] ne (BH .nil ip (λz h=>ZHI h));simpa [aD] using this
set_option tactic.hygienic true in
def cj3 (ne:∀e∈es,e.1.1≠e.1.2)(h:ZAj z=Af q):∃a b,ZJj=[a,b]/\ZGJ z=true/\q=Ak (ahd a b=true) b a:=by
 have I:=be1 ne;let⟨o,ho,eo⟩:=Dj (xi h);have k:=xq eo;simp only at k;unfold bK at eo;split at eo
 .rename_i p r e2;split at eo
  .rename_i on;have:=BW eo;have hv:=I.val o ho;rw[e2,<-k] at hv;show B0 p r hv.symm (by rw[k];show on) ((IN Prod.snd this).symm)
  .cases eo
 .cases eo
structure Bits (es:List Bit):Prop where
 ok:∀e∈es,Lp e.1.1/\Lp e.1.2/\ahd e.1.1 e.1.2=true
 nd:(Fd ((·.1))).Nodup
def Bits.ne (B:Uf):∀e∈es,e.1.1≠e.1.2:=DH (vy (B.ok e he).2.2)
def Bits.one (B:Uf)(he:e∈es)(hf:f∈es)(h:e.1=f.1):e=f:=by
 let⟨i,hi⟩:=A9 he;let⟨j,hj⟩:=A9 hf;have:i=j:=(Eu (by rw[List.length_map];show (ZJ5).1) B.nd).mp Aw
 simp_all
def wm (hp:Pc)(hq:QA)(a:RW=true)(b:ZGb=true):False:=by
 have:=ZDK hp.pos a b;rw[gj] at this;cases this
noncomputable abbrev onw (es:Pp):List Onw:=aG Pj
def xv (B:Uf)(h:atW S6 z=Af q):∃g f,g∈es/\f∈es/\g.1.2=z/\f.1=(z,q)/\(∀e∈es,(e.1.1=z\/e.1.2=z)->e=g\/e=f)/\det g.1.1 q z=0:=by
 let⟨a,b,hn,on,hq⟩:=cj3 B.ne h;have bit:∀{x:Pt3},x∈ZJj->∃e∈es,(e.1=(z,x)\/e.1=(x,z)):=λ{x} hx=>by
  obtain⟨e,he,⟨h1,rfl⟩|⟨_,h2,rfl⟩⟩:=nb_mem.mp hx
  .show BH e he (CD (IR h1 rfl))
  .show BH e he (CK (IR rfl h2))
 have lpx:∀{x:Pt3},x∈ZJj->Lp x/\Lp z/\x≠z:=λ{x} hx=>by
  obtain⟨e,he,h|h⟩:=bit hx <;> (have o:=B.ok e he;rw[h] at o)
  .show BH o.2.1 o.1 (BX (vy o.2.2))
  .show BH o.1 o.2.1 (vy o.2.2)
 let⟨la,lz,na⟩:=lpx (x:=a) (by rw[hn];simp);let⟨lb,_,nb'⟩:=lpx (x:=b) (by rw[hn];simp);have nab:a≠b:=λe=>by
  rw[<-e] at on;have o:=(km (ij on)).mp on;unfold aE at o;rw[gj] at o;show na (ad0 la lz o.1 o.2)
 have key:∀{u v:Pt3},Lp u->Lp v->u≠z->v≠z->u∈ZJj->v∈ZJj->(∀x∈nb es z,x=u\/x=v)->ZLl=true->onB z u v=true->q=v->∃g f,g∈es/\f∈es/\g.1.2=z/\f.1=(z,q)/\(∀e∈es,(e.1.1=z\/e.1.2=z)->e=g\/e=f)/\det g.1.1 q z=0:=λ{u v} lu lv nu nv mu mv all uv on eq=>by
  let⟨d,uz,zv⟩:=(kg uv).mp on;have uz':=u7 lu lz uz nu;have zv':=u7 lz lv zv (BX nv);let⟨g,hg,h1⟩:=bit mu;let⟨f,hf,h2⟩:=bit mv;have eg:g.1=(u,z):=by
   rcases h1 with h1|h1
   .have o:=(B.ok g hg).2.2;rw[h1] at o;show (wm lu lz uz' o).elim
   .show h1
  have ef:f.1=(z,v):=by
   rcases h2 with h2|h2
   .show h2
   .have o:=(B.ok f hf).2.2;rw[h2] at o;show (wm lv lz o zv').elim
  show IZ g f hg hf (by rw[eg]) (by rw[ef,eq]) (λe he hz=>?_) (by rw[eg,eq];show d);rcases hz with hz|hz
  .have mx:=nb_mem.mpr (BH e he (FK (Pe hz)));rcases all _ mx with x|x
   .have o:=(B.ok e he).2.2;rw[hz,x] at o;show (wm lu lz uz' o).elim
   .show CK (B.one he hf (by rw[ef];show Prod.ext hz x))
  .have nz:e.1.1≠z:=CG (B.ne e he (by rw[h,hz]));have mx:=nb_mem.mpr (BH e he (Eh (Oo nz hz)));rcases all _ mx with x|x
   .show CD (B.one he hg (by rw[eg];show Prod.ext x hz))
   .have o:=(B.ok e he).2.2;rw[hz,x] at o;show (wm lv lz o zv').elim
 have ma:a∈ZJj:=by rw[hn];simp
 have mb:b∈ZJj:=by rw[hn];simp
 by_cases hab:ahd a b=true
 .rw[if_pos hab] at hq;show key la lb na nb' ma mb (Cy (by rw[hn] at hx;simpa using hx)) hab on hq
 .rw[if_neg hab] at hq;have hba:=u7 lb la (wl hab) (BX nab);show key lb la nb' na mb ma (Cy (by rw[hn] at hx;simp at hx;show hx.symm)) hba ?_ hq;rw[ao9 (ku la lb nab)];show on
def St (es:Pp)(g f:Bit):Prop:=g∈es/\f∈es/\g.1.2=f.1.1/\atW S6 f.1.1=Af f.1.2
inductive Rch (es:List Bit) (e:Bit):Bit->Prop
 | refl:Rch es e e
 | step {f g:Bit}:Rch es e f->St es f g->Rch es e g
def Rch.mem (he:e∈es)(h:ZDY e f):f∈es:=by
 cases h with
 | refl=>show he
 | step _ s=>show s.2.1
variable {g:Bit}
def Rch.head (s:St es e f)(h:ZDY f g):ZDY e g:=by
 induction h with
 | refl=>show .step .refl s
 | step _ s' ih=>show .step ih s'
def St.two (B:Uf)(s:St es g f):∀e∈es,(e.1.1=f.1.1\/e.1.2=f.1.1)->e=g\/e=f:=by
 let⟨g0,f0,hg,hf,e1,e2,all,_⟩:=xv B s.2.2.2;have ef:=B.one s.2.1 hf (by rw[e2]);have eg:g=g0:=by
  rcases all g s.1 (CK s.2.2.1) with h|h
  .show h
  .show CN (by rw[s.2.2.1,h,e2]) (B.ne g s.1)
 rw[ef,eg];rw[ef] at all;show λe he h=>all e he h
def St.uniq (B:Uf){g':Bit}(s:St es g f)(s':St es g' f):g=g':=by
 rcases s.two B g' s'.1 (CK s'.2.2.1) with h|h
 .show h.symm
 .show CN (by rw[<-s'.2.2.1,h]) (B.ne f s.2.1)
def bb8 (B:Uf){e':Bit}(h:ZDY e f):ZDY e' f->atW S6 e.1.1=none->atW S6 e'.1.1=none->e=e':=by
 induction h with
 | refl=>
  intro h' n n';cases h' with
  | refl=>rfl
  | step _ s=>rw[s.2.2.2] at n;cases n
 | step h s ih=>
  intro h' n n';cases h' with
  | refl=>rw[s.2.2.2] at n';cases n'
  | step h'' s'=>
   rw[s'.uniq B s] at h'';show ih h'' n n'
def a93 (g:Goes S6 e.1.2 z)(h:ZDY e f):Goes S6 f.1.2 z:=by
 induction h with
 | refl=>show g
 | step _ s ih=>
  rw[s.2.2.1] at ih;cases ih with
  | stop n=>rw[s.2.2.2] at n;cases n
  | step n g'=>rw[s.2.2.2] at n;cases n;show g'
def at7 (B:Uf)(g:Goes S6 b z):∀f∈es,f.1.2=b->ahd f.1.1 z=true/\Lp z/\det f.1.1 f.1.2 z=0/\onB f.1.2 f.1.1 z=true/\(∃l,ZDY f l/\l.1.2=z/\onB l.1.1 f.1.1 z=true)/\∀Y,ZJC->ZDI f.1.1 z=true->∃h,ZDY f h/\ZDI h.1.1 h.1.2=true:=by
 induction g with
 | stop n=>
  intro f hf e;subst e;let⟨l1,l2,a⟩:=B.ok f hf;have ap:=ir a l1 l2;show Dt a l2 ((Ga).2) ((qv ap).2) (Pq f .refl ((qv ap).1)) (λY y_ h=>BH f .refl h)
 | @step b q z n g ih=>
  intro f hf e;subst e;let⟨g0,h,hg0,hh,e1,e2,all,col⟩:=xv B n;let⟨l1,l2,a⟩:=B.ok f hf;have efg:f=g0:=by
   rcases all f hf Nt with x|x
   .show x
   .show CN (by have:=congrArg Prod.fst e2;rw[<-x] at this;show this) (B.ne f hf)
  subst efg;have h1:h.1.1=f.1.2:=by rw[e2]
  have h2:h.1.2=q:=by rw[e2]
  let⟨lh1,lh2,ah⟩:=B.ok h hh;let⟨az,lz,dz,oq,⟨l,rl,el,ol⟩,cov⟩:=ih h hh h2;rw[h1] at az dz oq ol cov;rw[h2] at dz oq;have s:St es f h:=By hf hh h1.symm Aw;have afz:=jt l1.pos l2.pos lz.pos a az;have apq:=by have:=ir ah lh1 lh2;rw[h1,h2] at this;show this
  have apz:=ir afz l1 lz;have dq:det f.1.1 f.1.2 q=0:=by
   have:det f.1.1 f.1.2 q = - det f.1.1 q f.1.2:=by unfold det;grind
   rw[this,col];rfl
  have d1:=ff apq (Ga).2 dq dz;have onf:=(kg afz).mpr ⟨by
   have:det f.1.1 z f.1.2 = - det f.1.1 f.1.2 z:=by unfold det;grind
   rw[this,d1];rfl,kb a l1 l2,kb az l2 lz⟩
  show Dt afz lz d1 onf (WC l (Rch.head s rl) el) (λY lY oY=>?_)
  .have ll:=B.ok l (rl.mem hh);show vp ll.1 l2 lz l1 lz (vy afz) az onf (qv apz).2 ol
  .let⟨dY,fY,Yz⟩:=(kg afz).mp oY;by_cases c:ahd f.1.2 Y=true
   .let⟨k,rk,ok⟩:=cov Y lY ((kg az).mpr ⟨ff apz (by
     have:det f.1.2 z f.1.1=det f.1.1 f.1.2 z:=by unfold det;grind
     rw[this];show d1) (jd _ _).2 dY,kb c l2 lY,Yz⟩)
    show BH k (Rch.head s rk) ok
   .show BH f .refl ((kg a).mpr (BH (ff apz (Ga).1 d1 dY) fY (wl c)))
def Clr (es:Pp):Prop:=∀e∈es,∀e'∈es,∀Y,ZJC->ZDI e.1.1 e.1.2=true->Y≠e.1.1->Y≠e.1.2->ZDI e'.1.1 e'.1.2=true->e.1=e'.1
def ao5 (B:Uf)(C:Clr es){e':Bit}(he:e∈es)(he':e'∈es)(s:atW S6 e.1.1=none)(s':atW S6 e'.1.1=none){z':Pt3}(g:Goes S6 e.1.2 z)(g':Goes S6 e'.1.2 z')(ne:e≠e')(lY:ZJC)(h:ZDI e.1.1 z=true)(h':ZDI e'.1.1 z'=true):Y=e.1.1\/Y=z:=by
 let⟨_,_,_,_,_,cov⟩:=at7 B g e he rfl;let⟨_,_,_,_,_,cov'⟩:=at7 B g' e' he' rfl;let⟨f,rf,onf⟩:=cov Y lY h;let⟨f',rf',onf'⟩:=cov' Y lY h';have mf:=rf.mem he;have mf':=rf'.mem he';have nff:∀k,ZDY e k->k≠f':=λk rk x=>ne (bb8 B (x▸rk) rf' s s');have endf:Y=f.1.1\/Y=f.1.2:=by
  show CY (MZ ?_);have n':=not_or.mp n;show nff f rf (B.one mf mf' (C f mf f' mf' Y lY onf n'.1 n'.2 onf'))
 have endf':f'.1.1=Y\/f'.1.2=Y:=by
  show CY (MZ ?_);have n':=not_or.mp n;show nff f rf (B.one mf mf' (C f' mf' f mf Y lY onf' (BX n'.1) (BX n'.2) onf).symm)
 rcases endf with e1|e1
 .cases rf with
  | refl=>show .inl e1
  | step r st=>
   rcases st.two B f' mf' Aw with x|x
   .show ZHK r
   .show ZHK (.step r st)
 .cases hn:atW S6 Y with
  | none=>
   have gy:=a93 g rf;rw[<-e1] at gy;cases gy with
   | stop _=>show .inr rfl
   | step n _=>rw[hn] at n;cases n
  | some q=>
   let⟨g0,k,_,hk,_,e2,_⟩:=xv B hn;have st:St es f k:=By mf hk (by rw[e2,e1]) (by rw[e2];show hn);rcases st.two B f' mf' (by rw[e2];show endf') with x|x
   .show ZHK rf
   .show ZHK (.step rf st)
def cF (ws:Vb)(b:Pt3):Pt3:=by
 classical
 show if h:∃z,Goes ws b z then Classical.choose h else b
def az2 (g:Xn b z):cF ws b=z:=by
 have hex:∃z,Xn b z:=A3 z g;unfold cF;rw[dif_pos hex];show ad6 (He hex) g
def jH (ws:Vb)(e:Bit):Stk:=((e.1.1,cF ws e.1.2),e.2)
def bm1 {ws:Vb}:∀{l:List Bit} {ps:List Stk},CB (eL ws) l ps->ps=GN (jH ws)/\∀e∈l,Xn e.1.2 (cF ws e.1.2)
 | _,_,.nil=>⟨rfl,ip⟩
 | _,_,.cons h t=>by
  let⟨e1,e2⟩:=bm1 t;let⟨h1,h2,h3⟩:=h;have:=az2 h2;show ZHE ZKT
  .congr 1;unfold jH;rw[this,<-h1,<-h3]
  .rcases List.mem_cons.mp he with rfl | he
   .rw[this];show h2
   .show e2 e he
def bd5 {α β:Type}{f:α->β}{ys zs:ZJ7}(h:ys.Perm zs):∀{l:List α},ys=Ye->∃m:List α,zs=ZFN/\m.Perm l:=by
 induction h with
 | nil=>simp
 | cons x _ ih=>
  intro l e;cases l with
  | nil=>cases e
  | cons a l=>
   injection e with e1 e2;let⟨m,h1,h2⟩:=ih e2;show BH (a::m) (by rw[h1,e1];rfl) (h2.cons a)
 | swap x y l'=>
  intro l e
  match l,e with
  | a::b::l,e=>
   injection e with e1 e2;injection e2 with e2 e3;show⟨b::a::l,by simp_all,.swap ..⟩
 | trans _ _ i1 i2=>
  intro l e;let⟨m,h1,h2⟩:=i1 e;let⟨m',h3,h4⟩:=i2 h1;show BH m' h3 (h4.trans h2)
def ptD (p:Pt3):PyData:=GV ([p.x,p.y,p.z].map PyData.int)
def aq5 {α:Type}{f:A->ZAF}{h:α->A}{g:α->PyData}(k:∀a,f (h a)=Af (g a)):∀l:List α,bP f (GN h)=Af ZKY
 | []=>rfl
 | a::l=>by
  rw[List.map_cons,bP,k a,aq5 k l];rfl
def wb {α:Type}{g:α->PyData}(h:∀a,same (g a) (g a)=true):∀l:List α,sameAll ZKY ZKY=true
 | []=>by simp[sameAll]
 | a::l=>by rw[List.map_cons,sameAll,h a,wb h l];rfl
def y7 {α:Type}{g:α->PyData}(h:∀a,noMix (g a) (g a)=true):∀l:List α,noMixAll ZKY ZKY=true
 | []=>by simp[noMixAll]
 | a::l=>by rw[List.map_cons,noMixAll,h a,y7 h l];rfl
theorem sgn2 {X Y d k:Int}(hd:0<d)(hk:0<k)(e:X*d=k*Y):(X=0↔Y=0)/\(X<0↔Y<0):=by
 have a:∀{x y:Int},0<y->(0<x->0<x*y)/\(x<0->x*y<0):=λ{x y} hy=>A3 (CG (Ci h hy)) (CG (Int.mul_neg_of_neg_of_pos h hy));have h1:=a (x:=X) hd;have h2:=a (x:=Y) hk;rw[Int.mul_comm Y k] at h2;have z1:X=0->X*d=0:=BT (by rw[z,Int.zero_mul]);have z2:Y=0->k*Y=0:=BT (by rw[z,Int.mul_zero]);lia
def bx3 {a b c e d k:Int}(hd:0<d)(hk:0<k)(h:(a - b)*d=k*(c - e)):(a=b↔c=e)/\(a<b↔c<e):=by
 have:=sgn2 hd hk h;lia
set_option tactic.hygienic true in
theorem ahd_or:RW=true↔p.x*q.z<q.x*p.z\/(p.x*q.z=q.x*p.z/\p.y*q.z<q.y*p.z):=by
 unfold ahd;split
 .rename_i e;rw[decide_eq_true_iff];show A3 (CG (Vo e h)) (ZIb (BT (CN e (Int.ne_of_lt z))) ((·.2)))
 .rename_i e;rw[decide_eq_true_iff];show A3 .inl (ZIb id (BT (CN z.1 e)))
def cc5 {r:Pt3}(lu:Lp u)(lv:Lp v)(h:ZLl=true)(i:XL (u.x*v.z+v.x*u.z) (u.y*v.z+v.y*u.z) (2*u.z*v.z)):det u v r=0/\ahd u r=true/\ZJA r=true:=by
 let⟨d,d0,e1,e2,e3⟩:=i.ex;have pu:=lu.pos;have pv:=lv.pos;have k:∀{a b c e m x z:Int},a*e+c*b=m*x->2*b*e=m*z->(a*z - x*b)*m=b*(a*e - c*b)/\(x*e - c*z)*m=e*(a*e - c*b):=λh1 h2=>by grind
 have x1:=k e1 e3;have y1:=k e2 e3;have s1:=bx3 d0 pu x1.1;have s2:=bx3 d0 pu y1.1;have s3:=bx3 d0 pv x1.2;have s4:=bx3 d0 pv y1.2;show ZF8
 .have:det u v r*d=0:=by unfold det;grind
  show (Dg this).resolve_right (Int.ne_of_gt d0)
 .rcases ahd_or.mp h with h|⟨e,h⟩
  .show A3 (Kv (CD (s1.2.mpr h))) (Kv (CD (s3.2.mpr h)))
  .show A3 (Kv (Vo (s1.1.mpr e) (s2.2.mpr h))) (Kv (Vo (s3.1.mpr e) (s4.2.mpr h)))
def ci7 (h:QM=0):N7 c a=0:=by unfold det at *;grind
def eN (a b m u v:Pt3):Int:=Ak (PU u=0/\PU v=0) (Xi (ahd m u=true) 0 1 - Xi (ZJA m=true) 0 1) 0
def b76 (m:Pt3):Wt (eN a b m):=by
 show A3 (LR (by unfold eN;split <;> split <;> lia)) (λ{u v w} hu hv hw h0 h1 h2=>?_);have uw:=ir h1 hu hw;have wv:=ir h2 hw hv;have uv:=ir (rn hu hw hv h1 h2) hu hv;have e1:PU u=0->PU v=0->PU w=0:=G5 (ff uv x y h0);have e2:PU u=0->PU w=0->PU v=0:=G5 (ff uw x y (by unfold det at *;grind));have e3:PU w=0->PU v=0->PU u=0:=G5 (ff wv x y (by unfold det at *;grind));unfold eN;split <;> split <;> split <;> lia
set_option tactic.hygienic true in
def cb9 {m:Pt3}(hab:HN a b)(lm:Lp m)(lu:Lp u)(lv:Lp v)(huv:ZLl=true)(nv:m≠v)(h:PU m=0)(on:onB m u v=true->PU u=0/\PU v=0):eN a b m u v=Ak (onB m u v=true) 1 0:=by
 have oi:=kg (p:=m) huv;unfold eN;by_cases c:onB m u v=true
 .rw[if_pos (on c),if_pos c];let⟨_,h1,h2⟩:=oi.mp c;rw[if_neg (by rw[h1];decide),if_pos (u7 lm lv h2 nv)];rfl
 .rw[if_neg c];split
  .rename_i d;let⟨d1,d2⟩:=iq hab d.1 d.2;have dm:det u v m=0:=ff hab d1 d2 h;by_cases x:ahd m u=true
   .rw[if_pos x,if_pos (rn lm lu lv x huv)];rfl
   .rw[if_neg x];by_cases y:ahd m v=true
    .show CN (oi.mpr (BH dm (wl x) (kb y lm lv))) c
    .rw[if_neg y];rfl
  .rfl
def bj6 {α:Type}(p:α->Bool)(f:α->Int):∀l:List α,(J2 (Bi (Xi (p x=true) 1 0*f x))).sum=((l.filter p).map f).sum
 | []=>rfl
 | x::l=>by
  rw[List.map_cons,List.sum_cons,bj6 p f l];cases h:p x with
  | true=>rw[List.filter_cons_of_pos h,List.map_cons,List.sum_cons,if_pos rfl,Int.one_mul]
  | false=>rw[List.filter_cons_of_neg (by rw[h];decide),if_neg AC,Int.zero_mul,Int.zero_add]
def az7 (ok:∀x∈ss,OkS n x)(h:gX ss q\/∃(k o:Nat) (x y:Pt3×Pt3),k≠o/\ss[k]?=OZ/\ss[o]?=Qt/\q∈aI x.1 x.2 y.1 y.2):bH ss q:=by
 have go:∀{k o:Nat} {x y:Pt3×Pt3},o<k->ss[k]?=OZ->ss[o]?=Qt->q∈aI x.1 x.2 y.1 y.2->bH ss q:=λ{k o x y} l hx hy hm=>by
  have mx:=ZAC;have my:=V5;rcases ay1 (ok x mx) (ok y my) hm with (e|e|e|e)|⟨s,e⟩
  .show FK (BH x mx ZAv)
  .show FK (BH x mx YX)
  .show FK (BH y my ZAv)
  .show FK (BH y my YX)
  .show Eh (IV k o x y l hx hy s e)
 rcases h with h|⟨k,o,x,y,n,hx,hy,hm⟩
 .show Vc
 .rcases Nat.lt_or_gt_of_ne n with l|l
  .have ox:=SM x hx;have oy:=SM y hy;show go l hy hx (by rw[xt ox.a ox.b oy.a oy.b ox.ab oy.ab];show hm)
  .show go l hx hy hm
def bs0 {sp:NT}(hs:Srt sp){r:Pt3}(la:XM)(lb:Vu)(nab:a≠b)(hu:(TH z a b)[k]?=O8)(hv:(TH z a b)[k+1]?=Pm)(lr:ZD1)(i:XL (u.x*v.z+v.x*u.z) (u.y*v.z+v.y*u.z) (2*u.z*v.z)) :
  onB u a b=true/\onB v a b=true/\Lp u/\Lp v/\ahd u v=true/\onB r a b=true/\r∉sp/\det u v r=0:=by
 have hs':Srt (TH z a b):=A3 (Bg (hs.1 p (BS hp).1)) (hs.2.filter _);let⟨huv,mu,mv,no⟩:=Adj.has hs' (u:=u) (v:=v) (BH k hu hv);have ou:=BS mu;have ov:=BS mv;have lu:=hs.1 u ou.1;have lv:=hs.1 v ov.1;let⟨d,h1,h2⟩:=cc5 lu lv huv i;have onr:onB r u v=true:=(kg huv).mpr (BH d (kb h1 lu lr) (kb h2 lr lv));have on:=vp lr lu lv la lb nab huv ou.2 ov.2 onr;show IZ ou.2 ov.2 lu lv huv on (λm=>no r (EG (A3 m on)) (A3 h1 h2)) d
def b25 {zs:NT}(hs:Srt zs)(lp:Pc)(hk:k<=zs.length)(after:∀j z,k<=j->zs[j]?=Wf->QQ z=true)(before:∀j,j+1=k->∀z,zs[j]?=Wf->ZGa z=true):Srt (LQ k++p::Z9)/\∀z,z∈LQ k++p::Z9↔z∈zs\/z=p:=by
 have mem:∀z,z∈LQ k++p::Z9↔z∈zs\/z=p:=λz=>by
  rw[List.mem_append,List.mem_cons];have:z∈zs↔z∈LQ k\/z∈Z9:=by rw[<-List.mem_append,List.take_append_drop]
  rw[this];lia
 have dr:∀z∈zs.drop k,QQ z=true:=λz hz=>by
  let⟨j,hj⟩:=ZFh;rw[List.getElem?_drop] at hj;show after _ z Aq hj
 have tk:∀z∈zs.take k,ZGa z=true:=λz hz=>by
  let⟨j,hj⟩:=ZFh;have hjl:=(ZFd).1;rw[List.length_take] at hjl;rw[List.getElem?_take_of_lt Ab] at hj;obtain⟨y,hy⟩:∃y,zs[k - 1]?=some y:=Xe;have yp:=before (k - 1) Ab y hy;by_cases e:j=k - 1
  .subst e;rw[hy] at hj;cases hj;show yp
  .have hj1:=ZFd;have hy1:=ZCR;have:=FG hs.2 j (k - 1) hj1.1 hy1.1 Ab;rw[hj1.2,hy1.2] at this;show rn (hs.1 z (Ad hj)) (hs.1 y V5) lp this yp
 show A3 (Pk ZKP) mem
 .rcases (mem z).mp hz with h|h
  .show hs.1 z h
  .show h▸lp
 .rw[List.pairwise_append,List.pairwise_cons];show BH (hs.2.sublist KZ) (A3 dr (hs.2.sublist (List.drop_sublist _ _))) (λa ha b hb=>?_)
  rcases List.mem_cons.mp hb with rfl | hb
  .show tk a ha
  .show rn (hs.1 a (Mq ha)) lp (hs.1 b (Mp hb)) (tk a ha) (dr b hb)
end L3
set_option hygiene false in
local macro_rules
| `(tactic| simp only[zz])=>`(tactic| simp only[zz,↓bt1])
| `(tactic| simp only[zz,$ls:simpLemma,*])=>do
 let a<-("bt1 cf9 e_c e_op e_un cn7 cg8 cq5 oa co0 ch5 cp8 e_if cg2 cg1 cn1 cn2 ci2 co5 cg7 bt6 cp6 cp2 cp1 cg5 co1 cg6 ci1 e_sl cq8 cq7 cn5 cf7 cf6 cn8 ch4 cp5 co6 cr0 e_or co7 ch6 ch8 cn0 cp3 cp0 cr1 e_j2 e_i2 co9 b72 co4 co3 co2 cr2 cq3 cq4 cq2 at20 at21 at30 at31 at32 at40 at41 at42 at43 List.set_cons_zero List.set_cons_succ e_lm ch0 cg9 b37 az3 b36 cp9 cf8 ch9 ci0 bt2 az5 wx ch7 if_true if_false ck9 nm_i rf_r co8 cn3 cn6 cn4 b39 cp4 cn9 cg4 cg0 List.getElem?_cons_zero List.getElem?_cons_succ Option.join_some List.map_cons List.map_nil List.cons_append List.nil_append".splitOn " ").toArray.mapM fun n=>`(Lean.Parser.Tactic.simpLemma| ↓$(Lean.mkIdent n.toName):term)
 `(tactic| simp only[$a,*,Bool.false_eq_true,$ls,*])
namespace My
open PySem PySem.Spec PyProof.Rows L2 L3
def top (i:Nat):Stmt:=PySem.Challenge.pw_plymap_k24_bits_and_passes.main.body.getD i (.Pass (By 0 0 0 0))
def eZ:Stmt:=top 39
def eX:Stmt:=top 40
def eT:Stmt:=top 41
def fA:Stmt:=top 42
def cD:Stmt:=top 43
def dR:Stmt:=top 44
def cU:Stmt:=top 45
def eU:Stmt:=top 49
def eV:Stmt:=top 50
def cV:Stmt:=top 51
def eY:Stmt:=top 52
def dW:Stmt:=top 53
def dU:Stmt:=top 54
def dQ:Stmt:=top 59
def dO:Stmt:=top 57
def cB:Stmt:=top 58
def cS:Stmt:=top 56
def cW:Stmt:=top 55
def cC:Stmt:=top 60
def cY:Stmt:=top 65
def bZ:Stmt:=top 34
def cZ:Stmt:=top 10
def bY:Stmt:=top 15
def bL:Stmt:=top 14
def gF:Stmt:=top 16
def dM:Stmt:=top 17
def cA:Stmt:=top 35
def cE:Stmt:=top 36
def eR:Stmt:=top 4
def dJ:Stmt:=top 5
def dA:Stmt:=top 11
def cP:Stmt:=top 12
def cO:Stmt:=top 24
def eC:Stmt:=top 25
def bS:Stmt:=top 26
def bT:Stmt:=top 7
def cQ:Stmt:=top 9
def bR:Stmt:=top 21
def bJ:Stmt:=top 19
def bB:Stmt:=top 20
def gG:Stmt:=top 22
def cR:Stmt:=top 27
def fB:Stmt:=top 28
def eQ:Stmt:=top 31
def fP:Stmt:=top 30
def eG:Stmt:=top 32
def eD:Stmt:=top 33
def dL:Stmt:=top 37
def eB:Stmt:=top 46
def cT:Stmt:=top 63
def dZ:Stmt:=top 62
def eS:Stmt:=top 47
def dP:Stmt:=top 64
def gH:Stmt:=top 48
def fO:Stmt:=top 67
def bQ:Stmt:=top 68
def aZ:Stmt:=top 69
def bC:Stmt:=top 70
def dN:Stmt:=top 61
def bI:Stmt:=top 66
def iF:Stmt:=top 71
set_option genInjectivity false in
structure Adr where
 oQ:Addr
 oR:FuncData
 oS:Addr
 oT:FuncData
 oU:Addr
 oV:FuncData
 oW:Addr
 oX:FuncData
 oZ:Addr
 pB:FuncData
 pC:Addr
 pD:FuncData
 pE:Addr
 pF:FuncData
 pG:Addr
 pH:FuncData
 pI:Addr
 pJ:FuncData
 pM:Addr
 pN:FuncData
 pP:Addr
 pQ:FuncData
 pR:Addr
 pS:FuncData
 pT:Addr
 pU:FuncData
 pV:Addr
 pW:FuncData
 pX:Addr
 pY:FuncData
 pZ:Addr
 qA:FuncData
 qB:Addr
 qC:FuncData
 qE:Addr
 qF:FuncData
 qG:Addr
 qH:FuncData
 qI:Addr
 qJ:FuncData
 qK:Addr
 qL:FuncData
 qM:Addr
 qN:FuncData
 qO:Addr
 qP:FuncData
 qQ:Addr
 qR:FuncData
 qS:Addr
 qU:FuncData
 qV:Addr
 qW:FuncData
 qX:Addr
 qY:FuncData
 qZ:Addr
 rA:FuncData
 rB:Addr
 rC:FuncData
 rD:Addr
 rE:FuncData
 rF:Addr
 rG:FuncData
 rH:Addr
 rJ:FuncData
 rK:Addr
 rL:FuncData
 rM:Addr
 rN:FuncData
 rO:Addr
 rP:FuncData
 rQ:Addr
 rR:FuncData
 rS:Addr
 rT:FuncData
 rV:Addr
 rW:FuncData
 rX:Addr
 rY:FuncData
 rZ:Addr
 sC:FuncData
 sD:Addr
 sE:FuncData
 sG:Addr
 sH:FuncData
 sI:Addr
 sJ:FuncData
 sK:Addr
 sN:FuncData
 sO:Addr
 sP:FuncData
 sQ:Addr
 sR:FuncData
 sS:Addr
 sT:FuncData
 sU:Addr
 sV:FuncData
 sW:Addr
 sX:FuncData
 sY:Addr
 sZ:FuncData
 tD:Addr
 tE:FuncData
 tF:Addr
 tG:FuncData
 tH:Addr
 tI:FuncData
 tJ:Addr
 tK:FuncData
 tL:Addr
 tM:FuncData
 tN:Addr
 tO:FuncData
 tP:Addr
 tQ:FuncData
 tR:Addr
 tS:FuncData
 tT:Addr
 tU:FuncData
 tV:Addr
 tW:FuncData
 tX:Addr
 tY:FuncData
 tZ:Addr
 uA:Addr
 uB:Addr
 uC:Addr
structure Txt (K:PySem.W.Frag)(mg:Str->Option Value)(t:Adr):Prop where
 uD:S9 "_law_hand" eZ t.oQ t.oR Se
 uE:S9 "_law_next" eX t.oS t.oT Of
 uF:S9 "_law_take" eT t.oU t.oV Of
 uG:S9 "_law_draw" fA t.oW t.oX ZK9
 uH:S9 "_law_divisor" cD t.oZ t.pB ZFG
 uI:S9 "_law_point" dR t.pC t.pD ["_law_a","_law_b","_law_c"]
 uJ:S9 "_law_middle" cU t.pE t.pF Xk
 uK:S9 "_law_spot" eU t.pG t.pH ["_law_hand_here","_law_seen","_law_wide"]
 uL:S9 "_law_ring" eV t.pI t.pJ (ZDQ "_law_seen" "_law_wide" "_law_many")
 uM:S9 "_law_layers" cV t.pM t.pN QX
 uN:S9 "_law_nest" eY t.pP t.pQ Of
 uO:S9 "_law_drawn" dW t.pR t.pS QX
 uP:S9 "_law_frame" dU t.pT t.pU Of
 uQ:S9 "_law_slant" dQ t.pV t.pW Of
 uR:S9 "_law_value" dO t.pX t.pY ZLF
 uS:S9 "_law_strokes" cB t.pZ t.qA (Qx "_law_wide" "_law_high")
 uT:S9 "_law_values" cS t.qB t.qC (QD "_law_hand_here" "_law_wide" "_law_high")
 uU:S9 "_law_framed" cW t.qE t.qF ZIB
 uV:S9 "_law_slanted" cC t.qG t.qH ZIC
 uW:S9 "_law_closed" cY t.qI t.qJ QX
 others_at:S9 "others_at" bZ t.qK t.qL X7
 is_ahead:S9 "is_ahead" cZ t.qM t.qN ["p","q"]
 turn_from:S9 "turn_from" bY t.qO t.qP ["line","r"]
 line_through:S9 "line_through" bL t.qQ t.qR ["p","q"]
 turn:S9 "turn" gF t.qS t.qU ["p","q","r"]
 lies_on:S9 "lies_on" dM t.qV t.qW ["p","a","b"]
 onward_of:S9 "onward_of" cA t.qX t.qY X7
 joined_of:S9 "joined_of" cE t.qZ t.rA X7
 merged:S9 "merged" eR t.rB t.rC ["one","other","goes_first"]
 ordered:S9 "ordered" dJ t.rD t.rE ["things","goes_first"]
 in_order:S9 "in_order" dA t.rF t.rG Ur
 ranks_of:S9 "ranks_of" cP t.rH t.rJ Ur
 spans_of:S9 "spans_of" cO t.rK t.rL ["sides"]
 flipped:S9 "flipped" eC t.rM t.rN ["p"]
 near_pairs:S9 "near_pairs" bS t.rO t.rP Tn
 divisor_of:S9 "divisor_of" bT t.rQ t.rR Vt
 point_by:S9 "point_by" cQ t.rS t.rT ["a","b","c"]
 crossing_of:S9 "crossing_of" bR t.rV t.rW Vt
 ends_in_order:S9 "ends_in_order" bJ t.rX t.rY ["a","b"]
 shared_on_line:S9 "shared_on_line" bB t.rZ t.sC ["a","b","c","d"]
 meet:S9 "meet" gG t.sD t.sE ["a","b","c","d"]
 marks_of:S9 "marks_of" cR t.sG t.sH Tn
 cut_at:S9 "cut_at" fB t.sI t.sJ ["p","q","points"]
 turned:S9 "turned" eQ t.sK t.sN ZH5
 added:S9 "added" fP t.sO t.sP Vt
 add_bit:S9 "add_bit" eG t.sQ t.sR ["sums","u","v","passes"]
 bits_of:S9 "bits_of" eD t.sS t.sT Tn
 made_of:S9 "made_of" dL t.sU t.sV ["many","strokes"]
 uX:S9 "_law_ahead" eB t.sW t.sX Xk
 uZ:S9 "_law_sorted" cT t.sY t.sZ ["_law_points"]
 vA:S9 "_law_cross" dZ t.tD t.tE ["_law_a","_law_b","_law_c","_law_d"]
 vB:S9 "_law_turn" eS t.tF t.tG (ZBJ "_law_r")
 vC:S9 "_law_spots" dP t.tH t.tI ZDD
 vD:S9 "_law_on" gH t.tJ t.tK ZLP
 vE:S9 "_law_net" fO t.tL t.tM (ZDo "_law_m")
 vF:S9 "_law_bit_right" bQ t.tN t.tO ZGP
 vG:S9 "_law_strokes_right" aZ t.tP t.tQ Tc
 vH:S9 "_law_pieces_right" bC t.tR t.tS Tc
 vI:S9 "_law_whole" dN t.tT t.tU Zp
 vJ:S9 "_law_pieces_kind" bI t.tV t.tW ["_law_plan","_law_many"]
 law:S9 "law" iF t.tX t.tY Se
 vK:mg "abs" = none
 vL:mg "any" = none
 vM:mg "bool" = none
 vN:mg "dict" = none
 vO:mg "enumerate" = none
 vP:mg "int" = none
 vQ:mg "isinstance" = none
 vR:mg "len" = none
 vS:mg "list" = none
 vT:mg "max" = none
 vU:mg "min" = none
 vV:mg "range" = none
 vW:mg "reversed" = none
 vX:mg "sorted" = none
 vY:mg "tuple" = none
 vZ:mg "zip" = none
 wA:t.rP.code=A5 t.uA
 wB:GM K t.uA t.tZ=true
 wC:t.sV.code=A5 t.uC
 wD:GM K t.uC t.uB=true
 ld:[t.tZ,t.uB].Nodup
abbrev cK (t:Adr):Addr×Str×Pos:=(t.tZ,"near_pairs.<locals>.<lambda>",⟨101,42,101,73⟩)
abbrev eP (t:Adr):Addr×Str×Pos:=(t.uB,"made_of.<locals>.<lambda>",⟨162,37,162,85⟩)
abbrev tabs (t:Adr):Au (Addr×Str×Pos):=[cK t,eP t]
abbrev GG (K:PySem.W.Frag)(P:Program)(w:World)(t:Adr)(fx:Addr->ZAE)(scr:BO (Addr×NX)):G3:=Dt K (tabs t) P w fx scr
def an0 {K:PySem.W.Frag}{mg:Str->OV}{t:Adr}(T:Txt K mg t)(a:Addr×Str×Pos)(ha:a∈tabs t):∀b∈tabs t,b.1=a.1->b=a:=cb6 (l:=tabs t) T.ld a ha
variable {p r:Pt3}{q:L3.KA}{a b n x y c:Int}{m i:Nat}{es:Pp}{os:UO}{rs:QK}
section
variable {P:Program}{w:World}{K:PySem.W.Frag}{mg:Str->OV}{base:Heap}{t:Adr}{fx:Addr->ZAE}{scr:BO (Addr×NX)}
def Φ_is_ahead:SpA:=c2 λa b M q=>pt a λp=>pt b λr=>Sz 4000 p/\Sz 4000 r/\q (.bl (ahd p r)) M
def kw {M:MA}:Φ_is_ahead [Pa p,Pa r] M q=(Sz 4000 p/\Sz 4000 r/\q (.bl (ahd p r)) M):=rfl
def sq:OM ["p","q","here","there"] ["p","q"] cZ:=PJ
def fe (T:Txt K mg t):FnOk P w K mg base CX0 1 t.qM t.qN ["p","q"] (upF (GG K P w t fx scr) Φ_is_ahead):=by
 show ZCu 0 T.is_ahead.F sq (OF 2 sq.nd (PL 0 1) (Sq 3 sq.nd (PL 1 0) (Qk (P7 Oq 2 Qy) (CZ og RR Qy CO)) (CZ og (PL 0 1) (PL 1 0) CO)));intro a b M q h0;let⟨p,rfl,h1⟩:=Sw;let⟨r,rfl,zp,zr,h⟩:=TW;show PC [A8,A8,none,none];simp only[zz];unfold ahd at h;show BH ZBG (Vf zr.x) (ifn Ot Ot)
 .rw[if_neg e] at h;show h
 .rw[if_pos e] at h;show⟨bj zp.y zr.z AC,bj zr.y zp.z AC,h⟩
def Φ_turn_from:SpA:=c2 λa b M q=>pt a λl=>pt b λr=>Sz 8001 l/\Sz 4000 r/\q (.int (sgn (l.x*r.x+l.y*r.y+l.z*r.z))) M
def yj {M:MA}:Φ_turn_from [Pa p,Pa r] M q=(Sz 8001 p/\Sz 4000 r/\q (.int (sgn (p.x*r.x+p.y*r.y+p.z*r.z))) M):=rfl
def wa:OM ["line","r","lean"] ["line","r"] bY:=PJ
def jn (T:Txt K mg t):FnOk P w K mg base CX0 1 t.qO t.qP ["line","r"] (upF (GG K P w t fx scr) Φ_turn_from):=by
 show ZCu 0 T.turn_from.F wa (O6 2 wa.nd (Q7 cp (SU cp 0 1 0 1) 0 1) (Qk (Xw qq 2) ae) (Vn (Qk (Xw og 2) ZHM) ae));intro a b M q h0;let⟨p,rfl,h1⟩:=Sw;let⟨r,rfl,zp,zr,h⟩:=TW;show PC [A8,A8,none];simp only[zz];show WC (Oy zp.x zr.x) (Oy zp.y zr.y) (UV zp.z);unfold sgn at h;show ZDZ (BQ (ifd RE RE))
 .rw[if_pos e] at h;show h
 .rw[if_neg e,if_pos e2] at h;show h
 .rw[if_neg e,if_neg e2] at h;show h
def Φ_line_through:SpA:=c2 λa b M q=>pt a λp=>pt b λr=>Sz 4000 p/\Sz 4000 r/\q (Pa (aA p r)) M
def ng {M:MA}:Φ_line_through [Pa p,Pa r] M q=(Sz 4000 p/\Sz 4000 r/\q (Pa (aA p r)) M):=rfl
def zg:OM ["p","q"] ["p","q"] bL:=PJ
def j9 (T:Txt K mg t):FnOk P w K mg base CX0 1 t.qQ t.qR ["p","q"] (upF (GG K P w t fx scr) Φ_line_through):=by
 show ZCu 0 T.line_through.F zg (Nr (BB (SN (ZDi 0 1 0 1) (ZDi 0 1 0 1) (ZDi 0 1 0 1) cb cb cb)));intro a b M q h0;let⟨p,rfl,h1⟩:=Sw;let⟨r,rfl,zp,zr,h⟩:=TW;show PC [A8,A8];simp only[zz];show IZ ZGF (ZK8 zr.y) (ZK8 zr.x) ZBG (Oy zp.x zr.y) (Oy zp.y zr.x) le3 h
def Φ_turn:SpA:=c3 λa b c M q=>pt a λp=>pt b λr=>pt c λu=>Sz 4000 p/\Sz 4000 r/\Sz 4000 u/\q (.int (sgn (det p r u))) M
def b81 {u:Pt3}{M:MA}:Φ_turn [Pa p,Pa r,Pa u] M q=(Sz 4000 p/\Sz 4000 r/\Sz 4000 u/\q (.int (sgn (det p r u))) M):=rfl
def v7 {a b:Pt3}{n:Nat}(za:Sz m a)(zb:ZLe):Sz (m+n+1) (aA a b):=by
 have h:∀{p q r s:Int},ZI7 p->Bd n q->ZI7 r->Bd n s->Bd (m+n+1) (p*q - r*s):=λa b c d=>(a.mul b).sub (c.mul d);show BH (h za.y zb.z za.z zb.y) (h za.z zb.x za.x zb.z) (h za.x zb.y za.y zb.x)
def bx4:OM ["p","q","r"] ["p","q","r"] gF:=PJ
def b08 (T:Txt K mg t):FnOk P w K mg base CX0 2 t.qS t.qU ["p","q","r"] (upF (GG K P w t fx scr) Φ_turn):=by
 show Pl 1 T.turn.F bx4 ZEO (Nr (Y9 T.turn_from (jn T) (Ux (Vg (j9 T) 0 1) 2 ck))) YI;intro a b c M q h0;let⟨p,rfl,h1⟩:=Sw;let⟨r,rfl,h2⟩:=TW;let⟨u,rfl,zp,zr,zu,h⟩:=ZAA;show PC [A8,A8,A8];simp only[zz,↓ng,↓yj];show B0 zp zr (v7 zp zr) zu h
def Φ_lies_on:SpA:=c3 λa b c M q=>pt a λp=>pt b λr=>pt c λu=>Sz 4000 p/\Sz 4000 r/\Sz 4000 u/\q (.bl (onB p r u)) M
def ag0 {u:Pt3}{M:MA}:Φ_lies_on [Pa p,Pa r,Pa u] M q=(Sz 4000 p/\Sz 4000 r/\Sz 4000 u/\q (.bl (onB p r u)) M):=rfl
def av2:OM ["p","a","b"] ["p","a","b"] dM:=PJ
def ac2 (T:Txt K mg t):FnOk P w K mg base CX0 3 t.qV t.qW ["p","a","b"] (upF (GG K P w t fx scr) Φ_lies_on):=by
 show Pl 2 T.lies_on.F av2 ZEO (ZJr (S5 Oq (N0 T.turn (b08 T) 1 (Pn 2 0))) (Vn (Qk (Sn (Qj YJ 1 2)) (EL (DS (Qj YJ 0 1)) (FE (DS (Qj YJ 2 0))))) (EL (DS (Qj YJ 0 2)) (FE (DS (Qj YJ 1 0)))))) YI;intro a b c M q h0;let⟨p,rfl,h1⟩:=Sw;let⟨r,rfl,h2⟩:=TW;let⟨u,rfl,zp,zr,zu,h⟩:=ZAA;show PC [A8,A8,A8];simp only[zz,↓b81,↓kw];unfold onB at h;show By zr zu zp (ifn Ot (BQ (ZCZ zr zu RE RE)))
 .rw[if_neg λz=>e (Jv z)] at h;show h
 .rw[if_pos (DJ e),if_pos e2] at h;show Qs zp zr;revert h;cases ahd p r with
  | true=>show id
  | false=>show λh=>⟨zu,zp,h⟩
 .rw[if_pos (DJ e),if_neg (by rw[e2];decide)] at h;show Qs zp zu;revert h;cases ahd p u with
  | true=>show id
  | false=>show λh=>⟨zr,zp,h⟩
def mD (p:Pt3):Pt3:=BH p.y p.x p.z
def Φ_flipped:SpA:=c1 λa M q=>pt a λp=>q (Pa (mD p)) M
def bb4 {M:MA}:Φ_flipped [Pa p] M q=q (Pa (mD p)) M:=rfl
def av7:OM ["p"] ["p"] eC:=PJ
def ac5 (T:Txt K mg t):FnOk P w K mg base CX0 1 t.rM t.rN ["p"] (upF (GG K P w t fx scr) Φ_flipped):=by
 show Zm 0 T.flipped.F av7 (Nr (BB (SN Vd Vd Vd bp bp bp)));intro a M q h0;let⟨p,rfl,h⟩:=Sw;show PC [A8];simp only[zz];show A3 le3 h
def Φ_divisor_of:SpA:=c2 λa b M q=>nm a λx=>nm b λy=>q (.int (Int.gcd x y)) M
def aj1 {M:MA}:Φ_divisor_of [.int x,.int y] M q=q (.int (Int.gcd x y)) M:=rfl
def aa0 (x:Int):(Ak (x<0) (-x) x)=(x.natAbs:Int):=by split <;> grind
def je:OM ["one","other","rest"] Vt bT:=PJ
def u6 (T:Txt K mg t):FnOk P w K mg base CX0 1 t.rQ t.rR ["one","other"] (upF (GG K P w t fx scr) Φ_divisor_of):=by
 show ZCu 0 T.divisor_of.F je (OF 0 je.nd (RP ae8 AB T.vK (Nl 0) AC AC AB AB) (Sq 1 je.nd (RP ae8 AB T.vK (Nl 1) AC AC AB AB) (Ox (Xw Oq 1) (OF 2 je.nd (O2 k7 0 Qe) (OF 0 je.nd Qe (ZHq 1 je.nd RR)))) PM));intro a b M q h0;let⟨x,rfl,h1⟩:=ZJk;let⟨y,rfl,h⟩:=nj h1;show PC [A8,A8,none];simp only[zz];rw[aa0,aa0];show p9 (λn s M'=>M'=M/\∃(u v:Int) (r:Option A),s=[NP u,NP v,r]/\0<=u/\0<=v/\v.toNat=n/\B7 u v=B7 x y) (n:=y.natAbs) (IV rfl _ _ none rfl Ab Ab Aq rfl) ?_;rintro n s M' N ⟨rfl,u,v,r,rfl,hu,hv,hn,hg⟩ hN;simp only[zz];show ZEN (Pk e) Ot
 .have hm:=zw (x:=u) (show 0<v by lia);show Mo (by grind) (IV rfl v (u.fmod v) _ rfl hv hm.1 rfl (by rw[as1 hu hv];show hg))
 .subst e;rw[<-hg,as0 u hu] at h;show h
def Φ_point_by:SpA:=c3 λa b c M q=>nm a λx=>nm b λy=>nm c λz=>z≠0/\Bd 9000 z/\q (Pa (pbF x y z)) M
def au4 {z:Int}{M:MA}:Φ_point_by [.int x,.int y,.int z] M q=(z≠0/\Bd 9000 z/\q (Pa (pbF x y z)) M):=rfl
def sj:OM ["a","b","c","shared"] ["a","b","c"] cQ:=PJ
def ap0 (T:Txt K mg t):FnOk P w K mg base CX0 2 t.rS t.rT ["a","b","c"] (upF (GG K P w t fx scr) Φ_point_by):=by
 show Pl 1 T.point_by.F sj ZEO (Aa (Pv (Xw Np 2) (Am bu8)) (Sq 3 sj.nd (Y9 T.divisor_of (u6 T) (Ux (PZ T.divisor_of (u6 T) 0 1) 2 ck)) (Pv (Xw og 2) (ZHq 3 sj.nd (ZHL Qy))) (BB (SN (O2 jq 0 Qy) (O2 jq 1 Qy) (O2 jq 2 Qy) cb cb cb)))) YI;intro a b c M q h0;let⟨x,rfl,h1⟩:=ZJk;let⟨y,rfl,h2⟩:=nj h1;let⟨z,rfl,hz,bz,h⟩:=nj h2;show PC [A8,A8,A8,none];simp only[zz,↓aj1];have hg:=bs3 (a:=x) (b:=y) hz;have hgb:Bd 9000 (gS3 x y z):=by
  have:=Bd.gcd_right (a:=((Int.gcd x y:Nat):Int)) hz bz;unfold gS3;split
  .show this.neg
  .show this
 show ZAk ((hz e).elim) (A0 ZDa)
 .have e2 : -(Int.gcd ((Int.gcd x y:Nat):Int) z:Int)=gS3 x y z:=by rw[gS3,if_pos e]
  rw[e2];show B0 (A3 hg hgb) (A3 hg hgb) (A3 hg hgb) le3 h
 .have e2:(Int.gcd ((Int.gcd x y:Nat):Int) z:Int)=gS3 x y z:=by rw[gS3,if_neg e]
  rw[e2];show B0 (A3 hg hgb) (A3 hg hgb) (A3 hg hgb) le3 h
def Φ_crossing_of:SpA:=c2 λa b M q=>pt a λl=>pt b λm=>Sz 4000 l/\Sz 4000 m/\(aA l m).z≠0/\Bd 9000 (aA l m).z/\q (Pa (pbF (aA l m).x (aA l m).y (aA l m).z)) M
def ae9 {l m:Pt3}{M:MA}:Φ_crossing_of [Pa l,Pa m] M q=(Sz 4000 l/\Sz 4000 m/\(aA l m).z≠0/\Bd 9000 (aA l m).z/\q (Pa (pbF (aA l m).x (aA l m).y (aA l m).z)) M):=rfl
def su:OM ["one","other","numbers"] Vt bR:=PJ
def ac6 (T:Txt K mg t):FnOk P w K mg base CX0 3 t.rV t.rW ["one","other"] (upF (GG K P w t fx scr) Φ_crossing_of):=by
 show ZCu 2 T.crossing_of.F su (ZEs 2 su.nd (Vg (j9 T) 0 1) (Y9 T.point_by (ap0 T) (SN Xa Xa Xa bp bp bp)));intro a b M q h0;let⟨l,rfl,h1⟩:=Sw;let⟨m,rfl,zl,zm,hz,bz,h⟩:=TW;show PC [A8,A8,none];simp only[zz,↓ng,↓au4];show B0 zl zm hz bz h
def Φ_ends_in_order:SpA:=c2 λa b M q=>pt a λp=>pt b λr=>Sz 4000 p/\Sz 4000 r/\q (.tup [Pa (aE p r).1,Pa (aE p r).2]) M
def zf {M:MA}:Φ_ends_in_order [Pa p,Pa r] M q=(Sz 4000 p/\Sz 4000 r/\q (.tup [Pa (aE p r).1,Pa (aE p r).2]) M):=rfl
def le2 {α:Type}{a b:α}:[a,b].length<=sizeLine:=by rw[sizeLine_eq];simp
def le1 {α:Type}{a:α}:[a].length<=sizeLine:=by rw[sizeLine_eq];simp
def le0 {α:Type}:([]:List α).length<=sizeLine:=by rw[sizeLine_eq];simp
def xp:OM ["a","b"] ["a","b"] bJ:=PJ
def qo (T:Txt K mg t):FnOk P w K mg base CX0 2 t.rX t.rY ["a","b"] (upF (GG K P w t fx scr) Φ_ends_in_order):=by
 show ZCu 1 T.ends_in_order.F xp (Nr (CJ (Sn (Qj YJ 0 1)) (Wj 0 1) (Wj 1 0)));intro a b M q h0;let⟨p,rfl,h1⟩:=Sw;let⟨r,rfl,zp,zr,h⟩:=TW;show PC [A8,A8];simp only[zz,↓kw];unfold aE at h;show ZCZ zp zr Ot Ot
 .rw[if_pos e] at h;show⟨le2,h⟩
 .rw[if_neg (by rw[e];decide)] at h;show⟨le2,h⟩
def Φ_shared_on_line:SpA:=c4 λa b c d M q=>pt a λa=>pt b λb=>pt c λc=>pt d λd=>Sz 4000 a/\Sz 4000 b/\Sz 4000 c/\Sz 4000 d/\q (.tup ((aR a b c d).map Pa)) M
def xk {a b c d:Pt3}{M:MA}:Φ_shared_on_line [Pa a,Pa b,Pa c,Pa d] M q=(Sz 4000 a/\Sz 4000 b/\Sz 4000 c/\Sz 4000 d/\q (.tup ((aR a b c d).map Pa)) M):=rfl
def a61 {n:Nat}{a b:Pt3}(h1:ZFL a)(h2:ZLe):Sz n (SC).1/\Sz n (SC).2:=by
 rcases fm a b with⟨e1,e2⟩|⟨e1,e2⟩ <;> rw[e1,e2]
 .show A3 h1 h2
 .show A3 h2 h1
def gw:OM ["a","b","c","d","one","other","low","high"] ["a","b","c","d"] bB:=PJ
def wf (T:Txt K mg t):FnOk P w K mg base CX0 3 t.rZ t.sC ["a","b","c","d"] (upF (GG K P w t fx scr) Φ_shared_on_line):=by
 show Pl 2 T.shared_on_line.F gw ZCD (OF 4 gw.nd (PZ T.ends_in_order (qo T) 0 1) (OF 5 gw.nd (PZ T.ends_in_order (qo T) 2 3) (OF 6 gw.nd (CJ (Sn (ZIn YJ (PY (Nc 4) (Nc 5) bp bp))) (Nc 5) (Nc 4)) (Sq 7 gw.nd (CJ (Sn (ZIn YJ (PY (Nc 4) (Nc 5) bp bp))) (Nc 4) (Nc 5)) (Qk (P7 Np 6 ZG6) (BB (Nl 6))) (CJ (Sn (Qj YJ 6 7)) (Wj 6 7) (BB ag)))))) Wy;intro a b c d M q h0;let⟨a,rfl,h1⟩:=Sw;let⟨b,rfl,h2⟩:=TW;let⟨c,rfl,h3⟩:=ZAA;let⟨d,rfl,za,zb,zc,zd,h⟩:=dw h3;show PC [A8,A8,A8,A8,none,none,none,none];simp only[zz,↓zf,↓kw];let⟨z1,z2⟩:=a61 za zb;let⟨z3,z4⟩:=a61 zc zd;have zlo:Sz 4000 (aT (SC).1 (T3).1):=by unfold aT;split <;> assumption
 have zhi:Sz 4000 (aV (SC).2 (T3).2):=by unfold aV;split <;> assumption
 have fin:∀lo hi:Pt3,lo=aT (SC).1 (T3).1->hi=aV (SC).2 (T3).2->Xi ((decide (lo=hi) != false)=true) ([Pa lo].length<=sizeLine/\q (F7 [Pa lo]) M) (VQ lo/\VQ hi/\Ak (ahd lo hi=true) ([Pa lo,Pa hi].length<=sizeLine/\q (ZHQ (Pa lo) (Pa hi)) M) (([]:List A).length<=sizeLine/\q (F7 []) M)):=by
  rintro lo hi rfl rfl;unfold aR at h;show ife Ot (BQ (ZCZ zlo zhi RE RE))
  .simp only[e,if_true] at h ⊢;show⟨le1,h⟩
  .simp only[e,e2,if_true,if_false] at h ⊢;show⟨le2,h⟩
  .simp only[e,e2,if_true,if_false,Bool.false_eq_true] at h ⊢;show⟨le0,h⟩
 show Cu za zb zc zd z1 z3 (ifb Ot Ot)
 .have el:(T3).1=aT (SC).1 (T3).1:=by rw[aT,if_pos e]
  show ZCZ z2 z4 (C5 (ZDb (by rw[aV,if_pos e2]))) (C5 (ZDb (by rw[aV,if_neg (by rw[e2];decide)])))
 .have el:(SC).1=aT (SC).1 (T3).1:=by rw[aT,if_neg (by rw[e];decide)]
  show ZCZ z2 z4 (C5 (ZDb (by rw[aV,if_pos e2]))) (C5 (ZDb (by rw[aV,if_neg (by rw[e2];decide)])))
theorem cross_z {a b c d:Pt3}(hc:0<c.z)(hd:0<d.z)(h:VP≠YA):(ZAT).z≠0:=by
 rw[show (ZAT).z=det a b d*c.z - det a b c*d.z by unfold aA det;grind];generalize det a b c=C at *;generalize det a b d=E at *;intro z;have key:∀{x y:Int},0<y->(0<x*y↔0<x)/\(x*y<0↔x<0):=λ{x y} hy=>by
  rcases Int.lt_trichotomy x 0 with h|h|h
  .have:=Int.mul_pos (show 0 < -x by simp_all) hy;rw[Int.neg_mul] at this;lia
  .subst h;simp
  .have:=Ci h hy;lia
 have k1:=key (x:=E) hc;have k2:=key (x:=C) hd;rw[show E*c.z=C*d.z by lia] at k1;show h ?_;unfold sgn;simp only[k2.1.symm.trans k1.1,k2.2.symm.trans k1.2]
def Φ_meet:SpA:=c4 λa b c d M q=>pt a λa=>pt b λb=>pt c λc=>pt d λd=>Sz 900 a/\Sz 900 b/\Sz 900 c/\Sz 900 d/\0<c.z/\0<d.z/\q (.tup ((aI a b c d).map Pa)) M
def b82 {a b c d:Pt3}{M:MA}:Φ_meet [Pa a,Pa b,Pa c,Pa d] M q=(Sz 900 a/\Sz 900 b/\Sz 900 c/\Sz 900 d/\0<c.z/\0<d.z/\q (.tup ((aI a b c d).map Pa)) M):=rfl
def aj6:OM ["a","b","c","d","one","other"] ["a","b","c","d"] gG:=PJ
def b09 (T:Txt K mg t):FnOk P w K mg base CX0 4 t.sD t.sE ["a","b","c","d"] (upF (GG K P w t fx scr) Φ_meet):=by
 show Pl 3 T.meet.F aj6 ZCD (O6 4 aj6.nd (Vg (j9 T) 0 1) (Qk (Ov Np (U1 (jn T) 4 2) (U1 (jn T) 4 3)) (CJ (ZE0 (U1 (jn T) 4 2)) (ZBh T.shared_on_line (wf T) 0 1 (Pn 2 3)) (BB ag))) (Sq 5 aj6.nd (Vg (j9 T) 2 3) (Qk (Ov Np (U1 (jn T) 5 0) (U1 (jn T) 5 1)) (BB ag)) (BB (Nj (PZ T.crossing_of (ac6 T) 4 5) ck)))) Wy;intro a b c d M q h0;let⟨a,rfl,h1⟩:=Sw;let⟨b,rfl,h2⟩:=TW;let⟨c,rfl,h3⟩:=ZAA;let⟨d,rfl,za,zb,zc,zd,c0,d0,h⟩:=dw h3;show PC [A8,A8,A8,A8,none,none];simp only[zz,↓ng,↓yj,↓xk,↓ae9];have za4:=za.mono (show 900<=4000 by decide);have zb4:=zb.mono (show 900<=4000 by decide);have zc4:=zc.mono (show 900<=4000 by decide);have zd4:=zd.mono (show 900<=4000 by decide);have l1:=v7 za zb;have l2:=v7 zc zd;have l1':Sz 8001 (aA a b):=l1.mono AC;have l2':Sz 8001 (aA c d):=l2.mono AC;have ea:∀r:Pt3,(aA a b).x*r.x+(aA a b).y*r.y+(aA a b).z*r.z=PU r:=Nn;have ec:∀r:Pt3,(aA c d).x*r.x+(aA c d).y*r.y+(aA c d).z*r.z=Xf r:=Nn;simp only[ea,ec];unfold aI at h;show Cu za4 zb4 l1' zc4 l1' zd4 (ZAk (BH l1' zc4 (ife RE RE)) (BQ (Cu zc4 zd4 l2' za4 l2' zb4 (ife RE RE))))
 .rw[if_pos e,if_pos e2] at h;show⟨za4,zb4,zc4,zd4,h⟩
 .rw[if_pos e,if_neg e2] at h;show⟨le0,h⟩
 .rw[if_neg e,if_pos e2] at h;show⟨le0,h⟩
 .rw[if_neg e,if_neg e2] at h;show Dt (l1.mono AC) (l2.mono AC) (cross_z c0 d0 e) (((v7 l1 l2).mono AC).z) le1 h
def Φ_l_ahead:SpA:=c2 λa b M q=>pt a λp=>pt b λr=>Sz 4000 p/\Sz 4000 r/\q (.bl (ahd p r)) M
def uj {M:MA}:Φ_l_ahead [Pa p,Pa r] M q=(Sz 4000 p/\Sz 4000 r/\q (.bl (ahd p r)) M):=rfl
def av6:OM Xk Xk eB:=PJ
def i9 (T:Txt K mg t):FnOk P w K mg base CX0 1 t.sW t.sX ["_law_p","_law_q"] (upF (GG K P w t fx scr) Φ_l_ahead):=by
 show ZCu 0 T.uX.F av6 (Vn (Qk (Ov Oq (PL 0 1) (PL 1 0)) (CZ og (PL 0 1) (PL 1 0) CO)) (CZ og (PL 0 1) (PL 1 0) CO));intro a b M q h0;let⟨p,rfl,h1⟩:=Sw;let⟨r,rfl,zp,zr,h⟩:=TW;show PC [A8,A8];simp only[zz];unfold ahd at h;have m1:=bj zp.x zr.z (show 4000+4000<=134217728 by decide);have m2:=bj zr.x zp.z (show 4000+4000<=134217728 by decide);show BH m1 m2 (ifn Ot Ot)
 .rw[if_neg e] at h;show⟨m1,m2,h⟩
 .rw[if_pos e] at h;show⟨bj zp.y zr.z AC,bj zr.y zp.z AC,h⟩
def Φ_l_hand (G:G3):SpA:=c1 λa M q=>rf a λl=>∃ns,G.scr=some (l,ns)/\∀hd sc M',Sm M M'->M hd=none->Hd M' hd sc->q (.ref hd) M'
def bd0:OM Se Se eZ:=PJ
def be9 (T:Txt K mg t):FnOk P w K mg base CX0 1 t.oQ t.oR ["_law_script"] (upF (GG K P w t fx scr) (Φ_l_hand (GG K P w t fx scr))):=by
 show Zm 0 T.uD.F bd0 (Nr (Bb (AU (Tf am4 AB T.vS (ZA8 (@bi3 _ _ _ _ _ _ _ _ _ _ rfl PM jc ZKV)) AC AC AB AB) (AU ae (AU ae (SN ae ae ae bn bn bn) bn) bn) ck)));intro a M q h0;let⟨l,rfl,ns,hs,h⟩:=ZCE;show PC [A8];simp only[zz];unfold mH;simp only[zz];show BH ns hs SY;simp only[zz,n6 ak];intro sc hsc;show A3 le6 (λhd hh=>?_);have s1:=ZId (ZDR PQ (Af 63)) hp;have s2:=ZId (ZDR PQ (Af 63)) hsc;have s3:=Cr (Do [A5 sc,ZCa,ZCa,ZCa,BR 20011,BR 40009]) hh;show h hd sc _ (DA ZKW) (s1.free (s2.free hh)) (IV ((ns.drop (HT.sIx (PQ).length 0 none)).take (HT.sIx (PQ).length (PQ).length (Af 63) - HT.sIx (PQ).length 0 none)) 0 0 0 20011 40009 ak ?_ AC);rw[cf (db ak hh),ak,List.map_take,List.map_drop];rfl
def Φ_l_next:SpA:=c1 λa M q=>rf a λhd=>∃sc,Hd M hd sc/\∀(n:Int) M',Hd M' hd sc->SmB hd M M'->q (.int n) M'
def bc9:OM Of Of eX:=PJ
def um (T:Txt K mg t):FnOk P w K mg base CX0 1 t.oS t.oT ["_law_hand_here"] (upF (GG K P w t fx scr) Φ_l_next):=by
 show Zm 0 T.uE.F bc9 (Aa (ZH2 (TC k7 (OG bu 0 ae))) (Vn (ZH2 (TC k7 (OG bu 0 ae))) (OL cp 0 0)));intro a M q h0;let⟨hd,rfl,sc,⟨ns,i,b,c,p,r,h1,h2,hi⟩,h⟩:=ZCE;have nsc:=Hd.ne h1 h2;show PC [A8];simp only[zz,↓g60 h1,↓g61 h1,↓g62 h1,↓g63 h1,↓g64 h1,↓g65 h1,↓h61 h1,↓h63 h1,↓p61 h1,↓p62 h1,↓p63 h1,↓p64 h1,↓p65 h1,↓g60 ak,↓g61 ak,↓g62 ak,↓g63 ak,↓g64 ak,↓g65 ak,↓h61 ak,↓h63 ak,↓p61 ak,↓p62 ak,↓p63 ak,↓p64 ak,↓p65 ak,pp];show B0 ZAI AC ZAI AC (h _ _ (IV ns i b c _ _ ak (by rw[cf nsc];show h2) hi) SmB.put)
theorem nxt {M:MA}{hd sc:Addr}(a:Hd M hd sc)(b:∀(n:Int) M',Hd M' hd sc->SmB hd M M'->q (.int n) M'):Φ_l_next [.ref hd] M q:=⟨sc,a,b⟩
def Φ_l_take:SpA:=c1 λa M q=>rf a λhd=>∃sc,Hd M hd sc/\∀M',Hd M' hd sc->SmB hd M M'->q .non M'
def xo:OM (O3 "_law_cell") Of eT:=PJ
def be5 (T:Txt K mg t):FnOk P w K mg base CX0 2 t.oU t.oV ["_law_hand_here"] (upF (GG K P w t fx scr) Φ_l_take):=by
 show Zm 1 T.uF.F xo (O6 1 xo.nd ae (Pv (Ov og Vd (P6 fq AB (ZA8 Vd) AC AC AB AB)) (ZHq 1 xo.nd (RP ae8 AB T.vK (ZA8 (V4 Vd Vd)) AC AC AB AB))) (Aa (ZG7 PM ae ae a03 PN (by intros;rfl)) (Aa (Ap (P7 b74 1 (TC yc ae)) (Am (ZH2 Qe)) (Am (ZH2 ae))) (Aa (ZH2 (TC cp (TC k7 (OG cp 0 (ST k7 1))))) (Aa (ZH2 (TC cp (TC k7 (Xo (OG bu 0 ae) (ST k7 1))))) (Aa (SZ (WO T.uE (um T) 0)) (TD (WO T.uE (um T) 0))))))));intro a M q h0;let⟨hd,rfl,sc,⟨ns,i,b,c,p,r,h1,h2,hi⟩,h⟩:=ZCE;have nsc:=Hd.ne h1 h2;show PC [A8,none];have fin:∀(b' c' p' r':Int),Φ_l_next [.ref hd] (put M hd (.lst [.ref sc,.int (i+1),.int b',.int c',.int p',.int r'])) (λx M1=>Φ_l_next [.ref hd] M1 λx M2=>q .non M2):=λb' c' p' r'=>
  nxt ⟨ns,i+1,b',c',p',r',ak,by rw[cf nsc];show h2,by lia⟩ λy_ y_ g s=>nxt g λy_ y_ g' s'=>h _ g' (SmB.put.trans (s.trans s'))
 have hpow:gY 10 18:=A3 AC AD;simp only[zz,↓g60 h1,↓g61 h1,↓g62 h1,↓g63 h1,↓g64 h1,↓g65 h1,↓h61 h1,↓h63 h1,↓p61 h1,↓p62 h1,↓p63 h1,↓p64 h1,↓p65 h1,↓g60 ak,↓g61 ak,↓g62 ak,↓g63 ak,↓g64 ak,↓g65 ak,↓h61 ak,↓h63 ak,↓p61 ak,↓p62 ak,↓p63 ak,↓p64 ak,↓p65 ak,pp,ju h2,List.length_map];show ifd (λhl=>?_) λhl=>?_
 .obtain⟨n,hn⟩:∃n,ns[i.toNat]?=some n:=QP _ Aw;simp only[zz,c7 h2 (atI_map hi hn),↓g60 h1,↓g61 h1,↓g62 h1,↓g63 h1,↓g64 h1,↓g65 h1,↓h61 h1,↓h63 h1,↓p61 h1,↓p62 h1,↓p63 h1,↓p64 h1,↓p65 h1,↓g60 ak,↓g61 ak,↓g62 ak,↓g63 ak,↓g64 ak,↓g65 ak,↓h61 ak,↓h63 ak,↓p61 ak,↓p62 ak,↓p63 ak,↓p64 ak,↓p65 ak,pp];show A3 hpow (VW (A0 (Dt AC AC ZAI AC AC IW)) (Dt AC AC ZAI AC AC IW))
 .show A3 hpow (VW (A0 (Dt AC AC ZAI AC AC IW)) (Dt AC AC ZAI AC AC IW))
def Φ_l_draw:SpA:=c2 λa b M q=>rf a λhd=>nm b λm=>∃sc,Hd M hd sc/\0<m/\Bd 9000 m/\∀(n:Int) M',0<=n->n<m->Hd M' hd sc->SmB hd M M'->q (.int n) M'
theorem drw {M:MA}{hd sc:Addr}{m:Int}(a:Hd M hd sc)(h0:0<m)(h1:Bd 9000 m)(b:∀(n:Int) M',0<=n->n<m->Hd M' hd sc->SmB hd M M'->q (.int n) M'):Φ_l_draw [.ref hd,.int m] M q:=⟨sc,a,h0,h1,b⟩
def mt:OM ["_law_hand_here","_law_many","_law_got","_law_value_here","_law_size"] ZK9 fA:=PJ
def ce (T:Txt K mg t):FnOk P w K mg base CX0 3 t.oW t.oX ["_law_hand_here","_law_many"] (upF (GG K P w t fx scr) Φ_l_draw):=by
 show ZCu 2 T.uG.F mt (Aa (Pv (Xr (ZE0 Vd) (ZE0 Vd)) (TD (WO T.uF (be5 T) 0))) (Aa (Pv (S5 qq Vd) (Sq 2 mt.nd (OG k7 0 Qe) (ZH2 (OG jq 0 Qe)) RR)) (Aa (ZG7 PM ae ae am2 PN (by intros;rfl)) (OF 3 mt.nd (WO T.uE (um T) 0) (Sq 4 mt.nd ae (Ox (P7 og 4 Qe) (OF 3 mt.nd (Xo (ST bu 3) (WO T.uE (um T) 0)) (ZHq 4 mt.nd (ST bu 4)))) (O2 k7 3 Qe))))));intro a b M q h0;let⟨hd,rfl,h0'⟩:=ZCE;let⟨m,rfl,sc,g0,hm,hB,h⟩:=nj h0';show PC [A8,A8,none,none,none];show ZG8 (λM1=>SL M1/\ZDT M M1) Tq
 .let⟨ns,i,b,c,p,r,h1,h2,hi⟩:=id g0;simp only[zz,↓g60 h1,↓g61 h1,↓g62 h1,↓g63 h1,↓g64 h1,↓g65 h1,↓h61 h1,↓h63 h1,↓p61 h1,↓p62 h1,↓p63 h1,↓p64 h1,↓p65 h1];show ifb (A0 (ifb (A0 (BH sc g0 (λM' g s=>hN _ (A3 g s)))) (A0 (hN _ (A3 g0 EW))))) (A0 (hN _ (A3 g0 EW)))
 rintro M1 ⟨⟨ns,i,b,c,p,r,h1,h2,hi⟩,s1⟩;have nsc:=Hd.ne h1 h2;simp only[zz,↓g60 h1,↓g61 h1,↓g62 h1,↓g63 h1,↓g64 h1,↓g65 h1,↓h61 h1,↓h63 h1,↓p61 h1,↓p62 h1,↓p63 h1,↓p64 h1,↓p65 h1,↓g60 ak,↓g61 ak,↓g62 ak,↓g63 ak,↓g64 ak,↓g65 ak,↓h61 ak,↓h63 ak,↓p61 ak,↓p62 ak,↓p63 ak,↓p64 ak,↓p65 ak,pp];show VW (A0 (Qs Ab (XR hB))) ?_
 .have hl:=zw (x:=b) hm;show h _ _ hl.1 hl.2 (IV ns i _ c p r ak (by rw[cf nsc];show h2) hi) (DA SmB.put)
 .show nxt (sc:=sc) (IV ns i _ _ _ _ ak (by rw[cf nsc];show h2) hi) λn M2 g2 s2=>?_;show p9 (λk s' M'=>VC/\QG hd M/\∃x y:Int,s'=[Pt,RV,none,ZA6,ZA7]/\0<y/\k=(m - y).toNat) (Cu g2 ((DA SmB.put).trans s2) n 4294967296 rfl AC rfl) ?_;rintro k s' M3 N ⟨g3,s3,x,y,rfl,hy,rfl⟩ hN;simp only[zz];show ifd (BQ (A3 ZAI (nxt g3 λn' M4 g4 s4=>?_))) (BQ (Pk Ab))
  .show A3 ZAI (Mo (by grind) (Cu g4 (G0 s4) _ _ rfl Ab rfl))
  .have hl:=zw (x:=x) hm;show h _ _ hl.1 hl.2 g3 s3
def Φ_l_divisor:SpA:=c2 λa b M q=>nm a λx=>nm b λy=>q (.int (Int.gcd x y)) M
def am9 {M:MA}:Φ_l_divisor [.int x,.int y] M q=q (.int (Int.gcd x y)) M:=rfl
def mi:OM ZFG ZFG cD:=PJ
def wk (T:Txt K mg t):FnOk P w K mg base CX0 1 t.oZ t.pB ["_law_one","_law_other"] (upF (GG K P w t fx scr) Φ_l_divisor):=by
 show ZCu 0 T.uH.F mi (OF 0 mi.nd (RP ae8 AB T.vK (Nl 0) AC AC AB AB) (Sq 1 mi.nd (RP ae8 AB T.vK (Nl 1) AC AC AB AB) (Ox (Xw qq 1) (Am (@cj5 _ _ _ _ _ _ 0 1 _ _ _ _ _ _ _ _ rfl mi.nd rfl rfl AC rfl rfl (Q8 1 (O2 k7 0 Qe) cb) AB AB))) PM));intro a b M q h0;let⟨x,rfl,h1⟩:=ZJk;let⟨y,rfl,h⟩:=nj h1;show PC [A8,A8];simp only[zz];rw[aa0,aa0];show p9 (λn s M'=>M'=M/\∃(u v:Int),s=[NP u,NP v]/\0<=u/\0<=v/\v.toNat=n/\B7 u v=B7 x y) (n:=y.natAbs) (ZHT rfl _ _ Ab Ab Aq rfl) ?_;rintro n s M' N ⟨rfl,u,v,rfl,hu,hv,hn,hg⟩ hN;simp only[zz];show ifd (BQ (Pk Ab)) Ot
 .have hm:=zw (x:=u) (show 0<v by simp_all);show Mo Ab (ZHT rfl v (u.fmod v) hv hm.1 rfl (by rw[as1 hu hv];show hg))
 .obtain rfl:v=0:=by lia
  rw[<-hg,as0 u hu] at h;show h
def Φ_l_point:SpA:=c3 λa b c M q=>nm a λx=>nm b λy=>nm c λz=>0<z/\Bd 9000 z/\q (Pa (pbF x y z)) M
def qh {z:Int}{M:MA}:Φ_l_point [.int x,.int y,.int z] M q=(0<z/\Bd 9000 z/\q (Pa (pbF x y z)) M):=rfl
def ab5:OM ["_law_a","_law_b","_law_c","_law_d"] ["_law_a","_law_b","_law_c"] dR:=PJ
def h8 (T:Txt K mg t):FnOk P w K mg base CX0 2 t.pC t.pD ["_law_a","_law_b","_law_c"] (upF (GG K P w t fx scr) Φ_l_point):=by
 show Pl 1 T.uI.F ab5 ZEO (ZEs 3 ab5.nd (Y9 T.uH (wk T) (Ux (PZ T.uH (wk T) 2 0) 1 ck)) (BB (SN (O2 jq 0 Qy) (O2 jq 1 Qy) (O2 jq 2 Qy) cb cb cb))) YI;intro a b c M q h0;let⟨x,rfl,h1⟩:=ZJk;let⟨y,rfl,h2⟩:=nj h1;let⟨z,rfl,hz,bz,h⟩:=nj h2;show PC [A8,A8,A8,none];simp only[zz,↓am9];let⟨hi,hd⟩:=av9 (a:=x) (b:=y) hz;have hdB:Bd 9000 (Int.gcd (B7 z x) y:Int):=by
  show bz.le ?_;have:(Int.gcd (B7 z x) y:Nat)<=z.natAbs:=by
   show Nat.le_of_dvd (by grind) ?_;show Nat.dvd_trans (Int.gcd_dvd_natAbs_left _ _) ?_;rw[Int.natAbs_natCast];show Int.gcd_dvd_natAbs_left z x
  show this
 rw[aw3 Ab hi] at h;show B0 (XR hdB) (XR hdB) (XR hdB) le3 h
def bM (p q:Pt3):Pt3:=pbF (p.x*q.z+q.x*p.z) (p.y*q.z+q.y*p.z) (2*p.z*q.z)
def Φ_l_middle:SpA:=c2 λa b M q=>pt a λp=>pt b λr=>Sz 4000 p/\Sz 4000 r/\0<p.z/\0<r.z/\q (Pa (bM p r)) M
def aa4 {M:MA}:Φ_l_middle [Pa p,Pa r] M q=(Sz 4000 p/\Sz 4000 r/\0<p.z/\0<r.z/\q (Pa (bM p r)) M):=rfl
def bd2:Bd 2 (2:Int):=by unfold Bd;decide
def ao1:OM Xk Xk cU:=PJ
def tj (T:Txt K mg t):FnOk P w K mg base CX0 3 t.pE t.pF ["_law_p","_law_q"] (upF (GG K P w t fx scr) Φ_l_middle):=by
 show ZCu 2 T.uJ.F ao1 (Nr (Y9 T.uI ZCF (SN (SU cp 0 1 1 0) (SU cp 0 1 1 0) (ZA (ZA ae Vd) (Nc 1)) cb cb cb)));intro a b M q h0;let⟨p,rfl,h1⟩:=Sw;let⟨r,rfl,zp,zr,p0,r0,h⟩:=TW;show PC [A8,A8];simp only[zz,↓qh];show IV ZBG (Vf zr.x) ZGF (Vf zr.y) (Vf bd2) (UV (bd2.mul zp.z)) (Ci (Ci AC p0) r0) (((bd2.mul zp.z).mul zr.z).mono AC) h
def bx2 (x y:Int):Xi (Cd (y<x)=true) ((1:Int)) 0 - Xi (Cd (x<y)=true) 1 0=sgn (x - y):=by
 unfold sgn;by_cases h1:y<x
 .rw[if_pos (IF h1),if_neg (by rw[decide_eq_true_iff];lia),if_pos Aw];rfl
 .by_cases h2:x<y
  .rw[if_neg (by rw[decide_eq_true_iff];show h1),if_pos (IF h2),if_neg Aw,if_pos (by omega)];rfl
  .rw[if_neg (by rw[decide_eq_true_iff];show h1),if_neg (by rw[decide_eq_true_iff];show h2),if_neg Aw,if_neg Ab];rfl
def Φ_l_turn:SpA:=c3 λa b c M q=>pt a λp=>pt b λr=>pt c λu=>Sz 4000 p/\Sz 4000 r/\Sz 4000 u/\0<p.z/\q (.int (sgn (det p r u))) M
def aa3 {u:Pt3}{M:MA}:Φ_l_turn [Pa p,Pa r,Pa u] M q=(Sz 4000 p/\Sz 4000 r/\Sz 4000 u/\0<p.z/\q (.int (sgn (det p r u))) M):=rfl
def xn:OM ["_law_p","_law_q","_law_r","_law_one","_law_other"] (ZBJ "_law_r") eS:=PJ
def ky (T:Txt K mg t):FnOk P w K mg base CX0 1 t.tF t.tG ["_law_p","_law_q","_law_r"] (upF (GG K P w t fx scr) Φ_l_turn):=by
 show Pl 0 T.vB.F xn ZEO (OF 3 xn.nd (ZA (ZDi 1 0 0 1) (ZDi 2 0 0 2)) (ZEs 4 xn.nd (ZA (ZDi 1 0 0 1) (ZDi 2 0 0 2)) (AZ c8 (Tx am5 AB T.vP (Nj (CZ qq Qy Si CO) an2) AC AC AB AB) (Tx am5 AB T.vP (Nj (CZ og Qy Si CO) an2) AC AC AB AB)))) YI;intro a b c M q h0;let⟨p,rfl,h1⟩:=Sw;let⟨r,rfl,h2⟩:=TW;let⟨u,rfl,zp,zr,zu,p0,h⟩:=ZAA;show PC [A8,A8,A8,none,none];simp only[zz];have d1:=(zr.x.mul zp.z).sub (zp.x.mul zr.z);have d2:=(zu.y.mul zp.z).sub (zp.y.mul zu.z);have d3:=(zr.y.mul zp.z).sub (zp.y.mul zr.z);have d4:=(zu.x.mul zp.z).sub (zp.x.mul zu.z);rw[bx2,bu0,bc3 p0];show⟨Vf zr.x,ZBG,Vf zu.y,Oy zp.y zu.z,Oy d1 d2,Vf zr.y,ZGF,Vf zu.x,Oy zp.x zu.z,Oy d3 d4,h⟩
def Φ_l_on:SpA:=c3 λa b c M q=>pt a λp=>pt b λr=>pt c λu=>Sz 4000 p/\Sz 4000 r/\Sz 4000 u/\0<r.z/\q (.bl (onB p r u)) M
def bx5:OM ZLP ZLP gH:=PJ
def ak7 (T:Txt K mg t):FnOk P w K mg base CX0 2 t.tJ t.tK ["_law_p","_law_a","_law_b"] (upF (GG K P w t fx scr) Φ_l_on):=by
 show Pl 1 T.vD.F bx5 ZEO (ZJr (S5 Oq (ZIu T 1 (Pn 2 0))) (Vn (Qk (Sn (ZDq T 1 2)) (EL (DS (ZDq T 0 1)) (FE (DS (ZDq T 2 0))))) (EL (DS (ZDq T 0 2)) (FE (DS (ZDq T 1 0)))))) YI;intro a b c M q h0;let⟨p,rfl,h1⟩:=Sw;let⟨r,rfl,h2⟩:=TW;let⟨u,rfl,zp,zr,zu,r0,h⟩:=ZAA;show PC [A8,A8,A8];simp only[zz,↓aa3,↓uj];unfold onB at h;show B0 zr zu zp r0 (ifn Ot (BQ (ZCZ zr zu RE RE)))
 .rw[if_neg λz=>e (Jv z)] at h;show h
 .rw[if_pos (DJ e),if_pos e2] at h;show Qs zp zr;revert h;cases ahd p r with
  | true=>show id
  | false=>show λh=>⟨zu,zp,h⟩
 .rw[if_pos (DJ e),if_neg (by rw[e2];decide)] at h;show Qs zp zu;revert h;cases ahd p u with
  | true=>show id
  | false=>show λh=>⟨zr,zp,h⟩
structure Fr (f a b c:Int):Prop where
 f:0<f/\f<=10 ^ 5
 a:a.natAbs<=10 ^ 6
 b:b.natAbs<=10 ^ 6
 c:1<=c/\c<=20
def Φ_l_frame:SpA:=c1 λa M q=>rf a λhd=>∃sc,Hd M hd sc/\∀f a b c M',Hd M' hd sc->SmB hd M M'->Fr f a b c->q (.tup [.int f,.int a,.int b,.int c]) M'
def bl3 (n:Int)(h0:0<=n)(h:n<=100):gY 10 n:=⟨h0,by
 have:(Builtin.Int.intBits 10:Int)=4:=by decide +kernel
 rw[this];lia⟩
def le4 {α:Type}{a b c d:α}:[a,b,c,d].length<=sizeLine:=by rw[sizeLine_eq];simp
def a70 {d:Int}(h0:0<=n)(h:n<4):∃y,(y=a\/y=b\/y=c\/y=d)/\atI [Er a,BR b,BR c,BR d] n=ZA7:=by
 rcases (by lia:n=0\/n=1\/n=2\/n=3) with rfl|rfl|rfl|rfl
 .show Oo a OP
 .show Oo b (CK OP)
 .show Oo c (ZIc OP)
 .show Oo d (ZIc Nt)
def qu:OM (ZDQ "_law_factor" "_law_right" "_law_up") Of dU:=PJ
def ax3 (T:Txt K mg t):FnOk P w K mg base CX0 4 t.pT t.pU ["_law_hand_here"] (upF (GG K P w t fx scr) Φ_l_frame):=by
 show Zm 3 T.uP.F qu (Aa (Qk (S5 qq XC) (BB (AU ae (SN ae ae ae bn bn bn) bn))) (OF 1 qu.nd (V4 (Bb (AU ae (SN ae ae (TC yc ae) cb bn bn) bn)) XC) (OF 2 qu.nd (AZ c8 (Po T 0 (TC cp (ZA ae (TC yc ae))) cb) (TC yc ae)) (ZEs 3 qu.nd (AZ c8 (Po T 0 (TC cp (ZA ae (TC yc ae))) cb) (TC yc ae)) (BB (NM 1 (NM 2 (Q8 3 ZLT cb))))))));intro a M q h0;let⟨hd,rfl,sc,g0,h⟩:=ZCE;show PC [A8,none,none,none];simp only[zz];show RQ g0 (Fb ?_);simp only[zz];show VW (A0 (A3 le4 (h _ _ _ _ _ g1 s1 (B0 (A3 AC AC) AC AC AC AC)))) ?_;show BH (bl3 5 AC AC) le4 (Bg (RQ (g1.same SD) (HJ ?_)));let⟨f,hf,ef⟩:=GP 1 7 1000 (10 ^ MC 5) a2 b2;simp only[zz,c7 (s2 _ _ ak (g1.fresh hp).1) ef];show BH (bl3 6 AC AC) (JX AC) (RQ g2 (λn3 M3 a3 b3 g3 s3=>?_));simp only[zz];show By (bl3 6 AC AC) (bl3 6 AC AC) (JX AC) (RQ g3 (HI ?_));simp only[zz];show A3 (bl3 6 AC AC) (RQ g4 (λn5 M5 a5 b5 g5 s5=>A3 le4 (h _ _ _ _ _ g5 ((s1.trans (SD).toB).trans (E1 (G0 (LP s5)))) (B0 ?_ ?_ ?_ Ab Ab))))
 .have:(10:Int) ^ MC 5=100000:=by decide
  lia
 .have:(10:Int) ^ MC 6=1000000:=by decide
  lia
 .have:(10:Int) ^ MC 6=1000000:=by decide
  lia
def Φ_l_framed:SpA:=c2 λa b M q=>pt b λp=>∃f a' b' c,a=.tup [.int f,.int a',.int b',.int c]/\Fr f a' b' c/\Sz 500 p/\0<p.z/\q (Pa (frP f a' b' c p)) M
def aa5 {f:Int}{M:MA}(F:Fr f a b c)(h:Sz 500 p)(h0:0<p.z)(k:q (Pa (frP f a b c p)) M):Φ_l_framed [.tup [.int f,.int a,.int b,.int c],Pa p] M q:=⟨f,a,b,c,rfl,F,h,h0,k⟩
def sk:OM ["_law_frame_here","_law_p","_law_a","_law_b"] ZIB cW:=PJ
def yy (T:Txt K mg t):FnOk P w K mg base CX0 3 t.qE t.qF ["_law_frame_here","_law_p"] (upF (GG K P w t fx scr) Φ_l_framed):=by
 show ZCu 2 T.uU.F sk (OF 2 sk.nd (SU cp 0 1 0 1) (ZEs 3 sk.nd (SU cp 0 1 0 1) (N0 T.uI ZCF 2 (Q8 3 (PL 1 0) cb))));intro a b M q h0;let⟨p,rfl,f,a,b,c,rfl,F,zp,p0,h⟩:=Sw;show PC [A8,A8,none,none];simp only[zz,↓qh];have s64:∀{i:Int},i.natAbs<=10 ^ 6->ZLk:=ZKg;have bf:ZI9 f:=s64 (by have:=F.f;grind);have ba:ZI9 a:=s64 F.a;have bb:ZI9 b:=s64 F.b;have bc:ZI9 c:=s64 (by have:=F.c;grind);show IZ (Oy bf zp.x) (Vf ba) (Oy bf zp.y) (Vf bb) (ZK8 bc) (Ci p0 (by have:=F.c;lia)) ((zp.z.mul bc).mono AC) h
def Φ_l_spot:SpA:=c3 λa b c M q=>rf a λhd=>rf b λsl=>nm c λw=>∃(sc:Addr) (ps:List Pt3) (k m:Nat),Hd M hd sc/\M sl=some (.lst (ps.map Pa))/\ps.length<=100/\(∀p∈ps,Dr k m p)/\k<=69/\m<=900/\9<=m/\0<w/\w<=9/\∀r M',Hd M' hd sc->SmB hd M M'->Dr (k+1) m r->q (Pa r) M'
theorem pb_has (hc:0<c):Is3 a b c (pbF a b c):=by
 have:=(av9 (a:=a) (b:=b) hc).1
 rwa [<-aw3 Ab this] at this
def mo:OM ["_law_hand_here","_law_seen","_law_wide","_law_way","_law_at","_law_c","_law_a"] ["_law_hand_here","_law_seen","_law_wide"] eU:=PJ
def be6 (T:Txt K mg t):FnOk P w K mg base CX0 4 t.pG t.pH ["_law_hand_here","_law_seen","_law_wide"] (upF (GG K P w t fx scr) Φ_l_spot):=by
 show Pl 3 T.uK.F mo ZEO (O6 3 mo.nd XC (Qk (Xr (Xw Np 3) (ZBr qq 1)) (NS 1 (Po T 0 (X4 1) ck))) (Aa (Pv (Xr (Xw Np 3) (ZBr qq 1)) (ZEs 4 mo.nd (Po T 0 (TC c8 (X4 1)) cb) (Y9 T.uJ (tj T) (PY (NS 1 Si) (NS 1 (ZBE 4)) bp bp)))) (O6 5 mo.nd ae (Pv (Xw Np 3) (ZHq 5 mo.nd ZLT)) (ZEs 6 mo.nd (Pb T 0 (Nl 2)) (N0 T.uI ZCF 6 (Ux (Pb T 0 (Nl 2)) 5 ck)))))) YI;intro a b c M q h0;let⟨hd,rfl,h1⟩:=ZCE;let⟨sl,rfl,h2⟩:=wc h1;let⟨w,rfl,sc,ps,kk,m,g0,e0,hl,hdr,hk,hm,hm9,w0,w9,h⟩:=nj h2;have nsl:=g0.pts e0;have bw:Bd 9000 w:=ZCG;have fin:∀(x c:Int) M1,0<=x->x<w->1<=c->c<=3->Hd M1 hd sc->SmB hd M M1->Φ_l_draw [.ref hd,.int w] M1 (λy M2=>Φ_l_point [.int x,y,.int c] M2 q):=λx c M1 x0 x1 c0 c1 g s=>
  drw g w0 bw λy M2 y0 y1 g2 s2=>⟨by lia,Bd.small Ab,h _ _ g2 (s.trans s2) ((Dr.fresh (kk+1) (Mf Ab) (A3 x0 Ab) (A3 y0 Ab) (A3 c0 c1)).mono As hm9)⟩
 have at1:∀{M1:MA} {q':L3.KA} {j:Int} {p:Pt3},M1 sl=ZKz->0<=j->ps[j.toNat]?=UL->q' VV M1->UF ZKA j M1 q':=λe j0 hp k=>by rw[c7 e (atI_map j0 hp)];show k
 show PC [A8,A8,A8,none,none,none,none];show ZLG (∃n:Int,s=[Pt,ZAM,NP w,Wr,none,none,none]/\SL M1/\ZDT M M1) Tq
 .simp only[zz];show RQ g0 (Fb (DU (Sf n g1 s1)))
 rintro _ M1 ⟨n,rfl,g1,s1⟩;have e1:=s1 _ _ e0 nsl;show ZG8 (E4 (M1=M')) Tq
 .simp only[zz,ju e1,List.length_map];show ZLZ (VW (BQ (drw g1 e ZCG (HW ?_))) V1) V1;obtain⟨p,hp⟩:∃p,ps[j.toNat]?=some p:=Xe;show at1 (s2 _ _ e1 nsl) j0 hp (h _ _ g2 VB ((hdr p ZFb).mono Ab As))
 rintro _ rfl;show ZG8 (E4 (M1=M')) Tq
 .simp only[zz,ju e1,List.length_map];show ZLZ (VW (BQ (drw g1 Ab ZCG (HW ?_))) V1) V1;obtain⟨p,hp⟩:∃p,ps[j.toNat]?=some p:=Xe;obtain⟨r,hr⟩:∃p,ps[(j+1).toNat]?=some p:=Xe;have e2:=s2 _ _ e1 nsl;have dp:=hdr p ZFb;have dr:=hdr r ZCO;show at1 e2 j0 hp (at1 e2 Ab hr (B0 ((dp.sz Ab Ab).mono AC) ((dr.sz Ab Ab).mono AC) dp.pos dr.pos (h _ _ g2 VB (dp.mid dr (Mf (Ci (Ci AC dp.pos) dr.pos))))))
 rintro _ rfl;simp only[zz];show ZLZ (RQ g1 (HW ?_)) (drw g1 w0 bw λx M2 x0 x1 g2 s2=>fin x 1 M2 x0 x1 AC AC g2 VB);simp only[zz];show drw g2 w0 bw λx M3 x0 x1 g3 s3=>fin x (1+j) M3 x0 x1 Ab Ab g3 ((VB).trans s3)
def Φ_l_ring:SpA:=c4 λa b c d M q=>rf a λhd=>rf b λsl=>nm c λw=>nm d λm=>∃(n:Nat) (sc:Addr) (ps:List Pt3),m=n/\Hd M hd sc/\M sl=some (.lst (ps.map Pa))/\sl≠sc/\(∀p∈ps,Dr ps.length (9+2*ps.length) p)/\ps.length+n<=60/\0<w/\w<=9/\∀rl M' (r:List Pt3),M rl=none->Hd M' hd sc->Sm2 hd sl M M'->M' rl=some (.lst (r.map Pa))->r.length=n->M' sl=some (.lst ((ps++r).map Pa))->(∀p∈ps++r,Dr (ps.length+n) (9+2*(ps.length+n)) p)->Nb n r->q (.ref rl) M'
def qj:OM ["_law_hand_here","_law_seen","_law_wide","_law_many","_law_ring_here","_law_k","_law_p"] (ZDQ "_law_seen" "_law_wide" "_law_many") eV:=PJ
def be7 (T:Txt K mg t):FnOk P w K mg base CX0 5 t.pI t.pJ ["_law_hand_here","_law_seen","_law_wide","_law_many"] (upF (GG K P w t fx scr) Φ_l_ring):=by
 show Pl 4 T.uL.F qj ZCD (Sq 4 qj.nd Rr (XD (Vr 3) 5 qj.nd (O6 6 qj.nd (N0 T.uK (be6 T) 0 (Pn 1 2)) (Ox (Xr (Xw qq 5) (CU (ZIR (P7 Np 6 (NS 4 (ST c8 5))) (Xr (P7 Np 5 (ST c8 3)) (P7 Np 6 (Nc 4)))))) (ZHq 6 qj.nd (Y9 T.uI ZCF (SN (OL cp 6 6) (Nc 6) (Nc 6) bp bp cb)))) (Aa (ZLI Si (Nl 6)) (ZKy Qe (Nl 6))))) Si) Wy;intro a b c d M q h0;let⟨hd,rfl,h1⟩:=ZCE;let⟨sl,rfl,h2⟩:=wc h1;let⟨w,rfl,h3⟩:=nj h2;let⟨_,rfl,n,sc,ps,rfl,g0,e0,nsc,hdr,hpn,w0,w9,h⟩:=nj h3;have nsl:=g0.pts e0;show PC [A8,A8,A8,A8,none,none,none];simp only[zz];show S7 (λrl hr0=>Qs Ab Ab);let⟨nrh,nrc⟩:=g0.fresh hr0;have nrs:sl≠rl:=db e0 hr0;show r9 n (Int.toNat_natCast n) (EZ (∃(r:List Pt3) (z1 z2:Option A),s'=[Pt,ZAM,NP w,Wr,NO rl,z1,z2]/\VC/\Sm2 hd sl M M'/\M' rl=NZ Sc/\r.length=j/\M' sl=NZ ((ps++r).map Pa)/\(∀p∈ps++r,Dr (ps.length+j) (9+2*(ps.length+j)) p)/\Nb n r)) ⟨[],none,none,rfl,g0.put (A3 nrh nrc),Sm2.refl.new hr0,ak,rfl,by rw[List.append_nil,cf nrs];show e0,(by rw[List.append_nil];show hdr),cc1 n⟩ ?_ ?_
 .rintro j _ M1 N hj ⟨r,z1,z2,rfl,g1,s1,er1,hrl,es1,hd1,nb⟩ hN;simp only[zz];show⟨sc,ps++r,ps.length+j,9+2*(ps.length+j),g1,es1,by rw[List.length_append];lia,hd1,Ab,Ab,Ab,w0,w9,λp M2 g2 s2 dp=>?_⟩;have er2:=s2 _ _ er1 nrh;have es2:=s2 _ _ es1 nsl;have gpos:∀i,0<(XZ i).z:=λi=>by
   by_cases h:i<r.length
   .show (hd1 _ (LU ((getD_mem h).1))).pos
   .rw[List.getD_eq_getElem?_getD,List.getElem?_eq_none Ab]
    decide
  show p9 (λm s' M'=>∃p,s'=[Pt,ZAM,NP w,Wr,NO rl,U0,Xc]/\M2=M'/\m<=2/\Dr (ps.length+j+1) (9+2*(ps.length+j)+2 - m) p/\rgt p (XZ (j - 1))+rgt p (XZ 0)<=m) (n:=2) (Dt p rfl rfl Ab (dp.mono As Ab) (by have:=bl0 p (XZ (j - 1));have:=bl0 p (XZ 0);lia)) ?_;rintro m _ _ N2 ⟨p,rfl,rfl,hm,dp,hmu⟩ hN2;have es3:put M2 rl (Bc (Sc++[VV])) sl=NZ ((ps++r).map Pa):=by rw[cf nrs];show es2
  have fin:(r≠[]->p≠XZ (r.length - 1)/\(r.length+1=n->p≠XZ 0))->(Sc).length<sizeLine/\((ps++r).map Pa).length<sizeLine/\N [Pt,ZAM,NP w,Wr,NO rl,U0,Xc] (Nu (Nu M2 rl (Sc++[VV])) sl ((ps++r).map Pa++[VV])):=λhne=>by
   show BH (uk (by rw[List.length_map];lia)) (uk (by rw[List.length_map,List.length_append];lia)) (DU (ZDs (r++[p]) _ rfl ((g2.put (A3 nrh nrc)).put (A3 nsl nsc)) ((((DA s2.one).new hr0).trans SmB.put.two)) ?_ (by rw[List.length_append,hrl];rfl) ?_ ?_ (nb_snoc nb hne)))
   .rw[cf (BX nrs),ak,List.map_append];rfl
   .rw[ak,<-List.append_assoc,List.map_append (l₁:=ps++r)];rfl
   .rw[<-List.append_assoc];intro q hq
    rcases List.mem_append.mp hq with hq | hq
    .show (hd1 q hq).mono Ab Ab
    .rw [List.mem_singleton] at hq
     subst hq;show dp.mono Ab Ab
  by_cases j0:j=0
  .have er:r=[]:=List.length_eq_zero_iff.mp (hrl.trans j0);simp only[zz,j6 er2,j6 es3,jy er2,jy es3,true_and];show VW (BQ (CN e Ab)) ?_;show fin (BT (CN er z))
  .have u1:atI Sc ((j:Int) - 1)=N8 (XZ (j - 1)):=Jk Ab (by rw[show ((j:Int) - 1).toNat=j - 1 by lia];show (ZJl).2);have u2:atI Sc 0=N8 (XZ 0):=L3.atI_map Ab (ZJl).2;simp only[zz,c7 er2 u1,c7 er2 u2,j6 er2,j6 es3,jy er2,jy es3,true_and];have again:p=r.getD (j - 1) pt0\/p=r.getD 0 pt0->Φ_l_point [.int (p.x+p.z),.int p.y,.int p.z] M2 λx M1=>N2 [some (.ref hd),some (.ref sl),some (.int w),some (.int n),some (.ref rl),some (.int j),some x] M1:=λhe=>by
    let⟨m1,m2⟩:=bk9 dp.pos (gpos _) (gpos _) (Mf dp.pos) hmu he;show BH dp.pos ((dp.sz Ab Ab).z.mono AC) (hN2 (m - 1) _ _ Ab (Dt _ rfl rfl Ab ((dp.step (Mf dp.pos)).mono As Ab) m2))
   show ifd (A0 (ZAk (again ZAv) (HV (ZAk (ife (C5 (again (CK e2))) (C5 (fin (A0 (A3 (by rw[hrl];show e1) (A0 e2)))))) (BQ (fin (A0 (A3 (by rw[hrl];show e1) (BT (absurd (show (j:Int)=n - 1 by lia) e)))))))))) (BQ (absurd (show 0<(j:Int) by lia) e))
 .rintro _ M1 ⟨r,z1,z2,rfl,g1,s1,er1,hrl,es1,hd1,nb⟩;simp only[zz];show h rl M1 r hr0 g1 s1 er1 hrl es1 hd1 nb
def Φ_turned:SpA:=c1 λa M q=>∃ns:List Int,a=.tup (ns.map .int)/\ns.length<=1000/\∀M',Sm M M'->q (.tup (ns.map λn=>.int (-n))) M'
def bc8:OM ZH5 ZH5 eQ:=PJ
def be3 (T:Txt K mg t):FnOk P w K mg base CX0 1 t.sK t.sN ["passes"] (upF (GG K P w t fx scr) Φ_turned):=by
 show Zm 0 T.turned.F bc8 (Nr (ZIt jj AB (cq ["number"] [] [] rfl U7 (ZLU ((["number"]:List Str).Nodup)) QE (Oz (ZHL PM)) RY rfl AD AD Caught.nil rfl Nn rfl) AC AC AB AB));intro a M q h0;let⟨ns,rfl,hl,h⟩:=h0;show PC [A8];simp only[zz];intro D hD;show wp 1 (λx=>match x with
  | .int n=>.int (-n)
  | x=>x) (by rw[List.length_map];show Nat.le_of_lt (uk hl)) (λy_=>trivial) ?_ ?_
 .rintro x hx vs o Y hv hY;let⟨n,_,rfl⟩:=TY;let⟨v,rfl⟩:=List.length_eq_one_iff.mp hv;have:=RO [Wr];simp only[List.map_nil,List.cons_append,List.nil_append] at this ⊢;simp only[zz];show this
 .rw[n6 ak,List.map_map];show h _ W2
def Φ_added:SpA:=c2 λa b M q=>∃ns ms:List Int,a=.tup (ns.map .int)/\b=.tup (ms.map .int)/\ns.length<=1000/\∀M',Sm M M'->q (.tup ((ns.zip ms).map λp=>.int (p.1+p.2))) M'
def bk4:OM Vt Vt fP:=PJ
def bo0 (T:Txt K mg t):FnOk P w K mg base CX0 1 t.sO t.sP ["one","other"] (upF (GG K P w t fx scr) Φ_added):=by
 show ZCu 0 T.added.F bk4 (Nr (ZIt jj AB (cq ["here","there"] [] [] rfl (b51 rfl T.vZ PyProof.Rows.Boot.«zip» (Pn 0 1)) (ZE7 2 0 ((["here","there"]:List Str).Nodup) 1 ((["here","there"]:List Str).Nodup) e8) QE (Oz (O2 cp 0 Qe)) RY rfl AD AD Caught.nil rfl Nn rfl) AC AC AB AB));intro a b M q h0;let⟨ns,ms,rfl,rfl,hl,h⟩:=h0;have ez:L3.zA (CQ .int) (ms.map .int)=(ns.zip ms).map (ZBa [BR p.1,BR p.2]):=by
  unfold L3.zA;rw[List.zipWith_map,List.zip,List.map_zipWith]
 show PC [A8,A8];simp only[zz,ez];intro D hD;show wp 2 (λx=>match x with
  | .tup [.int n,.int m]=>.int (n+m)
  | x=>x) (by rw[List.length_map,List.length_zip];show Nat.le_trans (Nat.min_le_left ..) (Nat.le_of_lt (uk hl))) (λy_=>trivial) ?_ ?_
 .rintro x hx vs o Y hv hY;let⟨⟨n,m⟩,_,rfl⟩:=TY;obtain⟨v,w',rfl⟩:∃v w',vs=[v,w']:=by
   match vs,hv with
   | [v,w'],_=>show⟨v,w',rfl⟩
  have:=RO [Wr,RV];simp only[List.map_nil,List.cons_append,List.nil_append] at this ⊢;simp only[zz];show OI this
 .rw[n6 ak,List.map_map];show h _ W2
def Φ_merged (t:Adr):SpA:=c3 λa b c M q=>∃(l m:Addr) (ps qs:List Pt3),a=.ref l/\b=.ref m/\c=.ref t.qM/\Rl M l ps/\Rl M m qs/\(∀p∈ps,Sz 4000 p)/\(∀p∈qs,Sz 4000 p)/\ps.length<=20000/\qs.length<=20000/\∀r M',M r=none->Sm M M'->Rl M' r (mrg ps qs)->q (.ref r) M'
def qi:OM ["one","other","goes_first","row","at","thing"] ["one","other","goes_first"] eR:=PJ
def be4 (T:Txt K mg t):FnOk P w K mg base CX0 2 t.rB t.rC ["one","other","goes_first"] (upF (GG K P w t fx scr) (Φ_merged t)):=by
 show Pl 1 T.merged.F qi ZEO (OF 3 qi.nd Rr (O6 4 qi.nd ae (XD (Bf Qe) 5 qi.nd (Aa (Ox (Xr (P7 og 4 (X4 0)) (Sn (bv2 YJ ZD0 RR T.is_ahead.F.kp T.is_ahead.b (Ux (NS 0 Si) 5 bp)))) (Aa (ZLI Qy (ZA8 (NS 0 Si))) (ZHq 4 qi.nd (ZBE 4)))) (ZKy Qy (Nl 5)))) (Vn (SZ (ZAq yd Qy (ZA8 (HU PM (Ea Si) jc)) AB AB AB AB AB)) Qy))) YI;intro a b c M q h0;let⟨l,m,ps,qs,rfl,rfl,rfl,hl,hm,zp,zq,np,nq,k⟩:=h0;have sz:20000+20000<sizeLine:=by decide
 show PC [A8,A8,A8,none,none,none];simp only[zz];show S7 ZKa;rw[fi (Bz hr hm)];show ZC4 (∃(j:Nat) (acc:List Pt3) (z:Option A),s'=[RU,NO m,ZF6,NO r,U0,z]/\Td/\Rl M' r acc/\j<=ps.length/\acc.length=i+j/\acc++mrg ZG9 (qs.drop i)=mrg ps qs) (IV 0 [] _ rfl ZFj ak Bh rfl rfl)
 .rintro i s' M' ⟨j,acc,z,rfl,s1,_⟩;show GC hm
 .rintro i x s' M' N hx ⟨j,acc,z,rfl,s1,hr1,hj,ha,hq⟩ hN;let⟨y,hy,rfl⟩:=SX;have hi:i<qs.length:=(ZCR).1;rw[al6 hy] at hq;simp only[zz];show p9 (MB (∃(j:Nat) (acc:List Pt3),n=ps.length - j/\s'=[RU,NO m,ZF6,NO r,U0,N8 y]/\Td/\Rl M' r acc/\j<=ps.length/\acc.length=i+j/\acc++mrg ZG9 (y::qs.drop (i+1))=mrg ps qs)) (IV j acc rfl rfl s1 hr1 hj ha hq) ?_;rintro _ _ M2 N2 ⟨j,acc,rfl,rfl,s1,hr1,hj,ha,hq⟩ hN2;have hl2:=ZFx;simp only[zz,ju hl2,List.length_map];have stop:(∀a,(ZG9).head?=RS->ahd a y=false)->(acc.length<sizeLine/\N [RU,NO m,ZF6,NO r,U0,N8 y] (Nu M2 r (acc.map Pa++[Pa y]))):=λhs=>by
   rw[bo5 hs] at hq;show XR (DU (IV j (acc++[y]) _ rfl (s1.upd hr) (by unfold Rl;rw[ak,List.map_append];rfl) hj (by simp;lia) (by rw[<-hq];simp)))
  show ZDa
  .have hlt:j<ps.length:=by simp_all
   obtain⟨p,hp⟩:∃p,ps[j]?=some p:=QP _ hlt;simp only[zz,c7 hl2 (cy hp)];show WC trivial (zp p ZFb) (zq y V5);simp only[zz,c7 hl2 (cy hp),jy hr1,true_and,j6 hr1,List.length_map];show ifb Ot Ot
   .rw[al6 hp,cc2 e] at hq;show XR (hN2 _ _ _ (by grind) (IV (j+1) (acc++[p]) rfl Aq (s1.upd hr) (by unfold Rl;rw[ak,List.map_append];rfl) hlt (by simp;lia) (by rw[<-hq];simp)))
   .show stop λa h=>by rw[al6 hp] at h;cases h;show e
  .simp only[zz,jy hr1,true_and,j6 hr1,List.length_map];show stop λa h=>by rw[List.drop_eq_nil_of_le Aw] at h;cases h
 .rintro s' M' ⟨j,acc,z,rfl,s1,hr1,hj,ha,hq⟩;have hl2:=ZFx;rw[List.length_map] at ha hq;rw[List.drop_length] at hq;simp only[zz,jy hr1,true_and,hl2];intro b hb;rw[bs9 (Bz hb hr1) (n6 ak),as7 (by rw[List.length_map];show hj)];show A3 (by simp;lia) (k r _ hr ((DA (Bl hb)).upd hr) ?_);unfold Rl;rw[ak,<-hq];simp[mrg]
def Φ_ordered (t:Adr):SpA:=c2 λa b M q=>∃(l:Addr) (ps:List Pt3),a=.ref l/\b=.ref t.qM/\Rl M l ps/\(∀p∈ps,Lp p)/\ps.Nodup/\(∀p∈ps,Sz 4000 p)/\ps.length<=20000/\∀r M',M r=none->Sm M M'->Rl M' r (aP ps)->q (.ref r) M'
def kG (M:MA)(ps:NT)(M':MA)(D:Addr)(as:PD)(rws:QK):Prop:=
 Sm M M'/\M' D=some (Bc Qv)/\Paired (λp r=>Rl M' p r/\M p=none) as rws/\Rows rws/\(∀p,(∃r∈rws,p∈r)↔p∈ps)/\tot rws=ps.length/\rws.length<=20000
def qr:OM ["things","goes_first","rows","halves"] ["things","goes_first"] dJ:=PJ
def aw9 (T:Txt K mg t):FnOk P w K mg base CX0 3 t.rD t.rE ["things","goes_first"] (upF (GG K P w t fx scr) (Φ_ordered t)):=by
 show ZCu 2 T.ordered.F qr (Aa (DI 2 qr.nd rfl rfl (by show (cq ["thing"] [] [] rfl (dj PM) (Oz (Ug 0 (Pr ((["thing"]:List Str).Nodup)) NL Nt)) QE (Oz (dl (ZIS PM ag))) RY rfl AD AD Caught.nil rfl Nn rfl)) AB) (Vn (Ox (ZBr qq 2) (Aa (DI 3 qr.nd rfl rfl (by show (cq Vt [("goes_first",s.heap.objs.size+1,1)] [1] rfl (am3 rfl T.vZ PyProof.Rows.Boot.«zip» (aa (ai9 RR (jh ae) jc (jh ae)) (aa (ai9 RR (jh ae) jc (jh ae)) ag bp) bp)) (Oz (fw (n:=2) rfl (bt (Ug 0 (Pr ((["one","other","goes_first"]:List Str).Nodup)) NL Nt) (bt (Ug 1 (Pr ((["one","other","goes_first"]:List Str).Nodup)) NL Nt) e8)))) QE (Oz (bi T.merged (be4 T) hr AC (ZIS PM (ZIS Qe (ZIS RR ag))))) rfl rfl AD AD UW rfl Nn rfl)) AB) (Aa (Pv (ZE0 (TC k7 (X4 2))) (ZKy Qy (ZA8 (NS 2 ZHM)))) (ZHq 2 qr.nd Qy)))) (CJ (Sn RR) Xa Rr)));intro a b M q h0;let⟨l,ps,rfl,rfl,hl,lps,nd,sz,np,k⟩:=h0;have sL:20000+20000<sizeLine:=by decide
 show PC [A8,A8,none,none];simp only[zz,fi hl];intro D hD;show a80 1 (λM1 x y=>∃p q,x=VV/\y=A5 q/\q≠D/\M q=none/\Rl M1 q [p]) ?_ (by rw[List.length_map];lia) (Gh (Ei hD s hl)) ?_ ?_
 .rintro M1 M2 x y s ⟨p,q,e1,e2,n,f,h⟩;show Cu p q e1 e2 n f (h.but s n)
 .rintro i x hx vs M' ys Y hv s hD' hY;let⟨p,hp,rfl⟩:=SX;let⟨v,rfl⟩:=V2;simp only[zz];show A3 le1 ZKa;let⟨f,n⟩:=ZBT hD s hr hD';show hY [Xc] _ _ rfl ZFj (OD p r rfl n f ak)
 intro ys M1 s1 hD1 pr0;let⟨as,rfl,pr⟩:=ak1 (F:=λq p=>q≠D/\M q=none/\Rl M1 q [p]) (Ac ke) pr0;have start:kG M ps M1 D as (FH (B5 [p])):=by
  show Cu (EB hD s1) hD1 ?_ (yq lps nd) (B5 ?_) (aa7 ps) (by rw[List.length_map];omega)
  .show jm (by rw[List.length_map];show cu pr) ZKd;let⟨z,hz,_,f,h⟩:=cn pr hp;show By [z] (by rw[List.getElem?_map,hz];rfl) h f
  .constructor
   .rintro⟨r,hr,hp⟩;let⟨q,hq,rfl⟩:=BL hr;rw[List.mem_singleton.mp hp];show hq
   .intro hp;show BH [p] (E2 (Oo p hp)) Aq
 show p9 (MB (∃(D:Addr) (as:List Addr) (rws:List (List Pt3)) (z:Option A),n=rws.length/\s'=[RU,ZF6,UR,z]/\kG M ps M' D as rws)) (Cu D as _ none rfl rfl start) ?_;rintro _ _ M2 N ⟨D,as,rws,z,rfl,rfl,⟨s2,hD2,pr,hrows,hmem,htot,hlen⟩⟩ hN;have hal:as.length=rws.length:=ZJc;have hsz:∀r∈rws,∀p∈r,VQ p:=λr hr p hp=>sz p ((hmem p).mp (BH r hr hp));simp only[zz,ju hD2,List.length_map];show ZDa
 .have h1:1<rws.length:=by lia
  have e0:ev ((Qv).drop (0:Int).toNat)=(ev as).map A.ref:=by rw[show (0:Int).toNat=0 from rfl,List.drop_zero,az0]
  have e1:ev ((Qv).drop (1:Int).toNat)=(ev Z1).map A.ref:=by rw[show (1:Int).toNat=1 from rfl,<-List.map_drop,az0]
  show WC (CD trivial) _ hD2;rw[e0];intro d1 hd1;show WC (CK trivial) _ (Bz hd1 hD2);rw[e1];intro d2 hd2;show B0 _ _ (by rw[cf (db ak hd2)];show ak) ak YK;have s12:ZB9 (Nu (Nu M2 d1 ((ev as).map A.ref)) d2 ((ev Z1).map A.ref)):=(ZEf).trans (Bl hd2);rw[ck4];show a80 2 (λM1 x y=>∃p q,x=rr p/\y=A5 q/\(q≠D3/\M2 q=none/\∃ra rb,Rl M2 p.1 ra/\Rl M2 p.2 rb/\Rl M1 q (mrg ra rb))) ?_ ?_ (Gh ?_) ?_ ?_
  .rintro M1 M2 x y s ⟨p,q,e1,e2,n,f,ra,rb,h1,h2,h⟩;show⟨p,q,e1,e2,n,f,ra,rb,h1,h2,h.but s n⟩
  .have:=az1 as;rw[List.length_map,List.length_zip];grind
  .have:=EB hD3 s;show A3 (this _ _ (by rw[cf (db ak hd2)];show ak)) (this _ _ ak)
  .rintro i x hx vs M' ys Y hv s hD' hY;let⟨⟨a,b⟩,hp,rfl⟩:=SX;let⟨ha,hb⟩:=vb hp;let⟨ra,ea,la,_⟩:=cn (qk pr) ha;let⟨rb,eb,lb,_⟩:=cn (qk (we pr)) hb;have ma:ra∈rws:=ay9 (Ad ea);have mb:rb∈rws:=Mp (ay9 (Ad eb));have ta:=aa8 ma;have tb:=aa8 mb;have s':=s12.trans (EB hD3 s);let⟨v,w',rfl⟩:=ZAl;unfold rr;simp only[zz];show⟨rfl,a,b,ra,rb,rfl,rfl,rfl,la.same s',lb.same s',hsz ra ma,hsz rb mb,Ab,Ab,λr M'' hr s'' lr=>?_⟩;let⟨f,n⟩:=ZBT hD3 s hr hD';show hY [ZKq,NO b] _ _ rfl s'' ⟨(a,b),r,rfl,rfl,n,s12.free f,ra,rb,la,lb,lr⟩
  intro ys M3 s3 hD3' pr0;let⟨hs,rfl,pr3⟩:=ak1 (F:=λq p=>q≠D3/\M2 q=none/\∃ra rb,Rl M2 p.1 ra/\Rl M2 p.2 rb/\Rl M3 q (mrg ra rb)) b91 pr0;have s23:ZE8:=s12.trans (EB hD3 s3);have hD23:=s23 _ _ hD2;have nD3:M2 D3=none:=s12.free hD3;have hml:hs.length=rws.length / 2:=by
   rw[cu pr3,List.length_zip];have e1:=ur as;have e2:=ur Z1;rw[List.length_drop] at e2;grind
  have hpm:=u5 rws;have htot3:=ag2 rws;have hmem3:∀p,(∃r∈aL rws,p∈r)↔p∈ps:=B5 ((vk rws p).trans (hmem p));have hrows3:=yr hrows;have hlt3:=ab8 h1;have hnew:∀i p,hs[i]?=UL->∃r,(aL rws)[i]?=V6/\Rl M3 p r/\M p=none/\p≠D3:=λi p hp=>by
   let⟨⟨a,b⟩,hz,n,f,ra,rb,h1,h2,h3⟩:=cn pr3 hp;let⟨ha,hb⟩:=vb hz;let⟨ra',ea,la,_⟩:=cn (qk pr) ha;let⟨rb',eb,lb,_⟩:=cn (qk (we pr)) hb;have:=h1.one la;subst this;have:=h2.one lb;subst this;show B0 (mrg ra rb) (by rw[vn,ea,eb]) h3 (s2.free f) n
  simp only[zz,ju hD23,List.length_map];show A3 AC (ife Ot Ot)
  .have hodd:rws.length % 2=1:=by
    rw[hal,Int.fmod_eq_emod_of_nonneg _ AC] at e;lia
   obtain⟨pl,hpl⟩:∃pl,as[rws.length - 1]?=some pl:=QP _ (by grind);let⟨rl,erl,lrl,frl⟩:=cn pr hpl;have hat:atI Qv (-1)=Af (Ej pl):=by
    unfold atI ixN;rw[if_neg AC,if_pos (by rw[List.length_map];grind)];change (Qv)[(-1+((Qv).length:Int)).toNat]?=_;rw[List.length_map,show (-1+(as.length:Int)).toNat=rws.length - 1 by grind,List.getElem?_map,hpl];rfl
   simp only[zz,jy hD3',true_and,c7 hD23 hat,j6 hD3',List.length_map];show XR (Mo hlt3 ⟨D3,hs++[pl],aL rws,_,rfl,rfl,(E1 s23).upd (s2.free nD3),by rw[ak];simp,?_,hrows3,hmem3,Ab,by grind⟩);show jm (by rw[List.length_append];simp;lia) ZKd;by_cases hi:i<hs.length
   .rw[List.getElem?_append_left hi] at hp;let⟨r,e,h,f,n⟩:=hnew i p hp;show By r e (h.but SmB.put n) f
   .rw[List.getElem?_append_right Aw] at hp;have e0:i - hs.length=0:=by
     rcases Nat.eq_zero_or_pos (i - hs.length) with e|e
     .show e
     .rw[List.getElem?_eq_none (by simp;lia)] at hp;cases hp
    rw[e0] at hp;have ep:pl=p:=by simpa using hp
    subst ep;show By rl ?_ ((lrl.same s23).but SmB.put (db lrl nD3)) frl;have ei:i=rws.length / 2:=by grind
    rw[vn,ei,a98 rws hodd,erl];have en:(ev (rws.drop 1))[rws.length / 2]?=none:=List.getElem?_eq_none (by rw[ur,List.length_drop];grind);rw[en]
  .have heven:rws.length % 2=0:=by
    rw[hal,Int.fmod_eq_emod_of_nonneg _ AC] at e;lia
   show Mo hlt3 ⟨D3,hs,aL rws,_,rfl,rfl,s2.trans s23,hD3',jm Ab λi p hp=>let ⟨r,e,h,f,_⟩:=hnew i p hp;⟨r,e,h,f⟩,hrows3,hmem3,by lia,by lia⟩
 .have h1:rws.length<=1:=by lia
  have he:=bk6 lps hrows hmem h1;cases pr with
  | nil=>
   simp only[hD2,List.map_nil,List.isEmpty_nil,Bool.not_true,Bool.false_eq_true,if_false];show S7 (Bg (k p _ (s2.free hp) (E1 SD) (by rw[<-he];show ak)))
  | @cons a r as rws r1 t1=>
   simp only[hD2,List.map_cons,List.isEmpty_cons,Bool.not_false,if_true];rw[c7 hD2 (L3.atI_map (f:=A.ref) (k:=0) AC rfl)];show k a _ r1.2 s2 (by rw[<-he];show r1.1)
def Φ_in_order (t:Adr):SpA:=c1 λa M q=>∃(l:Addr) (ps:List Pt3),a=.ref l/\Rl M l ps/\(∀p∈ps,Lp p)/\(∀p∈ps,Sz 4000 p)/\ps.length<=20000/\∀r M',M r=none->Sm M M'->Rl M' r (aP ps)->q (.ref r) M'
def ao2:OM Ur Ur dA:=PJ
def yz (T:Txt K mg t):FnOk P w K mg base CX0 4 t.rF t.rG ["points"] (upF (GG K P w t fx scr) (Φ_in_order t)):=by
 show Zm 3 T.in_order.F ao2 (Nr (Y9 T.ordered (aw9 T) (PY (Tf (@bv6 _ _ rfl) AB T.vS (Nj (BP (ZCH rfl AB AB) AB T.vN L2.boot_dict (Wu (cq ["p"] [] [] rfl U7 (ZLU ((["p"]:List Str).Nodup)) QE (Oz (BB (Q8 0 ln bn))) RY rfl AD AD Caught.nil rfl Nn rfl)) AC AC AB AB) ck) AC AC AB AB) (@cj8 _ _ _ _ _ T.is_ahead.m AB AC) ac ck)));intro a M q h0;let⟨l,ps,rfl,hl,lps,sz,np,k⟩:=h0;have sL:20000+20000<sizeLine:=by decide
 show PC [A8];simp only[zz,fi hl];intro D hD;show wp 1 (Bi (ZLf TN)) (by rw[List.length_map];lia) (ZBY hD hl) ?_ ?_
 .rintro x hx vs o Y hv hY;let⟨p,hp,rfl⟩:=TY;let⟨v,rfl⟩:=V2;simp only[zz];show ZB (RO [Xc])
 rw[az4];have e0:(Yh).map (Bi (G1 [x,TN]))=(FH (B5 ((Pa p,A.bl true)))).map (ZBa [p.1,p.2]):=by rw[List.map_map,List.map_map];rfl
 show Cu 0 _ AC (by rw[ak,e0]) (by rw[List.length_map];lia) SY ZJm
 .let⟨p,_,rfl⟩:=List.mem_map.mp hp;rfl
 let⟨qs,e1,nq,mq,lq⟩:=b42 TN ps;rw[e1,b38];show B0 _ _ _ ak ZKa;have e2:(qs.map (B5 ((Pa p,A.bl true)))).map (BT z.1)=ZG2:=by rw[List.map_map];rfl
 rw[e2];have s:ZJb (Nu (put (ZBg D ((Yh).map (Bi (G1 [x,TN])))) d (Fm 1 o (qs.map (B5 ((Pa p,A.bl true)))))) r ZG2):=((W2).trans (Bl hd)).trans ZFj;show⟨r,qs,rfl,rfl,ak,Bg (lps p ((mq p).mp hp)),nq,Bg (sz p ((mq p).mp hp)),Ab,λr' M' hr' s' lr=>k r' M' (s.free hr') (s.trans s') ?_⟩;rw[<-bb9 lps mq];show lr
def Φ_ranks_of (t:Adr):SpA:=c1 λa M q=>∃(l:Addr) (ps:List Pt3),a=.ref l/\Rl M l ps/\(∀p∈ps,Lp p)/\(∀p∈ps,Sz 4000 p)/\ps.length<=20000/\∀d o M',M d=none->Sm M M'->M' d=some (.dct 1 o (rkA (aP ps)))->q (.ref d) M'
def ao0:OM Ur Ur cP:=PJ
def yx (T:Txt K mg t):FnOk P w K mg base CX0 5 t.rH t.rJ ["points"] (upF (GG K P w t fx scr) (Φ_ranks_of t)):=by
 show Zm 4 T.ranks_of.F ao0 (Nr (BP (ZCH rfl AB AB) AB T.vN L2.boot_dict (Wu (cq ["rank","p"] [] [] rfl (Uu rfl T.vO (Nj (WO T.in_order (yz T) 0) ck) AB) (ZE7 2 0 ((["rank","p"]:List Str).Nodup) 1 ((["rank","p"]:List Str).Nodup) e8) QE (Oz (Wj 1 0)) RY rfl AD AD Caught.nil rfl Nn rfl)) AC AC AB AB));intro a M q h0;let⟨l,ps,rfl,hl,lps,sz,np,k⟩:=h0;have sL:20000+20000<sizeLine:=by decide
 let⟨hs,hm⟩:=ie lps;have hlen:=ag4 ps;show PC [A8];simp only[zz];show IZ l ps rfl hl lps sz np (λr M1 hr s1 lr=>U6 lr (MK ?_));have ee:eA ((ZB4).map Pa)=(ZB4).zipIdx.map (Bi (G1 [BR x.2,Pa x.1])):=by
  unfold eA;rw[List.zipIdx_map,List.map_map];rfl
 rw[ee];show wp 2 (λx=>match x with
  | .tup [a,b]=>.tup [b,a]
  | x=>x) (by rw[List.length_map,List.length_zipIdx];lia) (λy_=>Sm.new hD _ _ lr) ?_ ?_
 .rintro x hx vs o Y hv hY;let⟨⟨p,i⟩,hp,rfl⟩:=TY;let⟨v,w',rfl⟩:=ZAl;simp only[zz];show BH rfl le2 (RO [Wq,Xc])
 rw[az4];have e0:((aP ps).zipIdx.map λx=>A.tup [.int x.2,Pa x.1]).map (λx=>match x with
  | .tup [a,b]=>.tup [b,a]
  | x=>x)=(rkA (aP ps)).map λp=>A.tup [p.1,p.2]:=by unfold rkA;rw[List.map_map,List.map_map];rfl
 show Cu 0 _ AC (by rw[ak,e0]) (by unfold rkA;rw[List.length_map,List.length_zipIdx];omega) SY ZJm
 .let⟨p,_,rfl⟩:=List.mem_map.mp hp;rfl
 rw[ae0 (bk7 hs)];show k d _ _ (s1.free ((W2).free hd)) ((DA W2).trans (Bl hd)) ak
def Φ_spans_of (t:Adr):SpA:=c1 λa M q=>∃(l:Addr) (xs:List (Pt3×Pt3)),a=.ref l/\M l=some (.lst (xs.map sdA))/\(∀x∈xs,(Lp x.1/\Lp x.2)/\Sz 4000 x.1/\Sz 4000 x.2)/\xs.length<=100/\∀d M' sp,M d=none->Sm M M'->M' d=some (.lst (sp.map ipA))->Spans xs sp->q (.ref d) M'
def yo:OM ["sides","ranks"] ["sides"] cO:=PJ
def yw (T:Txt K mg t):FnOk P w K mg base CX0 6 t.rK t.rL ["sides"] (upF (GG K P w t fx scr) (Φ_spans_of t)):=by
 show Zm 5 T.spans_of.F yo (OB 1 yo.nd Qq (Y9 T.ranks_of (yx T) (Nj (Xo (BG (cq ["p","q"] [] [] rfl U7 (ZE7 2 0 ((["p","q"]:List Str).Nodup) 1 ((["p","q"]:List Str).Nodup) e8) QE ZF7 RY rfl AD AD Caught.nil rfl Nn rfl)) (BG (cq ["p","q"] [] [] rfl U7 (ZE7 2 0 ((["p","q"]:List Str).Nodup) 1 ((["p","q"]:List Str).Nodup) e8) QE (Oz Qe) RY rfl AD AD Caught.nil rfl Nn rfl))) cb)) (Nr (BG (cq ["p","q"] [("ranks",s.heap.objs.size+1,1)] [1] rfl U7 (ZE7 2 0 ((["p","q","ranks"]:List Str).Nodup) 1 ((["p","q","ranks"]:List Str).Nodup) e8) QE (Oz (BB (PY (Av (@bv5 _ _ rfl) AB T.vU PyProof.Rows.boot_min (PY (NS 2 PM) (NS 2 Qe) bp bp) AC AC AB AB) (Av (@ck1 _ _ rfl) AB T.vT PyProof.Rows.boot_max (PY (NS 2 PM) (NS 2 Qe) bp bp) AC AC AB AB) ck ck))) rfl rfl AD AD UW rfl Nn rfl))));intro a M q h0;let⟨l,xs,rfl,hl,hx,hn,k⟩:=h0;have sL:20000+20000<sizeLine:=by decide
 show PC [A8,none];simp only[zz,fi hl];intro D1 hD1;show ZCK 2 (ZBZ x.1) (by omega) hD1 hl
 .rintro⟨p,z⟩ hp vs o Y hv hY;let⟨v,w',rfl⟩:=ZAl;unfold sdA;simp only[zz];show OI (RO [Xc,Xb])
 have hl1:=Dd (Bc (ZIl x.1)) hD1 hl;simp only[zz,fi hl1];intro D2 hD2;show ZCK 2 (ZBZ x.2) (by omega) hD2 hl1
 .rintro⟨p,z⟩ hp vs o Y hv hY;let⟨v,w',rfl⟩:=ZAl;unfold sdA;simp only[zz];show OI (RO [Xc,Xb])
 rw[az6];simp only[Sm.new (o:=Bc (ZIl x.2)) hD2 _ _ (C2 M D1 (Bc (ZIl x.1))),ak];have s2:ZJb (Nu (ZBg D1 (ZIl x.1)) D2 (ZIl x.2)):=(Bl hD1).trans (Bl hD2);show A3 (by simp;lia) YK;have eE:(ZIl x.1)++(ZIl x.2)=(TU).map Pa:=by unfold aK;rw[List.map_append,List.map_map,List.map_map];rfl
 rw[eE];have hps:∀p∈aK xs,∃x∈xs,p=x.1\/p=x.2:=λp hp=>by
  rcases List.mem_append.mp hp with h|h <;> let⟨x,hx,rfl⟩:=List.mem_map.mp h
  .show BH x hx OP
  .show BH x hx Nt
 have lps:∀p∈aK xs,Pc:=λp hp=>by
  obtain⟨x,h,e|e⟩:=hps p hp <;> rw[e]
  .show (hx x h).1.1
  .show (hx x h).1.2
 let⟨hs,hm⟩:=ie lps;show IZ D3 TU rfl ak lps SY (by unfold aK;simp;lia) (λd o M1 hd s1 hd1=>?_)
 .obtain⟨x,h,e|e⟩:=hps p hp <;> rw[e]
  .show (hx x h).2.1
  .show (hx x h).2.2
 have s3:=(E1 ZAu).trans s1;simp only[zz,fi (s3 _ _ hl)];intro D4 hD4;show ZCK 2 (Bi (ipA (min (bW YB x.1) (bW YB x.2),max (bW YB x.1) (bW YB x.2)))) (by omega) hD4 (s3 _ _ hl)
 .rintro⟨p,z⟩ hp vs o' Y hv hY;let⟨v,w',rfl⟩:=ZAl;have hd4:=Dd o' hD4 hd1;have g1:=aj8 hs ((hm p).mpr (tv hp).1);have g2:=aj8 hs ((hm z).mpr (tv hp).2);have:=RO [Xc,Xb];unfold sdA;simp only[zz,ab2 hd4 (wr _) g1,ab2 hd4 (wr _) g2];rw[cc3,cc7];show BH rfl le2 this
 show k D4 _ (Rm ((min (bW YB x.1) (bW YB x.2),max (bW YB x.1) (bW YB x.2)))) (s3.free hD4) (G0 (Bl hD4)) (by rw[ak,List.map_map];rfl) (By (by rw[List.length_map]) (bW YB) (λp q hp hq h=>bx9 hs ((hm p).mpr hp) ((hm q).mpr hq) h) (λi x s h1 h2=>?_));rw[List.getElem?_map,h1] at h2;show (BW h2).symm
def Φ_near_pairs (t:Adr):SpA:=c1 λa M q=>∃(l:Addr) (xs:List Stk),a=.ref l/\M l=some (.lst (xs.map stA))/\(∀x∈xs,OkS 200 x.1)/\xs.length<=48/\∀d M' prs,M d=none->Sm M M'->M' d=some (.lst (prs.map ipA))->lC (xs.map (·.1)) prs->q (.ref d) M'
def fg:OM ["strokes","spans","heights","row","pairs","at","one","place","other"] Tn bS:=PJ
def af2 (T:Txt K mg t)(hB:BM base mg)(hfx:∀a∈tabs t,fx a.1=none):FnOk P w K mg base CX0 7 t.rO t.rP ["strokes"] (upF (GG K P w t fx scr) (Φ_near_pairs t)):=by
 show afL (k:=6) T.near_pairs.F T.wA fg (A4 Ti) (L9 ((OB 1 fg.nd Qq (Y9 T.spans_of (yw T) (Wu (cq ["p","q","passes"] [] [] rfl U7 (ZE7 3 0 ((["p","q","passes"]:List Str).Nodup) 1 ((["p","q","passes"]:List Str).Nodup) (Ua 2 ((["p","q","passes"]:List Str).Nodup) e8)) QE (Oz (Wj 0 1)) RY rfl AD AD Caught.nil rfl Nn rfl))) (OF 2 fg.nd (Y9 T.spans_of (yw T) (Wu (cq ["p","q","passes"] [] [] rfl U7 (ZE7 3 0 ((["p","q","passes"]:List Str).Nodup) 1 ((["p","q","passes"]:List Str).Nodup) (Ua 2 ((["p","q","passes"]:List Str).Nodup) e8)) QE (Oz (BB (PY (WO T.flipped (ac5 T) 0) (WO T.flipped (ac5 T) 1) ck ck))) RY rfl AD AD Caught.nil rfl Nn rfl))) (OF 3 fg.nd (at9 (k:=0) (c:=t.uA) (x:="number") (cK t) [("spans",s.heap.objs.size+1,1)] [1] ZD0 AB T.vX (Nj (BP ck0 AB T.vV PyProof.Rows.boot_range (Nj (X4 0) ck) AC AC AB AB) ck) rfl List.mem_cons_self (an0 T _ List.mem_cons_self) rfl rfl rfl T.wB hB rfl QV rfl rfl rfl rfl AD (ZDc Q5) rfl (ED ((V3 (ar (F4 (FV (FV (LO ((show 3<=_ by decide)))))).units) (NR (ar (F4 (FV (FV (LO ((show 3<=_ by decide)))))).units) 1 PM) ae))) (hfx _ List.mem_cons_self) AB AB rfl) (Sq 4 fg.nd Rr (Su (Uu rfl T.vO (Nl 3) AB) (ZBt 2 5 fg.nd 6 fg.nd e8) (OF 7 fg.nd (ZBE 5) (Am (Ox (Xr (P7 og 7 (X4 3)) (Ov ba7 (ZBH (NS 1 (Vp 3 7))) (ZBH (Vp 1 6)))) (O6 8 fg.nd (Vp 3 7) (Pv (Xr (Ov ba7 (ZBH (Vp 2 8)) (ZBH (Vp 2 6))) (Ov ba7 (ZBH (Vp 2 6)) (ZBH (Vp 2 8)))) (ZKy Si (Nj (Wj 6 8) jx))) (ZHq 7 fg.nd (ZBE 7))))))) Si)))))) RB;intro a M q h0;let⟨l,xs,rfl,hl,ok,hn,k⟩:=h0;have sL:20000+20000<sizeLine:=by decide
 show PC [A8,none,none,none,none,none,none,none,none];simp only[zz,fi hl];intro D1 hD1;show ZCK 3 (Bi (sdA x.1)) Ab hD1 hl
 .rintro⟨⟨p,z⟩,ws⟩ hp vs o Y hv hY;let⟨v,w',u',rfl⟩:=b19 hv;unfold stA;simp only[zz];show BH rfl le2 (RO [Xc,Xb,ZIW (ws.map A.int)])
 have e1:(Rm (sdA x.1))=(Ch ((·.1))).map sdA:=by rw[List.map_map];rfl
 rw[e1];have okS:∀x∈xs.map (·.1),YE x:=λx hx=>by let⟨y,hy,rfl⟩:=List.mem_map.mp hx;show ok y hy
 show OD D1 (Ch ((·.1))) ak VA (by rw[List.length_map];lia) (λd1 M1 sp hd1 s1 h1 sp1=>?_)
 .have:=okS x hx;show BH (A3 this.a this.b) (this.za.mono AC) (this.zb.mono AC)
 have s01:ZLn:=(Bl hD1).trans s1;simp only[zz,fi ZER];intro D2 hD2;show ZCK 3 (Bi (sdA (flS x.1))) Ab hD2 ZER
 .rintro⟨⟨p,z⟩,ws⟩ hp vs o Y hv hY;let⟨v,w',u',rfl⟩:=b19 hv;unfold stA;simp only[zz,↓bb4];show BH rfl le2 (RO [Xc,Xb,ZIW (ws.map A.int)])
 have e2:(Rm (sdA (flS x.1)))=((Ch ((·.1))).map flS).map sdA:=by rw[List.map_map,List.map_map];rfl
 rw[e2];show OD D2 ((Ch ((·.1))).map flS) ak VA (by rw[List.length_map,List.length_map];lia) (λd2 M2 hp hd2 s2 h2 hp2=>?_)
 .let⟨y,hy,rfl⟩:=TY;have:=okS y hy;show BH (A3 (l5 this.a) (l5 this.b)) ((bs7 this.za).mono AC) ((bs7 this.zb).mono AC)
 have s12:Sm M1 M2:=(Bl hD2).trans s2;have s02:=s01.trans s12;have l1:=sp1.1;have l2:=hp2.1;simp only[List.length_map] at l1 l2;have h12:=s12 _ _ h1;have gs:∀{i:Nat},i<xs.length->∃s,sp[i]?=ZJw:=CG Xe;have gh:∀{i:Nat},i<xs.length->∃s,hp[i]?=ZJw:=CG Xe;simp only[zz,↓bt4,ju (s02 _ _ hl),List.length_map];show⟨by simp,λr hr=>⟨rgA 0 xs.length,by simp only[gD,ak,Int.toNat_natCast],by rw[ak0];lia,true,λy=>match y with
  | .int i=>[(sp.getD i.toNat (0,0)).1]
  | _=>[0],λM'=>Sm M2 M',Sm.new hr,λy hy=>?_,?_⟩⟩
 .rw[j8] at hy;let⟨i,hi,rfl⟩:=BL hy;let⟨s,es⟩:=gs (Dv hi);show BH (A0 R7) nofun (λM' sM=>?_);have:=c7 (q:=DB (L3.rSub x ZCa M1 λk M1'=>ZB9 M1'/\k=iK true [(sp.getD i (0,0)).1])) (sM _ _ h12) (cy es);unfold ipA at this;simp only[Int.toNat_natCast];rw[this];show Pk sM;rw[List.getD_eq_getElem?_getD,es];rfl
 intro M3 zs D3 s3 hD3 perm sorted;have sorted:=sorted (OI (by rw[ak0];lia));rw[j8] at perm;let⟨rw',ez,perm'⟩:=ah0 perm.symm rfl;subst ez;have hlen:rw'.length=xs.length:=by rw[perm'.length_eq,List.length_range]
 have rlt:∀{a i:Nat},rw'[a]?=ZCP->i<xs.length:=CG (Dv (perm'.mem_iff.mp (Ad h)));have nd:rw'.Nodup:=perm'.nodup_iff.mpr List.nodup_range;have up:∀(a b i j:Nat) s u,a<=b->rw'[a]?=ZCP->rw'[b]?=ZCQ->sp[i]?=ZJw->sp[j]?=O8->s.1<=u.1:=by
  intro a b i j s u hab ha hb hs hu;rcases Nat.lt_or_eq_of_le hab with h|h
  .have la:=Ag ha;have lb:=Ag hb;have:=FG sorted a b (by rw[List.length_map];show la.1) (by rw[List.length_map];show lb.1) h;rw[List.getElem_map,List.getElem_map,la.2,lb.2] at this;have:=lex1 this;simpa [List.getD_eq_getElem?_getD,hs,hu] using this
  .subst h;rw[ha] at hb;cases hb;rw[hs] at hu;cases hu;show Int.le_refl _
 show S7 (λd hd=>Qs _ (Bz hd ak));rw[ci3];have hdM:M d=none:=s02.free (s3.free ((ZAu).free hd));have s04:ZJb (Nu M3 D3 (rw'.map λi:Nat=>Er i)):=(s02.trans s3).trans ZAu;have s24:ZB9 (Nu M3 D3 (rw'.map λi:Nat=>Er i)):=G0 ZAu;show loop (λi s' M'=>∃(prs:List (Int×Int)) (z1 z2 z3 z4:Option A),s'=[some (.ref l),some (.ref d1),some (.ref d2),some (.ref D3),some (.ref d),z1,z2,z3,z4]/\Sm (put M3 D3 (.lst (rw'.map λi:Nat=>A.int i))) M'/\M' d=some (.lst (prs.map ipA))/\
  prs.length<=i*xs.length/\(∀c∈prs,∃i j:Nat,c=((i:Int),(j:Int))/\i<xs.length/\j<xs.length/\i≠j)/\∀(a b i' j':Nat),a<i->a<b->rw'[a]?=some i'->rw'[b]?=some j'->gO sp hp i' j'->((i':Int),(j':Int))∈prs) ⟨[],_,_,_,_,rfl,Sm.new hd,ak,by simp,ip,λa b i' j' h=>by simp_all⟩ ?_ ?_ ?_
 .rintro i s' M' ⟨prs,z1,z2,z3,z4,rfl,s5,_⟩;show s5 _ _ ak
 .rintro i x s' M' N hx ⟨prs,z1,z2,z3,z4,rfl,s5,hd5,plen,pv,pg⟩ hN;let⟨⟨one,i'⟩,hz,rfl⟩:=SX;have ho:rw'[i]?=Af one:=(af8 hz).1;have hi':i'=i:=(af8 hz).2;subst hi';have hol:=rlt ho;have hil:=(Ag ho).1;let⟨so,eso⟩:=gs hol;let⟨ho',eho⟩:=gh hol;simp only[zz];have fin1:(i'+1)*xs.length=i'*xs.length+xs.length:=by rw[Nat.add_mul,Nat.one_mul]
  show⟨rfl,p9 (λn s' M'=>∃(prs:List (Int×Int)) (pl:Nat) (z4:Option A),n=xs.length - pl/\s'=[some (.ref l),some (.ref d1),some (.ref d2),some (.ref D3),some (.ref d),some (.int i'),some (.int one),some (.int pl),z4]/\Sm (put M3 D3 (.lst (rw'.map λi:Nat=>A.int i))) M'/\M' d=some (.lst (prs.map ipA))/\i'<pl/\
   prs.length<=i'*xs.length+(pl - i' - 1)/\pl<=xs.length/\(∀c∈prs,∃i j:Nat,c=((i:Int),(j:Int))/\i<xs.length/\j<xs.length/\i≠j)/\(∀(a b i j':Nat),a<i'->a<b->rw'[a]?=some i->rw'[b]?=some j'->gO sp hp i j'->((i:Int),(j':Int))∈prs)/\∀(b j':Nat),i'<b->b<pl->rw'[b]?=some j'->gO sp hp one j'->((one:Int),(j':Int))∈prs) ⟨prs,i'+1,_,rfl,rfl,s5,hd5,by simp,by lia,by lia,pv,pg,λb j' h1 h2=>by lia⟩ ?_⟩
  rintro _ _ M5 N2 ⟨prs,pl,z4,rfl,rfl,s5,hd5,hpl,pn,pm,pv,pg,pc⟩ hN2;have hD5:=s5 _ _ ak;have h15:=s5 _ _ (s24 _ _ h12);have h25:=s5 _ _ (s24 _ _ h2);have stop:(∀b j',pl<=b->rw'[b]?=some j'->¬gO sp hp one j')->N [some (.ref l),some (.ref d1),some (.ref d2),some (.ref D3),some (.ref d),some (.int i'),some (.int one),some (.int pl),z4] M5:=λhs=>hN _ _ ⟨prs,_,_,_,_,rfl,s5,hd5,by lia,pv,λa b i j' ha hb e1 e2 g=>by
    rcases Nat.lt_or_eq_of_le (Nat.le_of_lt_succ ha) with h|h
    .show pg a b i j' h hb e1 e2 g
    .subst h;rw[ho] at e1;cases e1;rcases Nat.lt_or_ge b pl with h|h
     .show pc b j' hb h e2 g
     .show absurd g (hs b j' h e2)⟩
  simp only[zz,ju hD5,List.length_map];show ZDa
  .have hlt:pl<rw'.length:=by lia
   obtain⟨ot,eo⟩:∃ot,rw'[pl]?=some ot:=QP _ hlt;have hot:=rlt eo;let⟨st,est⟩:=gs hot;let⟨ht,eht⟩:=gh hot;simp only[zz,c7 hD5 (cy eo)];rw[c7 h15 (cy est)];unfold ipA;simp only[zz];rw[c7 h15 (cy eso)];unfold ipA;simp only[zz,c7 hD5 (cy eo)];show ifd (HV ?_) (HV ?_)
   .have nx:∀(prs':List (Int×Int)) M6,Sm (put M3 D3 (.lst (rw'.map λi:Nat=>A.int i))) M6->M6 d=some (.lst (prs'.map ipA))->prs'.length<=prs.length+1->(∀c∈prs,c∈prs')->(∀c∈prs',c∈prs\/c=((one:Int),(ot:Int)))->(gO sp hp one ot->((one:Int),(ot:Int))∈prs')->N2 [some (.ref l),some (.ref d1),some (.ref d2),some (.ref D3),some (.ref d),some (.int i'),some (.int one),some (.int (pl+1)),some (.int ot)] M6:=λprs' M6 s6 hd6 hl6 hs hc hg=>hN2 _ _ _ (by lia) ⟨prs',pl+1,some (.int ot),rfl,by simp,s6,hd6,by lia,by lia,by lia,λc h=>by
      rcases hc c h with h|h
      .show pv c h
      .show Dt one ot h hol hot Ot;subst e;have:=(Eu hil nd).mp (ho.trans eo.symm);lia,λa b i j' h1 h2 h3 h4 g=>hs _ (pg a b i j' h1 h2 h3 h4 g),λb j' h1 h2 h3 g=>by
      rcases Nat.lt_or_eq_of_le (Nat.le_of_lt_succ h2) with h|h
      .show hs _ (pc b j' h1 h h3 g)
      .subst h;rw[eo] at h3;cases h3;show hg g⟩
    rw[c7 h25 (cy eht)];unfold ipA;simp only[zz];rw[c7 h25 (cy eho)];unfold ipA;simp only[zz];have no:¬(ht.1<=ho'.2/\ho'.1<=ht.2)->N2 [some (.ref l),some (.ref d1),some (.ref d2),some (.ref D3),some (.ref d),some (.int i'),some (.int one),some (.int (pl+1)),some (.int ot)] M5:=λh=>nx prs M5 s5 hd5 (by lia) (λc h=>h) (λc h=>.inl h) λ⟨s,t,a,b,e1,e2,e3,e4,_,g1,g2⟩=>absurd (by
     rw[eho] at e3;cases e3;rw[eht] at e4;cases e4;show⟨g1,g2⟩) h
    show ifd RE (C5 (no (CG (e2 h.1))));rw[c7 h25 (cy eho)];unfold ipA;simp only[zz];rw[c7 h25 (cy eht)];unfold ipA;simp only[zz];show ifd (Iz ?_) (Iz (no (CG (e3 h.2))));simp only[zz,jy hd5,true_and,j6 hd5,List.length_map];show⟨le2,by have:i'*xs.length<=48*48:=Nat.mul_le_mul (by lia) (by lia);lia,nx (prs++[((one:Int),(ot:Int))]) _ (s5.upd hd) (by rw[ak,List.map_append];rfl) (by simp) (λc h=>List.mem_append_left _ h) (λc h=>by
     rcases List.mem_append.mp h with h | h
     .show Vc
     .show .inr (List.mem_singleton.mp h)) λy_=>List.mem_append_right _ (List.mem_singleton.mpr rfl)⟩
   .show stop λb j' hb e2 ⟨s,t,a,b',g1,g2,g3,g4,g5,_⟩=>?_;rw[eso] at g1;cases g1;have:=up pl b ot j' st t hb eo e2 est g2;lia
  .show stop λb j' hb e2=>by have:=(Ag e2).1;lia
 .rintro s' M' ⟨prs,z1,z2,z3,z4,rfl,s5,hd5,plen,pv,pg⟩;simp only[zz];simp only[List.length_map,List.length_zipIdx] at plen pg;show k d M' prs hdM (s04.trans s5) hd5 (b16 okS sp1 hp2 (row:=rw') (by rw[List.length_map];show perm') (by rw[List.length_map];rw[hlen] at plen;show plen) (by rw[List.length_map];show pv) λa b i j h1 h2 h3 g=>pg a b i j (Ag h2).1 h1 h2 h3 g)
def Φ_marks_of (t:Adr):SpA:=c1 λa M q=>∃(l:Addr) (xs:List Stk),a=.ref l/\M l=some (.lst (xs.map stA))/\(∀x∈xs,OkS 200 x.1)/\xs.length<=48/\∀d M' ms rows,M d=none->Sm M M'->M' d=some (.lst (ms.map A.ref))->Paired (Rl M') ms rows->Marks (xs.map (·.1)) rows->(∀r∈rows,∀q∈r,Lp q/\Sz 1000 q)->tot rows<=9500->q (.ref d) M'
def lg:OM ["strokes","marks","one","other","shared"] Tn cR:=PJ
def ap1 (T:Txt K mg t)(hB:BM base mg)(hfx:∀a∈tabs t,fx a.1=none):FnOk P w K mg base CX0 8 t.sG t.sH ["strokes"] (upF (GG K P w t fx scr) (Φ_marks_of t)):=by
 show Zm 7 T.marks_of.F lg (Aa (DI 1 lg.nd rfl rfl (by show (cq ["stroke"] [] [] rfl (dj PM) (Oz (Ug 0 (Pr ((["stroke"]:List Str).Nodup)) NL Nt)) QE (Oz (dl (aa (au NI PM ae NJ) (aa (au NI PM ae NJ) ag bp) bp))) RY rfl AD AD Caught.nil rfl Nn rfl)) AB) (Vn (Su (Bf (WO T.near_pairs (af2 T hB hfx) 0)) (ZBt 2 2 lg.nd 3 lg.nd e8) (O6 4 lg.nd (Y9 T.meet (b09 T) (AU (ZBH (NS 0 RR)) (SN (ZBH (NS 0 RR)) (ZBH (NS 0 Qy)) (ZBH (NS 0 Qy)) bp bp bp) bp)) (SZ (ZAq yd (NS 1 RR) (Nl 4) AB AB AB AB AB)) (TD (ZAq yd (NS 1 Qy) (Nl 4) AB AB AB AB AB)))) Qe));intro a M q h0;let⟨l,xs,rfl,hl,ok,hn,k⟩:=h0;have sL:20000+20000<sizeLine:=by decide
 show PC [A8,none,none,none,none];simp only[zz,fi hl];intro D hD;show cc9 1 (λM1 x q=>Rl M1 q [x.1.1,x.1.2]) (λM1 M2 x y s n h=>h.but s n) (λM1 x y h=>Xq h) Ab (Gh (Ei hD s hl)) ?_ hD ?_
 .rintro i x hx vs M' ys Y hv s hD' hY;let⟨v,rfl⟩:=V2;unfold stA;simp only[zz];show ZB (Gn (hY [ZJ1] r _ rfl ZFj hr ak))
 intro ms M1 s1 hD1 nd hms pr;have s01:=EB hD s1;have okS:∀x∈xs.map (·.1),YE x:=λx hx=>by let⟨y,hy,rfl⟩:=List.mem_map.mp hx;show ok y hy
 show OD l xs ZER ok hn (λd M2 prs hd s2 hd2 near=>?_);have s02:=s01.trans s2;simp only[zz,fi hd2];have hml:ms.length=xs.length:=ZJc;have msD:∀a∈ms,∃u,M1 a=Af (O.lst u):=λa ha=>by
  let⟨i,hi⟩:=A9 ha;let⟨x,_,hx⟩:=cn pr hi;show Xq hx
 have dms:d∉ms:=λh=>by let⟨u,hu⟩:=msD d h;rw[hu] at hd;cases hd
 show ZC4 (∃(rows:List (List Pt3)) (z1 z2 z3:Option A),s'=[RU,UR,z1,z2,z3]/\SmF (·∈ms) M2 M'/\CB (Rl M') ms rows/\MarksN (Ch ((·.1))) (prs.take i) rows/\(∀r∈rows,∀q∈r,QA/\ZLC)/\ZJG<=2*xs.length+4*i/\i<=prs.length) (ZDs (Rm [x.1.1,x.1.2]) _ _ rfl Du ?_ ?_ ?_ ?_ Bh)
 .show jm (by rw[List.length_map];show hml) ZJn;let⟨x,hx,h⟩:=cn pr ha;show U6 (by rw[List.getElem?_map,hx];rfl) (h.same s2)
 .have:=MarksN.start (Ch ((·.1)));rw[List.map_map] at this;show this
 .rintro r hr q hq;let⟨x,hx,rfl⟩:=BL hr;have o:=ok x hx;simp only[List.mem_cons,List.not_mem_nil,or_false] at hq;rcases hq with rfl|rfl
  .show A3 o.a (o.za.mono AC)
  .show A3 o.b (o.zb.mono AC)
 .have:∀l:List Stk,tot (J2 (Bi [x.1.1,x.1.2]))=2*l.length:=by
   intro l
   induction l with
   | nil=>rfl
   | cons x l ih=>rw[List.map_cons,tot,ih,List.length_cons];simp;lia
  rw[this];simp
 .rintro i s' M' ⟨rows,z1,z2,z3,rfl,s3,_⟩;show Ib hd2 dms
 .rintro i x s' M' N hx ⟨rows,z1,z2,z3,rfl,s3,pr3,mk,good,ht,_⟩ hN;let⟨c,hc,rfl⟩:=SX;let⟨a,b,rfl,la,lb,nab⟩:=near.2.1 c (Ad hc);rw[List.length_map] at la lb;obtain⟨x,hx'⟩:∃x,xs[a]?=some x:=QP _ la;obtain⟨y,hy'⟩:∃y,xs[b]?=some y:=QP _ lb;have hrl:rows.length=xs.length:=by rw[<-hml];show (cu pr3).symm
  obtain⟨ma,hma⟩:∃m,ms[a]?=some m:=Xe;obtain⟨mb,hmb⟩:∃m,ms[b]?=some m:=Xe;let⟨ra,hra,lra⟩:=cn pr3 hma;have hl3:Vz=WN:=(s3.old s02 (Fc ((hms a ha).1))) _ _ hl;have hD3:VT=NZ (ms.map A.ref):=s3 _ _ (Gg hD1) (CG ((hms D h).2 rfl));have ox:=SM x hx';have oy:=SM y hy';have told:=uo ox.a ox.b oy.a oy.b ox.ab oy.ab;have msz:=bo8 ox.za ox.zb oy.za oy.zb oy.a oy.b oy.ab;have rlen:∀{r:List Pt3},r∈rows->r.length<=96+4*prs.length:=λh=>by
   have:=aa8 h;have:=(Ag hc).1;lia
  have pl:=near.1;rw[List.length_map] at pl;have pl2:xs.length*xs.length<=48*48:=Fp hn hn;unfold ipA;simp only[zz];show OI ?_;have sx:∀{q':L3.KA},ZEl On (.int (a:Int)) M'=q' QR M':=c7 hl3 (cy hx');have sy:∀{q':L3.KA},ZEl On (.int (b:Int)) M'=q' (stA y) M':=c7 hl3 (cy hy');have t0:∀{x:Stk} {q':L3.KA},ZEl QR ZCa M'=ZEQ x.1.1 M':=rfl;have t1:∀{x:Stk} {q':L3.KA},ZEl QR ZEc M'=ZEQ x.1.2 M':=rfl;simp only[zz,sx,sy,t0,t1,↓b82,c7 hD3 (cy hma)];show Cu ZT ZU (oy.za.mono AC) (oy.zb.mono AC) oy.a.pos oy.b.pos ?_;simp only[zz,c7 hD3 (cy hma),jy lra,true_and,bs9 lra az3];show Pk (by rw[List.length_map,List.length_map];have:=rlen (Ad hra);have:=told.1;lia);have pr4:=ab9 (r':=ra++aI x.1.1 x.1.2 y.1.1 y.1.2) pr3 nd hma;rw[List.map_append] at pr4;let⟨rb,hrb,lrb⟩:=cn pr4 hmb;have dD:D≠ma:=BQ ((hms ma (Ad hma)).2 e.symm);have hD4:(Nu M' ma (ra.map Pa++(aI x.1.1 x.1.2 y.1.1 y.1.2).map Pa)) D=NZ (ms.map A.ref):=by rw[cf dD];show hD3
  simp only[zz,c7 hD4 (cy hmb),jy lrb,true_and,bs9 lrb az3];have nab':a≠b:=nab;have hrb':rows[b]?=Af rb:=by rw[List.getElem?_set_ne nab'] at hrb;show hrb
  show Pk (by rw[List.length_map,List.length_map];have:=rlen (Ad hrb');have:=told.1;lia);have pr5:=ab9 (r':=rb++aI x.1.1 x.1.2 y.1.1 y.1.2) pr4 nd hmb;rw[List.map_append] at pr5;have ha':(Ch ((·.1)))[a]?=Af x.1:=by rw[List.getElem?_map,hx'];rfl
  have hb':(Ch ((·.1)))[b]?=Af y.1:=by rw[List.getElem?_map,hy'];rfl
  show DU (ZDs _ _ _ rfl ((s3.put (Ad hma)).put (Ad hmb)) pr5 ?_ ?_ ?_ ((Ag hc).1))
  .rw[List.take_add_one,hc];show mk.step nab' ha' hb' hra hrb
  .intro r hr q hq;have g2:∀q∈aI x.1.1 x.1.2 y.1.1 y.1.2,QA/\ZLC:=Dw (A3 ((told.2.1 q hq).1) ((msz q hq).mono AC));rcases List.mem_or_eq_of_mem_set hr with h|h
   .rcases List.mem_or_eq_of_mem_set h with h|h
    .show good r h q hq
    .subst h;rcases List.mem_append.mp hq with h|h
     .show good ra (Ad hra) q h
     .show g2 q h
   .subst h;rcases List.mem_append.mp hq with h|h
    .show good rb (Ad hrb') q h
    .show g2 q h
  .rw[aj2 hrb,aj2 hra];have:=told.1;lia
 .rintro s' M' ⟨rows,z1,z2,z3,rfl,s3,pr3,mk,good,ht,_⟩;rw[List.length_map] at mk ht;rw[List.take_length] at mk;have pl:=near.1;rw[List.length_map] at pl;have pl2:xs.length*xs.length<=48*48:=Fp hn hn;simp only[zz];show k D M' ms rows hD (s3.old s02 (Fc ((hms a ha).1))) (s3 _ _ (Gg hD1) (CG ((hms D h).2 rfl))) pr3 (mk.done okS near) good Ab
def Φ_cut_at (t:Adr):SpA:=c3 λa b c M q=>∃(p r:Pt3) (l:Addr) (ps:List Pt3),a=Pa p/\b=Pa r/\c=.ref l/\Rl M l ps/\(∀z∈ps,Lp z/\Sz 4000 z)/\Sz 4000 p/\Sz 4000 r/\ps.length<=20000/\∀d M',M d=none->Sm M M'->Rl M' d (aW p r ps)->q (.ref d) M'
def ag7:OM ["p","q","points","row"] ["p","q","points"] fB:=PJ
def bf0 (T:Txt K mg t):FnOk P w K mg base CX0 5 t.sI t.sJ ["p","q","points"] (upF (GG K P w t fx scr) (Φ_cut_at t)):=by
 show Pl 4 T.cut_at.F ag7 ZEO (ZEs 3 ag7.nd (Y9 T.in_order (yz T) (Wu (cq ["z"] [("q",s.heap.objs.size+2,1),("p",s.heap.objs.size+1,0)] [1,0] rfl (Bf RR) (ZLU ((["z","q","p"]:List Str).Nodup)) (ZBi (Sn (N0 T.lies_on (ac2 T) 0 (Pn 2 1)))) ZF7 rfl rfl AD AD (Cc Q5 UW) rfl Nn rfl))) (CJ (Sn (Qj YJ 0 1)) Qy (@cj7 _ _ _ _ _ _ _ _ rfl AB T.vS AB T.vW Qy AB AB AB AB))) YI;intro a b c M q h0;let⟨p,r,l,ps,rfl,rfl,rfl,hl,hps,zp,zr,np,k⟩:=h0;have sL:20000+20000<sizeLine:=by decide
 show PC [A8,A8,A8,none];simp only[zz,fi hl];intro D hD;show xu 1 (Od z p r) Pa Ab (Gh (Ei hD s hl)) ?_ ?_
 .rintro z hz vs M' ys N Y hv s hD' hN hY;let⟨v,rfl⟩:=V2;simp only[zz,↓ag0];show By ((hps z hz).2) zp zr (ifb (BQ (ZFX e [Xb] DL)) (BQ (ZFY e [Xb] DL)))
 intro M1 s1 hD1;have hf:∀z∈ps.filter λz=>onB z p r,z∈ps:=Cv ((BS hz).1);have hfl:=List.length_filter_le (Od z p r) ps;show IZ D (HY (Od z p r)) rfl hD1 (Cv ((hps z (hf z hz)).1)) (Cv ((hps z (hf z hz)).2)) Ab (λd M2 hd s2 hd2=>?_);have s02:=(EB hD s1).trans s2;simp only[zz,↓kw];show ZCZ zp zr Ot Ot
 .show k d M2 ((EB hD s1).free hd) s02 (by unfold aW;rw[if_pos e];show hd2)
 .show U6 hd2 (IJ (k d3 _ (s02.free hd3) (s02.trans ZKH) ?_));unfold aW Rl;rw[e,ak];simp
def Φ_add_bit:SpA:=c4 λa b c d M q=>∃(S:Addr) (o:Obj) (es:List Bit) (p r:Pt3) (ws:List Int),a=.ref S/\b=Pa p/\c=Pa r/\d=ipT ws/\M S=some (.dct 2 o (es.map bX))/\p≠r/\Sz 4000 p/\Sz 4000 r/\ws.length<=100/\(∀e∈es,e.2.length<=100)/\es.length<100000/\∀o' M',SmB S M M'->M' S=some (.dct 2 o' ((fI es (aY p r) (aO p r ws)).map bX))->q .non M'
def vj:OM ["sums","u","v","passes","ends","along"] ["sums","u","v","passes"] eG:=PJ
def ax7 (T:Txt K mg t):FnOk P w K mg base CX0 2 t.sQ t.sR ["sums","u","v","passes"] (upF (GG K P w t fx scr) Φ_add_bit):=by
 show Pl 1 T.add_bit.F vj ZCD (OF 4 vj.nd (CJ (Sn (Qj YJ 1 2)) (Wj 1 2) (Wj 2 1)) (OF 5 vj.nd (CJ (P7 Np 4 (Wj 1 2)) Qy (WO T.turned (be3 T) 3)) (Am (ZH0 (CJ (Aj (b73 hr.units) Si PM rfl) (Y9 T.added (bo0 T) (Ux (NS 0 Si) 5 bp)) ZG5) Si)))) Wy;intro a b c d M q h0;let⟨S,o,es,p,r,ws,rfl,rfl,rfl,rfl,hS,n,zp,zr,hw,hes,hel,k⟩:=h0;have sL:100000<=sizeLine:=by decide
 have sd:∀u v:Pt3,G1 [Pa u,Pa v]=sdA (u,v):=NJ;show PC [A8,A8,A8,A8,none,none];show ZLG (s=[US,Xc,N8 r,O5 ws,Af (sdA (aY p r)),none]/\M=M1) Tq
 .simp only[zz,↓kw];show ZCZ zp zr (BQ (ZB (DU (Pe ?_)))) (BQ (ZB (DU (Pe ?_))))
  .unfold aY;rw[if_pos e];rfl
  .unfold aY;rw[e];rfl
 rintro _ _ ⟨rfl,rfl⟩;show ZLG (s=[US,Xc,N8 r,O5 ws,Af (sdA (aY p r)),O5 (ZBR p r)]/\ZLn) Tq
 .simp only[zz,sd,↓cq1];show ZB (ZAk (DU (ZHE DL)) (BQ (Sf ws Ab (λM1 s1=>DU (ZHE s1)))))
  .unfold aY at e;unfold aO;by_cases h:ahd p r=true
   .rw[if_pos h]
   .rw[if_neg h] at e;show CN (IN Prod.snd e) n
  .unfold aY at e;unfold aO;by_cases h:ahd p r=true
   .rw[if_pos h] at e;show ZHI e
   .rw[if_neg h];unfold ipT ngL;rw[List.map_map];rfl
 rintro _ M1 ⟨rfl,s1⟩;have hS1:=GC hS;have kk:aQ 2 (sdA (aY p r)):=br2 _;have al:(ZBR p r).length<=100:=by rw[along_len];show hw
 have eu:fI es (aY p r) (aO p r ws)=dI es (aY p r) (match atB es (aY p r) with | some ns=>gB ns (aO p r ws) | none=>aO p r ws):=rfl;simp only[zz,cf4 hS1 kk,cm6,Option.isSome_map];cases ea:atB es (aY p r) with
 | none=>
  rw[ea] at eu;simp only[Option.isSome_none,Bool.bne_false,Bool.false_eq_true,if_false];rw[an7 hS1,b59];show BH kk (by rw[List.length_map];lia) (λo'=>k o' _ (s1.toB.trans SmB.put) ?_);rw[ak,eu]
 | some ns=>
  rw[ea] at eu;simp only[Option.isSome_some,Bool.bne_false,if_true];have hns:ns.length<=100:=hes _ (ba5 ea);simp only[zz,ab2 hS1 kk (by rw[cm6,ea];rfl)];show Re ns (ZBR p r) rfl Ab (λM2 s2=>?_);have hS2:=Gg hS1;have ez:A.tup ((ns.zip (ZBR p r)).map (B5 (Er (p.1+p.2))))=ipT (gB ns (ZBR p r)):=by
   unfold ipT gB;rw[List.map_zipWith,List.zip,List.map_zipWith]
  rw[ez];simp only[zz];rw[an7 hS2,b59];show BH kk (by rw[List.length_map];lia) (λo'=>k o' _ ((VB).toB.trans SmB.put) ?_);rw[ak,eu]
def Φ_bits_of (t:Adr):SpA:=c1 λa M q=>∃(l:Addr) (xs:List Stk) (m:Nat),a=.ref l/\M l=some (.lst (xs.map stA))/\(∀x∈xs,OkS 200 x.1)/\xs.length<=48/\(∀x∈xs,x.2.length=m)/\m<=100/\∀d o M' rows,M d=none->Sm M M'->M' d=some (.dct 2 o ((aJ xs rows).map bX))->Marks (xs.map (·.1)) rows->(∀r∈rows,∀q∈r,Lp q/\Sz 1000 q)->(aJ xs rows).length<=9500->q (.ref d) M'
def kc:OM ["strokes","sums","stroke","marks","row","u","v"] Tn eD:=PJ
def ax6 (T:Txt K mg t)(hB:BM base mg)(hfx:∀a∈tabs t,fx a.1=none):FnOk P w K mg base CX0 9 t.sS t.sT ["strokes"] (upF (GG K P w t fx scr) (Φ_bits_of t)):=by
 show Zm 8 T.bits_of.F kc (Sq 1 kc.nd ae7 (ZCL rfl ((am3 rfl T.vZ PyProof.Rows.Boot.«zip» (Q8 0 (WO T.marks_of (ap1 T hB hfx) 0) ck))) (ZBt 2 2 kc.nd 3 kc.nd e8) (OF 4 kc.nd (Y9 T.cut_at (bf0 T) (AU Xa (Ux Xa 3 bp) bp)) (Am (ZCL rfl ((am3 rfl T.vZ PyProof.Rows.Boot.«zip» (Q8 4 (HU Si ZKV jc) bp))) (ZBt 2 5 kc.nd 6 kc.nd e8) (TD (ZBh T.add_bit (ax7 T) 1 5 (Q8 6 Xa bp))) AF))) AF) (BP (ZCH rfl AB AB) AB T.vN L2.boot_dict (Wu (cq ["ends","passes"] [] [] rfl (ZFZ Qe AB) (ZE7 2 0 ((["ends","passes"]:List Str).Nodup) 1 ((["ends","passes"]:List Str).Nodup) e8) (ZBi (Sn (Av (@ck2 _ _ rfl) AB T.vL PyProof.Rows.boot_any (Wu (cq ["number"] [] [] rfl (Bf Qe) (ZLU ((["number"]:List Str).Nodup)) QE (Oz (CZ Oq PM ae CO)) RY rfl AD AD Caught.nil rfl Nn rfl)) AC AC AB AB))) (Oz (Wj 0 1)) RY rfl AD AD Caught.nil rfl Nn rfl)) AC AC AB AB));intro a M q h0;let⟨l,xs,m,rfl,hl,ok,hn,hw,hm,k⟩:=h0;have sL:100000<sizeLine:=by decide
 show PC [A8,none,none,none,none,none,none];simp only[zz];show BH 2 AC (λS o0 hS=>?_);have s1:ZJb (Vl S (ZDS 2 o0)):=Bl hS;show OD l xs ZFx ok hn (λd M2 ms rows hd s2 hd2 pr mk good ht=>?_);have s02:=VB;have hS2:=Gg ak;show ZIa _ _ ZES hd2;have hml:ms.length=xs.length:=by rw[cu pr,mk.len,List.length_map]
 have hrl:rows.length=xs.length:=by rw[mk.len,List.length_map]
 rw[bi5];show ZC4 (∃(o:Obj) (z1 z2 z3 z4 z5:Option A),s'=[RU,US,z1,z2,z3,z4,z5]/\QG S M2/\M' S=Af (Fm 2 o ((aN ((RJ).take i)).map bX))/\(aN ((RJ).take i)).length<=tot (MD i)/\∀e∈aN ((xs.zip rows).take i),e.2.length=m) (ZDs o0 _ _ _ _ rfl EW (by simpa [aN] using hS2) (by simp[aN]) (by simp[aN]))
 .rintro i s' M' ⟨o,z1,z2,z3,z4,z5,rfl,s3,_⟩;have nS:∀{b:Addr} {u:List A},M2 b=NZ u->b≠S:=λh e=>by rw[e,hS2] at h;cases h
  show A3 (Ib ZES (nS ZES)) (Ib hd2 (nS hd2))
 .rintro i x s' M' N hx ⟨o,z1,z2,z3,z4,z5,rfl,s3,hS3,hel,hem⟩ hN;let⟨⟨x,a⟩,hz,rfl⟩:=SX;let⟨hx',ha⟩:=vb hz;let⟨r,hr,lr⟩:=cn pr ha;have aS:a≠S:=λe=>by rw[e] at lr;unfold Rl at lr;rw[hS2] at lr;cases lr
  have lr3:=lr.but s3 aS;have hzr:(RJ)[i]?=FU ((x,r)):=JY (A3 hx' hr);have ox:=SM x hx';have gr:=good r ZCO;have trl:=aa8 ZCO;have hwx:=hw x (Ad hx');have st:QR=ZGf x.1.1 x.1.2 x.2:=rfl;simp only[zz,st];show⟨rfl,x.1.1,x.1.2,a,r,rfl,rfl,rfl,lr3,Cv (A3 ((gr z hz).1) ((gr z hz).2.mono AC)),ZT,ZU,Ab,λd3 M3 hd3 s4 ld3=>?_⟩;have hS4:=s4 _ _ hS3;have dS:d3≠S:=λe=>by rw[e,hS3] at hd3;cases hd3
  simp only[zz];simp only[show (M3 d3=NZ ((aW x.1.1 x.1.2 r).map Pa)) from ld3];intro d4 hd4;show ZIa _ _ (Bz hd4 ld3) ak;have e1:bN ((aW x.1.1 x.1.2 r).map Pa) (Af 1) none=((aW x.1.1 x.1.2 r).drop 1).map Pa:=by rw[show (1:Int)=((1:Nat):Int) from rfl,cj0,List.map_drop]
  rw[e1,bi5];have d4S:d4≠S:=λe=>by rw[e,hS4] at hd4;cases hd4
  have hlen:=uq hwx;have cg:=ai0 (a:=x.1.1) (b:=x.1.2) (ps:=r) (Bg ((gr p hp).1));have cl:=bu2 x.1.1 x.1.2 r;have pl:=bd9 (aW x.1.1 x.1.2 r);have tt:=bj3 hr;have ttl:=yk rows (i+1);show Rk (EZ (∃(o:Obj) (z4 z5:Option A),s'=[RU,US,Wg (ZGe x.1.1 x.1.2 x.2),ZKq,NO d3,z4,z5]/\QG S (Nu M3 d4 (((aW x.1.1 x.1.2 r).drop 1).map Pa))/\M' S=Af (Fm 2 o ((aU x.2 (aN ((RJ).take i)) ((ZR x.1.1 x.1.2 r).take j)).map bX)))) (Re o _ _ EW (by rw[cf (BX d4S)];simpa [aU] using hS4)) ?_ ?_
  .rintro j s' M' ⟨o,z4,z5,rfl,s5,_⟩;show A3 (s5 _ _ (Bz hd4 ld3) dS) (s5 _ _ ak d4S)
  .rintro j y s' M' N2 hy ⟨o,z4,z5,rfl,s5,hS5⟩ hN2;let⟨⟨u,v⟩,hz2,rfl⟩:=ZJf;have hz3:(ZR x.1.1 x.1.2 r)[j]?=FU ((u,v)):=hz2;let⟨mu,mv,nuv⟩:=ah2 cg.1 (Ad hz3);let⟨lr1,lr2⟩:=hlen ((ZR x.1.1 x.1.2 r).take j) _ hem;rw[List.length_take] at lr2;simp only[zz];show⟨rfl,S,o,_,u,v,x.2,rfl,rfl,rfl,rfl,hS5,nuv,(gr u (cg.2 u mu)).2.mono AC,(gr v (cg.2 v mv)).2.mono AC,Aw,DH (by rw[lr1 e he];show hm),Ab,λo' M6 s6 hS6=>GY (Re o' _ _ (s5.trans s6) ?_)⟩;rw[ar3 hz3];show hS6
  .rintro s' M' ⟨o,z4,z5,rfl,s5,hS5⟩;have e2:((aW x.1.1 x.1.2 r).zip ((aW x.1.1 x.1.2 r).drop 1))=ZR x.1.1 x.1.2 r:=rfl;rw[e2,List.length_map,List.take_length] at hS5;let⟨lr1,lr2⟩:=hlen (ZR x.1.1 x.1.2 r) _ hem;show DU (ZDs o _ _ _ _ rfl (((G0 s4.toB).trans (Bl hd4).toB).trans s5) ?_ ?_ ?_)
   .rw[t7 hzr];show hS5
   .rw[t7 hzr];change (aU x.2 (aN ((RJ).take i)) (ZR x.1.1 x.1.2 r)).length<=_;lia
   .rw[t7 hzr];show lr1
 .rintro s' M' ⟨o,z1,z2,z3,z4,z5,rfl,s3,hS3,hel,hem⟩;have ez:(RJ).take ((Gi ms).map (ZBa [stA p.1,A5 p.2])).length=RJ:=by
   rw[List.length_map,List.length_zip,List.take_of_length_le (by rw[List.length_zip];simp_all)]
  have er:rows.take ((Gi ms).map (ZBa [stA p.1,A5 p.2])).length=rows:=by
   rw[List.length_map,List.length_zip,List.take_of_length_le Aw]
  rw[ez] at hS3 hel hem;rw[er] at hel;have s03:Td:=Dc (Ib (s02 _ _ e) (db e hS));simp only[zz,a88 hS3];intro D hD;have e3:(((ZJd).map bX).map (ZBa [p.1,p.2]))=(ZJd).map (BQ (G1 [sdA e.1,ipT e.2])):=by rw[List.map_map];rfl
  rw[e3];show xu 2 (λe=>e.2.any λn=>!decide (n=0)) (BQ (G1 [sdA e.1,ipT e.2])) Ab (λM'' s=>Ei hD s hS3) ?_ ?_
  .rintro e he vs M4 ys N Y hv s4 hD4 hN hY;let⟨v,w',rfl⟩:=ZAl;have hme:=hem e he;simp only[zz];show OI ?_;unfold ipT;simp only[zz];intro D5 hD5;show ZHw 1 (λn:Int=>.bl (!decide (n=0))) Ab
   .rintro n hn' vs o Y hv hY;let⟨v,rfl⟩:=V2;have:=RO [Wr];simp only[zz];rw[show (decide (n=0) != true) = !decide (n=0) by cases decide (n=0) <;> rfl];show this
   rw[cq9];have e4:(e.2.map λn:Int=>A.bl (!decide (n=0)))=(e.2.map λn:Int=>!decide (n=0)).map A.bl:=by rw[List.map_map];rfl
   show Qs _ (by rw[ak,e4]);have e5:((e.2.map λn:Int=>!decide (n=0)).any id)=e.2.any λn=>!decide (n=0):=by rw[List.any_map];rfl
   rw[e5];simp only[zz];show ifb (CG (ZB (ZFX h [Af (sdA e.1),O5 e.2] (Bl hD5)))) (CG (ZFY h [Af (sdA e.1),O5 e.2] (Bl hD5)))
  intro M4 s4 hD4;rw[az4];have e6:(((ZJd).filter λe=>e.2.any λn=>!decide (n=0)).map (BQ (G1 [sdA e.1,ipT e.2])))=((Pu).map bX).map (ZBa [p.1,p.2]):=by rw[List.map_map];rfl
  have bl:(Pu).length<=9500:=by
   have:=List.length_filter_le (λe:Bit=>e.2.any λn=>!decide (n=0)) ZJd;unfold aJ;lia
  show Cu 1 ((Pu).map bX) AC (by rw[hD4,e6]) (by rw[List.length_map];lia) SY (λd5 o5 hd5=>?_)
  .let⟨e,_,rfl⟩:=BL hp;show br2 e.1
  have ndk:(((Pu).map bX).map (·.1)).Nodup:=by
   have:(((Pu).map (·.1)).map sdA).Nodup:=(xg xs rows).map (f:=sdA) (MF (h (aj5 _ _ e)));rw[List.map_map] at this ⊢;show this
  rw[ae0 ndk];have s04:=s03.trans (EB hD s4);show k d5 o5 _ rows (s04.free hd5) (s04.trans (Bl hd5)) ak mk good bl
def Φ_others_at:SpA:=c1 λa M q=>∃(B:Addr) (o:Obj) (es:List Bit),a=.ref B/\M B=some (.dct 2 o (es.map bX))/\es.length<=9500/\∀O' o' ls M',M O'=none->OdA M M' O' o' (aD es) ls->q (.ref O') M'
def yt {e:Bit}(h:es[i]?=ZJu):aD (Ju (i+1))=aX (aX (aD (Ju i)) e.1.1 e.1.2) e.1.2 e.1.1:=by
 unfold aD;rw[List.take_add_one,h,List.foldl_append];rfl
def l8:OM ["bits","others","a","b"] X7 bZ:=PJ
def ak4 (T:Txt K mg t):FnOk P w K mg base CX0 1 t.qK t.qL ["bits"] (upF (GG K P w t fx scr) Φ_others_at):=by
 show Zm 0 T.others_at.F l8 (Sq 1 l8.nd ae7 (Su U7 (ZBt 2 2 l8.nd 3 l8.nd e8) (Aa (ZLI (@bb0 _ _ _ _ _ _ _ _ _ _ hr.units Qe RR Rr (M2.mk rfl rfl rfl rfl) AB AB) (Nl 3)) (ZKy (@bb0 _ _ _ _ _ _ _ _ _ _ hr.units Qe Qy Rr (M2.mk rfl rfl rfl rfl) AB AB) (Nl 2)))) Qe);intro a M q h0;let⟨B,o,es,rfl,hB,hn,k⟩:=h0;show PC [A8,none,none,none];simp only[zz];show BH 1 AC (λO' o0 hO=>?_);rw[bi6 (Bz hO hB)];have e0:((ZKo).map (B5 p.1))=Fd (BQ (sdA e.1)):=by rw[List.map_map];rfl
 rw[e0];show ZC4 (∃(o':Obj) (ls:List Addr) (z1 z2:Option A),s'=[NO B,NO O',z1,z2]/\OdA M M' O' o' (aD (Ju i)) ls/\Bnd (2*i) (aD (Ju i))) (IZ o0 [] _ _ rfl (Dt (Bl hO) ak .nil ip .nil .nil) As ip)
 .rintro i s' M' ⟨o',ls,z1,z2,rfl,od,_⟩;show od.sm _ _ hB
 .rintro i x s' M' N hx ⟨o',ls,z1,z2,rfl,od,bd⟩ hN;let⟨e,he,rfl⟩:=SX;have hi:=(Ag he).1;unfold sdA;simp only[zz,↓cg3];show OI (bo1 od hO bd Ab λo1 ls1 M1 od1 bd1=>bo1 od1 hO bd1 Ab λo2 ls2 M2 od2 bd2=>DU (Cu o2 ls2 _ _ rfl ?_ ?_))
  .rw[yt he];show od2
  .rw[yt he];show bd2
 .rintro s' M' ⟨o',ls,z1,z2,rfl,od,_⟩;simp only[zz];rw[List.length_map,List.take_length] at od;show k O' o' ls M' hO od
def Φ_onward_of:SpA:=c1 λa M q=>∃(B:Addr) (o:Obj) (es:List Bit),a=.ref B/\M B=some (.dct 2 o (es.map bX))/\es.length<=9500/\(∀e∈es,Sz 4000 e.1.1/\Sz 4000 e.1.2)/\∀W o' M',M W=none->Sm M M'->M' W=some (.dct 1 o' ((aG (aD es)).map λw=>(Pa w.1,Pa w.2)))->q (.ref W) M'
def ao7 {o:Oth}(h:os[i]?=Nd):aG (os.take (i+1))=aG (os.take i)++(bK o).toList:=by
 unfold aG;rw[List.take_add_one,h,List.filterMap_append];change _++List.filterMap bK [o]=_;cases e:bK o with
 | none=>rw[List.filterMap_cons_none e];rfl
 | some w=>rw[List.filterMap_cons_some e];rfl
def b06 (nd:(HE ((·.1))).Nodup){o:Oth}(h:os[i]?=Nd):∀w∈aG (os.take i),w.1≠o.1:=by
 intro w hw e;let⟨o',ho',ew⟩:=Dj hw;let⟨j,hj⟩:=A9 ho';have k1:=xq ew;have jl:j<i:=by have:=(ZFd).1;rw[List.length_take] at this;lia
 rw[List.getElem?_take_of_lt jl] at hj;have:=(Eu (by rw[List.length_map];show (ZFd).1) nd).mp (show (HE ((·.1)))[j]?=(HE ((·.1)))[i]? by rw[List.getElem?_map,List.getElem?_map,hj,h];simp[<-k1,e])
 simp_all
def mh:OM ["bits","onward","z","others"] X7 cA:=PJ
def ak5 (T:Txt K mg t):FnOk P w K mg base CX0 4 t.qX t.qY ["bits"] (upF (GG K P w t fx scr) Φ_onward_of):=by
 show Zm 3 T.onward_of.F mh (Sq 1 mh.nd ae7 (Su (ZFZ (WO T.others_at (ak4 T) 0) AB) (ZBt 2 2 mh.nd 3 mh.nd e8) (ZIZ (Xr (ZBr Np 3) (Sn (N0 T.lies_on (ac2 T) 2 (PY (Nc 3) (Nc 3) bp bp)))) (Am (ZFp (CJ (Sn (ZIn YJ (PY (Nc 3) (Nc 3) bp bp))) (Nc 3) (Nc 3)) Qe RR)))) Qe);intro a M q h0;let⟨B,o,es,rfl,hB,hn,sz,k⟩:=h0;have sL:100000<sizeLine:=by decide
 show PC [A8,none,none,none];simp only[zz];show BH 1 AC (λW o0 hW=>Cu B o es rfl (Bz hW hB) hn (λO' o1 ls M1 hO od=>?_));have os4:∀o∈aD es,VQ o.1/\∀q∈o.2,VQ q:=yv (R:=Sz 4000) sz;have nl:(Pj).length<=19000:=by
  have:∀(l:List Bit) (os:List Oth),(Ms (λos e=>aX (Z8 e.1.1 e.1.2) e.1.2 e.1.1) os).length<=os.length+2*l.length:=by
   intro l
   induction l with
   | nil=>intro os;simp
   | cons e l ih=>
    intro os;have al:∀(os:List Oth) z q,(Z8 z q).length<=os.length+1:=λos z q=>by
     unfold aX;rw[List.length_map];split <;> simp
    rw[List.foldl_cons];have h1:=ih (aX (Z8 e.1.1 e.1.2) e.1.2 e.1.1);have h2:=al (Z8 e.1.1 e.1.2) e.1.2 e.1.1;have h3:=al os e.1.1 e.1.2;rw[List.length_cons];lia
  have:=this es [];unfold aD;simp at this;lia
 have hW1:=od.sm _ _ (C2 M W (ZDS 1 o0));simp only[zz,a88 od.at'];have e0:(((Pj).zip ls).map (B5 ((Pa p.1.1,A.ref p.2)))).map (ZBa [p.1,p.2])=((Pj).zip ls).map (ZBa [Pa p.1.1,Ej p.2]):=by rw[List.map_map];rfl
 rw[e0];have hlen:=cu od.pr;have OW:O'≠W:=λe=>by rw[e,ak] at hO;cases hO
 show ZC4 (∃(o':Obj) (z1 z2:Option A),s'=[NO B,NO W,z1,z2]/\QG W M1/\M' W=Af (ZFw 1 ((aG ((Pj).take i)).map (ID ((Pa w.1,Pa w.2)))))) (Re o0 _ _ EW (by simpa [aG] using hW1))
 .rintro i s' M' ⟨o',z1,z2,rfl,s3,_⟩;show Ib od.at' OW
 .rintro i x s' M' N hx ⟨o',z1,z2,rfl,s3,hW3⟩ hN;let⟨⟨⟨z,qs⟩,l⟩,hz,rfl⟩:=SX;let⟨h1,h2⟩:=vb hz;let⟨w',hw',lw⟩:=ZEL h2;have ew:w'=(z,qs):=BW (hw'.symm.trans h1);subst ew;have lW:l≠W:=λe=>by rw[e] at lw;unfold Rl at lw;rw[hW1] at lw;cases lw
  have l3:=lw.but s3 lW;have zz:=(os4 _ ZCN).1;have zq:=(os4 _ ZCN).2;have stay:bK (z,qs)=none->N [NO B,NO W,Xb,RU] M':=CG (DU (Re o' _ _ s3 (by rw[ao7 h1,h];simpa using hW3)));simp only[zz,ju l3,List.length_map];show OI (ife Ot Ot)
  .obtain⟨a,b,rfl⟩:∃a b,qs=[a,b]:=by
    match qs,e with
    | [a,b],_=>show⟨a,b,rfl⟩
    | [],e=>simp at e
    | [a],e=>simp at e
    | _::_::_::_,e=>simp at e;lia
   have g0:∀{q':L3.KA},ZEl On ZCa M'=ZEQ a M':=ZDU l3;have g1:∀{q':L3.KA},ZEl On ZEc M'=ZEQ b M':=ZDU l3;simp only[zz,g0,g1,↓ag0,↓kw];have za:=zq a Aq;have zb:=zq b Aq;show By zz za zb (ifb (HV ?_) (HV (stay (by unfold bK;simp[e1]))));have fin:∀c,bK (z,[a,b])=FU ((z,c))->fH (A5 W) ZG1 (Pa c) M' (λM3=>N [NO B,NO W,Xb,RU] M3):=λc hc=>by
    rw[an7 hW3];have no:aH ((aG ((Pj).take i)).map (ID ((Pa w.1,Pa w.2)))) ZG1=none:=b31 λp hp=>by
     let⟨w,hw,rfl⟩:=BL hp;show BQ (b06 od.kn h1 w hw (ke e))
    have ll:(aG ((Pj).take i)).length<=19000:=by
     unfold aG;show Jx ((List.length_filterMap_le ..)) ?_;rw[List.length_take];lia
    show BH (wr z) (by rw[List.length_map];lia) (λo''=>DU (Re o'' _ _ (G0 SmB.put) ?_));rw[ak,ao7 h1,hc];unfold L3.putA;rw[no,List.map_append];rfl
   show ZCZ za zb RE RE
   .show fin b (by unfold bK;simp[e1,e2])
   .show fin a (by unfold bK;simp[e1,e2])
  .show stay (by
    unfold bK
    match qs,e with
    | [a,b],e=>simp at e
    | [],e=>rfl
    | [a],e=>rfl
    | _::_::_::_,e=>rfl)
 .rintro s' M' ⟨o',z1,z2,rfl,s3,hW3⟩;rw[List.length_map,List.length_zip,List.take_of_length_le Aw] at hW3;simp only[zz];show k W o' M' hW (Dc (Ib (od.sm _ _ (Bz hW e)) (db e hW))) hW3
def Φ_joined_of:SpA:=c1 λa M q=>∃(B:Addr) (o:Obj) (es:List Bit),a=.ref B/\M B=some (.dct 2 o (es.map bX))/\es.length<=9500/\(∀e∈es,Sz 4000 e.1.1/\Sz 4000 e.1.2)/\(∀e∈es,Lp e.1.1/\Lp e.1.2/\e.1.1≠e.1.2)/\(es.map (·.1)).Nodup/\∀D M' ps,M D=none->Sm M M'->M' D=some (.lst (ps.map stA))->Paired (eL (aG (aD es))) (es.filter λe=>(atW (aG (aD es)) e.1.1).isNone) ps->q (.ref D) M'
def cf5 (ws:Vb)(z:Pt3):aH (ws.map (ID ((Pa w.1,Pa w.2)))) ZG1=(atW ws z).map Pa:=al3 (Ac ke) Pa ws z
def cj4 (nd:(Fd ((·.1))).Nodup){e:Bit}(h:es[i]?=ZJu):aH ZKo (sdA e.1)=O5 e.2:=by
 show a95 (i:=i) ?_ (by rw[List.getElem?_map,h];rfl);have:((Fd ((·.1))).map sdA).Nodup:=nd.map (f:=sdA) (MF (h (aj5 _ _ e)));rw[List.map_map] at this ⊢;show this
def i8:OM ["bits","onward","pieces","a","b","end"] X7 cE:=PJ
def ak8 (T:Txt K mg t):FnOk P w K mg base CX0 5 t.qZ t.rA ["bits"] (upF (GG K P w t fx scr) Φ_joined_of):=by
 show Zm 4 T.joined_of.F i8 (OF 1 i8.nd (WO T.onward_of (ak5 T) 0) (Sq 2 i8.nd Rr (Su U7 (ZBt 2 3 i8.nd 4 i8.nd e8) (ZIZ (Aj (bu9 hr.units) Qy Qe rfl) (O6 5 i8.nd Si (Ox (Aj (b73 hr.units) ZG5 Qe rfl) (ZHq 5 i8.nd (Vp 1 5))) (ZKy RR (Nj (BB (NM 3 (Q8 5 (NS 0 (Wj 3 4)) bp))) jx))))) RR));intro a M q h0;let⟨B,o,es,rfl,hB,hn,sz,lp,nd,k⟩:=h0;have sL:100000<sizeLine:=by decide
 show PC [A8,none,none,none,none,none];simp only[zz];show ZHT B o es hB hn sz (λW o1 M1 hW s1 hW1=>S7 (MK ?_));have s02:ZJb (Qb M1 D):=DA W2;have hDM:M D=none:=s1.free hD;have WD:W≠D:=db hW1 hD;have ok:=aw8 lp;have e0:((ZKo).map (B5 p.1))=Fd (BQ (sdA e.1)):=by rw[List.map_map];rfl
 rw[bi6 (s02 _ _ hB),e0];show ZC4 (∃(ps:List Stk) (z1 z2 z3:Option A),s'=[NO B,NO W,UR,z1,z2,z3]/\QG D M1/\VT=NZ (HF stA)/\ps.length<=i/\CB (eL Q9) ((Ju i).filter (BQ ((ZAj e.1.1).isNone))) ps) (IV [] _ _ _ rfl ((W2).toB) ak Bh .nil)
 .rintro i s' M' ⟨ps,z1,z2,z3,rfl,s3,_⟩;show Ib (GC hB) (db (GC hB) hD)
 .rintro i x s' M' N hx ⟨ps,z1,z2,z3,rfl,s3,hD3,hpl,pr⟩ hN;let⟨e,he,rfl⟩:=SX;have hi:=(Ag he).1;have hW3:=Ib hW1 WD;have hB3:=Ib (GC hB) (db (GC hB) hD);have e1:(Ju (i+1)).filter (BQ ((ZAj e.1.1).isNone))=(Ju i).filter (BQ ((ZAj e.1.1).isNone))++Ak ((ZAj e.1.1).isNone=true) [e] []:=by
   rw[List.take_add_one,he,List.filter_append];by_cases h:(ZAj e.1.1).isNone=true <;> simp[h]
  unfold sdA;simp only[zz,cf4 hW3 (wr _),cf5,Option.isSome_map];show OI ?_;cases ea:atW Q9 e.1.1 with
  | some y=>
   simp only[Option.isSome_some,bne_self_eq_false,Bool.false_eq_true,if_false];show DU (IV ps _ _ _ rfl s3 hD3 Ab (by rw[e1,ea];simpa using pr))
  | none=>
   simp only[Option.isSome_none,Bool.bne_true,Bool.not_false,if_true];show p9 (λn s' M2=>∃z,n=((Q9).filter λw=>!ahd w.1 z).length/\s'=[NO B,NO W,UR,N8 e.1.1,N8 e.1.2,Xb]/\M'=M2/\∀y,Goes Q9 z y->Goes Q9 e.1.2 y) (Pf e.1.2 rfl rfl (λy h=>h)) ?_;rintro _ _ _ N2 ⟨z,rfl,rfl,rfl,hz⟩ hN2;simp only[zz,cf4 hW3 (wr _),cf5,Option.isSome_map];cases ez:atW Q9 z with
   | some y=>
    simp only[Option.isSome_some,Bool.bne_false,if_true];simp only[zz,ab2 hW3 (wr _) (show aH _ ZG1=some (Pa y) by rw[cf5,ez];rfl)];show hN2 _ _ _ (ac1 ok ez) (Pf y rfl rfl (λu h=>hz u (.step ez h)))
   | none=>
    simp only[Option.isSome_none,Bool.bne_false,Bool.false_eq_true,if_false];have sd:G1 [Pa e.1.1,Pa e.1.2]=sdA e.1:=rfl;simp only[zz,jy hD3,true_and,sd,ab2 hB3 (br2 _) (cj4 nd he),j6 hD3,List.length_map];show By le2 le3 Ab (DU (IV (ps++[((e.1.1,z),e.2)]) _ _ _ rfl (G0 SmB.put) (by rw[ak,List.map_append];rfl) (by simp;omega) ?_));rw[e1,ea];show aw4 pr (.cons (Oo rfl (hz z (.stop ez))) .nil)
 .rintro s' M' ⟨ps,z1,z2,z3,rfl,s3,hD3,hpl,pr⟩;rw[List.length_map,List.take_length] at pr;simp only[zz];show k D M' ps hDM (Dc (Ib (GC e) (db (GC e) hD))) hD3 pr
structure MadeA (xs zs:List Stk)(rows:List (List Pt3))(ps:List Stk):Prop where
 marks:ZDV (Ch ((·.1)))
 good:∀r∈rows,∀q∈r,QA/\ZLC
 perm:zs.Perm ps
 join:CB (eL ZFU) ((Pu).filter (BQ ((atW ZFU e.1.1).isNone))) ps
 len:zs.length<=9500
def Φ_made_of (t:Adr):SpA:=c2 λa b M q=>∃(l:Addr) (xs:List Stk) (m:Nat),b=.ref l/\M l=some (.lst (xs.map stA))/\(∀x∈xs,OkS 200 x.1)/\xs.length<=48/\(∀x∈xs,x.2.length=m)/\m<=100/\∀D M' rows ps zs,M D=none->Sm M M'->M' D=some (.lst (zs.map stA))->MadeA xs zs rows ps->q (.tup [a,.ref D]) M'
def kP (row:NT)(y:A):NX:=by
 classical
 show if h:∃x:Stk,y=stA x then [bW row (Fl h).1.1,bW row (Fl h).1.2] else [0]
def a84 {row:NT}{x:Stk}:kP row QR=[bW row x.1.1,bW row x.1.2]:=by
 have hex:∃y:Stk,QR=stA y:=Pe x;have e:=He hex;unfold kP;rw[dif_pos hex];have e':G1 (ZGe x.1.1 x.1.2 x.2)=G1 [Pa (Fl hex).1.1,Pa (Fl hex).1.2,ipT (Fl hex).2]:=e;injection e' with e';injection e' with e1 e2;injection e2 with e2 _;rw[<-ke e1,<-ke e2]
def bh2 {r:NT}(h:rs[i]?=V6):(rs.take (i+1)).flatMap cyc=(rs.take i).flatMap cyc++cyc r:=by
 rw[List.take_add_one,h,List.flatMap_append];simp
def ve:OM ["many","strokes","pieces","ranks"] ["many","strokes"] dL:=PJ
def ax0 (T:Txt K mg t)(hB:BM base mg)(hfx:∀a∈tabs t,fx a.1=none):FnOk P w K mg base CX0 10 t.sU t.sV ["many","strokes"] (upF (GG K P w t fx scr) (Φ_made_of t)):=by
 show afL (k:=9) T.made_of.F T.wC ve (A4 UJ) (L9 ((OF 2 ve.nd (Y9 T.joined_of (ak8 T) (Nj (WO T.bits_of (ax6 T hB hfx) 1) ck)) (OB 3 ve.nd Qq (Y9 T.ranks_of (yx T) (Nj (Xo (BG (cq ["piece"] [] [] rfl (Bf RR) (ZLU ((["piece"]:List Str).Nodup)) QE (Oz Vd) RY rfl AD AD Caught.nil rfl Nn rfl)) (BG (cq ["piece"] [] [] rfl (Bf RR) (ZLU ((["piece"]:List Str).Nodup)) QE (Oz Vd) RY rfl AD AD Caught.nil rfl Nn rfl))) cb)) (Nr (BB (Q8 0 (at9 (k:=0) (c:=t.uC) (x:="piece") (eP t) [("ranks",s.heap.objs.size+1,3)] [3] ZD0 AB T.vX (Nl 2) rfl Tw (an0 T _ Tw) rfl rfl rfl T.wD hB rfl QV rfl rfl rfl rfl AD (ZDc Q5) rfl (ED ((BB (PY (NR (ar (F4 (FV (FV (LO ((show 3<=_ by decide)))))).units) 1 (NR (ar (F4 (FV (FV (LO ((show 3<=_ by decide)))))).units) 0 ae)) (NR (ar (F4 (FV (FV (LO ((show 3<=_ by decide)))))).units) 1 (NR (ar (F4 (FV (FV (LO ((show 3<=_ by decide)))))).units) 0 ae)) bp bp)))) (hfx _ Tw) AB AB rfl) ck))))))) Rq;intro vm b M q h0;let⟨l,xs,m,rfl,hl,ok,hn,hw,hm,k⟩:=h0;have sL:100000<sizeLine:=by decide
 show PC [A8,A8,none,none];simp only[zz];show⟨l,xs,m,rfl,hl,ok,hn,hw,hm,λd o M1 rows hd s1 hd1 mk good bl=>?_⟩;have bo:=ZJe good;show⟨d,o,Pu,rfl,hd1,bl,DH (A3 ((UH).1.1.mono AC) ((UH).1.2.mono AC)),DH (BH ((UH).2.1) ((UH).2.2.1) (vy (UH).2.2.2)),xg xs rows,λD M2 ps hD s2 hD2 pj=>?_⟩;have s02:=VB;have pl:ps.length<=9500:=by
  rw[<-cu pj];show Jx ((List.length_filter_le ..)) bl
 have pok:=ag9 (xs:=xs) good pj;simp only[zz,fi hD2];intro D3 hD3;show ZCK 1 (ZBZ x.1.1) (by omega) hD3 hD2
 .rintro x hx vs o Y hv hY;let⟨v,rfl⟩:=V2;have:=RO [ZJ1];have st:QR=ZGf x.1.1 x.1.2 x.2:=rfl;rw[st] at this ⊢;simp only[zz];show this
 have hD23:=Dd (Bc (FH (ZBZ x.1.1))) hD3 hD2;simp only[zz,fi hD23];intro D4 hD4;show ZCK 1 (ZBZ x.1.2) (by omega) hD4 hD23
 .rintro x hx vs o Y hv hY;let⟨v,rfl⟩:=V2;have:=RO [ZJ1];have st:QR=ZGf x.1.1 x.1.2 x.2:=rfl;rw[st] at this ⊢;simp only[zz];show this
 rw[az6];simp only[Sm.new (o:=Bc (FH (ZBZ x.1.2))) hD4 _ _ (C2 M2 D3 (Bc (FH (ZBZ x.1.1)))),ak];show A3 (by simp;lia) (λD5 hD5=>?_);have eE:(FH (ZBZ x.1.1))++(FH (ZBZ x.1.2))=(aK (FH ((·.1)))).map Pa:=by unfold aK;rw[List.map_append,List.map_map,List.map_map,List.map_map,List.map_map];rfl
 rw[eE];have me:∀{x:Stk},x∈ps->x.1.1∈aK (FH ((·.1)))/\x.1.2∈aK (FH ((·.1))):=λ{x} h=>tv (E5 h);have em:∀p∈aK (ps.map (·.1)),Pc/\PV p:=λp hp=>by
  unfold aK at hp
  rcases List.mem_append.mp hp with h | h
  .let⟨y, hy, rfl⟩:= List.mem_map.mp h
   let⟨x,hx,rfl⟩:=BL hy;show (pok x hx).1
  .let⟨y, hy, rfl⟩:= List.mem_map.mp h
   let⟨x,hx,rfl⟩:=BL hy;show (pok x hx).2
 let⟨hs,hmm⟩:=ie (Bg ((em p hp).1));show IZ D5 _ rfl ak (Bg ((em p hp).1)) (Bg ((em p hp).2.mono AC)) (by unfold aK;simp;lia) (λd6 o6 M3 hd6 s3 hd63=>?_);have s23:ZE8:=(((ZAu).trans (Bl hD4)).trans (Bl hD5)).trans s3;have hD33:=s23 _ _ hD2;simp only[zz,↓bt4];have srt:gD M3 Wi=Af (HF stA):=by simp only[gD,hD33]
 show IV (HF stA) srt (by rw[List.length_map];lia) false (kP (aP (aK (FH ((·.1)))))) (E4 (TV M3)) DL ZF1 ?_
 .let⟨x,hx,rfl⟩:=BL hy;show BH nofun (by rw[a84];nofun) (λM' sM=>?_);rw[a84];have g1:=aj8 hs ((hmm _).mpr (me hx).1);have g2:=aj8 hs ((hmm _).mpr (me hx).2);have st:QR=ZGf x.1.1 x.1.2 x.2:=rfl;rw[st];simp only[zz,ab2 (sM _ _ hd63) (wr _) g1,ab2 (sM _ _ hd63) (wr _) g2];show Oo le2 sM
 intro M4 zs D7 s4 hD7 perm sorted;let⟨zs',ez,perm'⟩:=ah0 perm.symm rfl;subst ez;have s04:=s02.trans (s23.trans s4);show ZB (k D7 _ rows ps zs' (s04.free hD7) (s04.trans (Bl hD7)) ak (B0 mk good perm' pj (by rw[perm'.length_eq];show pl)))
def Φ_l_layers:SpA:=c2 λa b M q=>∃(hd sc:Addr) (m:Int),a=.ref hd/\b=.int m/\Hd M hd sc/\7<=m/\m<=9/\∀l M' lys,Hd M' hd sc->SmB hd M M'->LyF (λx=>M x≠none) M' l lys->LyOk 100 3 2 5 lys->q (.ref l) M'
structure LyI (M M':MA)(hd sc sl L:Addr)(lf:Int)(as:List Addr)(lys:List (List (List Pt3)))(F:Addr->Prop):Prop where
 g:VC
 s:QG hd M
 sn:∃ps:List Pt3,Rl M' sl ps/\(∀p∈ps,Dr ps.length (9+2*ps.length) p)/\ps.length+lf<=9
 l0:0<=lf
 at':M' L=NZ Qv
 pr:W3 (RgF F M') lys
 ok:∀rs∈lys,(1<=rs.length/\rs.length<=2)/\∀r∈rs,ZLR/\r.length<=5
def LyI.mv {M M' M'':MA}{hd sc sl L:Addr}{lf:Int}{as:PD}{lys:ZCU}{F F':Addr->Prop}(h:LyI M M' hd sc sl L lf as lys F)(s:SmF F M' M'')(i:∀a,F' a->F a\/ZGy=none)(g:SL M'')(s':ZDT M M'')(e1:∀o,M' sl=Nd->M'' sl=Nd)(e2:∀o,M' L=Nd->M'' L=Nd):LyI M M'' hd sc sl L lf as lys F':=
 ⟨g,s',let ⟨ps,h1,h2⟩:=h.sn;⟨ps,e1 _ h1,h2⟩,h.l0,e2 _ h.at',cv h.pr λy_ y_ x=>x.mv s i,h.ok⟩
def LyI.less {M M':MA}{hd sc sl L:Addr}{lf:Int}{as:PD}{lys:ZCU}{F:Addr->Prop}(h:LyI M M' hd sc sl L lf as lys F)(h0:0<=n)(h1:n<=lf):LyI M M' hd sc sl L (lf - n) as lys F:=
 ⟨h.g,h.s,let ⟨ps,h1,h2,h3⟩:=h.sn;⟨ps,h1,h2,by lia⟩,by simp_all,h.at',h.pr,h.ok⟩
def RgOk.of {r:NT}{n k:Nat}(h:r.length=n)(h3:3<=n)(h5:n<=5)(hn:Nb n r)(hk:k<=20)(hm:m<=900)(hd:∀p∈r,Dr k m p):ZLR/\r.length<=5:=A3 (By Aw Ab (by rw[h];show hn) (Bg (A3 ((hd p hp).sz Ab Ab) ((hd p hp).lp)))) Aw
abbrev LyQ (M:MA)(sl L:Addr):Addr->Prop:=Bi (M x≠none\/x=sl\/x=L)
abbrev LyP (M:MA)(sl L R:Addr):Addr->Prop:=Bi ((M x≠none\/x=sl\/x=L)\/x=R)
def dn:OM ["_law_hand_here","_law_most","_law_layers_here","_law_seen","_law_wide","_law_left","_law_k","_law_rings","_law_j","_law_way","_law_ring_here","_law_many"] QX cV:=PJ
def ap5 (T:Txt K mg t):FnOk P w K mg base CX0 6 t.pM t.pN ["_law_hand_here","_law_most"] (upF (GG K P w t fx scr) Φ_l_layers):=by
 show ZCu 5 T.uM.F dn (OF 2 dn.nd Rr (OF 3 dn.nd Rr (OF 4 dn.nd (V4 (Bb (AU ae (SN ae ae ae bn bn bn) bn)) XC) (Sq 5 dn.nd Qe (ZGL ZLT cb 6 dn.nd (O6 7 dn.nd Rr (ZGL (ZLS (TC jq XC)) cb 8 dn.nd (OF 9 dn.nd XC (Am (Ap (CU (kq (Xw og 9) (Wd (ZBr qq 2) (Ov ba7 (P6 fq AB (ZA8 (ZBH Xa)) AC AC AB AB) ZG5)))) (O6 10 dn.nd (Tf am4 AB T.vS (ZA8 (ZBH Xa)) AC AC AB AB) (Pv (Xw Np 9) (ZHq 10 dn.nd (yf (av 10) jc jc (Ea ZHM)))) (Aa (ZLI ZG6 (Nl 10)) (Am (FJ 5 dn.nd rfl NL (X4 10) am2 AV)))) (ZIZ (Xw b74 5) (O6 11 dn.nd (Av (@bv5 _ _ rfl) AB T.vU PyProof.Rows.boot_min (Q8 5 (V4 (Bb (AU ae (SN ae ae ae bn bn bn) bn)) XC) bp) AC AC AB AB) (ZLI ZG6 (Nj (ZBh T.uL (be7 T) 0 3 (Pn 4 11)) ck)) (Am (FJ 5 dn.nd rfl NL (av 11) am2 AV)))))))) (ZIZ (ZBr qq 7) (ZKy RR (Nl 7))))) RR))));intro a b M q h0;let⟨hd,sc,m,rfl,rfl,g0,m7,m9,k⟩:=h0;have sL:100000<sizeLine:=by decide
 show PC [A8,A8,none,none,none,none,none,none,none,none,none,none];simp only[zz];show S7 (λL hL=>S7 (λsl hsl=>A3 le4 (Bg (RQ (((g0.same ZKG).same (Bl hsl)).same SD) (Fb ?_)))));let⟨wd,hwd,ewd⟩:=GP 2 3 5 9 n0 n1;have hp1:=s1 _ _ ak ((((g0.same ZKG).same (Bl hsl))).fresh hp).1;simp only[zz,c7 hp1 ewd];show RQ g1 (HJ ?_);simp only[zz];have hdo:M hd≠none:=by let⟨xs,h⟩:=g0.ls;rw[h];nofun
 have hsl0:M sl=none:=(ZKG).free hsl;have slL:sl≠L:=λe=>by rw[e,ak] at hsl;cases hsl
 have hdsl:hd≠sl:=λe=>by rw[e,hsl0] at hdo;show hdo rfl
 have hdL:hd≠L:=λe=>by rw[e,hL] at hdo;show hdo rfl
 have sM2:ZDT M M2:=((((ZKG).trans (Bl hsl)).trans SD).toB).trans VB;have psl:p≠sl:=λe=>by rw[e,ak] at hp;cases hp
 have pL:p≠L:=λe=>by rw[e,cf (BX slL),ak] at hp;cases hp
 have hsl2:M2 sl=SO []:=VB _ _ (by rw[cf (BX psl),ak]) ZFi;have hL2:M2 L=SO []:=VB _ _ (by rw[cf (BX pL),cf (BX slL),ak]) ZAt;show ZBI (r9 (1+n2).toNat rfl (EZ (∃(lf:Int) (as:List Addr) (lys:List (List (List Pt3))) (z1 z2 z3 z4 z5 z6:Option A),s'=[Pt,RV,Rh,ZAM,NP wd,NP lf,z1,z2,z3,z4,z5,z6]/\LyI M M' hd sc sl L lf as lys (LyQ M sl L)/\lys.length<=j)) ⟨m,[],[],_,_,_,_,_,_,rfl,Cu g2 sM2 (By [] hsl2 ip (by simp;omega)) Ab hL2 .nil ip,As⟩ ?_ ?_)
 .rintro j _ M3 N hj ⟨lf,as,lys,z1,z2,z3,z4,z5,z6,rfl,I,hly⟩ hN;simp only[zz];show S7 (λR hR=>?_);have Rsl:R≠sl:=λe=>by let⟨ps,h,_⟩:=I.sn;rw[e] at hR;unfold Rl at h;rw[hR] at h;cases h
  have RL:R≠L:=λe=>by rw[e,I.at'] at hR;cases hR
  have RM:M R=none:=by
   cases e:M R with
   | none=>rfl
   | some o=>rw[I.s _ _ e λz=>by rw[z] at hR;let⟨xs,h⟩:=I.g.ls;rw[h] at hR;cases hR] at hR;cases hR
  have Rhd:hd≠R:=λe=>by rw[e] at hdo;show hdo RM
  have I1:LyI M (put M3 R (.lst [])) hd sc sl L lf as lys (LyP M sl L R):=I.mv (Sm.new hR).toF (λa f=>by
   rcases f with f|f
   .show CD f
   .rw[f];show .inr hR) (I.g.same (Sm.new hR)) (I.s.trans (Sm.new hR).toB) (λo h=>Sm.new hR _ _ h) λo h=>Sm.new hR _ _ h
  show RQ I1.g (HI ?_);have I2:=I1.mv (F':=Uh M L R) (s4.toF ZAx) ZBD g4 (I1.s.trans s4) (Ez (s4 _ _ h ZFi)) (Ez (s4 _ _ h ZAt));have hR4:=s4 _ _ ak ZEe;simp only[zz];show WC ZGE (by simp only[Int.fdiv_eq_ediv_of_nonneg _ (show (0:Int)<=3 by decide)];lia) (by simp only[Int.fdiv_eq_ediv_of_nonneg _ (show (0:Int)<=3 by decide)];lia);have cc:(1+n4.fdiv 3).toNat<=2:=by simp only[Int.fdiv_eq_ediv_of_nonneg _ (show (0:Int)<=3 by decide)];lia
  show r9 (1+n4.fdiv 3).toNat rfl (CP (∃(lf:Int) (bs:List Addr) (rs:List (List Pt3)) (z1 z3 z4 z5 z6:Option A),s'=[Pt,RV,Rh,ZAM,NP wd,NP lf,z1,NO R,z3,z4,z5,z6]/\LyI M M' hd sc sl L lf as lys (Uh M L R)/\M' R=ZCq/\Zb (Uh M L R) M' bs rs/\rs.length<=i/\∀r∈rs,ZLR/\r.length<=5)) ⟨lf,[],[],_,_,_,_,_,rfl,I2,hR4,.nil,As,ip⟩ ?_ ?_
  .rintro i _ M5 N2 hi ⟨lf,bs,rs,z1,z3,z4,z5,z6,rfl,J,hR5,prs,hrl,hrk⟩ hN2;have hbl:=cu prs;simp only[zz];show RQ J.g (λwy M6 a6 b6 g6 s6=>?_);have J6:=J.mv (F':=Uh M L R) (s6.toF ZAx) ZBD g6 (J.s.trans s6) (Ez (s6 _ _ h ZFi)) (Ez (s6 _ _ h ZAt));have hR6:=s6 _ _ hR5 ZEe;have prs6:Zb (Uh M L R) M6 bs rs:=ZIm prs (s6.toF ZAx) f;have put1:∀(M7:MA) (lf':Int) (c:Addr) (r:List Pt3) z5 z6,LyI M M7 hd sc sl L lf' as lys (Uh M L R)->M7 R=ZCq->Zb (Uh M L R) M7 (bs++[c]) (rs++[r])->ZLR/\r.length<=5->N2 [Pt,RV,Rh,ZAM,NP wd,NP lf',z1,NO R,Wq,NP wy,z5,z6] (Nu M7 R (QW++[Ej c])):=λM7 lf' c r z5 z6 J7 hR7 pr7 ok7=>by
    have sf:SmF (Uh M L R) M7 (Nu M7 R (QW++[Ej c])):=(Du).put Nt;show GY ⟨lf',bs++[c],rs++[r],_,_,_,_,_,rfl,J7.mv sf ZBD (J7.g.put (A3 ZEe Ot)) (J7.s.new RM) (Ez (by rw[cf (BX Rsl)];show h)) (Ez (by rw[cf (BX RL)];show h)),by rw[ak,List.map_append];rfl,ZIm pr7 sf f,by simp;omega,VA⟩
    .let⟨ns,_,_,_,_,_,_,h2,_⟩:=g0;rw[e,h2] at RM;cases RM
    .rcases List.mem_append.mp hx with h|h
     .show hrk x h
     .rw[List.mem_singleton.mp h];show ok7
   have skip:N2 [Pt,RV,Rh,ZAM,NP wd,NP lf,z1,NO R,Wq,NP wy,z5,z6] M6:=GY ⟨lf,bs,rs,_,_,_,_,_,rfl,J6,hR6,prs6,Ab,hrk⟩;simp only[zz,ju J6.at',List.length_map];have other:if decide (3<=lf)=true then [A.int 3,A.int 3,A.int 4,A.int 5].length<=sizeLine/\∀(p:Addr),M6 p=none->Φ_l_draw [A.ref hd,A.int 4] (put M6 p (O.lst [A.int 3,A.int 3,A.int 4,A.int 5])) λy M2=>
     L3.rSub (A.ref p) y M2 λx M1=>L3.c2 (rJ2 λi j=>A.int (if j<i then j else i)) [A.int lf,x] M1 λx M1=>(∃l xs,A.ref R=A.ref l/\M1 l=some (O.lst xs))/\Φ_l_ring [A.ref hd,A.ref sl,A.int wd,x] M1 λx_1 M1=>bV (A.ref R) [x_1] M1 λx_2 M1=>rJ2 (λi j=>A.int (i - j)) (A.int lf) x M1 λz M2=>
      N2 [some (Ej hd),some (Er m),some (Ej L),some (Ej sl),some (Er wd),some z,z1,some (Ej R),some (Er i),some (Er wy),z5,some x] M2
     else N2 [some (Ej hd),some (Er m),some (Ej L),some (Ej sl),some (Er wd),some (Er lf),z1,some (Ej R),some (Er i),some (Er wy),z5,z6] M6:=by
    show VW (Iz (A3 le4 (Bg (RQ (J6.g.same SD) (λn7 M7 a7 b7 g7 s7=>?_))))) skip;let⟨mn,hmn,emn⟩:=GP 3 3 4 5 a7 b7;have s67:ZDT M6 M7:=(SD).toB.trans s7;have J7:=J6.mv (F':=Uh M L R) (s67.toF ZAx) ZBD g7 (J6.s.trans s67) (Ez (s67 _ _ h ZFi)) (Ez (s67 _ _ h ZAt));have hR7:=s67 _ _ hR6 ZEe;have prs7:Zb (Uh M L R) M7 bs rs:=ZIm prs6 (s67.toF ZAx) f;rw[c7 (s7 _ _ ak (J6.g.fresh hp).1) emn];simp only[zz,jy hR7,true_and];let⟨ps,hps,dps,lps⟩:=J7.sn;have cnt:(Ak (mn<lf) mn lf)=((Ak (mn<lf) mn lf).toNat:Nat):=by split <;> grind
    have c3:3<=(Ak (mn<lf) mn lf).toNat/\(Ak (mn<lf) mn lf).toNat<=5/\(Ak (mn<lf) mn lf)<=lf:=by split <;> lia
    have slsc:sl≠sc:=λe=>by
     let⟨ns,_,_,_,_,_,_,h2,_⟩:=g0;rw[<-e,hsl0] at h2;cases h2
    show⟨(Ak (mn<lf) mn lf).toNat,sc,ps,cnt,J7.g,hps,slsc,dps,Ab,Ab,Ab,λc M8 r hc g8 s8 hc8 rl8 sl8 dr8 nb8=>?_⟩;have hR8:=s8 _ _ hR7 ZEe Rsl;simp only[zz,j6 hR8];show Pk (by rw[List.length_map];lia);have sf:SmF (Uh M L R) M7 M8:=s8.toF ZAx (ZEg OP);have cM:¬((M c≠none\/c=sl\/c=L)\/c=R):=λf=>by
     rcases f with (f|f|f)|f
     .show f (by
       cases e:M c with
       | none=>rfl
       | some o=>rw[J7.s _ _ e λz=>by rw[z] at hc;let⟨xs,h⟩:=J7.g.ls;rw[h] at hc;cases hc] at hc;cases hc)
     .rw[f] at hc;unfold Rl at hps;rw[hps] at hc;cases hc
     .rw[f,J7.at'] at hc;cases hc
     .rw[f,hR7] at hc;cases hc
    have J8:LyI M M8 hd sc sl L (lf - Xi (mn<lf) mn lf) as lys (Uh M L R):=Cu g8 (λa o h n=>s8 _ _ (J7.s _ _ h n) n (BT (by rw[z,hsl0] at h;cases h))) (By (ps++r) sl8 (by rw[List.length_append,rl8];show dr8) (by rw[List.length_append];lia)) Ab (s8 _ _ J7.at' ZAt (BX slL)) (ZIm J7.pr sf f) J7.ok;show put1 M8 _ c r _ _ J8 hR8 (gz (ZIm prs7 sf f) (A3 cM hc8)) (RgOk.of rl8 c3.1 c3.2.1 nb8 Ab Ab (Bg (dr8 p (BJ hp))))
   show VW (HV (VW RE other)) other;let⟨a,b,cs,r,ha,hcs,hb,hrb,rs0,hrs0,hr0⟩:=bs5 J6.pr Ab λrs h=>(J6.ok rs h).1.1;have rok:=(J6.ok rs0 hrs0).2 r hr0;have sA:∀{q':L3.KA},ZEl (A5 L) ZCa M6=q' PK M6:=c7 J6.at' (cy (j:=0) ha);have sB:∀{q':L3.KA},ZEl PK ZCa M6=q' V9 M6:=c7 hcs (cy (j:=0) hb);have rl6:=hrb.2;simp only[zz,sA,sB,ju rl6,List.length_map,n6 rl6];show VW (Iz ?_) other;intro p hp;have newp:∀{M9:MA} {c:Addr},ZDT M M9->SL M9->(∃o,M9 sl=Nd)->(∃o,M9 L=Nd)->(∃o,M9 R=Nd)->M9 c=none->¬((M c≠none\/c=sl\/c=L)\/c=R):=λ{M9 c} s9 g9 x1 x2 x3 hc f=>by
    rcases f with (f|f|f)|f
    .show f (by
      cases e:M c with
      | none=>rfl
      | some o=>rw[s9 _ _ e λz=>by rw[z] at hc;let⟨xs,h⟩:=g9.ls;rw[h] at hc;cases hc] at hc;cases hc)
    .let⟨o,h⟩:=x1;rw[f,h] at hc;cases hc
    .let⟨o,h⟩:=x2;rw[f,h] at hc;cases hc
    .let⟨o,h⟩:=x3;rw[f,h] at hc;cases hc
   let⟨ps,hps,dps,lps⟩:=J6.sn;have np:=newp J6.s J6.g (Xq hps) (Xq J6.at') (Xq hR6) hp;have J7:=J6.mv (F':=Uh M L R) (ZId Sc hp).toF ZBD (J6.g.same SD) (J6.s.trans (SD).toB) (Ez (Bz hp h)) (Ez (Bz hp h));have hR7:=Dd (Bc Sc) hp hR6;have prs7:Zb (Uh M L R) (Nu M6 p Sc) bs rs:=Xm prs6 (x.mv (SD).toF ZBD);show ife (λe4=>?_) λe4=>?_
   .show U6 ak (λp2 hp2=>?_);have np2:=newp J7.s J7.g (Xq (Bz hp hps)) (Xq J7.at') (Xq hR7) hp2;rw[<-List.map_reverse];have J8:=J7.mv (F':=Uh M L R) (ZId ZKc hp2).toF ZBD (J7.g.same (Bl hp2)) (J7.s.trans (Bl hp2).toB) (Ez (Bz hp2 h)) (Ez (Bz hp2 h));have hR8:=Dd (Bc ZKc) hp2 hR7;have prs8:Zb (Uh M L R) (Nu (Nu M6 p Sc) p2 ZKc) bs rs:=Xm prs7 (x.mv (Bl hp2).toF ZBD);have l9:(Nu (Nu (Nu M6 p Sc) p2 ZKc) R (QW++[Ej p2])) p2=NZ ZKc:=by rw[cf λe=>np2 YX];show ak
    simp only[zz,jy hR8,true_and,j6 hR8,List.length_map,ju l9,List.length_reverse];show XR (put1 _ _ p2 r.reverse _ _ (J8.less Ab Ab) hR8 (gz prs8 (A3 np2 ak)) (A3 rok.1.rev (by rw[List.length_reverse];show rok.2)))
   .have l9:(Nu (Nu M6 p Sc) R (QW++[Ej p])) p=NZ Sc:=by rw[cf λe=>np YX];show ak
    simp only[zz,jy hR7,true_and,j6 hR7,List.length_map,ju l9];show XR (put1 _ _ p r _ _ (J7.less Ab Ab) hR7 (gz prs7 (A3 np ak)) rok)
  .rintro _ M5 ⟨lf,bs,rs,z1,z3,z4,z5,z6,rfl,J,hR5,prs,hrl,hrk⟩;have hbl:=cu prs;simp only[zz,ju hR5,List.length_map];have weak:LyI M M5 hd sc sl L lf as lys (LyQ M sl L):=J.mv ZIT (Rn (CD f)) J.g J.s (Ez h) (Ez h);show ZDZ (BQ (DU ⟨lf,as,lys,_,_,_,_,_,_,rfl,weak,Ab⟩));have hal:=cu J.pr;simp only[zz,jy J.at',true_and,j6 J.at',List.length_map];have sf:SmF (LyQ M sl L) M5 (Nu M5 L (Qv++[Ej R])):=(Du).put (CK Nt);show XR (DU ⟨lf,as++[R],lys++[rs],_,_,_,_,_,_,rfl,Cu (J.g.put (A3 ZAt Ot)) (J.s.new hL) ?_ J.l0 (by rw[ak,List.map_append];rfl) (gz (ZIm J.pr ((Du).put (ZEg Nt)) (CD f)) (By ?_ bs ?_ (ZIm prs ((Du).put (ZEg Nt)) (CD f)))) ?_,by simp;lia⟩)
   .let⟨ns,_,_,_,_,_,_,h2,_⟩:=g0;rw[<-e,hL] at h2;cases h2
   .let⟨ps,h1,h2⟩:=J.sn;show BH ps (by unfold Rl;rw[cf slL];show h1) h2
   .rintro (f|f|f)
    .show f RM
    .show Rsl f
    .show RL f
   .rw[cf RL];show hR5
   .intro x hx;rcases List.mem_append.mp hx with h|h
    .show J.ok x h
    .rw[List.mem_singleton.mp h];show A3 (XR Ab) hrk
 .rintro _ M3 ⟨lf,as,lys,z1,z2,z3,z4,z5,z6,rfl,I,hly⟩;simp only[zz];show k L M3 lys I.g I.s (By (Ma (f hL)) as I.at' (ZIm I.pr ZIT (CD f))) (BH Ab (λrs h=>(I.ok rs h).1) (Hw ((I.ok rs h).2 r hr)))
def Φ_l_nest:SpA:=c1 λa M q=>∃(hd sc:Addr),a=.ref hd/\Hd M hd sc/\∀l M' lys,Hd M' hd sc->SmB hd M M'->LyF (λx=>M x≠none) M' l lys->LyOk 100 3 5 3 lys->q (.ref l) M'
def ad3 {a' b':Int}{s:Pt3}(hc:0<c)(h:XL a b c)(h':Is3 a' b' c s)(n:a≠a'\/b≠b'):r≠s:=λe=>by
 subst e;let⟨d,d0,e1,e2,e3⟩:=h.ex;let⟨d',d0',e1',e2',e3'⟩:=h'.ex;have:d=d':=by
  have hz:=h.pos;have:d*r.z=d'*r.z:=by rw[<-e3,<-e3']
  show Gf Ab this
 subst this;rcases n with n|n
 .show n (by rw[e1,e1'])
 .show n (by rw[e2,e2'])
def al1 (h:XL a b c)(ha:a.natAbs<=100000)(hb:b.natAbs<=100000)(hc:c.natAbs<=100000):Sz 100 r/\ZD1:=by
 let⟨h1,h2,h3⟩:=h.le;show A3 (BH ZKf ZKf ZKf) h.lp
def b87 {s:Int}(hs:0<s)(hx:x.natAbs<=50000)(hy:y.natAbs<=50000)(h5:s<=512):RgOk 100 [Ue x y,Ue (x+s) y,Ue x (y+s)]:=by
 have h1:=JH x y 64 AC;have h2:=JH (x+s) y 64 AC;have h3:=JH x (y+s) 64 AC;show By Aq Aq (A3 (Jd ?_) (λy_ y_ a b ha hb=>?_)) SY
 .match i,ha,hb with
  | 0,ha,hb=>simp at ha hb;subst ha hb;show ad3 AC h1 h2 (CD Ab)
  | 1,ha,hb=>simp at ha hb;subst ha hb;show ad3 AC h2 h3 (CD Ab)
  | 2,ha,hb=>simp at hb
  | i+3,ha,hb=>simp at ha
 .simp at ha hb;subst ha hb;show ad3 AC h3 h1 (CK Ab)
 .simp only[List.mem_cons,List.not_mem_nil,or_false] at hp;rcases hp with rfl|rfl|rfl
  .show al1 h1 Ab Ab AC
  .show al1 h2 Ab Ab AC
  .show al1 h3 Ab Ab AC
def nA (n:Int×Int×Int):A:=F7 [BR n.1,BR n.2.1,BR n.2.2]
def RgO (F:Addr->Prop)(M:MA)(a:Addr)(rs:QK):Prop:=∃bs:List Addr,ZP=ZCq/\Zb F M bs rs
structure NeS (M:MA)(hd sc nd tk L:Addr)(ls:List Addr):Prop where
 hdo:M hd≠none
 sco:M sc≠none
 n1:M nd=none
 n2:M tk=none
 n3:M L=none
 n4:∀l∈ls,Sv=none
 d1:nd≠tk
 d2:nd≠L
 d3:tk≠L
 d4:nd∉ls
 d5:tk∉ls
 d6:L∉ls
 ndp:ls.Nodup
 l3:ls.length=3
abbrev NeF (M:MA)(nd tk L:Addr)(ls:PD):Addr->Prop:=Bi (M x≠none\/x=nd\/x=tk\/x=L\/x∈ls)
structure Ne' (M M':MA)(hd sc nd tk L:Addr)(ls:List Addr)(o:Obj)(kvs:List (A×A))(ns:List (Int×Int×Int))(rss:List (List (List Pt3))):Prop where
 g:VC
 s:QG hd M
 tkE:M' tk=Qr 0 o
 ndE:M' nd=NZ ZKL
 LE:M' L=NZ (ls.map A.ref)
 pr:CB (RgO (NeF M nd tk L ls) M') ls rss
section
variable {M M' M'':MA}{hd sc nd tk L:Addr}{ls:PD}{o:Obj}{kvs:Au (A×A)}{ns:Au (Int×Int×Int)}{rss:ZCU}
def NeS.hd' (S:NeS M hd sc nd tk L ls){x:Addr}(h:M x=none):x≠hd/\x≠sc:=A3 (BQ (S.hdo (by rw[<-e];show h))) (BQ (S.sco (by rw[<-e];show h)))
def RgO.mv {F:Addr->Prop}{a:Addr}{rs:QK}(h:RgO F M a rs)(s:XQ F M)(e:∀o,ZP=Nd->ZGy=Nd):RgO F M' a rs:=let ⟨bs,h1,h2⟩:=h;⟨bs,e _ h1,cv h2 λy_ y_ x=>x.mv s λa f=>.inl f⟩
def Ne'.dr (h:Ne' M M' hd sc nd tk L ls o kvs ns rss)(S:NeS M hd sc nd tk L ls)(g:SL M'')(s:ZDT M' M''):Ne' M M'' hd sc nd tk L ls o kvs ns rss:=
 ⟨g,h.s.trans s,s _ _ h.tkE (S.hd' S.n2).1,s _ _ h.ndE (S.hd' S.n1).1,s _ _ h.LE (S.hd' S.n3).1,mw h.pr λa ha y_ x=>x.mv (s.toF ZKJ) λy_ e=>s _ _ e (S.hd' (S.n4 a ha)).1⟩
def Ne'.nw (h:Ne' M M' hd sc nd tk L ls o kvs ns rss)(s:Sm M' M''):Ne' M M'' hd sc nd tk L ls o kvs ns rss:=
 ⟨h.g.same s,h.s.trans s.toB,s _ _ h.tkE,s _ _ h.ndE,s _ _ h.LE,cv h.pr λa y_ x=>x.mv s.toF λy_ e=>s _ _ e⟩
def Ne'.putT (h:Ne' M M' hd sc nd tk L ls o kvs ns rss)(S:NeS M hd sc nd tk L ls){o':Obj}{kvs':Au (A×A)}:Ne' M (put M' tk (ZFw 0 kvs')) hd sc nd tk L ls o' kvs' ns rss:=
 ⟨h.g.put (S.hd' S.n2),h.s.new S.n2,ak,by rw[cf S.d1];show h.ndE,by rw[cf (BX S.d3)];show h.LE,mw h.pr λa ha y_ x=>x.mv ((Du).put (ZIc OP)) λy_ e=>by rw[cf λz=>S.d5 (by rw[<-z];show ha)];show e⟩
def Ne'.putN (h:Ne' M M' hd sc nd tk L ls o kvs ns rss)(S:NeS M hd sc nd tk L ls){ns':Au (Int×Int×Int)}:Ne' M (Nu M' nd (ns'.map nA)) hd sc nd tk L ls o kvs ns' rss:=
 ⟨h.g.put (S.hd' S.n1),h.s.new S.n1,by rw[cf (BX S.d1)];show h.tkE,ak,by rw[cf (BX S.d2)];show h.LE,mw h.pr λa ha y_ x=>x.mv ((Du).put (CK OP)) λy_ e=>by rw[cf λz=>S.d4 (by rw[<-z];show ha)];show e⟩
def Ne'.putL (h:Ne' M M' hd sc nd tk L ls o kvs ns rss)(S:NeS M hd sc nd tk L ls){a R:Addr}{bs:PD}{r:NT}(ha:ls[i]?=RS)(hb:ZGy=ZCq)(hp:Zb (NeF M nd tk L ls) M' bs rs)(hR:RlF (NeF M nd tk L ls) M' R r):Ne' M (Nu M' a (QW++[Ej R])) hd sc nd tk L ls o kvs ns (rss.set i (rs++[r])):=by
 have ma:=Ad ha;have sf:SmF (NeF M nd tk L ls) M' (Nu M' a (QW++[Ej R])):=(Du).put (ZIc (ZIc ma));show Dt (h.g.put (S.hd' (S.n4 a ma))) (h.s.new (S.n4 a ma)) (by rw[cf λz=>S.d5 (by rw[z];show ma)];show h.tkE) (by rw[cf λz=>S.d4 (by rw[z];show ma)];show h.ndE) (by rw[cf λz=>S.d6 (by rw[z];show ma)];show h.LE) ?_;show jm (by rw[List.length_set];show cu h.pr) ZIQ;let⟨w',hw,lw⟩:=cn h.pr hb';by_cases e:i=j
 .subst e;rw[ha] at hb';cases hb';show B0 _ (by rw[List.getElem?_set_self (Ag hw).1]) (bs++[R]) (by rw[ak,List.map_append];rfl) (gz (ZIm hp sf f) (hR.mv sf ZBD))
 .show BH w' (by rw[List.getElem?_set_ne e];show hw) (lw.mv sf (MI ?_));rw[cf λz=>e ((Fk ((Ag ha).1) S.ndp).mp (by rw[ha,hb',z]))];show h
end
def nE (i:Nat)(n:Int×Int×Int):Prop:=n.1.natAbs<=2400+300*i/\n.2.1.natAbs<=2400+300*i/\(n.2.2=512\/(n.2.2=128/\1<=i)\/(n.2.2=32/\2<=i)\/(n.2.2=8/\3<=i)\/(n.2.2=2/\4<=i))
structure NeK (j:Nat)(kvs:List (A×A))(ns:List (Int×Int×Int))(rss:List (List (List Pt3))):Prop where
 kv:∀p∈kvs,∃v,p.2=BR v/\0<=v/\v<=3
 kl:kvs.length<=j
 nl:ns.length=j
 nk:∀(i:Nat) n,ns[i]?=ZJx->nE i n
 sum:(Uv).sum=j
 rk:∀rs∈rss,∀r∈rs,ZLR/\r.length<=3
def b60 (h0:0<=n)(h:n<3):∃y,(y=a\/y=b\/y=c)/\atI [Er a,BR b,BR c] n=ZA7:=by
 rcases (by lia:n=0\/n=1\/n=2) with rfl|rfl|rfl
 .show Oo a OP
 .show Oo b (CK OP)
 .show Oo c (CK Nt)
def bx1 {rss:ZCU}:∀{i:Nat} {rs:List (List Pt3)} {r:List Pt3},rss[i]?=Af rs->((rss.set i (rs++[r])).map List.length).sum=(Uv).sum+1:=by
 induction rss with
 | nil=>intro i rs r h;simp at h
 | cons x l ih=>
  intro i rs r h;cases i with
  | zero=>simp at h;subst h;simp;lia
  | succ i=>simp at h;have:=ih (r:=r) h;simp at this ⊢;lia
def zk:∀{l:List Nat} {c:Nat},c∈l->c<=l.sum
 | [],_,h=>nomatch h
 | x::l,c,h=>by
  rw[List.sum_cons];rcases List.mem_cons.mp h with e|e
  .simp_all
  .have:=zk e;lia
def b89 {l:VZ}{j a b:Nat}(n:i≠j)(h1:l[i]?=RS)(h2:l[j]?=UK):a+b<=l.sum:=by
 induction l generalizing i j with
 | nil=>simp at h1
 | cons x l ih=>
  have one:∀{k c:Nat},l[k]?=Qz->c<=l.sum:=λ{k c} h=>zk (Ad h);rw[List.sum_cons];cases i with
  | zero=>
   cases j with
   | zero=>show absurd rfl n
   | succ j=>simp at h1 h2;subst h1;have:=one h2;simp_all
  | succ i=>
   cases j with
   | zero=>simp at h1 h2;subst h2;have:=one h1;lia
   | succ j=>simp at h1 h2;have:=ih Aw h1 h2;lia
def c9:OM ["_law_hand_here","_law_nodes","_law_taken","_law_layers_here","_law_first","_law_k","_law_about","_law_slot","_law_up","_law_x","_law_y","_law_size","_law_ring_here","_law_at"] Of eY:=PJ
def be8 (T:Txt K mg t):FnOk P w K mg base CX0 4 t.pP t.pQ ["_law_hand_here"] (upF (GG K P w t fx scr) Φ_l_nest):=by
 show Zm 3 T.uN.F c9 (OF 1 c9.nd Rr (OF 2 c9.nd ae7 (OF 3 c9.nd (Bb (SN Rr Rr Rr ab3 ab3 ab3)) (Sq 4 c9.nd XC (ZGL ZLT cb 5 c9.nd (OF 6 c9.nd (Po T 0 (ZBE 5) cb) (O6 7 c9.nd (@bb1 _ _ _ _ _ _ _ _ _ _ hr.units RR ZEM ae (M2.mk rfl rfl rfl rfl) AB AB) (Ap (CU (ZIR (P7 Np 6 ZG5) (Xw Np 7))) (OF 8 c9.nd XC (Am (@b50 _ _ _ _ _ _ _ 9 10 11 _ _ _ _ _ _ _ _ _ _ rfl c9.nd rfl rfl rfl AC AC AC rfl rfl rfl (SN (ZA (ZA ae ZG5) (AZ c8 ae (av 8))) (ZA (ZA ae ZG5) (av 8)) ae bn cb cb) AB AB))) (Aa (ZFp (ZBE 7) RR ZEM) (Aa (ZFm (Vp 1 6) (ZBt 3 9 c9.nd 10 c9.nd (Ta 11 c9.nd e8))) (O6 7 c9.nd (TC k7 (O2 cp 7 Si)) (FJ 9 c9.nd rfl NL (Xo (ZA (ST jq 11) (V4 (Bb (SN ae ae ae bn bn bn)) ZG6)) (ZA (ST jq 11) XC)) a03 AV) (Aa (FJ 10 c9.nd rfl NL (Xo (ZA (ST jq 11) (V4 (Bb (SN ae ae ae bn bn bn)) ZG6)) (ZA (ST jq 11) XC)) a03 AV) (ZHq 11 c9.nd (ST jq 11))))))) (Aa (ZLI Qe (Nj (BB (NM 9 (Pn 10 11))) jx)) (O6 12 c9.nd (Bb (SN (N0 T.uI ZCF 9 (Q8 10 ae bn)) (Y9 T.uI ZCF (AU (O2 cp 9 (av 11)) (Q8 10 ae bn) cb)) (N0 T.uI ZCF 9 (PY (O2 cp 10 (av 11)) ae bn cb)) ck ck ck)) (Pv ZLd (ZHq 12 c9.nd (yf (av 12) jc jc (Ea ZHM)))) (O6 13 c9.nd XC (Ox (ZE0 (P6 fq AB (ZA8 (Vp 3 13)) AC AC AB AB)) (ZHq 13 c9.nd (TC k7 (ZBE 13)))) (ZKy (Vp 3 13) (Nl 12)))))))) (BG (cq ["_law_rings"] [] [] rfl (Bf Qy) (ZLU ((["_law_rings"]:List Str).Nodup)) (ZBi (ZBr qq 0)) ZF7 RY rfl AD AD Caught.nil rfl Nn rfl))))));intro a M q h0;let⟨hd,sc,rfl,g0,k⟩:=h0;have sL:100000<sizeLine:=by decide
 show PC [A8,none,none,none,none,none,none,none,none,none,none,none,none,none];simp only[zz];show S7 (λnd hnd=>BH 0 AC (λtk o0 htk=>S7 (λl0 hl0=>S7 (λl1 hl1=>S7 (λl2 hl2=>A3 le3 (λL hL=>?_))))));have t1:=Cr Tp hnd;have t2:=Cr (ZDS 0 o0) htk;have t3:=Cr Tp hl0;have t4:=Cr Tp hl1;have t5:=Cr Tp hl2;have t6:=Cr (Do [A5 l0,A5 l1,A5 l2]) hL;have ndE:=ZET (Jt (Ku (t2 _ _ (C2 M nd Tp))));have tkE:=ZET (Jt (Ku (Js tk (ZDS 0 o0))));have e0:=ZET (Jt (Js l0 Tp));have e1:=ZET (Js l1 Tp);have e2:=t6 _ _ (Js l2 Tp);have gL:=(((((g0.same t1).same t2).same t3).same t4).same t5).same t6;have f2:=t1.free htk;have f3:=Uw hl0;have f4:=Uw (t3.free hl1);have f5:=Uw (t3.free (t4.free hl2));have f6:=Uw (t3.free (t4.free (t5.free hL)));have S:NeS M hd sc nd tk L [l0,l1,l2]:=by
  have x1:tk≠nd:=λe=>by rw[e,ak] at htk;cases htk
  have x2:l0≠nd:=T7 ZAB hl0;have x3:l0≠tk:=T7 ak hl0;have x4:l1≠nd:=T7 (Ku ZAB) hl1;have x5:l1≠tk:=T7 (Ku ak) hl1;have x6:l1≠l0:=T7 ak hl1;have x7:l2≠nd:=T7 (Jt (Ku ZAB)) hl2;have x8:l2≠tk:=T7 (Jt (Ku ak)) hl2;have x9:l2≠l0:=T7 (Jt ak) hl2;have x10:l2≠l1:=T7 ak hl2;have y1:L≠nd:=T7 (Kt (Jt (Ku ZAB))) hL;have y2:L≠tk:=T7 (Kt (Jt (Ku ak))) hL;have y3:L≠l0:=T7 (Kt (Jt ak)) hL;have y4:L≠l1:=T7 (Kt ak) hL;have y5:L≠l2:=T7 ak hL;let⟨ns,_,_,_,_,_,h1,h2,_⟩:=g0;show⟨by rw[h1];nofun,by rw[h2];nofun,hnd,f2,f6,?_,BX x1,BX y1,BX y2,?_,?_,?_,?_,rfl⟩
  .intro l hl;simp only[List.mem_cons,List.not_mem_nil,or_false] at hl;rcases hl with rfl|rfl|rfl <;> assumption
  .simp[Ne.symm x2,Ne.symm x4,Ne.symm x7]
  .simp[Ne.symm x3,Ne.symm x5,Ne.symm x8]
  .simp[y3,y4,y5]
  .simp[Ne.symm x6,Ne.symm x9,Ne.symm x10]
 have I0:Ne' M (OH (Qb (Qb (Qb (put (Qb M nd) tk (ZDS 0 o0)) l0) l1) l2) L [A5 l0,A5 l1,A5 l2]) hd sc nd tk L [l0,l1,l2] o0 [] [] [[],[],[]]:=Dt gL ((((((t1.trans t2).trans t3).trans t4).trans t5).trans t6).toB) tkE ndE ak (.cons (BH [] e0 .nil) (.cons (BH [] e1 .nil) (.cons (BH [] e2 .nil) .nil)));show RQ gL (λfs M1 f0 f1 g1 s1=>?_);show RQ g1 (HJ ?_);simp only[zz];show ZBI (r9 (1+n2).toNat rfl (EZ (∃(o:Obj) (kvs:List (A×A)) (ns:List (Int×Int×Int)) (rss:List (List (List Pt3))) (z1 z2 z3 z4 z5 z6 z7 z8 z9:Option A),s'=[Pt,ZAN,ZAO,Rh,ZAP,z1,z2,z3,z4,z5,z6,z7,z8,z9]/\Ne' M M' hd sc nd tk L [l0,l1,l2] o kvs ns rss/\NeK j kvs ns rss)) ⟨o0,[],[],[[],[],[]],_,_,_,_,_,_,_,_,_,rfl,(I0.dr S g1 s1).dr S g2 s2,Dt ip As rfl nofun rfl Aq⟩ ?_ ?_)
 .rintro j _ M3 N hj ⟨o,kvs,ns,rss,z1,z2,z3,z4,z5,z6,z7,z8,z9,rfl,I,K'⟩ hN;have hj4:j<=4:=by grind
  simp only[oa,List.set_cons_zero,List.set_cons_succ];show UX (Ks (∃ab:Int,0<=ab/\ab<j+1/\s'=[Pt,ZAN,ZAO,Rh,ZAP,U0,ZCp,z3,z4,z5,z6,z7,z8,z9]/\Ne' M M4 hd sc nd tk L [l0,l1,l2] o kvs ns rss))
  .simp only[zz];show drw I.g Aq ZKf λab M4 ab0 ab1 g4 s4=>Db (Py ab ab0 ab1 (I.dr S g4 s4))
  rintro _ M4 ⟨ab,ab0,ab1,rfl,I4⟩;have hsv:∃sv:Int,(QZ ZKF).getD ZCa=BR sv/\0<=sv/\sv<=3:=by
   cases e:aH kvs ZKF with
   | none=>show⟨0,rfl,by decide,by decide⟩
   | some v=>
    let⟨u,hu,h0,h3⟩:=K'.kv _ (ar9 e);show By u hu h0 h3
  let⟨sv,esv,sv0,sv3⟩:=hsv;show UX (Kr (s'=[Pt,ZAN,ZAO,Rh,ZAP,U0,ZCp,NP sv,z4,z5,z6,z7,z8,z9]/\M4=M5))
  .simp only[zz,↓bt7];show⟨tk,_,_,_,rfl,I4.tkE,_,_,_,I4.tkE,rfl,?_⟩;rw[esv];show ZKU
  rintro _ _ ⟨rfl,rfl⟩;show UX (Kr (∃(o:Obj) (kvs:List (A×A)) (x y sz:Int) (z3 z4:Option A),s'=[Pt,ZAN,ZAO,Rh,ZAP,U0,ZCp,z3,z4,ZA6,ZA7,ZKr,z8,z9]/\Ne' M M5 hd sc nd tk L [l0,l1,l2] o kvs ns rss/\(∀p∈kvs,∃v,p.2=BR v/\0<=v/\v<=3)/\kvs.length<=j+1/\nE j (x,y,sz)))
  .simp only[zz];have first:Φ_l_draw [.ref hd,.int 2] M4 λx M1=>IntMulOk 600 j/\rJ2 (λi j=>A.int (i - j)) (.int 1) x M1 λy M2=>jD (.int (600*j)) y M2 λx_1 M2=>IntMulOk 600 j/\jD (.int (600*j)) x M2 λx_2 M2=>match [x_1,x_2,.int 512] with
     | [v,w,u]=>N1 [some (A5 hd),some (A5 nd),some (A5 tk),some (A5 L),some (BR fs),some Wl,some ZKF,some (BR sv),some x,some v,some w,some u,z8,z9] M2
     | _=>False:=by
    show RQ I4.g (λup M5 u0 u1 g5 s5=>?_);have b64:∀{i:Int},i.natAbs<=100000->ZLk:=ZKg;show B0 (Oy (b64 AC) Qo) (Oy (ZAm (600*(j:Int))) (ZAm (1 - up))) (Oy (b64 AC) Qo) (Oy (ZAm (600*(j:Int))) (ZAm up)) (Db ⟨o,kvs,_,_,_,_,_,rfl,I4.dr S g5 s5,K'.kv,by have:=K'.kl;lia,?_⟩);rcases (by lia:up=0\/up=1) with rfl|rfl
    .show BH (by simp only;lia) (by simp only;lia) OP
    .show BH (by simp only;lia) (by simp only;lia) OP
   show ZAk first (BQ (ife (C5 first) RE));have kl:=K'.kl;have nl:=K'.nl;rw[an7 I4.tkE];show WX rfl (λo5=>?_);have I5:=I4.putT S (o':=o5) (kvs':=L3.putA kvs ZKF (BR (sv+1)));have abl:ab.toNat<ns.length:=by lia
   obtain⟨n,hn⟩:∃n,ns[ab.toNat]?=some n:=QP _ abl;let⟨x,y,sz⟩:=n;let⟨bx,by',bs⟩:=K'.nk _ _ hn;simp only[zz,c7 I5.ndE (Jk ab0 hn)];unfold nA;simp only[zz];have md0:0<=(sv+fs).fmod 3:=Kq AC;have md3:(sv+fs).fmod 3<3:=Mn AC;let⟨c1,hc1,ec1⟩:=b60 (a:=1) (b:=4) (c:=1) md0 md3;let⟨c2',hc2,ec2⟩:=b60 (a:=1) (b:=1) (c:=4) md0 md3;have c1b:1<=c1/\c1<=4:=by rcases hc1 with h | h | h <;> rw[h] <;> decide
   have c2b:1<=c2'/\c2'<=4:=by rcases hc2 with h | h | h <;> rw[h] <;> decide
   clear hc1 hc2;have fd:∀{i:Int} (n:Int),0<=n->i.fdiv n=i / n:=λn h=>Int.fdiv_eq_ediv_of_nonneg _ h;have b64:∀{i:Int},i.natAbs<=100000->ZLk:=ZKg;have szb:2<=sz/\sz<=512:=by simp only at bs;lia
   have q8:0<=sz.fdiv 8/\sz.fdiv 8<=64:=by rw[fd 8 AC];lia
   have q64:0<=sz.fdiv 64/\sz.fdiv 64<=8:=by rw[fd 64 AC];lia
   show B0 rfl AC ZGE le3 (λp6 hp6=>?_);have I6:=I5.nw (Cr (Do [ZEc,BR 4,ZEc]) hp6);rw[c7 ak ec1];show BH ZE9 ZGE (RQ I6.g (λd1 M7 d10 d11 g7 s7=>?_));have I7:=I6.dr S g7 s7;show Pk ZE9;simp only[zz];show BH ZGE le3 (λp8 hp8=>?_);have I8:=I7.nw (Cr (Do [ZEc,ZEc,BR 4]) hp8);rw[c7 ak ec2];show BH ZE9 ZGE (RQ I8.g (λd2 M9 d20 d21 g9 s9=>?_));have I9:=I8.dr S g9 s9;show Pk ZE9;simp only[zz];show A3 ZGE (Db ⟨o5,_,_,_,_,_,_,rfl,I9,SY,?_,?_⟩)
   .unfold L3.putA at hp;split at hp
    .let⟨z,hz,rfl⟩:=BL hp;split
     .show Sf _ Ab Ab
     .show K'.kv z hz
    .rcases List.mem_append.mp hp with h | h
     .show K'.kv p h
     .rw[List.mem_singleton.mp h];show Sf _ Ab Ab
   .have:=ab6 kvs ZKF (BR (sv+1));lia
   .simp only at bx by' bs;have i3:ab.toNat<=3/\ab.toNat+1<=j:=by lia
    rw[fd 8 AC,fd 64 AC,fd 4 AC];rcases bs with rfl|⟨rfl,b⟩|⟨rfl,b⟩|⟨rfl,b⟩|⟨rfl,b⟩
    .show BH (by simp only;lia) (by simp only;lia) (CK (FK ZK2))
    .show BH (by simp only;lia) (by simp only;lia) (ZIc (FK ZK2))
    .show BH (by simp only;lia) (by simp only;lia) (CK (ZIc (FK ZK2)))
    .show BH (by simp only;lia) (by simp only;lia) (CK (ZIc (Eh ZK2)))
    .lia
  rintro _ M5 ⟨o,kvs,x,y,sz,z3,z4,rfl,I5,kv,kl,nk⟩;have nl:=K'.nl;have szb:2<=sz/\sz<=512:=by have:=nk.2.2;simp only at this;lia
  have xb:=nk.1;have yb:=nk.2.1;simp only at xb yb;have I6:=I5.putN S (ns':=ns++[(x,y,sz)]);rw[List.map_append] at I6;show UX (λs' M6=>s'=[Pt,ZAN,ZAO,Rh,ZAP,U0,ZCp,z3,z4,ZA6,ZA7,ZKr,z8,z9]/\Nu M5 nd (ZKL++[nA (x,y,sz)])=M6)
  .simp only[zz,jy I5.ndE,true_and,j6 I5.ndE,List.length_map];show WX le3 ZKU
  rintro _ _ ⟨rfl,rfl⟩;show UX (λs' M7=>∃R,put M5 nd (Bc (ZKL++[nA (x,y,sz)])) R=none/\s'=[Pt,ZAN,ZAO,Rh,ZAP,U0,ZCp,z3,z4,ZA6,ZA7,ZKr,NO R,z9]/\OH (Nu M5 nd (ZKL++[nA (x,y,sz)])) R [ZEK x y,ZEK (x+sz) y,ZEK x (y+sz)]=M7)
  .simp only[zz,↓qh];show IZ AC Bd.small AC Bd.small AC Bd.small le3 (λR hR=>Db (Vh R hR))
  rintro _ _ ⟨R,hR,rfl,rfl⟩;have I7:=I6.nw (Cr (Do [ZEK x y,ZEK (x+sz) y,ZEK x (y+sz)]) hR);have RF:∀{M9:MA} {c:Addr},Ne' M M9 hd sc nd tk L [l0,l1,l2] o kvs (ns++[(x,y,sz)]) rss->M9 c=none->¬NeF M nd tk L [l0,l1,l2] c:=λ{M9 c} I9 hc f=>by
   rcases f with f|f|f|f|f
   .show f (by
     cases e:M c with
     | none=>rfl
     | some o=>rw[I9.s _ _ e λz=>by rw[z] at hc;let⟨xs,h⟩:=I9.g.ls;rw[h] at hc;cases hc] at hc;cases hc)
   .rw[f,I9.ndE] at hc;cases hc
   .rw[f,I9.tkE] at hc;cases hc
   .rw[f,I9.LE] at hc;cases hc
   .let⟨i,hi⟩:=A9 f;let⟨rs,_,bs,hb,_⟩:=cn I9.pr hi;rw[hb] at hc;cases hc
  have hr0:RlF (NeF M nd tk L [l0,l1,l2]) (OH (Nu M5 nd (ZKL++[nA (x,y,sz)])) R [ZEK x y,ZEK (x+sz) y,ZEK x (y+sz)]) R [Ue x y,Ue (x+sz) y,Ue x (y+sz)]:=A3 (RF I6 hR) ak;have tri:=b87 (x:=x) (y:=y) (s:=sz) Ab Ab Ab szb.2;show UX (λs' M8=>∃(R:Addr) (r:List Pt3),s'=[Pt,ZAN,ZAO,Rh,ZAP,U0,ZCp,z3,z4,ZA6,ZA7,ZKr,NO R,z9]/\Ne' M M8 hd sc nd tk L [l0,l1,l2] o kvs (ns++[(x,y,sz)]) rss/\RlF (NeF M nd tk L [l0,l1,l2]) M8 R r/\ZLR/\r.length<=3)
  .simp only[zz];show RQ I7.g (λn8 M8 a8 b8 g8 s8=>?_);have I8:=I7.dr S g8 s8;have hr8:=hr0.mv (F':=NeF M nd tk L [l0,l1,l2]) (s8.toF ZKJ) ZBD;simp only[zz];show ZAk (U6 hr8.2 (λR2 hR2=>?_)) (BQ (Db (OD R _ I8 hr8 tri Aq)));rw[<-List.map_reverse];show Db (OD R2 _ (I8.nw (Bl hR2)) (A3 (RF I8 hR2) ak) tri.rev Aq)
  rintro _ M8 ⟨R,r,rfl,I8,hr8,rok,rl3⟩;simp only[zz];show RQ I8.g (λat0 M9 a9 b9 g9 s9=>?_);have I9:=I8.dr S g9 s9;have hr9:=hr8.mv (F':=NeF M nd tk L [l0,l1,l2]) (s9.toF ZKJ) ZBD;have getL:∀{i:Int},0<=i->i<3->∃a bs rs,[l0,l1,l2][i.toNat]?=RS/\rss[i.toNat]?=Af rs/\M9 a=ZCq/\Zb (NeF M nd tk L [l0,l1,l2]) M9 bs rs:=λ{i} h0 h3=>by
   obtain⟨a,ha⟩:∃a,[l0,l1,l2][i.toNat]?=some a:=QP _ (by simp;lia);let⟨rs,h1,bs,h2,h3⟩:=cn I9.pr ha;show Cu a bs rs ha h1 h2 h3
  show p9 (MB (∃i:Int,0<=i/\i<3/\s'=[Pt,ZAN,ZAO,Rh,ZAP,U0,ZCp,z3,z4,ZA6,ZA7,ZKr,NO R,Wq]/\M9=M'/\(n=0->∀rs,rss[i.toNat]?=Af rs->rs.length≠4))) (n:=1) (Re at0 a9 b9 rfl nofun) ?_;rintro n _ _ N2 ⟨i,i0,i3,rfl,rfl,hi⟩ hN2;let⟨a,bs,rs,ha,hrs,hb,hpb⟩:=getL i0 i3;have hbl:=cu hpb;have rs4:rs.length<=j:=by
   rw[<-K'.sum];show zk (E2 (Oo rs ZJt))
  simp only[zz,c7 I9.LE (Jk i0 ha),ju hb,List.length_map];show ife Ot Ot
  .have n1:n≠0:=BT (hi z rs hrs Ab);have md0:0<=(i+1).fmod 3:=Kq AC;have md3:(i+1).fmod 3<3:=Mn AC;show A3 AC (hN2 0 _ _ Ab (Re _ md0 md3 rfl (λy_ rs' h4 e4=>?_)));have ne:i.toNat≠((i+1).fmod 3).toNat:=by
    rw [Int.fmod_eq_emod_of_nonneg _ (by decide)]
    lia
   have:=b89 (l:=Uv) ne (by rw[List.getElem?_map,hrs];rfl) (by rw[List.getElem?_map,h4];rfl);have:=K'.sum;lia
  .simp only[zz,c7 I9.LE (Jk i0 ha),jy hb,true_and,j6 hb,List.length_map];have I10:=I9.putL S ha hb hpb hr9;show XR (DU ⟨o,kvs,_,_,_,_,_,_,_,_,_,_,_,rfl,I10,Dt kv kl (by simp;lia) ?_ (by rw[bx1 hrs,K'.sum]) ?_⟩)
   .intro i' n' hn';by_cases h:i'<ns.length
    .rw[List.getElem?_append_left h] at hn';show K'.nk i' n' hn'
    .rw[List.getElem?_append_right Ab] at hn';have:i' - ns.length=0:=by
      rcases Nat.eq_zero_or_pos (i' - ns.length) with e|e
      .show e
      .rw[List.getElem?_eq_none (by simp;lia)] at hn';cases hn'
     rw[this] at hn';have e1:i'=j:=by lia
     have e2:(x,y,sz)=n':=by simpa using hn'
     rw[e1,<-e2];show nk
   .intro rs' h' r' hr';rcases List.mem_or_eq_of_mem_set h' with h|h
    .show K'.rk rs' h r' hr'
    .rw[h] at hr';rcases List.mem_append.mp hr' with h|h
     .show K'.rk rs ZJt r' h
     .rw[List.mem_singleton.mp h];show⟨rok,rl3⟩
 .rintro _ M3 ⟨o,kvs,ns,rss,z1,z2,z3,z4,z5,z6,z7,z8,z9,rfl,I,K'⟩;simp only[zz,fi I.LE];intro D hD;have hl3:=cu I.pr;have ez:[Ej l0,Ej l1,Ej l2]=([l0,l1,l2].zip rss).map (B5 (Ej p.1)):=by
   have e1:([l0,l1,l2].zip rss).map Prod.fst=[l0,l1,l2]:=Ja Ab;have e2:(([l0,l1,l2].zip rss).map Prod.fst).map A.ref=[Ej l0,Ej l1,Ej l2]:=by rw[e1];rfl
   rw[List.map_map] at e2;show e2.symm
  have LE':M3 L=SO [Ej l0,Ej l1,Ej l2]:=I.LE;rw[ez];show xu 1 (B5 (Cd (0<p.2.length))) (B5 (Ej p.1)) (by rw[List.length_zip];simp;lia) (Gh (by rw[<-ez];show SmB.of_new hD s _ _ LE')) ?_ ?_
  .rintro⟨a,rs⟩ hp vs M' ys N Y hv s hD' hN hY;let⟨v,rfl⟩:=V2;let⟨i,hi⟩:=A9 hp;let⟨h1,h2⟩:=vb hi;let⟨rs',e1,bs,hb,hpb⟩:=cn I.pr h1;have ers:rs'=rs:=BW ZHA;subst ers;have hbl:=cu hpb;simp only[zz,ju (Ei hD s hb),List.length_map];show ifd (BQ (ZFX (IF (by change 0<rs'.length;lia)) [ZKq] DL)) (BQ (ZFY (Eg (by change ¬0<rs'.length;lia)) [ZKq] DL))
  intro M4 s4 hD4;have s34:=EB hD s4;have I4:=I.nw s34;have DM:M D=none:=by
   cases e:M D with
   | none=>rfl
   | some o=>rw[I.s _ _ e λz=>by rw[z] at hD;let⟨xs,h⟩:=I.g.ls;rw[h] at hD;cases hD] at hD;cases hD
  show k D M4 ((([l0,l1,l2].zip rss).filter (B5 (Cd (0<p.2.length)))).map (·.2)) I4.g I4.s (WC (Ma (f DM)) ((([l0,l1,l2].zip rss).filter (B5 (Cd (0<p.2.length)))).map (·.1)) (by rw[hD4,List.map_map];rfl)) ?_
  .show jm (by rw[List.length_map,List.length_map]) ZJn;rw[List.getElem?_map] at ha;cases ei:(([l0,l1,l2].zip rss).filter (B5 (Cd (0<p.2.length))))[i]? with
   | none=>rw[ei] at ha;cases ha
   | some p=>
    rw[ei] at ha;have:=BW ha;subst this;show Qs p.2 (by rw[List.getElem?_map,ei];rfl);let⟨j,hj⟩:=List.getElem?_of_mem (ZY ei).1;let⟨h1,h2⟩:=vb hj;let⟨rs',e1,bs,hb,hpb⟩:=cn I4.pr h1;have ers:rs'=p.2:=BW ZHA;subst ers;show By (Ma (f (S.n4 _ ZCN))) bs hb (Xm hpb (A3 (Ma (x.1 (CD f))) x.2))
  .have mem:∀rs∈(([l0,l1,l2].zip rss).filter λp=>decide (0<p.2.length)).map (·.2),rs∈rss/\0<rs.length:=λrs h=>by
    let⟨p,hp,rfl⟩:=BL h;let⟨h1,h2⟩:=BS hp;show A3 ((HK p.1 p.2 h1).2) (Dx h2)
   show BH ?_ (λrs h=>Pk ((mem rs h).2)) (Hw (K'.rk rs (mem rs h).1 r hr))
   .rw[List.length_map];show Jx ((List.length_filter_le ..)) ?_;rw[List.length_zip];simp;lia
   .have:=zk (List.mem_map.mpr ⟨rs,(mem rs h).1,rfl⟩:rs.length∈rss.map List.length);have:=K'.sum;lia
structure DwOk (lys:List (List (List Pt3))):Prop where
 la:lys.length<=3
 lb:∀rs∈lys,rs.length<=5/\(ZJR).length<=15
 lc:∀rs∈lys,∀r∈rs,ZLR/\r.length<=5
def Φ_l_drawn:SpA:=c2 λa b M q=>∃(hd sc:Addr) (m:Int),a=.ref hd/\b=.int m/\Hd M hd sc/\7<=m/\m<=9/\∀l M' lys,Hd M' hd sc->SmB hd M M'->LyF (λx=>M x≠none) M' l lys->DwOk lys->q (.ref l) M'
def av5:OM QX QX dW:=PJ
def ax4 (T:Txt K mg t):FnOk P w K mg base CX0 7 t.pR t.pS ["_law_hand_here","_law_most"] (upF (GG K P w t fx scr) Φ_l_drawn):=by
 show ZCu 6 T.uO.F av5 (Vn (Qk ZLd (WO T.uN (be8 T) 0)) (PZ T.uM (ap5 T) 0 1));intro a b M q h0;let⟨hd,sc,m,rfl,rfl,g0,m7,m9,k⟩:=h0;show PC [A8,A8];simp only[zz];show RQ g0 (Fb ?_);simp only[zz];have hdo:M1 hd≠none:=by let⟨xs,h⟩:=g1.ls;rw[h];nofun
 have mv:∀{M':MA} {l:Addr} {lys:List (List (List Pt3))},LyF (λx=>M1 x≠none) M' l lys->LyF (λx=>M x≠none) M' l lys:=λh=>h.mv (λa o e y_=>e) λa f=>.inl (by
  by_cases z:a=hd
  .rw[z];show hdo
  .cases e:M a with
   | none=>show absurd e f
   | some o=>rw[s1 _ _ e z];nofun)
 show ZLZ (Pf hd sc g1 (Lu (k l M' lys g (DA s) (mv h) ?_))) (IV hd sc m rfl rfl g1 m7 m9 (Lu (k l M' lys g (DA s) (mv h) ?_)))
 .show BH ok.la (λrs hr=>Pk ((ZLa).2)) (Hw (A3 ((ZFa h r hr).1) (by have:=(ZFa h r hr).2;lia)));have:=ad9 λr h=>(ZFa hr r h).2;have:=(ZLa).2;lia
 .show BH ok.la (λrs hr=>Pk (by have:=(ZLa).2;lia)) (Hw (ZFa h r hr));have:=ad9 λr h=>(ZFa hr r h).2;have:=(ZLa).2;lia
def iW (m n s c a b:Int):Prop:=1<=m/\m<=3/\-2<=n/\n<=2/\-2<=s/\s<=2/\1<=c/\c<=3/\-20<=a/\a<=20/\-20<=b/\b<=20
def Φ_l_slant:SpA:=c1 λa M q=>∃(hd sc:Addr),a=.ref hd/\Hd M hd sc/\∀r M' m n s c a b,Hd M' hd sc->SmB hd M M'->M r=none->iW m n s c a b->M' r=some (.lst [.int m,.int n,.int (s*m),.int (s*n+c),.int a,.int b])->q (.ref r) M'
def nh:OM ["_law_hand_here","_law_m","_law_n","_law_q","_law_s"] Of dQ:=PJ
def ax2 (T:Txt K mg t):FnOk P w K mg base CX0 4 t.pV t.pW ["_law_hand_here"] (upF (GG K P w t fx scr) Φ_l_slant):=by
 show Zm 3 T.uQ.F nh (OF 1 nh.nd ZLT (OF 2 nh.nd (TC c8 XC) (OF 3 nh.nd ZLT (ZEs 4 nh.nd (TC c8 XC) (Bb (NM 1 (NM 2 (AU (O2 bu 4 Qe) (SN (Xo (O2 bu 4 RR) Qy) (TC c8 XC) (TC c8 XC) cb cb cb) cb))))))));intro a M q h0;let⟨hd,sc,rfl,g0,k⟩:=h0;show PC [A8,none,none,none,none];simp only[zz];show RQ g0 (L8 ?_);simp only[zz];show RQ g1 (λn M2 n0 n1 g2 s2=>?_);simp only[zz];show RQ g2 (λc M3 c0 c1 g3 s3=>?_);simp only[zz];show RQ g3 (λs M4 s0 s1' g4 s4=>?_);simp only[zz];have b64:∀{i:Int},i.natAbs<=100000->ZLk:=ZKg;show BH (ZEt (b64 (by grind))) ZE9 (RQ g4 (λa M5 a0 a1 g5 s5=>?_));simp only[zz];show RQ g5 (λb M6 b0 b1 g6 s6=>?_);simp only[zz];have sM:ZDT M M6:=DA (E1 (G0 (LP (s5.trans s6))));show A3 le6 (Gn (k r _ (1+m) (n - 2) (s - 2) (1+c) (a - 20) (b - 20) (g6.same ZFj) (sM.trans (ZFj).toB) ?_ ⟨Ab,Ab,Ab,Ab,Ab,Ab,Ab,Ab,Ab,Ab,Ab,Ab⟩ ak));cases e:M r with
 | none=>rfl
 | some o=>rw[sM _ _ e λz=>by rw[z] at hr;let⟨xs,h⟩:=g6.ls;rw[h] at hr;cases hr] at hr;cases hr
def slP (m n s c a b:Int)(p:Pt3):Pt3:=pbF (m*p.x+n*p.y+a*p.z) (s*m*p.x+(s*n+c)*p.y+b*p.z) p.z
def Φ_l_slanted:SpA:=c2 λu v M q=>∃(r:Addr) (m n s c a b:Int) (p:Pt3),u=.ref r/\v=Pa p/\iW m n s c a b/\M r=some (.lst [.int m,.int n,.int (s*m),.int (s*n+c),.int a,.int b])/\Sz 64 p/\0<p.z/\q (Pa (slP m n s c a b p)) M
def qt:OM ["_law_slant_here","_law_p","_law_a","_law_b"] ZIC cC:=PJ
def wg (T:Txt K mg t):FnOk P w K mg base CX0 3 t.qG t.qH ["_law_slant_here","_law_p"] (upF (GG K P w t fx scr) Φ_l_slanted):=by
 show ZCu 2 T.uV.F qt (OF 2 qt.nd (Q7 cp (SU cp 0 1 0 1) 0 1) (ZEs 3 qt.nd (Q7 cp (SU cp 0 1 0 1) 0 1) (N0 T.uI ZCF 2 (Q8 3 (Nc 1) bp))));intro u v M q h0;let⟨r,m,n,s,c,a,b,p,rfl,rfl,ok,hr,sz,z0,k⟩:=h0;show PC [A8,A8,none,none];simp only[zz,↓g60 hr,↓g61 hr,↓g62 hr,↓g63 hr,↓g64 hr,↓g65 hr,↓qh];let⟨o1,o2,o3,o4,o5,o6,o7,o8,o9,o10,o11,o12⟩:=ok;have b64:∀{i:Int},i.natAbs<=100000->ZLk:=ZKg;have sm:(s*m).natAbs<=6:=by
  rw[Int.natAbs_mul];show Nat.mul_le_mul (show s.natAbs<=2 by lia) (show m.natAbs<=3 by grind)
 have sn:(s*n).natAbs<=4:=by
  rw[Int.natAbs_mul];show Nat.mul_le_mul (show s.natAbs<=2 by lia) (show n.natAbs<=2 by lia)
 show IV (Oy (b64 (by grind)) sz.x) (ZEt sz.y) (ZEt sz.z) (ZEt sz.x) (ZEt sz.y) (ZEt sz.z) z0 (sz.z.mono AC) k
def Φ_l_whole:SpA:=c1 λa M q=>nm a λy_=>q (.bl true) M
def ag1 {i:Int}{M:MA}:Φ_l_whole [.int i] M q=q (.bl true) M:=rfl
def av3:OM Zp Zp dN:=PJ
def ac3 (T:Txt K mg t):FnOk P w K mg base CX0 1 t.tT t.tU ["_law_thing"] (upF (GG K P w t fx scr) Φ_l_whole):=by
 show Zm 0 T.vI.F av3 (Nr (EL (Oj vz AB T.vQ (Q8 0 (Fa T.vP PyProof.Rows.boot_int AB AC AC) ac) AC AC AB AB) (FE (DS (Oj vz AB T.vQ (Q8 0 (Fa T.vM PyProof.Rows.boot_bool AB AC AC) ac) AC AC AB AB)))));intro a M q h0;let⟨i,rfl,h⟩:=ZJk;show PC [A8];simp only[zz];show IV _ _ rfl Nn _ _ rfl Nn h
def iU (kvs:Au (A×A))(m:Nat)(val:Int->Int->NX):Prop:=∀i j,(QZ (ipA (i,j))).getD (ipT ZD)=ipT Ss
def Φ_l_value:SpA:=c4 λa b c d M q=>∃(D:Addr) (o:Obj) (kvs:List (A×A)) (m:Nat) (val:Int->Int->List Int) (i j:Int),a=.ref D/\b=.int m/\c=.int i/\d=.int j/\M D=some (.dct 1 o kvs)/\iU kvs m val/\m<=100/\∀M',Sm M M'->q (ipT (val i j)) M'
def ui (m:Nat):(B1 m).map (A0 (Er 0))=(ZD).map A.int:=by
 rw[List.map_replicate];show FC Aq (JN Aq)
def ar2 (h:m<=100):m<=sizeLine:=Bq h AC
def av4:OM ZLF ZLF dO:=PJ
def vq (T:Txt K mg t):FnOk P w K mg base CX0 1 t.pX t.pY ["_law_values_here","_law_many","_law_i","_law_j"] (upF (GG K P w t fx scr) Φ_l_value):=by
 show Pl 0 T.uR.F av4 ZCD (Nr (@bb1 _ _ _ _ _ _ _ _ _ _ hr.units PM (Wj 2 3) (ZIt jj AB (cq Q6 [] [] rfl ZE5 (ZLU ((["_law_k"]:List Str).Nodup)) QE ZJ6 RY rfl AD AD Caught.nil rfl Nn rfl) AC AC AB AB) (M2.mk rfl rfl rfl rfl) AB AB)) Wy;intro a b c d M q h0;let⟨D,o,kvs,m,val,i,j,rfl,rfl,rfl,rfl,hD,hv,hm,k⟩:=h0;show PC [A8,A8,A8,A8];simp only[zz,↓bt7];show⟨D,_,_,_,rfl,hD,le2,Aq,Ab,ZF0⟩;rw[Int.toNat_natCast,j8];show ZHw 1 (A0 (Er 0)) (by rw[List.length_range];show ar2 hm)
 .rintro x hx vs o' Y hv' hY;let⟨v,rfl⟩:=We;have:=RO [ZA6];simp only[zz];show this
 rw[ui];simp only[zz,n6 (C2 M d1 (Bc ((ZD).map A.int)))];show Dt _ _ _ (Bz hd1 hD) rfl ?_;have:=hv i j;rw[show A.tup [.int i,.int j]=ipA (i,j) from rfl,show A.tup ((ZD).map A.int)=ipT ZD from rfl,this];show k _ ZEf
structure ValOk (m:Nat)(W H:Int)(val:Int->Int->List Int):Prop where
 len:∀i j,(Ss).length=m
 out:∀i j,¬(0<=i/\i<W/\0<=j/\j<H)->Ss=ZD
def Φ_l_values:SpA:=c4 λa b c d M q=>∃(hd sc:Addr) (m:Nat) (W H:Int),a=.ref hd/\b=.int m/\c=.int W/\d=.int H/\Hd M hd sc/\m<=100/\0<=W/\W<=9/\0<=H/\H<=9/\∀D o kvs M' val,Hd M' hd sc->SmB hd M M'->M D=none->M' D=some (.dct 1 o kvs)->iU kvs m val->ValOk m W H val->q (.ref D) M'
abbrev Ve:=(Int×Int)×NX
def veA (e:Ve):A×A:=(ipA e.1,ipT e.2)
def pi:OM ["_law_hand_here","_law_many","_law_wide","_law_high","_law_values_here","_law_i","_law_j"] (QD "_law_hand_here" "_law_wide" "_law_high") cS:=PJ
def ap2 (T:Txt K mg t):FnOk P w K mg base CX0 4 t.qB t.qC ["_law_hand_here","_law_many","_law_wide","_law_high"] (upF (GG K P w t fx scr) Φ_l_values):=by
 show Pl 3 T.uT.F pi ZCD (Sq 4 pi.nd ae7 (XD (Vr 2) 5 pi.nd (Am (XD (Vr 3) 6 pi.nd (Am (ZFp (ZIt jj AB (cq Q6 [("_law_hand_here",s.heap.objs.size+1,0)] [0] rfl ZE5 (ZLU ((["_law_k","_law_hand_here"]:List Str).Nodup)) QE (Oz (XB 1)) rfl rfl AD AD UW rfl Nn rfl) AC AC AB AB) Si (Wj 5 6)))))) Si) Wy;intro a b c d M q h0;let⟨hd,sc,m,W,H,rfl,rfl,rfl,rfl,g0,hm,w0,w9,hh0,hh9,k⟩:=h0;have sL:100000<sizeLine:=by decide
 show PC [A8,A8,A8,A8,none,none,none];simp only[zz];show BH 1 AC (λD o0 hD=>Qs Ab Ab);have Dhd:=g0.fresh hD;show r9 W.toNat rfl (CP (∃(o:Obj) (es:List Ve) (z1 z2:Option A),s'=[Pt,RV,ZEr,ZEq,UR,z1,z2]/\VC/\QG hd M/\VT=Af (Fm 1 o ZEm)/\es.length<=i*9/\∀e∈es,e.2.length=m/\0<=e.1.1/\e.1.1<W/\0<=e.1.2/\e.1.2<H)) ⟨o0,[],_,_,rfl,g0.same W2,(W2).toB,ak,Bh,ip⟩ ?_ ?_
 .rintro i _ M1 N hi ⟨o,es,z1,z2,rfl,g1,s1,hD1,el,ek⟩ hN;simp only[zz];show ZBI (r9 H.toNat rfl (EZ (∃(o:Obj) (es:List Ve) (z2:Option A),s'=[Pt,RV,ZEr,ZEq,UR,Wq,z2]/\VC/\QG hd M/\VT=Af (Fm 1 o ZEm)/\es.length<=i*9+j/\∀e∈es,e.2.length=m/\0<=e.1.1/\e.1.1<W/\0<=e.1.2/\e.1.2<H)) (IV o es _ rfl g1 s1 hD1 (by omega) ek) ?_ ?_)
  .rintro j _ M2 N2 hj ⟨o,es,z2,rfl,g2,s2,hD2,el,ek⟩ hN2;simp only[zz];show WX Aq (IJ ?_);rw[Int.toNat_natCast,j8];have DM:M d3=none:=by
    cases e:M d3 with
    | none=>rfl
    | some o=>rw[s2 _ _ e λz=>by rw[z] at hd3;let⟨xs,h⟩:=g2.ls;rw[h] at hd3;cases hd3] at hd3;cases hd3
   have d3hd:=g2.fresh hd3;show ay3 (λl ys s' M'=>∃(z:Option A) (ns:List Int),s'=[z,Pt]/\VC/\ZDT (Qb M2 d3) (Qb M' d3)/\M' d3=WM/\ys=PQ/\ns.length=l/\l<=m) (IV none [] rfl (g2.same ZKH) (by rw[pp];show SmB.refl _ _) ak rfl rfl Bh) (ED trivial) ?_ ?_
   .rintro l x ys s' M' N3 Y hx ⟨z,ns,rfl,g3,s3,hd33,rfl,hl,hlm⟩ hN3 hY;let⟨l',hl',rfl⟩:=SX;have ll:=(Ag hl').1;rw[List.length_range] at ll;simp only[zz];show RQ g3 (λv M4 v0 v1 g4 s4=>Jz (s4 _ _ hd33 d3hd.1) (by rw[List.length_map];lia) (IV _ (ns++[v]) rfl (g4.put d3hd) ?_ (by rw[ak]) (by rw[List.map_append];rfl) (by simp;omega) Ab));rw[pp];show s3.trans λb u e n=>?_;by_cases eb:b=d3
    .subst eb;rw[ak] at e ⊢;show e
    .rw[cf eb] at e ⊢;show s4 _ _ e n
   .rintro ys s' M' ⟨z,ns,rfl,g3,s3,hd33,rfl,hl,hlm⟩;rw[List.length_map,List.length_range] at hl;simp only[zz,n6 hd33];have d3D:D≠d3:=db hD2 hd3;have hD3:VT=Af (Fm 1 o ZEm):=by
     have:=Ib (Bz hd3 hD2) Dhd.1;rw[cf d3D] at this;show this
    rw[an7 hD3];have ep:L3.putA ZEm (ipA ((i:Int),(j:Int))) (ipT ns)=_:=bl5 bq8 ipT es ((i:Int),(j:Int)) ns;show Sf le2 (by rw[List.length_map];lia) (λo'=>GY (IV o' _ _ rfl (g3.put Dhd) ?_ (by rw[ak];show congrArg (Bi (Af (O.dct 1 o' x))) ep) ?_ ?_))
    .intro b u e n;have bD:b≠D:=db e hD;have bd:b≠d3:=db e DM;rw[cf bD];have:=s3 b u (by rw[cf bd];show s2 _ _ e n) n
     rwa [cf bd] at this
    .split
     .rw[List.length_map];lia
     .rw[List.length_append];simp;lia
    .have new:ns.length=m/\0<=(i:Int)/\(i:Int)<W/\0<=(j:Int)/\(j:Int)<H:=B0 hl Ab Ab Ab Ab;intro e he;split at he
     .let⟨x,hx,rfl⟩:=BL he;split
      .show A3 hl ((ek x hx).2)
      .show ek x hx
     .rcases List.mem_append.mp he with h|h
      .show ek e h
      .rw[List.mem_singleton.mp h];show new
  .rintro _ M2 ⟨o,es,z2,rfl,g2,s2,hD2,el,ek⟩;show DU ⟨o,es,_,_,rfl,g2,s2,hD2,Ab,ek⟩
 .rintro _ M1 ⟨o,es,z1,z2,rfl,g1,s1,hD1,el,ek⟩;simp only[zz];have gm:∀i j,aH ZEm (ipA (i,j))=((Jm (T8 (x.1=(i,j)))).map (·.2)).map ipT:=CL (al3 bq8 ipT es (i,j));show k D o _ M1 (CL (((Jm (T8 (x.1=(i,j)))).map (·.2)).getD ZD)) g1 s1 hD hD1 (CL ?_) (A3 (CL ?_) (λi j h=>?_))
  .rw[gm];simp only;cases (Jm (T8 (x.1=(i,j)))) <;> rfl
  .cases e:(Jm (T8 (x.1=(i,j)))) with
   | none=>simp
   | some x=>show (ek x (Ex e)).1
  .cases e:(Jm (T8 (x.1=(i,j)))) with
   | none=>rfl
   | some x=>
    exfalso;have h1:=ek x (Ex e);have h2:x.1=(i,j):=by have:=List.find?_some e;simpa using this
    rw[h2] at h1;show h (By h1.2.1 h1.2.2.1 h1.2.2.2.1 h1.2.2.2.2)
def Φ_l_strokes:SpA:=c4 λa b c d M q=>∃(D:Addr) (o:Obj) (kvs:List (A×A)) (m:Nat) (val:Int->Int->List Int) (W H:Nat),a=.ref D/\b=.int m/\c=.int W/\d=.int H/\M D=some (.dct 1 o kvs)/\iU kvs m val/\(∀i j,(val i j).length=m)/\m<=100/\W<=9/\H<=9/\∀l M',M l=none->Sm M M'->M' l=some (.lst ((cJ m val (W+1) (H+1)).map stA))->q (.ref l) M'
def aa9 {l:NX}{k:Nat}{M:MA}(h:k<l.length):Ft (ipT l) (.int (k:Int)) M q=q (BR (l.getD k 0)) M:=by
 unfold ipT;rw[b72,cy (n:=l.getD k 0) (by rw[List.getD_eq_getElem?_getD,List.getElem?_eq_getElem h];rfl)]
def gf:OM ["_law_values_here","_law_many","_law_wide","_law_high","_law_strokes_here","_law_i","_law_j","_law_here","_law_west","_law_under","_law_up","_law_right"] (Qx "_law_wide" "_law_high") cB:=PJ
def ak6 (T:Txt K mg t):FnOk P w K mg base CX0 2 t.pZ t.qA ["_law_values_here","_law_many","_law_wide","_law_high"] (upF (GG K P w t fx scr) Φ_l_strokes):=by
 show Pl 1 T.uS.F gf ZCD (Sq 4 gf.nd Rr (ZGL (ZBE 2) cb 5 gf.nd (Am (ZGL (ZBE 3) cb 6 gf.nd (OB 7 gf.nd Qq (ZBh T.uR (vq T) 0 1 (Pn 5 6)) (OB 8 gf.nd Qq (ZBh T.uR (vq T) 0 1 (Ux (ST c8 5) 6 cb)) (OB 9 gf.nd Qq (ZBh T.uR (vq T) 0 1 (Q8 5 (ST c8 6) cb)) (OF 10 gf.nd (ZIt jj AB (cq Q6 [("_law_west",s.heap.objs.size+2,8),("_law_here",s.heap.objs.size+1,7)] [8,7] rfl ZE5 (ZLU ((["_law_k","_law_west","_law_here"]:List Str).Nodup)) QE (Oz (AZ c8 (NS 1 PM) (NS 2 PM))) rfl rfl AD AD (Cc Q5 UW) rfl Nn rfl) AC AC AB AB) (O6 11 gf.nd (ZIt jj AB (cq Q6 [("_law_under",s.heap.objs.size+3,9),("_law_here",s.heap.objs.size+1,7)] [9,7] rfl ZE5 (ZLU ((["_law_k","_law_under","_law_here"]:List Str).Nodup)) QE (Oz (AZ c8 (NS 2 PM) (NS 1 PM))) rfl rfl AD AD (Cc Q5 UW) rfl Nn rfl) AC AC AB AB) (Pv (P7 Oq 10 (ZIt jj AB (cq Q6 [] [] rfl ZE5 (ZLU ((["_law_k"]:List Str).Nodup)) QE ZJ6 RY rfl AD AD Caught.nil rfl Nn rfl) AC AC AB AB)) (ZKy Si (Nj (BB (AU (BB (NM 5 (Q8 6 ae bn))) (Ux (BB (NM 5 (PY (ZBE 6) ae bn cb))) 10 jx) jx)) jx))) (ZIZ (P7 Oq 11 (ZIt jj AB (cq Q6 [] [] rfl ZE5 (ZLU ((["_law_k"]:List Str).Nodup)) QE ZJ6 RY rfl AD AD Caught.nil rfl Nn rfl) AC AC AB AB)) (ZKy Si (Nj (BB (AU (BB (NM 5 (Q8 6 ae bn))) (Ux (BB (AU (ZBE 5) (Q8 6 ae bn) cb)) 11 jx) jx)) jx))))))))))) Si) Wy;intro a b c d M q h0;let⟨D,o,kvs,m,val,W,H,rfl,rfl,rfl,rfl,hD,hv,hl,hm,hW,hH,k⟩:=h0;have sL:100000<sizeLine:=by decide
 show PC [A8,A8,A8,A8,none,none,none,none,none,none,none,none];simp only[zz];show S7 (λL hL=>Qs Ab Ab);have LD:D≠L:=db hD hL;show r9 (W+1) Ab (CP (∃(z1 z2 z3 z4 z5 z6 z7:Option A),s'=[UR,RV,ZEr,ZEq,Rh,z1,z2,z3,z4,z5,z6,z7]/\Td/\M' L=NZ ((Y3 m i (H+1)).map stA))) ⟨_,_,_,_,_,_,_,rfl,ZKG,ak⟩ ?_ ?_
 .rintro i _ M1 N hi ⟨z1,z2,z3,z4,z5,z6,z7,rfl,s1,hL1⟩ hN;simp only[zz];have al:=ww m val (H+1) i;have al2:2*(H+1)*i<=2*10*10:=Fp Ab Ab;show ZBI (r9 (H+1) Ab (EZ (∃(z2 z3 z4 z5 z6 z7:Option A),s'=[UR,RV,ZEr,ZEq,Rh,Wq,z2,z3,z4,z5,z6,z7]/\Td/\M' L=NZ ((Y3 m i (H+1)++ZDW m i j).map stA))) (IV _ _ _ _ _ _ rfl s1 (by rw[hL1];simp[dC])) ?_ ?_)
  .rintro j _ M2 N2 hj ⟨z2,z3,z4,z5,z6,z7,rfl,s2,hL2⟩ hN2;have rl:=ad7 m val i j;simp only[oa,List.set_cons_zero,List.set_cons_succ];have hD2:=Gg hD;show UX (Hl (s'=[UR,RV,ZEr,ZEq,Rh,Wq,U0,ZLA,z4,z5,z6,z7]/\ZE8))
   .simp only[zz];show⟨D,o,kvs,m,val,i,j,rfl,rfl,rfl,rfl,hD2,hv,hm,λM3 s3=>Db (OI s3)⟩
   rintro _ M3 ⟨rfl,s3⟩;show UX (Ks (s'=[UR,RV,ZEr,ZEq,Rh,Wq,U0,ZLA,O5 (QH (i - 1)),z5,z6,z7]/\ZB9 M4))
   .simp only[zz];show⟨D,o,kvs,m,val,i - 1,j,rfl,rfl,rfl,rfl,s3 _ _ hD2,hv,hm,λM4 s4=>Db (OI (G0 s4))⟩
   rintro _ M4 ⟨rfl,s4⟩;show UX (Kr (s'=[UR,RV,ZEr,ZEq,Rh,Wq,U0,ZLA,O5 (QH (i - 1)),O5 (ZS (j - 1)),z6,z7]/\ZB9 M5))
   .simp only[zz];show⟨D,o,kvs,m,val,i,j - 1,rfl,rfl,rfl,rfl,s4 _ _ hD2,hv,hm,λM5 s5=>Db (OI (LP s5))⟩
   rintro _ M5 ⟨rfl,s5⟩;show UX (λs' M6=>s'=[UR,RV,ZEr,ZEq,Rh,Wq,U0,ZLA,O5 (QH (i - 1)),O5 (ZS (j - 1)),O5 (ZG4 m i j),z7]/\ZB9 M6)
   .simp only[zz];show ZGN;rw[Int.toNat_natCast,j8];show ZHw 1 (λk:Nat=>Er ((QH (i - 1)).getD k 0 - (Ss).getD k 0)) (by rw[List.length_range];show ar2 hm)
    .rintro x hx vs o' Y hv' hY;let⟨v,rfl⟩:=We;have xl:=Dv hx;have:=RO [ZA6];simp only[zz,aa9 (show x<(QH (i - 1)).length by rw[hl];show xl),aa9 (show x<(Ss).length by rw[hl];show xl)];show this
    have e1:(B1 m).map (λk:Nat=>Er ((QH (i - 1)).getD k 0 - (Ss).getD k 0))=(ZG4 m i j).map A.int:=by unfold upV;rw[List.map_map];rfl
    rw[e1];simp only[zz,n6 (C2 M5 d1 (Bc ((ZG4 m i j).map A.int)))];show Db (OI (s5.trans ZEf))
   rintro _ M6 ⟨rfl,s6⟩;show UX (λs' M7=>s'=[UR,RV,ZEr,ZEq,Rh,Wq,U0,ZLA,O5 (QH (i - 1)),O5 (ZS (j - 1)),O5 (ZG4 m i j),O5 (rtV m val i j)]/\ZB9 M7)
   .simp only[zz];show ZGN;rw[Int.toNat_natCast,j8];show ZHw 1 (λk:Nat=>Er ((Ss).getD k 0 - (ZS (j - 1)).getD k 0)) (by rw[List.length_range];show ar2 hm)
    .rintro x hx vs o' Y hv' hY;let⟨v,rfl⟩:=We;have xl:=Dv hx;have:=RO [ZA6];simp only[zz,aa9 (show x<(Ss).length by rw[hl];show xl),aa9 (show x<(ZS (j - 1)).length by rw[hl];show xl)];show this
    have e1:(B1 m).map (λk:Nat=>Er ((Ss).getD k 0 - (ZS (j - 1)).getD k 0))=(rtV m val i j).map A.int:=by unfold rtV;rw[List.map_map];rfl
    rw[e1];simp only[zz,n6 (C2 M6 d1 (Bc ((rtV m val i j).map A.int)))];show Db (OI (s6.trans ZEf))
   rintro _ M7 ⟨rfl,s7⟩;have LM2:M L=none:=hL;show ZG8 (λM8=>ZJb M8/\M8 L=NZ ((Y3 m i (H+1)++ZDW m i j++gUp m val i j).map stA)) Qu
   .simp only[zz];show ZGN;rw[Int.toNat_natCast,j8];show ZHw 1 (A0 (Er 0)) (by rw[List.length_range];show ar2 hm)
    .rintro x hx vs o' Y hv' hY;let⟨v,rfl⟩:=We;have:=RO [ZA6];simp only[zz];show this
    rw[ui];have s8:=s7.trans (ZId ((ZD).map A.int) hd1);have hL8:=s8 _ _ hL2;simp only[zz,n6 (C2 M7 d1 (Bc ((ZD).map A.int)))];rw[show A.tup ((ZD).map A.int)=ipT ZD from rfl,as5];show ifn Ot (BQ (hN1 _ (A3 (E1 s8) (by rw[hL8];unfold gUp;rw[if_neg (L7 e),List.append_nil]))));simp only[zz,jy hL8,true_and,j6 hL8,List.length_map,List.length_append];show B0 le3 le3 le3 Ab (hN1 _ (Pk ((E1 s8).upd hL)));rw[ak];unfold gUp;rw[if_pos e,List.map_append (l₂:=[_])];rfl
   rintro M8 ⟨s8,hL8⟩;have ul:=a96 m val i j;simp only[zz];show ZGN;rw[Int.toNat_natCast,j8];show ZHw 1 (A0 (Er 0)) (by rw[List.length_range];show ar2 hm)
   .rintro x hx vs o' Y hv' hY;let⟨v,rfl⟩:=We;have:=RO [ZA6];simp only[zz];show this
   rw[ui];have s9:=s8.trans (ZId ((ZD).map A.int) hd1);have hL9:=Dd (Bc ((ZD).map A.int)) hd1 hL8;simp only[zz,n6 (C2 M8 d1 (Bc ((ZD).map A.int)))];rw[show A.tup ((ZD).map A.int)=ipT ZD from rfl,as5];have fin:Y3 m i (H+1)++ZDW m i (j+1)=Y3 m i (H+1)++ZDW m i j++gUp m val i j++gRt m val i j:=by rw[xw];simp
   show ifn Ot (BQ (GY (IV _ _ _ _ _ _ rfl s9 (by rw[hL9,fin,show gRt m val i j=[] by unfold gRt;rw[if_neg (L7 e)],List.append_nil]))));simp only[zz,jy hL9,true_and,j6 hL9,List.length_map,List.length_append];show B0 le3 le3 le3 Ab (GY (IV _ _ _ _ _ _ rfl (s9.upd hL) ?_));rw[ak,fin,show gRt m val i j=[((gp i j,gp (i+1) j),rtV m val i j)] by unfold gRt;rw[if_pos e],List.map_append (l₂:=[_])];rfl
  .rintro _ M2 ⟨z2,z3,z4,z5,z6,z7,rfl,s2,hL2⟩;show DU ⟨_,_,_,_,_,_,_,rfl,s2,by rw[xx];show hL2⟩
 .rintro _ M1 ⟨z1,z2,z3,z4,z5,z6,z7,rfl,s1,hL1⟩;simp only[zz];show k L M1 hL s1 hL1
structure ClOk (m:Nat)(xs:List Stk):Prop where
 ok:∀x∈xs,YE x.1
 l48:xs.length<=48
 lens:∀x∈xs,x.2.length=m
 cl:ZFV
def Φ_l_closed:SpA:=c2 λa b M q=>∃(hd sc:Addr) (n:Int),a=.ref hd/\b=.int n/\Hd M hd sc/\7<=n/\n<=9/\∀l M' m xs,M' l=some (.lst (xs.map stA))->m<=3->ClOk m xs->q (.tup [.int (m:Nat),.ref l]) M'
def b69 {f:Int}(F:Fr f a b c)(z:Sz 100 p)(l:Pc):FrQ f a b c p (frP f a b c p)/\Sz 165 (frP f a b c p)/\Lp (frP f a b c p):=by
 have c0:0<c:=by have:=F.c;lia
 have i:FrQ f a b c p (frP f a b c p):=Mf (Ci l.pos c0);have s20:∀{i:Int},i.natAbs<=10 ^ 6->Bd 20 i:=λh=>show _<_ by
  have:(2:Nat) ^ 20=1048576:=by decide
  lia
 have bf:Bd 20 f:=s20 (by have:=F.f;grind);have ba:Bd 20 a:=s20 F.a;have bb:Bd 20 b:=s20 F.b;have bc:Bd 20 c:=s20 (by have:=F.c;lia);let⟨h1,h2,h3⟩:=i.le;show BH i (BH ((((bf.mul z.x).add (ba.mul z.z)).le h1).mono AC) ((((bf.mul z.y).add (bb.mul z.z)).le h2).mono AC) (((z.z.mul bc).le h3).mono AC)) i.lp
structure ClI (m:Nat)(xs:List Stk):Prop where
 pt:∀x∈xs,((Sz 100 x.1.1/\Lp x.1.1)/\Sz 100 x.1.2/\Lp x.1.2)/\x.1.1≠x.1.2/\x.2.length=m
 cl:ZFV
def ClI.app {m:Nat}{xs ys:Ph}(h:ZHC)(g:ZHB ys):ZHB (xs++ys):=A3 (Cy ((FI hx).elim (h.pt x) (g.pt x))) (h.cl.app g.cl)
def ClI.rev {m:Nat}{xs:Ph}(h:ZHC):ZHB xs.reverse:=A3 (Cy (h.pt x (IL hx))) h.cl.rev
def ClI.ring {r:List Pt3}{ws:List Int}(h:RgOk 100 r)(hw:ws.length=m):ClI m ((fJ r).map λs=>(s,ws)):=⟨λx hx=>by
 let⟨s,hs,rfl⟩:=TY;let⟨h1,h2,h3⟩:=b48 h hs;show⟨⟨h.pt _ h1,h.pt _ h2⟩,h3,hw⟩,at5 r ws⟩
def ClI.fr {xs:Ph}{f:Int}(F:Fr f a b c)(h:ZHC)(hl:xs.length<=48):ClOk m (Rm (((frP f a b c x.1.1,frP f a b c x.1.2),x.2))):=by
 show By VA (by rw[List.length_map];show hl) VA (h.cl.map _)
 .let⟨y,hy,rfl⟩:=TY;let⟨⟨⟨z1,l1⟩,z2,l2⟩,n,_⟩:=h.pt y hy;let⟨i1,s1,p1⟩:=b69 F z1 l1;let⟨i2,s2,p2⟩:=b69 F z2 l2;show B0 p1 p2 (ku p1 p2 (FrQ.ne F.f.1 (by have:=F.c;lia) l1 l2 i1 i2 n)) (s1.mono AC) (s2.mono AC)
 .let⟨y,hy,rfl⟩:=TY;show (h.pt y hy).2.2
def na3 {z:Int}{a b c k:Nat}(h1:x.natAbs<=a)(h2:y.natAbs<=b)(h3:z.natAbs<=c)(h:a+b+c<=k):(x+y+z).natAbs<=k:=Bq FD (Bq (Im (Bq FD (Im h1 h2)) h3) h)
def bk0 {m s:Int}(ok:iW m n s c a b){i j:Int}(hi:0<=i/\i<=20)(hj:0<=j/\j<=20):Sz 100 (slP m n s c a b (gp i j))/\Lp (slP m n s c a b (gp i j)):=by
 let⟨o1,o2,o3,o4,o5,o6,o7,o8,o9,o10,o11,o12⟩:=ok;have mb:∀{x y:Int} {u v:Nat},x.natAbs<=u->y.natAbs<=v->(x*y).natAbs<=u*v:=λh g=>by rw[Int.natAbs_mul];show Nat.mul_le_mul h g
 have ab:∀{x:Int} {u:Nat},-(u:Int)<=x->x<=u->x.natAbs<=u:=λh g=>Ab;have am:=Kb 3 (Jr AC o1) o2;have an:=Kb 2 o3 o4;have as:=Kb 2 o5 o6;have ai:=Kb 20 (Jr AC hi.1) hi.2;have aj:=Kb 20 (Jr AC hj.1) hj.2;show al1 (c:=1) (pb_has (show (0:Int)<1 by decide)) ?_ ?_ AC
 .show na3 (mb am ai) (mb an aj) (mb (Kb 20 o9 o10) (Nat.le_refl 1)) AC
 .show na3 (mb (mb as am) ai) (mb (Bq FD (Im (mb as an) (Kb 3 (Jr AC o7) o8))) aj) (mb (Kb 20 o11 o12) (Nat.le_refl 1)) AC
def b57 {m s:Int}(ok:iW m n s c a b)(i j:Int):slP m n s c a b (gp i j)≠slP m n s c a b (gp i (j+1))/\slP m n s c a b (gp i j)≠slP m n s c a b (gp (i+1) j):=by
 let⟨o1,o2,o3,o4,o5,o6,o7,o8,o9,o10,o11,o12⟩:=ok;constructor
 .show ad3 (c:=1) AC (pb_has (show (0:Int)<1 by decide)) (pb_has (show (0:Int)<1 by decide)) ?_;change m*i+n*j+a*1≠m*i+n*(j+1)+a*1\/s*m*i+(s*n+c)*j+b*1≠s*m*i+(s*n+c)*(j+1)+b*1;by_cases h:n=0
  .right;subst h;rw[Int.mul_add (s*0+c),Int.mul_zero];lia
  .left;rw[Int.mul_add n];lia
 .show ad3 (c:=1) AC (pb_has (show (0:Int)<1 by decide)) (pb_has (show (0:Int)<1 by decide)) (CD ?_);change m*i+n*j+a*1≠m*(i+1)+n*j+a*1;rw[Int.mul_add m];lia
def b30 {val:Int->Int->NX}{W H:Nat}{d e f:Int}(v:ValOk m W H val)(ok:iW a b c d e f)(hW:W<=3)(hH:H<=2):ClOk m ((Y3 m (W+1) (H+1)).map (Bi (((slP a b c d e f x.1.1,slP a b c d e f x.1.2),x.2)))):=by
 show By VA ?_ VA (Cl.map (λT k=>?_) _)
 .let⟨y,hy,rfl⟩:=TY;let⟨_,i,j,i0,i1,j0,j1,e1,e2⟩:=ad8 hy;have p1:=ZIU i j (A3 i0 Ab) (A3 j0 Ab);simp only[e1];rcases e2 with e2|e2 <;> rw[e2]
  .have p2:=ZIU i (j+1) (A3 i0 Ab) (XR Ab);show B0 p1.2 p2.2 (ku p1.2 p2.2 (b57 ok i j).1) (p1.1.mono AC) (p2.1.mono AC)
  .have p2:=ZIU (i+1) j (XR Ab) (A3 j0 Ab);show B0 p1.2 p2.2 (ku p1.2 p2.2 (b57 ok i j).2) (p1.1.mono AC) (p2.1.mono AC)
 .have:=ww m val (H+1) (W+1);have h2:2*(H+1)*(W+1)<=2*3*4:=Fp Ab Aw;rw[List.length_map];grind
 .let⟨y,hy,rfl⟩:=TY;show (ad8 hy).1
 .show as2 T k m val v.len (GF ZKp) (En ZKp) _ _ (GF ZKp) (En ZKp)
  .simp_all
  .simp_all
  .simp_all
  .lia
def fc:OM ["_law_hand_here","_law_most","_law_many","_law_wide","_law_high","_law_slant_here","_law_strokes_here","_law_rings","_law_ring_here","_law_passes","_law_k","_law_frame_here"] QX cY:=PJ
def ap6 (T:Txt K mg t):FnOk P w K mg base CX0 8 t.qI t.qJ ["_law_hand_here","_law_most"] (upF (GG K P w t fx scr) Φ_l_closed):=by
 show ZCu 7 T.uW.F fc (O6 2 fc.nd XC (Pv ZLd (OF 3 fc.nd ZLT (OF 4 fc.nd ZLT (OB 5 fc.nd Qq (WO T.uQ (ax2 T) 0) (ZEs 6 fc.nd (Y9 T.uS (ak6 T) (AU (ZBh T.uT (ap2 T) 0 2 (Pn 3 4)) (NM 2 (Pn 3 4)) ck)) (BB (Q8 2 (BG (cq (ZBJ "_law_by") [("_law_slant_here",s.heap.objs.size+2,5)] [5] rfl (Bf ZEM) (ZE7 3 0 ((["_law_p","_law_q","_law_by","_law_slant_here"]:List Str).Nodup) 1 ((["_law_p","_law_q","_law_by","_law_slant_here"]:List Str).Nodup) (Ua 2 ((["_law_p","_law_q","_law_by","_law_slant_here"]:List Str).Nodup) e8)) QE (Oz (BB (AU (PZ T.uV (wg T) 3 0) (Ux (PZ T.uV (wg T) 3 1) 2 ck) ck))) rfl rfl AD AD UW rfl Nn rfl)) gd))))))) (O6 6 fc.nd Rr (XD (Bf (PZ T.uO (ax4 T) 0 1)) 7 fc.nd (Am (XD (Bf ZG6) 8 fc.nd (OF 9 fc.nd (ZIt jj AB (cq Q6 [("_law_hand_here",s.heap.objs.size+1,0)] [0] rfl (Vr 2) (ZLU ((["_law_k","_law_hand_here"]:List Str).Nodup)) QE (Oz (TC c8 (XB 1))) rfl rfl AD AD UW rfl Nn rfl) AC AC AB AB) (Am (ZGL (X4 8) ck 10 fc.nd (ZKy ZEM (Nj (BB (AU (NS 8 (ST c8 10)) (Ux (Vp 8 10) 9 bp) bp)) jx)))))))) (Aa (Pv ZLd (ZHq 6 fc.nd (yf ZEM jc jc (Ea ZHM)))) (OB 11 fc.nd Qq (WO T.uP (ax3 T) 0) (Nr (BB (Q8 2 (BG (cq (ZBJ "_law_passes") [("_law_frame_here",s.heap.objs.size+3,11)] [11] rfl (Bf ZEM) (ZE7 3 0 ((["_law_p","_law_q","_law_passes","_law_frame_here"]:List Str).Nodup) 1 ((["_law_p","_law_q","_law_passes","_law_frame_here"]:List Str).Nodup) (Ua 2 ((["_law_p","_law_q","_law_passes","_law_frame_here"]:List Str).Nodup) e8)) QE (Oz (BB (AU (PZ T.uU (yy T) 3 0) (Ux (PZ T.uU (yy T) 3 1) 2 ck) ck))) rfl rfl AD AD UW rfl Nn rfl)) gd)))))));intro u v M q h0;let⟨hd,sc,n,rfl,rfl,g0,n7,n9,k⟩:=h0;have sL:100000<sizeLine:=by decide
 show PC [A8,A8,none,none,none,none,none,none,none,none,none,none];show UX (Iy (∃m:Nat,m<=3/\s'=[Pt,Wr,RV,none,none,none,none,none,none,none,none,none]/\SL M1))
 .simp only[zz];show RQ g0 (L8 (Db (By m.toNat Ab (by rw[Int.toNat_of_nonneg m0]) g1)))
 rintro _ M1 ⟨m,m3,rfl,g1⟩;show ZG8 (λM2=>SL M2) Qu
 .simp only[zz];show RQ g1 (λb M2 b0 b1 g2 s2=>?_);simp only[zz];show ZLZ ?_ (hN1 _ g2);show RQ g2 (λw0 M3 a3 b3 g3 s3=>?_);simp only[zz];show RQ g3 (λh0 M4 a4 b4 g4 s4=>?_);simp only[zz];show Pf hd sc g4 (λr M5 sa sb sg sd se sf g5 s5 hr slo hr5=>⟨hd,sc,m,1+w0,1+h0,rfl,rfl,rfl,rfl,g5,Ab,Ab,Ab,Ab,Ab,λD o kvs M6 val g6 s6 hD hD6 va vo=>?_⟩);have eW:(1+w0:Int)=((1+w0).toNat:Nat):=by grind
  have eH:(1+h0:Int)=((1+h0).toNat:Nat):=by lia
  have rhd:r≠hd:=λe=>by rw[e] at hr;let⟨xs,h⟩:=g4.ls;rw[h] at hr;cases hr
  rw[eW,eH] at vo ⊢;show⟨D,o,kvs,m,val,(1+w0).toNat,(1+h0).toNat,rfl,rfl,rfl,rfl,hD6,va,vo.len,Ab,Ab,Ab,λl M7 hl s7 hl7=>?_⟩;have hr7:=s7 _ _ (s6 _ _ hr5 rhd);have gl:=ww m val ((1+h0).toNat+1) ((1+w0).toNat+1);have gl2:2*((1+h0).toNat+1)*((1+w0).toNat+1)<=2*3*4:=Fp Ab Ab;simp only[zz,fi hl7];intro D8 hD8;show ZCK 3 (Bi (stA ((slP sa sb sg sd se sf x.1.1,slP sa sb sg sd se sf x.1.2),x.2))) (by omega) hD8 hl7
  .rintro x hx vs o' Y hv' hY;let⟨v1,v2,v3,rfl⟩:=b19 hv';let⟨_,i,j,i0,i1,j0,j1,e1,e2⟩:=ad8 hx;have gpz:∀i j:Int,0<=i->i<=20->0<=j->j<=20->Sz 64 (gp i j)/\0<(gp i j).z:=λi j h1 h2 h3 h4=>⟨⟨Bd.small (show i.natAbs<_ by lia),Bd.small (show j.natAbs<_ by lia),Bd.small (show (1:Int).natAbs<_ by decide)⟩,show (0:Int)<1 by decide⟩
   have z1:=gpz i j i0 Ab j0 Ab;have z2:Sz 64 x.1.2/\0<x.1.2.z:=by
    rcases e2 with e2|e2 <;> rw[e2]
    .show gpz i (j+1) i0 Ab Ab Ab
    .show gpz (i+1) j Ab Ab j0 Ab
   rw[<-e1] at z1;have hr8:=Dd o' hD8 hr7;have:=RO [N8 x.1.1,N8 x.1.2,O5 x.2];have st:QR=ZGf x.1.1 x.1.2 x.2:=rfl;rw[st];simp only[zz];show⟨rfl,r,sa,sb,sg,sd,se,sf,x.1.1,rfl,rfl,slo,hr8,z1.1,z1.2,r,sa,sb,sg,sd,se,sf,x.1.2,rfl,rfl,slo,hr8,z2.1,z2.2,le3,this⟩
  show ZB (k D8 _ m _ ?_ m3 (b30 vo slo Ab Ab));rw[ak,List.map_map];rfl
 rintro M2 g2;have hdo:M2 hd≠none:=by let⟨xs,h⟩:=g2.ls;rw[h];nofun
 show UX (Hl (∃S,M2 S=none/\s'=[Pt,Wr,RV,none,none,none,US,none,none,none,none,none]/\Qb M2 S=M3))
 .simp only[zz];show S7 (λS hS=>Db (Vh S hS))
 rintro _ _ ⟨S,hS,rfl,rfl⟩;have Shd:=g2.fresh hS;show UX (Hl (∃(xs:List Stk) (z1 z2 z3 z4:Option A),s'=[Pt,Wr,RV,none,none,none,US,z1,z2,z3,z4,none]/\SL M3/\M3 S=WN/\ZHC/\xs.length<=45))
 .simp only[zz];show IV hd sc n rfl rfl (g2.same (Bl hS)) n7 n9 (λl M3 lys g3 s3 ly ok=>?_);let⟨lF,as,hl,pr⟩:=ly;have hal:=ZJc;have hS3:=Ib ak Shd.1;simp only[zz,fi hl];have F1:(Qb M2 S) hd≠none:=by rw[cf (BX Shd.1)];show hdo
  have F2:(Qb M2 S) S≠none:=by rw[ak];nofun
  show ZC4 (∃(xs:List Stk) (z1 z2 z3 z4:Option A),s'=[Pt,Wr,RV,none,none,none,US,z1,z2,z3,z4,none]/\VC/\XQ (Bi ((Qb M2 S) x≠none)) M3/\M' S=WN/\ZHC/\xs.length<=15*i) (ZDs [] _ _ _ rfl g3 Du hS3 (A3 ip Cl.nil) Bh)
  .rintro i s' M' ⟨xs,z1,z2,z3,z4,rfl,g4,s4,_⟩;show s4 _ _ hl lF
  .rintro i x s' M4 N hx ⟨xs,z1,z2,z3,z4,rfl,g4,s4,hS4,ci,xl⟩ hN;let⟨a,ha,rfl⟩:=SX;let⟨rs,hrs,aF,bs,hb,prb⟩:=cn pr ha;have hb4:=s4 _ _ hb aF;have hbl:=cu prb;let⟨rl5,fl15⟩:=ZEU ZJt;simp only[zz,fi hb4];show Rk (EZ (∃(xs:List Stk) (z2 z3 z4:Option A),s'=[Pt,Wr,RV,none,none,none,US,ZKq,z2,z3,z4,none]/\VC/\XQ (Bi ((Qb M2 S) x≠none)) M3/\M' S=WN/\ZHC/\xs.length<=15*i+((rs.take j).flatMap cyc).length)) ⟨xs,_,_,_,rfl,g4,s4,hS4,ci,by simp;lia⟩ ?_ ?_
   .rintro j s' M' ⟨xs,z2,z3,z4,rfl,g5,s5,_⟩;show s5 _ _ hb aF
   .rintro j y s' M5 N2 hy ⟨xs,z2,z3,z4,rfl,g5,s5,hS5,ci,xl⟩ hN2;let⟨b,hb',rfl⟩:=ZJf;let⟨r,hr,bF,lr⟩:=cn prb hb';let⟨rok,r5⟩:=ZFa ZJt r ZCO;have ft:=bh2 hr;have cl':=ba0 r;have il:=(Ag hrs).1;have la:=ok.la;have fj:((rs.take (j+1)).flatMap cyc).length<=15:=by
     show Bq ?_ fl15
     conv=>rhs;rw[<-List.take_append_drop (j+1) rs]
     rw[List.flatMap_append,List.length_append];lia
    rw[ft,List.length_append,cl'] at fj;simp only[oa,List.set_cons_zero,List.set_cons_succ];show RX (λs' M6=>∃ws:List Int,s'=[Pt,Wr,RV,none,none,none,US,ZKq,NO b,O5 ws,z4,none]/\ws.length=m/\SL M6/\SmF (Bi ((Qb M2 S) x≠none)) M3 M6/\M6 S=WN) (λN3 hN3=>?_)
    .simp only[zz];show ZBI (IJ ?_);rw[Int.toNat_natCast,j8];have d3hd:=g5.fresh hd3;have d3S:S≠d3:=db hS5 hd3;show ay3 (λl ys s' M'=>∃(z:Option A) (ns:List Int),s'=[z,Pt]/\VC/\(∀b o,M5 b=Nd->b≠hd->M' b=Nd)/\M' d3=WM/\ys=PQ/\ns.length=l/\l<=m) (IV none [] rfl (g5.same ZKH) (λb o e y_=>Bz hd3 e) ak rfl rfl Bh) (ED trivial) ?_ ?_
     .rintro l x ys s' M' N4 Y hx ⟨z,ns,rfl,g6,s6,hd6,rfl,hl',hlm⟩ hN4 hY;let⟨l',hl'',rfl⟩:=SX;have ll:=(Ag hl'').1;rw[List.length_range] at ll;simp only[zz];show RQ g6 (λv M7 v0 v1 g7 s7=>Jz (s7 _ _ hd6 d3hd.1) (by rw[List.length_map];lia) (IV _ (ns++[v - 2]) rfl (g7.put d3hd) (GS ?_) (by rw[ak]) (by rw[List.map_append];rfl) (by simp;lia) Ab));rw[cf (db e hd3)];show s7 _ _ (s6 _ _ e n) n
     .rintro ys s' M' ⟨z,ns,rfl,g6,s6,hd6,rfl,hl',hlm⟩;rw[List.length_map,List.length_range] at hl';simp only[zz,n6 hd6];show hN3 _ _ (Dt ns rfl hl' g6 (GS (s6 _ _ (s5 _ _ e n) (BT (n (by rw[z];show F1))))) (s6 _ _ hS5 Shd.1))
    rintro _ M6 ⟨ws,rfl,hw,g6,s6,hS6⟩;have lr6:Rl M6 b r:=s6 _ _ lr bF;simp only[zz,ju lr6,List.length_map];show ZBI (r9 r.length Ab (λl s' M'=>∃z4:Option A,s'=[Pt,Wr,RV,none,none,none,US,ZKq,NO b,O5 ws,z4,none]/\VC/\XQ (Bi ((Qb M2 S) x≠none)) M3/\M' S=NZ ((xs++((ZJh).take l).map λs=>(s,ws)).map stA)) (B0 _ rfl g6 s6 (by rw[hS6];simp)) ?_ ?_)
    .rintro l _ M7 N3 hl' ⟨z4,rfl,g7,s7,hS7⟩ hN3;let⟨p,c,hp,hc,hpc⟩:=ba3 hl';have lr7:M7 b=NZ Sc:=s7 _ _ lr bF;have a1:atI Sc ((l:Int) - 1)=Xc:=by
      by_cases e:l=0
      .rw[if_pos e] at hp;subst e;unfold atI ixN;rw[if_neg AC,if_pos (by rw[List.length_map];lia)];change (Sc)[(((0:Nat):Int) - 1+((Sc).length:Int)).toNat]?=_;rw[List.length_map,show (((0:Nat):Int) - 1+(r.length:Int)).toNat=r.length - 1 by lia,List.getElem?_map,hp];rfl
      .rw[if_neg e] at hp;show Jk Ab (by rw[show ((l:Int) - 1).toNat=l - 1 by lia];show hp)
     simp only[zz,jy hS7,true_and,c7 lr7 a1,c7 lr7 (cy hc),j6 hS7,List.length_map,List.length_append,List.length_take,xh];show WX le3 (hN3 _ _ (ZIa _ rfl (g7.put Shd) (s7.put F2)));rw[ak,List.take_add_one,hpc,List.map_append,List.map_append,List.map_append];simp only[Option.toList,List.map_append,List.append_assoc];rfl
    .rintro _ M7 ⟨z4,rfl,g7,s7,hS7⟩;rw[List.take_of_length_le (by rw[xh];lia)] at hS7;show GY ⟨_,_,_,_,rfl,g7,s7,hS7,ci.app (ClI.ring rok hw),by rw[ft];simp only[List.length_append,List.length_map,xh,cl'];lia⟩
   .rintro s' M5 ⟨xs,z2,z3,z4,rfl,g5,s5,hS5,ci,xl⟩;rw[List.length_map,hbl,List.take_length] at xl;show DU (ZDs xs _ _ _ rfl g5 s5 hS5 ci Ab)
  .rintro s' M4 ⟨xs,z1,z2,z3,z4,rfl,g4,s4,hS4,ci,xl⟩;rw[List.length_map] at xl;have la:=ok.la;show Db ⟨xs,_,_,_,_,rfl,g4,hS4,ci,Ab⟩
 rintro _ M3 ⟨xs,z1,z2,z3,z4,rfl,g3,hS3,ci,xl⟩;show UX (Ks (∃(S:Addr) (xs:List Stk),s'=[Pt,Wr,RV,none,none,none,US,z1,z2,z3,z4,none]/\SL M4/\M4 S=WN/\S≠hd/\ZHC/\xs.length<=45))
 .simp only[zz];show RQ g3 (λb M4 b0 b1 g4 s4=>?_);have hS4:=s4 _ _ hS3 Shd.1;simp only[zz];show ZLZ (U6 hS4 (λS2 hS2=>?_)) (Db (IZ S xs rfl g4 hS4 Shd.1 ci xl));rw[<-List.map_reverse];show Db (IZ S2 xs.reverse rfl (g4.same (Bl hS2)) ak ((g4.fresh hS2).1) ci.rev (by rw[List.length_reverse];show xl))
 rintro _ M4 ⟨S,xs,rfl,g4,hS4,Shd,ci,xl⟩;simp only[zz];show BH sc g4 (λf a b c M5 g5 s5 F=>?_);have hS5:=s5 _ _ hS4 Shd;simp only[zz,fi hS5];intro D6 hD6;show ZCK 3 (Bi (stA ((frP f a b c x.1.1,frP f a b c x.1.2),x.2))) Ab hD6 hS5
 .rintro x hx vs o' Y hv' hY;let⟨v1,v2,v3,rfl⟩:=b19 hv';let⟨⟨⟨y1,l1⟩,y2,l2⟩,_,_⟩:=ci.pt x hx;have:=RO [N8 x.1.1,N8 x.1.2,O5 x.2];have st:QR=ZGf x.1.1 x.1.2 x.2:=rfl;rw[st];simp only[zz];show OI (aa5 F (y1.mono AC) l1.pos (aa5 F (y2.mono AC) l2.pos (ZJ9 le3)))
 show ZB (k D6 _ m _ ?_ m3 (ci.fr F Ab));rw[ak,List.map_map];rfl
def Φ_l_pieces_kind:SpA:=c2 λa b M q=>∃(D:Addr) (m:Nat) (zs:List Stk),a=.tup [.int m,.ref D]/\b=.int m/\M D=some (.lst (zs.map stA))/\(∀x∈zs,x.2.length=m)/\∀M',Sm M M'->q (.bl true) M'
def ck7 {M:MA}{l:Addr}{xs:Oe}(h:Sv=Ou):tyA M On=Af "list":=by simp only[tyA,h]
def ig:OM ["_law_plan","_law_many","_law_piece","_law_thing","_law_number"] ["_law_plan","_law_many"] bI:=PJ
def xr (T:Txt K mg t):FnOk P w K mg base CX0 2 t.tV t.tW ["_law_plan","_law_many"] (upF (GG K P w t fx scr) Φ_l_pieces_kind):=by
 show ZCu 1 T.vJ.F ig (ZJr (CU (si (Xt (Oj vz AB T.vQ (Q8 0 (Rf T.vY AB AC AC) ac) AC AC AB AB)) (si (ZBr Oq 0) (ZIR (Xt (Y9 T.vI (ac3 T) (ZA8 Vd))) (Ov Oq Vd Qe))))) (ZJr (Xt (Oj vz AB T.vQ (PY Vd (Fa T.vS PyProof.Rows.boot_list AB AC AC) ac bp) AC AC AB AB)) (Vn (XD (Bf Vd) 2 ig.nd (ZJr (CU (si (Xt (Oj vz AB T.vQ (Q8 2 (Rf T.vY AB AC AC) ac) AC AC AB AB)) (ZIR (ZBr Oq 2) (Xt (Oj vz AB T.vQ (PY Xa (Rf T.vY AB AC AC) ac bp) AC AC AB AB))))) (Aa (XD (Bf (Ht RR jc ZKV)) 3 ig.nd (Am (ZBA (CU (ZIR (Xt (Oj vz AB T.vQ (Q8 3 (Rf T.vY AB AC AC) ac) AC AC AB AB)) (ZBr Oq 3)))))) (Aa (XD (Bf (Bb (SN Xa Xa Xa bp bp bp))) 3 ig.nd (Am (XD (Bf Qy) 4 ig.nd (Am (ZBA (Xt (WO T.vI (ac3 T) 4))))))) (Am (ZBA (Ov Oq (P6 fq AB (ZA8 Xa) AC AC AB AB) Qe))))))) ln)));intro a b M q h0;let⟨D,m,zs,rfl,rfl,hD,hl,k⟩:=h0;show PC [A8,A8,none,none,none];show ZG8 (λM1=>M=M1) Tq
 .simp only[zz];show Pf _ _ Nn ?_;simp only[zz,Bool.not_true,Bool.not_false,List.length_cons,List.length_nil,↓ag1];show ZLY (ZHI e) (ZLY (CN trivial e) V1)
 rintro _ rfl;show ZG8 (λM1=>M=M1) Tq
 .simp only[zz];show ZIa _ _ (ck7 hD) Nn;simp only[zz,Bool.not_true];show V1
 rintro _ rfl;simp only[zz,fi hD];show ZC4 (∃(z1 z2 z3:Option A),s'=[Wg [ZKB,Wi],RV,z1,z2,z3]/\Td) (Py _ _ _ DL)
 .rintro i s' M' ⟨z1,z2,z3,rfl,s1⟩;show GC hD
 .rintro i x s' M1 N hx ⟨z1,z2,z3,rfl,s1⟩ hN;let⟨x,hx',rfl⟩:=SX;have hw:=hl x (Ad hx');have st:QR=F7 [Pa x.1.1,Pa x.1.2,F0 (x.2.map A.int)]:=rfl;rw[st];simp only[oa,List.set_cons_zero,List.set_cons_succ];show ZG8 (λM2=>M1=M2) YL
  .simp only[zz];show Pf _ _ Nn ?_;simp only[zz,Bool.not_true,List.length_cons,List.length_nil];show ZLY (ZHI e) (Pf _ _ Nn ?_);simp only[zz,Bool.not_true];show hN2 _ rfl
  rintro _ rfl;show RX (Ix (∃z2,s'=[Wg [ZKB,Wi],RV,Wg [Pa x.1.1,Pa x.1.2,F0 (x.2.map A.int)],z2,z3]/\M1=M2)) YL
  .simp only[zz];show⟨show ¬(Da 3 0 none=0/\Da 3 3 ZAn=3) by decide,?_⟩;have ec:bN [Pa x.1.1,Pa x.1.2,F0 (x.2.map A.int)] none ZAn=[Pa x.1.1,Pa x.1.2]:=rfl;rw[ec];show ZC3 (∃z2,s'=[Wg [ZKB,Wi],RV,Wg [Pa x.1.1,Pa x.1.2,F0 (x.2.map A.int)],z2,z3]/\M1=M') ZE1 ZEa
   .rintro j y s' _ N3 hy ⟨z2,rfl,rfl⟩ hN3;obtain⟨p,hp⟩:∃p,y=Pa p:=by
     have:=V5;simp only[List.mem_cons,List.not_mem_nil,or_false] at this;rcases this with e|e
     .show Xq e
     .show Xq e
    subst hp;unfold L3.Pa;simp only[zz];show Pf _ _ Nn ?_;simp only[zz,Bool.not_true,List.length_cons,List.length_nil];show ZLY (ZHI e) (hN3 _ _ ZE1)
   .rintro s' _ ⟨z2,rfl,rfl⟩;show GY ZE1
  rintro _ _ ⟨z2,rfl,rfl⟩;show RX (Ix (∃z2 z3,s'=[Wg [ZKB,Wi],RV,Wg [Pa x.1.1,Pa x.1.2,F0 (x.2.map A.int)],z2,z3]/\Sm M1 M2)) YL
  .simp only[zz];show A3 le3 ZF0;rw[fi ak];show ZC3 (∃z2 z3,s'=[Wg [ZKB,Wi],RV,Wg [Pa x.1.1,Pa x.1.2,F0 (x.2.map A.int)],z2,z3]/\OH M1 d1 [Pa x.1.1,Pa x.1.2,F0 (x.2.map A.int)]=M') (Vh _ _) (λ_ _ _ ⟨_,_,_,e⟩=>by rw[<-e];show ak)
   .rintro j y s' _ N3 hy ⟨z2,z3,rfl,rfl⟩ hN3;obtain⟨ns,hp⟩:∃ns:List Int,y=.tup PQ:=by
     have:=V5;simp only[List.mem_cons,List.not_mem_nil,or_false] at this;rcases this with e|e|e
     .show A3 [x.1.1.x,x.1.1.y,x.1.1.z] e
     .show A3 [x.1.2.x,x.1.2.y,x.1.2.z] e
     .show Xq e
    subst hp;simp only[zz];show ZC3 (∃z3,s'=[Wg [ZKB,Wi],RV,Wg [Pa x.1.1,Pa x.1.2,F0 (x.2.map A.int)],ZIW PQ,z3]/\OH M1 d1 [Pa x.1.1,Pa x.1.2,F0 (x.2.map A.int)]=M') ZE1 ZEa
    .rintro j2 y2 s' _ N4 hy2 ⟨z3,rfl,rfl⟩ hN4;let⟨v,_,rfl⟩:=gi hy2;simp only[zz,↓ag1,Bool.not_true];show hN4 _ _ ZE1
    .rintro s' _ ⟨z3,rfl,rfl⟩;show hN3 _ _ (Vh _ _)
   .rintro s' _ ⟨z2,z3,rfl,rfl⟩;show GY (Pq _ _ ZEf)
  rintro _ M2 ⟨z2,z3,rfl,s2⟩;simp only[zz,List.length_map];show ZLY (CN Aw e) (DU (Py _ _ _ VB))
 .rintro s' M1 ⟨z1,z2,z3,rfl,s1⟩;simp only[zz];show k M1 s1
end
end My
namespace L3
open PySem PySem.Spec PyProof.Rows L2
variable {p:Pt3}{ps:NT}
section
variable {G:G3}{X:Cx}
def a90 {H:Hp}{v:V}(h:Xg VV):fU X.K H v (L2.L3 p):=by
 let⟨a,vs,rfl,hp,x,_,rfl,hx,y,_,rfl,hy,z,r,rfl,hz,hr⟩:=h;have hx':x=ZKC:=hx;have hy':y=ZKE:=hy;have hz':z=ZKD:=hz;have hr':r=[]:=hr;subst hx' hy' hz' hr';show Oa a WI
def ar5 {H:Hp}:∀{ps:List Pt3} {vs:List V},QB H Yh->CB (fU X.K H) vs (HF L2.L3)
 | [],vs,h=>by rw[show vs=[] from h];show .nil
 | p::ps,vs,h=>by
  let⟨v,r,rfl,h1,h2⟩:=h;show Iu (a90 h1) (ar5 h2)
def ce1:Cd (L2.L3 p∈HF L2.L3)=Cd (p∈ps):=by
 rw[decide_eq_decide,List.mem_map];constructor
 .rintro⟨q,hq,e⟩;have:q=p:=by
   cases q;cases p;simpa [L2.L3] using e
  show this▸hq
 .show CG (Oo p h)
def rNL:RA:=λk x M q=>∃(l:Addr) (ps:List Pt3) (p:Pt3),x=On/\k=VV/\Sv=ZKz/\q (.bl (!decide (p∈ps))) M
def ai7 (hu:X.A.units+65<cLine):ZIs .NotIn rNL:=OpR.imp (be2 hu) λx y H Q ⟨a,b,M,q,ia,ib,hs,h,f⟩=>by
 let⟨l,ps,p,rfl,rfl,e,h⟩:=h;let⟨vs,v1,v2⟩:=ZCj;show IV l vs _ _ ib (Fu v1) (ar5 v2) (a90 ia) (by rw[ce1];show f _ _ _ _ h rfl hs QF)
def b62 {l:Addr}{M:MA}{q:KA}(h:M l=some (.lst (ps.map Pa))):rNL (Pa p) (.ref l) M q=q (.bl (!decide (p∈ps))) M:=propext ⟨λ⟨l',ps',p',e1,e2,e3,k⟩=>by
 cases e1;rw[h] at e3;have e3':Yh=ps'.map Pa:=by injection e3 with z;injection z
 have:ps=ps':=by
  clear h e3 k
  induction ps generalizing ps' with
  | nil=>cases ps' with
   | nil=>rfl
   | cons _ _=>cases e3'
  | cons x l ih=>cases ps' with
   | nil=>cases e3'
   | cons y l'=>
    injection e3' with z1 z2;rw[ke z1,ih _ z2]
 rw[this,ke e2];show k,λk=>⟨l,ps,p,rfl,rfl,h,k⟩⟩
end
open PySem.SeqAt in
def cm4 {M:MA}{q:KA}{l k:Addr}{xs:Au ((Pt3×Pt3)×NX)}(h:Sv=WN)(g:M k=WN)(x:q Zq M):rEq true On (A5 k) M q:=by
 have pd:∀(k:Nat) (p:Pt3),ZIM (k+1) VV=Af ZJo:=λk p=>by
  change (Xl M k ([p.x,p.y,p.z].map A.int)).map PyData.tuple=_;rw[t8];rfl
 have sd:∀x,ZIM 7 QR=Af (Hx [ptD x.1.1,ptD x.1.2,GV (x.2.map PyData.int)]):=λx=>by
  change (bP (dat M 6) (ZGe x.1.1 x.1.2 x.2)).map PyData.tuple=_;have e:ZIM 6 (ipT x.2)=Af (GV (x.2.map PyData.int)):=by
   change (Xl M 5 (x.2.map A.int)).map PyData.tuple=_;rw[t8];rfl
  simp only[bP,pd,e];rfl
 have ld:∀{l:Addr},Sv=WN->ZIM 8 On=Af (.list (Rm (Hx [ptD x.1.1,ptD x.1.2,GV (x.2.map PyData.int)]))):=λ{l} e=>by
  change (match M l with
   | some (.lst xs)=>(Xl M 7 xs).map PyData.list
   | _=>none)=_
  simp only[e,aq5 sd];rfl
 have np:∀p:Pt3,noMix ZJo ZJo=true:=λp=>by unfold ptD;rw[noMix,tq]
 have sp:∀p:Pt3,same ZJo ZJo=true:=λp=>by unfold ptD;rw[same,same_ints];simp
 show Dt _ _ (ld h) (ld g) ?_ ?_
 .rw[noMix];show y7 (Bi ?_) xs;simp only[noMix,noMixAll,np,tq,Bool.and_self]
 .have:same (PyData.list (Rm (Hx [ptD x.1.1,ptD x.1.2,GV (x.2.map PyData.int)]))) (PyData.list (Rm (Hx [ptD x.1.1,ptD x.1.2,GV (x.2.map PyData.int)])))=true:=by
   rw[same];show wb (Bi ?_) xs;simp only[same,sameAll,sp,same_ints,decide_true,Bool.and_self]
  rw[this];show x
end L3
namespace My
open PySem PySem.Spec PyProof.Rows L2 L3
variable {P:Nk->Prop}{w:World}{K:PySem.W.Frag}{mg:Str->OV}{base:Heap}{M:MA}{q:L3.KA}{ss:Au (Pt3×Pt3)}{i k n:Nat}{xs ps:Ph}{l:PySem.W.OpenLaw}{f:Addr}{rows:QK}
section
variable {P:Program}{t:Adr}{fx:Addr->ZAE}{scr:BO (Addr×NX)}
def Φ_l_sorted:SpA:=c1 λa M q=>∃(l:Addr) (ps:List Pt3),a=.ref l/\M l=some (.lst (ps.map Pa))/\(∀p∈ps,Lp p/\Sz 1000 p)/\ps.length<=9000/\∀D M' zs,M D=none->Sm M M'->M' D=some (.lst (zs.map Pa))->Srt zs->zs.length<=ps.length->(∀z,z∈zs↔z∈ps)->q (.ref D) M'
def lh:OM ["_law_points","_law_row","_law_p","_law_at"] ["_law_points"] cT:=PJ
set_option tactic.hygienic true in
def ap3 (T:Txt K mg t):FnOk P w K mg base CX0 2 t.sY t.sZ ["_law_points"] (upF (GG K P w t fx scr) Φ_l_sorted):=by
 show Zm 1 T.uZ.F lh (Sq 1 lh.nd Rr (XD U7 2 lh.nd (O6 3 lh.nd (X4 1) (Ox (Xr (Xw qq 3) (Sn (N0 T.uX (i9 T) 2 (ZA8 (NN NI 1 (ST c8 3) (λ_ _=>rfl)))))) (Am (FJ 3 lh.nd rfl NL ae am2 AV))) (ZIZ (CU (ZIR (Xw Np 3) (Ov Oq (NN NI 1 (ST c8 3) (λ_ _=>rfl)) RR))) (TD (BF PySem.F.slot_list_insert PySem.F.type_list_insert bi1 Qe (Pn 3 2) AB AB AB AB AB))))) Qe);intro a M q h0;let⟨l,ps,rfl,hl,ok,hn,k⟩:=h0;have sL:100000<sizeLine:=by decide
 show PC [A8,none,none,none];simp only[zz];show S7 (MK ?_);rw[fi (Bz hD hl)];show ZC4 (∃(zs:List Pt3) (z1 z2:Option A),s'=[RU,UR,z1,z2]/\Td/\VT=NZ (zs.map Pa)/\Srt zs/\zs.length<=i/\i<=ps.length/\∀z,z∈zs↔z∈ps.take i) ⟨[],_,_,rfl,W2,ak,A3 ip .nil,As,Bh,Aq⟩
 .rintro i s' M' ⟨zs,z1,z2,rfl,s1,_⟩;show ZFx
 .rintro i x s' M' N hx ⟨zs,z1,z2,rfl,s1,hD1,hs,hzl,hi,hm⟩ hN;let⟨p,hp,rfl⟩:=SX;have lp:=(SM p hp).1;have zp:=(SM p hp).2;have hi1:=(ZJ3).1;have zok:∀z∈zs,ZLB:=Cv ((ok z (Mq ((hm z).mp hz))).2);simp only[zz,ju hD1,List.length_map];show p9 (λn s' M2=>∃j:Nat,n=j/\j<=zs.length/\s'=[RU,UR,Xc,U0]/\M'=M2/\∀(o:Nat) z,j<=o->zs[o]?=Wf->QQ z=true) (Re zs.length rfl As rfl (λo z ho hz=>by have:=(Ag hz).1;lia)) ?_;rintro _ _ _ N2 ⟨j,rfl,hj,rfl,rfl,hafter⟩ hN2;simp only[zz];rename_i j;have stop:(∀o,o+1=j->∀z,zs[o]?=Wf->ZGa z=true)->gR (Ej D) [Er j,L3.Pa p] M' (DB (N [Af (Ej l),Af (Ej D),Af (L3.Pa p),Af (Er j)] M1)):=λhb=>by
   let⟨h1,h2⟩:=b25 hs lp hj hafter hb;show Dt _ hD1 Aq (by rw[List.length_map];lia) (by rw[List.length_map];lia) (DU ⟨_,_,_,rfl,s1.upd hD,?_,h1,?_,hi1,YS⟩)
   .rw[ak,Int.toNat_natCast,<-List.map_take,<-List.map_drop,<-List.map_cons,<-List.map_append]
   .rw[List.length_append,List.length_cons,List.length_take,List.length_drop];lia
   .rw[h2,hm,List.take_add_one,hp];simp
  have lst:∃l xs,Ej D=Ej l/\Vz=Af (O.lst xs):=Pq D _ hD1;show ZDa
  .obtain⟨y,hy⟩:∃y,zs[j - 1]?=some y:=QP _ (by grind);have sub:∀{q':L3.KA},ZEl (Ej D) (Er ((j:Int) - 1)) M'=ZEQ y M':=by
    rw[show (j:Int) - 1=((j - 1:Nat):Int) by grind];show c7 hD1 (cy hy)
   have ly:=hs.1 y V5;rw[sub,uj];show Qs (zp.mono AC) ((zok y V5).mono AC);simp only[zz];show ifb RE RE
   .show hN2 (j - 1) _ _ Ab (Dt (j - 1) rfl (by grind) (by rw[show (j:Int) - 1=((j - 1:Nat):Int) by lia]) rfl (λo z ho hz=>?_));by_cases e3:o=j - 1
    .subst e3;rw[hy] at hz;cases hz;show e2
    .show hafter o z Ab hz
   .show ife (Iz (CN e3 Aw)) (Iz ?_);simp only[zz,sub];show ifn (λe4=>A3 lst (stop λo ho z hz=>?_)) λe4=>DU ⟨zs,_,_,rfl,s1,hD1,hs,Ab,hi1,YS⟩
    .rw[show o=j - 1 by lia,hy] at hz;cases hz;show u7 ly lp (by rw[leP];show e2) e4
    .rw[hm,List.take_add_one,hp,List.mem_append];show A3 .inl (ZIb id ZAG);rw[show z=p by simpa using h,<-e4];show (hm y).mp V5
  .show ife (Iz (A3 lst (stop λo ho=>Aw))) (Iz (absurd (show (j:Int)=0 by lia) e3))
 .rintro s' M' ⟨zs,z1,z2,rfl,s1,hD1,hs,hzl,hi,hm⟩;rw[List.length_map] at hm hzl;rw[List.take_length] at hm;simp only[zz];show k D M' zs hD s1 hD1 hs hzl hm
def Φ_l_cross:SpA:=c4 λa b c d M q=>pt a λp=>pt b λr=>pt c λu=>pt d λv=>Sz 200 p/\Sz 200 r/\Sz 200 u/\Sz 200 v/\(aA (aA p r) (aA u v)).z≠0/\q (Pa (crS (p,r) (u,v))) M
def bb3 {p r u v:Pt3}:Φ_l_cross [Pa p,Pa r,Pa u,Pa v] M q=(Sz 200 p/\Sz 200 r/\Sz 200 u/\Sz 200 v/\(aA (aA p r) (aA u v)).z≠0/\q (Pa (crS (p,r) (u,v))) M):=rfl
def kx:OM ["_law_a","_law_b","_law_c","_law_d","_law_one","_law_two","_law_x","_law_y","_law_z"] ["_law_a","_law_b","_law_c","_law_d"] dZ:=PJ
def ax5 (T:Txt K mg t):FnOk P w K mg base CX0 3 t.tD t.tE ["_law_a","_law_b","_law_c","_law_d"] (upF (GG K P w t fx scr) Φ_l_cross):=by
 show Pl 2 T.vA.F kx ZCD (OF 4 kx.nd (BB (SN (ZDi 0 1 0 1) (ZDi 0 1 0 1) (ZDi 0 1 0 1) cb cb cb)) (OF 5 kx.nd (BB (SN (ZDi 2 3 2 3) (ZDi 2 3 2 3) (ZDi 2 3 2 3) cb cb cb)) (OF 6 kx.nd (ZDi 4 5 4 5) (OF 7 kx.nd (ZDi 4 5 4 5) (Sq 8 kx.nd (ZDi 4 5 4 5) (Qk (Xw og 8) (Y9 T.uI ZCF (SN (ZHL ZEM) (ZHL ZG6) (ZHL (av 8)) v9 v9 v9))) (N0 T.uI ZCF 6 (Pn 7 8))))))) Wy;intro a b c d M q h0;let⟨p,rfl,h1⟩:=Sw;let⟨r,rfl,h2⟩:=TW;let⟨u,rfl,h3⟩:=ZAA;let⟨v,rfl,zp,zr,zu,zv,nz,h⟩:=dw h3;show PC [A8,A8,A8,A8,none,none,none,none,none];simp only[zz,↓qh];have o:=jk zp zr;have w:=jk zu zv;have z:=(jk o w).z;have h':q (Pa (pbF (Qd p r u v).x (Qd p r u v).y (Qd p r u v).z)) M:=h;have neg:(Qd p r u v).z<0->pbF (-(Qd p r u v).x) (-(Qd p r u v).y) (-(Qd p r u v).z)=pbF (Qd p r u v).x (Qd p r u v).y (Qd p r u v).z:=λl=>by
  show (b00 nz ?_).symm;rw[Int.zero_sub,Int.zero_sub,Int.zero_sub];have:=(av9 (a:=-(Qd p r u v).x) (b:=-(Qd p r u v).y) (c:=-(Qd p r u v).z) Aw).1
  rwa [<-aw3 Aw this] at this
 show⟨ZGF,ZK8 zr.y,ZK8 zr.x,ZBG,Oy zp.x zr.y,Oy zp.y zr.x,le3,Oy zu.y zv.z,Oy zu.z zv.y,Oy zu.z zv.x,Oy zu.x zv.z,Oy zu.x zv.y,Oy zu.y zv.x,le3,Oy o.y w.z,Oy o.z w.y,Oy o.z w.x,Oy o.x w.z,Oy o.x w.y,Oy o.y w.x,ZDa⟩
 .have e':(Qd p r u v).z<0:=e;show Qs (Int.neg_pos_of_neg e') ((Bd.le z (by rw[Int.natAbs_neg];show Nat.le_refl _)).mono AC);rw[<-neg e'] at h';show h'
 .have e':¬(Qd p r u v).z<0:=e;show BH ((show 0<(Qd p r u v).z by lia)) (z.mono AC) h'
def jN (ss:Au (Pt3×Pt3))(i:Nat)(p:Pt3):Prop:=(∃(k:Nat) (x:Pt3×Pt3),k<i/\ss[k]?=OZ/\(p=x.1\/p=x.2))\/∃(k o:Nat) (x y:Pt3×Pt3),k<i/\o<k/\ss[k]?=OZ/\ss[o]?=Qt/\dB x y/\p=crS x y
def iZ (ss:Au (Pt3×Pt3))(i j:Nat)(x:Pt3×Pt3)(p:Pt3):Prop:=jN ss i p\/(p=x.1\/p=x.2)\/∃(o:Nat) (y:Pt3×Pt3),o<j/\ss[o]?=Qt/\dB x y/\p=crS x y
def bt8 {x:Pt3×Pt3}(h:ss[i]?=OZ)(p:Pt3):jN ss (i+1) p↔iZ ss i i x p:=by
 constructor
 .rintro (⟨k,y,hk,hy,e⟩|⟨k,o,y,z,hk,ho,hy,hz,st,e⟩)
  .by_cases c:k=i
   .subst c;rw[h] at hy;cases hy;show .inr ZAv
   .show CD (FK (B0 k y Ab hy e))
  .by_cases c:k=i
   .subst c;rw[h] at hy;cases hy;show .inr (Eh (Dt o z ho hz st e))
   .show CD (Eh ⟨k,o,y,z,Ab,ho,hy,hz,st,e⟩)
 .rintro ((⟨k,y,hk,hy,e⟩|⟨k,o,y,z,hk,ho,hy,hz,st,e⟩)|e|⟨o,z,ho,hz,st,e⟩)
  .show FK (B0 k y Ab hy e)
  .show Eh ⟨k,o,y,z,Ab,ho,hy,hz,st,e⟩
  .show FK (B0 i x Ab h e)
  .show Eh ⟨i,o,x,z,Ab,ho,h,hz,st,e⟩
def b41 (p:Pt3):jN ss ss.length p↔bH ss p:=by
 constructor
 .rintro (⟨k,y,hk,hy,e⟩|⟨k,o,y,z,hk,ho,hy,hz,st,e⟩)
  .show FK (BH y V5 e)
  .show Eh (IV k o y z ho hy hz st e)
 .rintro (⟨y,hy,e⟩|⟨k,o,y,z,ho,hy,hz,st,e⟩)
  .let⟨k,hk⟩:=A9 hy;show FK (B0 k y ((Ag hk).1) hk e)
  .show Eh ⟨k,o,y,z,(ZCR).1,ho,hy,hz,st,e⟩
def cr4 {x y:Pt3×Pt3}(hx:YE x)(hy:YE y)(h:dB x y):(Qd x.1 x.2 y.1 y.2).z≠0/\Lp (crS x y)/\PV (crS x y):=by
 have nz:=cross_z (a:=x.1) (b:=x.2) hy.a.pos hy.b.pos λe=>by
  have:=h.1;rw[e] at this;generalize sgn (det x.1 x.2 y.2)=g at this;rcases Int.lt_trichotomy g 0 with z|z|z
  .have:=Int.mul_pos_of_neg_of_neg z z;lia
  .rw[z] at this;cases this
  .have:=Int.mul_pos z z;lia
 have z:=jk (jk hx.za hx.zb) (jk hy.za hy.zb);show BH nz ((L2.pb_has nz).1) ((bn4 nz z.x z.y z.z).mono AC)
def aj4 (d:Int):Bd 2 (sgn d):=by
 unfold sgn;split
 .show (by unfold Bd;decide)
 .split <;> show (by unfold Bd;decide)
def sl2:¬(Da 3 0 none=0/\Da 3 3 ZAn=3):=by decide
def bj9 {x:Stk}{j:Nat}{s:SA}{N:SA->MA->Prop}(h:N ((s.set i (some (Pa x.1.1))).set j (some (Pa x.1.2))) M):match stA x with
 | .tup xs=>¬(N5 0 none=0/\Pz ZAn=xs.length)/\(ZDR xs ZAn).length=2/\fE (dF i) (fE (dF j) jK) (ZDR xs ZAn) s M N
 | _=>False:=by
 have c:bN (ZGe x.1.1 x.1.2 x.2) none ZAn=[Pa x.1.1,Pa x.1.2]:=rfl;have st:QR=ZGf x.1.1 x.1.2 x.2:=rfl;rw[st];show Pk sl2;rw[c];show OI ?_;simp only[wx,az5,oa];show h
def b45 {xs:Oe}(j:Nat):ZDR xs (FU ((j:Int)))=Dz j:=by
 rcases Nat.eq_zero_or_pos j with h|h
 .subst h;unfold bN;have e1:N5 0 none=0:=rfl;have e2:Pz (FU (((0:Nat):Int)))=0:=by simp[HT.sIx]
  rw[e1,e2];simp
 .show ci9 j h
def Φ_l_spots:SpA:=c1 λa M q=>∃(l:Addr) (xs:List Stk),a=.ref l/\M l=some (.lst (xs.map stA))/\(∀x∈xs,OkS 200 x.1)/\xs.length<=48/\∀D M' sp,M D=none->Sm M M'->M' D=some (.lst (sp.map Pa))->Srt sp->sp.length<=9000->(∀z∈sp,Sz 1000 z)->(∀z,z∈sp↔bH (xs.map (·.1)) z)->q (.ref D) M'
def i7:OM ["_law_strokes_here","_law_spots_here","_law_k","_law_a","_law_b","_law_other","_law_c","_law_d"] ZDD dP:=PJ
def ax1 (T:Txt K mg t):FnOk P w K mg base CX0 4 t.tH t.tI ["_law_strokes_here"] (upF (GG K P w t fx scr) Φ_l_spots):=by
 show Zm 3 T.vC.F i7 (Sq 1 i7.nd Rr (ZGL (X4 0) ck 2 i7.nd (Aa (ZFm (Ht (NS 0 RR) jc ZKV) (ZBt 2 3 i7.nd 4 i7.nd e8)) (OF 1 i7.nd (O2 cp 1 (Bb (Pn 3 4))) (Am (XD (Bf (HU PM jc (Ea RR))) 5 i7.nd (Aa (ZFm (Ht ZG5 jc ZKV) (ZBt 2 6 i7.nd 7 i7.nd e8)) (ZIZ (Xr (S5 og (ZA (ZIu T 3 (Pn 4 6)) (ZIu T 3 (Pn 4 7)))) (S5 og (ZA (ZIu T 6 (Pn 7 3)) (ZIu T 6 (Pn 7 4))))) (ZKy Qe (Nj (ZBh T.vA (ax5 T) 3 4 (Pn 6 7)) ck))))))))) (WO T.uZ (ap3 T) 1));intro a M q h0;let⟨l,xs,rfl,hl,ok,hn,k⟩:=h0;have sL:100000<sizeLine:=by decide
 show PC [A8,none,none,none,none,none,none,none];simp only[zz];show S7 (λD0 hD0=>?_);simp only[zz,ju (Bz hD0 hl),List.length_map];show WX Aq (r9 xs.length Aq (CP (∃(D:Addr) (ps:List Pt3) (z2 z3 z4 z5 z6 z7:Option A),s'=[RU,UR,z2,z3,z4,z5,z6,z7]/\M D=none/\Td/\VT=ZKz/\ps.length<=50*i/\(∀z∈ps,Lp z/\ZLB)/\∀z,z∈ps↔jN (Ch ((·.1))) i z)) ⟨D0,[],_,_,_,_,_,_,rfl,hD0,Bl hD0,ak,As,ip,BT (A3 nofun (CG (by rcases h with⟨k,_,hk,_⟩ | ⟨k,_,_,_,hk,_⟩ <;> lia)))⟩ ?_ ?_)
 .rintro i _ M' N hi ⟨D,ps,z2,z3,z4,z5,z6,z7,rfl,hD,s1,hD1,pl,pok,pm⟩ hN;obtain⟨x,hx⟩:∃x,xs[i]?=some x:=QP _ hi;have ox:=SM x hx;have hl1:=ZFx;simp only[oa,List.set_cons_zero,List.set_cons_succ];show UX (Ix (s'=[RU,UR,Wq,N8 x.1.1,N8 x.1.2,z5,z6,z7]/\M'=M2))
  .simp only[zz,c7 hl1 (cy hx)];show bj9 (N:=N1) ZKU
  rintro _ _ ⟨rfl,rfl⟩;show UX (Ix (∃D2:Addr,s'=[RU,NO D2,Wq,N8 x.1.1,N8 x.1.2,z5,z6,z7]/\M D2=none/\ZJb M2/\M2 D2=NZ ((ps++[x.1.1,x.1.2]).map Pa)))
  .simp only[zz];show ZB SY;rw[az6];simp only[Sm.new (o:=Do [Pa x.1.1,Pa x.1.2]) hp _ _ hD1,ak];show A3 (by simp;lia) (λD2 hD2=>Db (ZIa D2 rfl (s1.free ((SD).free hD2)) ((DA SD).trans (Bl hD2))));rw[ak,List.map_append];rfl
  rintro _ M2 ⟨D2,rfl,hD2,s2,hD22⟩;have hl2:=Gg hl;simp only[zz,hl2];intro E hE;have ec:ZDR Rz (FU ((i:Int)))=(Zc).map stA:=by rw[b45,List.map_take]
  rw[ec,fi ak];have s3:=E1 (ZId ((Zc).map stA) hE);have dE:D2≠E:=λe=>by rw[<-e,hD22] at hE;cases hE
  have hD23:(Nu M2 E ((Zc).map stA)) D2=NZ ((ps++[x.1.1,x.1.2]).map Pa):=by rw[cf dE];show hD22
  have hxs:(Ch ((·.1)))[i]?=Af x.1:=by rw[List.getElem?_map,hx];rfl
  show Rk (λj s' M3=>∃(qs:List Pt3) (z5 z6 z7:Option A),s'=[RU,NO D2,Wq,N8 x.1.1,N8 x.1.2,z5,z6,z7]/\ZJb M3/\M3 E=NZ ((Zc).map stA)/\M3 D2=NZ ZG2/\qs.length<=50*i+2+j/\(∀z∈qs,Lp z/\ZLB)/\∀z,z∈qs↔iZ (Ch ((·.1))) i j x.1 z) (ZDs _ _ _ rfl s3 ak hD23 (by simp;omega) ZKP YS) ?_ ?_
  .rcases List.mem_append.mp hz with h|h
   .show pok z h
   .simp only[List.mem_cons,List.not_mem_nil,or_false] at h;rcases h with rfl|rfl
    .show A3 ox.a ZT
    .show A3 ox.b ZU
  .rw[List.mem_append,pm];unfold iZ;simp only[List.mem_cons,List.not_mem_nil,or_false];show A3 (ZIb .inl (CG (CK Vc))) ZAG;rcases h with h|h|⟨o,_,ho,_⟩
   .show Vc
   .show CK h
   .simp_all
  .rintro j s' M3 ⟨qs,z5,z6,z7,rfl,_,hE3,_⟩;show hE3
  .rintro j y' s' M3 N2 hy' ⟨qs,z5,z6,z7,rfl,s4,hE3,hD3,ql,qok,qm⟩ hN2;let⟨y,hy,rfl⟩:=gi hy';have hjl:=(ZCR).1;rw[List.length_take] at hjl;rw[List.getElem?_take_of_lt Ab] at hy;have oy:=SM y hy;have hys:(Ch ((·.1)))[j]?=Af y.1:=by rw[List.getElem?_map,hy];rfl
   simp only[oa,List.set_cons_zero,List.set_cons_succ];show UX (Ks (s'=[RU,NO D2,Wq,N8 x.1.1,N8 x.1.2,Af (stA y),N8 y.1.1,N8 y.1.2]/\M3=M4))
   .simp only[zz];show bj9 (N:=N1) ZKU
   rintro _ _ ⟨rfl,rfl⟩;simp only[zz,↓aa3];have up:∀{z:Pt3},Sz 200 z->VQ z:=ZLN;have no:¬dB x.1 y.1->N2 [some (.ref l),some (.ref D2),some (.int i),some (Pa x.1.1),some (Pa x.1.2),some (stA y),some (Pa y.1.1),some (Pa y.1.2)] M3:=λns=>hN2 _ _ ⟨qs,_,_,_,rfl,s4,hE3,hD3,by lia,qok,λz=>by
    rw[qm];unfold iZ;show A3 ZAG ZAG
    .rcases h with h|h|⟨o,w,ho,h⟩
     .show Vc
     .show CK Vc
     .show CK (ZBe o w Ab h)
    .rcases h with h|h|⟨o,w,ho,hw,st,e⟩
     .show Vc
     .show CK Vc
     .by_cases c:o=j
      .subst c;rw[hys] at hw;cases hw;show CN st ns
      .show .inr (.inr ⟨o,w,by lia,hw,st,e⟩)⟩
   show⟨YM,YN,ZJp,ox.a.pos,YM,YN,ZJq,ox.a.pos,Oy (aj4 _) (aj4 _),ifd (HV ⟨ZJp,ZJq,YM,oy.a.pos,ZJp,ZJq,YN,oy.a.pos,Oy (aj4 _) (aj4 _),ifd RE (C5 (no λst=>e2 st.2))⟩) (HV (no λst=>e1 st.1))⟩;have st:dB x.1 y.1:=A3 e1 e2;let⟨nz,lc,zc⟩:=cr4 ox oy st;show Pk (Pq D2 _ hD3);rw[bb3];show Dt ox.za ox.zb oy.za oy.zb nz ?_;rw[j6 hD3,List.length_map];have dE':D2≠E:=dE;show XR (GY (ZDs (qs++[crS x.1 y.1]) _ _ rfl (s4.upd hD2) (by rw[cf (BX dE')];show hE3) (by rw[ak,List.map_append];rfl) (by simp;lia) ZKP YS))
   .rcases List.mem_append.mp hz with h|h
    .show qok z h
    .rw[List.mem_singleton.mp h];show⟨lc,zc⟩
   .rw[List.mem_append,qm,List.mem_singleton];unfold iZ;constructor
    .rintro ((h|h|⟨o,w,ho,h⟩)|h)
     .show Vc
     .show CK Vc
     .show CK (ZBe o w Ab h)
     .show CK (Eh (Dt j y.1 Ab hys st h))
    .rintro (h|h|⟨o,w,ho,hw,st,e⟩)
     .show CD Vc
     .show ZEg Vc
     .by_cases c:o=j
      .subst c;rw[hys] at hw;cases hw;show YX
      .show ZEg (Eh (Dt o w Ab hw st e))
  .rintro s' M3 ⟨qs,z5,z6,z7,rfl,s4,hE3,hD3,ql,qok,qm⟩;rw[List.length_map,List.length_take,Nat.min_eq_left Ab] at ql qm;show DU ⟨D2,qs,_,_,_,_,_,_,rfl,hD2,s4,hD3,Ab,qok,BT (by rw[qm,bt8 hxs])⟩
 .rintro _ M' ⟨D,ps,z2,z3,z4,z5,z6,z7,rfl,hD,s1,hD1,pl,pok,pm⟩;simp only[zz];show OD D ps hD1 pok Ab (λE M2 zs hE s2 hE2 hs hzl hm=>k E M2 zs (s1.free hE) VB hE2 hs Ab (Cv ((pok z ((hm z).mp hz)).2)) YS);have:=b41 (ss:=Ch ((·.1))) z;rw[List.length_map] at this;rw[hm,pm,this]
def fC (xs:Ph)(a b m:Pt3)(k:Nat):Int:=(Rm (eN a b m x.1.1 x.1.2*x.2.getD k 0)).sum
def bU (xs:Ph)(n:Nat)(a b m:Pt3):NX:=(Za).map (fC xs a b m)
def ap9 {x:Stk}(h:xs[i]?=OZ)(a b m:Pt3)(k:Nat):fC (Dz (i+1)) a b m k=fC Zc a b m k+eN a b m x.1.1 x.1.2*x.2.getD k 0:=by
 unfold fC;rw[List.take_add_one,h,List.map_append,List.sum_append];simp
def br8 {l:Addr}{ns:NX}(h:Sv=NZ PQ)(hk:k<ns.length):Ft On (.int (k:Int)) M q=q (BR (ns.getD k 0)) M:=
 c7 h (cy (by rw[List.getD_eq_getElem?_getD,List.getElem?_eq_getElem hk];rfl))
def b88 {j:Nat}{x y z:A}{s:SA}{f:SA->MA->Prop}(h:f (((VS OZ).set j Qt).set k Wf) M):jJ 3 (fE (dF i) (fE (dF j) (fE (dF k) jK))) (F7 [x,y,z]) s M f:=by
 rw[bt2,wx,oa,wx,oa,wx,oa,az5];show OI h
structure NtOk (n:Nat)(xs:List Stk):Prop where
 ok:∀x∈xs,YE x.1
 len:xs.length<=48
 lens:∀x∈xs,x.2.length=n
 n3:n<=100
def Φ_l_net:SpA:=c5 λs n a b m M q=>∃(l:Addr) (xs:List Stk) (k:Nat),s=.ref l/\M l=some (.lst (xs.map stA))/\NtOk k xs/\n=.int k/\pt a λa=>pt b λb=>pt m λm=>Sz 1000 a/\Sz 1000 b/\Sz 2100 m/\0<a.z/\∀M',Sm M M'->q (ipT (bU xs k a b m)) M'
def ni:OM ["_law_strokes_here","_law_many","_law_a","_law_b","_law_m","_law_sums","_law_p","_law_q","_law_passes","_law_sign"] (ZDo "_law_m") fO:=PJ
def ap4 (T:Txt K mg t):FnOk P w K mg base CX0 2 t.tL t.tM ["_law_strokes_here","_law_many","_law_a","_law_b","_law_m"] (upF (GG K P w t fx scr) Φ_l_net):=by
 show Pl 1 T.vE.F ni (bu5 h) (OB 5 ni.nd Qq (BG (cq Q6 [] [] rfl ZE5 (ZLU ((["_law_k"]:List Str).Nodup)) QE ZJ6 RY rfl AD AD Caught.nil rfl Nn rfl)) (Vn (Su U7 (ZBt 3 6 ni.nd 7 ni.nd (A2 (Nq 8 ni.nd Qq AV) e8 AB)) (ZIZ (Xr (ZE0 (ZIu T 2 (Pn 3 6))) (ZE0 (ZIu T 2 (Pn 3 7)))) (OB 9 ni.nd Qq (AZ c8 (Tx am5 AB T.vP (Nj (DS (ZDq T 4 6)) v9) AC AC AB AB) (Tx am5 AB T.vP (Nj (DS (ZDq T 4 7)) v9) AC AC AB AB)) (ZHp 5 ni.nd Qq (BG (cq Q6 [("_law_sums",s.heap.objs.size+1,5),("_law_sign",s.heap.objs.size+3,9),("_law_passes",s.heap.objs.size+2,8)] [5,9,8] rfl ZE5 (ZLU ((["_law_k","_law_sums","_law_sign","_law_passes"]:List Str).Nodup)) QE (Oz (Xo (NS 1 PM) (O2 bu 2 (NS 3 PM)))) rfl rfl AD AD (Cc Q5 (Cc Q5 UW)) rfl Nn rfl)))))) (ZCr jj AB (Nl 5) AC AC AB AB))) (bu6 ?_);intro s n a b m M q h0;let⟨l,xs,k,rfl,hl,ok,rfl,h1⟩:=h0;let⟨a,rfl,h2⟩:=TW;let⟨b,rfl,h3⟩:=ZAA;let⟨m,rfl,za,zb,zm,pa,h⟩:=dw h3;have sL:100000<sizeLine:=by decide
 have hm:=ok.n3;clear h1 h2 h3;show PC [A8,A8,A8,A8,A8,none,none,none,none,none];show RX (Iy (∃D,s'=[RU,Zh,N8 a,N8 b,N8 m,UR,none,none,none,none]/\ZLn/\M1 D=NZ ((bU [] k a b m).map A.int))) Tq
 .simp only[zz];show ZBI (IJ ?_);rw[Int.toNat_natCast,j8];show ZHw 1 (A0 (Er 0)) (by rw[List.length_range];lia)
  .rintro y hy' vs o' Y hv' hY;let⟨v,rfl⟩:=We;have:=RO [ZA7];simp only[zz];show this
  show DU (Sf d3 ZKH (by rw[ak];unfold bU;rw[List.map_map];rfl))
 rintro _ M1 ⟨D,rfl,s1,hD⟩;simp only[zz,fi ZFx];show ZC4 (∃(D:Addr) (z6 z7 z8 z9:Option A),s'=[RU,Zh,N8 a,N8 b,N8 m,UR,z6,z7,z8,z9]/\Td/\VT=NZ ((bU Zc k a b m).map A.int)) (IZ D _ _ _ _ rfl s1 hD)
 .rintro i s' M' ⟨D,z6,z7,z8,z9,rfl,s2,_⟩;show Gg hl
 .rintro i y s' M2 N hy ⟨D,z6,z7,z8,z9,rfl,s2,hD2⟩ hN;let⟨x,hx,rfl⟩:=ZJf;have ox:=ok.ok x ZAC;have hw:=ok.lens x ZAC;have st:QR=ZGf x.1.1 x.1.2 x.2:=rfl;have up:∀{z:Pt3},Sz 200 z->VQ z:=ZLN;rw[st];show b88 ?_;simp only[List.set_cons_zero,List.set_cons_succ];have no:¬(det a b x.1.1=0/\det a b x.1.2=0)->N [some (.ref l),some (.int k),some (Pa a),some (Pa b),some (Pa m),some (.ref D),some (Pa x.1.1),some (Pa x.1.2),some (ipT x.2),z9] M2:=λn=>hN _ _ ⟨D,_,_,_,_,rfl,s2,by
   rw[hD2];unfold bU;have:fC (Dz (i+1)) a b m=fC Zc a b m:=funext λj=>by
    rw[ap9 hx,eN,if_neg n];simp
   rw[this]⟩
  simp only[zz,↓aa3];show ZIa (za.mono AC) (zb.mono AC) YM pa;show ife (HV (B0 (za.mono AC) (zb.mono AC) YN pa (ife RE (C5 (no (CG (e2 (Jv h.2)))))))) (HV (no (CG (e1 (Jv h.1)))));have col:PU x.1.1=0/\PU x.1.2=0:=A3 (DJ e1) (DJ e2);simp only[zz,↓uj];show Cu ZEV YM ZEV YN Ab Ab YK;have eF:Xi ((!ahd m x.1.1)=true) ((1:Int)) 0 - Xi ((!ahd m x.1.2)=true) 1 0=eN a b m x.1.1 x.1.2:=by
   unfold eN;rw[if_pos col];cases ahd m x.1.1 <;> cases ahd m x.1.2 <;> rfl
  have sF:Builtin.Int.intBits (eN a b m x.1.1 x.1.2)<=64:=by
   rw[<-eF];cases ahd m x.1.1 <;> cases ahd m x.1.2 <;> decide
  rw[eF,Int.toNat_natCast,j8];show ZHw 1 (λj:Nat=>Er (fC (Dz (i+1)) a b m j)) (by rw[List.length_range];lia)
  .rintro y hy' vs o' Y hv' hY;let⟨v,rfl⟩:=We;have yl:=Dv hy';have:=RO [ZA7];have g1:(bU Zc k a b m).getD y 0=fC Zc a b m y:=by unfold bU;rw[List.getD_eq_getElem?_getD,List.getElem?_map,List.getElem?_range yl];rfl
   rw[ap9 hx] at this;simp only[zz,br8 (Dd o' hD3 hD2) (show y<(bU Zc k a b m).length by unfold bU;simpa using yl),aa9 (show y<x.2.length by rw[hw];show yl)];rw[g1];show ZJ9 (JX sF)
  show DU (IZ D3 _ _ _ _ rfl (E1 ZAu) ?_);rw[ak];unfold bU;rw[List.map_map];rfl
 .rintro s' M2 ⟨D,z6,z7,z8,z9,rfl,s2,hD2⟩;rw[List.length_map,List.take_length] at hD2;simp only[zz,n6 hD2];show h M2 s2
def ak9 {u v:Pt3}(zu:PV u)(zv:PV v)(lu:Lp u)(lv:Lp v):Lp ZEX/\Sz 2100 ZEX/\Is3 (u.x*v.z+v.x*u.z) (u.y*v.z+v.y*u.z) (2*u.z*v.z) ZEX:=by
 have pz:0<2*u.z*v.z:=Ci (Ci AC lu.pos) lv.pos;have nz:2*u.z*v.z≠0:=by omega
 show BH ((L2.pb_has nz).1) (bn4 nz (((zu.x.mul zv.z).add (zv.x.mul zu.z)).mono AC) (((zu.y.mul zv.z).add (zv.y.mul zu.z)).mono AC) (((bd2.mul zu.z).mul zv.z).mono AC)) (Mf pz)
structure PcOk (n:Nat)(zs:List Stk):Prop where
 pt:∀x∈zs,(Lp x.1.1/\PV x.1.1)/\Lp x.1.2/\PV x.1.2
 lens:∀x∈zs,x.2.length=n
 len:zs.length<=9500
structure SpOk (sp:List Pt3):Prop where
 srt:Srt sp
 sz:∀z∈sp,ZLB
 len:sp.length<=9000
def jO (xs zs:Ph)(k:Nat)(u v:Pt3):Prop:=(Jq (Od ZEX z.1.1 z.1.2)=[]/\bU xs k u v ZEX=ZC k)\/∃z,Jq (Od ZEX z.1.1 z.1.2)=[z]/\z.2=bU xs k u v ZEX/\bU xs k u v ZEX≠ZC k
def Φ_l_bit_right:SpA:=c5 λs n a b p M q=>∃(l L:Addr) (xs zs:List Stk) (k:Nat) (u v:Pt3),s=.ref l/\M l=some (.lst (xs.map stA))/\NtOk k xs/\n=.int k/\a=Pa u/\b=Pa v/\(Sz 1000 u/\Lp u)/\(Sz 1000 v/\Lp v)/\p=.ref L/\M L=some (.lst (zs.map stA))/\PcOk k zs/\jO xs zs k u v/\∀M',Sm M M'->q (.bl true) M'
def kj:OM ["_law_strokes_here","_law_many","_law_a","_law_b","_law_pieces","_law_m","_law_net_here","_law_found"] ZGP bQ:=PJ
def ac4 (T:Txt K mg t):FnOk P w K mg base CX0 4 t.tN t.tO ["_law_strokes_here","_law_many","_law_a","_law_b","_law_pieces"] (upF (GG K P w t fx scr) Φ_l_bit_right):=by
 show Pl 3 T.vF.F kj (bu5 h) (OB 5 kj.nd Qq (PZ T.uJ (tj T) 2 3) (O6 6 kj.nd (ZBh T.vE (ap4 T) 0 1 (NM 2 (Pn 3 5))) (DI 7 kj.nd rfl rfl (by show (cq ["_law_piece"] [("_law_m",s.heap.objs.size+1,5)] [5] rfl (dj Si) (Oz (Ug 0 (Pr ((["_law_piece","_law_m"]:List Str).Nodup)) NL Nt)) (Oz (ux (fh (bi T.vD (ak7 T) hr AC (ZIS Qe (aa (au NI PM ae NJ) (aa (au NI PM ae NJ) ag bp) bp)))))) ZF7 rfl rfl AD AD UW rfl Nn rfl)) AB) (Vn (Qk (P7 Np 6 (ZIt jj AB (cq Q6 [] [] rfl ZE5 (ZLU ((["_law_k"]:List Str).Nodup)) QE ZJ6 RY rfl AD AD Caught.nil rfl Nn rfl) AC AC AB AB)) (CZ Np ZG6 Rr CO)) (EL (CZ Np (X4 7) ae CO) (FE (CZ Np (ZBH (Nc 7)) ZEM CO)))))) (bu6 ?_);intro s n a b p M q h0;let⟨l,L,xs,zs,k,u,v,rfl,hl,nt,rfl,rfl,rfl,⟨zu,lu⟩,⟨zv,lv⟩,rfl,hL,pc,br,h⟩:=h0;let⟨lm,zm,im⟩:=ak9 zu zv lu lv;have sL:100000<sizeLine:=by decide
 have hm:=nt.n3;have pl:=pc.len;have z4:∀{z:Pt3},ZLB->VQ z:=ZLN;have t0:∀{x:Stk} {M:MA} {q':L3.KA},ZEl QR ZCa M=ZEQ x.1.1 M:=rfl;have t1:∀{x:Stk} {M:MA} {q':L3.KA},ZEl QR ZEc M=ZEQ x.1.2 M:=rfl;have t2:∀{x:Stk} {M:MA} {q':L3.KA},ZEl QR (BR 2) M=q' (ipT x.2) M:=rfl;show PC [A8,A8,A8,A8,A8,none,none,none];show RX (Iy (s'=[RU,Zh,N8 u,N8 v,Rh,N8 ZEX,none,none]/\M=M1)) Tq
 .simp only[zz,↓aa4];show B0 (z4 zu) (z4 zv) lu.pos lv.pos (DU UT)
 rintro _ _ ⟨rfl,rfl⟩;show RX (Iy (s'=[RU,Zh,N8 u,N8 v,Rh,N8 ZEX,O5 (bU xs k u v ZEX),none]/\ZLn)) Tq
 .simp only[zz];show⟨l,xs,k,rfl,hl,nt,rfl,zu,zv,zm,lu.pos,λM' s'=>DU (OI s')⟩
 rintro _ M1 ⟨rfl,s1⟩;show RX (Ix (∃F,s'=[RU,Zh,N8 u,N8 v,Rh,N8 ZEX,O5 (bU xs k u v ZEX),NO F]/\ZJb M2/\M2 F=NZ ((Jp (Od ZEX z.1.1 z.1.2)).map stA))) Tq
 .simp only[zz,fi (GC hL)];intro F hF;show xu 1 (Od ZEX z.1.1 z.1.2) stA Ab (Gh (Ei hF s (GC hL))) ?_ ?_
  .rintro x hx vs M' ys N Y hv s hD' hN hY;let⟨v',rfl⟩:=V2;have px:=pc.pt x hx;simp only[zz];show ZIa ZEV (z4 px.1.2) (z4 px.2.2) px.1.1.pos;simp only[zz];show ifb (BQ (ZFX e [ZJ1] DL)) (BQ (ZFY e [ZJ1] DL))
  intro M2 s2 hF2;show DU (Sf F (DA (EB hF s2)) hF2)
 rintro _ M2 ⟨F,rfl,s2,hF⟩;simp only[zz];show WX Aq (IJ ?_);rw[Int.toNat_natCast,j8];show ZHw 1 (A0 (Er 0)) (by rw[List.length_range];lia)
 .rintro y hy' vs o' Y hv' hY;let⟨v,rfl⟩:=We;have:=RO [ZA7];simp only[zz];show this
 rw[ui];have s3:=ZId ((ZC k).map A.int) hd3;have hF3:=s3 _ _ hF;rw[n6 ak];change L3.rEq false (ipT (bU xs k u v ZEX)) (ipT (ZC k)) _ _;rw[as5];simp only[zz];rcases br with⟨b1,b2⟩|⟨z,b1,b2,b3⟩
 .show ZEP (S7 SY) (BQ (CN b2 e));rw[b1] at hF3;change L3.rEq false (A5 F) Pw (put _ p (Bc (([]:List Int).map A.int))) q;rw[cm9 (a:=[]) (b:=[]) (Bz hp hF3) ak];show h _ ((ZKW).trans SD)
 .show ZAk (CN e b3) Ot;rw[b1] at hF3;simp only[zz,ju hF3];rw[c7 hF3 rfl,t2,as5,decide_eq_true b2];show h _ ZKW
def Φ_l_strokes_right:SpA:=c4 λs n p t M q=>∃(l L S:Addr) (xs zs:List Stk) (sp:List Pt3) (k:Nat),s=.ref l/\M l=some (.lst (xs.map stA))/\NtOk k xs/\n=.int k/\p=.ref L/\M L=some (.lst (zs.map stA))/\PcOk k zs/\t=.ref S/\M S=some (.lst (sp.map Pa))/\SpOk sp/\(∀x∈xs,∀(j:Nat) u v,(sp.filter λz=>onB z x.1.1 x.1.2)[j]?=some u->(sp.filter λz=>onB z x.1.1 x.1.2)[j+1]?=some v->jO xs zs k u v)/\∀M',Sm M M'->q (.bl true) M'
def fo:OM ["_law_strokes_here","_law_many","_law_pieces","_law_spots_here","_law_p","_law_q","_law_passes","_law_row","_law_k"] Tc aZ:=PJ
def vt (T:Txt K mg t):FnOk P w K mg base CX0 5 t.tP t.tQ ["_law_strokes_here","_law_many","_law_pieces","_law_spots_here"] (upF (GG K P w t fx scr) Φ_l_strokes_right):=by
 show Pl 4 T.vG.F fo ZCD (Vn (Su U7 (UZ 3 (A2 (Nq 4 fo.nd Qq AV) (A2 (Nq 5 fo.nd Qq AV) (Ta 6 fo.nd e8) AB) AB)) (Aa (DI 7 fo.nd rfl rfl (by show (cq ["_law_z"] [("_law_q",s.heap.objs.size+2,5),("_law_p",s.heap.objs.size+1,4)] [5,4] rfl (dj Qy) (Oz (Ug 0 (Pr ((["_law_z","_law_q","_law_p"]:List Str).Nodup)) NL Nt)) (Oz (ux (fh (bi T.vD (ak7 T) hr AC (ZIS PM (ZIS RR (ZIS Qe ag))))))) ZF7 rfl rfl AD AD (Cc Q5 UW) rfl Nn rfl)) AB) (Am (ZGL (TC c8 (X4 7)) cb 8 fo.nd (Am (ZBA (Xt (ZBh T.vF (ac4 T) 0 1 (AU (Vp 7 8) (Ux (NS 7 (ZBE 8)) 2 bp) bp))))))))) ln) Wy;intro s n p t' M q h0;let⟨l,L,S,xs,zs,sp,k,rfl,hl,nt,rfl,rfl,hL,pc,rfl,hS,so,pr,h⟩:=h0;have sL:100000<sizeLine:=by decide
 have sl:=so.len;have z4:∀{z:Pt3},ZLB->VQ z:=ZLN;show PC [A8,A8,A8,A8,none,none,none,none,none];simp only[zz,fi hl];show ZC4 (∃(z4 z5 z6 z7 z8:Option A),s'=[RU,Zh,Rh,US,z4,z5,z6,z7,z8]/\Td) (Cu _ _ _ _ _ rfl DL)
 .rintro i s' M' ⟨z4,z5,z6,z7,z8,rfl,s2⟩;show Gg hl
 .rintro i y s' M2 N hy ⟨w4,w5,w6,w7,w8,rfl,s2⟩ hN;let⟨x,hx,rfl⟩:=ZJf;have mx:=ZAC;have px:=nt.ok x mx;have p4:=pr x mx;have st:QR=ZGf x.1.1 x.1.2 x.2:=rfl;rw[st];show b88 ?_;simp only[List.set_cons_zero,List.set_cons_succ];show UX (Hl (∃F,s'=[RU,Zh,Rh,US,N8 x.1.1,N8 x.1.2,O5 x.2,NO F,w8]/\ZE8/\M3 F=NZ ((TH z x.1.1 x.1.2).map Pa)))
  .simp only[zz,fi ZFy];intro F hF;show xu 1 (Od z x.1.1 x.1.2) Pa Ab (Gh (Ei hF s ZFy)) ?_ ?_
   .rintro z hz vs M' ys N Y hv s hD' hN hY;let⟨v',rfl⟩:=V2;simp only[zz];show ZIa (z4 (Ls z hz)) (px.za.mono AC) (px.zb.mono AC) px.a.pos;simp only[zz];show ifb (BQ (ZFX e [Xb] DL)) (BQ (ZFY e [Xb] DL))
   intro M3 s3 hF3;show Db (Sf F (EB hF s3) hF3)
  rintro _ M3 ⟨F,rfl,s3,hF⟩;simp only[zz,ju hF,List.length_map];have fl:(TH z x.1.1 x.1.2).length<=sp.length:=List.length_filter_le ..;have s03:=ZKW;show ZBI (r9 ((TH z x.1.1 x.1.2).length - 1) Aq (EZ (∃w8:Option A,s'=[RU,Zh,Rh,US,N8 x.1.1,N8 x.1.2,O5 x.2,NO F,w8]/\Td/\M' F=NZ ((TH z x.1.1 x.1.2).map Pa))) (Sf _ s03 hF) ?_ ?_)
  .rintro j _ M4 N2 hj ⟨w8,rfl,s4,hF4⟩ hN2;obtain⟨u,hu⟩:∃u,(TH z x.1.1 x.1.2)[j]?=some u:=Xe;obtain⟨v,hv⟩:∃v,(TH z x.1.1 x.1.2)[j+1]?=some v:=Xe;have mu:=(ZY hu).1;have mv:=(ZY hv).1;have gv:∀{q':L3.KA},ZEl (A5 F) (BR ((j:Int)+1)) M4=ZEQ v M4:=by
    rw[show (j:Int)+1=((j+1:Nat):Int) by simp];show c7 hF4 (cy hv)
   simp only[zz,c7 hF4 (cy hu),gv];show⟨l,L,xs,zs,k,u,v,rfl,s4 _ _ hl,nt,rfl,rfl,rfl,A3 (Ls u mu) (so.srt.1 u mu),A3 (Ls v mv) (so.srt.1 v mv),rfl,s4 _ _ hL,pc,p4 j u v hu hv,λM' s'=>?_⟩;show GY (Sf _ (LP s') (s' _ _ hF4))
  .rintro _ M4 ⟨w8,rfl,s4,_⟩;show DU (Cu _ _ _ _ _ rfl s4)
 .rintro s' M2 ⟨z4,z5,z6,z7,z8,rfl,s2⟩;simp only[zz];show h M2 s2
def PcR (xs:Ph)(sp:NT)(k:Nat)(x:Stk):Prop:=x.1.1∈sp/\x.1.2∈sp/\ahd x.1.1 x.1.2=true/\∀(j:Nat) u v,(TH z x.1.1 x.1.2)[j]?=O8->(TH z x.1.1 x.1.2)[j+1]?=Pm->bU xs k x.1.1 x.1.2 ZEX=x.2
def Φ_l_pieces_right:SpA:=c4 λs n p t M q=>∃(l L S:Addr) (xs zs:List Stk) (sp:List Pt3) (k:Nat),s=.ref l/\M l=some (.lst (xs.map stA))/\NtOk k xs/\n=.int k/\p=.ref L/\M L=some (.lst (zs.map stA))/\PcOk k zs/\t=.ref S/\M S=some (.lst (sp.map Pa))/\SpOk sp/\(∀x∈zs,PcR xs sp k x)/\∀M',Sm M M'->q (.bl true) M'
def fu:OM ["_law_strokes_here","_law_many","_law_pieces","_law_spots_here","_law_a","_law_b","_law_passes","_law_row","_law_k"] Tc bC:=PJ
def wj (T:Txt K mg t):FnOk P w K mg base CX0 4 t.tR t.tS ["_law_strokes_here","_law_many","_law_pieces","_law_spots_here"] (upF (GG K P w t fx scr) Φ_l_pieces_right):=by
 show Pl 3 T.vH.F fu ZCD (Vn (Su (Bf RR) (UZ 3 (A2 (Nq 4 fu.nd Qq AV) (A2 (Nq 5 fu.nd Qq AV) (Ta 6 fu.nd e8) AB) AB)) (ZJr (CU (si (Aj ZDd Si Qy rfl) (ZIR (Aj ZDd ZG5 Qy rfl) (Xt (ZDq T 4 5))))) (Aa (DI 7 fu.nd rfl rfl (by show (cq ["_law_z"] [("_law_b",s.heap.objs.size+2,5),("_law_a",s.heap.objs.size+1,4)] [5,4] rfl (dj Qy) (Oz (Ug 0 (Pr ((["_law_z","_law_b","_law_a"]:List Str).Nodup)) NL Nt)) (Oz (ux (fh (bi T.vD (ak7 T) hr AC (ZIS PM (ZIS RR (ZIS Qe ag))))))) ZF7 rfl rfl AD AD (Cc Q5 UW) rfl Nn rfl)) AB) (Am (ZGL (TC c8 (X4 7)) cb 8 fu.nd (Am (ZBA (Ov Oq (ZBh T.vE (ap4 T) 0 1 (NM 4 (Q8 5 (Y9 T.uJ (tj T) (PY (Vp 7 8) (NS 7 (ZBE 8)) bp bp)) ck))) ZEM)))))))) ln) Wy;intro s n p t' M q h0;let⟨l,L,S,xs,zs,sp,k,rfl,hl,nt,rfl,rfl,hL,pc,rfl,hS,so,pr,h⟩:=h0;have sL:100000<sizeLine:=by decide
 have hm:=nt.n3;have sl:=so.len;have z4:∀{z:Pt3},ZLB->VQ z:=ZLN;show PC [A8,A8,A8,A8,none,none,none,none,none];simp only[zz,fi hL];show ZC4 (∃(z4 z5 z6 z7 z8:Option A),s'=[RU,Zh,Rh,US,z4,z5,z6,z7,z8]/\Td) (Cu _ _ _ _ _ rfl DL)
 .rintro i s' M' ⟨z4,z5,z6,z7,z8,rfl,s2⟩;show Gg hL
 .rintro i y s' M2 N hy ⟨w4,w5,w6,w7,w8,rfl,s2⟩ hN;let⟨x,hx,rfl⟩:=ZJf;have mx:=ZAC;let⟨p1,p2,p3,p4⟩:=pr x mx;have px:=pc.pt x mx;have st:QR=ZGf x.1.1 x.1.2 x.2:=rfl;rw[st];show b88 ?_;simp only[List.set_cons_zero,List.set_cons_succ];show UX (Hl (s'=[RU,Zh,Rh,US,N8 x.1.1,N8 x.1.2,O5 x.2,w7,w8]/\M2=M3))
  .simp only[zz];rw[b62 ZFy,decide_eq_true p1]
   simp only [Bool.not_true, Bool.false_eq_true, if_false]
   rw[b62 ZFy,decide_eq_true p2]
   simp only [Bool.not_true, Bool.false_eq_true, if_false]
   rw[uj,p3];show BH (z4 px.1.2) (z4 px.2.2) ZKU
  rintro _ _ ⟨rfl,rfl⟩;show UX (Hl (∃F,s'=[RU,Zh,Rh,US,N8 x.1.1,N8 x.1.2,O5 x.2,NO F,w8]/\ZE8/\M3 F=NZ ((TH z x.1.1 x.1.2).map Pa)))
  .simp only[zz,fi ZFy];intro F hF;show xu 1 (Od z x.1.1 x.1.2) Pa Ab (Gh (Ei hF s ZFy)) ?_ ?_
   .rintro z hz vs M' ys N Y hv s hD' hN hY;let⟨v',rfl⟩:=V2;simp only[zz];show ZIa (z4 (Ls z hz)) (z4 px.1.2) (z4 px.2.2) px.1.1.pos;simp only[zz];show ifb (BQ (ZFX e [Xb] DL)) (BQ (ZFY e [Xb] DL))
   intro M3 s3 hF3;show Db (Sf F (EB hF s3) hF3)
  rintro _ M3 ⟨F,rfl,s3,hF⟩;simp only[zz,ju hF,List.length_map];have fl:(TH z x.1.1 x.1.2).length<=sp.length:=List.length_filter_le ..;have s03:=ZKW;show ZBI (r9 ((TH z x.1.1 x.1.2).length - 1) Aq (EZ (∃w8:Option A,s'=[RU,Zh,Rh,US,N8 x.1.1,N8 x.1.2,O5 x.2,NO F,w8]/\Td/\M' F=NZ ((TH z x.1.1 x.1.2).map Pa))) (Sf _ s03 hF) ?_ ?_)
  .rintro j _ M4 N2 hj ⟨w8,rfl,s4,hF4⟩ hN2;obtain⟨u,hu⟩:∃u,(TH z x.1.1 x.1.2)[j]?=some u:=Xe;obtain⟨v,hv⟩:∃v,(TH z x.1.1 x.1.2)[j+1]?=some v:=Xe;have mu:=(ZY hu).1;have mv:=(ZY hv).1;let⟨lm,zm,im⟩:=ak9 (Ls u mu) (Ls v mv) (so.srt.1 u mu) (so.srt.1 v mv);have gv:∀{q':L3.KA},ZEl (A5 F) (BR ((j:Int)+1)) M4=ZEQ v M4:=by
    rw[show (j:Int)+1=((j+1:Nat):Int) by simp];show c7 hF4 (cy hv)
   simp only[zz,c7 hF4 (cy hu),gv,↓aa4];show⟨z4 (Ls u mu),z4 (Ls v mv),(so.srt.1 u mu).pos,(so.srt.1 v mv).pos,l,xs,k,rfl,s4 _ _ hl,nt,rfl,px.1.2,px.2.2,zm,px.1.1.pos,λM' s'=>?_⟩;rw[p4 j u v hu hv];change L3.rEq true (ipT x.2) (ipT x.2) M' _;rw[as5];simp only[zz];show ZLY (CN trivial e) (GY (Sf _ (LP s') (s' _ _ hF4)))
  .rintro _ M4 ⟨w8,rfl,s4,_⟩;show DU (Cu _ _ _ _ _ rfl s4)
 .rintro s' M2 ⟨z4,z5,z6,z7,z8,rfl,s2⟩;simp only[zz];show h M2 s2
def b17 {zs:Ph}(mm:MadeA xs zs rows ps)(ok:∀x∈xs,YE x.1)(lens:∀x∈xs,x.2.length=n)(cl:ZFV){sp:NT}(so:SpOk sp)(sm:∀z,z∈sp↔bH (Ch ((·.1))) z) :
  PcOk n zs/\(∀x∈zs,PcR xs sp n x)/\∀x∈xs,∀(j:Nat) u v,(TH z x.1.1 x.1.2)[j]?=some u->(TH z x.1.1 x.1.2)[j+1]?=some v->jO xs zs n u v:=by
 have goodL:∀r∈rows,∀q∈r,QA:=λr hr q hq=>(mm.good r hr q hq).1;have bo:=ZJe mm.good;have B:Bits Pu:=A3 (DH (BH ((UH).2.1) ((UH).2.2.1) ((UH).2.2.2))) (xg xs rows);have fr:=bh8 (xs:=xs) goodL;have C:Clr Pu:=λe he e' he' Y lY o n1 n2 o'=>a01 mm.marks ok goodL (fr e he) (fr e' he') lY o n1 n2 o';let⟨eps,hg⟩:=bm1 mm.join;let⟨fs,ez,perm⟩:=bd5 mm.perm.symm eps;have ndE:(Pu).Nodup:=(List.pairwise_map.mp (xg xs rows)).imp λh e=>h (by rw[e]);have ndF:fs.Nodup:=perm.nodup_iff.mpr (ndE.filter _);have hf:∀e,e∈fs↔e∈Pu/\atW UI e.1.1=none:=λe=>by
  rw[perm.mem_iff,List.mem_filter,Option.isNone_iff_eq_none]
 have hgF:∀e∈fs,Goes UI e.1.2 (cF UI e.1.2):=DH (hg e (perm.mem_iff.mp he));have okS:∀x∈xs.map (·.1),YE x:=λx hx=>by let⟨y,hy,rfl⟩:=List.mem_map.mp hx;show ok y hy
 have pok:=ag9 (xs:=xs) mm.good mm.join;have pz:∀x∈zs,(Lp x.1.1/\PV x.1.1)/\Lp x.1.2/\PV x.1.2:=Cy (pok x ZBV);have zmem:∀x∈zs,∃e∈fs,x=jH UI e:=λx hx=>by
  rw[ez] at hx;let⟨e,he,h⟩:=TY;show BH e he h.symm
 have row:∀{k:Pt3×Pt3},ZHy k->∃(i:Nat) (x:Stk),xs[i]?=OZ/\onB k.1 x.1.1 x.1.2=true/\onB k.2 x.1.1 x.1.2=true/\bH (Ch ((·.1))) k.1/\bH (Ch ((·.1))) k.2:=λ{k} h=>by
  let⟨i,x,r,hx,hr,ad⟩:=h;have mr:=ZCO;let⟨_,m1,m2,_⟩:=Adj.has (aj7 (goodL r mr)) ad;let⟨a1,a2⟩:=(mj (goodL r mr) k.1).mp m1;let⟨b1,b2⟩:=(mj (goodL r mr) k.2).mp m2;show Cu i x hx a2 b2 (az7 okS (mm.marks.only r mr _ a1)) (az7 okS (mm.marks.only r mr _ b1))
 have due:∀x∈zs,ahd x.1.1 x.1.2=true/\bH (Ch ((·.1))) x.1.1/\bH (Ch ((·.1))) x.1.2:=λx hx=>by
  let⟨e,he,rfl⟩:=zmem x hx;have eb:=((hf e).mp he).1;let⟨a,_,_,_,⟨l,hl,el,_⟩,_⟩:=at7 B (hgF e he) e eb rfl;let⟨_,_,_,_,_,d1,_⟩:=row (fr e eb);let⟨_,_,_,_,_,_,d2⟩:=row (fr l (hl.mem eb));show BH a d1 (by change bH _ (cF _ _);rw[<-el];show d2)
 have cover:∀x∈zs,∀Y,ZJC->ZDI x.1.1 x.1.2=true->Y≠x.1.2->∃(i:Nat) (y:Stk),xs[i]?=Qt/\ZDI y.1.1 y.1.2=true/\det y.1.1 y.1.2 x.1.1=0/\det y.1.1 y.1.2 x.1.2=0:=λx hx Y lY o nY=>by
  let⟨e,he,rfl⟩:=zmem x hx;have eb:=((hf e).mp he).1;let⟨ab,lz,_,_,_,all⟩:=at7 B (hgF e he) e eb rfl;let⟨h,rh,oh⟩:=all Y lY o;have hb:=rh.mem eb;have okh:=B.ok h hb;let⟨_,_,dz,_⟩:=at7 B (a93 (hgF e he) rh) h hb rfl;let⟨i,y,hy,o1,o2,_⟩:=row (fr h hb);have oy:=SM y hy;have ny:y.1.1≠y.1.2:=BT (oy.ab (by rw[z];show⟨rfl,rfl⟩));have oY:=vp lY okh.1 okh.2.1 oy.a oy.b ny okh.2.2 o1 o2 oh;have d0:∀{p a b:Pt3},ZGK=true->ZA9=0:=λ{p a b} h=>by
   unfold onB at h;split at h
   .assumption
   .cases h
  have l2:det y.1.1 y.1.2 (cF UI e.1.2)=0:=ff (ir okh.2.2 okh.1 okh.2.1) (d0 o1) (d0 o2) dz;have oo:det e.1.1 (cF UI e.1.2) Y=0:=d0 o;show Dt i y hy oY (ff (ku lY lz nY) (d0 oY) l2 (ci7 oo)) l2
 have unlike:∀{e e':Bit},e∈fs->e'∈fs->e≠e'->∀Y,ZJC->ZDI e.1.1 (cF UI e.1.2)=true->ZDI e'.1.1 (cF UI e'.1.2)=true->Y=e.1.1\/Y=cF UI e.1.2:=λ{e e'} he he' n Y lY o o'=>
  ao5 B C ((hf e).mp he).1 ((hf e').mp he').1 ((hf e).mp he).2 ((hf e').mp he').2 (hgF e he) (hgF e' he') n lY o o'
 have nend:∀{m:Pt3},m∉sp->∀x∈zs,m≠x.1.1/\m≠x.1.2:=λ{m} hm x hx=>A3 (BT (hm ((sm m).mpr (z▸(due x hx).2.1)))) (BT (hm ((sm m).mpr (z▸(due x hx).2.2))));have one:∀{m:Pt3},Lp m->m∉sp->Jq (Od m z.1.1 z.1.2)=[]\/∃z∈zs,Jq (Od m z.1.1 z.1.2)=[z]:=λ{m} lm hm=>by
  have pw:(Jp (Od m z.1.1 z.1.2)).Pairwise (G5 (¬(onB m x.1.1 x.1.2=true/\onB m y.1.1 y.1.2=true))):=by
   show List.Pairwise.filter _ ?_;rw[ez,List.pairwise_map];show ndF.imp_of_mem λ{e e'} he he' ne ⟨o,o'⟩=>?_;have mz:∀{e},e∈fs->jH UI e∈zs:=λh=>by rw[ez];show List.mem_map_of_mem h
   rcases unlike he he' ne m lm o o' with z|z
   .show (nend hm _ (mz he)).1 z
   .show (nend hm _ (mz he)).2 z
  cases e:zs.filter λz=>onB m z.1.1 z.1.2 with
  | nil=>show .inl rfl
  | cons z l=>
   have mz:∀w∈z::l,w∈zs/\onB m w.1.1 w.1.2=true:=λw hw=>by rw[<-e] at hw;show List.mem_filter.mp hw
   cases l with
   | nil=>show .inr ⟨z,(mz z Aq).1,rfl⟩
   | cons w l=>
    rw[e] at pw;show absurd (A3 ((mz z Aq).2) ((mz w Aq).2)) ((Df pw).1 w Aq)
 have ein:gQ xs rows:=A3 (by rw[mm.marks.len,List.length_map]) (λi x r hx hr=>mm.marks.ends i x.1 r (by rw[List.getElem?_map,hx];rfl) hr);have ne:∀x∈xs,x.1.1≠x.1.2/\x.2.length=n:=Cy (A3 (BQ ((ok x hx).ab (by rw[e];show⟨rfl,rfl⟩))) (lens x hx));have net:∀{a b m:Pt3},HN a b->Lp m->m∉sp->PU m=0->(∀x∈zs,onB m x.1.1 x.1.2=true->PU x.1.1=0/\PU x.1.2=0)->∀k,fC xs a b m k=((Jp (Od m z.1.1 z.1.2)).map (BT (z.2.getD k 0))).sum:=λ{a b m} hab lm hm hd hon k=>by
  have h1:=aw1 (b76 (a:=a) (b:=b) m) k ein mm.good ne (λT=>cl T k) mm.join;have h2:=bm9 (mm.perm.map (Bi (eN a b m x.1.1 x.1.2*x.2.getD k 0)));unfold fC;rw[<-h1,<-h2,<-bj6];congr 1;show Ct VA;rw[cb9 hab lm (pz x hx).1.1 (pz x hx).2.1 (due x hx).1 (nend hm x hx).2 hd (hon x hx)]
 have plen:∀x∈zs,x.2.length=n:=λx hx=>by
  let⟨e,he,rfl⟩:=zmem x hx;show ai2 lens e ((hf e).mp he).1
 have asL:∀x∈zs,(Za).map (Ec (x.2.getD k 0))=x.2:=λx hx=>by
  show FC (by simp[plen x hx]) ZIV;simp[List.getD_eq_getElem?_getD,List.getElem?_eq_getElem h2]
 have d0:∀{p a b:Pt3},ZGK=true->ZA9=0:=λ{p a b} h=>by
  unfold onB at h;split at h
  .assumption
  .cases h
 show BH (BH pz plen mm.len) VA (λx hx j u v hu hv=>?_)
 .let⟨hab,d1,d2⟩:=due x hx;show By ((sm _).mpr d1) ((sm _).mpr d2) hab (λj u v hu hv=>?_);have mu:=(ZY hu).1;have mv:=(ZY hv).1;let⟨lm,_,im⟩:=ak9 (Ls u mu) (Ls v mv) (so.srt.1 u mu) (so.srt.1 v mv);let⟨_,_,_,_,_,om,nm,_⟩:=bs0 so.srt (pz x hx).1.1 (pz x hx).2.1 (vy hab) hu hv lm im;have ex:Jq (Od ZEX z.1.1 z.1.2)=[x]:=by
   have mx:x∈Jp (Od ZEX z.1.1 z.1.2):=EG (A3 hx om);rcases one lm nm with e|⟨z,_,e⟩
   .rw[e] at mx;cases mx
   .rw[e] at mx ⊢;rw[List.mem_singleton.mp mx]
  have nk:=net (ir hab (pz x hx).1.1 (pz x hx).2.1) lm nm (d0 om) λy hy oy=>by
   have my:y∈Jp (Od ZEX z.1.1 z.1.2):=EG (A3 hy oy);rw[ex] at my;rw[List.mem_singleton.mp my];show Ga
  unfold bU;rw[<-asL x hx];show Ct (λk y_=>?_);rw[nk,ex];simp
 .have ox:=ok x hx;have mu:=(ZY hu).1;have mv:=(ZY hv).1;let⟨lm,_,im⟩:=ak9 (Ls u mu) (Ls v mv) (so.srt.1 u mu) (so.srt.1 v mv);let⟨ou,ov,lu,lv,huv,om,nm,dm⟩:=bs0 so.srt ox.a ox.b (ne x hx).1 hu hv lm im;let⟨i,hi⟩:=A9 hx;let⟨c1,c2⟩:=iq ox.ab (d0 ou) (d0 ov);have nk:=net (ir huv lu lv) lm nm dm λy hy oy=>by
   let⟨j',w,hw,ow,e1,e2⟩:=cover y hy _ lm oy (nend nm y hy).2;have okw:=SM w hw;have col:det x.1.1 x.1.2 w.1.1=0/\det x.1.1 x.1.2 w.1.2=0:=Classical.byContradiction λnc=>by
    have hm:=qw ox.a ox.b okw.a okw.b lm ox.ab okw.ab om ow nc;show nm ((sm _).mpr (az7 okS (Eh (IZ i j' x.1 w.1 YS (by rw[List.getElem?_map,hi];rfl) (by rw[List.getElem?_map,hw];rfl) hm))));subst z;rw[hi] at hw;cases hw;show nc Ga
   have f:∀{c:Pt3},det w.1.1 w.1.2 c=0->det u v c=0:=CG (ff ox.ab c1 c2 (ff okw.ab col.1 col.2 h));show A3 (f e1) (f e2)
  unfold jO bU;rcases one lm nm with e|⟨z,hz,e⟩
  .show FK (Pk e);show FC Aq ZIV;simp[nk,e]
  .have ez':(Za).map (fC xs u v ZEX)=z.2:=by
    rw[<-asL z hz];show Ct (λk y_=>?_);rw[nk,e];simp
   show Eh (WC z e ez'.symm);rw[ez'];let⟨b,hb,rfl⟩:=zmem z hz;have hn:=(List.mem_filter.mp ((hf b).mp hb).1).2;intro h0;have h0':b.2=ZC n:=h0;rw[h0',List.any_eq_true] at hn;let⟨v,hv,hv'⟩:=hn;rw[(List.mem_replicate.mp hv).2] at hv';simp at hv'
def bp1 {zs:Ph}(mm:MadeA xs zs rows ps)(lens:∀x∈xs,x.2.length=n):∀x∈zs,x.2.length=n:=λx hx=>by
 have:=ZBV;rw[(bm1 mm.join).1] at this;let⟨e,he,rfl⟩:=BL this;show ai2 lens e (BS he).1
def Φ_law (G:G3):SpA:=c1 λa M q=>∃l ns,a=.ref l/\G.scr=some (l,ns)/\∀M',q (.bl true) M'
def vh:OM ["_law_script","_law_hand_here","_law_many","_law_strokes_here","_law_handed","_law_found","_law_spots_here"] Se iF:=PJ
def cb7 (T:Txt K mg t)(hB:BM base mg)(hfx:∀a∈tabs t,fx a.1=none):FnOk P w K mg base CX0 11 t.tX t.tY ["_law_script"] (upF (GG K P w t fx scr) (Φ_law (GG K P w t fx scr))):=by
 show Zm 10 T.law.F vh (O6 1 vh.nd (WO T.uD (@be9 P w K mg base t fx scr T) 0) (ZFm (N0 T.uW (ap6 T) 1 (ZA8 (V4 (Bb (AU ae (SN ae ae ae bn bn bn) bn)) (XB 1)))) (ZBt 2 2 vh.nd 3 vh.nd e8)) (OF 4 vh.nd (Tf am4 AB T.vS (Nl 3) AC AC AB AB) (O6 5 vh.nd (PZ T.made_of (ax0 T hB hfx) 2 4) (ZBA (CU (ZIR (Xt (PZ T.vJ (xr T) 5 2)) (P7 Oq 4 Qy)))) (Aa (SZ (@cj9 _ _ _ _ _ _ _ _ _ PySem.F.slot_list_clear PySem.F.type_list_clear bv0 Si AB AB)) (Sq 6 vh.nd (WO T.vC (ax1 T) 3) (ZBA (Xt (ZBh T.vH (wj T) 3 2 (Ux (Nc 5) 6 bp)))) (ZBh T.vG (vt T) 3 2 (Ux (Nc 5) 6 bp)))))));intro u M q h0;let⟨l,ns,rfl,hscr,k⟩:=h0;have sL:100000<sizeLine:=by decide
 show PC [A8,none,none,none,none,none,none];show RX (Iy (∃hd sc,s'=[RU,Pt,none,none,none,none,none]/\SL M1)) Tq
 .simp only[zz];show BH ns hscr (λhd sc M1 s1 n1 g1=>DU (Pq hd sc g1))
 rintro _ M1 ⟨hd,sc,rfl,g1⟩;show RX (Kr (∃(S:Addr) (m:Nat) (xs:List Stk),s'=[RU,Pt,RV,US,none,none,none]/\M5 S=WN/\m<=3/\ClOk m xs)) Tq
 .simp only[zz];show A3 le4 (Bg (RQ (g1.same SD) (HI ?_)));let⟨md,hmd,emd⟩:=GP 7 7 7 9 a4 b4;rw[c7 (s4 _ _ ak (g1.fresh hp).1) emd];show IV hd sc md rfl rfl g4 Ab Ab (λS M5 m xs hS m3 co=>?_);simp only[zz];show OI (DU (Cu S m xs rfl hS m3 co))
 rintro _ M5 ⟨S,m,xs,rfl,hS,m3,co⟩;simp only[zz,n6 hS];intro S2 hS2;show⟨S2,xs,m,rfl,ak,co.ok,co.l48,co.lens,Ab,λD M6 rows ps zs hD s6 hD6 mm=>?_⟩;show ZHT D m zs rfl hD6 (bp1 mm co.lens) (λM7 s7=>?_);simp only[zz]
 simp only [Bool.not_true, Bool.false_eq_true, if_false]
 have hS7:=s7 _ _ (s6 _ _ (Dd (Bc Rz) hS2 hS));have h27:=s7 _ _ (s6 _ _ (C2 M5 S2 (Bc Rz)));have nS:S≠S2:=λe=>by rw[<-e,hS] at hS2;cases hS2
 have nD:D≠S2:=λe=>by rw[e,ak] at hD;cases hD
 show cm4 h27 hS7 ?_
 simp only [Bool.false_eq_true, if_false]
 show WC (Pq S2 _ h27) _ h27;have hS8:(Qb M7 S2) S=WN:=by rw[cf nS];show hS7
 have hD8:(Qb M7 S2) D=NZ (zs.map stA):=by rw[cf nD];show s7 _ _ hD6
 show OD S xs hS8 co.ok co.l48 (λE M8 sp hE s8 hE8 srt sl sz mem=>?_);have nt:NtOk m xs:=By co.ok co.l48 co.lens Ab;have so:SpOk sp:=BH srt sz sl;let⟨pc,pr,sr⟩:=b17 mm co.ok co.lens co.cl so mem;show⟨S,D,E,xs,zs,sp,m,rfl,s8 _ _ hS8,nt,rfl,rfl,s8 _ _ hD8,pc,rfl,hE8,so,pr,λM9 s9=>?_⟩;show⟨S,D,E,xs,zs,sp,m,rfl,s9 _ _ (s8 _ _ hS8),nt,rfl,rfl,s9 _ _ (s8 _ _ hD8),pc,rfl,s9 _ _ hE8,so,sr,λM' y_=>k M'⟩
end
def FP (K:PySem.W.Frag)(n:Str)(st:Stmt)(f:Addr)(d:FuncData)(cd:Value):Prop:=∃oc od kV dc pm an ct sl,d=Tt n n ZFK Zw U5 .none dc pm an cd ct/\ZK3 n=Af (NO f)/\GW f=FU (By oc od (.func d) sl)/\ZBN cd n=true/\Gv K XS=true
variable {ps:Pg}{h:Heap}
section
variable {n:Str}{st:Stmt}{d:FuncData}{cd:Value}
def FP.fn (X:K.In h)(G:h.Ns mainGlobals mg)(a:Sj n st f d cd)(hb:∀(kV doc pm:Value) (an:Option Addr) (cdv ct:Value) (us:List Value),us.length=ps.length->Ko (Tt n n ZFK Zw U5 .none doc pm an cdv ct) (YR us)=Gx ZF5):Fn K mg n st f d ps:=by
 let⟨oc,od,kV,dc,pm,an,ct,sl,rfl,a,l,c,k⟩:=a;show BH (bs4 l c k) ((bs4 l c k).binds hb) (PySem.W.mg_of X G a)
def FP.code (a:Sj n st f d cd):d.code=cd:=by
 let⟨oc,od,kV,dc,pm,an,ct,sl,rfl,_⟩:=a;rfl
end
def us0 (h:P []):∀us:List Value,us.length=0->ZJK:=λus e=>by rw[List.eq_nil_of_length_eq_zero e];show h
theorem usS (h:∀a us,us.length=n->P (a::us))(us:Nk)(e:us.length=n+1):ZJK:=by
 cases us with
 | nil=>cases e
 | cons a us=>show h a us (Nat.succ.inj e)
def us1 (h:∀x0,P [x0]):∀us:List Value,us.length=1->ZJK:=ZA5 0 (us0 (P:=ZBW (a::l)) (h a))
def us2 (h:∀x0 x1,P [x0,x1]):∀us:List Value,us.length=2->ZJK:=ZA5 1 (us1 (P:=ZBW (a::l)) (h a))
def us3 (h:∀x0 x1 x2,P [x0,x1,x2]):∀us:List Value,us.length=3->ZJK:=ZA5 2 (us2 (P:=ZBW (a::l)) (h a))
def us4 (h:∀x0 x1 x2 x3,P [x0,x1,x2,x3]):∀us:List Value,us.length=4->ZJK:=ZA5 3 (us3 (P:=ZBW (a::l)) (h a))
def us5 (h:∀x0 x1 x2 x3 x4,P [x0,x1,x2,x3,x4]):∀us:List Value,us.length=5->ZJK:=ZA5 4 (us4 (P:=ZBW (a::l)) (h a))
abbrev tbs (x0 x1:Addr):Au (Addr×Str×Pos):=[(x0,"near_pairs.<locals>.<lambda>",⟨101,42,101,73⟩),(x1,"made_of.<locals>.<lambda>",⟨162,37,162,85⟩)]
abbrev GL (K:PySem.W.Frag)(P:Program)(w:World)(x0 x1:Addr)(scr:BO (Addr×NX)):G3:=Dt K (tbs x0 x1) P w ZAo scr
def gE (K:PySem.W.Frag)(P:Program)(w:World)(x0 x1:Addr):Sp:=λvs H Q E=>∃scr,upF (GL K P w x0 x1 scr) (Φ_law (GL K P w x0 x1 scr)) vs H Q E
def b33 {ι:Type}{P:Program}{CX:CXT}{fd:FuncData}{sp:ι->Sp}(h:∀i,FnOk P w K mg base CX k f fd ps (sp i)):FnOk P w K mg base CX k f fd ps (λvs H Q E=>∃i,sp i vs H Q E):=⟨λvs H Q E ⟨i,x⟩=>(h i).len vs H Q E x,λA outer s H args us vs Q E hr e b v ⟨i,x⟩=>(h i).run A outer s H args us vs Q E hr e b v x⟩
def nd2 {a b:Addr}(h:a≠b):[a,b].Nodup:=by simp[h]
theorem all_mk {fa:Addr}(X:K.In h)(G:h.Ns mainGlobals mg)(hfa:mg "law" = NO fa)
  {f0 f1 f2 f3 f4 f5 f6 f7 f8 f9 f10 f11 f12 f13 f14 f15 f16 f17 f18 f19 f20 f21 f22 f23 f24 f25 f26 f27 f28 f29 f30 f31 f32 f33 f34 f35 f36 f37 f38 f39 f40 f41 f42 f43 f44 f45 f46 f47 f48 f49 f50 f51 f52 f53 f54 f55 f56 f57 f58 f59 f60:Addr} {d0 d1 d2 d3 d4 d5 d6 d7 d8 d9 d10 d11 d12 d13 d14 d15 d16 d17 d18 d19 d20 d21 d22 d23 d24 d25 d26 d27 d28 d29 d30 d31 d32 d33 d34 d35 d36 d37 d38 d39 d40 d41 d42 d43 d44 d45 d46 d47 d48 d49 d50 d51 d52 d53 d54 d55 d56 d57 d58 d59 d60:FuncData} {cd0 cd1 cd2 cd3 cd4 cd5 cd6 cd7 cd8 cd9 cd10 cd11 cd12 cd13 cd14 cd15 cd16 cd17 cd18 cd19 cd20 cd21 cd22 cd23 cd24 cd25 cd26 cd27 cd28 cd29 cd30 cd31 cd32 cd33 cd34 cd35 cd36 cd37 cd38 cd39 cd40 cd41 cd42 cd43 cd44 cd45 cd46 cd47 cd48 cd49 cd50 cd51 cd52 cd53 cd54 cd55 cd56 cd57 cd58 cd59 cd60:Value}
  (a0:Sj "_law_hand" eZ f0 d0 cd0)
  (a1:Sj "_law_next" eX f1 d1 cd1)
  (a2:Sj "_law_take" eT f2 d2 cd2)
  (a3:Sj "_law_draw" fA f3 d3 cd3)
  (a4:Sj "_law_divisor" cD f4 d4 cd4)
  (a5:Sj "_law_point" dR f5 d5 cd5)
  (a6:Sj "_law_middle" cU f6 d6 cd6)
  (a7:Sj "_law_spot" eU f7 d7 cd7)
  (a8:Sj "_law_ring" eV f8 d8 cd8)
  (a9:Sj "_law_layers" cV f9 d9 cd9)
  (a10:Sj "_law_nest" eY f10 d10 cd10)
  (a11:Sj "_law_drawn" dW f11 d11 cd11)
  (a12:Sj "_law_frame" dU f12 d12 cd12)
  (a13:Sj "_law_slant" dQ f13 d13 cd13)
  (a14:Sj "_law_value" dO f14 d14 cd14)
  (a15:Sj "_law_strokes" cB f15 d15 cd15)
  (a16:Sj "_law_values" cS f16 d16 cd16)
  (a17:Sj "_law_framed" cW f17 d17 cd17)
  (a18:Sj "_law_slanted" cC f18 d18 cd18)
  (a19:Sj "_law_closed" cY f19 d19 cd19)
  (a20:Sj "others_at" bZ f20 d20 cd20)
  (a21:Sj "is_ahead" cZ f21 d21 cd21)
  (a22:Sj "turn_from" bY f22 d22 cd22)
  (a23:Sj "line_through" bL f23 d23 cd23)
  (a24:Sj "turn" gF f24 d24 cd24)
  (a25:Sj "lies_on" dM f25 d25 cd25)
  (a26:Sj "onward_of" cA f26 d26 cd26)
  (a27:Sj "joined_of" cE f27 d27 cd27)
  (a28:Sj "merged" eR f28 d28 cd28)
  (a29:Sj "ordered" dJ f29 d29 cd29)
  (a30:Sj "in_order" dA f30 d30 cd30)
  (a31:Sj "ranks_of" cP f31 d31 cd31)
  (a32:Sj "spans_of" cO f32 d32 cd32)
  (a33:Sj "flipped" eC f33 d33 cd33)
  (a34:Sj "near_pairs" bS f34 d34 cd34)
  (a35:Sj "divisor_of" bT f35 d35 cd35)
  (a36:Sj "point_by" cQ f36 d36 cd36)
  (a37:Sj "crossing_of" bR f37 d37 cd37)
  (a38:Sj "ends_in_order" bJ f38 d38 cd38)
  (a39:Sj "shared_on_line" bB f39 d39 cd39)
  (a40:Sj "meet" gG f40 d40 cd40)
  (a41:Sj "marks_of" cR f41 d41 cd41)
  (a42:Sj "cut_at" fB f42 d42 cd42)
  (a43:Sj "turned" eQ f43 d43 cd43)
  (a44:Sj "added" fP f44 d44 cd44)
  (a45:Sj "add_bit" eG f45 d45 cd45)
  (a46:Sj "bits_of" eD f46 d46 cd46)
  (a47:Sj "made_of" dL f47 d47 cd47)
  (a48:Sj "_law_ahead" eB f48 d48 cd48)
  (a49:Sj "_law_sorted" cT f49 d49 cd49)
  (a50:Sj "_law_cross" dZ f50 d50 cd50)
  (a51:Sj "_law_turn" eS f51 d51 cd51)
  (a52:Sj "_law_spots" dP f52 d52 cd52)
  (a53:Sj "_law_on" gH f53 d53 cd53)
  (a54:Sj "_law_net" fO f54 d54 cd54)
  (a55:Sj "_law_bit_right" bQ f55 d55 cd55)
  (a56:Sj "_law_strokes_right" aZ f56 d56 cd56)
  (a57:Sj "_law_pieces_right" bC f57 d57 cd57)
  (a58:Sj "_law_whole" dN f58 d58 cd58)
  (a59:Sj "_law_pieces_kind" bI f59 d59 cd59)
  (a60:Sj "law" iF f60 d60 cd60)
  (z0:ZK3 "abs" = QJ)
  (z1:ZK3 "any" = QJ)
  (z2:ZK3 "bool" = QJ)
  (z3:ZK3 "dict" = QJ)
  (z4:ZK3 "enumerate" = QJ)
  (z5:ZK3 "int" = QJ)
  (z6:ZK3 "isinstance" = QJ)
  (z7:ZK3 "len" = QJ)
  (z8:ZK3 "list" = QJ)
  (z9:ZK3 "max" = QJ)
  (z10:ZK3 "min" = QJ)
  (z11:ZK3 "range" = QJ)
  (z12:ZK3 "reversed" = QJ)
  (z13:ZK3 "sorted" = QJ)
  (z14:ZK3 "tuple" = QJ)
  (z15:ZK3 "zip" = QJ)
  {p34 q34:Addr} (r34:cd34=A5 q34) (wh34:GM K q34 p34=true) (wn34:GW p34=none)
  {p47 q47:Addr} (r47:cd47=A5 q47) (wh47:GM K q47 p47=true) (wn47:GW p47=none)
  (wd:(p34 == p47)=false)
  : (∀p∈[p34,p47],GW p=none/\∃c,GM K c p=true)/\∃fd:FuncData,(∀(s:Shared) (v:Value),BindsTo s fd (YR [v]) [("_law_script",v)])/\∀base:Heap,K.In base->base.Ns mainGlobals mg->BM base mg->FnOk l.prog w K mg base CX0 11 fa fd ["_law_script"] (gE K l.prog w p34 p47):=by
 let⟨_,_,_,_,_,_,_,_,ed,ea,_⟩:=id a60;have e:=hfa.symm.trans (PySem.W.mg_of X G ea);cases e;have T:Txt K mg ⟨f0,d0,f1,d1,f2,d2,f3,d3,f4,d4,f5,d5,f6,d6,f7,d7,f8,d8,f9,d9,f10,d10,f11,d11,f12,d12,f13,d13,f14,d14,f15,d15,f16,d16,f17,d17,f18,d18,f19,d19,f20,d20,f21,d21,f22,d22,f23,d23,f24,d24,f25,d25,f26,d26,f27,d27,f28,d28,f29,d29,f30,d30,f31,d31,f32,d32,f33,d33,f34,d34,f35,d35,f36,d36,f37,d37,f38,d38,f39,d39,f40,d40,f41,d41,f42,d42,f43,d43,f44,d44,f45,d45,f46,d46,f47,d47,f48,d48,f49,d49,f50,d50,f51,d51,f52,d52,f53,d53,f54,d54,f55,d55,f56,d56,f57,d57,f58,d58,f59,d59,fa,d60,p34,q34,p47,q47⟩:=⟨Uc a0,Uc a1,Uc a2,Vi a3,Vi a4,ZLH a5,Vi a6,ZLH a7,ZHg a8,Vi a9,Uc a10,Vi a11,Uc a12,Uc a13,ZHg a14,ZHg a15,ZHg a16,Vi a17,Vi a18,Vi a19,Uc a20,Vi a21,Vi a22,Vi a23,ZLH a24,ZLH a25,Uc a26,Uc a27,ZLH a28,Vi a29,Uc a30,Uc a31,Uc a32,Uc a33,Uc a34,Vi a35,ZLH a36,Vi a37,Vi a38,ZHg a39,ZHg a40,Uc a41,ZLH a42,Uc a43,Vi a44,ZHg a45,Uc a46,Vi a47,Vi a48,Uc a49,ZHg a50,ZLH a51,Uc a52,ZLH a53,SI a54 (us5 (ED rfl)),SI a55 (us5 (ED rfl)),ZHg a56,ZHg a57,Uc a58,Vi a59,Uc a60,Bw X G z0,Bw X G z1,Bw X G z2,Bw X G z3,Bw X G z4,Bw X G z5,Bw X G z6,Bw X G z7,Bw X G z8,Bw X G z9,Bw X G z10,Bw X G z11,Bw X G z12,Bw X G z13,Bw X G z14,Bw X G z15,a34.code.trans r34,wh34,a47.code.trans r47,wh47,nd2 (ne_of_beq_false wd)⟩
 show By (Kp (A3 (BH wn34 _ wh34) (Kp (A3 (BH wn47 _ wh47) (MI ((AN))))))) d60 (λs v=>by rw[ed];show .of_eq rfl) (λbase y_ y_ hB=>b33 λscr=>cb7 (fx:=ZAo) (scr:=scr) T hB NJ)
theorem walk {q:Program}{loose:Pg}{XP:(Str->OV)->Heap->Prop}{YP:World->Heap->Prop}{d:DefRec}{K:Params->PySem.W.Frag}{x0 x1:Addr}(hn:l.most=Af 63)(hdf:d.params.defaults=[])
  (hY:∀(w:World) (h:Heap),YP w h->(YD).In h) (hT:∀(w:World) (h:Heap),YP w h->∀p∈[x0,x1],Cj p=FU ((PySem.W.tabObj #[])))
  (F:∀(w:World) (mg:Str->Option Value) (fa:Addr) (h:Heap),(K w.params).In h->h.Ns mainGlobals mg->mg d.name=some (.ref fa)->
   (∀p∈[x0,x1],(K w.params).lookup p=none/\∃c,PySem.W.codeHdIn (K w.params) c p=true)/\∃fd:FuncData,(∀(s:Shared) (u:Value),BindsTo s fd ⟨[u],[]⟩ [("_law_script",u)])/\∀base:Heap,(K w.params).In base->base.Ns mainGlobals mg->BM base mg->FnOk l.prog w (K w.params) mg base CX0 11 fa fd ["_law_script"] (gE (K w.params) l.prog w x0 x1)) :
  PySem.W.WalkO q loose XP YP l.row.toRowW d [] (WZ f vs):=
 L2.walk_ofT (n:=63) (k:=11) (x:="_law_script") (sp:=ID (gE YD l.prog w x0 x1)) (ts:=[x0,x1]) hn AC hdf ⟨rfl,by decide,by decide⟩ hY hT F (λw H a ns y_ hS hT=>A3 (FU ((a,ns))) (bg2 (ts:=tbs x0 x1) rfl rfl rfl hS hT (Pf a ns rfl Nn)))
end My
end
noncomputable def PySem.W.Fast.tw85901095340840876 : Nat := 0
noncomputable def PySem.W.Fast.tw14832157173398536590 : Nat := 0
noncomputable def PySem.W.Fast.tw2604869446603028851 : Nat := 0
noncomputable def PySem.W.Fast.tw9229157433734596314 : Nat := 0
noncomputable def PySem.W.Fast.tw3884216118105994567 : Nat := 0
noncomputable def PySem.W.Fast.tw11547978205040277112 : Nat := 0
noncomputable def PySem.W.Fast.tw7950466494371816345 : Nat := 0
noncomputable def PySem.W.Fast.tw16885951749746958175 : Nat := 0
noncomputable def PySem.W.Fast.tw13675858566152207500 : Nat := 0
noncomputable def PySem.W.Fast.tw7760786390939252794 : Nat := 0
noncomputable def PySem.W.Fast.tw10663881795553990507 : Nat := 0
noncomputable def PySem.W.Fast.tw13973702304034298054 : Nat := 0
noncomputable def PySem.W.Fast.tw13871724367064034995 : Nat := 0
noncomputable def PySem.W.Fast.tw4941172371541550039 : Nat := 0
noncomputable def PySem.W.Fast.tw4983798179038722099 : Nat := 0
noncomputable def PySem.W.Fast.tw16030010049257515723 : Nat := 0
noncomputable def PySem.W.Fast.tw3885395286472798638 : Nat := 0
noncomputable def PySem.W.Fast.tw30887674519943331 : Nat := 0
noncomputable def PySem.W.Fast.tw7276615567438574110 : Nat := 0
noncomputable def PySem.W.Fast.tw7215912464528735103 : Nat := 0
noncomputable def PySem.W.Fast.tw11520442476748909473 : Nat := 0
noncomputable def PySem.W.Fast.tw16455758012163624152 : Nat := 0
noncomputable def PySem.W.Fast.tw12351883929358986135 : Nat := 0
noncomputable def PySem.W.Fast.tw666342112370735696 : Nat := 0
noncomputable def PySem.W.Fast.tw3495681937842166933 : Nat := 0
noncomputable def PySem.W.Fast.tw2836840857096032509 : Nat := 0
noncomputable def PySem.W.Fast.tw6652948210558051909 : Nat := 0
noncomputable def PySem.W.Fast.tw3071698050988550698 : Nat := 0
noncomputable def PySem.W.Fast.tw11766611943194363407 : Nat := 0
noncomputable def PySem.W.Fast.tw3410334319267227592 : Nat := 0
noncomputable def PySem.W.Fast.tw682577044580961076 : Nat := 0
noncomputable def PySem.W.Fast.tw566382792861390393 : Nat := 0
noncomputable def PySem.W.Fast.tw11978831836123927660 : Nat := 0
noncomputable def PySem.W.Fast.tw3169217999490569304 : Nat := 0
noncomputable def PySem.W.Fast.tw8771628867722130707 : Nat := 0
noncomputable def PySem.W.Fast.tw17004340750216210526 : Nat := 0
noncomputable def PySem.W.Fast.tw15374386331559140914 : Nat := 0
noncomputable def PySem.W.Fast.tw17154495835558448076 : Nat := 0
noncomputable def PySem.W.Fast.tw15043634233154639121 : Nat := 0
noncomputable def PySem.W.Fast.tw11337569198340756014 : Nat := 0
noncomputable def PySem.W.Fast.tw3982173534354282381 : Nat := 0
noncomputable def PySem.W.Fast.tw12325191128880395795 : Nat := 0
noncomputable def PySem.W.Fast.tw1214659591239539014 : Nat := 0
noncomputable def PySem.W.Fast.tw5454829514207787244 : Nat := 0
noncomputable def PySem.W.Fast.tw12584261558579450998 : Nat := 0
noncomputable def PySem.W.Fast.tw2382498643346383724 : Nat := 0
noncomputable def PySem.W.Fast.tw4959630842703326781 : Nat := 0
noncomputable def PySem.W.Fast.tw6192862871089937039 : Nat := 0
noncomputable def PySem.W.Fast.tw11447334858420680430 : Nat := 0
noncomputable def PySem.W.Fast.tw11902074638001257162 : Nat := 0
noncomputable def PySem.W.Fast.tw8637079396147884826 : Nat := 0
noncomputable def PySem.W.Fast.tw12134633095493724002 : Nat := 0
noncomputable def PySem.W.Fast.tw256387837521728445 : Nat := 0
noncomputable def PySem.W.Fast.tw7116845132164222257 : Nat := 0
noncomputable def PySem.W.Fast.tw748857902340429539 : Nat := 0
noncomputable def PySem.W.Fast.tw14221366191851801415 : Nat := 0
noncomputable def PySem.W.Fast.tw558954060990746223 : Nat := 0
noncomputable def PySem.W.Fast.tw4748081336964773587 : Nat := 0
noncomputable def PySem.W.Fast.tw16814397949771132213 : Nat := 0
noncomputable def PySem.W.Fast.tw13409474505633684569 : Nat := 0
noncomputable def PySem.W.Fast.tw424826119434489438 : Nat := 0
noncomputable def PySem.W.Fast.tw16876135394780555700 : Nat := 0
noncomputable def PySem.W.Fast.tw14423155094739420886 : Nat := 0
noncomputable def PySem.W.Fast.tw7306113385937824379 : Nat := 0
noncomputable def PySem.W.Fast.tw18388823888869245485 : Nat := 0
noncomputable def PySem.W.Fast.tw17165916309832678305 : Nat := 0
noncomputable def PySem.W.Fast.tw6462595306054191183 : Nat := 0
noncomputable def PySem.W.Fast.tw7752193586777184760 : Nat := 0
noncomputable def PySem.W.Fast.tw11951030548419116415 : Nat := 0
noncomputable def PySem.W.Fast.tw311586969375451136 : Nat := 0
noncomputable def PySem.W.Fast.tw17663254187457547098 : Nat := 0
noncomputable def PySem.W.Fast.tw4076281467588626618 : Nat := 0
noncomputable def PySem.W.Fast.tw4858821062334080636 : Nat := 0
noncomputable def PySem.W.Fast.tw14097526341499622020 : Nat := 0
noncomputable def PySem.W.Fast.tw10447828445068485301 : Nat := 0
noncomputable def PySem.W.Fast.tw17560944825593222058 : Nat := 0
noncomputable def PySem.W.Fast.tw9039168691852657312 : Nat := 0
noncomputable def PySem.W.Fast.tw3504293556202934599 : Nat := 0
noncomputable def PySem.W.Fast.tw2756848212887650994 : Nat := 0
noncomputable def PySem.W.Fast.tw12249071740392216163 : Nat := 0
noncomputable def PySem.W.Fast.tw16214239958953116362 : Nat := 0
noncomputable def PySem.W.Fast.tw23692520060537749 : Nat := 0
noncomputable def PySem.W.Fast.tw17029345773428424593 : Nat := 0
noncomputable def PySem.W.Fast.tw2698186370596790557 : Nat := 0
noncomputable def PySem.W.Fast.tw8256509356690913330 : Nat := 0
noncomputable def PySem.W.Fast.tw17891031088730074900 : Nat := 0
noncomputable def PySem.W.Fast.tw17897860215103261467 : Nat := 0
noncomputable def PySem.W.Fast.tw7014791668904011764 : Nat := 0
noncomputable def PySem.W.Fast.tw2246136456713275075 : Nat := 0
noncomputable def PySem.W.Fast.tw4768631838925604467 : Nat := 0
noncomputable def PySem.W.Fast.tw11835022413360951516 : Nat := 0
noncomputable def PySem.W.Fast.tw12011321376211580275 : Nat := 0
noncomputable def PySem.W.Fast.tw14459339986429075285 : Nat := 0
noncomputable def PySem.W.Fast.tw13199245623517861423 : Nat := 0
noncomputable def PySem.W.Fast.tw16892334821857345008 : Nat := 0
noncomputable def PySem.W.Fast.tw14875581092175571292 : Nat := 0
noncomputable def PySem.W.Fast.tw13404275252922822961 : Nat := 0
noncomputable def PySem.W.Fast.tw9634110999574170629 : Nat := 0
noncomputable def PySem.W.Fast.tw9988375165446366273 : Nat := 0
noncomputable def PySem.W.Fast.tw15710588455211981898 : Nat := 0
noncomputable def PySem.W.Fast.tw16659139975858526710 : Nat := 0
noncomputable def PySem.W.Fast.tw6199006639240070139 : Nat := 0
noncomputable def PySem.W.Fast.tw10861967792162784639 : Nat := 0
noncomputable def PySem.W.Fast.tw5347440313656442918 : Nat := 0
noncomputable def PySem.W.Fast.tw8675336059573686274 : Nat := 0
noncomputable def PySem.W.Fast.tw15090399179736298435 : Nat := 0
noncomputable def PySem.W.Fast.tw8443700181992183854 : Nat := 0
noncomputable def PySem.W.Fast.tw176144000564844276 : Nat := 0
noncomputable def PySem.W.Fast.tw441620587161510164 : Nat := 0
noncomputable def PySem.W.Fast.tw14439972401493945137 : Nat := 0
noncomputable def PySem.W.Fast.tw11580084398522162736 : Nat := 0
noncomputable def PySem.W.Fast.tw7880302280144676018 : Nat := 0
noncomputable def PySem.W.Fast.tw1330414857004758659 : Nat := 0
noncomputable def PySem.W.Fast.tw16444699706488867098 : Nat := 0
noncomputable def PySem.W.Fast.tw9433699374661444233 : Nat := 0
noncomputable def PySem.W.Fast.tw7594252120365614698 : Nat := 0
noncomputable def PySem.W.Fast.tw12118843776136890883 : Nat := 0
noncomputable def PySem.W.Fast.tw3351450346585046843 : Nat := 0
noncomputable def PySem.W.Fast.tw12031747647961242552 : Nat := 0
noncomputable def PySem.W.Fast.tw11763138262119815650 : Nat := 0
noncomputable def PySem.W.Fast.tw15018849756730411812 : Nat := 0
noncomputable def PySem.W.Fast.tw3763054041164238544 : Nat := 0
noncomputable def PySem.W.Fast.tw2783885667211350528 : Nat := 0
noncomputable def PySem.W.Fast.tw9029950133828052657 : Nat := 0
noncomputable def PySem.W.Fast.tw10607029689263079505 : Nat := 0
noncomputable def PySem.W.Fast.tw3930145012036389090 : Nat := 0
noncomputable def PySem.W.Fast.tw14058417050065407231 : Nat := 0
noncomputable def PySem.W.Fast.tw3786616014396858988 : Nat := 0
noncomputable def PySem.W.Fast.tw10483244023682991708 : Nat := 0
noncomputable def PySem.W.Fast.tw8914396167208512435 : Nat := 0
noncomputable def PySem.W.Fast.tw11590796345285732437 : Nat := 0
noncomputable def PySem.W.Fast.tw8218709346778016871 : Nat := 0
noncomputable def PySem.W.Fast.tw14418701376261056364 : Nat := 0
noncomputable def PySem.W.Fast.tw8026296740600903134 : Nat := 0
noncomputable def PySem.W.Fast.tw4902982146681791933 : Nat := 0
noncomputable def PySem.W.Fast.tw7746745794194318656 : Nat := 0
noncomputable def PySem.W.Fast.tw4355738005501185846 : Nat := 0
noncomputable def PySem.W.Fast.tw13251699701446828378 : Nat := 0
noncomputable def PySem.W.Fast.tw6119149437750775972 : Nat := 0
noncomputable def PySem.W.Fast.tw9108623155386067332 : Nat := 0
noncomputable def PySem.W.Fast.tw6216013893917714489 : Nat := 0
noncomputable def PySem.W.Fast.tw4910007622755244432 : Nat := 0
noncomputable def PySem.W.Fast.tw3600530368434788635 : Nat := 0
noncomputable def PySem.W.Fast.tw13755136666037024355 : Nat := 0
noncomputable def PySem.W.Fast.tw1568326745793652750 : Nat := 0
noncomputable def PySem.W.Fast.tw4946986370205352798 : Nat := 0
noncomputable def PySem.W.Fast.tw4759869336729576715 : Nat := 0
noncomputable def PySem.W.Fast.tw2737866907216117178 : Nat := 0
noncomputable def PySem.W.Fast.tw499450212172694824 : Nat := 0
noncomputable def PySem.W.Fast.tw2957974129527675715 : Nat := 0
noncomputable def PySem.W.Fast.tw9642237658501855696 : Nat := 0
noncomputable def PySem.W.Fast.tw11952448385484801358 : Nat := 0
noncomputable def PySem.W.Fast.tw15125130372647273615 : Nat := 0
noncomputable def PySem.W.Fast.tw8972575915088854818 : Nat := 0
noncomputable def PySem.W.Fast.tw5229174783595258004 : Nat := 0
noncomputable def PySem.W.Fast.tw5858808142703755797 : Nat := 0
noncomputable def PySem.W.Fast.tw1250833417011605631 : Nat := 0
noncomputable def PySem.W.Fast.tw7286382138960749011 : Nat := 0
noncomputable def PySem.W.Fast.tw6980847607501201765 : Nat := 0
open PySem PySem.W PyProof.Rows
set_option maxHeartbeats 0 in
theorem PySem.Challenge.cw_plymap_k24_bits_and_passes_holds : PySem.Challenge.rw_plymap_k24_bits_and_passes.Holds := by
 w_on;o_law;k_head;(case hw=>w_witness2)
 k_fill
 refine My.walk (l:=PySem.Challenge.rw_plymap_k24_bits_and_passes) rfl rfl (fun w h Y=>PySem.W.km_in_of Y) (fun w h Y=>PySem.W.km_tabs_of Y) ?F
 case F=>
  intro w mg fa h KX G hmg;refine' My.all_mk KX G hmg ?a0 ?a1 ?a2 ?a3 ?a4 ?a5 ?a6 ?a7 ?a8 ?a9 ?a10 ?a11 ?a12 ?a13 ?a14 ?a15 ?a16 ?a17 ?a18 ?a19 ?a20 ?a21 ?a22 ?a23 ?a24 ?a25 ?a26 ?a27 ?a28 ?a29 ?a30 ?a31 ?a32 ?a33 ?a34 ?a35 ?a36 ?a37 ?a38 ?a39 ?a40 ?a41 ?a42 ?a43 ?a44 ?a45 ?a46 ?a47 ?a48 ?a49 ?a50 ?a51 ?a52 ?a53 ?a54 ?a55 ?a56 ?a57 ?a58 ?a59 ?a60 ?z0 ?z1 ?z2 ?z3 ?z4 ?z5 ?z6 ?z7 ?z8 ?z9 ?z10 ?z11 ?z12 ?z13 ?z14 ?z15 ?r34 ?wh34 ?wn34 ?r47 ?wh47 ?wn47 ?wd
  (case a0 | a1 | a2 | a3 | a4 | a5 | a6 | a7 | a8 | a9 | a10 | a11 | a12 | a13 | a14 | a15 | a16 | a17 | a18 | a19 | a20 | a21 | a22 | a23 | a24 | a25 | a26 | a27 | a28 | a29 | a30 | a31 | a32 | a33 | a34 | a35 | a36 | a37 | a38 | a39 | a40 | a41 | a42 | a43 | a44 | a45 | a46 | a47 | a48 | a49 | a50 | a51 | a52 | a53 | a54 | a55 | a56 | a57 | a58 | a59 | a60=>exact⟨_,_,_,_,_,_,_,_,rfl,by k_is,by k_is,by k_is,by k_is⟩)
  (case z0 | z1 | z2 | z3 | z4 | z5 | z6 | z7 | z8 | z9 | z10 | z11 | z12 | z13 | z14 | z15=>k_is)
  (case r34 | r47=>rfl)
  (case wh34 | wn34 | wh47 | wn47 | wd=>kernel_rfl)
