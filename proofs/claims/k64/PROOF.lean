import PyProof.Rows.All
import Wide.All
import OpenK.AllK
import Wide.FinOn
import Lean
import PyProof.EqAt
import PyProof.EqKinds
import PyProof.TupleCall
import PySem.Challenge.RW_farhold_k64_whole_two_orders
set_option linter.all false
def AB:=@if_neg
def AD:=@List.mem_filter
def AE:=@if_pos
def AG:=@List.mem_map
def AH:=@List.append_nil
def AJ:=@List.map_cons
def AK:=@List.map_map
def AL:=@List.nodup_append
def AM:=@Nat.zero_le
def AN:=@List.append_assoc
def AO:=@PySem.Heap.lt_size
def AS:=@Bool.false_ne_true
def AV:=@List.nodup_cons
def AW:=@List.length_filter_le
def AY:=@List.mem_of_find?_eq_some
def A_:=@Nat.le_trans
def BB:=@List.mem_range
def BC:=@Int.le_refl
def BD:=@List.mem_map_of_mem
def BG:=@List.size_toArray
def BH:=@Int.toNat_of_nonneg
def BI:=@List.find?_eq_none
def BK:=@Nat.ne_of_lt
def BN:=@PySem.F.plainAttrs_list
def BO:=@PySem.Heap.get?_update_other
def BP:=@List.map_congr_left
def BQ:=@List.take_length
def BR:=@List.length_cons
def BS:=@List.length_eq_zero_iff
def BU:=@Nat.lt_of_lt_of_le
def BV:=@PySem.wpAny_dictEntries
def BW:=@of_decide_eq_true
def BX:=@List.find?_cons
def BZ:=@List.flatMap_append
def B_:=@List.length_nil
def CA:=@Int.toNat_natCast
def CC:=@PySem.boot_len
def CF:=@List.length_range
def CG:=@List.flatMap_cons
def CK:=@List.mem_cons
def CL:=@Bool.false_eq_true
def CM:=@PyProof.Rows.boot_isinstance
def CN:=@PySem.F.type_list_append
def CO:=@PySem.F.slot_list_append
def CQ:=@List.take_add_one
def CS:=@List.nodup_nil
def CU:=@PySem.wpAny_call_entry
def CV:=@List.mem_iff_getElem?
def CY:=@List.getElem?_eq_none
def C_:=@List.mem_flatMap
def DA:=@PySem.wpAny_holding
def DB:=@PyProof.Rows.boot_sorted
def DC:=@PySem.wpAny_newObj_type
def DE:=@Array.length_toList
def DG:=@List.length_take
def DH:=@PySem.F.plainAttrs_dict
def DI:=@PySem.sizeLine_eq
def DJ:=@Nat.lt_irrefl
def DK:=@List.pairwise_map
def DO:=@List.mem_singleton
def DQ:=@Int.emod_nonneg
def DR:=@List.sum_cons
def DT:=@Nat.le_of_lt
def DU:=@PySem.Heap.get?_update_self
def DV:=@List.pairwise_cons
def DW:=@Int.emod_lt_of_pos
def DX:=@Array.getElem?_eq_some_iff
def DZ:=@List.range_succ
def D_:=@List.find?_some
def EA:=@List.filter_cons
def EC:=@PySem.wpAny_dictEpoch
def EE:=@beq_eq_false_iff_ne
def EH:=@List.filter_congr
def EI:=@List.length_singleton
def EJ:=@List.not_mem_nil
def EO:=@PySem.wpAny_mono
def ER:=@Nat.ne_of_gt
def ET:=@List.getElem?_set_self
def EU:=@List.filter_eq_self
def EX:=@Nat.le_succ
def EY:=@List.filterMap_eq_nil_iff
def EZ:=@if_false
def E_:=@List.take_append_drop
def FD:=@Nat.mul_le_mul_right
def FE:=@PySem.tupleKind_room_in1
def FF:=@PySem.Obj.data_mapFields
def FK:=@PyProof.Rows.boot_tuple
def FL:=@PySem.W.mg_none_of
def FN:=@PySem.wpAny_field
def FO:=@List.filter_sublist
def FY:=@Nat.lt_of_le_of_lt
def F_:=@PySem.F.slot_dict_get
def F':=@PySem.Calls.callWith_builtin
def GA:=@PySem.F.plain_extend_loop
def GF:=@List.map_nil
def GJ:=@PySem.wpAny_setField_rec
def GK:=@Nat.lt_succ_of_le
def GN:=@Nat.le_succ_of_le
def GO:=@PySem.wpAny_notOrdered_dict
def GQ:=@Nat.not_lt
def GZ:=@PySem.size_of_entries
def G_:=@List.length_pos_iff
def HC:=@List.filterMap_cons
def HH:=@PySem.codeAny_mono
def HI:=@PySem.Obj.data_mapDictKeys
def HJ:=@PySem.Calls.evalArgs_plain
def HP:=@List.append_of_mem
def HV:=@PySem.wpAny_setField
def HW:=@PySem.wpAny_callSpecial?_slot
def HX:=@PySem.wpAny_typeNameOfWhole_itemiter
def H_:=@List.perm_append_comm
def IB:=@PySem.wpAny_typeNameOfWhole_keyiter
def IC:=@PySem.F.slot_dict_itemiterator_next
def IG:=@PySem.wpAny_Call_Name_kw
def IH:=@PySem.Calls.spliced_cons
def II:=@PySem.wpAny_passesOwn
def IJ:=@List.getElem?_set_ne
def IK:=@List.getD_eq_getElem?_getD
def IL:=@PySem.F.slot_dict_keyiterator_next
def IM:=@Std.Legacy.Range.forIn_eq_forIn_range'
def IT:=@List.map_id'
def IU:=@List.getElem_inj
def IV:=@List.flatMap_nil
def IZ:=@PySem.mem_of_lookup
def JD:=@PySem.F.slot_dict_values
def JE:=@Option.isSome_iff_exists
def JG:=@List.filter_map
def JJ:=@PySem.W.mg_of
def JK:=@List.mem_filterMap
def JL:=@List.filter_append
def JM:=@PySem.Calls.call_function_entry
def JV:=@if_true
def JW:=@PySem.wpAny_attempt
def JX:=@List.take_zero
def JY:=@List.ext_getElem?
def JZ:=@PySem.wpAny_typeNameOf_keyiter
def J_:=@PySem.F.entry_dict_get
def J':=@List.pairwise_lt_range
def KA:=@List.length_pos_of_mem
def KC:=@List.Perm.append_right
def KJ:=@PySem.F.slot_dict_pop
def KU:=@beq_iff_eq
def KZ:=@Nat.lt_succ_self
def K_:=@List.range'_succ
def K':=@List.any_eq_true
def LA:=@Array.isEmpty_iff_size_eq_zero
def LK:=@PySem.wpAny_truthy_bool
def LM:=@PySem.Calls.spliced_nil
def MF:=@PyProof.Rows.get?_update_seq
def MJ:=@List.sum_append
def MK:=@List.length_set
def MT:=@PySem.Obj.isFreed_of_fields
def OC:=@PySem.wpAny_isInstance
def OD:=@PySem.wpAny_forIn_list
def OF:=@PyProof.Rows.callWith_type1
def OO:=@or_false
def OP:=@List.find?_map
def OQ:=@List.contains_cons
def OR:=@Int.natCast_nonneg
def OS:=@PySem.Around.under_plainId
def PD:=@PySem.wpAny_execs_nil
def PF:=@PySem.codeAny_builtin
def PK:=@List.mem_or_eq_of_mem_set
def PL:=@List.getElem?_append_left
def PO:=@PySem.Obj.isFreed_of_dict
def PQ:=@Nat.le_of_lt_succ
def QD:=@PySem.W.KasT.kasWp_bind
def QE:=@Bool.true_and
def QF:=@Bool.and_true
def QG:=@PySem.F.type_list_extend
def QH:=@PySem.F.type_dict_values
def QI:=@PySem.F.slot_list_extend
def QX:=@List.lookup_cons
def RP:=@Nat.lt_trans
def RX:=@PySem.wpAny_of_eq
def RZ:=@PySem.wpAny_Call_method
def R_:=@List.of_mem_zip
def SA:=@List.mem_append
def SD:=@Bool.eq_iff_iff
def VH:=@PySem.wpAny_newList
def VM:=@Nat.sub_eq_zero_of_le
def VN:=@List.filterMap_append
def YW:=@PySem.wpAny_call
def Y_:=@PySem.call_meetsIn
def Y':=@PySem.W.callWith_K
def Z':=@PySem.wpAny_isOneOf_itemiter
def fe:=@PyProof.Rows.entry_list_sort
local macro_rules(kind:=Lean.Parser.Command.mutual)|s=>do
 let c:=s[1].getArgs
 if c[0]![1][1][0].getId != `Z then Lean.Macro.throwUnsupported
 let q:=fun(m:Lean.NameMap (Array Lean.Name×Lean.Syntax))(x:Lean.Syntax)=>x.rewriteBottomUp fun y=>if y.isIdent then match m.find? y.getId with|some (#[],b)=>b|_=>y else if y.isOfKind `Lean.Parser.Term.app then match m.find? y[0].getId with|some (p,b)=>if p.isEmpty then y else b.rewriteBottomUp fun z=>if z.isIdent then match p.findIdx? (·==z.getId) with|some i=>y[1][i]|_=>z else z|_=>y else y
 let e:=c[0]![1][3][1][1].getSepArgs
 let n<-`(noncomputable def a:=1)
 let mut m:={}
 for i in [0:e.size/2] do
  let h:=e[2*i]!
  let b:=q m e[2*i+1]!
  m:=if h.isIdent then m.insert h.getId (#[],b) else m.insert h[0].getId (h[1].getArgs.map (·.getId),b)
 let o<-(c.extract 1 c.size).mapM fun c=>do
  if c.isOfKind `Lean.Parser.Command.universe then
   let a:=c[1].getArgs
   if a[0]!.getId==`T then
    return Lean.mkNullNode ((a.extract 1 a.size).map fun i=>n.raw.rewriteBottomUp fun z=>if z.isIdent then Lean.mkIdent (.str `PySem.W.Fast s!"tw{i.getId.toString.foldl (fun n c=>n*52+if c.toNat<91 then c.toNat-65 else c.toNat-71) 0}") else z)
   else if a[0]!.getId==`S then `(section)
   else if a[0]!.getId==`N then `(namespace $(⟨a[1]!⟩))
   else if a.size==1 then `(end)
   else `(end $(⟨a[1]!⟩))
  else
   let c:=(q m c).rewriteBottomUp (·.setInfo .none)
   if [`Lean.Parser.Command.definition,`Lean.Parser.Command.abbrev,`Lean.Parser.Command.instance].contains c[1].getKind&&c[0].getArgs.all (·.isNone) then return c.setArg 0 n.raw[0] else return c
 return Lean.mkNullNode o
noncomputable section
mutual
def Z:=#[CA!,Type _,
ME!,as[i]?,
B?,.inl,
N?,.inr,
T!,.int,
AR!,.str,
MI!,by grind,
o? a,a=false,
Vs!,(nomatch e),
C?,.cons,
TD a b c,if a then b else c,
EE!,xs.length<=sizeLine,
P2! a b,{ cls:=a,data:=b },
BB!,.type,
AH!,"list",
Vy!,kvs.length<=sizeLine,
P4!,Addr×Value,
pi,(·.1),
DV!,.own,
CB!,"range",
Hk!,.fields,
F?,.none,
DW!,.ref,
S!,.nil,
A! a b,⟨a,b⟩,
V4!,λ_ q=>q,
MJ!,λ_ _ q=>q,
I! a b,by rw[a];exact b,
el! a b,by subst z;rw[a] at mu;exact b,
KE a,∀b o,a,
Cl! a,by rw[a];simp,
Go!,λz=>z,
QH!,.local,
Gp!,.cell,
Jg!,.free,
Av!,X.calm=true,
MK!,X.env::X.outer,
H4!,b≠X.env.locals,
Aw! a,λb o e=>a,
WF!,s.heap.objs.size<=a,
j? a,λb hb=>a,
ew! a,by rw[a];decide,
I? a b,by rw[a,b],
QJ!,{ s with heap:=h',toks:=t' },
D?,by simp,
WO!,(nomatch z),
e3!,λ_ _ e=>e,
CC!,by simpa using hb,
e5! a,X.env.scope.kind == a,
KM a,by rw[a];rfl,
Gq! a b,by rw[a];exact b,
ML! a,λy c e=>a,
GE,{ s with heap:=h' },
G? a b,by rw[<-a];exact b,
QM!,λ_ _=>False,
fD!,λ_ _ x=>x,
Gr!,.Name,
WT!,.Constant,
Tk,.bool,
l!,by decide,
WV!,.BoolOp,
QO!,b::rest,
WW! a,by intro AA s σ H Q I h;exact a,
Bd!,"tuple",
Gs! a,by simpa using a,
MN! a,λD σ H=>a,
pu,(·.2),
CD! a,∀b∈fp,a,
Ik!,"dict_itemiterator",
QS! a b c,if a then b else c,
QT! a,λi h st b hb=>a,
fi! a,λi h h' st k=>a,
QU!,by simpa using hu,
Ax! a,λb o hb e=>a,
WY!,by simp;lia,
Wb!,b=s1.heap.objs.size,
B!,by lia,
Gu!,i<=xs.length,
LB!,xs.length-i,
OA!,i<xs.length,
Wc!,i=xs.length,
We!,kvs.length=vs.length,
AS!,.builtin,
LC! a,by rw[a];lia,
fn!,"__init__",
Gv! a,{ s with heap:=a },
FF! a,show a from rfl,
DZ!,by simp at h,
At,by simpa using h,
CE!,.ins,
Cm! a b,show a from b,
Be! a,a<=sizeLine,
LD! a b,by rw[a,b];lia,
Wh! a b,by have:=a;rwa [b] at this,
Ok!,λ_=>none,
FG!,λ_=>rfl,
Cn! a,λy hy=>a,
Wi!,.Attribute,
Ol!,A.handled=none,
fo!,vs.length=ps.length,
Om!,us++ds,
Wj!,us.length=ps.length,
Wl!,by simpa using h2,
Wm!,by simp[e],
UF a b c,by rw[a,b,c],
fq!,kvs.length<sizeLine,
Co! a,by have:=a;lia,
UV!,.Subscript,
Da!,"dict",
Wy! a,λw' s3 I3 RC=>a,
UX!,A.units<cLine,
UY!,xs[j]?,
UZ!,j<xs.length,
ft! a b c,by rw[a,<-b];exact c,
fu!,by simp only[BG]<;>lia,
fv!,its.toArray.size+RJ.toArray.size,
Ai! a b c,by rw[a,b];exact c,
fw!,ns.length<=n,
Bf!,.list,
ZX!,λ_ _ _=>False,
f0!,λ_ _ h=>h,
Oq!,.tuple,
Ue!,ys[j]?,
f1!,xs.length=ys.length,
FI!,by simpa using e,
f4!,.ListComp,
f5!,by simp at e,
Bg! a,(by cases a),
FJ! a,λb o e hb=>a,
cw!,"dict_keyiterator",
f6!,i<es.size,
EH!,"StopIteration",
Gz!,(·.2.1),
f7!,j<es.size,
dY! a,by have:=a;simpa using this,
f8!,by simp[hj],
Db! a b,by rw[a,b];rfl,
db!,λc w' _ q=>q,
f9!,i<kvs.length,
Uf!,kvs[i]?,
de!,by simp[hi],
gA! a,λb ob hb e=>a,
Ug! a,λb ob e=>a,
Uh! a,by exact a,
gQ!,by assumption,
ge! a,acc.toList=a,
gg!,by simp[h1],
Ir!,"ValueError",
hI!,{ s with heap:=hh },
FK! a,show a by lia,
hs!,j<L.length,
Ui!,i<as.length,
LI! a b c,by rw[a,b,c];rfl,
Dc!,T2×Int,
Dd!,"number",
Cp!,"made",
BD!,"ticks",
Bh!,"hand",
BE!,"outs",
BF!,"holds",
Bi!,"records",
Is! a,by show a;decide,
UV a,λq hq=>a,
Or! a,∀q∈G.holds,a,
FL!,b≠p,
EI!,by simp[BL],
dg!,by simpa using hq,
Uj!,"dict_items",
je!,env::outer,
ww a,by rw[a],
Os! a,show a by simp,
It!,{ s with heap:=h1 },
LJ! a,show a from rfl,
dh!,"BaseException",
l8!,"__getattribute__",
Ot!,"BaseException.__getattribute__",
G0!,"__class__",
G1!,"object.__class__",
Um! a b c,by show a;rw[b];exact c,
nC!,{ s with heap:=h2 },
Ou! a b,by rw[<-a,b],
pC! b,λj a q e1 e2=>b,
xL a,by show a;lia,
Un! a,λq:T2×Int=>a,
Bj! a,λr hr=>a,
FM!,t∈l,
BG! a,λu hu=>a,
dj!,λq:T2=>q,
Ov! a,λq hq z=>a,
De!,t=tb,
LK!,"latest",
Ow!,"waiting",
qq!,Int×Addr,
CF! a,∀l∈ls,a,
q4! a b,by have:=a;exact b,
G2!,l1++l2,
Ox!,Addr×BM,
EJ!,"houses",
Cq!,"share",
BH!,"post",
Df!,"inquiries",
LL!,"finds",
Oy!,"enclosed",
rX!,by simp[Cb],
LM! a,{ W with qs:=a },
dk!,"house",
Dg!,(·.2.2),
sk! a,by unfold MC;rw[a];rfl,
LN! a,by unfold CD;rw[a];rfl,
so!,M.AF=G.AF,
LT! a,∀t∈G.hand,a,
dm!,by simpa using ht,
dn! a b c,by rw[<-a,<-b];exact c,
A0!,t∈G.hand,
tW! a,{ G with AF:=a },
Us!,j<RU.size,
t3!,i<l.length,
AZ!,t∈R,
du! a,∀t∈ahead,a,
t4!,by simpa using z,
dx! a,{ G with AI:=a },
t5!,i<=kvs.length,
dz! a,∀q∈qs,a,
O6!,by simpa using c,
V? a,λt ht=>a,
d2! a,show a by decide,
uB! a,X.A.handled=a,
PE! a,us.length=a,
uE!,"House.__init__",
uF!,"Post.__init__",
JF!,"make",
uG!,"House.make",
Bv!,"self",
HT!,"free",
uH!,"House.free",
uI!,"House.part",
uJ!,"House.came",
d5!,"weight",
uK!,"House.added",
uL!,"House.given",
uM!,"House.passed",
JH!,"clean",
uN!,"House.clean",
VD!,"state",
VE!,"told",
uO!,"House.told",
Lf!,"thing",
uP!,"is_spent",
uQ!,"House.is_spent",
uS!,"part_record",
uT!,"House.part_record",
AT,"hold",
uU!,"House.hold",
HV!,"drop",
uW!,"House.drop",
HW!,"take",
uX!,"House.take",
uY!,"House.tick",
PK!,"letters",
ua!,"Post.letters",
ub!,"Post.taken",
VH!,"send",
uc!,"deliver",
ud!,"weight_came",
ue!,"World.weight_came",
VK!,"letter",
uf!,"pass_came",
ug!,"World.pass_came",
VM!,"parted",
Lg!,"reached",
uh!,"_law_cell",
eA!,"_law_script",
ui!,"Inquiry.__init__",
uj!,"Inquiry.first",
uk!,"Inquiry.second",
ul!,"Inquiry.still",
um!,"Inquiry.result",
HY!,"let",
up!,"House.let",
Bc!,"ask",
uq!,"ask_came",
ur!,"World.ask_came",
us!,"answer_came",
ut!,"World.answer_came",
uu!,"let_came",
uv!,"World.let_came",
uw!,"beginner",
ux!,"let_all",
uy!,"World.let_all",
eC!,"unreached",
Dx!,"states",
eD!,"recorded",
VQ!,"_law_cell_here",
JN!,"_law_many",
u1!,"_law_class",
VR!,"_law_x",
eF!,"_law_world",
VT!,"_law_deed_here",
eH!,"_law_h",
Fo!,"many",
Hb!,"first_ticks",
JP!,"second_ticks",
vA!,ta∉G.hand,
AQ!,ta∈G.hand,
wp,tb∈G.hand,
vL! a,hl.length<=a,
Vf!,tb∉G.hand,
eS! a,{ G with hand:=a },
Vl! a,∀(x:Addr)(H':Hp),a,
vO! a,λb u e hb=>a,
S? a,λz hz=>a,
ec! a,∀(t:Addr)(H':Hp),a,
ek! a,by unfold YN;rw[a],
DX! a,∀q∈hl,a,
eq! a,λi σ H2 _ h=>a,
ep! a,let⟨_,_,_,fr⟩:=h;a,
EF! a,λb o e h1 h2=>a,
BC!,"back",
wv,"more",
Ah!,"pass",
QK!,x≠W.hs,
e9! a,show a by simp,
QL! a b,by rw[a];show b;lia,
fE! a b,{ W with c:=a,ls:=b },
EG!,W.ls++L,
WU!,G'.BJ=G.BJ,
QN!,G'.AQ=G.AQ,
fR! a,∀t∈G'.hand,a,
Ke!,λt _ h=>h,
DY!,l.th=t,
T?,a++b,
fe! a b c,by rw[a,b];show c;lia,
Gt!,l∈ls,
QP!,qs[j]?,
QQ!,b∈G.hand,
QR! a,by show a;lia,
MZ!,t=l.th,
Il!,G.AQ<=G'.AQ,
WX! a,λr hr t ht=>a,
Wa!,λt ht=>ht,
fj! a,∀(j:Nat) q G,a,
Im!,.hand,
In!,.step,
Od!,t∉ts,
Io! a,λk:Nat=>a,
QX!,fi.length=m,
Wf!,G.AX<G'.AX,
fm!,h=g.toNat,
Wg! a,W.FA.length<=a,
Gw!,"answer",
Gx! a,λb o eb hb=>a,
LE! a,λb ob e n=>a,
On!,(·.key),
LF! a,show a by lia,
AT!,e1++e2,
UW! a,λb o eb hb n1 n2 n3=>a,
Ip! a,a+G.AI.length,
Xg! a,a+G'.AI.length,
Oo!,W.qs[j]?,
FH!,(·.n),
fr! a b,by obtain⟨j,hj⟩:=a;exact b,
fs! a,{ W with qs:=a,c:=c,ls:=Ls },
LG!,y∈ys,
Ua!,z∈al,
Ub! a,λs g ts hz=>a,
Uc!,W'.GW=W.GW,
LH!,W'.hs=W.hs,
Gy!,A'<=A,
Iq!,B<=B',
Yy! a b,by unfold nums;rw[a];exact b,
fx!,W.qs[g.toNat]?,
Op!,W'.qs=W.qs,
Ud!,W.qs.length=m,
f3!,(·.toNat),
hT! a,λy L W' H' q G hs os rs hi tl nw e ey=>a,
Uk!,λt _=>rfl,
Ul!,h=l.g.toNat,
di! a,∀ts∈hs,a,
U! a b c,a b=some c,
V! a,(DW! a),
J? a,(a:Int),
i! a,DW! a,
Ch a b,U! H a b,
H! a,B? a,
p? a,decide (a),
b? a,a pi,
G! a b,a _ _ b,
O?,(pv 0),
Uf a b,a->b->Prop,
Ay! a b,a b=none,
WF a b,⟨_,a,b⟩,
L! a,N? a,
G3! a c,U! a b c,
d! a b,(a _ _ b),
BI! a b,Inv X AA σ a b,
C!,List V,
D!,List T2,
z!,(pv 1),
s? a,A! rfl a,
Cr! a b,some (a b),
WP a,V.ref a,
E!,(B!),
v! a b c,a _ _ b c,
g! a,T! a,
sK a,λq=>p? a,
e? a,A! _ a,
o! a b,I! (Ac a) b,
BJ! a b c d,(upd a b (c d)),
AI! a,G3! a o,
FN! a,BI! H a,
X? a,V.int a,
Iu! a,(a pi),
c? a,(B? a),
GM a,(T! a),
FO!,(q,G),
Iv! a b c,Ch a (b c),
EK! a b c d,a K b c=some d,
BK! a,Ai a t,
t? a,Ay! H a,
U?,i+1,
K?,q.2.1,
AU! a b,(Aa a (Aa b Ae)),
K!,FN! s,
FM a,a=some FO!,
q! a b,(I! a b),
d? a,Cr! DW! a,
re a b c d,U! a b (c d),
J!,List Addr,
y!,J? i,
F!,Cx Kx,
FB a,t∈b? a,
XV,W.c+1,
Iw! a,BB! a,
FP! a,(Bg! a),
W!,(pv 2),
Go,i! p,
am a,(Aa a Ae),
Cs! a,Option a,
EL!,(by rfl),
g?,(Aq O? rfl),
IN a b,(a b).length,
G4! a,(.BE (tv a)),
CG! a,Uf a Shared,
Uo! a b c,Au (i:=a) b rfl (Or.inl rfl) c,
dl! a b c,AR CW a CP b p c,
Ct! a,WF a ?_,
w? a,some a,
u?,q.2.2,
Az! a b,¬((a:Str)=b),
U3! a,Uf a Hp,
AC a,DS.of a,
Bk! a b,U! a x b,
N!,List α,
NE a,DL.of a,
Z!,List Value,
M!,List LL,
G5! a b,N? (a b),
Y? a b c,Ap a b (Am c),
Aj!,i! a,
Fb!,(q,G'),
R? a,Paired.length a,
IR a b,absurd a b,
Bl! a b c,BJ! H a b c,
sB,[Bv!],
m? a,WF rfl a,
O! a,(e.2.2.2.2.2.2.2.2.2.2.2.2.2.2.2.2.2.2.2 a),
P! a,(e0.2.2.2.2.2.2.2.2.2.2.2.2.2.2.2.2.2.2.2 a),
R! a,(e.2.2.2.2.2.2.2.2.2.2.2.2.2.2.2.2.2.2.1 a),
Q! a,(e0.2.2.2.2.2.2.2.2.2.2.2.2.2.2.2.2.2.2.1 a),
Dh! a,(Ay Az a Ag),
h! a b c,FR K a b c f fd,
BL! a b,RelV a b,
xz a b,ZR (a b),
Is a b,Q (V! a) b,
AV! a,(V? a),
ap a,CB H a,
FQ! a b c,⟨a,b,rfl,c⟩,
AJ!,ZL ..,
tA! a b c d e,WI H p W D m a b c d e ys,
Ak!,(G.BJ,G.AQ),
Y!,List (Dc!),
X!,s? (λED A outer s hr=>?_),
CH! a b c,Paired a b c,
E?,(pv 3),
be,(D?),
wk! a b,tA! n d a B b,
h?,q.1=t,
A?,List Int,
Up! a b c d e f g h,Aw (pl:=_) a b c d e f S! g h,
L? a,A! a ?_,
CI! a b,(upd H a b),
do!,WP K?,
Di! a,a->Prop,
j!,List (qq!),
A1! a b c d,upd a b (c d),
LO!,tk q.1,
a!,List (Ox!),
FR! a b c d e f,CT K CW a b c d e f,
bn,(An G ts),
k? a,(a (·.1)).Nodup,
Bm! a,(ZJ a).1,
k!,wk! A al,
No a b,L! (A! a b),
G6!,[Bv!,Lf!],
Op a b c d e,GB a b c d (e),
BM! a,a (B!),
tV! a b c,Ao (xs:=a) (j:=b) c,
FS,(U?),
xy! a,Is! (Be! a),
Cu! b c,U! b a c,
w!,List Qy,
x!,List (Addr×Obj),
H?,H! h,
bv a,o? (a),
Bn! a,J? (a:Nat),
BN!,BL G,
Cv!,List Key,
AK!,(keepR G R),
CJ!,[Bv!,"h"],
EM! a b,a b λvs H Q E h=>?_,
dp! a,a (l!),
Os a,ZB _ a,
LP! a b c,(Ad a (Ad b c)),
i?,J? h,
AL! a,(ZD _ a),
dq! a b c d e,(As a (V! b) (As c d e)),
Bo!,G.AX+1,
G7! a b c,b? a=b c,
FS!,X? q.2,
Cw! a b c d,EG 1 a b c (d),
AA! a b c d,⟨a,b,c,rfl,d⟩,
Oz! a b,a (sK b),
Db a b c,a=some (b,c),
CK!,i! b,
Ix!,Dh! z!,
Uq! a b c d e f g h,(Up! a b c d e f g h),
G8!,‹_›,
dr!,J? 0,
M?,CG! Value,
LQ! a b c,(A5 a b c (A9 _)),
Ur! a b c,a b m c sh qs ls,
PP a b,⟨a,b,?_⟩,
n?,(pv 4),
ci,e? rfl,
x?,t? b,
Dj!,Ch b o,
tn! a b,FQ! a b rfl,
Iy!,b? G.AF.map,
Cx!,T! h,
Iz! a,(xL a),
Bp!,(n+1),
P?,List Str,
ds! a b,Ch a (G4! b),
sw,AM _,
Dk! a,Ay! a b,
O0! a b,Iv! a .BE b,
Q?,AU C H p G,
Dl! a b c,⟨_,a,b,c⟩,
Al!,r.2.2,
AW!,[Bv!,VK!],
tz!,xy! 2,
t0! a,a AA s σ H _ I h,
Ix a,(a)=true,
EN! a,λt=>p? a,
G9!,c? h,
Dm! a,B? (B? a),
W?,dp! hr.mono,
AX!,BK! G.AI,
Z?,FM (qs[i]?),
cr a,G5! N? a,
a?,B8 hr,
q?,Str->Cs! Value,
dt! a,Is a H',
f? a,EM! F.JH a,
I0! a,a V.ref,
I1! a,Ai a tb,
AY! a,AR! a,
LR! a b c,(Uo! a b c),
l?,List LT,
CL! a b,H! (A! a b),
ut a,Cr! T! a,
I2! a b,re a b .BF ys,
Ut! a b c d,(A7 a EL! b c d),
HA!,q.1≠t,
AB! a,(N? a),
O1! a b c,U! a b (.BF (c V.ref)),
CM!,AI! s.heap.get?,
Dn!,BK! G.AF,
BO! a,(Af (Ax a)),
t1! a b c,P2! (Iw! a) (b c),
Cy! a b,AU C a p b,
EO! a b c d,⟨_,a,b,c,d⟩,
Cz! a b,λi=>a i b,
Do!,G.AQ+1,
Bq! a,(l.map a),
BP! a b,absurd (a) b,
r?,ap H',
HB! a,(qs.set i (q,a)),
AM! a b,G7! a b pi,
I3! a,HD p W H a,
EP!,[Bv!,"a","b"],
SZ,B5 G ZV,
C0!,tn! rfl rfl,
HC! a b,⟨rfl,a,b⟩,
Uu! a,a::Di σ caps,
v?,AE c,
FT!,[Bv!,"b",d5!],
t2! a b,λσ H Q=>a σ H b,
FU! a b c,G! a (d! b c),
I4! a b,Ct! (Ad (a) b),
y?,Di! T2,
Uv! a b,(EK (t0! a) b),
O2! a b c,tV! a b (c),
z?,Ok G n,
I5! a b,(Bk (i:=a) b rfl (Or.inl rfl)),
Uw! a,(λ_ _ _ _ _=>a),
A2! a b,⟨o,a,b⟩,
FV! a,A! a [],
Dp! a b,by rw[<-a];exact Bm! b,
AC!,J? m,
O3! a,G! k.BE a,
Am!,(ZG _),
EQ,AB c,
AN! a,G5! B? a,
LS!,(AJ!),
EQ! a,V.int (a),
LU! a b c,(upd a b (.BF (c V.ref))),
ii,ZG _,
wl! a b,Uo! 2 a b,
Aa!,r.2.1,
C1!,found++[t],
dv! a b c d e,CT K C a b c G6! d e,
I6! a,(some (DW! a)),
O4! a b c,AG.mpr ⟨a,b,c⟩,
dw! a,Ac (Ne.symm a),
A3! a,a q hq,
ER!,Bv p W,
wm! a b,wpAny (model a w) A b Q E s,
LV! a,⟨q,hq,a⟩,
wn!,(as.map Value.ref),
Dq! a,(a b o e),
Ux! a b,wpAny (model X.prog X.w) X.A a b X.xe s,
Uy! a,dr!<a,
An!,Un! q.1,
A4!,J? j,
dy! a,o! a e,
Ao!,FB G.AF.map,
KB,Ch b (G4! tb),
Br! a c,a b o e c,
Uz! a,AV! (H! a),
U0! a,(.dK (kvsOf a)),
HD! a,EK (a) ?_,
C2! a b,a (sK b),
FW! a b,HD.DY a b,
Rs a,A! a rfl,
A5! a b,U! H' a b,
SB,V! a,
LW! a,WF a rfl,
SC,AB e,
HE! a,(AD.mp a).1,
SL,AE rfl,
O5!,GM 0,
ES!,am z!,
wo! a,dl! C a W,
xz!,A! (λ_ z=>FP! z) (λ_ _ z=>FP! z),
C3! a,CD a t,
ET! a,G! a e,
EU!,FB hl.map,
Sc a,inClass (top 16) a,
U1! a,eval a X.env,
Ab! a,wm! prog a,
CN!,ZU _ rfl,
t6! a b c d e f,(Br a b EL! c d e S! Ba f),
EV!,(e::es),
HF! a b,(Cm! a b),
CO! a,A! o a,
FX!,λq:T2×Addr×List T2=>q.1,
HG!,(BC _),
jp,AE e,
d0!,GM n,
I7! a,λq=>(q.1,a),
C4! a b,a σ H1 b,
Ac!,U3! St,
U2! a,xz ZS a,
FY! a,(CE! C dx a),
t7! a b,LQ! Cr a b,
lc,DM 1 _,
BQ!,LD W h q G,
Bs! a b c d e,RW K mg a b c d e,
pc a,Q_ λo' e=>by rw[a] at e;cases e;exact xz!,
BR! a,decide_eq_false a,
HH! a,A! dx a,
HI! a,G? z a,
O7!,ww e,
C5! a b,(a (DW! b)),
I8! a b c,absurd (a b) c,
C6!,(AM _),
C7! a,Ay! mg a,
EW! a b,absurd a (b),
wE,Cs! V,
wP a,inClass (top 25) a,
U4! a,Vals a us,
wS,BY H H',
wT,wo! H,
wn,FC M G,
wp!,dq! EJ! r Cq! (GM sh) [],
Ad!,(T?),
AD!,n<60,
HJ!,(B? rfl),
A6! a b c,Paired (a) b c,
U5! a,AU! O? a,
U6!,NE ex,
t8! a b c d e,LP! (LR! a b c) d e,
d1! a b c d,(upd a b (.BF (c++[d]))),
O8! a,a I.DP e,
FZ! a b,λz=>a (b z),
AE! a,a (By I q be),
AF!,List (Cv!×V),
AG!,Ur! Wg D n,
Bt! a b,Cw! f fd a b,
Bu! a,(j? a),
Fa!,s.heap.objs.size+1,
wq! a,show Uy! a by decide,
Dr!,S? ?_,
AO!,(pv 5),
EX!,i! d,
AP!,N? h,
BS!,BC _,
C8! a,a t ht,
CP! a b c,d! a (d! b c),
C9!,s? rfl,
HK! a b c,BJ! H2 a b c,
U7! a,Bk! a c,
O9! a b,CH! R a b,
t9!,ZC _ LS!,
BT!,(qs.set i Fb!),
I9!,dt! x,
Fc!,Bu G.hand tb,
uA!,Ai G.AI b,
JA! a b c d e f,t6! (a g) b c d e f,
HL! a,E (V! a) none H,
U8! a b,congrArg a b,
PA! a b,IntsAre a b,
LX!,z.2.2,
x0! a,A! tz! a,
HM!,(An G (ts.take i)).AF.filter,
Ds! a b,U! a p b,
Ae!,List (κ×V),
Fd! b,Ch a b,
U9! a b,p? (a=b),
Af!,e? e,
PB! a,(.BE (a V.ref)),
wr! a,q! ZA a,
JB!,U3! C!,
ws! a,(some (AS! a)),
PC! a b,Ah (o:=.BE a) b,
HN!,ZT _ e,
wt! a,Uv! a ?_,
Ag! a,a z hz,
LY!,Uf Hp VK,
LZ! a b c,(TD a b c),
Ap!,x=Aj!,
CQ! a,(a).toNat,
VA! a b,if a then w? b else none,
Aq!,B<=480,
CR!,V! it,
Ar!,AE h,
JC! a,Ac (Ak e a),
PD! a,G3! H' a,
JD!,(.BF (as.map V.ref)),
As!,ZN hz,
At!,Cu ?_,
La! a b c d e,FR! a b c CJ! d e,
HO! b,Cu! h.get? b,
EY!,Os h,
CS!,Array Value,
Au! a,Im F a λvs H Q E h=>?_,
EZ! a,decide_eq_true a,
DA! a,(wq! a),
Fe!,[Aj!],
HP! a b,by have:=a;rw[b] at this;exact this,
A7!,List Env,
A8!,ZI hz,
VB! a,Bk! a QH!,
Ff! a,dl! C H' a,
PF! a,D.nx σ a,
A9!,BL! v u,
uC!,Value.ref a,
d3! a,λz=>a z.symm,
DB!,J? ys.length+1,
HQ! a b,Dl! rfl a b,
BA!,AV.mp nd,
Ea!,[Bv!,"h","a","b"],
Lb!,Ct W ZV,
uD!,λq=>((H! q.1:Key),do!),
DC! a,H! (HC! _ (AC a)),
wu! a b c d,a (t1! b c d),
Dt!,λq=>FS!,
Eb! a b,⟨a,rfl,b⟩,
Lc! a,I! a t9!,
PG! a,Db! ZH a,
JE! a b,∀t∈b? a,b,
d4! a b c,((a b).map c).sum,
Fg! a b,(a (sK b)),
BU!,List β,
BV!,AB h,
Du!,Ac hb,
Ld! a b c d,L! ⟨a,b,c,d⟩,
HR!,[Bv!,"things"],
BW!,AI! h.get?,
BX!,FB l.map,
JG! a b c d e,CT K C a b c sB d e,
HS! a,B? (N? a),
HU! a,(Af (A6 a)),
BY!,α->T2,
Le!,Dk! H',
Fh! a,O0! x a,
BZ! a,a X Gn,
Ba!,W.c+(W.qs.length:Nat),
Dv!,I3! H',
wv!,Hn W.qs h t,
ww! a b c,Ut! a b CC (am c),
d6! a b c d e f,⟨_,rfl,_,a,b,c,d,e,f⟩,
VC! a b c d,HF.t (k:=tk a) b c (wr! d),
d7!,λx=>WP x.2,
PH!,W.FA++[(XV,e)],
VF! a,(putK a G9! (GM t)),
d8! a,putK a (c? s) (T! tick),
Dw! a,Sd m a (n+1),
Bb!,Sd m G n,
uR!,[Bv!,"kind","sender","goal","about"],
uV! a,[eF!,a],
Bw!,q.1∈R,
PI! a b,U! h'.get? a b,
Fi! a b,a (AG.mpr b),
Bx!,List (Key×V),
By!,List (Str×V),
Bz!,J? k,
Ec! a,Ch d a,
PJ!,H! hb,
JI! a b,I.DP a _ b,
B0!,ZN h,
B1!,AO e,
uZ! a b,AC (d! a b),
B2!,Nat->HS,
VG! a b,tV! a b E!,
B3!,BL! y u,
B4! a,a b hb,
PL!,W.c+(i:Nat),
B5!,I1! G.AI,
d9! a b,[i! a,i! b],
Fj! a b,O4! a b rfl,
JJ! a,Ah (o:=.BF []) a,
B6!,List (T2×Int×D!),
x1!,(LO!,do!),
wx! a,Bl! a .BF [],
PM!,(h.lt (B!)),
HX! a,a b o e,
VI!,(model prog w),
Ed!,(s,tick,S),
B7!,AZ H as ts,
B8!,Ur! Wl C n,
B9!,λq=>(tk q,V.bl true),
VJ!,(relabel sc X.env).names.lookup,
wy! a b c d,Jh a P w K mg base N qual b f c A outer s H d,
Fk! a,(LC! a),
CT! a b,⟨a,b,rfl⟩,
VL! a,(a b hb).1,
VN! a b,I! (Ac (a)) b,
CU!,λx hx=>?_,
CV!,UV ?_,
Fl! a b,U! s.heap.get? a b,
Fm!,V! b,
JK!,V! t,
CW!,List (Str×Addr),
CX!,List (Cv!×P4!),
CY! a,G! s3 a,
JL!,I.tok _,
wz! a,BI! H' a,
PN!,WP a,
PO!,g! n,
JM!,g! i,
Lh! a b c,BJ! H1 a b c,
un! a b c d,(Aa a (Aa b (AU! c d))),
uo! a b,Iv! a .BF b,
Fn! a b c,(Aa a (AU! b c)),
CZ!,d? p,
eB! a b c,re a b .dK c,
Ca!,AB (D?),
Cb!,Cy ?_,
PP! a,IR a ZV,
Cc! a b c d e,FR! a b c AW! d e,
PQ!,BM! A8,
Cd! a b c d,(a b c).length<=d,
Ce! a,Bz (Ne.symm a),
PR! a,(Sum.inl a:Key),
Cf! a,(Bc Cj a Ag),
w0! a,ds! t a,
VO! a,(eval a X.env),
Cg!,SG G t,
Ch!,PN G t,
w1! a b,t2! a (λx H1=>b),
VP! a b c,I4! (wl! a b) c,
PS!,Q .FG H',
uz! a,(Be G.AI tb a),
Ci!,I7! u?,
w2!,U7! X.env.cells.lookup,
u0! a,CD G.holds a,
eE! a b,a _ _ b h1 h2,
Cj!,dl! CH H W,
w3! a b,CH! (KI H W.FA) a b,
Li! a,wpAny _ _ a _ _ s,
HZ! a,aT p G H a,
Ck!,KT p K W m n d A' B' ys H Q R,
VS! a,OM a d es ep,
PT! a b c d,⟨_,rfl,p,C,a,_,_,rfl,b,T.cl,T.nT,Cd _,_,_,rfl,rfl,c,_,d,D9 _,?_⟩,
Lj! a,S.same a,
DD! a,(a).length,
eG!,λq=>do!,
u2! a b c,Heap.SameBut a b c,
DE!,u=uC!,
Ha! a b,(a,i! b),
VU! a,G? e a,
x2!,(as.map Value.ref).toArray,
Lk! a,Uh! (a G8!),
JO! a,λu=>p? a,
DF!,λ(q:T2×Addr×List T2)=>x1!,
Hc!,y.se++[(s,tick)],
DG!,List Nat,
Hd!,(pv 6),
DH!,H! k,
DI! a,G! s4 a,
DJ!,(T! _),
Ll!,[Bv!,"b"],
VV! a b,a b (l!),
He!,d? a,
VW! a b c d e,PE X (a b c d pos) e,
DK! a b,IP K H a b,
Lm! a,CI! p a,
DL! a,VR a h t,
Hf!,Bw qs,
VX! a,(a h ta tb),
DM! a b,a=decide (b),
VY! a,(Af (Ax (Bp a))),
DN! a b,EK! W.nsIn mainGlobals a (I6! b),
w4! a,Iv! a .dK kvs,
w5! a,(a (·.1)).Pairwise HZ,
u3!,Pv i σ H,
Ln! a,Be G.AF tb (a),
DO!,CZ.mp ht,
DP! a,U8! List.length a,
w6! a b c d e,Uq! O? a b c d e B0 ES!,
u4! a,(MM (MM a ex) ex),
DQ! a,h a (AJ!),
w7! a b,ww! Bo a b,
DR!,(Cg (GV L)),
DS!,OH P w H h,
DT!,rs.Perm G.AI,
DU!,bv (x==("__debug__":Str)),
u5!,(.dK (L.map uD!)),
Hg!,Cz! as.getD 0,
Hh!,KV kvs vs,
VZ!,⟨wv,l.th.1,l.s,l.th,sh⟩,
Hi!,(hs,os,rs),
eI! a b,(LD! a b),
u6! a b c,(VA! (a/\b) c),
Dy! a b,(a b).Nodup,
Dz!,λz=>?_,
JQ!,j? ?_,
D0!,λp hp=>?_,
D1!,KM AK,
JR!,[Dx!],
PU!,LC! ZA,
Lo!,(L.map (·.1)).getD,
D2! a b,(a b).symm,
JS!,Bg! h,
D3!,ta.1=G.BJ,
D4!,q.1∉ts,
JT! a b,K!->a->b,
D5!,List HS,
D6!,V! D,
JU!,List (Str×NameKind),
JV! a,Ch p a,
D7!,ZK h,
JW!,L! z,
u7! a b,Inv X AA EV a b,
D8!,[Bv!,"n"],
JX!,s? trivial,
eJ! a b,o! (Ak e a) b,
Va!,t? p,
JY! c d e f g,CT K C c d e EP! f g,
JZ! a c d e f,CT K C a c d FT! e f,
D9!,CG! Unit,
Ja!,U3! Bool,
Vb! a b,λz=>a (HI! b),
EA!,Nat->Int,
u8! a,ZC _ (AL! a),
Jb! a,(AD.mp a).2,
eK! a,Oz! l.find? a,
EB!,Array DictEntry,
Lp!,EQ! XV,
w8!,Uz! ht,
Vc!,I2! H2 p,
EC! a,JJ X Gn a,
PV!,W.qs.set h.toNat Fb!,
eL!,FY! fs,
w9! a b c,EB X.prog X.w a s.heap b c,
PW! a,PA! a ns,
Vd! a b c,PC! [a,b] c,
ED!,(Dm Ae),
eM!,(S1 i).2.1,
Jc! a b c,Rd H a (b c),
Ve! a b c,⟨_,rfl,a,rfl,e? b,c⟩,
eN! a b c d e,⟨x.BJ,x.AQ,a,b,c,d,e⟩,
u9! a b c,wpAny (model X.prog X.w) X.A a b X.xe c,
Lq! a,a=AX!-Dn!+Ci t ls,
Jd!,A! C0! trivial,
PX!,[t.1,t.2],
xA!,(t (rX!)),
Lr! a b,Binds K a b [],
Ls! a,wpAny (model X.prog X.w) A a Q E s,
eO!,(GV (L.take i)),
Ee!,(tz!),
Lt!,x.2.1,
Hj!,S.2.1,
Lu! a,A! ?_ a,
Ef! a,I! ZA a,
PY! a,∀x c,w2!->a,
Lv! a,! p? a,
Eg! a b c,IN a b<=c,
Lw!,b∉BN!,
Eh!,b∉ER!,
Ei!,p.1=k,
vB! a b c,{ G with holds:=a G.holds b c },
Ej!,tb.1≠G.BJ,
Lx! a b c,by have:=a;rw[b,c] at this;exact this,
Ek!,0<=g,
El! a b,U! h.get? a b,
Ly!,V! f,
eP!,WP b,
PZ!,AI! h'.get?,
vC!,Iw! AH!,
Em!,ZI hr,
vD!,Ch b u,
Lz! a,B? (DS.of a),
L0! a c,a b o c hb,
En!,ZN m,
L1! a,xz DA a,
L2!,ap H2,
vE!,Iz! (G.AQ<=Do!),
vF!,Iz! (G.AX<Bo!),
Eo!,ZM hb,
Ep!,I0! as.map,
vG!,[(XV,t1)],
vH! a b,(Bl a (BO! b) Bb),
vI! a,t2! t a,
Eq!,λq=>(LO!,FS!),
L3!,Uw! (pv 0),
Er! a,A2! e a,
vJ! a,U0! (a),
Es!,(bQ P w),
Et! a,EK! W.nsIn mainGlobals a none,
Eu! a,FL X Gn a,
vK!,U1! e,
L4! a,W.qs.set h.toNat (q,a),
L5! a,⟨r,hr,a⟩,
Pa!,uA! / 2,
eQ!,(Bu G.hand tb),
Ev!,PE X a ta,
eR! a b,d4! List.range a b,
Ew!,v! k HJ! e,
L6! a,L! (e? (H! a)),
Ex!,w0! th,
xB! a,∀b∈a,b∈BN!\/x?,
Ey!,(JF al),
L7! a,wpAny M A a Q E s,
xC! b,G.holds++[(b,a,[])],
Ez! a b,AZ.keep (HQ a) b,
Pb!,CJ G q.1,
Vg!,(aN G a),
Vh! a b c d,(De PassesOwn.never rfl a (I5! b c) d),
E0!,λz=>(z.1,LX!),
E1!,Pm p n,
Pc!,Cb p W,
E2!,BP! (show false=true from hs) AS,
E3! a,Done p G H a (Q .FG),
L8!,(Ce O? Ag D8),
xD! a b,W.excIn K a b "ValueError.__new__"=true,
E4!,hf it (D?),
L9!,v! Dq ZV ZV,
E5!,aO++[(r.1,ha,Al!)],
Pd! a b,(o! a b),
Pe!,(XV),
Fp! a b,AZ.keep a b,
vM! a,(a:A?),
Vi!,λ_=>?_,
xE! a,A! l! a,
Pf! a,I! z a,
xF! a,{ s with toks:=s.toks+a },
Fq!,BG! ?_,
Vj!,G.hand++[(G.BJ,G.AQ)],
Fr!,tb∈Iy!,
Vk!,λH1 S1 LN=>?_,
Fs!,l.kind=Ah!,
Ft!,G2!++L,
Pg!,List (Str×Value),
Fu!,List (K×P4!),
Fv!,H! rfl,
Fw! a b c d,Paired a b (c d),
Fx!,AI! H',
Fy!,t? l,
Fz!,XV+1,
Ph!,FM QP!,
Pi!,am W!,
F0! a b,IN a (λq=>b),
eT! a,Bk! H' a,
Pj!,NE e1,
Pk!,NE et,
F1! a,dl! C H2 a,
Pl! a b c,A1! a b .BF c,
F2!,α->V,
F3!,BL! x u,
eU!,Dm! ht,
Pm! a b c d e,BY a (d1! b c d e),
xG! a c,KE (a->c->AI! h'.get?),
vN! a b c,((a/\HL! b)\/c),
xH! a b,(Af (wl! a b)),
F4! a,EK! W.findIn (V! C) a none,
Vm! a,(Af (Ax (pv a))),
Pn!,C3! G.holds,
F5! a b,AD.mpr (A! a b),
Vn! a,KE (CM!->a),
F6! a,EN K C a,
MA!,(Am st),
Po! a,FZ! e a,
vP! a,(Bp (AU! Bi a)),
E6!,List (Int×Int×HS),
E7!,ds! a ta,
vQ! a b c,VC! tb a b c,
MB! a c d,KE (Dj!->a->c->d),
E8! c,al=a++c::b,
E9! a,Ux! a (EP X AA σ Q),
Vo! a,(Cs hu g? a),
vR! a b c,un! Bi a b c,
eV! a,uo! a xs,
FA! a,Ct! (Af (Ax a)),
Je!,(CD hl t),
vS!,u0! ta,
Vp! a b,(B9 hu g? a b rfl),
MC!,(g i j),
FB!,w5! rs.map,
vT! a b c d,w6! a b c GC d,
Jf!,(Heap.SameBut.update ..),
FC!,Gl X x,
eW! a b c d,O2! a b (Dp! (R? c) d),
vU! a b,RG m qs ls a n b se,
Vq! a b c,bA a it d b c ep,
Pp! a,(by rw[z,a] at e;cases e),
MD!,(List.filter_sublist.map _).subset,
MF! a,a mainGlobals mg,
FD!,(i.at S).ob,
Pq! a,(a (O3 hr)),
Pr! a,(Dl O? a rfl),
vV!,(tupleKind (Bh P w)),
eX!,[⟨Gr! x px,iter,ifs,0⟩],
MG!,(As Cp! O5! (As Dd! d0! [])),
Ps! a b,b? (Bx a n b).map,
MH!,[Bv!,uw!,"n","turn"],
xI! a b,La! dk! "World.house" Ec a b,
FE!,Al W V al bl ys zs,
Vr! a,I.turned (t':=s.toks) (a) f0 f1 f3 f4 f5,
eY! a b c,v! kE a (.no _ q G b hi c rfl rfl rfl),
Pt! a,Value.type a,
F7! a,Ne.symm a,
F8! a b,(G? a b),
F9! a,(show a from r),
eZ! a,(show a from ry),
Pu! a b c,(Ai! a b c),
Pv!,(r::p::L0),
Pw! a,a K C=true,
GA! a,(a).Nodup,
GB!,Aw! HN!,
Px! a c,Ax! (a b o c e),
vW!,Addr×D!,
GC! a,∀t∈Iy!,a,
GD!,V? ?_,
GE!,eS! Fc!,
GF!,W.ls.length<=480,
vX!,(Dc _ _ _).2.2,
GG! a,decide_eq_false (a),
Vt! a,a (Fa!),
GH!,V! C,
GI!,List (Str×Nat),
Vu! a,Ch a JD!,
GJ! a b c d,p? (a b=c d),
GK!,Ac b3,
Py! a,Uf a Heap,
Pz!,L! (LV! ht),
P0! a b c d,a b (I! c d),
GL! a b,L2.Mk K a b,
GM!,s? ?_,
ea! a b,o! a (eE! b e),
GN! a b,Iv! a Bg b,
Vv! a b,Iv! a Dy b,
P1! a b c,BK! (Be a b c),
GO!,ZI hu,
GP! a b c d,PE X (a b c pos) d,
GQ!,Cs! Addr,
GR!,AB (B!),
Vw! a b,Y? a sB b,
GS! a,IR rfl a,
P3!,bv (a==sysModules),
Vx! a b,re a x .BF b,
eb! a,(Prod.mk.inj a).2,
Vz!,J? W.MB.length+1,
V0! a b,λz=>a (AG.mpr b),
GT! a b c,ZR (a b c ?_),
GU!,xs[i]?=some x,
V1!,LV! z,
GV!,vs=[Go,i! t],
V2!,(Bh P w),
ed! a b,A1! a b .BF [],
GW!,DL K H a xs,
GX!,vs=[Go],
GY!,(.HK o u),
P5!,(a,NameKind.local),
P6!,(b,NameKind.local),
GZ!,X.A.units+1<cLine,
P7!,[Bv!,"h",Bi!],
Ga!,BH g0,
Gb!,(Ay Bq z! Ag),
ee!,(.BF (L.map λy=>X? y.1)),
P8! c,Cc (T?) n c,
ef! a,(backTo pos (starEach a X.env)),
Gc!,K.In s.heap,
Gd! a,(C? a S!),
P9! a b,(CE! C a (B4 b)),
QA! a,Nw W W' W.ls a,
Ge! a,C? a ih,
Gf!,W.GW++[(n,xf)],
eg! a,u2! a s.heap h',
QB! a,wpAny _ _ a _ _ _,
QC! a b,Ef m W W' al al' ys DN H' a b,
eh! a,FQ! r a ht,
QD!,sp vs H Q E,
vY! a c d,tt (Uu! (w? x)) a λb H4 =>TD (b=true) c d,
vZ! a,⟨y!,0,0,h,o,l,a,[],[],[],[]⟩,
ei! a b c,A! (x.step hi a b st c) st,
Gg!,["starts",BF!],
Gh!,(I.ok.hd hc),
V3! a b,MO t a+Gq t b,
QE! a,a G ta tb,
ej! a b c,(a hi (b) λt ht ne=>c),
va! a b c,HF! (w9! H a b) c,
Gi! a b,EG 2 f fd a (b),
Gj!,O9! xs ys,
Gk!,KT H kvs xs,
Gl!,IE M G,
Gm!,LU! H' aa KL.map,
vb!,[q.1.1,q.1.2],
QF!,(start N vs),
vc! a,Binds Kx fd ps a,
V5! a b,BA x q st a b,
QG!,(PV X sc cl s3.heap.objs.size (x::Ej caps) s3 H3 fp AA),
Gn!,(upd H3 fa (Bg (C1!))),
em! a b c d e,⟨W.po,W.pd,a,b,_,_,_,_,rfl,c,d,e⟩,
xJ! a b c,⟨_,rfl,p,dx,_,rfl,hp,Lb!,_,rfl,p,a,W,rfl,b,c⟩,
Hl! a,Value.ref a,
Hm! a,Oq! a,
Hn! a b,(I? a b),
V6! a,(EN! a),
Ho! a b c d,⟨a,b,G! c d⟩,
en! a,A! B! a,
Hp! a,A! sw a,
Hq!,¬D t,
Hr!,Aw! ?_,
V7! a,j? (VL! a),
Hs!,l.1=n,
V8! a,let⟨dx,e⟩:=x.ob;HH! a,
Ht!,Bj! ?_,
V9!,t∈u?,
WA!,t.1=G.BJ,
Hu!,q.1=th,
eo! a,W.c+Bn! a,
Hv!,i1++y'::i2,
vd!,b? hl.map,
Hw! a,G! a e1,
Hx! a,G! a Ab,
WB!,.refl _,
Hy! a,Ay! H1 a,
Hz!,decide_eq_false e,
H0! a b c,v! a b (Ne.symm c),
H1!,BK! l,
H2!,PL!+1,
WC! a,q! e a,
H3!,ZI ht,
H5!,ZR ?_,
H6!,AV! ?_,
WD! a,(some (V.int a)),
H7!,L? ?_,
H8! a b c,A1! a b .BE c,
H9!,BM! AE,
IA!,I.list hq,
er!,J? YJ.length+1,
IB!,I0! bs.map,
es! a b,O1! a b bs.map,
IC! a,AZ H cs a,
ID! c,T?++[c],
IE!,x.BJ hi,
IF!,λq=>(LO!,do!),
IG!,AN! h,
ve! a b c d e f,Uq! O? a b c d e Ba f,
et!,HE! hq,
eu! a,Be G.AI tb (a),
IH!,U4! xs,
II!,DS K H a xs,
IJ!,l[i]?=some q,
IK!,VS qs t,
IL!,PB! as.map,
WE! a,(tC (AR! a)),
WG! a,Q (T! a) H,
WH! a b c,wu! a b Hk! c,
IM!,Lc! es,
WI! a,VN! a e,
IN!,(by rw[e] at z;cases z),
IO!,KP m l,
ev! a b c,wpAny (model prog w) A a b E c,
IP!,VS! s.heap,
vf! a b c d e f g,(A6 (Up! O? a b c d e f g)),
vg!,(.BE (k.map kV)),
IQ! a,(N? (B? a)),
IR! a b,Ah (o:=.BF (a V.ref)) b,
IS!,u8! h,
WJ! a b c,AA! (i! a) _ b c,
WK! a b,wy! a scope b E,
IT!,x.wg.BJ i.2,
IU!,Uf α β,
ex! a b,Fu X (AS! a) b,
xK! a,xB! (BL a),
IV!,xC! Ak!,
IW! a,xD! a [Iw! Ir!,Iw! "Exception",Iw! dh!,Iw! "object"],
IX! a b c,⟨a,q,G,b,c⟩,
IY!,(b,o),
IZ!,A.units+1<cLine,
vh!,(tk Ak!),
Ia!,PE X o td,
WL!,BL! x v,
vi!,u7! H' s',
ey!,(cs.map V.ref),
Ib!,PE X b tb,
ez! a b,(call (AS! a) b),
e0! a b,p? (X? a=V.int b),
Ic!,(Ja p d),
Id! a,⟨z,hz,a⟩,
vj!,(K w.params),
WM! a,Int->Int->a,
Ie! a b,Ct! (Ad (A6 a) b),
vk! a,h! x a st,
If! a b,O4 K mg a b,
QI! a,CI! a (U0! l),
e1! a b,(N? (N? (a b))),
WN! a,Dl! a (λ_ z=>FP! z) (λ_ _ z=>FP! z),
vl! a b,Wg D m Bp! sh a b,
Ig! b,EB P w H h a b,
Ih!,xI! fH dH,
WP! a,∃z,U! cl.lookup a z,
WQ! a b,lt (p.getD a 0) b,
xL! a b,dv! "is_near" "House.is_near" Jr a b,
Ii! a,(E (V! a) none H),
Ij!,Told G hs os rs,
e2! a,(a b' o' e' I_),
xM! a,EW X.prog X.w Kx X.mg X.base a k f fd ps sp,
WR! a b c d e f,W.fnOf a b c d e f kV doc pm an ED ct,
e4! a,(FJ! a),
Jh!,(d+1),
Ji! a b c,⟨σ,a,b,c⟩,
Jj!,o.data=.dict es ep,
Jk! a,I! AH a,
Jl! a,¬kind=a,
e6! a,∀p∈X.pn++AA,a,
Jm!,[eA!],
Jn!,Cn! ?_,
e7! a b c,(if a/\b then some c else none).toList,
Jo!,t=Ak!,
Jp!,tb∈vS!,
e8! a b c d,V? (go t a b _ c ht d hm),
Jq!,(GV (L.take i)).flatMap,
Jr!,(An G (ts.take i)).holds.filter,
Js!,W.ls++vG!,
Jt!,y.se.length+1,
fA!,y.fi++[(s,tick,S)],
Ju! a,decide_eq_true (a),
Jv! a b,a=some (V! b),
Jw!,List Expr,
Jx!,List PyData,
vm! a b c,(upd a b (vJ! c)),
Jy!,H! h1,
Jz! a b,a (B!) b,
fB!,b? l.map,
J0! a,G3! a ob,
WS! a,(Prod.mk.inj a).1,
vn!,(DO.mpr rfl),
xN!,sK HA!,
J1!,FN! GE,
J2!,AE d.symm,
fC! a b,Iv! a C4 b,
J3!,FM (W.qs[h]?),
vo!,Iw! Bd!,
J4!,ZI hw,
J5! a b,Ct! (Ad a b),
J6!,AB (l!),
J7! a b c d,a->b->c->d->I9!,
J8! a,IR a (DJ _),
J9!,Nat->Addr,
KA! a,k? (a).map,
xO!,xy! 4,
KB! b,Cu! h'.get? b,
MM! a b c d e,LP! a b (LP! c d e),
KC! a,.bl (n==a),
fF! a,Oz! a HA!,
fG! a,Oz! a (q.1=tb),
fH! a,W.qs.set a Fb!,
KD!,Array Nat,
KE! a,(Bc F8 a Ag),
KF! b,O0! a b,
KG!,Bv p W',
KH!,EN! EU!,
fI!,(Ne.symm hb),
KI!,ut AC!,
KJ! a b,t1! a Hk! b,
KK! a,Cy! H' a,
KL! a b c,EO! rfl a b c,
fJ! a b,FU! a b e,
KM!,FV! us,
KN!,X.N[i]?=some x,
KO!,vals1 r,
KP!,U4! vs,
fK! a b c,Op 1 a b G6! c,
fL! a b c d,t8! 3 a b c d,
KQ!,O8! Mx,
KR! a b,(a (V! f) b),
fM! a b,U! mg a (V! b),
KS! a,(a++[VZ!]),
KT!,X.A.units+64<cLine,
KU! a,(Ee (pv a)),
fN!,An G (ts.take i),
KV!,VB! sc.names.lookup,
KW! a,Q (.bl a) H,
fO! a,JE! G'.AF.map a,
KX! a,uZ! a el,
KY!,wz! s',
KZ!,PP! e',
Ka! a b,Rf (VX! a) G b,
vp!,G.AF++[(Ak!,dr!)],
fP! a b,vs=[Go,a,g! b],
fQ!,P9++(Q++R),
Kb! a,VV! A_ a,
vq! a b c,Cy! (Bl! a Bg b) c,
Kc!,eK! h?,
Kd!,(λy h=>PX ci h),
Kf!,x.RI hB,
Kg!,xE! l!,
fS!,xF! 1,
fT!,(p.getD i 0),
Kh!,CI! a o,
fU! a b,AA! _ rfl a b,
fV! a b,LC qs ls a (ls++b),
Ki!,JF al,
Kj! a c,Aw! (eJ! a (ET! c)),
fW! a,J? (putK a (c? s) (GM tick)).length,
Kk!,[(BF!,1)],
Kl!,BP λq _=>?_,
fX! a b c,SF X (compareOp a) (b c),
vr! a b c,eN! (O1 M G x) a b c x.holds,
Km!,(Bh X.prog X.w),
Kn!,ls.map .w,
vs! a,d.canLay0=true/\d.depth<=a,
fY! a b,∃cs:J!,a/\b,
Ko!,AB (d3! d),
Kp!,No l! l!,
fZ!,Xj p W H x,
Kq! a b,EK! W.kitOne (V! cls) (V! a) (n==b),
fa! a,FU! kq.BE LB.BE a,
fb! a b,k _ a λb' o e h1 h2=>b,
Kr!,(tC (T! 0)),
Ks! a b,Wl C m Bp! sh a b,
Kt! a,vQ! a hb PQ!,
Ku!,vU! al fi,
fc! a b c,WI H' p W' D' m a b c B' al' DN,
Kv!,λr=>U9! r.1 i?,
fd! a,Aa!=Gc a r.1,
Kw!,(λt h=>H?),
Kx! a b,U! a y Gp!\/U! b y Jg!,
xP!,{ cls:=vC!,dict:=none,data:=.seq ([]:Z!).toArray },
ff!,(ps.zip us),
Ky!,[(Bv!,0)],
Kz!,(model X.prog X.w),
K0!,⟨AT,l.th.1,l.x,l.th,sh⟩,
vt! a,te (Uu! (w? x)) H4 a,
fg! a b c,VW! .Call a b [] c,
vu!,λv H5=>I2! H5 p/\ys.length<sizeLine/\∃m',m'<m/\W FS m' (ys++[v]) (upd H5 p (.BF (ys++[v]))),
K1! a,QT qs ls a,
vv! a,∀b u,vD!->FL!->G3! a u,
K2!,λq=>(tk (k q),f q),
K3!,(CD G.holds ta),
xQ!,p? (Gb y.fi h=cf h),
vw! a,EL.t (k:=tk th) a ht,
xR! a,xJ! h S a,
K4!,Op 1 fH dH CJ! En,
K5! a,(qs.set l.th.1.toNat (q,Ey G l.th sh a)),
xS! a b,dv! "need_in_hand" "House.need_in_hand" Gs a b,
K6!,Ei MH.fn T TW,
K7!,starEach (e::es) X.env=(false,vK!)::starEach es X.env,
K8! a b c d e,((a i H2/\b)\/(c i H2/\∀x H3,d i H2 x H3->e)),
K9!,PT! FH IA FH IA,
xT! a b,CT K CP "put" "Post.put" K0 uR! a b,
fh!,vT! TW.cl MH.mt GH MH.bd,
vx! a,⟨p,_,_,_,W,rfl,x.wa,a⟩,
vy! a,JA! jJ GC g.mC1.mg g.mC1.fn.kp g.mC1.bd (U5! a),
LA! a b,Ut! Ek g.T.aG CM (U5! (Ge (v:=i! a) EL! b rfl)),
MO! a,Paired a,
MP! a,(Uh! a),
vz!,(λ_ _ _=>rfl),
MQ!,(Be l t v).map,
MR! a,Vc! /\ a,
MS! a b c d,⟨a,b,I! c d⟩,
MT!,λ_=>V.bl true,
MU! a,I! e a,
MV! a b,I! (dw! a) b,
MW!,b∈BN!,
v0!,λb o e n hb hx=>?_,
MX! a,G? AN a,
MY! a,G? a z,
Ma!,[d5!],
Mb!,λe he=>?_,
Mc!,sc.kind=.function,
xU!,(as.map Value.ref).getD,
v1! a b,Ai! eq a b,
Md!,λm=>?_,
Me!,Bg! hz,
Mf!,T2×Int×D!,
xV! a,Or! (∀t∈u?,a),
Mg!,tb.1=G.BJ,
Mh!,G.AI.length<=500,
Mi!,λt ht e=>?_,
v2!,(us.map (·.1)).take,
Mj! a,λr=>p? a,
Mk!,V? (Bg! ht),
Ml!,G.AF.length<=500,
Mm!,l.th∈Iy!,
Mn!,λl h=>EY!,
Mo!,fi++[(s,tick,S)],
Mp!,T?++new,
Mq!,y.fi.length+1,
Mr! a b,U! H2 a b,
Ms!,(pv 7),
Mt!,b? se.map,
Mu! a,Ay! a m,
Mv!,[Bv!,Dd!],
Mw!,[Bv!,Fo!],
Mx!,WP t,
My!,FN! s',
Mz!,AE C9!,
M0!,c? hb,
M1!,t? a,
v3! a,AU! W! a,
M2! a b c d,a->b->c->dt! d,
M3!,d? l,
M4!,d? da,
M5!,d? la,
M6! a b c,absurd a (b c),
v4! a b c d e,CT K C a b c HR! d e,
M7! a b c d,FR K fn! a b c d,
M8! a,Az! a Ah!,
M9!,U3! L2.St,
NA!,R? rel,
NB!,R? th,
WZ!,(Kt G ts),
NC! a,CI! l a,
ND!,Di! Z!,
NE! a,λz=>a (by rw[z];simp[BL]),
NF! a,No a rfl,
NG! a,(Bc Fy a Ag),
NH!,[Bv!,"b",Cq!],
NI!,DM 2 _,
NJ!,[(XV,t)],
v5! a b c d,CL! a (eY! b c d),
NK!,AW _ _,
v6! a b,O1! H' a b,
NL! a b c d e,O1! (LU! a b c) d e,
NM!,I3! H1,
v7! a b,O2! W.qs a b,
NN!,FV! Fe!,
v8!,G3! h.get? u,
NO!,Q v H',
NP!,GQ.mp G8!,
NQ!,dw! cu,
NR! a,EK! W.kitOne (V! LG) (V! a) false,
NS! a,EK! W.kitOne (V! MQ) (V! a) false,
NT! a,EK! W.kitOne (V! MI) (V! a) false,
NU! a,EK! W.kitOne (V! NW) (V! a) false,
NV! a b,Ux! a (b),
NW! a b c,upd a b (.BF (c V.ref)),
NX! a b,(.HK ob (a b)),
NY!,List (T2×vW!),
NZ!,HE! hr,
Na! a,.seq a n,
v9!,U1! o,
wA!,(LO!,FS!),
Nb! a b,A1! a b .dK [],
xW! a,Bn! (IN a V.ref),
Nc!,i.at S,
Nd!,(Gp st),
Ne!,O8! Mw,
wB!,G.AI.length+_<=_,
Nf!,C8! vX!,
Ng!,DM k A,
Nh! a b c,Ds! (upd a p b) c,
Ni!,I.DP.fresh (ZG _),
wC!,(Gr! x pos),
Nj! a b c,(seqObj AH! (a b).toArray c),
Nk!,List (Int×Addr×HS),
Nl!,[Bv!,"h","tick"],
wD! a b d,Ff! { W with qs:=a,c:=b,ls:=d },
Nm!,HS! h,
Nn!,JJ! IW,
wE!,t.1=y!,
No! a b,ZR (a b ?_),
Np! a,w1! ta a,
Nq! a,Li! (a >>= _),
Nr!,G.AF++[(Ak!,0)],
Ns! a,Cc al n a=[],
Nt! a,Bx al n a=[],
Nu!,(.HK o (.dK kvs)),
Nv!,(.HK o (.dT kvs)),
Nw! a,w7! g.T.len a,
Nx! a,(a (·.1)).Perm (rg m),
Ny! a,Vb! a hb,
wF! a c,Vd! eP! a c,
Nz! a b,Ve! a b ?_,
N0!,(some v),
N1!,Bn! (IN W.ls.map d7!),
N2! a,eR! m a,
N3!,(W.qs.set h.toNat Fb!),
N4!,V->C!->LY!,
N5!,FW! S HM,
N6!,eV! l,
xX! a b c,eW! a j b c,
N7! a,Db a k v,
wG! a,LQ! Mb a Ag,
N8! a b,PI X tg a b,
N9!,PA X EV! t,
OB!,x.sd i q G hi,
OC!,vZ! r',
OD!,vc! ds,
wH! a,a X.env.scope x,
xY! a b,∀h',a->b->Q () GE,
OE!,W.ls=l1++(BJ,t)::l2,
OF!,Led L t,
OG!,(HG.mp ht).1,
OH!,xK! G',
OI! a,∀p,Va!->Is p a,
wI! a,a b o e n hb hx,
OJ!,xM! CX,
wJ! a,∀b u,a->G3! h'.get? u,
wK!,λkv=>p? (kv.1=k),
OK!,λq=>(vM! vb!,q.2),
OL! a b c,I4! (Uo! 1 a b) c,
OM! a,(a l hl nb),
ON!,KH X sc cl caps,
Wd! a b,va! d a (JI! d b),
OO!,IF X.env.cells cl,
OP!,F0 W.qs S,
OQ!,[Bv!,"b",Cq!,"mine"],
wL! b c d e f,b (a:=c) (o:=d) (t':=s.toks) (e) Am! f,
fk! a b c d e f h j k,(Af (Bl (t7! Ix! Bi) (xH! QR.nd (vP! (E6 (pl:=_) O? g.TW.cl a (b g) hr c hJ d))) (Af (Bl (t7! Ix! Bi) (xH! QR.nd (vP! (E6 (pl:=_) O? g.TW.cl e (f g) hr h hJ j))) k)))),
OR! a,∃W:Nat->Nat->JB!,(∃m,W 0 m [] (wx! p))/\∀i m ys H2,W i m ys H2->a,
wM! a b c d e f g h,Fl (te:=a) (caps:=b) rfl c rfl ZV rfl ZV rfl d e f ZV g h,
OS!,K5 λds z=>Bg! z,
OT!,b h=true,
xZ! a b,LZ! a b wv!↔wv!,
OU!,∃z,U! cl.lookup y z,
OV!,B<=B'+1,
OW!,(Oi ry),
OX!,BI! H1 s1,
OY! a,Ok a (n+1),
OZ!,W.qs.set i Fb!,
Oa!,(T! i t),
Ob!,[Bv!,uw!,"n"],
Oc!,Vals RV ds,
Oe!,[Bv!,"h","tick",VD!],
fl!,(putK kvs k v),
xa!,(putK I.ss G9! v),
xb! a,ME (OW G.holds) a (startT G) [] R,
Of! a,vY! H3 a (∃m',m'<m/\W FS m' ys H4),
wN! a b c,De PassesOwn.never rfl a b c,
Og!,(f4! elt eX! sc pos),
Oh!,xL! f1 hZ,
wO! a,Mv p W ys W' DN H a,
wP! a,putK a (c? s) (V! xs),
wQ! a,Uw! (Ed (El (a hu O? z!))),
Oi!,Iy CX X E,
wR! a b c d,a _ _ b (S.tup_ne c).1 (S.tup_ne d).2,
wS! a,(Bj a rs).map (Ib y!),
Oj!,Cz h t z,
wT! a b,HU! (F7 BN CO CN Cv a b),
wU! a,MM (MM a ex) ex,
wV! a b c,Uq! a T.cl M1.mt G1 hr M1.bd b c,
wW! a,vN! (kP W h) NH (∃q G,BQ!/\a),
wX! a,(EK (ha pos AA s σ H _ I h) a),
wY! a b,⟨a,I.os,I.bare,I.base,I.loc,I.cell,I.free,I.IY,b,I.DP,I.len⟩,
xc! c,L! ⟨q,G,i,q,a,b,G,ta,tb,rfl,i.at x.wa,ea,eb,c⟩,
QV! a,Classical.byContradiction a,
QW! a,FX.EW.bC a,
QY!,(vs++RV),
QZ! a,(PG! a),
Qa! a,(Lk! a),
Qb! a b c,vl! a b/\c,
Qc! a,(l.map a).Nodup,
Qd! a,A! xO! a,
Qe! a b c,A! a (I! b c),
Qf! a b,A! a (ww b),
Qg! a,I! ew a,
Qh!,x≠"__name__",
Qi!,KM ZF,
Qj! a,∃EV H',vi!/\a,
Qk!,x=JM!,
Ql!,x=i! l,
Qm! a,λi j=>T! (a),
Qn!,Gs! (D_ e),
Qo! a b,MN! (a σ H b),
Qp! a,λo e=>dy! a,
Qq! a,λo e=>v! f e a,
Qr!,λw hw=>?_,
Qs!,λv hv=>?_,
Qt! a,by simp[FK! a],
Qu! a b,UF a b AH,
Qv!,(An G (ts.take i)).holds,
Qw!,λh=>xQ!,
Qx! a,Db! a ZF,
Qy! a,λb o e _=>HX! a,
Qz!,λt=>PX!,
Q0!,λl hl=>?_,
Q1!,u∈vd!,
Q2! a,tW! (Ln! a),
Q3!,(An G (ts.take i)).AF,
Q4! a,{ G with AX:=Bo!,AI:=a },
Q5! a,S? (a z (AL! hz)),
Q6!,λb' o' e' I_=>?_,
Q7!,wt / 2,
Q8!,Ai G.AI l.th+l.x,
Q9! a,{ W with qs:=PV!,c:=c,ls:=a },
RA! a,a (λz=>U9! z.1 q.1),
RB! a,σ[i]?=some a,
RC! b c,b=some (c,a,hl),
RD!,List Keyword,
RE!,V! x,
RF!,List (Int×Int),
RG!,J? n,
RH!,J? W.qs.length,
RI!,i! q,
RJ! a,H! (s? a),
RK! a,H! (eh! a),
RL!,decide_eq_true h,
RM! a,Ay! H' a,
RN! a b c d,BI! (Bl! a b c) d,
RO! a,(DX.mp a).1,
RP!,(Ca rfl),
RQ!,WP c,
RR!,WP y1,
RS!,e? Ab,
RT!,BK! G'.AI,
RU!,t? r,
RV!,t? s.heap.objs.size,
RW!,FM (W.qs[i]?),
RX!,FM (qs[h]?),
RY! a,q! AH a,
RZ!,Ch b vg!,
Ra! a c d e f,CT K C a c d Ll! e f,
Rb!,Ct! rfl,
Rc!,w? y,
Rd! a,Az! Dd! a,
Re! a,Az! Cp! a,
Rf! a,Az! BD! a,
Rg! a,Az! Bh! a,
Rh! a,Az! BE! a,
Ri! a,Az! BF! a,
Rj! a,Az! Bi! a,
Rk!,U3! It,
Rl! a,IR h a,
Rm!,m? q,
Rn!,Dh! Ix!,
Ro! a b c,CH! (a K H) b c,
Rp! a b c,FX.EW.bC (a b c),
Rq!,Di! Hp,
Rr! c d e f g,FR! c d e Ea! f g,
Rs!,(as++JA).map,
Rt!,BM! BS.mp,
Ru!,I.tuple hq,
Rv!,False.elim hq,
Rw! a b c,Cw! a b sB c,
Rx!,α->Bool,
Ry! a,(Bc Ex a Ag),
Rz!,Dk! H1,
R0! a b c,a=GV (L.take b)++c,
R1!,EN! (t∉R),
R2!,[Bv!,"h","b"],
R3!,Dm! h,
R4! a,cr (c? a),
R5!,CJ G t,
R6!,I0! KL.map,
R7! a c d,KE (AI! a->c->AI! d),
R8!,([]:D!),
R9!,AB! h,
SA!,ZT _ q,
SB!,LD W g q G,
SC! a c,HB! (a G b (c)),
SD! a b,Ar (λ_ _ h9=>a) b,
SE! a,I5! a WA.nd,
SF! a b,v! k (AB! a) b,
SG!,A3! x.hl,
SH!,dy! hb,
xd!,dy! np.symm,
SI! a,Ah (o:=.dT []) a,
SJ! a,EK! W.findIn (V! CW) a none,
SK! a b,(List.range a).map b,
SL!,LW! e,
SM! a b,A1! a b .dT [],
SN!,[Bv!,"h","g","b"],
SO!,BR! c,
SP! a,EW! a l!,
SQ! a,EN K CW a,
SR! a,I1! G.AF+(a),
SS! a,Bt! sB a,
ST!,DM k X.A,
SU! a b,B? (G? a b),
xe!,wt! ho,
SV!,wt! he,
SW! a,(Bp (AU! E? a)),
SX!,I1.DP.fresh (ZG _),
SY! a,(seqObj AH! x2! a),
SZ!,EZ! c,
Sa! a b,[g! a,g! b],
Sb! a b,v! f a (Ne.symm b),
Sc! a,A_ (AW _ _) a,
Sd!,Gb fi h,
Se! a b,(Af (Bl a b Bb)),
Sf! a b,Op 3 f fd a b,
xf!,d8! y.I.fs,
xg!,d8! y.I.cs,
Sg!,HY Vg!,
Sh! a,A8 (xL a),
Si!,A8 (PU!),
xh!,(.BF (L.map λz=>X? z.1)),
Sj! a b c d,eB! (Bl! a .dK (VF! b)) c d,
Sk!,l1++(n,t)::l2,
Sl!,Lj! s1,
Sm!,Ok bn n,
Sn!,w4! a,
So!,PW! vs,
Sp!,rowsOf L,
Sq!,if h? then(q.1,v) else q,
Sr!,(ZR ?_),
Ss!,(kS K),
St!,(Oe K),
Su! a b c d e,CT K CI a b c sB d e,
Sv! a,a [Go,Cx!] H Q E,
Wk!,(Dr kvs k),
xi! a,Ah ht _ _ (CP! aD OJ a),
Sw!,(Wi! o m apos),
Sx! a b c,Vh! a 4 b c,
Sy! a,I.tuple (DL.of a),
Sz!,I.pin p hp,
S0!,eT! ee!,
S1! a,KE (Dj!->a->AI! H'),
S2! a b c d e,A4 a (V! b) (As c d e),
S3! c,Bx (T?) n c,
S4! a,C4! ty (λy H2=>a),
S5!,Vo! z!,
S6! a,Vp! z! a,
S7! b c d e f,Iv (K:=K) (a:=b) (xs:=c) (d) e (f) ?_ ?_,
S8!,AllBare s'.gens,
S9!,D4 W.qs,
xj! a,ea! h1 a,
TA! a,Q (T! a) H',
TB! a,ed! H2 a,
TC! a b,SF X (binaryOp a) b,
TD! a,Up lt p a,
TE!,eg! d,
TF! a,AA! a H I q,
TG! a b c d e,(x.of a rfl rfl (AV! eU!) (λq hq t ht=>b) c d e).tk,
TH!,ys.flatMap C7,
TI! a b,⟨a,b,e1,e2⟩,
TJ!,o? (b? (backTo pos (starEach es X.env)).any),
TK! a b c d e,ve! a b c hr d e,
TL! a,(Bc Ex Ag a),
TM!,Br! f ?_,
TN! a,EL H d JK! a,
xk!,(I1.DP.fresh (ZG _)),
TO! a b c d e f,vf! a b c d e B0 f,
TP!,vk! qual,
TQ!,G_.mpr e0,
TR!,inr i hi,
xl!,tn! _ CN!,
TS!,Vals xs its,
TT! a b c d e,⟨a,b,_,_,c,rfl,d,e⟩,
TU!,Dp! lm eq,
wZ!,(h1.push (seqObj AH! x2! 0)),
TV! a,⟨a,H,JL!,ci,q⟩,
TW! a,Vq! a i n,
xm! a b c d,ei! a w8! (ej! b c d),
TX! a,C5 m g n a,
TY!,R9 p W ys H H',
TZ!,xR! ?_,
Ta! a b,a it d i b ep,
Tb! a b,λq=>a (FJ.mpr b),
Tc!,(show False from r).elim,
Td! a,v! kp xA! a,
Te!,AU! z! W!,
Tf!,AZ H' as ts,
Tg! a,LL.lt s a ts,
Th! a,Wt kind G tb a G',
fp!,(T1 X AA E),
Ti! a b,W.Looks VI! hh a b,
Tj!,kO W m dd,
Tk! a b c d,a hi b (c) (WX! d) HG!,
Tl!,I.aW hH,
xn! a,λh' eb=>s? (Vr! a),
Tm! a,λ_ _ _ _ _ st h=>a st h,
Tn!,{ s2 with heap:=s2.heap.push xP! },
To!,UV (FP! hq),
Tp!,Ai G.AF b+sh,
Tq!,A'<=A-1,
Tr!,[Bv!,Fo!,Cq!],
Ts! a b c,PE X (.Call (Wi! o a apos) b [] HU) c,
Tt! a b c,a b (C? c S!),
Tu! a b c,(putK (a b) vh! c),
Tv! a b,wpAny (model prog w) A a b E s,
Tw! c,c [Go,Cx!,Aj!,CK!] H Q E,
Tx! a b,ZR (GJ a be b),
xo! a b,O2! a i (Co! (Bm! b)),
Ty! c,Fh! [AY! c,Cx!,Aj!,CK!],
Tz!,d9! la da,
T0! a b,Cm JN jP a b,
T1!,w3! l1 a,
T2!,w3! l2 b,
T3! a b c,wpAny (model prog w) A a (b) (QM!) c,
T4!,∃t,u=Value.int i t,
T5!,(upd H5 d u5!),
T6! a b,EG 3 f fd a (b),
T7!,aE G tb FQ,
T8!,x.RH hi PU,
T9! a b c d,DU _ a (b (c d _)),
UA!,eZ! (u=Value.ref b),
UB! a b d,em! W.c W.ls a b d,
UC!,FZ H p I,
UD! a b c,QV H t a b s g c u,
UE!,bO Kx C,
UF!,xS! f2 hX,
UG!,xT! f3 d3,
UH! a b c d e f,⟨_,rfl,p,C,a,_,_,rfl,b,T.cl,c,d,_,rfl,e,_,rfl,f,?_⟩,
UI!,o? (behindInMarks op b),
UJ!,λe'=>h2 (by rw[e'];simp[BL]),
UK!,TE->TE->TE,
xp!,(C4 (HM! xN!)),
xq! a b,(a hu g? b C0!),
UL! a,Bd x q st a,
UM! a,(ne e (λ_ z=>Bg! z) a),
xr! a b,dv! "need_near" "House.need_near" Jq a b,
wa! a,(backToKw a (keywordEach [] X.env)),
UN!,(Ac λz=>by rw[z,e] at q;cases q),
UO! a,wpAny (model X.prog X.w) X.A a Q E s,
xs!,(CE! CP dx (Fd (c+1) d)),
UP!,#[T! lo t,T! hi u,T! 1 v],
UQ! a b,a b' o' b (λz=>I_ (ZB _ (by rw[z];simp[Cb]))) λz=>I_ (ZB _ (by rw[z];simp[Cb])),
UR! a b c d,(a i H/\PF! H)\/(b i H/\∃N:c,(∀EV H',N EV H'->∃m',m'<m/\W FS m' EV H')/\∀x H',d i H x H'->g x σ H' λRR H2=>tb { D with nx:=N,ct:=N,bk:=D.nx } RR H2),
US!,ON cmp lt n s,
xt! a,WI a r V E m n1 d1 A1 B1 bl zs,
xu! a b,(A.deeper (envOfC qual a s.heap.objs.size f b)),
UT! a,(Af (Hl rfl rfl a Ii)),
UU! a,c.next hi es eq ea a λh t=>?_,
xv! a,⟨ok.mod,ok.kind,ok.glob,ok.blt,ok.above,ok.inj,ok.has,ok.gM,a,ok.frames,ok.gT,ok.bG,ok.bs,ok.cR,ok.WB,ok.T_,ok.MX,ok.dz⟩,
Wn! a,a Gz!,
Wo! a,W i m σ H -> a,
Wp!,(λ_ _=>rfl),
Wq!,(λ_=>False),
Wr!,(q?),
Ws!,(er!),
Wt! a,(vv! a),
Wu!,p.1.map,
Wv! a,l.kind≠BC!->a,
Ww! a b c,dl! CH a b/\c,
Wx!,v=Aj!,
Wz!,λq=>! Pb!,
W0!,λq=>WP q.1,
W1! a b,TD (c=true) a b,
W2! a b,TD (u=1) a b,
W3!,(x::Ej caps).Nodup,
W4! b c,A! (λa xs e=>b) c,
W5!,λb u e=>?_,
W6! a,I! nu a,
W7!,(ts.take i).filter,
W8!,b∈Pc!,
W9! a,λz=>Pp! a,
XA! a,I? e a,
XB! a,I? a ZA,
XC! a b,Gq! a (Bm! b),
XD!,λe=>?_,
XE!,y=CK!,
XF!,y=g! j,
XG!,o.cls=vo!,
XH!,["_law_e"],
XI!,[Lp!],
XJ!,CD! Le!,
XK! a,CD! (Lf X AA a b),
XL! a,(λv z=>by rw[a] at z;cases z),
XM! a b,λσ H R=>a σ H λx H1=>b,
XN! a,a∈Iy!,
XO! a b,∀i σ H,a->u3!->b,
XP!,xs.length-FS,
XQ!,#[EX!],
XR! a,Db! Mi a,
XS! a,Db! CQ a,
XT!,λk hk=>?_,
XU!,k q≠t,
XV! a,Ou! e a,
XW!,λa ha=>?_,
XX!,λu=>?_,
XY!,t∈Vj!,
XZ!,t.1≠G.BJ,
Xa!,ta.1≠G.BJ,
Xb! a,∀u∈u?,a,
Xc!,q.2.2.2.1.take,
Xd!,∀t∈R,EU!,
Xe!,∀t∈ts,AZ!,
Xf!,G.hand.length<=500,
Xh! a,{ G with AX:=Bo!,AF:=a },
Xi!,hl.length<64,
Xj! a,show a≠0 by decide,
Xk!,I1! G.AF-wt,
Xl! a,fE! a EG!,
Xm!,l.kind=BC!,
Xn!,l.g=l.th.1,
Xo!,Ai G.AF l.th-l.x,
Xp! a,∀(j:Nat)(q:Addr)(G:BM),FM QP!->a,
Xq!,N3 G.AI tb+x,
Xr! a,(l.map a).sum,
Xs!,W.qs.length<=12,
Xt!,{ W with FA:=AT! },
Xu! a b c d,a=(b (sK c)).map d,
Xv! a b c,a=b (sK c),
Xw!,List Stmt,
Xx!,V! v,
Xy!,List (Addr×C!),
Xz!,J? at_,
X0!,H! ht,
X1! a,H! (e? a),
X2! a,H! (L? a),
X3!,b? fi.map,
X4!,decide_eq_false h,
X5!,CZ.mp h,
X6!,(CB.refl _),
X7! a,Uf a PyData,
X8!,BY.refl _,
X9!,L! rfl,
YA! a,Q a GE,
YB! a,(AL.mp a).1,
YC!,WP xs,
YD! a,o! a x.dr,
YE! a,(.BF (a V.int)),
YF! a,AU! Bi a,
YG! a,AU! n? a,
YH! a,q! z a,
YI! a,q! a nd,
YJ!,d? d,
YK!,d? ex,
YL!,d? ra,
YM! a b c,re a b .BE c,
YN!,FB G.AI.map,
YO!,am g?,
YP!,am Ix!,
YQ! a,IN a i,
YR!,CG! Bool,
YS! a,AB (I! a AS),
YT! a,Az! Oy! a,
YU! a,Az! a AT,
YV!,AC S.hs,
YW! a,Bk! X.mg a,
YX! a b,Y? a AW! b,
YY!,R? r,
YZ! a,dl! C H1 a,
Ya!,(JA++bs).map,
Yb!,(vp!).map,
Yc!,Nat->Bool,
Yd!,k? l.map,
Ye!,k? rs.map,
Yf! a,inClass (top 21) a,
Yg!,ZC _ vn!,
Yh! a,No a k,
Yi! a,No a Vk!,
Yj! a,No a (λx H3 y=>?_),
Yk! b,Cu! s.heap.get? b,
Yl!,bv (d==sysModules),
Ym! a b,Ah (o:=.BF a) b,
Yn!,knd.draws k,
Yo! a b c,LP! a b (Vm! c),
Yp! a,Oz! G.holds.find? a,
Yq!,0<=q.2.AQ,
Yr! a b c,LQ! (Pq! a) b c,
Ys! a,AZ.keep k a,
Yt!,Dm! G9!,
Yu!,(ZB _ m),
Yv!,AY! "done",
Yw!,(as.map V.ref),
Yx! a b,CL! a (hd σ H b),
wb!,([]:J!),
Yz! a,PR t l+Ci t a,
Y0! a b,Uv! a (λv s1 ⟨x,H1,I1,r1,q1⟩=>b),
Y1!,O3! h1,
Y2!,O3! h2,
Y3!,O3! e2,
Y4!,GK G8!,
Y5!,UY!=some x,
Y6!,Hz G.hand tb,
Y7! a b,O4! a b e,
Y8!,dw! mF,
Y9!,Sum.inl n,
ZA!,(x.at_ y hy).has hb,
ZB! a c,∀b,Dk! a->c,
ZC!,vs=[Go,Cx!],
ZD! a b,(a b).map pu,
ZE!,Ab! (C5! pyNext it),
ZF!,CO! e,
ZG!,U2! ?_,
ZH!,Pv 0 σ H,
ZI! a b,I8! a e b,
ZJ!,C7! "len",
ZK!,Cf kvs k=some v,
ZL! a b c,(Af (a O? b c)),
ZM! a b c d,t8! 4 a b c d,
ZN! a b c d e,t8! a b c d (BO! e),
ZO!,Bu! PJ!,
ZP!,(g,tick,S),
ZQ! a b c,EB X.prog X.w a h' b c,
ZR!,(l+r) / 2,
ZS!,Fd! o,
ZT!,HO! o,
ZU!,I2.DP.fresh (ZG _),
ZV!,(Gr! x px),
ZW! a,(seqObj AH! #[] a),
ZY!,PE X o ta,
ZZ!,d3! c,
Za!,ds! a t,
Zb! a,Eb! true a,
Zc!,Rh qs t,
Zd! a b,re H' a C4 b,
Ze! a,DL K H p a,
Zf! a,DL K H a ey!,
Zg! a,[a,Cx!,g! g,CK!],
Zh!,al=a++z::b,
Zi! a,PI! a o,
Zj! a,Fi! h a,
Zk! a,VG! qs a,
Zl! a,VG! a i,
Zm! a,Fj! q a,
Zn!,t.1=A4!,
Zo!,(Ah ht),
Zp!,VO! iter,
Zq! a,w1! td a,
Zr! a b,VP! a Ix! b,
Zs! a,Nv W W' W.ls a,
Zt!,HZ! H',
Zu!,(AL.mp nd).2.2,
Zv!,w4! d,
Zw! a b c,Kp p a (upd b p c),
Zx! a b c d,(a++Ps! b c++d).Perm (rg m),
Zy! a b,EK! W.findIn (V! C) a (ws! b),
Zz!,T! 0 0,
Z0! a,(Ay Bq g? a),
Z1! a b c d,(Ad (LR! a b c) (Af d)),
Z2!,(λy h=>FX.PX ci h),
Z3! a b c,u9! a (b) c,
Z4! a b,Lq! (AX!-a+Ci t b),
Z5! a b,Ls! (ez! a b),
Z6! a b,U! (Fc W).lookup (a:Str) (V! b),
Z7! a b,⟨rfl,a,b,rfl⟩,
Z8!,PY! (c≠b),
wc! a,Addr×Addr×Addr×Addr×a,
Z9!,PE X e te,
aA!,Bn! (IN W1.ls.map d7!),
aB!,x.iv y hy,
fy!,(Cf kvs k),
fz!,(W.qs.set j Fb!),
aC!,V->V->LY!,
aD! a b c,⟨a,rfl,e? (AC b),c⟩,
aE!,(FE hu),
aF!,(ZT _ e),
aG! a,Rep K H a d,
aH! a,KE (a->Dj!->AI! H'),
aI! a,(Be G.AF tb (a)),
aJ!,Iv! a .dT kvs,
aK!,Vn! PZ!,
aL!,Po! h1.trans,
aM! b c d e f,J8 (K:=K) (a:=b) (xs:=c) (d) e (f) ?_ ?_,
aN!,Pr! Fo,
aO! a b c d,x.next hi a rfl (Kk b c) (λt _=>?_) d,
aP!,A! h1 h2,
aQ!,! CJ bn q.1,
aR!,! CJ AK! q.1,
aS! a b,a (t':=s1.toks) b,
aT!,Vt! Value.ref,
aU!,Vu! l,
aV!,CJ bn t,
aW!,CJ AK! t,
aX! a,Vv! a hl,
aY! a,Vw! sB a,
aZ! a,Vx! H' a,
aa! a,W.qs.set g.toNat (q,a),
ab!,N ys H4,
ac!,Cc al n u,
ad! a,W.mroIn K a (BB! dh!)=some true,
ae! a,W.mroIn K a (BB! "object")=some true,
af! a,jQ a g e cls,
ag! a,kK a g e cls,
ah!,en! B!,
ai!,eo! 0,
aj! a,(.dT (a λq=>(LO!,q.2))),
ak!,G! QL.BE hb,
al!,Rows G os,
am!,p.getD i 0,
an! a,es! H2 a,
ao! a b,Ar (λ_ _ r=>r.keep (HQ a)) b,
f2!,(Hy G ta tb),
ap! a b,U2! (ZR (BV a b ?_)),
aq!,eu! (N3 G.AI tb+wt),
ar! a,J0 (λ_=>a) (Vi!),
as! a b,ev! a Q b,
at! b,DS K b a xs,
au! a,ex! "sorted" a,
av! a b c,a i q G hi t b c,
aw! a,e0! goal a,
ax! a,e1! B? a,
ay!,e2! HM,
az!,hb (ZB _ (rX!)),
a0! a,q.1∈b? a,
a1! a b,X? a=V.int b,
a2! a,q.Perm (List.range a),
a3! a b,DQ a (LF! (b≠0)),
a4!,Cz! xU! F?,
a5! a b,vq! G.h a b,
a6! a b,vr! a b x.AI,
a7!,vs! 20,
a8! a b,a AA s σ H Q I b,
a9!,vt! vu!,
bA!,vw! hd,
bB! c,vx! (xc! c),
bC!,vy! Ag,
bD! a,a (wt! ha),
bE!,(LT! (bN t)),
bF!,λ_ H Q=>Q true H,
bG!,-(2 ^ 62),
bH! a,UV (a q et!),
bI!,(Jf y.fi),
bJ!,keepR G R,
bK!,(l.set i r),
wd! a b c d e,m? (aG a b (m? (aG c d e))),
bL!,O0! b xs,
bM! a b,Ar (λ_ _ e=>ET! a) b,
bN!,HD! (t0! hl),
bO!,xW! as.map,
bP! a,EW! e2 (show a by decide +kernel),
bQ! a b,wu! a Bd! .seq b,
bR!,aS p W I H H',
bS! a b,xX! a b hj,
bT!,V3! x.2 l,
bU! a b,xY! a (KS b g s.heap h'),
bV!,List (List T2),
bW!,rowsOf (GV (L.take i)),
bX!,I.cell x c e,
bY! a,(.bl (decide (a))),
bZ! a,EK! W.mroIn a (V! HE) true,
ba! a,xZ! Ul! a,
bb!,W.MB++[(Vz!,io)],
bc!,xb! k,
bd!,Fp p W ys W' DN H,
be! a b c d e f g h,a x hn hB b c d e f g C6! E! kk h,
bf!,Gp! v,
bg! a,⟨a,B!,B!⟩,
bh!,∀y∈sc.names,y.2≠Gp!,
bi!,(rowsOf L).map,
bj! a,IN keys.filter (JO! a),
bk!,ds! ka q.1,
bl! a b,∀t,VS a t->Rh b t,
bm! a,[i! a,g! q.2],
bn!,Br! I.base.there hx,
bo! b,b vV! a xs,
we!,(iN (List.range n)),
bp!,Iz qs r,
bq!,Ig [Go,g! BJ] H Q E,
br!,PT X a tA,
bs! a c d f,(I.DP b a e).OX (c) (d) f,
bt! a,eC a it es as,
bu!,EL H a y o,
bv!,Value->Value->Sem Value,
bw! a,kU λi j=>p? a,
bx!,YG xs i=some v,
by! a b,∃W:Nat->Nat->a,(∃m,W 0 m σ H)/\∀i m σ H,b,
bz! a,¬Ft p1 V zs a,
b0! a,(Eg Er EL! T.tuple FK a),
b1!,ME nx n ahead found R,
b2! a b,a λ_ _ _ _ _ _ _ q=>b q,
b3!,(xV! (bN t)),
b4!,L2.St->XK,
b5!,a.1=b.1,
b6! a,⟨xs,a,ii⟩,
b7! a b c,⟨a,λi H x H'=>H'=H/\b,c⟩,
b8!,I! ZF Ab,
b9! a,λz=>I8! k.symm.trans z a,
cA!,uA!-Pa!,
cB!,[eA!,"_law_k"],
cC!,["_law_number",VQ!],
cD! a,∀σ H,Pv a σ H->PF! H,
cE! a b,∀w' s',a->b->Q w' s',
cF! a,λh=>(YM a h).toNat,
cG!,ys=i1++y::i2,
cH! a b,∀t,t∈ts↔(a/\b),
cI! a,{ W with c:=XV,ls:=a,FA:=PH! },
cJ! a,q.Pairwise (λi j=>a),
cK! a,DM (k+1) a,
cL! a,qB x.qs _ a,
cM!,Lo! i [],
cN!,PE X i ty,
cO! a,Y? G6! G6! a,
cP! a b,Ci t a+PR t b,
cQ! a,EK! W.findIn (V! C) a (I6! f),
cR! a,K64F.FZ H' io a,
cS! a b c,.BF (DS.of a) (b c),
cT!,Bn! (IN ns.map L2.V.int),
cU!,d9! p0 p1,
cV!,(Cs hu (Aq z! rfl) O?),
cW!,HB! (Kt G ts),
cX!,Lr! fd ps,
cY!,hb.elim h.1 h.2,
cZ! a b,CH! (RecAt a) b rs,
ca!,Eb (k:=FX!) (f:=eG!),
cb! a b c,PP (λi m σ H=>m=a/\b/\u3!) ⟨c,D?,sw,h0⟩,
cc!,.JU g s n' u tick S,
cd!,Kl M3.fn TP,
ce! a,W.plainGet K C a=true,
cf!,JY λj=>?_,
cg! a b c,[i! a,i! b,i! c],
ch! b,EL H2 a y b,
ci!,t1! AH! .seq vs.toArray,
cj! a,x.IS (b:=a) (rX!) hq,
ck! a,Fe (G1:=a) (EI!) rfl rfl S1 k,
cl! a c d,Aw! (a b o (Dq! c) (Ak e d)),
cm!,["_law_some",VR!,"_law_other"],
cn! a,g a σ H λRR H2=>tb { D with nx:=Pv (U?),ct:=Pv (U?),bk:=D.nx } RR H2,
co! a,(ZR (ZS (ZR a))),
cp! a b,BI.mpr (UV (by have:a:=V0! b V1!;simpa using this)),
cq!,Cw! f3 d3 uR! Gr,
cr!,⟨AT,y!,g,b,sh⟩,
cs! a,⟨xs,xs[i],a,by simp[JS]⟩,
ct! a,(Prod.mk.inj (ZO a)).2,
cu! a,λb hb o eb=>a b o eb (off b hb),
cv!,(Jz I.DP eb),
cx!,s.heap.FunFrames base (je!),
cy! a b,a w (sub w b),
cz! a b c,f _ _ a (Ne.symm b) (Ne.symm c),
c0!,hs h hh bh,
c1! a,F.ok a (λvs H Q E h=>?_) (λED A outer s H vs Q E hr h=>?_),
c2!,closureFor sc X.env=pure cl,
c3!,(run _ _ (λv dv W' D' al' DN H' tl ef OT fr fp eh=>x0! (V? (m? (fin v dv W' D' al' DN H' t tl ef OT fr fp eh ht)))) (λcls i xf ef=>⟨cls,s? xf.sub,λex hx=>m? ⟨cls,i,rfl,Ab,xf,λH4 s4=>x0! (λt5 h5=>m? (YS i H4 t5 ef (Aj (Ah hx) s4) h5))⟩⟩)),
c4! a,⟨_,rfl,rfl,_,rfl,a⟩,
c5!,Lh! I.sd .dK xa!,
c6! a,W.kitOne K (V! a) (BB! Ir!)=some true,
c7! a b,a hu I2 g ry b,
c8!,λv H5=>I2! H5 p/\ys.length<sizeLine/\N (ys++[v]) (upd H5 p (.BF (ys++[v]))),
c9!,if h? then(q.1,K?,h) else q,
dA! a b,Un fs ex H a h b,
dB!,∀C s1 H1 fp AA,PE (PV X sc cl C (x::Ej caps) s1 H1 fp AA) elt te,
dC!,∀C s1 H1 fp AA,kN (PV X sc cl C (x::Ej caps) s1 H1 fp AA) ifs tt,
dD! a b,⟨_,rfl,p,CW,dx,_,rfl,a,TW.cl,b,(by simp only[B_] at l1;lia),?_⟩,
dE! a b,p5 a g e cls b,
dF!,vm! H3 W.en PH!,
dG! a b,lt a (p.getD b 0)=true,
dH!,[eF!,VQ!,eH!,"_law_other"],
dI! a b c,xz JW (HW (name:=Str.ofString "__next__") a b c),
dJ! a,K _ _ a PM! _ ?_,
dK! a b c,(Cq (pl:=_) a b M1.mt G1 hr M1.bd S! c),
dL! a c,Aw! (Ai! (JC! a) (JC! c) e),
dM! a,λi j=>.bl (decide (a)),
dN!,∀y∈sc.names,y.2=QH!->U! sc.names.lookup y.1 QH!,
dO!,∀y,(U! VJ! y Gp!\/U! VJ! y Jg!)->∃c,U! cl.lookup y c,
dP!,λzs H' pz=>EO! B! rfl JS pz,
dQ! a,(Sw (U3 K (B7 1) a) (B7 0)),
dR! a b,a AA s1 σ H1 b I1 q1,
dS! a b c,Uw! (Ed (A5 a b c (A9 _))),
dT! b,pU h λa _ h=>b (P:=λv=>P (a::v)) h (k a),
dU!,[V.bl (n==0),V.bl (n==1),V.bl (n==2),V.bl (n==3)],
dV!,[V.bl (n==4),V.bl (n==5),V.bl (n==6),V.bl (n==7)],
dW! a b c d,dp! (a b g.T g.TW g.mWH c (d g)).mono,
dX! a,IQ a H p d c ls,
dZ!,∀v,foldedSetIterable iter X.env v=pure v,
da! a b,Ld! a (Pv (U?)) (λEV H' p'=>⟨b,B!,rfl,JS,p'⟩) (λx H' y=>?_),
dc! a,x.wa.step i.2 (G':=a) S1 LN cG,
dd! a b,Turn P w K tg a [it] it (λi h=>b),
df! a b,λ_ _ _ _ _ _ us hl=>a (P:=λus=>V5! b us) (us:=us) hl h _ _ _ _ _ _,
gB! a,False.elim a,
gC! a,Value.builtin a,
gD! a b,(a _).nodup_iff.mpr b,
gE! a c,a (Ax! (WI! c)),
gF!,(by size_fits),
gG!,(λ_ _ _ _ _=>Pi),
gH! a,(xy! a),
gI!,(Dr!),
xw! a,(if a then Cr! V.bl true else none),
gJ! a,K!->a,
gK! a,Fg! a V9!=true,
gL!,lt i j=true,
gM! a b,Wg D m Bp! sh a ls/\b,
gN! a b,a/\(b key).Pairwise HZ,
gO! a b,starEach a X.env=b,
gP! a b,fF! a=b,
gR! a b c,(by induction a with | nil=>exact b | cons h _ ih=>exact c),
gS! a,∃vs,Hh!/\a,
gT! a b c,A! (uZ! a b) c,
gU!,λc q=>?_,
gV! a,I! e1 a,
gW! a,I! a h,
gX!,λc xs q=>?_,
gY!,Cl! q,
gZ!,b∈ER!,
ga! a b,(by have:=a;rw[b] at this;cases this),
gb!,KM AN,
gc! a b,λ_ _ _ H _ I h=>a b,
gd! a,by cases op<;>first|rfl|exact a,
gf!,o.cls=i! C,
gh! a b,λi H=>Ec! a/\b,
gi!,λh' RS sb=>?_,
gj!,t.2.toNat,
gk!,v.1.toNat,
gl!,v.2.toNat,
gm! a,(a:Int).toNat,
gn!,LC! DG,
go! a b c,if a then(b,v)::r else c,
gp!,Be! 2,
gq!,(rel.val k).KY,
gr!,(rel.val k).getD,
gs! a b,Ai! JX a b,
gt! a,l.most=w? a,
gu! a b,∀u,a al' n u=b,
gv! a,Db! ZE a,
gw! a,λt=>by unfold PR;rw[a],
gx! a,λt=>(a,V.bl true),
gy! a b,UV (o! a b),
gz!,UV (Bg! hq),
g0! a,∃dx,JV! a,
g1!,G.l∈BN!,
g2! a c,by obtain⟨⟨a1,a2,a3⟩,⟨b1,b2⟩,c1,d1⟩:=x.cy;have np:=x.SJ (b:=a) (EI!);obtain⟨dx,e⟩:=x.ob;exact c,
g3!,oe.data=Hk! vs,
g4! a,xL (W.GW.length<=a),
g5!,t∈r0.2.2,
g6!,λc hc=>?_,
g7! a,∀t∈Al!,a,
g8!,b.1≠G.BJ,
g9!,u∈Pn!,
hA!,l.length+1,
hB!,show MC M.holds=MC G.holds from x.holds,
hC!,tb∈b? G.AI.map,
hD!,PN!=x,
hE!,ts.length<=900,
hF! a,∀{n:Nat} {ahead found R:D!},a,
hG!,a.length+1,
hH!,u∉C1!,
hJ! a,λr=>X? a,
hK! a,λr=>Lv! (fd! a),
hL!,t∉ts.take i,
hM!,t∉fB!,
hN! a b,by show a;rw[b,iB],
hO! a b,{ G with AX:=Bo!,hand:=a,AF:=b },
hP!,Int×Int×HS,
hQ!,{ G with AQ:=Do! },
hR!,λ(q:T2×Int)=>wA!,
hS!,λ(q:T2)=>(tk q,V.bl true),
hU!,ls=a++l::b,
hV!,(An G (ts.take i)).AF.map,
hW! a,∀q∈a,HA!,
hX!,kind=AT,
hY! a,∀(x:Addr)(L:j!)(H':Hp),a,
hZ!,λr IW=>?_,
ha!,G.BJ=y!,
hb!,λk=>YL t qs k,
hc!,by unfold YC;rw[eq];rfl,
hd!,λh hh bh=>?_,
he! a,al++C5 m a (DB!) 1,
hf! a,fW! a=I.m,
hg!,G'.AQ<=Do!,
hh! a,W'.qs=fH! a,
hi! a b,(a E! b).told,
hj! a b,a (VU! b),
hk! a b,U! h2.get? a b,
hl! a b,U! a b (G4! t),
hm!,V! d2,
hn!,List (κ×Value),
ho!,i! s.heap.objs.size,
hp!,i! K?,
hq! a,Ch a (.HK o v),
hr! a,H! (a b hb),
ht!,b? L.map,
hu!,False.elim h,
hv!,(K w.params).In h,
hw!,(Classical.propDecidable _),
hx! a,Uf J! a,
hy! a,(AL.mp a).2.1,
hz! a,x.wl.sum t a,
h0! a,Q a fS!,
h1!,decide_eq_true e,
h2! a b c d,a b (G? c d),
h3! a,[("kept",a)],
h4!,g! MC!,
h5! a,o! hb a,
h6!,AI! h1.get?,
h7!,BK! (uz! _),
h8!,t? h1.objs.size,
h9!,X.A.units+1+1,
iA! a,AU! Ag a,
iB! a,q! j9 a,
iC!,d? x,
iD!,d? hd,
iE!,CG! Result,
iF!,CG! (Cs! Value),
iG! a,Az! LL! a,
iH!,U3! V,
iI! a,Bk! a Jg!,
iJ! a b,NE (d! a b),
iK! a b c,Y? a (uV! b) c,
iL!,R? bk.MV,
iM! a,IR h.symm a,
iN!,Dh! O?,
iO!,Dh! n?,
iP! a b,h! fn! a b,
iQ! a,xz wpAny_rule a,
iR!,False.elim q,
iS! a,(BO _ _ a).trans q,
iT! a b,CI! a (.BF (b V.ref)),
iU!,Di! Addr,
iV!,wk! 0 al,
iW! a,λz=>a (z▸m),
iX!,Nat->Ac!,
iY!,Nat->JB!,
iZ!,k? G.holds.map,
ia! a,inClass (top 23) a,
ib!,ZC _ be,
ic!,BM! BB.mpr,
id!,BM! decide_eq_true,
ie!,Bn! 0,
if! a b,re a b .BF [],
ig! a,IJ (Ne.symm a),
ih! a,(Sum.inl (a):Key),
ii! a b,G7! L.map a b,
ij! a,Oz! a h?,
ik!,Tk true,
il!,0<=MO t r.2,
im! a b,(BO _ _ a).trans b,
in! a,λz=>a (AL! z),
io!,Str->Cs! NameKind,
ip! a,Iz! (a<cLine),
iq!,Iz! wB!,
ir! a b c,P2! (Pt! a) (b c),
is! a,O0! t a,
it!,Ix (apos.endLine==HU.line),
iu!,EN! wE!,
iv! a b,EK (a AA s1 σ H1 _ I1 q1) b,
iw!,Dm! hb,
ix! a b,cr (A! a b),
iy!,dt! t,
iz!,hs.Pairwise HZ,
i0!,ut sh,
i1! b,b K H a (ns.map V.int),
i2! a c,KE (Dj!->a->AI! c),
i3! a b,(Bl (t7! a Ag) b Bb),
i4! a b c,(Bl (El (Eh hu a b)) c Bb),
i5! a,BP! a be,
i6! a,HC! a rfl,
i7! a,∀t,PN G' t->a,
i8! a b,FU! a s2 b,
i9! a,I5! 2 a,
jA!,O3! h,
jB!,O3! h3,
jC!,v2! i,
jD!,EQ! (wt-Hw wt),
wf! a b,LU! a sl b,
jE! a,v! k xA! a,
jF!,dw! oS,
jG! a,vs=[Go,i! a],
jH!,vs=[Go,PO!],
jI! a b,(Af (Uo! 3 a b)),
jJ! a b c,(Af (wN! a b c)),
jK! a b,(Af (L8 hu g? z! a b vz!)),
jL!,dy! n,
jM! a,Uz! (a t ht),
jN! a,Ah (o:=.dK []) a,
jO! a,EK! W.findIn (V! CI) a none,
jP! a,EK! W.findIn (V! a) "__getattr__" none,
jQ! a,HD! (a AA s1 σ H1 _ I1 q1),
jR! a,a=pure ff!,
jS!,LW! CN!,
jT!,(CE! CW dx wp!),
jU!,(CE! CW dx (dq! Df! iq BH! (V! po) wp!)),
jV! a,HF! a ?_,
jW! a b c d e,Bs! a b (uV! c) d e,
jX! a b c d,Bs! a b JR! c d,
jY!,C7! "sorted",
jZ!,x.some_at m,
ja! a,FM Oo!->a,
wg!,(List.range n),
jb! a b,(.call (V! a) b),
jc!,(model P w),
jd! a b c,Ut! a b DB (am c),
jf!,mem_mid hz,
jg!,(Bv!,0),
jh!,((0,0),0),
ji!,Fd! eL!,
jj!,PB! JA.map,
jk!,ws! "getset_descriptor.__get__",
jl! a b,LZ! (u=1) a b,
jm! a,HT.lexLt xs a,
jn!,CQ! (hi-lo),
jo! a b c d e,YH K a b (uV! c) d e,
jp!,(Bu hl tb),
jq!,Nat->Nat->Bool,
jr!,(λz=>?_),
js!,DA! 2147483629,
jt! a b c,HP! (EL.k (k:=H! a) b) c,
ju! a,HP! a CF,
jv! a b,HQ! (I! eG a) b,
jw!,CJ bn q.1,
jx!,CJ AK! q.1,
jy! a b,re H' a .BE b,
jz! a b,re H' a Bg b,
j0!,(Ay Bq Hd! Ag),
j1! a b,Op 2 f fd a b,
j2! a b,Op 4 f fd a b,
wh!,VF! I.fs,
j3! a,Dw! (a G tb v),
j4! a,PI! e a,
j5! a,Ux! a (TP X AA σ Q),
j6! a,LC qs ls a OU,
j7!,Fk! BG,
j8!,0<Dn!,
j9!,q.1∉ts.take i,
kA!,wz! s2,
kB! a b,eB! a b [],
kC!,PR! n,
kD! a b c d e f,VP! a b (fL! c d e f),
kE! a,BI.mpr λl hl=>a,
kF! a,∃t,u=a b t,
kG! a b,Ha! (L! a) b,
kH!,VU! c,
kI!,P9++(Q++s::R),
kJ!,(AL.mp YD).2.2,
kK!,Lm! xs!,
kL! a,u4! (Xl (a) ex),
kM! a,JT! (t σ H Q) a,
kN! a b c,(Ad (Uo! 3 a b) c),
kO! a b,Ah (o:=.BE (a V.ref)) b,
kP!,T! ep 0,
kQ!,(HM b o eb hb),
kR! a,(Ad a (Af L8!)),
kS! a b,U! (B4 G).lookup (a:Str) (V! b),
kT! a,EY.mpr (S? a),
kU! a,a u (ZB _ hu),
kV! a,r1.reads I a,
kW! a,r2.reads I a,
kX!,xs=[Go],
kY!,xs=[EX!],
kZ! a b,Lx! a ZA b,
ka!,PE X e ty,
kb!,Lz! S.hs,
kc! a,vH! a Gf,
kd! a,vI! (λc H1=>a),
ke! a,vI! (λvs H1=>a),
kf!,L5! ht,
kg! a,Ah ht _ _ (d! OJ a),
kh! a b,L7! (a (V! e) b),
ki! a c,∀b u,a->c->G3! h'.get? u,
kj! a,Pd! a Ab,
kk! a,ta σ H λx H1=>a,
kl!,FW! x.wa HM,
km!,Iv! d .dT kvs,
kn! a,C4! tb (λy H2=>a),
ko! a b,vR! z! a b,
kp! a b,vR! E? a b,
kq! a c d,(ls++[⟨a,y!,c,b,d⟩]),
kr!,Pw! W.hasDictIn,
ks!,h _ (I.tok _),
kt!,G! s6 iF,
ku!,Py! Nat,
kv! a b c,AL.mpr ⟨a,b,λu hu v hv z=>c⟩,
kw!,eb! e,
kx! a b,(Bl (t7! a Ag) (VY! b) Bb),
ky! a,(Bl (wG! (pv 8)) (VY! a) Bb),
kz! a,c.ho j q G a,
k0! a b,SF X (compareOp a) b,
k1!,P8! 1,
k2! a,LC qs ls (HB! (QE! a)) ls,
k3! a,LC qs ls (HB! (a G tb)) ls,
k4! a,R (V! y) W' a ys H',
k5! a,QB! (a >>= _),
k6! a,QC! dd a,
k7! a b c d e,(x.of a rfl rfl b (λq hq t ht=>Pz!) c d e).tk,
k8! a b c,a λo e=>b c be o e,
k9!,W2.same s3,
lA!,(fQ!++T),
lB! c,∀a b,R a b->c,
lC!,(G.AF.map (·.1)).filter,
lD!,(BO _ _ fI!).trans,
lE!,M9 G (S1 h),
lF! b,Iv! b DV! a,
lG! a,Iv! a DV! x,
lH! a b,re a fa Bg b,
lI! a b,xz ZR (a b (ZS ?_)),
lJ!,(Jd G ta tb),
lK! a b,U2! (ZR (EC a b ?_)),
lL! a,WG! (a),
lM! a b,WH! s.heap.push a b,
lN! a b c d,⟨_,rfl,p,a,dx,_,rfl,b,T.cl,c,(d),?_⟩,
lO! a b c d,(⟨a,b,c,d,W.share⟩:LT),
lP!,WM! V,
lQ!,WN! e,
lR!,WP! c,
lS!,eE m BJ W W' al al' ys DN H' L,
lT!,eE m BJ W W' al al' ys DN eD L,
lU!,I.kept kp,
lV! a,(λz=>a (by simp[z])),
lW! a b,(λz=>a (Pf! b)),
lX!,e6! (p.1≠b),
lY! a,fC! d a,
lZ! a,BK! (G.AI.filter λq=>a),
la! a b,K!->WL!->a->b,
lb!,IR k np,
lc!,(Hz hl tb),
ld! a,fJ! a s4,
le! a b c,HF.k (k:=a) b (q! Mj c),
lf! a,fM! a fa,
lg!,eI! ZA DI,
lh!,xG! (b≠a) CM!,
li!,xG! (b≠it) CM!,
lj! a b,fV! a (wS! b),
lk! a b,fX! a b Kx,
ll! a,h'.DictOfH knd d a,
lm!,(BK (AO e)),
ln! a,fa! (d! s3 a),
lo!,Be G.AF tb v,
lp!,Be G.AI tb v,
lq!,HY (FU bn),
lr!,HY (FU AK!),
ls! a,Cm W.qs al W' a,
lt! a b,d6! rfl a _ rfl b ?_,
lu!,ZR (IB tI (ZS ?_)),
lv!,ZR (JZ tI (ZS ?_)),
lw! a b,⟨_,rfl,t,_,a,_,rfl,rfl,b,rfl,?_⟩,
lx!,W1.same s2,
ly!,dr!+y!=y!,
lz!,A! (i! C::us) kw,
l0! a,∀s',a->Q () s',
l1! a b,∀{l:N!},a->b,
l2!,(p.map Hg!),
l3!,(.dK kvs),
l4!,JF (T?),
l5!,ts[i]?=some t,
l6! a b,v! fr a (gh b),
l7!,v3! E?,
l9!,Bk! sc.names.lookup Gp!,
wi!,(Hf!++Pv!),
mA! a b,(Ik Cr a b (A9 _)),
mB! a b,PE X wC! (a b),
mC! a,v6! a as.map,
mD!,(lay H ps),
mE! a,KE (AI! X.base.get?->a),
mF! a b,Ld! k a e b,
mG!,Bx al n u,
mH! a,F.len _ _ _ _ a,
mI! a b,Cf (kvsOf a) (c? b),
mJ!,wH! Loc,
mK!,Jc! a .dK kvs,
mL!,wI! I.base.slot,
mM!,wJ! v8!,
mN! a b c,SeqAt.EqAt a s b c true,
mO!,DS K H p xs,
mP!,HK! s2.heap.objs.size .BF [],
mQ! a b,BindsTo s fd (FV! a) b,
mR!,wO! H',
mS!,wQ! K6,
mT! a b,wT! a (am b),
mU! a,wU! (MM a ex),
mV! a,wX! (λus s1 ⟨vs,H1,I1,r1,q1⟩=>a),
mW! a,EP X AA σ Q a s,
mX! a b c,wY! (a b) c,
mY! a,hashInt (J? a),
wj! a,(WK! CX a),
mZ!,WA!->Ao!,
ma! a c,a->PD! (.BE c),
mb! a,p? (a≠k)=true,
mc! a,WQ! a fT!=true,
md! a,⟨a,WB!,D?⟩,
me!,t.1≠A4!,
mf! a,I? (s.ok.new t a).1 nu,
mg!,∀vs H Q E,QD!->fo!,
mh! b,Vy!/\P3!/\b,
mi! a b c,PW X (WV! a (b) pos) c,
mj!,Ay! X.mg x,
mk!,(loop _ rfl),
ml!,(xs.eraseIdx j).map,
mm!,IN as.map Value.ref,
mn!,absurd rfl h,
mo!,AV! (B? (MD! ht)),
mp! a b c,tV! W.qs a (q! b c),
mq! a,Q (Tk a) s,
mr!,C2! l.find? h?,
ms!,A5! d (.HK o u5!),
mt! a b,A5! l (.BF (a b)),
mu! a,I8! AG.mpr a n1,
mv! b c d,A6! (λa ts=>fY! b c) as d,
mw! a,ZR (VH ?_ a),
mx!,YC t qs h,
my! a,vB! Jn ad a,
mz! a,vB! JB ta a,
m0!,(Aj OJ aD),
m1!,L0! QJ (HM b o e hb),
m2!,xi! ea,
m3! a,P1! G.AI b a,
m4! b c d e,WJ! s.heap.objs.size (wL! I.laid s.heap.objs.size b c d) e,
m5!,W.isFn K Ly!=true,
m6! a,Ea G.AI (λt=>a) t,
m7!,Nw W W' (G2!) L,
m8!,fU! _ ?_,
m9! a,fg! (Gr! x p) EV! a,
nA!,x.lt s g ts h,
nB! a b,Ip! a+1<=Ip! (1*b),
nD!,(p.getD (a-1) 0),
nE! a,(AZ.keep (HQ s6) a),
nF! a b c d,PP a ⟨b,c,_,d,λo v z=>?_,rfl⟩,
nG! a b c,⟨a,_,_,rfl,rfl,b,A8 (c),?_⟩,
nH!,S.step i.2 S1 LN (j? PJ!),
nI!,(QS! (Ix (Value.ref d==Value.none)) _ _),
nJ! a,II hp (EK (a) ?_),
nK! a b,[PO!,AY! a,g! s,g! g,b],
nL!,([P5!,P6!,(c,k)]:JU!).lookup,
nM! a b c,fb! (a b G.AQ (Bo!)) (xj! c),
nN!,xt! H1,
nO!,xv! ok.hd,
nP!,as.map Value.ref,
nQ!,p2.keep QL,
nR! a,(∃xs,a/\k=!xs.isEmpty),
nS!,(Is! (0<1000)),
nT!,(λ_ h=>JS!),
nU! a,a BT! OU,
nV! a,St->Uf Hp (a),
nW! a,An G (ts.take (U?))=a,
nX! a b c,⟨v1! eq2 a,b,c⟩,
nY! a b,I! (Ac (n a)) b,
nZ!,I! (Ac h) e,
na!,q.1≠Ak!,
nb!,dY! (Jb! ht),
nc!,e1++(k,e)::e2,
nd!,(kvs.any wK!),
ne! a,(W.instObj C a),
nf! a b c d,((a b).map λq=>(LO!,q.2))=c d,
ng!,L.map (λy=>X? y.1),
nh! a,DT (a (eI! ZA ZA)),
ni! a b,a (λ_ _ r=>b) p,
nj! a b c d,G! jE ⟨a,b,rfl,c,d⟩,
nk!,(QY (je!)),
nl! a,L! ⟨r,a,h⟩,
nm!,o! (Ak q hn) q,
nn! a,Y? CJ! CJ! a,
no! a b c,FQ! a _ (CL! (AC b) c),
np! a b,(some (Gr! a b)),
nq!,AM! G.holds.map G.AF.map,
nr! a,IsTup h a its,
ns! a b c d e,MeI K a fn! b c d e,
nt!,FW! W3 VT,
nu! a,r.1=i?/\a,
nv!,Fl! d o,
nw! a b,Cy! (Bl! G.o C4 a) b,
nx! a b c,PS X (.Assign a b pos) c,
ny! a,(ZC _ (DF.mpr a)),
nz! a b c,Pl! a x (b++[c]),
n0! a b,CH! (YA a) bs b,
n1!,(ls.map bB).sum,
n2!,Db (V.qs[h]?) q' G',
n3!,fO! (Ao!\/0<=t.2),
n4!,fP! CK! wt,
n5! a,Cf (l.map a) (tk t),
n6!,v7! g.toNat (LC! x.wg.wl.len),
n7! a,wF! (X? W.share) a,
n8! a c,JQ p b ts H a ys c,
n9! a b,(Bx a N b).length,
oA!,q=(Ak!,a,[]),
oB!,(ni ex C),
oC!,(.done (.ret F?)),
oD!,AB (show ¬(Ix (Value.ref d==Value.none)) from AS),
oE! a b c,ZR (a (s:=b) c XA ?_),
oF!,A4 Dd! d0! [],
oG! a,FX.FV (k:=FX!) a hq,
oH!,MB! FL! Lw! (b≠x),
oI! a b c d f g,⟨HH! xd!,o! a x.dh,o! b x.dO,c,d,f,g⟩,
oJ!,(Lb m b S1),
oK! a b,Wg D m Bp! W.share a b,
oL!,xq! F6 W!,
oM!,(Fw kvs more),
oN!,(.send h g tb),
oO! a b c,Un (QY a) b H H' s.heap c,
oP!,KI H FA y z,
oQ! a,a y c (JT.look e),
oR! a b c d e f g,k a b D c ys d e f g (HD.wi wf) rfl,
oS! a b,a+Fq m y'+1=b+Fq m y,
oT! a b c d,v5! a g.X1 1 (b h c tb G d),
oU! a c d e f,⟨s1.heap.objs.size,[s1.heap.objs.size],_,a,c,rfl,d,e,xl!,JQ!,f⟩,
oV! a,λx y H Q=>a K x y H Q,
oW! a,nG a l G G' bs,
oX! a b c d e f g h i j k l m n o p q,⟨_,rfl,DC! a,_,rfl,b,_,c,rfl,d,e,f,g,h,i,j,k,l,m,n,o,p,q⟩,
oY!,As f v ((k,x)::r),
oZ! a,YV H t a s g ts,
oa!,ae P w K mg base A outer s H,
ob!,(k,x)::As f v r,
oc! a b,Up! a TP.cl M3.mt G3 hr M3.bd Ba b,
od! a,EW P w K mg base a (k+1) f fd ps sp,
oe! b c,⟨_,rfl,a,ns,b,rfl,hS.sq,hlen,l!,l!,c⟩,
of! a b c,Hx (lo:=0) (n:=a) (b) c ?_ ?_,
og! a d f g,T6 (s:=GE) e c a (l!) ⟨d,H,I1,f,g,RS,V7! hf⟩,
oh! a b c d e f g,⟨_,rfl,_,rfl,p,C,a,_,_,rfl,b,T.cl,c,d,e,f,rfl,g,_,rfl,?_⟩,
oi! a,AD.mpr (L? a),
oj! a,AG.mpr (LW! a),
ok!,knd.room A,
ol! a,a (Aw! (e0.bs b o e).1),
om!,(v0::Di σ caps),
on!,X.fn x=true\/VB! X.env.scope.names.lookup,
oo! a b,es.toList=a (entryOfKey b),
op!,show HO! _ from x,
oq! a c d f g,⟨a,v0!,c,λb o e hx=>?_,d,f,g⟩,
or!,∃sl,G3! h'.get? { o with slots:=sl },
os!,(uJ ht).elim,
ot! a,λv s1 h1=>EK h1 a,
ou! a b,intsAre_of (ns:=a) b,
ov!,[tb.1,tb.2],
ow!,[VQ!,JN!],
ox!,["_law_state","_law_a"],
oy!,["_law_hands","_law_held"],
oz!,p∈(X.pn++AA)++[],
o0!,λy=>(y.n,y.io),
o1! a b c,a (λt:T2=>t) (l:=b) c,
o2!,A.frames=some (je!),
o3! a,λkv=>if kv.1=k then a else kv,
o4! a,(Ak e6 a).symm,
o5! a,Ai! ha hb a,
o6!,s3.toks+([]:Pg!).length,
o7!,by rw[Dx,z] at h;lia,
o8! a b,∀i ys H2,a->Pv i ys H2->b,
o9! a,∀ys H2,Pv a ys H2->Q H2,
pA!,oT.data=Hk! ts,
pB!,env.frame=w? L,
pD! a,λvs H Q _=>a vs H Q E0,
pE! a,V? (by rw[e] at ht;exact a),
pF!,{ fN! with AF:=C2! HM! HA! },
pG!,λ(i:Nat)=>c+1+y!,
pH! a,∀(h:Nat) q G,FM (qs[h]?)->a,
pI! a b,fj! (Ph!->a->b),
pJ!,{ y with I:={ y.I with ss:=wP! y.I.ss,fs:=xf! },fi:=fA! },
pK!,{ W with c:=W.c,ls:=G2!++[],FA:=AT!,GW:=W.GW },
pL!,{ y with I:={ y.I with cs:=xg! },se:=Hc! },
pM! a,∀i q G,FM a->qD G i,
pN! a,λW' H' nw e=>WF (tn _) (.ID _ q G _ _ hi a e nw.toNv rfl rfl),
pO! a b,(Lz PassesOwn.never a b),
pP! a b c,setField CR! a (b c),
pQ! a b,.tupP (DL.of a) b,
pR! a b,Gw a (PG! b),
pS! a b,Qs a b (by intro z;cases z),
pT!,(σ.set i none),
pU! a b d e f g h i j k,wD! a b d->KO H' e Pe! f g h tb i->j->k,
pV!,PE X value tv,
pW!,¬(y!<0),
pX! a b c d,wpAny (model prog w) a b c d s,
pY!,(b∈X.ex\/X.HR.heap.objs.size<=b),
pZ! c,Y? EP! EP! c,
pa! a,Y? FT! FT! a,
pb! a c d,a/\tn i c/\(CD! Le!)/\d,
pc! a b c d,(a (DL.of b) (C? c (C? d S!))),
pd!,(G2!).length<=480,
pe!,Cu! H1 eL!,
pf! a b c,dq! Bh! a BD! b c,
pg!,U! H' y xh!,
ph!,PP t1 t2,
pi! a b,(a o ne.symm).trans b,
pj! a b c,a (b c) (Sum.inl n),
pk! a,O1! a aa KL.map,
pl!,AM! L.map J.map,
pm! a b,AM! (G.holds.filter (sK a)).map (G.AF.filter (sK b)).map,
pn!,(YK r ta tb),
po! a b,a (By I q (congrArg not b)),
pp! c d,p? ((c a:Key)=d b),
pq! a b,ZS ⟨_,rfl,i! h1.objs.size,_,a,rfl,b⟩,
pr! a,DV.mpr (A! Dr! a),
ps! a,U2! (ZR (ZR a)),
pt! b,b V2! a vs,
pu! a c,EL H a Fm! (WD! c),
pv! a b,EG 2 f1 d1 a (b),
pw! a b,EG 2 f2 d2 a (b),
px!,O9! as bs,
py!,A_ G8! G8!,
pz!,Mc M2.fn T,
p0! a b c,Mz I (WC! True.intro) a b c,
p1!,(qs.set l.g.toNat Fb!),
p2!,p.1.map Sum.inl,
p3! a,Ct! (Af (A6 (wV! fh! B0 a))),
p4!,HB! (Fi G R),
p5! a b c d e,⟨_,rfl,a,b,c,rfl,d,e,_,rfl,?_⟩,
p6!,∃t,u=Value.str x t,
p7!,vs=[Go,Aj!,CK!],
p8!,w7! T.len g?,
p9! a,EK! W.findIn (V! a) l8! (ws! Ot!),
qA! a,EK! W.findIn (V! a) G0! (ws! G1!),
qB! a,wy! a MA! ED E,
qC! a,u9! (f v u) Q a,
qD! a b c d,vH! (t7! E? Bi) (Uq! O? TW.cl a b c d B0 Pi!),
qE! a,EO! a rfl _ rfl,
qF!,YN G tb wt,
qG!,λq=>(tk (key q),val q),
qH! a,hb.elim B? λh=>a,
qI! a b c,Pm! H7 H7 a b c,
qJ!,aS p W y.I H H2,
qK! a,ME (OW hl) n a [] R,
qL! a,Pu! e e2 a,
qM! a b c d,MC (a (sK b))=c d,
qN! a b c,W.qs.set a (q,Ey G b W.share c),
qO!,Q (.bl true) H',
qP!,Eb (k:=An!) (f:=Dt!),
qQ! a,λr=>(PR! r.1,X? a),
qR!,λr=>((Sum.inl (k r):Key),f r),
qS! a,(a λS=>Je t S.2.2).sum,
qT! a b,Inv a [] b H' s',
qU! a,KI H W.FA (BJ,t) a,
qV!,.JU g s n' u G.AX Hi!,
qW!,(q.1::BL q.2),
qX! a,e4! (a b o (HM b o e hb) (sub b hb)),
qY! a,K!->(CD! (Lf X AA H b))->tn i s.heap->a,
qZ!,s.heap.DictOfH knd d xs,
qa!,.BF (DS.of Ab) S!,
qb! a b,⟨_,rfl,t,_,a,X? b,rfl,rfl,Pk!,rfl,?_⟩,
qc! a b,a (HH (b) λr s' hq=>?_),
qd! a,(upd H9 p (P9! dC a)),
qe! a,AZ H2 bs (a b),
qf!,BI.mp e q hq,
qg! a,YC t qs a=Dn!,
qh! a,Dk (An!) G.AF (V6! a),
qi! a,B9 hu g? z! a rfl,
qj! a,EU.mpr (UV (Gs! (A3! a))),
qk! a,Aw! (CO! (Ah a b o e)),
ql! a,W8 (λp hp hk=>a) h,
qm! a,BI! (CI! d a) s,
qn! a,S.P_ (a G.hand tb),
qo! a b c d e,Uq! g? TP.cl a b GC c d e,
qp! a b c d,putK (kvsOf a) b (V.ref c)=kvsOf (d),
qr!,Xb ey rfl rfl,
qs! a b c d e f,⟨_,rfl,p,a,_,rfl,b,c,p,d,rfl,e,f⟩,
qt!,xn! (Px! eb hb),
qu!,I1.bf (ZG _) xk!,
qv!,xo! ts ea,
qw! a c,A! a ((hs.2 b (BK (BU (AO e) c))).trans e1),
qx! a,(a h ta tb G ha c2 hb),
qy!,xr! f3 pN,
qz! a,d6! _ rfl rfl _ rfl a,
q0!,(K64F.LH m f c a S),
q1! a b c d e f g h i j k,⟨_,rfl,p,a,_,rfl,b,c,_,rfl,_,rfl,p,d,e,f,g,rfl,h,i,j,k⟩,
q2!,z.sameBut hs (e_ y c e),
q3! a b c,DM k (xu! a ED)->b -> ∃t,c/\t { nx:=λ_ H'=>PS!,rt:=Q } QF! H,
q5!,(upd H2 G.o xp!),
q6!,List.Pairwise.imp (λ{a b} (h:a<b)=>B!) J',
q7! a,Inv a AA σ H s,
q8!,v! h (I.tok _) ?_,
q9!,Bl! G.h Bg eQ!,
rA!,KE (Dj!->∃o',PD! o'),
rB!,knd.is s.heap k a,
rC! a b,A! (λz=>B? (z.resolve_right a)) (λz=>B? (z.resolve_right b)),
rD!,fK! f2 hX Lr,
rE!,fc! n' d' A',
rF! a b c,Y_ F_ dd.typeIs J_ a b c,
rG! a b,swapsWith a b pos.line X.env=pure false,
rH! a c d f g h i j,A! ⟨V8! a,c,UV ((x.ho q hq).keep (Ax! d)),f,g,h,i,x.nd⟩ (FJ! j),
rI!,FK! (RU.size-j=(RU.size-(j+1))+1),
rJ!,Db (fG! G.AF.find?) tb o,
rK!,P0! hk u iG (Os hu),
rL! a,codeAny VI! A a R s,
rM! b c d e f g h i j,⟨_,rfl,p,C,b,_,_,rfl,c,T.cl,d,e,f,rfl,L6! g,_,rfl,_,tk t,_,a,h,rfl,i,j,?_⟩,
rN! a b c,(λzs H'=>∃m',m'<a/\(m'=b/\c/\Pv (U?) zs H')),
rO!,Eq.trans r2 rc.symm,
rP! a b,Jx a (AV! b) m0,
rQ! a b c d e,⟨a G l.th (b),c,x.next hi d rfl i' (λt _=>?_) e⟩,
rR! a b,a b x.1 Lt! x.2.2,
rS! a b,∀(X:Cx K),X.prog=P->X.w=w->a->b,
rT!,λi v=>∃e,es[i]?=some e/\v=e.key,
rU!,[eF!,"_law_xs",JN!],
rV!,if K?=a then(q.1,a,h) else q,
rW!,t∈C0 G.hand G.holds,
rY! a,dx! (C2! G.AI.filter (q.1∉a)),
rZ! a,∀W' H',QA! []->W'.qs=L4! a->R .FG W' al ys H',
ra!,v4 / (1+5*J? q),
rb!,Array (Option Value),
rc!,Gw (l!) rfl,
rd!,v! run (λv dv W' D' al' DN H' tl ef OT fr fp eh=>x0! (V? (m? (fin v dv W' D' al' DN H' t tl ef OT fr fp eh ht)))) (λcls i xf ef=>⟨cls,s? xf.sub,λex hx=>m? ⟨cls,i,rfl,Ab,xf,λH4 s4=>x0! (λt5 h5=>m? (YS i H4 t5 ef (Aj (Ah hx) s4) h5))⟩⟩),
re!,Y? N ps st,
xx! a,(A.under (AS! "type.__call__" a)),
rf! a,CL! a (hd ys H2 pv),
rg! a,EO! a (λ_ z=>FP! z) (λ_ z=>FP! z) (λ_ _ z=>FP! z),
rh!,A4 BD! O5! MG!,
ri! a,Uz! (Hm a t ht),
rj! a b,((Bj a rs).map λr=>(⟨BC!,b,r.1.1,r.1,r.2⟩:LT)).map .w,
rk!,(sI b o e hx),
rl! a b c,HQ! tz! (e8! (a h) b c Ab),
rm! a b,JG! VD! "House.state" Ni a b,
rn! a b,JG! "give_back" "House.give_back" Td a b,
ro! b c d e,ZR (m:=b) (RX (a:=c) (d) e),
rp!,Fn! Ix! Ix! Ix!,
rq!,sp ex vs H Q,
rr!,PV X sc cl s3.heap.objs.size (x::Ej caps) s3 H3 fp AA,
rs! c d,JY! "need_holding" "House.need_holding" Kf c d,
rt! a c,JZ! "add_to_record" "House.add_to_record" Tf a c,
ru! a b,⟨_,rfl,p,C,dx,_,rfl,a,T.cl,b,?_,?_⟩,
rv! a,ZD _ (AL! (ZD _ (ZD _ a))),
rw!,(CE! CW dx (As Cq! (GM sh) [])),
rx!,(CE! CW dx (As BH! (V! po) wp!)),
ry!,(CE! CW dx (As LL! (V! fi) (dq! Df! iq BH! (V! po) wp!))),
rz! a b,a/\k=(J? b != 0),
r0! a,OH X.prog X.w H' a,
r1! a b c,PP (λi m ys H=>m=a/\b/\Pv i ys H) ⟨c,D?,sw,h0⟩,
r2! a,T.obj 0 _ a b hb,
r3! a c,T.keep 0 _ _ a λb hb o e=>c,
r4! a b,(a (b h1)).imp id λz=>JW!,
r5!,d6! rfl l o rfl g ?_,
r6! a b c d e,a (t':=b) c Am! (show d from e),
r7! a b,v4! "lose" "House.lose" Qg a b,
r8! a c,∀b,(a\/b=I.sd\/b=I.fd\/b=I.cd)->c,
r9!,Aj s1 (Aj s2 s3),
sA! a,wR! a ha ha ha,
sB! a b,wW! (a b H (λ_ H'=>PS!) E),
sC!,Pv 0 [] (wx! p),
sD!,∀b ob,Ch b ob->b≠d->PD! ob,
sE!,IG (Ir I hg hm ?_ bE),
sF! a b,cr ⟨ha,a,ad,_,fd,b⟩,
sG! a b c d e f g,⟨_,rfl,a,b,c,d,_,_,rfl,rfl,e,f,g⟩,
sH!,hl i ys H2 hi pv,
sI! a b c d e f,Br (a g) b EL! c d e S! Ba f,
sJ! a,Nz (k:=FX!) (f:=eG!) (c? a) ha,
sK! a,bo a x dx C mA,
sL! a,hb (ZC _ (DF.mpr a)),
sM! b,Av th i a t ea b,
sN! a b c,a->b->Dv!->QK!->fZ!->c->I9!,
sO! a b c d,WI a p0 W D m b c 0 d al ys,
sP! a,F' rfl (HJ (IH (EK (he AA s1 σ H1 _ I1 q1) a))),
sQ! a,attributeBase o a X.env (VO! o)=v9!,
sR! a,_++(e7! (n=n) a Ed!++_)=_,
sS! a b c,CE a b c H s Q u s',
sT!,A4 Cp! O5! (As Dd! d0! []),
sU! a,WF (Gz ey) (.KN BJ L a),
sV! a b c,(Nl rfl (Ck a (Ck b (Ck c Kj)))),
sW! a b,tw (v:=v) (o:=a) b,
sX! a,a ZV ZV ZV ZV,
sY! a,a [Go,i! t] H1 Q E,
sZ! a b c d f,⟨a,O7!,O7!,O7!,O7!,b,c,d,f⟩,
sa! a c d,Aw! (by by_cases hb:a;(.subst hb;rw[c] at e;rw[Ab];exact e);.rw[Du!];exact d),
sb! a b,step (o:=.dT []) Ab a b,
sc! a b c d e f g h i j k l m n o p,⟨l!,a,⟨b,c,d,q3,q4,e,f,Iw g⟩,h,i,j,k,l,m,n,o,p⟩,
sd! a,∃as,Reads a u d as,
se! a b c d,(MeI.mth (ps:=a) ⟨b,c,d⟩).bd,
sf!,by rw[el,ZE,BR] at z3;rw[ZE];lia,
sg! a,λhz=>a _ hz _ (AJ!) rfl,
sh! a,by by_cases ch:a;(.rw[AE ch,ch,Rl hi]);.rw[AB ch],
si!,(σ.set i (some v)),
sj! a b,FN (x:=a) e1 rfl rfl b,
sl! a b,FR! "give_back" "World.give_back" Nh P7! a b,
sm! a b,FR! "ask_all" "World.ask_all" Hg MH! a b,
sn! a b,B7 0 (Uu! a) H4 b,
sp! a b c,(Ee (A7 a EL! b DB c)),
sq! a,JA! tK GC g.mPk.mg g.mPk.fn.kp g.mPk.bd a,
sr! a b,a->Pv i ys H2->(∀ys H,Pv (U?) ys H->N ys H)->b,
ss! a,[⟨a,io,I,[],[]⟩],
st! a,wpAny (model P w) X.A (C5! pyNext it) (λr s1=>a) E s,
su! a b c d,O.tr _ _ _ a PM! b c d,
sv!,T?++C5 m g2 n 2,
sw!,C1 m JN N W al ys,
sx! a b c d,wM! (B7 0) a b JX! c Jd! d L3!,
sy!,GS m b S1 t,
sz!,[WT! (AR! msg) j p1],
s0! a b c,I.iW (its':=a) hH e b c ?_,
s1! a b c d e f g,∀base:Heap,a->MF! base.Ns->EW b w c mg base d e fa fd f g,
s2!,Cz h t (.w l),
s3! a b,a ha hb I h λv u s2 x y H2 I2 rx ry q=>b,
s4!,∃a,kv=(Sum.inl r.1,PN!)/\aR K H a Al!,
s5! a b,a (M:=model prog w) X b,
s6!,(.ask s g n' u),
s7! a,(I.base.free b a e n hx),
s8! a b c d e f g,a AA s2 σ H2 x b v c d I2 e f g,
s9!,⟨hp,g,d,tk,os⟩,
tB! c,∀(H2:Hp) (a:Addr) (t:T2) (Q':Ja!),L2!->Cu! H2 (G4! t)->c->Q' (b t) H2->tt (Uu! He!) H2 Q',
tC! a b c,Gx (l:=a) (k:=λq=>q.1) (f:=b) c,
tD! a,JM kind_sorted plain_sorted entry_sorted (args_sorted1 _) (a),
tE! a b c d e f,EW P w K mg base a b c d e f,
tF!,(CE! CW dx (dq! Oy! en LL! (V! fi) (dq! Df! iq BH! (V! po) wp!))),
tG! a,EW P w K mg base a k f fd ps sp,
tH! a b,L1! (CU slot_list_sort (LW! a) fe b (args_list_sort _)),
tI!,envOfC qual scope s.heap.objs.size f cd,
tJ! a b c d e f g h i,⟨_,rfl,p,a,b,_,_,rfl,c,d,e,f,g,_,rfl,h,i⟩,
tK!,WR! name qual params body scope dV,
tL!,(CE! CI dx (Gj I.m I.sd I.fd I.cd)),
tM! a,KO a y.2 y.1 l.kind l.s l.g l.th l.x,
tN! a c d e f,⟨_,rfl,a,c,_,rfl,d,B5 _ ZV,_,rfl,e,b,_,tb,rfl,S1,f,_,rfl,?_⟩,
tO! a b,RZ m.base m.pM m.line DH a b xe!,
tP!,((s.heap.update a (Obj.mapSeq λ_=>(#[]:CS!))).push (seqObj Bd! vs.toArray 0)).push,
tQ! a b,a kindOf ((p,w)::P.zip vs) m b=_,
tR! a,ZR (m:=checkCount "sorted" 1 1 _) (ZS (ZR a)),
tS! a b,.BF (DS.of (Ah IW _ _ a)) (Mh (Df b (HQ (Ah IW)))),
tT! a b c d e f g,⟨_,rfl,_,rfl,a,_,rfl,b,c,_,d,rfl,e,f,g⟩,
tU! a b c d e,hR v a b _ _ _ rfl c kD ⟨y,_,i1,i2,d,ey,rfl,rfl,rfl,rfl,e⟩,
tX!,(Cq (pl:=_) O? g.TW.cl g.mWLe.mt (pK g) OK g.mWLe.bd S! Ba),
tY! a,x.ID i W1 HM cG vF! HG! vE! w8! g1 a rfl cA cB g2 k _ λ_ c e=>v! hR c e,
tZ!,⟨this.BJ,this.AQ,O1 M G x,this.hand,this.AF,this.AI,this.holds⟩,
ta! a b c d,HD! (a _ _ _ _ _ _ b _ _ _ c d),
tb! a b,OD _ (a) _ ?_ ?_ _ _ b,
tc! a b c,a AA s1 σ H1 b c Q I1 r1 q1,
td! a,xm! (x.wl.same hi a rfl rfl rfl) x.rc.less (λl h=>h) (Lu! BS!),
te!,⟨_,rfl,p,JI,_,rfl,GY,Ct _ ZV,_,rfl,k⟩,
tf! a b c d e f g h i j k l m n o,⟨_,rfl,a,b,c,d,e,f,g,h,i,j,k,l,m,_,rfl,n,_,_,rfl,rfl,_,rfl,o⟩,
tg! a,Ko (Mn J5 J4.ok) hN hi hn λs6 J6=>a,
th! a b c d e f g h,⟨_,rfl,_,rfl,p,a,b,_,_,rfl,c,d,e,f,_,rfl,g,_,rfl,h,?_⟩,
ti!,(mf b o eb hb n1 n2 n3),
tj! a,qC (Ky (YK i_ a (WE! c))) ta tb D σ H,
tk! a b c,a x hn hB el es p1 p2 p3 C6! b kk c,
tl! a b,HD! (a QG! rfl rfl hc i [] s5 _ H5 (QM!) I5 (SH bF) eJ b),
tm! a b c,⟨_,rfl,p,dx,_,rfl,hp,SZ,_,rfl,p,a,G,b,rfl,S,c,?_⟩,
to! a b c d e f g h i j k l,⟨_,rfl,p,a,b,_,_,rfl,c,T.cl,d,e,_,rfl,f,_,rfl,g,_,rfl,_,h,i,j,k,l,?_⟩,
tp! a b,⟨p,BJ,W,l1,l2,t,BJ,a,g,b,_,rfl,x.wa,el,et,λH1 W1 HM=>?_⟩,
tq! a b,⟨a,_,rfl,b,rfl,_,_,rfl,_,_,rfl,_,_,rfl,rfl,?_⟩,
tr! a b c d e,H! ⟨a,_,rfl,p,dx,_,rfl,hp,SZ,_,rfl,p,b,G,c,rfl,S,d,e⟩,
ts! c,L! ⟨q,G,i,q,a,b,G,ta,tb,rfl,i.at x.wa,ea,eb,B!,c⟩,
tt!,⟨_,rfl,p,dx,_,rfl,hp,Ez W _ ZV,_,rfl,xa,_,_,_,rfl,rfl,U6!,rfl,?_⟩,
tu! a b c d e f g h i j k l,⟨_,rfl,p,CW,a,_,_,rfl,b,TW.cl,TW.nP,c,W.po,d,_,rfl,e,L9!,_,rfl,f,g,h,i,j,rfl,k,l⟩,
tv! a b d f g h j l m n,x.iR (G':=a) i W1 HM b vF! HG! vE! d wg st f g cA h E! j l m k _ λ_ c e=>n,
tw!,⟨_,rfl,t,_,_,_,rfl,rfl,Pj!,rfl,a,_,_,_,rfl,rfl,NE e2,rfl,?_⟩,
tx! a b c d e f g h i j k l m n o p q,x.answer (new:=a) (D':=b) (y':=c) el es p1 p3 ey ee kM fr rfl rfl rfl (pk fr at2) d e f g (λw9=>h) cA cB i j k l (m) n o p q,
ty!,⟨_,rfl,p,dx,_,rfl,hp,Ez W _ ZV,_,rfl,xa,_,_,_,rfl,rfl,U6!,rfl,_,rfl,xa,_,_,_,rfl,rfl,U6!,rfl,_,rfl,xa,_,_,_,rfl,rfl,U6!,rfl,?_⟩]
theorem ZV{p:Prop}(h:p:=by decide +kernel):p:=h
open PySem PySem.Spec PyProof.Rows in def ZR:=@wpAny_bind
open PySem PySem.Spec PyProof.Rows in def ZS:=@wpAny_pure
open PySem PySem.Spec PyProof.Rows in def ZT:=@Heap.get?_push_of_some
open PySem PySem.Spec PyProof.Rows in def ZU:=@Heap.get?_push_size
universe T nLSzVoKwGON CIPSLSjyGfTI mYRWKEgOhYG BwsEEVYhqdVE GsJhziIDpMO CSAxlqFhJKEY BOUXNshPgcVb BEJOrweqDfqO VqBhAvjPgHt BCceooVrqbTT BGQZZNktypaN SUOEOyjByOo BSOKKfTGZChv BZPreoKdZbzN BGcftGNgiJHe kzVCAquiTcA NHTFCSdaKjG BakRrVOrHljG BoJEKahWdlVR xuufytuPvpl rcYACogukpD BCbnjwVNTJuq xCNtYpkRkGu LLHUnNkJHZg CEkQEuuhegbN BKTHUZZyynFg CFCebpGIhqFE BtJnbHuSKwIl CVsXMxfvcSNV PagmnKuBCKy BHeXfaOAbyHI uceoMzTSLmG MHOYnjmNwbR zVPUWqZruWp BSTQgwHHkiJT VcbmvUmpKlT BSznAEuUOIHk epfIBEjJFsa hGLYZnlfjjO ONvLMkPSdOi BOnIOypWwNmP BzGeObJMlROc CHKpQyBuSXGO BxvxSraTknkW CFEModxANnWA BzCWERwwTayT BEzllUrdnOdr NmoaMuLqSQg ezCpShkVsoN BjMjAsOXvQwO BpZXbiSUTTUR BmJYjUbuJoUQ BPziFQPhtpJb BRKDLfOiRHPy qpHlKLgUZsY ygWpyfQwQTF BuJWIAjjBqiL qFPoffhgfJq CJnDhuAFjNLz BpHFXpirGxwb BeXFbyYZbSBU BrZVYIpEgkGW BGQsjbyNdYiX xQjLHJzukvn BDjdlZEbJGDI QajZYXZgHRS BKnkdFdjMUlJ BlYkUVIqKwoF CUALDZxCoeqm CWOnpWagBWyY CEXAYLXdZFfa CLuttPajlVuP BEULmRRwiLjn BAHdAJYkjokp CAAPgwXaokpy XTNUDhUYjby qiENarYHTjj CUQOFNYkcmMe CFGhCniFPZoT BihSJwwWqqyh PlIdeifKltZ BPRrzdxcGEsp BzMYOivxJRPG PiWIPNFtLRq dOKysIbDQCi BiGbRyYMxcxz sKLFATPKZQY CIhChvSUUIWO BoPFcbskBdDp NvfivmjKwQk BUvoiWrfCNaE BdbIxqvWpsXo REwQNipAovP NwPZiPkVDub OOkVxQLaQXW NtckarYxHcK CUTESXJSphOa BaKYhIUMQXTZ bQEtVMflMTP CRAunHqDqyrR YiVINrGYeLN BkZKzNNoTVjC BjEefJdngbBw JpxvgnmgpRy BvcdxEJslcuT BtoeMQarPaoG BQXpOqAmXJgZ xMtBvBcZyck CFyRsgiYyxbG CbxWqhXGPyj BKIsKeGIDkyB BkTGpPNQLVWW BmAggEQDazoj CWkMoxofKOwa BHzEmTrZEaQC VYJSlOoxgsh CHlmzOERdUts BVtZBnVlUVgw BRqyedoBXaBU CFnirgKtFejE ZVcYKQtUyKo CICoEiMQkeop VShkyWswNmw BhEgILOtRwEJ CDtwqUGUOCUW BqncauEyBvoZ BnMMdHUnJNCH vbKeiptdsLa KtcWiwqswjy FqgfrDcwlwk BLvTYqBDhsaq jxRkOmIqWGr eovYOckbIvU CHgdqueFsYIb BJpzedhQVDec ByCapdVuAvCg CRwICcJYriEh zIUgQnNHFrd ciJYHmHrtUT BkuomoVFwwTQ BzxgODSzqbMT CAZqXlnzZGDN BdirdaHulbUx EeBHTzzbqry SLdmFwgGgKi fcrjnIHHjkT BfTrHCSLjvAx CFbsQjUDtMVA tOzVTDbQuXJ BOxNTyQXnDqg BxwWmdWTXRDo CFCHNELyTEDi CNdzKylmYzqC CHCTVYOYxuAn QnWErqKJCoh oZwdcRFHrfU BZmwsOOAOLmg kYxGmidksKh BlPsZiaXOblg BJYomliAvwla BKbCpxmJPKxR BwLkkiogoXYZ kTAiBRxvLcf BwIVhlOQbitc BSIqTewSTViW BfKuQLDmvhMx CRYMuwyikSBR BvftVJFprJCy vRIGNVXLquK BKyryzCpGuvD NpswagQpwLj BBcbWqEjdkqC BYvTkfzOjoQk CPHJDioZnkHo tYAZBGpxXzz CFMxHYlLcjKd BZHpWILsPikx jytxyVcYQMB lPIbxerEdLp FmICvKlvTWH amQPPXdeUv nthFSVLrlKP BCOCprdDtIL QHeNdIOSFDu hoNXUJqHXsZ BBphJhWzToyk UzNSFedxwkM BkzMcukJtUxs CCzPqpEemudH BAROXoGiGDyh JtMzIwNuHPy BYvFMXHFIlMi BhoDHKEOTCkb BkzpVlNnMGcS VxeVpvddxms CXZoKeKeAFgX BkmTYDdhCHPT BPVEmAfQYGPs BJToMDfcZpiH CCjBdUKywOCx BfbDAKJySexb CUpiCBYDsYQJ BqfdPxeAyFaU BORNCsyMASjm BlBiBqTnVzKw CHiXPVQurLaj ByJRzQJuOYfM CTyCunuISwuI BijvPAZapHYA CDbzQbitTdrd BCaZLYVTWtjM BspLJAppPCVp BMLXLMSysbwY BHjnUHbrMoqM BgimcCBcBPTn CSPzDIvNxwsO BecLpfRRZntg BeiiDnrOXDDL CUhffWXWINJa BIWyfJaEFWWb BzMVaeLQadbJ CBuRRSjPwQhc CBpQNXxrFDRn BuoXLxXkelDy ljElFXqNkvu BMTvOgaEcofX BkoiwCkpxDit uJBPHUcRblr jrNCOcFGjps BglvFtychmXp CUMiAgnIRyiN mhpKDHSyUQn CFEgEQhiHcXg DhYCcFrAqYi jZseFediSgt KpdolAIsWtU pYtqKaQmoIj BNfwIVfRZlMG BmscvKMaRQvn MBJqVEKeNEJ BicrYZVWGrQP BgpdePprfrTp BpIKYDeFmegv BpseSVqDxXGF gDZCeUqvufp CKSXrkUsexlM vpKmYKlDvth cuTGLYnEfop gRcFirXmoHs CGNTmZRRFWuh BIWeSrwKFfbd FyNBjuWSKGn BIbOraWbMjvd BDqrSfexuhGd ryuGKFqyTJF qnhOCzaKmAI dDJIHwVnmHG CMUhcUbSbFAU BQMJsYdIdDIf rdLmAYiwDsw BkOtAZjtymdP ZGfDEmzfboQ CQmndQvUltxe CIZFgzgttvTb BkbtLKwxnpgB BunGtZvrsoVb CCqFwMZLGlOt oyFypOlyJYx eBTozyUyfzw BwYXbajwJAzh CbWkYdZcEsi BIdLLtqohAdz BDCpXKhFrSmi BYgrOZSRGrUl BwOxlvSKmpmw BkAxynuEQTWq BQgOGlcuxcNY BMjNDAuFxgEn CObeBYKmAbTr BpekdjKGSylf CQOcFYlGGBMp BwFIwEytJOZs BdAVQzWPxuaS CRWwcydqfxYq BWTHylskFWVC ByPpnlwTKVPk CHHoUeoAtCyr BAdLKWWAcZfq CPcSKfuOqyLE BXQfALYwXimw BRuaaGVMvvaV ojnLcysaiPO BGVJIIntlrk CWvYKnledgrp BUyDbQssxYDB KjXrlMFGfBW lkLokukOSuI CFQdSpfCGigB CTBOWyXWlCdE CVZIXDCbBzQN sToXlwxsZLI XyniWEtOdeb BXioKStCqNOo BqjIwpaNjNiY SBqROlNeOja BShwhAJgrMcM CVboiVLCDvLN BWipBGPISkaW xQhmEEESOpl BofhIUUpWQfs EyLdMZMKyUD coTikUEdnwF CFrCpUDUvFeO LcopZUXxqxT zijcEOdNYpn jmdvONkaGcG BadUmcFKXZLb eZUbVNREsNP CUDclxVMqcwG BxjQVoQeiTNX BuRuOUqgiUUS CKJIkQEEzoAW PBMvQJgdMwl grBzomdiyHZ BWMKQywCzmHh CLDTJFWWRTPI hyxkXlJTCGc xtWWhruwAUt yYtNmwpfscf BJPnUhWelHcd BixWisZtFcZX BZsWIouHzNLQ QRVYQBqSfBK nLSCYlaxPWO tgIdxCynejh XTiABgaXeDt BxSmMiVWQJgS BhGyOCtAQyBS BfvhgWDyVSyv uGPdGrlQmDI FQZgvrGlelC vYzmPjytwLs BirdxTWGvVMV VElwJquqkBW BtdUKotLGArI LYSKfqTdwNF mFYjzUeWAzL CwrshYPPZyH zDwpWrTNAFI BOblRvPTmPNu aVEGvtQPXHu BNHuamHVreLE CAebvZqkzxza JmloAIfOEx FXKnDMBqYUt CFAigdMjROyZ XonOHCbAfnu BhguKGUMvVMX BeKrrAzLrKxS ubZxGANGsgp BehtNQeBwJHF dYKMhGBJhGr BoGvjSmPJDds COKvWBryBMaj rQEweoFSXgW FraSbonqIeG whgdMrHBRDc CCgkYHdWphAg MznFOtPpyro BTeakfJgAZoS aYkMvUeojiO szXXrMqboDq BHasaOQCgCbc CBNGjMXslrsb CADIJiwrMPyz OZEbbkIevXb BdEkQCVzwwgS CLxgOoTglgZl BQfXphGhtwmt rGZAdpyDAuL ZochtAiFghW tHlnKeIOrXf CFImcIZqXNdI NMozMGlBhDV BOcHyIUocUik CKnZcXkenkTY lDoYlEBbOnx FsRjamJhymi DVccfcKovbC IgwPUTXujbn BXxFbbKMAabJ IYUofDXEbYq CRhgIIfBeVrp zeYdRUBPBNp lkTsWDjbrAI uHagENlKXTV ZPNRliVyTFc BWXTWkQlhSkv cxvgvEdDVms BZAcNXmGJtKx BTwnGAuDvUCA CHpnzmuPcXhH nvaHwnXBWzM LImnNlfzbWe BlBRMLDsHHkO BcqxgyAtWtPv BeiUhdTIwYKj CBEIPLazbpiu ZKacNqPTHER BSBjAwkGZdUv xkWtoYKlMtz krbnghwkJLH ltfDhcVUEih rEnrLEHatjk BvyvBOeaqOGF orOPNNrqPWj iCrSsuZztTD JlKxHsiFPqp pBJIhIjfoIB BaHTUMwqzdAy RcbCGXzufQq CTNpNhWcyiGZ IwwPYMJkjoB BYcXBbJmnNRR CEObpjGaIBts BrFrhmmdctNT BmwEsCbzWhMO WscPyPGqOvF CBGTxyOOXCRV BAbFTISLYMuk NqXpSxsOmLk dCISijlJieC CUcrWIRwOtJT BkqlttgSlNzW tfYzNXOueGn CORIQUAZkBtn apPBELNSIEA CCTTRNOYjveB BhSkkSihrsfH
theorem ZA {α β : CA!} {as : N!} (f : α -> β) : IN as.map f = as.length := List.length_map f
theorem ZB {α : CA!} {a : α} {as : N!} (bs : N!) (h : a ∈ as) : a ∈ as ++ bs := List.mem_append_left bs h
theorem ZC {α : CA!} {b : α} {bs : N!} (as : N!) (h : b ∈ bs) : b ∈ as ++ bs := List.mem_append_right as h
theorem ZD {α : CA!} (y : α) {a : α} {l : N!} (h : a ∈ l) : a ∈ y :: l := List.mem_cons_of_mem y h
theorem ZE {α : CA!} {as bs : N!} : DD! (as ++ bs) = as.length + bs.length := List.length_append
theorem ZF {α β : CA!} {f : α -> β} {as bs : N!} : (as ++ bs).map f = as.map f ++ bs.map f := List.map_append
theorem ZG (n : Nat) : n <= n := Nat.le_refl n
theorem ZH {α β : CA!} {f : α -> β} {as : N!} {i : Nat} : (as.map f)[i]? = as[i]?.map f := List.getElem?_map
theorem ZI {α : CA!} {a : α} {s t : N!} : a ∈ s ++ t -> a ∈ s \/ a ∈ t := SA.mp
theorem ZJ {α : CA!} {l : N!} {i : Nat} {a : α} : l[i]? = w? a -> ∃ h : i < l.length, l[i] = a := List.getElem?_eq_some_iff.mp
theorem ZK {α : CA!} {a b : α} : a ∈ [b] -> a = b := DO.mp
theorem ZL {α : CA!} {a : α} {l : N!} : a ∈ a :: l := List.mem_cons_self
theorem ZM {α : CA!} {a b : α} {l : N!} : a ∈ b :: l -> a = b \/ a ∈ l := CK.mp
theorem ZN {α β : CA!} {b : β} {f : α -> β} {l : N!} : b ∈ l.map f -> ∃ a, a ∈ l /\ f a = b := AG.mp
theorem ZO {α : CA!} {a b : α} : w? a = w? b -> a = b := Option.some.inj
theorem ZP {α : CA!} {l : N!} {i : Nat} {a : α} : l[i]? = w? a -> a ∈ l := List.mem_of_getElem?
set_option autoImplicit true
set_option Elab.async false
set_option maxRecDepth 100000
set_option maxHeartbeats 4000000
set_option linter.all false
universe N L2
open PySem PySem.Spec PyProof.Rows
abbrev Key:=Sum Int Str
def Ts:Key->Value->Bool
 | .inl k,v=>Value.isInt k v
 | .inr x,v=>Value.isStrOf x v
def Jou(w:World):Key->Int
 | .inl k=>hashInt k
 | .inr x=>hashStr w x
theorem Co:∀{k:Key} {v:Value},Ts k v=true->(∃i t,k=Sum.inl i/\v=Value.int i t)\/(∃x t,k=Sum.inr x/\v=Value.str x t)
 | .inl i,v,h=>by obtain⟨t,e⟩:=Value.isInt_shape (k:=i) (v:=v) h;exact H! (FQ! i t e)
 | .inr x,v,h=>by obtain⟨t,e⟩:=Value.isStrOf_shape (x:=x) (v:=v) h;exact L! (FQ! x t e)
theorem Jd6(i:Int)(t:Tok):Ts (B? i) Oa!=true:=by simp[Ts,Value.isInt]
theorem Jd5(x:Str)(t:Tok):Ts (N? x) (AR! x t)=true:=by simp[Ts,Value.isStrOf]
theorem Jm4(a b:Int):pp! Sum.inl Sum.inl=(a==b):=MI!
theorem Jm1(a b:Str):DM! (pp! Sum.inr Sum.inr) (a=b):=MI!
theorem Jm3(a:Int)(b:Str):o? (pp! Sum.inl Sum.inr):=GG! (λq=>nomatch q)
theorem Jm2(a:Str)(b:Int):o? (pp! Sum.inr Sum.inl):=GG! (λq=>nomatch q)
def Bh(prog:Program)(w:World):PySem.KeyKind prog w Key where
 is:=Ts
 hash:=Jou w
 inj:=λv a b ha hb=>by
  rcases Co ha with⟨i,t,rfl,rfl⟩|⟨x,t,rfl,rfl⟩
  .rcases Co hb with⟨j,u,rfl,e⟩|⟨y,u,rfl,e⟩
   .injection e with e1 _;rw[e1]
   .exact Vs!
  .rcases Co hb with⟨j,u,rfl,e⟩|⟨y,u,rfl,e⟩
   .exact Vs!
   .injection e with e1 _;rw[e1]
 byValue:=λk v h=>by
  rcases Co h with⟨i,t,rfl,rfl⟩|⟨x,t,rfl,rfl⟩<;>rfl
 pyHash:=λhv h=>by
  rcases Co hv with⟨i,t,rfl,rfl⟩|⟨x,t,rfl,rfl⟩
  .exact wpAny_pyHash_int h
  .exact wpAny_pyHash_str h
 eqBool:=λhu hv h=>by
  rcases Co hu with⟨i,t,rfl,rfl⟩|⟨x,t,rfl,rfl⟩
  .rcases Co hv with⟨j,u,rfl,rfl⟩|⟨y,u,rfl,rfl⟩
   .rw[Jm4] at h;exact wpAny_eqBool_int h
   .rw[Jm3] at h;exact SeqAt.EqAt.int_str i t y u _ _ _ _ h
  .rcases Co hv with⟨j,u,rfl,rfl⟩|⟨y,u,rfl,rfl⟩
   .rw[Jm2] at h;exact SeqAt.EqAt.str_int x t j u _ _ _ _ h
   .rw[Jm1] at h;exact wpAny_eqBool_str h
 «strs»:=λk x t v h=>by
  rcases Co h with⟨i,u,rfl,e⟩|⟨y,u,rfl,e⟩
  .exact Vs!
  .injection e with e1 _
   subst e1
   cases v<;>rfl
theorem Zh(prog:Program)(w:World)(i:Int)(t:Tok):(Bh prog w).is (B? i) Oa!=true:=Jd6 i t
theorem Zg(prog:Program)(w:World)(x:Str)(t:Tok):(Bh prog w).is (N? x) (AR! x t)=true:=Jd5 x t
inductive V where
 | FG|bl (b:Bool)|int (i:Int)|str (x:Str)|bM (b:Array UInt8)|pL (b:UInt64)|ref (a:Addr)|ty (n:String)
 deriving DecidableEq
def RelV:Uf V Value
 | .FG,u=>u=Value.none
 | .bl b,u=>u=Value.bool b
 | .int i,u=>T4!
 | .str x,u=>p6!
 | .bM b,u=>kF! Value.bytes
 | .pL b,u=>kF! Value.float
 | .ref a,u=>DE!
 | .ty n,u=>u=Value.type n
abbrev Vals:Uf C! Z!:=MO! RelV
theorem Vals.length(r:IH!):xs.length=us.length:=YY!
theorem Vals.get{xs:C!}{us:Z!}{i:Nat}{x:V}(p:IH!):GU!->∃u,us[i]?=some u/\F3!:=by induction p generalizing i with | nil=>intro e;simp at e | cons r _ ih =>intro e;cases i with | zero=>cases e;exact m? r | succ i=>exact ih e
theorem Vals.append{xs ys:C!}{us ws:Z!}(p:IH!)(q:Vals ys ws):Vals (xs++ys) (us++ws):=gR! p q (C? h ih)
def RN:Uf wE (Cs! Value)
 | some v,some u=>A9!
 | none,none=>True
 | _,_=>False
def KV{κ:Type}:Uf Ae! hn!:=MO! (λ(p:κ×V)(q:κ×Value)=>p.1=q.1/\BL! p.2 q.2)
def kV:Key->V
 | .inl i=>JM!
 | .inr x=>AY! x
inductive HO where
 | BF (xs:C!)
 | BE (xs:C!)
 | dK (kvs:Bx!)|dT (kvs:AF!)
 | set (S:Int->Bool) (n:Nat)
 | ins (C dx:Addr) (fs:By!)
 | own (x:Addr)
 | xd (fs:By!)
 | met (f x:Addr)
 | rj (lo hi:Int)
 | HK (o:Obj) (u:HO)
 | gR (ps:CS!)
 | ext (φ:Di! Heap)
abbrev Hp:=Addr->Cs! HO
def upd(H:Hp)(a:Addr)(o:HO):Hp:=λb=>TD (b=a) (w? o) (H b)
theorem Ab{H:Hp}{a:Addr}{o:HO}:upd H a o a=some o:=by unfold upd;rw[SL]
theorem Ac(h:b≠a):upd H a o b=H b:=by unfold upd;rw[BV!]
theorem Uz:upd Kh! a u=upd H a u:=by funext b;unfold upd;split<;>rfl
theorem Qs{H:Hp}{a b:Addr}{o u:HO}(h:ZS!)(h':vD!)(d:o≠u):a≠b:=by intro e;subst e;rw[h] at h';exact d (ZO h')
theorem Ak{H:Hp}{a b:Addr}{o:HO}(h:ZS!)(h':x?):a≠b:=by intro e;subst e;rw[h] at h';cases h'
universe S
variable (P:Program)(w:World)
def EB(H:Hp)(h:Heap)(a:Addr):Di! HO
 | .BF xs=>EE!/\∃(its:Z!)(n:Nat),TS!/\HO! (P2! vC! (Na! its.toArray))
 | .BE xs=>EE!/\∃its:Z!,TS!/\IsTup h a its.toArray
 | .dK kvs=>mh! (gS! (pt! h.DictOf))
 | .dT kvs=>mh! (∃xs:CX!,
  A6! (λ(p:List Key×V)(q:List Key×Addr×Value)=>p.1=q.1/\Ch K? (.BE (Wu! kV))/\BL! p.2 u?) kvs xs /\
  ∃o es ep,ZT!/\o.ExactDict/\Jj!/\oo! xs.map vV!/\k? xs.map)
 | .set S n=>h.SetOf (intKind P w) a S n
 | .ins C dx fs=>lF! dx/\fs.length<=1000/\dx≠a/\HO! (ne! dx) /\
  ∃mA,h.Ns1 dx mA/\(∀f,RN (fs.lookup f) (mA f))/\PySem.Within mA (Iu! fs.map)
 | .own _=>∃o,ZT!
 | .xd fs=>∃mA,h.Ns1 a mA/\∀f,RN (fs.lookup f) (mA f)
 | .rj lo hi=>∃t u v,HO! (KJ! CB! UP!)
 | .HK o u=>ZT!/\EB H h a u
 | .gR ps=>HO! (P2! F? (Hk! ps))
 | .met f x=>HO! (KR! W.methodObj RE!)
 | .ext φ=>φ h/\(∃o,ZT!)/\∀h1 h2:Heap,φ h1->(∀o,Cu! h1.get? o->Cu! h2.get? o)->φ h2
def OH(H:Hp)(h:Heap):Prop:=∀a o,ZS!->Ig! o
universe E
universe S
variable {P:Program}{w:World}{H H':Hp}{h h':Heap}{a:Addr}{o:HO}
theorem EB.lt(x:Ig! o):a<h.objs.size:=by cases o with | BF xs=>obtain⟨_,_,_,_,e⟩:=x;exact B1! | BE xs=>obtain⟨_,_,_,p⟩:=x;exact p.lt | dK kvs=>obtain⟨_,_,_,_,o,_,_,e,_⟩:=x;exact B1! | dT kvs=>obtain⟨_,_,_,_,o,_,_,e,_⟩:=x;exact B1! | set S n=>obtain⟨o,_,_,_,e,_⟩:=x;exact B1! | ins C dx fs=>obtain⟨_,_,_,e,_⟩:=x;exact B1! | own y=>obtain⟨_,e⟩:=x;exact B1! | xd fs=>obtain⟨_,⟨_,_,_,e,_⟩,_⟩:=x;exact B1! | rj lo hi=>obtain⟨_,_,_,e⟩:=x;exact B1! | HK ob u=>obtain⟨e,_⟩:=x;exact B1! | gR ps=>exact AO (op!) | met f y=>exact AO (op!) | ext φ=>obtain⟨_,⟨_,e⟩,_⟩:=x;exact B1!
theorem Joh{R:IU!}{S:Uf γ δ}{f:α->γ}{g:β->δ}(h:lB! (S (f a) (g b))){xs:N!}{ys:BU!}(p:Gj!):Fw! S (xs.map f) ys.map g:=by induction p with | nil=>exact S! | cons r _ ih=>exact Ge! (d! h r)
theorem Jk8{R:IU!}{S:Uf α δ}{g:β->δ}(h:lB! (S a (g b))){xs:N!}{ys:BU!}(p:Gj!):Fw! S xs ys.map g:=by induction p with | nil=>exact S! | cons r _ ih=>exact Ge! (d! h r)
theorem xo{R:IU!}{f:α->γ}{g:β->γ}(h:lB! (g b=f a)){xs:N!}{ys:BU!}(p:Gj!):ys.map g=xs.map f:=by induction p with | nil=>rfl | cons r _ ih=>rw[AJ,AJ,ih,G! h r]
theorem nq{R:IU!}{as cs:N!}{bs ds:BU!}(p:px!)(q:O9! cs ds):Paired R (as++cs) (bs++ds):=gR! p q (C? h ih)
theorem Jme{R:IU!}{xs:N!}{ys:BU!}(p:Gj!):∀j,Fw! R (xs.eraseIdx j) ys.eraseIdx j:=by induction p with | nil=>exact λ_=>S! | cons r t ih =>intro j;cases j with | zero=>exact t | succ j=>exact C? r (ih j)
theorem Jr6{F G:IU!}{YR:N!}{l₂:BU!}(p:CH! F YR l₂)(f:∀a b,F a b->G a b):CH! G YR l₂:=by induction p with | nil=>exact S! | cons r _ ih=>exact Ge! (d! f r)
theorem EB.OX(x:Ig! o)(k:ki! (b=a\/lF! b) v8!)(ho:∀b,lF! b->PD! (DV! a))(ht:∀b xs,ma! bL! xs):EB P w H' h' a o:=by induction o with | BF xs=>obtain⟨z,its,n,r,e⟩:=x;exact⟨z,its,n,r,Ew!⟩ | BE xs=>obtain⟨z,its,r,ob,e,c⟩:=x;exact⟨z,its,r,ob,Ew!,c⟩ | dK kvs=>obtain⟨z,y,vs,r,ob,es,ep,e,c⟩:=x;exact⟨z,y,vs,r,ob,es,ep,Ew!,c⟩ | dT kvs =>obtain⟨z,y,xs,r,ob,es,ep,e,c⟩:=x;exact⟨z,y,xs,Jr6 r λp q z=>⟨z.1,G! ht z.2.1,LX!⟩,ob,es,ep,Ew!,c⟩ | set S n=>obtain⟨ob,es,ep,t,e,c⟩:=x;exact⟨ob,es,ep,t,Ew!,c⟩ | ins C dx fs =>obtain⟨d,z,ne,e,mA,⟨od,es,ep,e2,c⟩,r⟩:=x;exact⟨ho _ d,z,ne,Ew!,mA,⟨od,es,ep,SF! d e2,c⟩,r⟩ | own y=>obtain⟨ob,e⟩:=x;exact A! ob Ew! | xd fs=>obtain⟨mA,⟨od,es,ep,e,c⟩,r⟩:=x;exact⟨mA,⟨od,es,ep,Ew!,c⟩,r⟩ | rj lo hi=>obtain⟨t,u,v,e⟩:=x;exact⟨t,u,v,Ew!⟩ | HK ob u ih=>obtain⟨e,q⟩:=x;exact A! Ew! (ih q) | gR ps =>have e:HO! (P2! F? (Hk! ps)):=x;show KB! (P2! F? (Hk! ps));exact k a _ HJ! e | met f y =>have e:HO! (KR! W.methodObj (V! y)):=x;show KB! (KR! W.methodObj (V! y));exact k a _ HJ! e | ext φ=>obtain⟨p,⟨o,e⟩,st⟩:=x;exact⟨v! st p (λo q=>v! k HJ! q),CO! Ew!,st⟩
theorem OH.lt(x:DS!)(e:ZS!):a<h.objs.size:=(x a o e).lt
theorem OH.fresh(x:DS!)(e:h.objs.size<=a):M1!:=by cases q:H a with | none=>rfl | some u=>exact J8! (BU (x.lt q) e)
theorem OH.kept(x:DS!)(k:mM!):OH P w H h':=λa o e =>(x a o e).OX (λb u _ q=>k b u q) (V4!) MJ!
theorem OH.laid(x:DS!)(k:mM!)(hp:h.objs.size<=a)(new:EB P w Kh! h' a o):OH P w Kh! h':=λb u e=>by have hn:=x.fresh hp;by_cases hb:b=a;(.subst hb;rw[Ab] at e;cases e;exact new);.rw[Du!] at e;exact(x b u e).OX (λc v _ q=>k c v q) (λc q=>nm!) λc xs q=>nm!
universe E
def Rd(H:Hp)(a:Addr)(u:HO):Prop:=Fd! u\/∃o,Fd! GY!
theorem Rd.ok(r:Rd H a u)(x:DS!):Ig! u:=by
 rcases r with r|⟨o,r⟩;.exact x a u r
 .obtain⟨_,q⟩:=x a _ r;exact q
def p8:Di! (Cs! HO)
 | some (.BF _)=>True
 | some (.dK _)=>True
 | some (.dT _)=>True
 | some (.set _ _)=>True
 | some (.ins _ _ _)=>True
 | some (.ext _)=>True
 | _=>False
universe S
variable {P:Program}{w:World}{H:Hp}{h h':Heap}{x e:Addr}{o':HO}
theorem OH.write(ok:DS!)(mu:p8 (H x))(he:e=x\/lG! e)(k:ki! (b≠e) v8!)(mY:∃u,j4! u)(new:EB P w (CI! x o') h' x o'):OH P w (CI! x o') h':=λb u q=>by (have qN:∀c y,Iv! c DV! y->c≠x:=λc y r z=>el! r mu);(have yi:∀c xs,O0! c xs->c≠x:=λc xs r z=>el! r mu);by_cases hb:b=x;(.subst hb;rw[Ab] at q;cases q;exact new);.rw[Du!] at q;by_cases kA:b=e;(·(have q':lG! b:=by rcases he with z|z;(.exact I8! kA.trans z hb);.rw[kA];exact z);rw[q] at q';cases q';obtain⟨v,hv⟩:=mY;exact Qe! v kA hv);·(refine(ok b u q).OX (λc v hc r=>k c v ?_ r) (λc r=>o! (qN c b r) r) λc xs r=>o! (yi c xs r) r);rcases hc with rfl|hc;(.exact kA);.rintro rfl;rcases he with z|z;(.exact qN c b hc z);.rw[hc] at z;cases z;exact hb rfl
universe E
structure Un(fs ex:J!)(H H':Hp)(h h':Heap):Prop where
 keep:KE (BW!->x?->b∉fs->b∉ex->PZ!)
 slot:KE (BW!->x?->b∈fs->b∉ex->or!)
 free:KE (BW!->x?->b∉ex->Le!)
 there:KE (BW!->b∉ex->∃o',G3! h'.get? o')
 QP:∀b xs,ma! bL! xs
 OL:∀b o u,Ch b GY!->PD! GY!
 QQ:∀b ps,Iv! b .gR ps->∃more,PD! (.gR (ps++more))
universe S
variable {fs gH ex ex':List Addr}{H H1 H2:Hp}{h h1 h2 h':Heap}{a x e:Addr}{o:HO}
theorem Un.any(u:dA! H1 h1)(q:J0! h.get?)(n:x?)(hx:b∉ex):∃sl,G3! h1.get? { ob with slots:=sl }:=by
 by_cases hb:b∈fs;.exact u.slot b ob q n hb hx
 .exact A! ob.slots (u.keep b ob q n hb hx)
theorem Un.kept(k:mM!):dA! H h' :=⟨λb ob q _ _ _=>k b ob q,λb ob q _ _ _=>A! ob.slots (k b ob q),λ_ _ _ n _=>n,λb ob q _=>A! ob (k b ob q),MJ!,λ_ _ _ q=>q,λ_ ps q=>A! (#[]) gY!⟩
theorem Un.refl:dA! H h:=Un.kept MJ!
theorem Un.laid(k:mM!)(hp:h.objs.size<=a)(hn:M1!):dA! Kh! h' where
 keep:=λb u q _ _ _=>k b u q
 slot:=λb u q _ _ _=>A! u.slots (k b u q)
 free:=λb u q n _=>I! (Ac (BK (BU (AO q) hp))) n
 there:=λb u q _=>A! u (k b u q)
 QP:=λb xs q=>nm!
 OL:=λb u xs q=>nm!
 QQ:=λb ps q=>A! (#[]) (by rw[Ac (Ak q hn),q];simp)
theorem Un.write(mu:p8 (H x))(he:e=x\/lG! e)(k:ki! (b≠e) v8!)(mY:∃u,j4! u):dA! (CI! x o) h':=by
 have hx:∀b,x?->b≠x:=λb n z=>el! n mu
 have hb:∀b,x?->b≠e:=λb n z=>by subst z;rcases he with r|r;(.exact hx b n r);.rw[n] at r;cases r
 have hm:∀b u,vD!->¬p8 (some u)->b≠x:=λb u q nm z=>el! q (nm mu)
 refine⟨λb u q n _ _=>k b u (hb b n) q,λb u q n _ _=>A! u.slots (k b u (hb b n) q),λb u q n _=>o! (hx b n) n,λb u q _=>?_,λb xs q=>VN! (hm b _ q Go!) q,λb u xs q=>VN! (hm b _ q Go!) q,λb ps q=>A! (#[]) (by rw[Ac (hm b _ q Go!),q];simp)⟩;by_cases kA:b=e;.subst kA;exact mY
 .exact A! u (k b u kA q)
universe E
def rV(h:Heap)(H:Hp):J!:=(List.range h.objs.size).filter λa=>(H a).isSome
def Wy(h:Heap)(H:Hp):Heap:=W.hideAll h (rV h H)
theorem Jea(h:Heap)(H:Hp):(Wy h H).objs.size=h.objs.size:=W.hideAll_size _ _
theorem Jhf(e:BW!)(n:x?):AI! (Wy h H).get? :=W.hideAll_get _ e λhm=>by have q:(H b).isSome=true:=Jb! hm;rw[n] at q;simp at q
theorem Jjt(e:AI! (Wy h H).get?):BW!/\x?:=by have e':BW!:=W.of_hideAll (rV h H) e;refine L? e';cases q:H b with | none=>rfl | some x =>have hm:b∈rV h H:=F5! (BB.mpr (AO e')) (by simp[q]);have z:Dk! (Wy h H).get?:=W.hideAll_none (rV h H) hm;rw[z] at e;cases e
def Jku(g h:Heap)(L:Addr):x!:=(List.range h.objs.size).filterMap λa=>if a=L\/(g.get? a).isSome=true then none else(h.get? a).map λo=>(a,o)
def rest(g h:Heap)(L d:Addr):x!:=(Jku g h L).filter λp=>p? (p.1≠d)
structure Mod(K:W.Frag)(mg:q?)(base:Heap):Prop where
 cI:K.In base
 glob:MF! base.Ns
 blt:∃mb,base.Ns builtinsNs mb/\∀x:Str,Qh!->mb x=bootBuiltins x
 nolimit:base.NoLimit
structure Cx(K:W.Frag) where
 prog:Program
 w:World
 mg:q?
 base:Heap
 A:Around
 N:P?
 HR:Shared
 VE:Hp
 env:Env
 outer:A7!
 stack:A7!
 ex:J!
 fn:Str->Bool
 calm:Bool
 pn:x!
 xe:M?
def QY(l:A7!):J!:=l.filterMap (·.frame)
abbrev Cx.fs(X:F!):J!:=QY X.outer
def xM(sc:Scope)(x:Str):Prop:=KV!\/l9!\/iI! sc.names.lookup
def Loc(sc:Scope)(x:Str):Prop:=KV!\/l9!
def Look(env:Env)(h:Heap)(m:q?)(x:Str)(u:Value):Prop :=
 (VB! env.kindOf/\Bk! m u)\/((Bk! env.kindOf Gp!\/iI! env.kindOf)/\∃c,U7! env.cells.lookup/\h.IsCell c (some u))
structure Cx.Ok(X:F!):Prop where
 mod:Mod Kx X.mg X.base
 kind:X.env.scope.kind=.function
 glob:X.env.globals=mainGlobals
 blt:X.env.builtins=builtinsNs
 above:X.HR.heap.objs.size<=X.env.locals
 inj:∀x y c,w2!->U! X.env.cells.lookup y c->x=y
 has:∀x,(Bk! X.env.kindOf Gp!\/iI! X.env.kindOf)->∃c,w2!
 gM:∀x c,X.fn x=true->w2!->X.HR.heap.objs.size<=c
 hd:Av!->X.A.handled=none
 frames:X.A.frames=w? X.stack
 gT:X.stack=X.outer\/(X.stack=MK!/\X.env.frame=w? X.env.locals)
 bG:∀b∈X.ex,H4!/\Z8!
 bs:mE! (AI! X.HR.heap.get?/\Dk! X.VE)
 cR:X.base.objs.size<=X.HR.heap.objs.size
 WB:mE! (b∉X.ex)
 T_:∀b∈X.ex,b∉X.fs
 MX:X.HR.heap.FunFrames X.base X.outer
 dz:∀b∈X.fs,Dk! X.VE
structure Inv(X:F!)(AA:x!)(σ:List (Option V))(H:Hp)(s:Shared):Prop where
 ok:X.Ok
 os:s.os=X.HR.os
 bare:AllBare s.gens
 base:Un X.fs X.ex X.VE H X.HR.heap s.heap
 loc:∃m,s.heap.Ns X.env.locals m/\∀(i:Nat)(x:Str)(v:V),KN!->RB! N0!->wH! xM->∃u,A9!/\Look X.env s.heap m x u
 cell:PY! (∃v,s.heap.IsCell c v)
 free:t? X.env.locals
 IY:PY! (t? c)
 pin:e6! (Fl! p.1 p.2/\t? p.1/\p.1≠X.env.locals/\p.1∉X.fs/\∀v,p.2.data≠bf!)
 DP:OH X.prog X.w H s.heap
 len:σ.length=X.N.length
universe S
variable {X:Cx Kx}{AA:List (Addr×Obj)}{σ:List (Option V)}{H H':Hp}{s:Shared}{h':Heap}
theorem Cx.Ok.yk(ok:X.Ok){b:Addr}{o:Obj}(e:AI! X.base.get?):b∉X.fs:=λhb=>ga! (ok.MX.mem hb).1 e
theorem Inv.bs(I:K!):mE! (CM!/\x?):=λb o e =>A! (I.base.keep b o (I.ok.bs b o e).1 (I.ok.bs b o e).2 (I.ok.yk e) (Dq! I.ok.WB)) (I.base.free b o (I.ok.bs b o e).1 (I.ok.bs b o e).2 (Dq! I.ok.WB))
theorem Inv.bk(I:K!):mE! CM!:=Aw! (I.bs b o e).1
theorem Inv.mod{X:F!}(I:K!):Mod Kx X.mg X.base:=I.ok.mod
theorem Inv.VW{X:F!}(I:K!):Kx.In s.heap:=I.ok.mod.cI.keeps I.bk
theorem Inv.lt(I:K!):X.env.locals<s.heap.objs.size:=let⟨_,hn,_⟩:=I.loc;hn.lt
theorem Inv.sz(I:K!):X.HR.heap.objs.size<=s.heap.objs.size:=A_ I.ok.above (DT I.lt)
theorem Inv.yj(I:K!)(h:WF!):a∉X.fs:=λhb=>by obtain⟨_,o,ho,_⟩:=I.ok.MX.mem hb;exact J8! (BU (AO ho) (A_ I.sz h))
theorem Inv.e_(I:K!):PY! (c≠X.env.locals):=λx c e z=>by obtain⟨v,o,ho,hd⟩:=bX!;obtain⟨m,⟨o',es,ep,g8,aH,_⟩,_⟩:=I.loc;rw[z,g8] at ho;cases ho;rw[aH] at hd;cases hd
theorem Inv.MX(I:K!):s.heap.FunFrames X.base X.outer:=by
 have all:∀(l:A7!),(∀b∈QY l,b∈X.fs)->X.HR.heap.FunFrames X.base l->s.heap.FunFrames X.base l:=by intro l;induction l with | nil=>intro _ _;trivial | cons env r ih =>intro hs hl;obtain⟨hk,⟨L,o,hf,hn,ho,hd⟩,hr⟩:=hl;have hL:L∈X.fs:=hs L (by unfold QY;rw[HC,hf];exact ZL);obtain⟨sl,e⟩:=I.base.slot L o ho (I.ok.dz L hL) hL λz=>I.ok.T_ L z hL;exact⟨hk,⟨L,_,hf,hn,e,hd⟩,ih (j? (hs b (by unfold QY;rw[HC,hf];exact ZD _ hb))) hr⟩
 exact all X.outer (λ_ hb=>hb) I.ok.MX
theorem Inv.stack(I:K!):s.heap.FunFrames X.base X.stack:=by
 rcases I.ok.gT with e|⟨e,hf⟩;.rw[e];exact I.MX
 .rw[e];obtain⟨m,hn,_⟩:=I.loc;refine C? (ew! I.ok.kind) hf hn ?_ I.MX;exact Heap.get?_none_of_le (A_ I.ok.cR I.ok.above)
theorem Inv.YX(I:K!):∀b∈QY X.stack,b∈X.env.locals::X.fs:=j? (by rcases I.ok.gT with e|⟨e,hf⟩;(.rw[e] at hb;exact ZD _ hb);.rw[e] at hb;unfold QY at hb;rw[HC,hf] at hb;exact hb)
theorem Inv.RY(I:K!):∀b∈QY X.stack,x?:=j? (by rcases ZM (I.YX b hb) with e|hb;(.rw[e];exact I.free);.obtain⟨_,o,ho,_⟩:=I.ok.MX.mem hb;exact I.base.free b o ho (I.ok.dz b hb) λz=>I.ok.T_ b z hb)
theorem Inv.step{g':Array GenState}{t':Nat}{d':Drawn}{ch:J!}(I:K!)(gG:∀b∈ch,pY!/\H4!/\(Z8!)/\lX!)(keep:KE (H4!->b∉X.fs->b∉ch->CM!->x?->PZ!))(slot:KE (H4!->b∈X.fs->b∉ch->CM!->x?->or!))(free:KE (b∉ch->CM!->x?->Le!))(there:KE (b∉ch->CM!->∃o',G3! h'.get? o'))(QP:∀b xs,ma! bL! xs)(OL:∀b o u,Ch b GY!->PD! GY!)(QQ:∀b ps,Iv! b .gR ps->∃more,PD! (.gR (ps++more)))(ns:∀m,s.heap.Ns X.env.locals m->h'.Ns X.env.locals m)(DP:r0! h')(hg:AllBare g') : wz! { s with heap:=h',gens:=g',drawn:=d',toks:=t' }:=by
 have neL:KE (AI! X.HR.heap.get?->H4!):=Aw! (BK (BU (AO e) I.ok.above));have sI:KE (AI! X.HR.heap.get?->b∉X.ex->b∉ch):=λb o e hx hb=>by rcases VL! gG with z|z;(.exact hx z);.exact J8! (BU (AO e) z)
 have cellK:PY! (∀v,s.heap.IsCell c v->h'.IsCell c v):=λx c e v ⟨o,ho,hd⟩=>by have oY:c∉ch:=λz=>(gG c z).2.2.1 x c e rfl;by_cases hc:c∈X.fs;(.obtain⟨sl,q⟩:=slot c o (I.e_ x c e) hc oY ho (I.IY x c e);exact WF q hd);.exact A2! (keep c o (I.e_ x c e) hc oY ho (I.IY x c e)) hd
 refine⟨I.ok,I.os,hg,oq! v0! (λb o e n hx=>?_) (λb xs e=>QP b xs (I.base.QP b xs e)) (λb o xs e=>OL b o xs (I.base.OL b o xs e)) (λb ps e=>?_),?_,λx c e=>?_,?_,λx c e=>?_,D0!,DP,I.len⟩;.exact keep b o (Dq! neL) hb rk! (I.base.keep b o e n hb hx) (s7! o)
 .obtain⟨sl,e1⟩:=mL!;obtain⟨um,e2⟩:=slot b _ (Dq! neL) hb rk! e1 (s7! o);exact A! um e2
 .obtain⟨o',e1⟩:=bn!;exact free b o' rk! e1 (s7! o)
 .obtain⟨o',e1⟩:=bn!;exact there b o' rk! e1
 .obtain⟨m1,e1⟩:=I.base.QQ b ps e;obtain⟨m2,e2⟩:=QQ b _ e1;exact A! (m1++m2) (I? e2 Array.append_assoc)
 .obtain⟨m,hn,hl⟩:=I.loc;refine⟨m,ns m hn,λi x v e1 e2 e3=>?_⟩;obtain⟨u,r,l⟩:=hl i x v e1 e2 e3;refine PP u r;rcases l with l|⟨k,c,e,z⟩;(.exact H! l);.exact mF! c (cellK x c e _ z)
 .obtain⟨v,z⟩:=bX!;exact A! v (cellK x c e v z)
 .obtain⟨m,⟨o,_,_,ho,_⟩,_⟩:=I.loc;exact free _ o (λz=>(gG _ z).2.1 rfl) ho I.free
 .obtain⟨v,o,ho,hd⟩:=bX!;exact free c o (λz=>(gG c z).2.2.1 x c e rfl) ho (I.IY x c e)
 .obtain⟨e,n,ne,nf,d⟩:=Sz!;have oY:p.1∉ch:=λz=>(gG p.1 z).2.2.2 p hp rfl;exact⟨keep p.1 p.2 ne nf oY e n,free p.1 p.2 oY e n,ne,nf,d⟩
theorem Inv.un(I:K!)(u:Un X.fs [] H H' s.heap h')(DP:r0! h'):wz! QJ!:=by obtain⟨m,⟨o,es,ep,ho,r⟩,_⟩:=id I.loc;obtain⟨sl,hL⟩:=u.any ho I.free (D?);exact I.step (g':=s.gens) (d':=s.drawn) (ch:=[]) (λ_ z=>WO!) (λb o _ hb _ e n=>u.keep b o e n hb be) (λb o _ hb _ e n=>u.slot b o e n hb be) (λb o _ e n=>u.free b o e n (D?)) (λb o _ e=>Br! u.there be) u.QP u.OL u.QQ (λm' hm=>by obtain⟨o',iA,kG,g8,r'⟩:=hm;rw[ho] at g8;cases g8;exact EO! iA kG hL r') DP I.bare
theorem Inv.call(I:K!)(u:oO! X.stack ch h')(DP:r0! h')(hg:AllBare g')(gG:∀b∈ch,pY!/\H4!/\(Z8!)/\lX!) : wz! { s with heap:=h',gens:=g',drawn:=d',toks:=t' }:=by obtain⟨m,⟨o,es,ep,ho,r⟩,_⟩:=id I.loc;obtain⟨sl,hL⟩:=u.any ho I.free λz=>(gG _ z).2.1 rfl;exact I.step (ch:=ch) gG (λb o hL hb hc e n=>u.keep b o e n (λz=>(ZM (I.YX b z)).elim hL hb) hc) (λb o _ _ hc e n=>u.any e n hc) (λb o hc e n=>u.free b o e n hc) (λb o hc e=>Br! u.there hc) u.QP u.OL u.QQ (λm' hm=>by obtain⟨o',iA,kG,g8,r'⟩:=hm;rw[ho] at g8;cases g8;exact EO! iA kG hL r') DP hg
theorem Inv.turned{t':Nat}{it:Addr}(I:K!)(k:li!)(hn:t? it)(hL:it≠X.env.locals)(h1:it∈X.ex\/X.HR.heap.objs.size<=it)(h2:PY! (c≠it))(h3:e6! (p.1≠it)):FN! QJ!:=by
 have nit:∀b u,vD!->b≠it:=λb u e z=>Pp! hn
 refine I.step (g':=s.gens) (d':=s.drawn) (ch:=[it]) (Bu! ?_) (λb o _ _ hc e _=>k b o (lV! hc) e) (λb o _ _ hc e _=>A! o.slots (k b o (lV! hc) e)) (λ_ _ _ _ n=>n) (λb o hc e=>CO! (k b o (lV! hc) e)) (e3!) (λ_ _ _ e=>e) (λb ps e=>A! (#[]) (Cl! e)) (λm hm=>?_) (W5!) I.bare;·(have e:b=it:=CC!);subst e;exact⟨h1,hL,h2,h3⟩
 .obtain⟨o,es,ep,ho,r⟩:=hm;exact⟨o,es,ep,k _ o (Ne.symm hL) ho,r⟩
 .refine bs! u (λc v hc q=>k c v ?_ q) V4! MJ!;rcases hc with z|z;(.rw[z];exact nit b u e);.exact nit c _ z
theorem Inv.tok(I:K!)(t:Nat):FN! { s with toks:=t }:=I.un (h':=s.heap) (t':=t) Un.refl I.DP
theorem Inv.kept(I:K!)(k:wJ! (G3! s.heap.get? u)):FN! QJ!:=I.un (Un.kept k) (I.DP.kept k)
theorem Inv.laid{a:Addr}{o:HO}{t':Nat}(I:K!)(k:wJ! (G3! s.heap.get? u))(hp:WF!)(new:ZQ! Kh! a o) : BI! Kh! QJ!:=I.un (Un.laid k hp (I.DP.fresh hp)) (I.DP.laid k hp new)
theorem Inv.write{x e:Addr}{o:HO}{t':Nat}(I:K!)(mu:p8 (H x))(he:e=x\/lG! e)(k:ki! (b≠e) (G3! s.heap.get? u))(mY:∃u,j4! u)(new:ZQ! (CI! x o) x o):BI! (CI! x o) QJ!:=I.un (Un.write mu he k mY) (I.DP.write mu he k mY new)
theorem Inv.cZ(I:K!)(h:∀p∈ak,Fl! p.1 p.2/\t? p.1/\p.1≠X.env.locals/\p.1∉X.fs/\∀v,p.2.data≠bf!):Inv X ak σ H s :=wY! I.ok (λp hp=>(ZI hp).elim (λz=>I.pin p (ZB _ z)) (h p))
theorem Qr{N:P?}(hN:N.Nodup){i j:Nat}{x:Str}(a:N[i]?=some x)(b:N[j]?=some x):i=j:=by obtain⟨h1,e1⟩:=ZJ a;obtain⟨h2,e2⟩:=ZJ b;exact(IU hN).mp (e1.trans e2.symm)
theorem Ta{M:Model}{A:Around}{E:M?}{i:Nat}{x:Str}{v:V}{u:Value}{Q:D9!}(I:K!)(hN:X.N.Nodup)(hi:KN!)(hx:mJ!)(r:A9!)(h:∀s',Inv X AA si! H s'->(∃a,u2! a s.heap s'.heap/\(a=X.env.locals\/Bk! X.env.cells.lookup a))->Q () s')(hf:on!:=by first|exact Fv!|exact X9!|assumption):L7! (storeName X.env x u):=by
 obtain⟨m,hn,hl⟩:=id I.loc;have bZ:bv (e5! .class || (e5! .module&&X.env.locals != X.env.globals)):=KM I.ok.kind
 have iZ:i<σ.length:=XC! I.len hi
 have e_:=I.e_;have tracked:∀{a:Addr} {h':Heap},(∃o,Yk! o/\M1!)->eg! a->OH X.prog X.w H h':=λ{a h'} ha hs b ob e=>by obtain⟨_,_,RA⟩:=ha;refine bs! ob (λc w' hc q=>(hs.2 c ?_).trans q) V4! MJ!;rintro rfl;rcases hc with rfl|hc;(.rw[RA] at e;cases e);.rw[RA] at hc;cases hc
 rcases hx with hk|hk;.refine wpAny_storeName_local hk hn (λh' vo hs=>?_) bZ;obtain⟨oL,_,_,hoL,_⟩:=id hn;refine h _ ⟨I.ok,I.os,I.bare,oq! v0! I.base.free I.base.QP I.base.OL I.base.QQ,WF vo (λj y v' e1 e2 e3=>?_),ML! ?_,I.free,I.IY,D0!,tracked ⟨oL,hoL,I.free⟩ hs,by simpa using I.len⟩ (WF hs Fv!);(.exact(hs.2 b (BK (BU (AO e) I.ok.above))).trans (wI! I.base.keep));(.obtain⟨sl,e1⟩:=mL!;exact qw! sl I.ok.above);(.obtain⟨o',e1⟩:=bn!;exact qw! o' I.ok.above);(.by_cases hj:j=i;(.subst hj;rw[hi] at e1;cases e1;rw[ET iZ] at e2;cases e2;exact⟨u,r,CL! hk D?⟩);.rw[ig! hj] at e2;obtain⟨u',r',q⟩:=hl j y v' e1 e2 e3;refine PP u' r';rcases q with⟨k,e⟩|⟨k,c,e,z⟩;(.refine X2! k;have:y≠x:=λe=>hj (Qr hN e1 (e▸hi));simp[this,e]);.exact mF! c q2!);(.obtain⟨w',z⟩:=I.cell y c e;exact A! w' q2!);.obtain⟨e,n,ne,nf,d⟩:=Sz!;exact⟨(hs.2 p.1 ne).trans e,n,ne,nf,d⟩
 ·(have vx:X.fn x=true:=by rcases hf with z|z;(.exact z);.rw[z] at hk;cases hk);obtain⟨c,hc⟩:=I.ok.has x (c? hk);obtain⟨w',z⟩:=I.cell x c hc;refine wpAny_storeName_cell I.ok.kind hk hc z (λh' wA hs=>?_);obtain⟨oc,mU,zI⟩:=id z;refine h GE ⟨I.ok,I.os,I.bare,oq! v0! I.base.free I.base.QP I.base.OL I.base.QQ,⟨m,hn.sameBut hs (Ne.symm (e_ x c hc)),λj y v' e1 e2 e3=>?_⟩,λy c' e=>?_,I.free,I.IY,D0!,tracked ⟨oc,mU,I.IY x c hc⟩ hs,by simpa using I.len⟩ ⟨c,hs,L! hc⟩;(.exact(hs.2 b (BK (BU (AO e) (I.ok.gM x c vx hc)))).trans (wI! I.base.keep));(.obtain⟨sl,e1⟩:=mL!;exact qw! sl (I.ok.gM x c vx hc));(.obtain⟨o',e1⟩:=bn!;exact qw! o' (I.ok.gM x c vx hc));(.by_cases hj:j=i;(.subst hj;rw[hi] at e1;cases e1;rw[ET iZ] at e2;cases e2;exact⟨u,r,Ld! (H! hk) c hc wA⟩);.rw[ig! hj] at e2;obtain⟨u',r',q⟩:=hl j y v' e1 e2 e3;refine PP u' r';rcases q with q|⟨k,c',e,z'⟩;(.exact H! q);.refine mF! c' (z'.sameBut hs ?_);rintro rfl;exact hj (Qr hN e1 (I.ok.inj _ _ _ e hc▸hi)));(.by_cases hcc:c'=c;(.subst hcc;exact e? wA);.obtain⟨w2,z2⟩:=I.cell y c' e;exact A! w2 (z2.sameBut hs hcc));.obtain⟨e,n,ne,nf,d⟩:=Sz!;refine⟨(hs.2 p.1 ?_).trans e,n,ne,nf,d⟩;intro q;rw[q,mU] at e;have q':oc=p.2:=ZO e;exact h2! d w' q' zI
theorem Pz{M:Model}{A:Around}{E:M?}{i:Nat}{x:Str}{v:V}{u:Value}{Q:D9!}(I:K!)(hN:X.N.Nodup)(hi:KN!)(hx:mJ!)(r:A9!)(h:l0! (Inv X AA si! H s'))(hf:on!:=by first|exact Fv!|exact X9!|assumption):L7! (storeName X.env x u) :=Ta I hN hi hx r (λs' I' _=>h s' I') hf
theorem Inv.cW{s':Shared}{ch:J!}(I:K!)(ho:s'.os=s.os)(u:oO! X.stack ch s'.heap)(DP:r0! s'.heap)(hg:S8!)(gG:∀b∈ch,pY!/\H4!/\(Z8!)/\lX!):KY!:=by obtain⟨h',g',d',t',o'⟩:=s';have e:o'=s.os:=ho;subst e;exact I.call (g':=g') (t':=t') (d':=d') u DP hg gG
universe E
abbrev XK:=Value->U3! GQ!
abbrev St:=List (Option V)
abbrev VK:=iH!
abbrev TE:=St->LY!
abbrev TT:=nV! Ja!
abbrev TA:=nV! JB!
structure Ends where
 nx:Ac!
 rt:VK
 bk:Ac!:=QM!
 ct:Ac!:=QM!
abbrev TS:=Ends->Ac!
inductive EP(X:F!)(AA:x!)(σ:St)(Q:VK)(u:Value)(s':Shared):Prop
 | mk v H' (_:KY!) (_:A9!) (_:NO!)
inductive TP(X:F!)(AA:x!)(σ:St)(Q:Ja!)(b:Bool)(s':Shared):Prop
 | mk H' (_:KY!) (_:Q b H')
inductive AP(X:F!)(AA:x!)(σ:St)(Q:JB!)(us:Z!)(s':Shared):Prop
 | mk vs H' (_:KY!) (_:KP!) (_:Q vs H')
def SP(X:F!)(AA:x!)(D:Ends)(f:Flow)(s':Shared):Prop :=
 match f with
 | .next=>Qj! (D.nx EV H')
 | .brk=>Qj! (D.bk EV H')
 | .cont=>Qj! (D.ct EV H')
 | .ret u=>∃v EV H',vi!/\A9!/\D.rt v H'
def PE(X:F!)(e:Expr)(t:TE):Prop :=
 ∀(AA:x!)(s:Shared)(σ:St)(H:Hp)(Q:VK),kM! (E9! (eval e X.env))
def PT(X:F!)(e:Expr)(t:TT):Prop :=
 ∀(AA:x!)(s:Shared)(σ:St)(H:Hp)(Q:Ja!),kM! (j5! (isTrue e X.env (eval e X.env)))
def PW(X:F!)(e:Expr)(t:TT):Prop :=
 ∀(whole:Sem Value)(AA:x!)(s:Shared)(σ:St)(H:Hp)(Q:Ja!),kM! (j5! (isTrue e X.env whole))
theorem tq(h:PW X e t):PT X e t:=h _
def PA(X:F!)(es:Jw!)(t:TA):Prop :=
 ∀(pos:Pos)(AA:x!)(s:Shared)(σ:St)(H:Hp)(Q:JB!),kM! (Ux! (spliced (ef! es)) (AP X AA σ Q))
def PS(X:F!)(st:Stmt)(t:TS):Prop :=
 ∀(AA:x!)(s:Shared)(σ:St)(H:Hp)(D:Ends),JT! (t D σ H) (Ux! (exec st X.env) (SP X AA D))
def RF(X:F!)(st:Xw!)(t:TS):Prop :=
 ∀(AA:x!)(s:Shared)(σ:St)(H:Hp)(D:Ends),JT! (t D σ H) (Ux! (execs st X.env) (SP X AA D))
theorem EK(h:L7! t)(hQ:∀a s,Q a s->Q' a s):wpAny M A t Q' E s:=EO h hQ fD!
universe S
variable {X:Cx Kx}
theorem bin{a b:Expr}{ta tb:TE}(ha:Ev!)(hb:Ib!){AA:x!}{s:Shared}{σ:St}{H:Hp}{R:V->iH!}(I:K!)(h:kk! (kn! (R x y H2))){α:Type}{Q:CG! α}{f:Value->Value->Sem α}(hf:∀v u s2 x y H2,BI! H2 s2->WL!->B3!->R x y H2->qC! s2) : NV! (VO! a) (λv EM=>Z3! (eval b X.env) (λu VZ=>qC! VZ) EM):=by refine HD! (t0! ha);rintro v s1 ⟨x,H1,I1,r1,q1⟩;refine jQ! hb;rintro u s2 ⟨y,H2,I2,r2,q2⟩;exact hf v u s2 x y H2 I2 r1 r2 q2
inductive Jpn(i:Nat)(σ:St)(H:Hp)(Q:VK):Prop
 | mk (v) (e0:RB! N0!) (e1:Q v H)
def B7(i:Nat):TE:=λσ H Q=>Jpn i σ H Q
def tC(v:V):TE:=λ_ H Q=>Q v H
theorem Jmf(hN:KN!)(hv:wH! xM)(hd:DU!:=by decide)(RE:bv (x==("__classdict__":Str)):=by decide):mB! B7 i:=by
 intro AA s σ H Q I h;obtain⟨v,e,h⟩:=h;obtain⟨m,hn,hl⟩:=I.loc;obtain⟨u,r,l⟩:=hl i x v hN e hv;have fin:mW! u:=⟨v,H,I,r,h⟩;rcases l with⟨hk,hm⟩|⟨hk,c,hc,LP⟩;.exact wpAny_Name (wpAny_loadName_local I.ok.kind hk hn hm fin) hd
 .rcases hk with hk|hk;(.exact wpAny_Name (wpAny_loadName_cell I.ok.kind hk hc LP fin) hd);.exact wpAny_Name (wpAny_loadName_free I.ok.kind hk hc LP fin RE) hd
theorem Ag:GP! WT! (GM i) j (tC (T! i)):=gc! wpAny_Constant_int ⟨JM!,H,JL!,ci,h⟩
theorem Gf:GP! WT! (Tk b) j (tC (.bl b)):=gc! Constant_bool (AA! (.bl b) H I h)
theorem Jmg:PE X (WT! F? j pos) (tC .FG):=gc! Constant_none (AA! .FG H I h)
theorem Bi:GP! WT! (AR! x) j (WE! x):=gc! Calls.Constant_str ⟨AY! x,H,JL!,ci,h⟩
def Gl(X:F!)(x:Str):Prop:=Bk! X.env.kindOf .globalImplicit
theorem Ir{E:M?}{AA:x!}{s:Shared}{σ:St}{H:Hp}{x:Str}{u:Value}{pos:Pos}{Q:M?}(I:K!)(hg:FC!)(hm:YW! u)(h:Q u s)(hd:DU!:=by decide):UO! (VO! wC!) :=Calls.Name_function_global I.ok.kind hg (Calls.loadGlobal_global (q! I.ok.glob (I.mod.glob.keeps I.bk)) hm h) hd
theorem Re(I:K!)(hg:FC!)(hm:mj!)(hv:Bk! bootBuiltins u)(h:Q u s)(hn:Qh!:=by decide)(hd:DU!:=by decide):UO! (VO! wC!):=by obtain⟨mb,h1,h2⟩:=I.mod.blt;exact Calls.Name_function_global I.ok.kind hg (Calls.loadGlobal_builtin (q! I.ok.glob (I.mod.glob.keeps I.bk)) hm (q! I.ok.blt (h1.keeps I.bk)) ((h2 x hn).trans hv) h) hd
theorem Ge{x:Str}{v:V}{u:Value}{pos:Pos}(hg:FC!)(hm:YW! u)(r:A9!)(hd:DU!:=by decide):mB! tC v :=λ_ _ _ H _ I h=>Ir I hg hm ⟨v,H,I,r,h⟩ hd
theorem Jjc{x:Str}{v:V}{u:Value}{pos:Pos}(hg:FC!)(hm:mj!)(hv:Bk! bootBuiltins u)(r:A9!)(hn:Qh!:=by decide)(hd:DU!:=by decide):mB! tC v :=λ_ _ _ H _ I h=>Re I hg hm hv ⟨v,H,I,r,h⟩ hn hd
def t2I(ta tb:TE)(k:Int->U3! Int):Ac!:=λσ H=>kk! (kn! (∃i j,Qk!/\XF!/\k i j H2))
variable {a b:Expr}{ta tb:TE}{pos:Pos}
def PC(X:F!)(op:CmpOp)(a b:Expr)(t:TE):Prop :=
 ∀(AA:x!)(s:Shared)(σ:St)(H:Hp)(Q:VK),gJ! (t σ H Q ->
  NV! (VO! a) (λv EM=>Z3! (eval b X.env) (λu VZ=>u9! (compareOp op v u) (EP X AA σ Q) VZ) EM))
theorem Y9(b:Expr)(h:op≠.In)(h2:op≠.NotIn):UI!:=by
 have e1:bv (op==CmpOp.In):=gd! mn!
 have e2:bv (op==CmpOp.NotIn):=gd! (GS! h2)
 cases b<;>simp[behindInMarks,e1,e2]
def kU(p:WM! Bool)(ta tb:TE):TE:=λσ H Q=>t2I ta tb (λi j H2=>Q (.bl (p i j)) H2) σ H
abbrev tLt:UK!:=bw! (i<j)
abbrev tLe:UK!:=bw! (i<=j)
abbrev tGt:UK!:=bw! (j<i)
abbrev tGe:UK!:=bw! (j<=i)
abbrev Jp4:UK!:=bw! (i=j)
abbrev Jrs:UK!:=kU λi j=>Lv! (i=j)
theorem Jmi{op:CmpOp}{p:WM! Bool}(ha:Ev!)(hb:Ib!)(rule:∀(i j:Int) (t u:Tok) (Q:M?) (s:Shared),mq! (p i j)->Ux! (compareOp op Oa! (T! j u)) Q):PC X op a b (kU p ta tb):=by intro AA s σ H Q I h;refine s3! bin ?_;obtain⟨i,j,rfl,rfl,q⟩:=q;obtain⟨t,rfl⟩:=rx;obtain⟨t',rfl⟩:=ry;exact rule i j t t' _ s2 (AA! (.bl _) H2 I2 q)
theorem Jmj(ha:Ev!)(hb:Ib!):PC X .Eq a b (Jp4 ta tb):=Jmi ha hb λ_ _ _ _ _ _ h=>eq_int (gW! Bool.beq_eq_decide_eq)
inductive ItB  (x:V) (H1:Hp) (Q:Ja!):Prop
 | mk (c) (e0:x=.bl c) (e1:Q c H1)
def tB(t:TE):TT:=w1! t (ItB  x H1 Q)
theorem Jmh(h:PC X op a b t)(h1:UI!:=by first|exact Y9 _ (l!) (l!)|rfl):VW! .Compare a [op] [b] t:=λAA s σ H Q I hw=>wpAny_Compare1 (a8! h hw) h1
theorem El(h:PC X op a b t)(h1:UI!:=by first|exact Y9 _ (l!) (l!)|rfl):PT X (.Compare a [op] [b] pos) (tB t):=by intro AA s σ H Q I hw;refine wpAny_isTrue_Compare1 (EK (h AA s σ H _ I hw) (ot! (λu s2 h2=>EK h2 λc s3 ⟨x,H1,I1,r1,q1⟩=>?_))) h1;obtain⟨d,rfl,q⟩:=q1;cases r1;exact LK ⟨H1,I1,q⟩
theorem F5(h:PE X e t)(he:∀whole,isTrue e X.env whole=(do let v <-whole;standAt e.pos;holding [v] (truthy v)):=by intro _;rfl):PT X e (tB t):=by
 intro AA s σ H Q I hw
 refine isTrue_plain (EK (h AA s σ H _ I hw) λv s1 ⟨x,H1,I1,r1,q1⟩=>?_) (he _)
 obtain⟨d,rfl,q⟩:=q1
 cases r1
 exact LK ⟨H1,I1,q⟩
variable {tA rW:TT}{rest:List Expr}
def Jp7(t u:TT):TT:=kd! (W1! (C4! u Q) (Q false H1))
def tOr(t u:TT):TT:=kd! (W1! (Q true H1) (C4! u Q))
def Jp1(t:TT):TT:=kd! (Q (!c) H1)
theorem Ji8(ha:br!):PW X (WV! .And [a] pos) tA:=by intro wh AA s σ H Q I h;refine isTrue_and (EK (a8! ha h) λc s1 e=>?_);cases c with | true=>exact isTrue_and_nil e | false=>exact e
theorem x_(ha:br!):PW X (WV! .Or [a] pos) tA:=by intro wh AA s σ H Q I h;refine isTrue_or (EK (a8! ha h) λc s1 e=>?_);cases c with | false=>exact isTrue_or_nil e | true=>exact e
theorem Jmd(ha:br!)(hb:mi! .And QO! rW):mi! .And (a::QO!) (Jp7 tA rW):=by intro wh AA s σ H Q I h;refine bD! isTrue_and;rintro c s1 ⟨H1,I1,q1⟩;cases c with | true=>exact hb wh AA s1 σ H1 Q I1 q1 | false=>exact⟨H1,I1,q1⟩
theorem xc(ha:br!)(hb:mi! .Or QO! rW):mi! .Or (a::QO!) (tOr tA rW):=by intro wh AA s σ H Q I h;refine bD! isTrue_or;rintro c s1 ⟨H1,I1,q1⟩;cases c with | true=>exact⟨H1,I1,q1⟩ | false=>exact hb wh AA s1 σ H1 Q I1 q1
theorem Vr(ha:br!):PT X (.UnaryOp .Not a pos) (Jp1 tA):=WW! (isTrue_not (EK (ha AA s σ H (λc H1=>Q (!c) H1) I h) λc s1 ⟨H1,I1,q1⟩=>⟨H1,I1,q1⟩))
def Jn4(ta tb:TE):TE:=Np! (∃c,x=.bl c/\W1! (C4! tb Q) (Q (.bl false) H1))
theorem Jf9(h:PE X a t):GP! WV! op [a] t:=λAA s σ H Q I hw=>BoolOp_one (a8! h hw)
theorem Jge(ha:Ev!)(hb:PE X (WV! .And (QO!) pos) tb):PE X (WV! .And (a::QO!) pos) (Jn4 ta tb):=by intro AA s σ H Q I h;refine bD! BoolOp_and;rintro v s1 ⟨x,H1,I1,r1,q1⟩;obtain⟨c,rfl,q1⟩:=q1;cases r1;refine LK ?_;cases c with | true=>exact dR! hb Q | false=>exact AA! (.bl false) H1 I1 q1
def tIf(t:TT)(ta tb:TE):TE:=kd! (W1! (C4! ta Q) (C4! tb Q))
theorem Yy(hc:PT X c tA)(ha:Ev!)(hb:Ib!):VW! .IfExp c a b (tIf tA ta tb):=by intro AA s σ H Q I h;refine wpAny_IfExp (wt! hc);rintro d s1 ⟨H1,I1,q1⟩;cases d with | true=>exact dR! ha Q | false=>exact dR! hb Q
universe E
def DS(K:W.Frag)(H:Hp)(a:Addr)(xs:C!):Prop :=
 Jc! a .BF xs \/
  ∃(o:Obj)(its:CS!)(n:Nat),Cu! K.lookup o/\o.cls=vC!/\o.dict=none/\o.data=Na! its/\its.size<=sizeLine/\Vals xs its.toList
def DL(K:W.Frag)(H:Hp)(a:Addr)(xs:C!):Prop :=
 Jc! a .BE xs \/
  ∃(o:Obj)(its:CS!)(n:Nat),Cu! K.lookup o/\XG!/\o.data=Na! its/\its.size<=sizeLine/\Vals xs its.toList
def Jrj:Value->Cs! V
 | .none=>w? .FG
 | .bool b=>Cr! .bl b
 | .int i _=>ut i
 | .str x _=>Cr! AR! x
 | .bytes b _=>Cr! .bM b
 | .float b _=>Cr! .pL b
 | .ref a=>He!
 | .type n=>Cr! .ty n
 | _=>none
theorem RelV.abs(r:F3!):U! Jrj u x:=by cases x with | FG=>cases r;rfl | bl _=>cases r;rfl | int _=>obtain⟨t,rfl⟩:=r;rfl | str _=>obtain⟨t,rfl⟩:=r;rfl | bM _=>obtain⟨t,rfl⟩:=r;rfl | pL _=>obtain⟨t,rfl⟩:=r;rfl | ref _=>cases r;rfl | ty _=>cases r;rfl
theorem RelV.inj(r:F3!)(q:B3!):x=y:=ZO (r.abs.symm.trans q.abs)
theorem Vals.inj{xs:C!}{us:Z!}(p:IH!):∀{ys:C!},U4! ys->xs=ys:=by induction p with | nil=>intro ys q;cases q;rfl | cons r t ih=>intro ys q;cases q with|cons r' t'=>rw[r.inj r',ih t']
universe S
variable {X:Cx Kx}{AA:List (Addr×Obj)}{σ:St}{H:Hp}{s:Shared}{a:Addr}{xs ys:List V}
theorem DS.of{K:W.Frag}(h:eV! a):II!:=R3!
theorem DL.of{K:W.Frag}(h:KF! xs):GW!:=R3!
theorem Inv.list{X:F!}(I:K!)(h:DS Kx H a xs):∃its:Z!,TS!/\PlainL s.heap a its.toArray/\EE!:=by
 rcases h with h|⟨o,its,n,hk,hc,hd,hs,hz,r⟩;.obtain⟨z,its,n,r,e⟩:=h.ok I.DP;exact⟨its,r,⟨_,n,e,rfl,rfl,rfl⟩,z⟩
 .refine⟨its.toList,r,⟨o,n,I.VW a o hk,hc,hd,by simpa using hs⟩,?_⟩;have e:=r.length;simp only[DE] at e;lia
theorem Inv.tuple{X:F!}(I:K!)(h:DL Kx H a xs):∃its:Z!,TS!/\IsTup s.heap a its.toArray/\EE!:=by
 rcases h with h|⟨o,its,n,hk,hc,hs,hz,r⟩;.obtain⟨z,its,r,p⟩:=h.ok I.DP;exact⟨its,r,p,z⟩
 .refine⟨its.toList,r,⟨o,I.VW a o hk,hc,n,by simpa using hs⟩,?_⟩;have e:=r.length;simp only[DE] at e;lia
theorem Inv.au{X:F!}(I:K!)(h:DS Kx H a xs)(h':DS Kx H a ys):xs=ys:=by
 obtain⟨its,r,⟨o,n,e,_,_,d⟩,_⟩:=I.list h;obtain⟨its',r',⟨o',n',e',_,_,d'⟩,_⟩:=I.list h';rw[e] at e';cases e';rw[d] at d';injection d' with d1 _;have:its=its':=Gs! (U8! Array.toList d1)
 subst this;exact r.inj r'
theorem Inv.dW{X:F!}(I:K!)(h:DL Kx H a xs)(h':DL Kx H a ys):xs=ys:=by
 obtain⟨its,r,⟨o,e,_,n,d⟩,_⟩:=I.tuple h;obtain⟨its',r',⟨o',e',_,n',d'⟩,_⟩:=I.tuple h';rw[e] at e';cases e';rw[d] at d';injection d' with d1 _;have:its=its':=Gs! (U8! Array.toList d1)
 subst this;exact r.inj r'
universe E
abbrev Cx.VY(X:F!)(E:M?):F!:={ X with xe:=E }
abbrev Cx.oU(X:F!):F!:=X.VY QM!
theorem Cx.Ok.VY{X:F!}(ok:X.Ok)(E:M?):(X.VY E).Ok :=nO!
theorem Cx.Ok.OB{X:F!}{E:M?}(ok:(X.VY E).Ok):X.Ok :=nO!
universe S
variable {X:Cx Kx}{AA:List (Addr×Obj)}{σ:St}{H:Hp}{s:Shared}{E:Value->Shared->Prop}
theorem Inv.VY(I:K!)(E:M?):q7! (X.VY E):=mX! I.ok.VY E I.pin
theorem Inv.OB(I:q7! (X.VY E)):K!:=wY! I.ok.OB I.pin
theorem SP.OB(h:SP (X.VY E) AA D f s'):SP X AA D f s':=by cases f with | next=>obtain⟨EV,H',I,q⟩:=h;exact⟨EV,H',I.OB,q⟩ | brk=>obtain⟨EV,H',I,q⟩:=h;exact⟨EV,H',I.OB,q⟩ | cont=>obtain⟨EV,H',I,q⟩:=h;exact⟨EV,H',I.OB,q⟩ | ret u=>obtain⟨v,EV,H',I,r,q⟩:=h;exact⟨v,EV,H',I.OB,r,q⟩
theorem RF.oU{st:Xw!}{t:TS}(h:RF X.oU st t):RF X st t:=λAA s σ H D I hw =>EO (h AA s σ H D (I.VY _) hw) (λ_ _ q=>q.OB) λ_ _ z=>False.elim z
universe E
universe S
variable {X:Cx Kx}{st:Stmt}{rest:List Stmt}{t u:TS}{e:Expr}{te:TE}{pos:Pos}
def uO:TS:=MN! (PF! H)
def Jn0(t u:TS):TS:=MN! (t { D with nx:=u D } σ H)
theorem Bb:RF X [] uO:=λ_ _ σ H _ I h=>PD (Ji! H I h)
theorem Ad(h1:PS X st t)(h2:RF X rest u):RF X (st::rest) (Jn0 t u):=by intro AA s σ H D I h;refine wpAny_execs_cons (EK (h1 AA s σ H { D with nx:=u D } I h) λf s1 q=>?_);cases f with | next =>obtain⟨EV,H',I',q⟩:=q;exact h2 AA s1 EV H' D I' q | ret v=>exact q | brk=>exact q | cont=>exact q
theorem Af(h1:PS X st t):RF X [st] t:=by intro AA s σ H D I h;refine wpAny_execs_cons (EK (h1 AA s σ H D I h) λf s1 q=>?_);cases f with | next=>exact PD q | ret v=>exact q | brk=>exact q | cont=>exact q
theorem Inv.quiet(I:K!):o? (interactive X.env):=by simp[interactive,I.ok.kind]
def Jn1(te:TE):TS:=Qo! te (λ_ H1=>PF! H1)
theorem A6(he:Z9!)(hs:rG! e none:=by rfl):PS X (.Expr e pos) (Jn1 te):=by intro AA s σ H D I h;exact wpAny_Expr_any (Y0! he (Ji! H1 I1 q1)) I.quiet hs
def Jp0(te:TE):TS:=Qo! te D.rt
theorem Ax(he:Z9!):PS X (.Return (some e) pos) (Jp0 te):=by intro AA s σ H D I h;exact wpAny_Return_some (Y0! he ⟨x,σ,H1,I1,r1,q1⟩)
def qC(c:TT)(t u:TS):TS:=Qo! c (λb H1=>TD (b=true) (t D σ H1) (u D σ H1))
theorem Bl(hc:PT X c tc)(ha:RF X a t)(hb:RF X b u):PS X (.If c a b pos) (qC tc t u):=by intro AA s σ H D I h;refine wpAny_If (wt! hc);rintro d s1 ⟨H1,I1,q1⟩;cases d with | true=>exact dR! ha D | false=>exact dR! hb D
universe E
abbrev TG:=V->St->Uf Hp (Ac!)
abbrev jR:=C!->St->Uf Hp (Ac!)
def PG(X:F!)(target:Expr)(t:TG):Prop :=
 ∀(AA:x!)(s:Shared)(σ:St)(H:Hp)(v:V)(u:Value)(Q:Ac!),JT! A9! (t v σ H Q ->
  NV! (assign target X.env u) (λ_ s'=>Qj! (Q EV H')))
def tY(X:F!)(ts:Jw!)(t:jR):Prop :=
 ∀(AA:x!)(s:Shared)(σ:St)(H:Hp)(vs:C!)(us:Z!)(Q:Ac!),JT! KP! (t vs σ H Q ->
  NV! (assignInOrder ((assignEach ts X.env).map pu) us) (λ_ s'=>Qj! (Q EV H')))
abbrev Jrt:=V->V->V->Uf Hp (Rq!)
abbrev TIp:=aC!
universe S
variable {X:Cx Kx}{pos:Pos}
def Jlg(i:Nat):TG:=λv σ H Q=>Q si! H
theorem Bk{i:Nat}{x:Str}(hN:X.N.Nodup)(hi:KN!)(hx:mJ!)(hf:on!:=by first|exact Fv!|exact X9!|assumption):PG X wC! (Jlg i):=by intro AA s σ H v u Q I r h;exact wpAny_assign_Name (Pz I hN hi hx r (λs' I'=>Dl! H I' h) hf)
def Jrg:jR:=λvs σ H Q=>vs=[]/\Q σ H
inductive Jnq(t:TG)(u:jR)(vs:C!)(σ:St)(H:Hp)(Q:Ac!):Prop
 | mk (v r) (e0:vs=v::r) (e1:t v σ H λEV H'=>u r EV H' Q)
def Jpb(t:TG)(u:jR):jR:=λvs σ H Q=>Jnq t u vs σ H Q
theorem Kj:tY X [] Jrg:=by intro AA s σ H vs us Q I r h;obtain⟨e,h⟩:=h;subst e;cases r;exact assignInOrder_nil (Ji! H I h)
theorem Ck(h1:PG X e t)(h2:tY X es u)(hs:(assignEach (e::es) X.env).map pu=assign e X.env::(assignEach es X.env).map pu:=by rfl):tY X EV! (Jpb t u):=by intro AA s σ H vs us Q I r h;obtain⟨v,vr,e1,h⟩:=h;subst e1;cases r with | cons r rr =>rw[hs];refine assignInOrder_cons (EK (h1 AA s σ H _ _ _ I r h) ?_);rintro _ s1 ⟨bz,H1,I1,q1⟩;exact h2 AA s1 bz H1 _ _ Q I1 rr q1
inductive Jpx(K:W.Frag)(n:Nat)(t:jR)(v:V)(σ:St)(H:Hp)(Q:Ac!):Prop
 | mk (a xs) (e0:Wx!) (e1:GW!) (e2:xs.length=n) (e3:t xs σ H Q)
def Jrf(K:W.Frag)(n:Nat)(t:jR):TG:=λv σ H Q=>Jpx K n t v σ H Q
theorem Nl{X:F!}{es:Jw!}{k:Nat}{t:jR}{n:Nat}(hc:Av!)(h:tY X es t)(hn:(assignEach es X.env).length=n:=by rfl)(o5:b? (assignEach es X.env).findIdx?=none:=by rfl):PG X (.Tuple es k pos) (Jrf Kx n t):=by intro AA s σ H v u Q I r hw;obtain⟨a,xs,e1,hq,hl,hw⟩:=hw;subst e1;cases r;obtain⟨its,rv,ht,hz⟩:=Ru!;refine assign_Tuple_tuple Gh! ht (by simp[hn,<-hl,rv.length]) o5 λh' hx=>?_;have I1:J1!:=I.kept (t':=s.toks) (Aw! (hx b o lm! e));exact h AA _ σ H xs _ Q I1 (by simpa using rv) hw
def Jn3(te:TE)(g:TG):TS:=MN! (te σ H λx H1=>g x σ H1 D.nx)
theorem Jf2(he:Z9!)(hg:PG X tg g)(hs:swapsWithSole [tg] e pos.line X.env=pure false:=by rfl)(hw:swappedStores [tg] e X.env=pure none:=by rfl)(h1:(assignEach [tg] X.env).map pu=[assign tg X.env]:=by rfl):nx! [tg] e (Jn3 te g):=by intro AA s σ H D I h;refine wpAny_Assign_stores SV! hs hw;rintro v s1 ⟨x,H1,I1,r1,q1⟩;rw[h1];exact EK (hg AA s1 σ H1 x v _ I1 r1 q1) λ_ s2 q=>q
theorem Au{i:Nat}{x:Str}{e:Expr}{te:TE}{pos':Pos}(hN:X.N.Nodup)(hi:KN!)(hx:mJ!)(he:Z9!)(hs:rG! e (np! x pos'):=by rfl)(hf:on!:=by first|exact Fv!|exact X9!|assumption) : nx! [Gr! x pos'] e (Jn3 te (Jlg i)):=by intro AA s σ H D I h;refine wpAny_Assign_Name SV! hs;rintro v s1 ⟨y,H1,I1,r1,q1⟩;exact Pz I1 hN hi hx r1 (λs2 I2=>Dl! H1 I2 q1) hf
inductive Jlr(c:TT)(tb:TS)(D:Ends)(σ:L2.St)(H:Hp):Prop
 | mk (W:iX!) (_:(∃m,W m σ H)) (_:∀m σ H,W m σ H->c σ H λb H1=>TD (b=true) (∃N:Ac!,(∀EV H',N EV H'->∃m',m'<m/\W m' EV H')/\tb { D with nx:=N,ct:=N,bk:=D.nx } σ H1) (PF! H1))
theorem Lz(hp:PassesOwn Kz! X.A X.env X.xe)(hc:PT X c tc)(hb:RF X body tb):PS X (.While c body [] pos) (Jlr tc tb):=by intro AA s σ H D I h;obtain⟨W,⟨m0,w0⟩,turn⟩:=h;refine wpAny_While (codeAny_whileLoop (λn s'=>Qj! (W n EV H')) ?_ m0 (Ji! H I w0));rintro n s1 ⟨bz,H1,I1,w1⟩;refine nJ! (hc AA s1 bz H1 _ I1 (turn n bz H1 w1));rintro b s2 ⟨H2,I2,q2⟩;cases b with | true =>obtain⟨N,hN,q2⟩:=q2;rw[SL];refine II hp (EK (hb AA s2 bz H2 _ I2 q2) λf s3 q3=>?_);(cases f with | next =>obtain⟨dZ,H3,I3,n3⟩:=q3;obtain⟨m',hm,w3⟩:=hN dZ H3 n3;exact⟨m',hm,dZ,H3,I3,w3⟩ | cont =>obtain⟨dZ,H3,I3,n3⟩:=q3;obtain⟨m',hm,w3⟩:=hN dZ H3 n3;exact⟨m',hm,dZ,H3,I3,w3⟩ | brk=>exact q3 | ret v=>exact q3) | false =>rw[AB AS];exact PD ⟨bz,H2,I2,q2⟩
universe E
structure It where
 go:U3! Nat
 aM:Nat->Hp->iH!
 stop:U3! Nat
def Lf(X:F!)(AA:x!)(H:Hp)(b:Addr):Prop :=
 x?/\H4!/\b∉X.fs/\pY!/\(Z8!)/\lX!
theorem Inv.bf(I:K!)(hb:s.heap.objs.size<=b)(hn:Le!):Lf X AA H' b:=by
 refine⟨hn,ER (BU I.lt hb),I.yj hb,L! (A_ I.sz hb),λx c e z=>?_,λp hp z=>?_⟩;.obtain⟨v,q⟩:=bX!;exact J8! (BU q.lt (YH! hb))
 .exact J8! (BU (AO (I.pin p hp).1) (YH! hb))
structure Turn(P:Program)(w:World)(K:W.Frag)(tg:Expr)(J:It)(fp:J!)(it:Addr)(tn:ku!):Prop where
 mem:it∈fp
 obj:∀i h,tn i h->CD! (∃o,BW!/\∀v,o.data≠bf!)
 keep:∀i h h',tn i h->(CD! (∀o,BW!->PZ!))->tn i h'
 item:rS! Av! (∀(i:Nat)(AA:x!)(s:Shared)(σ:St)(H:Hp)(E:M?),qY! (J.go i H ->
  st! (∃u,r=w? u /\
   wpAny (model P w) X.A (letOwnedTupleGo tg CR! u) (λ_ s2=>∃x H',kA!/\F3!/\J.aM i H x H'/\tn (U?) s2.heap/\XJ!) E s1)))
 done:rS! Av! (∀(i:Nat)(AA:x!)(s:Shared)(σ:St)(H:Hp)(E:M?),qY! (J.stop i H ->
  st! (r=none/\FN! s1)))
 self:∀(A:Around)(i:Nat)(s:Shared)(Q:M?)(E:M?),tn i s.heap->Is it s->wm! P (C5! pyIter it)
abbrev TI:=nV! Rk!
inductive PIE(X:F!)(AA:x!)(σ:St)(tg:Expr)(R:Rk!)(mR:Value)(s2:Shared):Prop
 | mk (it:Addr) (fp:J!) (tn:ku!) (J:It) (H':Hp) (_:mR=i! it) (_:kA!) (_:Turn X.prog X.w Kx tg J fp it tn) (_:tn 0 s2.heap) (_:(CD! (Lf X AA H' b))) (_:R J H')
def PI(X:F!)(tg iter:Expr)(wi:TI):Prop :=
 ∀(AA:x!)(s:Shared)(σ:St)(H:Hp)(R:Rk!),gJ! (wi σ H R ->
  NV! Zp! (λv s1=>u9! (pyIter v) (PIE X AA σ tg R) s1))
theorem T6{M:Model}{A:Around}{E:M?}{s:Shared}{tg:Expr}{it:Addr}{u:Value}{o:Obj}{n:String}{vs:CS!}{Q:D9!}(ho:Fl! it o)(hc:o.cls=Iw! n)(hd:o.data=Hk! vs)(hn:o? (["enumerate","zip",Ik!,"dict_reverseitemiterator","odict_iterator","itertools.zip_longest","itertools.pairwise"].contains n))(hQ:Q () s):L7! (letOwnedTupleGo tg CR! u):=by unfold letOwnedTupleGo;cases tg<;>first | exact ZS hQ | (cases u<;>first | exact ZS hQ | (refine No! wpAny_load ho;rw[hc,hd];show L7! (QS! (Ix (["enumerate","zip",Ik!,"dict_reverseitemiterator","odict_iterator","itertools.zip_longest","itertools.pairwise"].contains n&&vs[0]?==Cr! rawInt _)) _ _);rw[AB (by intro h;rw[hn,Bool.false_and] at h;cases h)];exact ZS hQ))
def dF(K:W.Frag)(a:Addr):It :=
 b7! (λi H=>∃xs x,II!/\GU!) (∀xs,II!->GU!) (λi H=>∃xs,II!/\xs.length<=i)
def fF(K:W.Frag)(a:Addr):It :=
 b7! (λi H=>∃xs x,GW!/\GU!) (∀xs,GW!->GU!) (λi H=>∃xs,GW!/\xs.length<=i)
def gO(lo:Int)(n:Nat):It:=b7! (λi _=>i<n) (x=T! (lo+i)) (λi _=>n<=i)
theorem Jdd{P:Program}{w:World}{K:W.Frag}{tg:Expr}(a it:Addr):dd! (dF K a) (h.IsListIter it a i) where
 mem:=D?
 obj:=QT! (by
  have e:b=it:=CC!
  subst e
  obtain⟨o,e,c,d⟩:=st
  exact Er! (XL! d))
 keep:=fi! (k8! st.at k it)
 item:=by
  intro X hP hw hc i AA s σ H E I hf st hg
  subst hP hw
  obtain⟨xs,x,hq,hx⟩:=hg
  obtain⟨its,rv,p,hz⟩:=IA!
  obtain⟨u,hu,ru⟩:=rv.get hx
  obtain⟨f0,f1,f2,f3,f4,f5⟩:=E4!
  refine wpAny_pyNext_list_item st p.isList (x:=u) (QU!) gi!
  have I1:J1!:=Vr! (Ax! ((sb.2 b hb).trans e))
  obtain⟨o,e,c,d⟩:=id RS
  exact Eb! u (og! d x ru (s? (λys hy=>I! (I.au hy hq) hx)))
 done:=by
  intro X hP hw hc i AA s σ H E I hf st hg
  subst hP hw
  obtain⟨xs,hq,hx⟩:=hg
  obtain⟨its,rv,p,hz⟩:=IA!
  obtain⟨f0,f1,f2,f3,f4,f5⟩:=E4!
  have hl:=rv.length
  exact wpAny_pyNext_list_end Gh! st p.isList (WY!) qt!
 self:=Tm! wpAny_pyIter_listiter
theorem Jad{P:Program}{w:World}{K:W.Frag}{tg:Expr}(a it:Addr):dd! (fF K a) (h.IsTupleIter it a i) where
 mem:=D?
 obj:=QT! (by
  have e:b=it:=CC!
  subst e
  obtain⟨o,e,c,d⟩:=st
  exact Er! (XL! d))
 keep:=fi! (k8! st.at k it)
 item:=by
  intro X hP hw hc i AA s σ H E I hf st hg
  subst hP hw
  obtain⟨xs,x,hq,hx⟩:=hg
  obtain⟨its,rv,p,hz⟩:=Ru!
  obtain⟨u,hu,ru⟩:=rv.get hx
  obtain⟨f0,f1,f2,f3,f4,f5⟩:=E4!
  refine wpAny_pyNext_tuple_item st (show s.heap.IsTuple a its.toArray from p) (x:=u) (QU!) gi!
  have I1:J1!:=Vr! (Ax! ((sb.2 b hb).trans e))
  obtain⟨o,e,c,d⟩:=id RS
  exact Eb! u (og! d x ru (s? (λys hy=>I! (I.dW hy hq) hx)))
 done:=by
  intro X hP hw hc i AA s σ H E I hf st hg
  subst hP hw
  obtain⟨xs,hq,hx⟩:=hg
  obtain⟨its,rv,p,hz⟩:=Ru!
  obtain⟨f0,f1,f2,f3,f4,f5⟩:=E4!
  have hl:=rv.length
  exact wpAny_pyNext_tuple_end Gh! st (show s.heap.IsTuple a its.toArray from p) (WY!) qt!
 self:=Tm! wpAny_pyIter_tupleiter
theorem Jae{P:Program}{w:World}{K:W.Frag}{tg:Expr}(it:Addr)(lo:Int)(n:Nat):dd! (gO lo n) (IsRangeIter h it (lo+(i:Nat)*1) (RG!-(i:Nat)) 1) where
 mem:=D?
 obj:=QT! (by
  have e:b=it:=CC!
  subst e
  exact WF st (λv z=>by
   have z':Data.fields _=Data.cell v:=z
   cases z'))
 keep:=fi! (k it be _ st)
 item:=by
  intro X hP hw hc i AA s σ H E I hf st hg
  subst hP hw
  obtain⟨f0,f1,f2,f3,f4,f5⟩:=E4!
  have W:=Walks.range (prog:=X.prog) (w:=X.w) Gh! it lo 1 n
  refine W.item i s _ _ hg st λv h' tk hv RS kk=>?_
  obtain⟨t,rfl⟩:=hv
  have I1:FN! { s with heap:=h',toks:=tk }:=I.turned (Px! kk (CC!)) f0 f1 f3 f4 f5
  refine m? (T6 (s:={ s with heap:=h',toks:=tk }) (n:="range_iterator") RS rfl rfl (l!) ⟨T! (lo+i),H,I1,L? t,C9!,RS,V7! hf⟩)
  rw[Int.mul_one]
 done:=by
  intro X hP hw hc i AA s σ H E I hf st hg
  subst hP hw
  obtain⟨f0,f1,f2,f3,f4,f5⟩:=E4!
  exact wpAny_pyNext_range_end Gh! st (by have:n<=i:=hg;lia) qt!
 self:=Tm! wpAny_pyIter_rangeiter
universe S
variable {X:Cx Kx}{tg:Expr}
def Joz(K:W.Frag)(tl:TE):TI:=XM! tl (∃a,Ap!/\(∃xs,at! H1)/\R (dF K a) H1)
def Jq8(K:W.Frag)(tl:TE):TI:=XM! tl (∃a,Ap!/\(∃xs,DL K H1 a xs)/\R (fF K a) H1)
theorem Ee{X:F!}{l:Expr}{tl:TE}(hl:PE X l tl):N8! l (Joz Kx tl):=by
 intro AA s σ H R I h;refine bN!;rintro v s1 ⟨x,H1,I1,r1,q1⟩;obtain⟨a,e,⟨xs,hq⟩,q⟩:=q1;subst e;cases r1;obtain⟨its,rv,p,hz⟩:=I1.list hq;refine wpAny_pyIter_list p.isList ?_;refine oU! _ H1 (aS! I1.kept GB!) (Jdd a _) q;have e:Wb!:=CC!
 subst e;exact qu!
theorem Gu{X:F!}{l:Expr}{tl:TE}(hl:PE X l tl):N8! l (Jq8 Kx tl):=by
 intro AA s σ H R I h;refine bN!;rintro v s1 ⟨x,H1,I1,r1,q1⟩;obtain⟨a,e,⟨xs,hq⟩,q⟩:=q1;subst e;cases r1;obtain⟨its,rv,p,hz⟩:=I1.tuple hq;refine wpAny_pyIter_tuple (show s1.heap.IsTuple a its.toArray from p) ?_;refine oU! _ H1 (aS! I1.kept GB!) (Jad a _) q;have e:Wb!:=CC!
 subst e;exact qu!
theorem Ys{AA:x!}{σ:St}{H:Hp}{s:Shared}{R:Rk!}{E:M?}{lo hi:Int}{t u v:Tok}{tk:Nat}(I:K!)(h1:bG!<=lo)(h2:lo<2 ^ 62)(h3:bG!<=hi)(h4:hi<2 ^ 62)(q:R (gO lo jn!) H):wpAny (model X.prog X.w) X.A (C5! pyIter s.heap.objs.size) (PIE X AA σ tg R) E { s with heap:=lM! CB! UP!,toks:=tk }:=by
 refine wpAny_pyIter_range (IsRange.new ..) (small_one h1 h2 h3 h4) ?_;have I1:FN! { s with heap:=lM! CB! UP!,toks:=tk }:=I.kept GB!;refine⟨(s.heap.push (KJ! CB! UP!)).objs.size,[(s.heap.push (KJ! CB! UP!)).objs.size],_,_,H,rfl,I1.kept (t':=tk) GB!,Jae _ lo jn!,?_,JQ!,q⟩;·(have e1:lo+ie!*1=lo:=D?);(have e2:Bn! jn!-ie!=Builtin.Range.rangeSize lo hi 1:=by rw[rangeSize_one];split<;>lia);show IsRangeIter _ _ (lo+ie!*1) (Bn! jn!-ie!) 1;rw[e1,e2];exact CN!
 ·(have e:b=(s.heap.push (KJ! CB! UP!)).objs.size:=CC!);subst e;exact qu!
def Joy(ta:TA):TI:=λσ H R=>ta σ H λvs H1=>∃j:Int,vs=[g! j]/\bG!<=j/\j<2 ^ 62/\R (gO 0 j.toNat) H1
def Jox(ta:TA):TI:=λσ H R=>ta σ H λvs H1=>∃i j:Int,vs=[JM!,g! j]/\(bG!<=i/\i<2 ^ 62/\bG!<=j/\j<2 ^ 62)/\R (gO i (CQ! (j-i))) H1
theorem F1{a:Expr}{ta:TA}{p pos:Pos}(hg:Gl X CB!)(hm:Ay! X.mg CB!)(ha:PA X [a] ta)(hs:gO! [a] [(false,U1! a)]:=by rfl):N8! (.Call (Gr! CB! p) [a] [] pos) (Joy ta):=by intro AA s σ H R I h;refine Call_ (Re I hg hm boot_range (OF (mV! ?_) hs rfl));obtain⟨j,e,q1,q2,q⟩:=q1;subst e;cases r1 with | cons r rr =>cases rr;obtain⟨t,rfl⟩:=r;exact call_range_1 (Ys I1 E! E! q1 q2 (by simpa using q))
theorem Jdq(hg:Gl X CB!)(hm:Ay! X.mg CB!)(ha:PA X [a,b] ta)(hs:gO! [a,b] [(false,U1! a),(false,U1! b)]:=by rfl)(SE:gO! [b] [(false,U1! b)]:=by rfl) : N8! (.Call (Gr! CB! p) [a,b] [] pos) (Jox ta):=by intro AA s σ H R I h;refine Call_ (Re I hg hm boot_range (OF (mV! ?_) (I? hs SE) (KM SE)));obtain⟨i,j,e,⟨q1,q2,q3,q4⟩,q⟩:=q1;subst e;cases r1 with | cons r rr =>cases rr with | cons r' rr =>cases rr;obtain⟨t,rfl⟩:=r;obtain⟨t',rfl⟩:=r';exact call_range_2 (Ys I1 q1 q2 q3 q4 q)
def Jp3(wi:TI)(g:TG)(tb:TS):TS:=Qo! wi (λJ H1=>∃W:Nat->Nat->Ac!,(∃m,W 0 m σ H1)/\∀i m σ H,W i m σ H ->
 UR! J.stop J.go Ac! J.aM)
def Nk(fp:J!)(h:Heap):x!:=fp.filterMap λb=>(h.get? b).map λo=>IY!
theorem Fh(hb:b∈fp)(e:BW!):IY!∈Nk fp h:=JK.mpr ⟨b,hb,KM e⟩
theorem Jd0(hp:p∈Nk fp h):p.1∈fp/\El! p.1 p.2:=by obtain⟨b,hb,e⟩:=JK.mp hp;cases q:h.get? b with | none=>rw[q] at e;cases e | some o =>rw[q] at e;have e':IY!=p:=ZO e;subst e';exact A! hb q
theorem Inv.pinned(I:K!)(hf:CD! (Lf X AA H b))(ho:CD! (∃o,CM!/\∀v,o.data≠bf!)):Inv X (AA++Nk fp s.heap) σ H s :=I.cZ λp hp=>(ZI hp).elim (λz=>I.pin p (ZC _ z)) λz=>by obtain⟨hb,e⟩:=Jd0 z;obtain⟨f0,f1,f2,_⟩:=hf p.1 hb;obtain⟨o,e',d⟩:=ho p.1 hb;rw[e] at e';cases e';exact⟨e,f0,f1,f2,d⟩
theorem Inv.JR(I:Inv X (AA++pl) σ H s):K!:=I.cZ λp hp=>I.pin p (ZC _ (ZB _ hp))
theorem De(hp:PassesOwn Kz! X.A X.env X.xe)(hc:Av!)(hi:N8! iter wi)(hg:PG X tg g)(hb:RF X body tb)(hs:∀x,foldedSetIterable iter X.env x=pure x:=by intro _;rfl):PS X (.For tg iter body [] pos) (Jp3 wi g tb):=by
 intro AA s σ H D I h;refine wpAny_For (Uv! hi (ot! (λmR s2 h2=>?_))) hs;obtain⟨it,fp,tn,J,H2,e,I2,T,f9,f2,W,⟨m0,w0⟩,turn⟩:=h2;subst e;have SH:∀{H':Hp},(XJ!)->XK! H':=λhn b hb=>A! (B4! hn) (f2 b hb).2;refine codeAny_forLoop_any (λn s'=>∃i EV H',pb! vi! s'.heap (W i n EV H')) ?_ m0 ⟨0,σ,H2,I2,f9,V7! f2,w0⟩;rintro n s3 ⟨i,dZ,H3,I3,i8,RT,w3⟩;rcases turn i n dZ H3 w3 with⟨stop,qn⟩|⟨go,N,hN,step⟩;.refine nJ! (T.done X rfl rfl hc i AA s3 dZ H3 X.xe I3 (SH RT) i8 stop);rintro r s4 ⟨hr,I4⟩;subst hr;exact PD ⟨dZ,H3,I4,qn⟩
 .refine nJ! (T.item X rfl rfl hc i AA s3 dZ H3 X.xe I3 (SH RT) i8 go);rintro r s4 ⟨u,hr,h4⟩;subst hr;refine II hp (EK h4 ?_);rintro _ s5 ⟨x,H5,I5,r5,y5,eJ,bF⟩;have I5':=I5.pinned (SH bF) (d! T.obj eJ);refine nJ! (hg _ s5 dZ H5 x u _ I5' r5 (step x H5 y5));rintro _ s6 ⟨σ6,H6,I6,q6⟩;refine II hp (EK (hb _ s6 σ6 H6 _ I6 q6) λf s7 q7=>?_);(have again:∀{eI:St} {H7:Hp},Inv X (AA++Nk fp s5.heap) eI H7 s7->N eI H7->∃m,m<n/\∃i EV H',pb! (u7! H' s7) s7.heap (W i m EV H'):=λ{eI H7} I7 n7=>by obtain⟨m',hm,w7⟩:=hN eI H7 n7;refine⟨m',hm,U?,eI,H7,I7.JR,T.keep _ _ _ eJ λb hb o e=>(I7.pin IY! (ZC _ (ZC _ (Fh hb e)))).1,JQ!,w7⟩;obtain⟨o,e,d⟩:=T.obj _ _ eJ b hb;exact(I7.pin IY! (ZC _ (ZC _ (Fh hb e)))).2.1);cases f with | next=>obtain⟨eI,H7,I7,n7⟩:=q7;exact again I7 n7 | cont=>obtain⟨eI,H7,I7,n7⟩:=q7;exact again I7 n7 | brk=>obtain⟨eI,H7,I7,q7⟩:=q7;exact⟨eI,H7,I7.JR,q7⟩ | ret v=>obtain⟨x7,eI,H7,I7,r7,q7⟩:=q7;exact⟨x7,eI,H7,I7.JR,r7,q7⟩
universe E
theorem J8{K:W.Frag}{a:Addr}{xs:C!}{g:TG}{tb:TS}{D:Ends}{σ:St}{H:Hp}(Pv:iX!)(h0:ZH!)(hl:XO! Gu! II!)(hs:∀i x σ H,GU!->u3!->cn! x)(hd:cD! xs.length) : by! Ac! (Wo! (UR! (dF K a).stop (dF K a).go Ac! (dF K a).aM)):=by
 refine cb! LB! Gu! xs.length;rintro i m σ H ⟨rfl,hi,p⟩;have q:=hl i σ H hi p;by_cases JS:OA!;.refine da! (cs! q) XP!;obtain⟨e,y⟩:=y;subst e;exact hs i x σ _ (y xs q) p
 ·(have e:Wc!:=B!);subst e;exact Yx! (b6! q) p
theorem Iv{K:W.Frag}{a:Addr}{xs:C!}{g:TG}{tb:TS}{D:Ends}{σ:St}{H:Hp}(Pv:iX!)(h0:ZH!)(hl:XO! Gu! GW!)(hs:∀i x σ H,GU!->u3!->cn! x)(hd:cD! xs.length) : by! Ac! (Wo! (UR! (fF K a).stop (fF K a).go Ac! (fF K a).aM)):=by
 refine cb! LB! Gu! xs.length;rintro i m σ H ⟨rfl,hi,p⟩;have q:=hl i σ H hi p;by_cases JS:OA!;.refine da! (cs! q) XP!;obtain⟨e,y⟩:=y;subst e;exact hs i x σ _ (y xs q) p
 ·(have e:Wc!:=B!);subst e;exact Yx! (b6! q) p
theorem Hx{lo:Int}{n:Nat}{g:TG}{tb:TS}{D:Ends}{σ:St}{H:Hp}(Pv:iX!)(h0:ZH!)(hs:XO! (i<n) (cn! (T! (lo+i))))(hd:cD! n) : by! Ac! (Wo! (UR! (gO lo n).stop (gO lo n).go Ac! (gO lo n).aM)):=by
 refine cb! (n-i) (i<=n) n;rintro i m σ H ⟨rfl,hi,p⟩;by_cases JS:i<n;.refine da! JS (n-FS);obtain⟨e,y⟩:=y;subst e y;exact hs i σ _ JS p
 ·(have e:i=n:=B!);subst e;exact Yx! ii p
abbrev R2:=aC!
def SF(X:F!)(f:bv!)(r:R2):Prop :=
 ∀(AA:x!)(s:Shared)(σ:St)(H:Hp)(x y:V)(v u:Value)(Q:VK),la! B3! (r x y H Q ->
  E9! (f v u))
def xN(X:F!)(f:Value->Sem Value)(r:V->LY!):Prop :=
 ∀(AA:x!)(s:Shared)(σ:St)(H:Hp)(x:V)(v:Value)(Q:VK),JT! WL! (r x H Q ->
  E9! (f v))
def Fu(X:F!)(f:Value)(r:C!->LY!):Prop :=
 ∀(AA:x!)(s:Shared)(σ:St)(H:Hp)(xs:C!)(us:Z!)(Q:VK),JT! IH! (r xs H Q ->
  E9! (call f us))
def Jrk(X:F!)(r:V->Uf Hp (Ja!)):Prop :=
 ∀(AA:x!)(s:Shared)(σ:St)(H:Hp)(x:V)(v:Value)(Q:Ja!),JT! WL! (r x H Q ->
  j5! (truthy v))
def YK(r:R2)(ta tb:TE):TE:=Np! (kn! (r x y H2 Q))
def tUn(r:V->LY!)(ta:TE):TE:=Np! (r x H1 Q)
inductive IrI(C:Uf Int Int)(g:lP!)(x:V)(y:V)(H:Hp)(Q:VK):Prop
 | mk (i j) (e0:Qk!) (e1:XF!) (e2:C i j) (e3:Q MC! H)
def rI(C:Uf Int Int)(g:lP!):R2:=λx y H Q=>IrI C g x y H Q
inductive Jro(g:lP!)(x:V)(y:V)(H:Hp)(Q:VK):Prop
 | mk (i j) (e0:Qk!) (e1:XF!) (e2:Q MC! H)
def gY(g:lP!):R2:=λx y H Q=>Jro g x y H Q
inductive IrU(g:Int->V)(x:V)(H:Hp)(Q:VK):Prop
 | mk (i) (e0:Qk!) (e1:Q (g i) H)
def rU(g:Int->V):V->LY!:=λx H Q=>IrU g x H Q
universe S
variable {X:Cx Kx}{a b c:Expr}{ta tb tc:TE}{pos:Pos}
theorem xV(ha:Ev!)(hb:Ib!){AA:x!}{s:Shared}{σ:St}{H:Hp}{R:V->iH!}(I:K!)(h:kk! (kn! (R x y H2))){Q:M?}{f:bv!}(hf:∀v u s2 x y H2,BI! H2 s2->WL!->B3!->R x y H2->qC! s2) : NV! (VO! a) (λv EM=>Z3! (eval b X.env) (λu VZ=>qC! VZ) EM):=by refine HD! (t0! ha);rintro v s1 ⟨x,H1,I1,r1,q1⟩;refine jQ! hb;rintro u s2 ⟨y,H2,I2,r2,q2⟩;exact hf v u s2 x y H2 I2 r1 r2 q2
theorem Bc{op:Operator}{r:R2}(ho:TC! op r)(ha:Ev!)(hb:Ib!):VW! .BinOp a op b pn!:=WW! (wpAny_BinOp (s3! xV (s8! ho y u Q rx ry q)))
theorem Joi(ho:xN X (unaryOp op) r)(ha:Ev!):GP! .UnaryOp op a (tUn r ta):=WW! (UnaryOp_ (Y0! ha (tc! ho x v)))
theorem rm{f:bv!}{C:Uf Int Int}{g:WM! Int}(rule:∀(i j:Int) (t u:Tok) (s:Shared) (Q:M?) (E:M?),C i j->h0! (T! MC! s.toks)->UO! (f Oa! (T! j u))) : SF X f (rI C λi j=>h4!):=by intro AA s σ H x y v u Q I rx ry h;obtain⟨i,j,rfl,rfl,hc,q⟩:=h;obtain⟨t,rfl⟩:=rx;obtain⟨t',rfl⟩:=ry;exact rule i j t t' s _ _ hc (TV! h4!)
theorem Jol{f:bv!}{g:WM! Int}(rule:∀(i j:Int) (t u:Tok) (s:Shared) (Q:M?) (E:M?),h0! (T! MC! s.toks)->UO! (f Oa! (T! j u))) : SF X f (gY λi j=>h4!):=by intro AA s σ H x y v u Q I rx ry h;obtain⟨i,j,rfl,rfl,q⟩:=h;obtain⟨t,rfl⟩:=rx;obtain⟨t',rfl⟩:=ry;exact rule i j t t' s _ _ (TV! h4!)
theorem xW{f:bv!}{g:WM! Bool}(rule:∀(i j:Int) (t u:Tok) (s:Shared) (Q:M?) (E:M?),mq! MC!->UO! (f Oa! (T! j u))) : SF X f (gY λi j=>.bl MC!):=by intro AA s σ H x y v u Q I rx ry h;obtain⟨i,j,rfl,rfl,q⟩:=h;obtain⟨t,rfl⟩:=rx;obtain⟨t',rfl⟩:=ry;exact rule i j t t' s _ _ (TF! (.bl MC!))
def Jrr(i j:Int):Prop:=0<j/\j<1073741824
def Jrq(i j:Int):Prop:=0<=j/\j<=1000000/\i.natAbs<2 ^ 64
def lX(i j:Int):Prop:=(-(2 ^ 64)<i/\i<2 ^ 64)\/(-(2 ^ 64)<j/\j<2 ^ 64)
theorem lX.ok(h:lX i j):IntMulOk i j:=by
 rcases h with⟨h1,h2⟩|⟨h1,h2⟩;.exact .of_left (intBits_le_64 h1 h2)
 .exact .of_right (intBits_le_64 h1 h2)
theorem Ex:SF X (binaryOp .Add) (gY (Qm! (i+j))):=b2! Jol add_int
theorem Vu:SF X (binaryOp .Sub) (gY (Qm! (i-j))):=b2! Jol sub_int
theorem F8:TC! .Mult (rI lX (Qm! (i*j))):=rm λ_ _ _ _ _ _ _ hc q=>mul_int q hc.ok
theorem Fy:TC! .FloorDiv (rI Jrr (Qm! (i / j))):=rm λi j _ _ _ _ _ hc q=>by have h1:dr!<j:=hc.1;have h2:j<1073741824:=hc.2;exact floordiv_int E! (q! (Int.fdiv_eq_ediv_of_nonneg i (B!)) q) (B? (PyProof.noPylong_small E!))
theorem Cj:TC! .Mod (rI (λ_ j=>0<j) (Qm! (i % j))):=rm λi j _ _ _ _ _ hc q=>by have h1:dr!<j:=hc;exact Jz! mod_int' (q! (Int.fmod_eq_emod_of_nonneg i (B!)) q)
theorem xy:TC! .Pow (rI Jrq (Qm! (i ^ j.toNat))):=rm λ_ _ _ _ _ _ _ hc q=>pow_int_small hc.1 hc.2.1 hc.2.2 q
theorem unI{f:Value->Sem Value}{g:Int->Int}(rule:∀(i:Int) (t:Tok) (s:Shared) (Q:M?) (E:M?),h0! (T! (g i) s.toks)->UO! (f Oa!)) : xN X f (rU λi=>T! (g i)):=by intro AA s σ H x v Q I rx h;obtain⟨i,rfl,q⟩:=h;obtain⟨t,rfl⟩:=rx;exact rule i t s _ _ (TV! (T! (g i)))
theorem Jlo:xN X (unaryOp .USub) (rU λi=>T! (-i)):=unI λ_ _ _ _ _ q=>neg_int q
universe E
def Jn7:V->V->Bool
 | .FG,.FG=>true|.FG,.int _=>true|.int _,.FG=>true|.FG,.bl _=>true|.bl _,.FG=>true|.FG,.str _=>true|.str _,.FG=>true
 | .int _,.int _=>true|.bl _,.bl _=>true|.str _,.str _=>true|.bM _,.bM _=>true
 | .int _,.str _=>true|.str _,.int _=>true|.bl _,.str _=>true|.str _,.bl _=>true
 | _,_=>false
def i_:R2:=λx y H Q=>Jn7 x y=true/\Q (bY! (x=y)) H
def rNe:R2:=λx y H Q=>Jn7 x y=true/\KW! (Lv! (x=y))
theorem Jcy:e0! i j=(i==j):=Cl! SD
theorem Jh2:GJ! V.bl i V.bl j=(i==j):=Cl! SD
theorem Jcx:GJ! V.str i V.str j=(i==j):=Cl! SD
theorem Jcz:GJ! V.bM i V.bM j=(i.toList==j.toList):=by rw[SD];cases i;cases j;simp
universe S
variable {X:Cx Kx}{a b c:Expr}{ta tb tc:TE}{pos:Pos}
theorem By(I:K!)(q:KW! k)(e:k=k'):mW! (Tk k'):=by subst e;exact TF! (.bl k)
theorem Cr:k0! .Eq i_:=by intro AA s σ H x y v u Q I rx ry h;obtain⟨hs,q⟩:=h;cases x with | FG =>cases rx;(cases y with | FG=>cases ry;exact AE! PySem.EqNone.eq_none_none | bl j=>cases ry;exact AE! PySem.EqNone.eq_none_bool | int j=>obtain⟨t',rfl⟩:=ry;exact AE! PySem.EqNone.eq_none_int | str j=>obtain⟨t',rfl⟩:=ry;exact AE! PySem.EqNone.eq_none_str | _=>exact E2!) | bl i =>cases rx;(cases y with | FG=>cases ry;exact AE! PySem.EqNone.eq_bool_none | bl j=>cases ry;exact eq_bool (By I q Jh2) | str j=>obtain⟨t',rfl⟩:=ry;exact AE! PySem.EqMixed.eq_bool_str | _=>exact E2!) | int i =>obtain⟨t,rfl⟩:=rx;(cases y with | FG=>cases ry;exact AE! PySem.EqNone.eq_int_none | int j=>obtain⟨t',rfl⟩:=ry;exact eq_int (By I q Jcy) | str j=>obtain⟨t',rfl⟩:=ry;exact AE! PySem.EqMixed.eq_int_str | _=>exact E2!) | str i =>obtain⟨t,rfl⟩:=rx;(cases y with | FG=>cases ry;exact AE! PySem.EqNone.eq_str_none | bl j=>cases ry;exact AE! PySem.EqMixed.eq_str_bool | int j=>obtain⟨t',rfl⟩:=ry;exact AE! PySem.EqMixed.eq_str_int | str j=>obtain⟨t',rfl⟩:=ry;exact eq_str (By I q Jcx) | _=>exact E2!) | bM i =>obtain⟨t,rfl⟩:=rx;(cases y with | bM j=>obtain⟨t',rfl⟩:=ry;exact W.eq_bytes (By I q Jcz) | _=>exact E2!) | _=>cases y<;>exact E2!
theorem xb:k0! .NotEq rNe:=by intro AA s σ H x y v u Q I rx ry h;obtain⟨hs,q⟩:=h;cases x with | FG =>cases rx;(cases y with | FG=>cases ry;exact AE! PySem.EqNone.ne_none_none | bl j=>cases ry;exact AE! PySem.EqNone.ne_none_bool | int j=>obtain⟨t',rfl⟩:=ry;exact AE! PySem.EqNone.ne_none_int | str j=>obtain⟨t',rfl⟩:=ry;exact AE! PySem.EqNone.ne_none_str | _=>exact E2!) | bl i =>cases rx;(cases y with | FG=>cases ry;exact AE! PySem.EqNone.ne_bool_none | bl j=>cases ry;exact po! ne_bool Jh2 | str j=>obtain⟨t',rfl⟩:=ry;exact AE! PySem.EqMixed.ne_bool_str | _=>exact E2!) | int i =>obtain⟨t,rfl⟩:=rx;(cases y with | FG=>cases ry;exact AE! PySem.EqNone.ne_int_none | int j=>obtain⟨t',rfl⟩:=ry;exact po! ne_int Jcy | str j=>obtain⟨t',rfl⟩:=ry;exact AE! PySem.EqMixed.ne_int_str | _=>exact E2!) | str i =>obtain⟨t,rfl⟩:=rx;(cases y with | FG=>cases ry;exact AE! PySem.EqNone.ne_str_none | bl j=>cases ry;exact AE! PySem.EqMixed.ne_str_bool | int j=>obtain⟨t',rfl⟩:=ry;exact AE! PySem.EqMixed.ne_str_int | str j=>obtain⟨t',rfl⟩:=ry;exact po! ne_str Jcx | _=>exact E2!) | bM i =>obtain⟨t,rfl⟩:=rx;(cases y with | bM j=>obtain⟨t',rfl⟩:=ry;exact po! W.ne_bytes Jcz | _=>exact E2!) | _=>cases y<;>exact E2!
theorem Mb:fX! .Lt gY (dM! (i<j)):=b2! xW lt_int
theorem uK:fX! .Gt gY (dM! (j<i)):=b2! xW gt_int
theorem Jok:fX! .GtE gY (dM! (j<=i)):=b2! xW ge_int
theorem A9(b:Expr)(h:op≠.In:=by decide)(h2:op≠.NotIn:=by decide):UI!:=by
 have e1:bv (op==CmpOp.In):=gd! mn!
 have e2:bv (op==CmpOp.NotIn):=gd! (GS! h2)
 cases b<;>simp[behindInMarks,e1,e2]
theorem Ik{op:CmpOp}{r:R2}(ho:k0! op r)(ha:Ev!)(hb:Ib!)(hm:UI!):VW! .Compare a [op] [b] pn!:=WW! (wpAny_Compare1 (s3! xV (s8! ho y u Q rx ry q)) hm)
inductive Jnm  (x:V) (H':Hp) (Q:Ja!):Prop
 | mk (k) (e0:x=.bl k) (e1:Q k H')
def Ky(t:TE):TT:=vI! (λx H'=>Jnm  x H' Q)
theorem A5(ho:k0! op r)(ha:Ev!)(hb:Ib!)(hm:UI!):PT X (.Compare a [op] [b] pos) (Ky pn!):=by intro AA s σ H Q I h;refine wpAny_isTrue_Compare1 (Y0! ha (iv! hb (λu s2 ⟨y,H2,I2,r2,q2⟩ =>EK (s8! ho y u _ r1 r2 q2) λc s3 ⟨z,H3,I3,r3,k,e,q3⟩=>?_))) hm;subst e;cases r3;exact LK ⟨H3,I3,q3⟩
def Jpj(K:W.Frag)(x:V)(H:Hp)(k:Bool):Prop :=
 match x with
 | .FG=>k=false
 | .bl b=>k=b
 | .int i=>k=(i != 0)
 | .str y=>rz! (y.length<=sizeLine) y.length
 | .bM y=>rz! (y.size<=sizeLine) y.size
 | .ref p=>nR! mO!\/nR! (Ze! xs)\/∃kvs,w4! p/\k=!kvs.isEmpty
 | _=>False
theorem Ja9(r:Hh!):(!vs.isEmpty)=!kvs.isEmpty:=by cases r<;>rfl
theorem Ri(r:TS!):(!its.toArray.isEmpty)=!xs.isEmpty:=by cases r<;>simp
theorem We:(sizeLine:Nat)<2 ^ 63:=ew! DI
theorem Jlq{X:F!}:Jrk X (λx H Q=>∃k,Jpj Kx x H k/\Q k H):=by intro AA s σ H x v Q I rx h;obtain⟨k,e,q⟩:=h;have hl:=We;have hs:sizeLine=16777216:=DI;cases x with | FG =>cases rx;have e':k=false:=e;subst e';exact truthy_none ⟨H,I,q⟩ | bl b =>cases rx;have e':k=b:=e;subst e';exact LK ⟨H,I,q⟩ | int i =>obtain⟨t,rfl⟩:=rx;have e':k=(i != 0):=e;subst e';exact PySem.P.truthy_int ⟨H,I,q⟩ | str y =>obtain⟨t,rfl⟩:=rx;obtain⟨hy,e'⟩:rz! (y.length<=sizeLine) y.length:=e;subst e';exact Jz! PySem.P.truthy_str ⟨H,JL!,q⟩ | bM y =>obtain⟨t,rfl⟩:=rx;obtain⟨hy,e'⟩:rz! (y.size<=sizeLine) y.size:=e;subst e';exact Jz! W.truthy_bytes ⟨H,JL!,q⟩ | ref p =>cases rx;have e':nR! (DS Kx H p xs)\/nR! (DL Kx H p xs)\/∃kvs,w4! p/\k=!kvs.isEmpty:=e;rcases e' with⟨xs,hx,e'⟩|⟨xs,hx,e'⟩|⟨kvs,hx,e'⟩;(.subst e';obtain⟨its,r,pl,hz⟩:=I.list hx;have hlen:=r.length;exact wpAny_truthy_list pl.isList (by simp only[BG];lia) (MS! H JL! (Ri r) q));(.subst e';obtain⟨its,r,pl,hz⟩:=I.tuple hx;have hlen:=r.length;exact truthy_tuple pl (by simp only[BG];lia) (MS! H JL! (Ri r) q));.subst e';obtain⟨hz,hS,vs,r,m⟩:Vy!/\bv (p==sysModules)/\gS! (s.heap.DictOf Km! p vs):=JI! p hx;have hlen:We!:=YY!;exact wpAny_truthy_dict hS m E! (MS! H JL! (Ja9 r) q) | _=>exact(show False from e).elim
theorem Yu{X:F!}(ha:Ev!)(he:∀whole,isTrue a X.env whole=(do let v <-whole;standAt a.pos;holding [v] (truthy v))) :
 PT X a (t2! ta (λx H'=>∃k,Jpj Kx x H' k/\Q k H')):=by
 intro AA s σ H Q I h
 exact isTrue_plain (Y0! ha (tc! Jlq x v)) (he _)
theorem vals1(r:U4! [x]):∃u,us=[u]/\F3!:=by cases r with | cons r1 r2=>cases r2;exact m? r1
theorem vals2(r:U4! [x,y]):∃u w',us=[u,w']/\F3!/\BL! y w':=by cases r with | cons r1 r2 =>cases r2 with | cons r3 r4=>cases r4;exact EO! _ rfl r1 r3
inductive Jbn(xs:C!)(H:Hp)(Q:VK):Prop
 | mk i j (_:xs=[JM!,g! j]) (_:lL! (if j > i then j else i))
theorem Jek(hc:Av!):ex! "max" Jbn:=by
 intro AA s σ H xs us Q I r h;obtain⟨i,j,rfl,q⟩:=h;obtain⟨u,w',rfl,⟨t,rfl⟩,⟨t',rfl⟩⟩:=vals2 r;refine max_two_ints (I.ok.hd hc) λh' tk k=>EO! H (I.kept k) ?_ q;by_cases hj:j > i;.rw[AE hj,AE hj];exact ci
 .rw[AB hj,AB hj];exact ci
inductive Jbm(xs:C!)(H:Hp)(Q:VK):Prop
 | mk i j (_:xs=[JM!,g! j]) (_:lL! (if j<i then j else i))
theorem Jej(hc:Av!):ex! "min" Jbm:=by
 intro AA s σ H xs us Q I r h;obtain⟨i,j,rfl,q⟩:=h;obtain⟨u,w',rfl,⟨t,rfl⟩,⟨t',rfl⟩⟩:=vals2 r;refine min_two_ints (I.ok.hd hc) λh' tk k=>EO! H (I.kept k) ?_ q;by_cases hj:j<i;.rw[AE hj,AE hj];exact ci
 .rw[AB hj,AB hj];exact ci
universe E
structure bo(h:Heap)(x dx C:Addr)(mA:q?):Prop where
 obj:Bk! h.get? (ne! dx)
 ns:h.Ns1 dx mA
 ne:dx≠x
theorem Jd2{h:Heap}{dx:Addr}{mA:q?}(n:h.Ns1 dx mA):∃od,El! dx od/\∀name,W.lookIn name od=some (mA name):=by
 obtain⟨o,es,ep,ho,hd,hk,_,hm⟩:=n;refine A2! ho (λname=>?_);have e:=hm name;unfold nsFind findBy at e;rw[<-Array.find?_toList] at e;unfold W.lookIn;rw[hd];dsimp only;split;.rename_i y q;rw[q] at e;exact congrArg some e
 .rename_i q;rw[q] at e;(have a:o? (es.toList.any (·.refKey)):=by rw[List.any_eq_false];intro y hy;obtain⟨z,t,dN⟩:=hk y (Array.mem_toList_iff.mp hy);simp[DictEntry.refKey,dN]);(have a':¬es.toList.any (·.refKey)=true:=I! a AS);rw[AB a'];exact congrArg some e
theorem bo.look(I:sK! h):∃od,W.InstAt h x (ne! dx) C (some od)/\∀name,W.lookIn name od=some (mA name) :=let⟨od,ho,hl⟩:=Jd2 I.ns;⟨od,FQ! I.obj rfl ho,hl⟩
universe S
variable {prog:Program}{w:World}{A:Around}{E:Value->Shared->Prop}{s:Shared}{K:W.Frag}{x dx C f:Addr}{mA:Str->Option Value}{name:Str}{v:Value}
theorem Jka{expr:Bool}{Q:M?}(X:Gc!)(I:sK! s.heap)(hg:ce! name)(hh:kr!)(ha:F4! name)(hv:U! mA name v)(hv':W.handedIn v=true)(h:Q v fS!) : Ab! (getAttr (V! x) name expr):=by obtain⟨od,J,hl⟩:=I.look;exact W.get_value X J (W.plainGet_of hg).1 (W.findObj_own hh ha rfl (Hn! hl hv)) hv' h
theorem Jhl{pl:Sem Bool}{Q:CG! (Value×Z!)}(X:Gc!)(I:sK! s.heap)(hg:ce! name)(hf:cQ! name)(ht:m5!)(hv:Ay! mA name)(h:Q (i! f,[i! x]) s) : Ab! (getMethod (V! x) name pl):=by obtain⟨od,J,hl⟩:=I.look;exact W.method_fn X J (W.plainGet_of hg).1 (W.plainGet_of hg).2 hf (KU.mp ht) (by show U! (W.lookIn name od).map (·.isSome) false;rw[hl,hv];rfl) h
theorem Jir{ns:P?}{Q:D9!}(X:Gc!)(I:sK! s.heap)(hs:Zy! "__setattr__" "object.__setattr__")(hp:Pw! W.plainOver)(ht:EK! W.takerIn C name none)(hh:kr!)(hw:PySem.Within mA ns)(hsz:ns.length<=sizeLine)(h:∀h',bo h' x dx C (λy=>TD (y=name) (w? v) (mA y))->eg! dx->Q () { s with heap:=h',toks:=s.toks+2 }) : Ab! (setAttr (V! x) name v):=by obtain⟨od,J,hl⟩:=I.look;refine W.set_plain X J hs (W.osa_open (s:=fS!) (r:=none) X J hp ht λb=>?_);obtain⟨cd,hc,aH⟩:=W.any_some hh;have hx:Bk! s.heap.get? ⟨i! C,w? dx,.plain,#[]⟩:=I.obj;refine ps! (wpAny_loadPart hx (ZR (W.Looks.here (s:=fS!) (W.looks_clsIn X hc) ?_)));rw[aH];refine ZS (a:=w? dx) (co! ?_);refine wpAny_nsSet1 (s:=fS!) I.ns λh' jF SE=>?_;obtain⟨oD,esD,epD,hoD,hdD,hcD⟩:=jF.count (PySem.Within.cons name v hw);refine GT! wpAny_lookBehind hoD (q! hdD (pastItsLine_dict (A_ hcD (Fk! BR))));exact ZS (h _ ⟨(SE.2 _ (Ne.symm I.ne)).trans I.obj,jF,I.ne⟩ SE)
theorem Jg4{R:iE!}{vs:Z!}{kw:Pg!}(X:Gc!)(hm:Pw! W.makesIn)(hi:cQ! fn!)(hf:W.typeIn K Ly!=some (BB! "function"))(h:codeAny VI! (xx! (A! (i! C::vs) kw)) (KR! .call (A! (Vt! DW!::vs) kw)) (W.InitBack (Fa!) R) (Gv! ((s.heap.push W.emptyDict).push (W.instObj C s.heap.objs.size)))) : rL! (jb! C (A! vs kw)):=by obtain⟨hh,g,d,t,os⟩:=s;exact W.make_core (W.makes_of X hm) (W.looks_findIn X hi) (λself=>W.bind_fn X self hf) HJ! h
universe E
def As(f:Str)(v:V):By!->By!
 | []=>[(f,v)]
 | (g,x)::r=>go! (g=f) g ((g,x)::As f v r)
theorem Bf(f g:Str)(v:V):∀fs:By!,(As f v fs).lookup g=TD (g=f) (w? v) (fs.lookup g)
 | []=>by show List.lookup g [(f,v)]=_;by_cases h:g=f;(.have hb:Ix (g==f):=KU.mpr h;simp only[List.lookup,hb,Ar!]);.have hb:bv (g==f):=EE.mpr h;simp only[List.lookup,hb,BV!]
 | (k,x)::r=>by have ih:=Bf f g v r;rw[FF! (oY!=(go! (k=f) k ob!))];by_cases hk:k=f;(.rw[AE hk];by_cases h:g=k;(.have hb:Ix (g==k):=KU.mpr h;simp only[List.lookup,hb,AE (h.trans hk)]);.have hb:bv (g==k):=EE.mpr h;simp only[List.lookup,hb,AB (λe:g=f=>h (e.trans hk.symm))]);.rw[AB hk];by_cases h:g=k;(.have hb:Ix (g==k):=KU.mpr h;simp only[List.lookup,hb,AB (λe:g=f=>hk (h.symm.trans e))]);.have hb:bv (g==k):=EE.mpr h;simp only[List.lookup,hb];exact ih
theorem Ny(f:Str)(v:V):∀fs:By!,f∈b? (As f v fs).map/\∀g,g∈b? fs.map->g∈b? (As f v fs).map
 | []=>A! (by simp[As]) (λg h=>DZ!)
 | (k,x)::r=>by obtain⟨i1,i2⟩:=Ny f v r;rw[FF! (oY!=(go! (k=f) k ob!))];by_cases hk:k=f;(.rw[AE hk];subst hk;exact A! D? (λg h=>At));.rw[AB hk];refine Lu! (λg h=>?_);(.rw[AJ];exact ZD _ i1);.rw[AJ] at h ⊢;rcases ZM h with e|e;(.exact CK.mpr (B? e));.exact ZD _ (i2 g e)
theorem A4(f:Str)(v:V):∀fs:By!,(As f v fs).length<=fs.length+1
 | []=>by simp[As]
 | (k,x)::r=>by have ih:=A4 f v r;rw[FF! (oY!=(go! (k=f) k ob!))];by_cases hk:k=f;(.rw[AE hk,BR,BR];lia);.rw[AB hk,BR,BR];lia
theorem tw{v:V}{o:Cs! Value}(r:RN (some v) o):∃u,o=w? u/\A9!:=by cases o with | none=>exact Tc! | some u=>exact Eb! u r
theorem Jr9(r:RN none o):o=none:=by cases o with | none=>rfl | some u=>exact Tc!
theorem Jee(r:A9!):W.handedIn u=true:=by cases v with | FG=>cases F9! (u=Value.none);rfl | bl b=>cases F9! (u=Value.bool b);rfl | int i=>obtain⟨t,e⟩:=F9! T4!;cases e;rfl | str x=>obtain⟨t,e⟩:=F9! p6!;cases e;rfl | bM b=>obtain⟨t,e⟩:=F9! (kF! Value.bytes);cases e;rfl | pL b=>obtain⟨t,e⟩:=F9! (kF! Value.float);cases e;rfl | ref a=>cases F9! DE!;rfl | ty n=>cases F9! (u=Value.type n);rfl
universe S
theorem Wx(DP:DS!)(e:ji!):∃mA,bo h a dx C mA/\(∀f,RN (fs.lookup f) (mA f))/\PySem.Within mA (Iu! fs.map)/\fs.length<=1000/\lF! dx:=by obtain⟨d,z,ne,ob,mA,n,r,q⟩:=HF! (Ig! eL!) (DP a _ e);exact⟨mA,⟨ob,n,ne⟩,r,q,z,d⟩
universe E
structure bO(K:W.Frag)(C:Addr):Prop where
 pg:ce! Str.empty
 hd:kr!
 po:Pw! W.plainOver
 sa:Zy! "__setattr__" "object.__setattr__"
theorem bO.get{K:W.Frag}{C:Addr}(c:bO K C)(f:Str):ce! f:=c.pg
def EN(K:W.Frag)(C:Addr)(f:Str):Prop:=F4! f
theorem EN.rB{K:W.Frag}{C:Addr}{f:Str}(n:F6! f):EK! W.takerIn C f none:=by unfold W.takerIn;rw[show F4! f from n];rfl
structure nX(K:W.Frag)(C:Addr)(m:Str)(f:Addr):Prop where
 at_:cQ! m
 fn:m5!
 kp:W.keepIn K Ly!=true
universe S
theorem Rn{X:F!}(I:K!)(e:ji!)(c:UE!)(n:EN Kx C f)(l:U! fs.lookup f v)(h:∀u s',My!->A9!->Q u s'):Ls! (getAttr SB f b):=by obtain⟨mA,O,r,_,_,_⟩:=O8! Wx;obtain⟨u,hu,ru⟩:=sW! (mA f) (F8! l (r f));exact Jka I.VW O (c.get f) c.hd n hu (Jee ru) (h u _ (I.tok _) ru)
theorem La{X:F!}(I:K!)(e:ji!)(c:UE!)(k:nX Kx C m g)(l:Mu! fs.lookup)(h:Q (i! g,Fe!) s):Ls! (getMethod SB m pl):=by obtain⟨mA,O,r,_,_,_⟩:=O8! Wx;have hn:Mu! mA:=Jr9 (G? l (r m));exact Jhl I.VW O (c.get m) k.at_ k.fn hn h
theorem P8{X:F!}(I:K!)(e:ji!)(c:UE!)(n:EN Kx C f)(hl:fs.length<1000)(ry:B3!)(h:l0! (BI! (CI! a (FY! (As f y fs))) s')):Ls! (setAttr SB f u):=by
 obtain⟨mA,O,r,wi,_,ho⟩:=O8! Wx;have hz:Be! (fs.map (·.1)).length:=LD! ZA DI
 refine Jir I.VW O c.sa c.po n.rB c.hd wi hz λh' O' sb=>h _ ?_;have hd:∃o,Zi! dx:=let⟨o,_,_,e',_⟩:=O'.ns;CO! e';refine I.write (x:=a) (e:=dx) (WC! True.intro) (AB! ho) (λb q hb z=>(sb.2 b hb).trans z) hd ?_;refine⟨o! O.ne ho,?_,O.ne,O'.obj,_,O'.ns,λg=>?_,λg hg=>?_⟩;.have:=A4 f y fs;lia
 .show RN ((As f y fs).lookup g) (LZ! (g=f) (w? u) (mA g));rw[Bf];by_cases q:g=f;(.rw[AE q,AE q];exact ry);.rw[AB q,AB q];exact r g
 .by_cases q:g=f;(.rw[q];exact(Ny f y fs).1);.refine(Ny f y fs).2 g (wi g λz=>hg ?_);show LZ! (g=f) (w? u) (mA g)=none;rw[AB q];exact z
theorem Inv.AQ(I:K!):BI! (upd (CI! s.heap.objs.size (DV! (Fa!))) (Fa!) (CE! C s.heap.objs.size [])) (Gv! ((s.heap.push W.emptyDict).push (W.instObj C s.heap.objs.size))):=by
 have e1:U! (s.heap.push W.emptyDict).get? s.heap.objs.size W.emptyDict:=ZU s.heap rfl;have e2:Vt! ((s.heap.push W.emptyDict).push (W.instObj C s.heap.objs.size)).get?=some (ne! s.heap.objs.size):=Wh! (ZU (s.heap.push W.emptyDict) (o:=W.instObj C s.heap.objs.size) rfl) Heap.size_push
 have e3:(s.heap.push W.emptyDict).Ns s.heap.objs.size (Ok!):=⟨W.emptyDict,#[],_,e1,rfl,(λe he=>EW! he D?),FG!⟩;have I1:=I.laid (a:=s.heap.objs.size) (o:=Vt! DV!) (h':=s.heap.push W.emptyDict) (t':=s.toks) (λb u q=>SA!) Am! (e? e1);refine I1.laid (a:=Fa!) (o:=CE! C s.heap.objs.size []) (t':=s.toks) (λb u q=>SA!) (Nat.le_of_eq (Heap.size_push _ _)) ?_;have ne:s.heap.objs.size≠Fa!:=BK (KZ _);refine⟨I? (Ac ne) Ab,sw,ne,e2,Ok!,(Heap.Ns1.of_empty e3).at λo q=>SA!,λ_=>True.intro,Cn! (GS! hy)⟩
theorem Jkp(hb:attributeBase e f env (eval e env)=eval e env)(h:Tv! (eval e env) (λo EM=>as! (getAttr o f true) EM)):Ab! (eval (Wi! e f pos) env) :=Attribute_any_ h (I? arm_eval_Attribute hb)
universe E
inductive Jpq(K:W.Frag)(f:Str)(x:V)(H1:Hp)(Q:VK):Prop
 | mk (a C dx fs v) (e0:Ap!) (e1:pe!) (e2:bO K C) (e3:F6! f) (e4:U! fs.lookup f v) (e5:Q v H1)
def U3(K:W.Frag)(ta:TE)(f:Str):TE:=Np! (Jpq K f x H1 Q)
def Jqq(K:W.Frag)(ta tv:TE)(f:Str):TS:=Qo! tv (λy H1=>C4! ta (λx H2=>∃a C dx fs,Ap!/\Cu! H2 eL!/\bO K C/\F6! f/\fs.length<1000 /\
 PF! (upd H2 a (FY! (As f y fs)))))
def uB(X:F!)(op:Operator)(rd:aC!):Prop :=
 ∀(AA:x!)(s:Shared)(σ:St)(H:Hp)(x y:V)(u v:Value)(Q:VK),K!->F3!->BL! y v->rd x y H Q->E9! (inplaceOp op u v)
def Jiz(K:W.Frag)(ta tv:TE)(rd:aC!)(f:Str):TS:=MN! (kk! (∃a C dx fs v,Ap!/\pe!/\bO K C/\F6! f/\U! fs.lookup f v /\
 C4! tv (λy H2=>rd v y H2 λz H3=>∃xA gH,Cu! H3 (CE! C xA gH)/\gH.length<1000/\PF! (upd H3 a (CE! C xA (As f z gH))))))
universe S
theorem Aq{X:F!}(he:PE X e ta)(hb:attributeBase e f X.env (eval e X.env)=vK!):GP! Wi! e f (U3 Kx ta f):=by intro AA s σ H Q I h;refine Jkp hb SV!;rintro u s1 ⟨x,H1,I1,rx,a,C,dx,fs,v,ex,ea,c,n,l,q⟩;subst ex;obtain rfl:DE!:=rx;exact Rn I1 ea c n l λu' s2 I2 ru=>⟨v,H1,I2,ru,q⟩
theorem Dl{X:F!}(ha:ZY!)(hv:pV!)(hs:rG! value (some (Wi! o f pos'))):nx! [Wi! o f pos'] value (Jqq Kx ta tv f):=by intro AA s σ H D I h;refine plainObj_wpAny_Assign_Attribute (wt! hv) hs;rintro u s1 ⟨y,H1,I1,ry,q⟩;refine HD! (ha AA s1 σ H1 _ I1 q);rintro ov s2 ⟨x,H2,I2,rx,a,C,dx,fs,ex,ea,c,n,l,q2⟩;subst ex;obtain rfl:ov=uC!:=rx;exact P8 I2 ea c n l ry λs3 I3=>Ji! _ I3 q2
theorem Ce{X:F!}(ha:ZY!)(hv:pV!)(vk:uB X op rd):PS X (.AugAssign (Wi! o f yN) op value pos) (Jiz Kx ta tv rd f):=by intro AA s σ H D I h;refine bD! wpAny_AugAssign_AttributeAny;rintro ov s1 ⟨x,H1,I1,rx,a,C,dx,fs,v,ex,ea,c,n,l,q⟩;subst ex;obtain rfl:ov=uC!:=rx;refine Rn I1 ea c n l λu s2 I2 ru=>HD! (hv AA s2 σ H1 _ I2 q);rintro w3 s3 ⟨y,H2,I3,ry,q3⟩;refine HD! (vk AA s3 σ H2 v y u w3 _ I3 ru ry q3);rintro w4 s4 ⟨z,H3,I4,rz,xA,gH,YO,l',q4⟩;exact P8 I4 YO c n l' rz λs5 I5=>Ji! _ I5 q4
inductive Jq1(x:V)(y:V)(H:Hp)(Q:VK):Prop
 | mk i j (_:Qk!) (_:XF!) (_:lL! (i+j))
inductive Jqr(x:V)(y:V)(H:Hp)(Q:VK):Prop
 | mk i j (_:Qk!) (_:XF!) (_:lL! (i-j))
theorem D8:uB X .Add Jq1:=by rintro AA s σ H x y u v Q I rx ry ⟨i,j,rfl,rfl,q⟩;obtain⟨t,rfl⟩:=(show T4! from rx);obtain⟨t',rfl⟩:=eZ! (∃t',v=Value.int j t');exact PyProof.Rows.iadd_int (TV! (T! (i+j)))
theorem Jhe:uB X .Sub Jqr:=by rintro AA s σ H x y u v Q I rx ry ⟨i,j,rfl,rfl,q⟩;obtain⟨t,rfl⟩:=(show T4! from rx);obtain⟨t',rfl⟩:=eZ! (∃t',v=Value.int j t');exact PyProof.Rows.isub_int (TV! (T! (i-j)))
universe E
universe S
universe E
structure DM(k:Nat)(A:Around):Prop where
 hd:Ol!
 dp:A.depth+3*k+5<recursionLimit
 un:A.units+16*k+200<cLine
theorem DM.mono(r:Ng!)(h:j<=k):DM j A:=⟨r.hd,by have:=r.dp;lia,by have:=r.un;lia⟩
theorem DM.deeper(r:cK! A)(env:Env):DM k (A.deeper env) :=⟨r.hd,by have:=r.dp;show A.depth+1+3*k+5<_;lia,by have:=r.un;show A.units+3+16*k+200<_;lia⟩
theorem Ja5{A:Around}{C:Addr}{us:Z!}{kw:Pg!}:(A.under (.builtin "type.__call__" lz!)).depth=A.depth+1:=by first|rfl|simp[Around.under,Code.weight,Code.isCreation,Code.isGuard,Code.isCaller,Code.frames,Code.isFrame,guardIds]
theorem Ja4{A:Around}{C:Addr}{us:Z!}{kw:Pg!}:(A.under (.builtin "type.__call__" lz!)).units=A.units+1:=by first|rfl|simp[Around.under,Code.cUnits,Code.frames,Code.isFrame]
theorem DM.make(r:cK! A)(C:Addr)(us:Z!)(kw:Pg!):DM k (A.under (AS! "type.__call__" lz!)) :=⟨r.hd,by have:=r.dp;rw[Ja5];lia,by have:=r.un;rw[Ja4];lia⟩
theorem DM.depth(r:Ng!):A.depth<recursionLimit:=by have:=r.dp;lia
theorem DM.units(r:Ng!):A.units+64<cLine:=by have:=r.un;lia
def Nd:TA:=λ_ H Q=>Q [] H
def Dz(ta:TE)(tr:TA):TA:=Np! (C4! tr (λxs H2=>Q (x::xs) H2))
universe S
theorem Ae:PA X [] Nd:=λ_ _ _ _ H Q I h=>LM ⟨[],H,I,S!,h⟩
theorem Aa(ha:Z9!)(hr:PA X es t)(hs:K7!:=by rfl):PA X EV! (Dz te t):=by intro pos AA s σ H Q I h;rw[hs];show Li! (spliced ((false,vK!)::backTo pos (starEach es X.env)));refine bD! IH;rintro u s1 ⟨x,H1,I1,r1,q1⟩;exact EK (hr pos AA s1 σ H1 _ I1 q1) λus s2 ⟨xs,H2,I2,r2,q2⟩=>⟨x::xs,H2,I2,C? r1 r2,q2⟩
inductive Jpo  (xs:C!) (H1:Hp) (Q:VK):Prop
 | mk  (e0:EE!) (e1:∀p,Hy! p->Is p (Lh! p .BE xs))
def uG(t:TA):TE:=vI! (λxs H1=>Jpo  xs H1 Q)
inductive Jpp  (xs:C!) (H1:Hp) (Q:VK):Prop
 | mk  (e0:EE!) (e1:∀p,Hy! p->Is p (Lh! p .BF xs))
def Jp2(t:TA):TE:=vI! (λxs H1=>Jpp  xs H1 Q)
theorem Bp(h:PA X es t):PE X (.Tuple es x1 pos) (uG t):=by intro AA s σ H Q I hq;refine wpAny_Tuple_spliced (EK (h pos AA s σ H _ I hq) λus s1 ⟨xs,H1,I1,r,z,q⟩=>L? (MY! r.length));have hf:Hy! s1.heap.objs.size:=SX!;refine AA! (i! s1.heap.objs.size) (H8! H1 s1.heap.objs.size xs) (I1.laid (t':=s1.toks) (λb u e=>HN!) Am! ?_) (q _ hf);exact⟨z,us,r,qE! CN!⟩
theorem Dm(h:PA X es t):PE X (.List es pos) (Jp2 t):=by intro AA s σ H Q I hq;refine wpAny_List_spliced (EK (h pos AA s σ H _ I hq) λus s1 ⟨xs,H1,I1,r,z,q⟩=>L? (MY! r.length));have hf:Hy! s1.heap.objs.size:=SX!;refine AA! (i! s1.heap.objs.size) (Pl! H1 s1.heap.objs.size xs) (I1.laid (t':=s1.toks) (λb u e=>HN!) Am! ?_) (q _ hf);exact⟨z,us,0,r,CN!⟩
universe E
abbrev Sp:=C!->Hp->Uf VK XK
abbrev eF:=A7!->Hp->Shared->XK->M?
structure ae(P:Program)(w:World)(K:W.Frag)(mg:q?)(base:Heap)(A:Around)(outer:A7!)(s:Shared)(H:Hp):Prop where
 frames:A.frames=w? outer
 mod:Mod K mg base
 bs:KE (AI! base.get?->CM!/\x?)
 cR:base.objs.size<=s.heap.objs.size
 MX:s.heap.FunFrames base outer
 dz:∀b∈QY outer,x?
 DP:OH P w H s.heap
 bare:AllBare s.gens
inductive CE(outer:A7!)(P:Program)(w:World)(H:Hp)(s:Shared)(Q:VK)(u:Value)(s':Shared):Prop
 | mk v H' (_:s'.os=s.os) (_:S8!) (_:oO! outer [] s'.heap) (_:OH P w H' s'.heap) (_:A9!) (_:NO!)
def CR(CX:eF)(outer:A7!)(P:Program)(w:World)(H:Hp)(s:Shared)(Q:VK)(E:XK)(r:Result)(s':Shared):Prop :=
 match r with
 | .ok (.ret u)=>sS! outer P w
 | .ok _=>False
 | .error e=>CX outer H s E e s'
structure EW(P:Program)(w:World)(K:W.Frag)(mg:q?)(base:Heap)(CX:eF)(k:Nat)(f:Addr)(fd:FuncData)(ps:P?)(sp:Sp):Prop where
 len:mg!
 run:∀(A:Around)(outer:A7!)(s:Shared)(H:Hp)(args:Args)(us:Z!)(vs:C!)(Q:VK)(E:XK),Ng!->oa!->BindsTo s fd args ff!->KP!->QD! ->
  codeAny jc! A (KR! .call args) (CR CX outer P w H s Q E) s
theorem EW.mono{P:Program}{w:World}{K:W.Frag}{mg:q?}{base:Heap}{CX:eF}{j k:Nat}{f:Addr}{fd:FuncData}{ps:P?}{sp:Sp}(F:EW P w K mg base CX j f fd ps sp)(h:j<=k) : tG! CX:=A! F.len (λA outer s H args us vs Q E hr=>F.run A outer s H args us vs Q E (hr.mono h))
theorem ae.make{P:Program}{w:World}{K:W.Frag}{mg:q?}{base:Heap}{A:Around}{outer:A7!}{s:Shared}{H:Hp}(e:oa!)(C:Addr)(us:Z!)(kw:Pg!) : ae P w K mg base (xx! lz!) outer s H:=⟨by first|exact e.frames|(simpa [Around.under,Code.envs,Code.isFrame,pushEnvs] using e.frames),e.mod,e.bs,e.cR,e.MX,e.dz,e.DP,e.bare⟩
universe S
theorem Inv.ie{X:F!}(I:K!):ae X.prog X.w Kx X.mg X.base X.A X.stack s H :=⟨I.ok.frames,I.ok.mod,I.bs,A_ I.ok.cR I.sz,I.stack,I.RY,I.DP,I.bare⟩
theorem Inv.after(I:K!)(h:sS! X.stack X.prog X.w):EP X AA σ Q u s':=by obtain⟨v,H',os,bare,un,DP,r,q⟩:=h;obtain⟨hh,g,d,t,cq⟩:=s';obtain rfl:cq=s.os:=os;exact⟨v,H',I.call (h':=hh) (g':=g) (d':=d) (t':=t) (ch:=[]) un DP bare (λb z=>EW! z D?),r,q⟩
universe E
def Jn2(sp:Sp)(RV:C!)(E:XK)(t:TA):TE:=ke! (sp (vs++RV) H1 Q E)
inductive Jnn(C:Addr)(m:Str)(sp:Sp)(RV:C!)(E:XK)(t:TA)(σ:St)(x:V)(H1:Hp)(Q:VK):Prop
 | mk (a dx fs) (e0:Ap!) (e1:pe!) (e2:Mu! fs.lookup) (e3:C4! t (λvs H2=>sp (x::QY!) H2 Q E))
def Sv(C:Addr)(m:Str)(sp:Sp)(RV:C!)(E:XK)(ta:TE)(t:TA):TE:=Np! (Jnn C m sp RV E t σ x H1 Q)
def uN(C:Addr)(sp:Sp)(RV:C!)(E:XK)(t:TA):TE:=ke! (∀x dx,Hy! x->Hy! dx->dx≠x ->
 sp (i! x::QY!) (upd (Lh! dx DV! x) x (FY! [])) (λv H2=>v=.FG/\Is x H2) E)
def Binds(K:W.Frag)(fd:FuncData)(ps:P?)(ds:Z!):Prop :=
 ∀(s:Shared)(us:Z!),Gc!->DD! Om!=ps.length->BindsTo s fd KM! (ps.zip (Om!))
theorem Binds.all{K:W.Frag}{fd:FuncData}{ps:P?}(h:∀us:Z!,Wj!->jR! (bindArgs fd KM!)):cX!:=λs us _ hl=>by rw[AH] at hl ⊢;exact .of_eq (h us hl)
def Iy(CX:eF)(X:F!)(E:XK):Prop:=∀(AA:x!)(σ:St)(H:Hp)(s:Shared)(e:Value)(s':Shared),JT! (CX X.stack H s E e s') (X.xe e s')
universe S
theorem yA{X:F!}{AA:x!}{σ:St}{H:Hp}{s:Shared}{Q:VK}{us:Z!}{vs:C!}(F:OJ!)(hr:ST!)(hb:OD!)(hd:Oc!)(hx:Oi!)(I:K!)(r:KP!)(h:sp QY! H Q E):E9! (KR! call us):=by
 have r2:Vals (vs++RV) (Om!):=r.append hd;have hl:DD! Om!=ps.length:=G? r2.length (mH! h)
 refine qc! YW (F.run X.A X.stack s H KM! (Om!) QY! Q E hr I.ie (hb s us I.VW hl) r2 h);cases r with | error e=>exact hx AA σ H s e s' I hq | ok fl =>cases fl with | ret u=>exact I.after hq | next=>exact Rv! | brk=>exact Rv! | cont=>exact Rv!
theorem Br{X:F!}(F:OJ!)(hr:ST!)(hg:FC!)(hm:YW! Ly!)(hk:W.keepIn Kx Ly!=true)(hb:OD!)(hd:Oc!)(hx:Oi!)(ha:N9!)(bE:DU!:=by decide)(he:K7!:=by rfl)(VQ:TJ!:=by rfl) : m9! (Jn2 sp RV E t):=by intro AA s σ H Q I h;refine sE!;refine Y' (h₀:=X.base) I.ok.mod.cI hk (wX! (λus s1 ⟨vs,H1,I1,r,q⟩=>L? I1.VW)) he VQ;exact yA F hr hb hd hx I1 r q
theorem Aw{X:F!}{pl:Sem Bool}(he:ZY!)(c:UE!)(hm:nX Kx C m f)(F:OJ!)(hr:ST!)(hb:OD!)(hd:Oc!)(hx:Oi!)(ha:N9!)(o5:K7!:=by rfl)(VQ:TJ!:=by rfl)(ht:eval (.Call Sw! EV! [] pos) X.env=(do
  let ov <-v9!
  standAt apos.atName
  let(f,first) <-holding [ov] (getMethod ov m pl)
  callWith pos f first (ef! EV!) (wa! pos)):=by rfl) :
 fg! Sw! EV! (Sv C m sp RV E ta t):=by
 intro AA s σ H Q I h
 refine W.methodCall_KW (pl:=pl) SV! ht
 rintro u s1 ⟨x,H1,I1,rx,a,dx,fs,ex,ea,l,q⟩
 subst ex
 obtain rfl:DE!:=rx
 refine La I1 ea c hm l ?_
 refine Y' (first:=Fe!) (h₀:=X.base) I.ok.mod.cI hm.kp (EK (ha pos AA s1 σ H1 _ I1 q) λus s2 ⟨vs,H2,I2,r,q2⟩=>L? I2.VW) o5 VQ
 exact yA (us:=Aj!::us) (vs:=Aj!::vs) F hr hb hd hx I2 (C? rfl r) q2
theorem Cq{X:F!}{pl:Sem Bool}(he:ZY!)(c:UE!)(hm:nX Kx C m f)(F:OJ!)(hr:ST!)(hb:OD!)(hd:Oc!)(hx:Oi!)(ht:eval (.Call Sw! [] [] pos) X.env=(do
  let ov <-v9!
  standAt apos.atName
  let(f,first) <-holding [ov] (getMethod ov m pl)
  callWith pos f first (ef! []) (wa! pos)):=by rfl) :
 fg! Sw! [] (Sv C m sp RV E ta Nd):=by
 intro AA s σ H Q I h
 refine W.methodCall_KW (pl:=pl) SV! ht
 rintro u s1 ⟨x,H1,I1,rx,a,dx,fs,ex,ea,l,q⟩
 subst ex
 obtain rfl:DE!:=rx
 refine La I1 ea c hm l ?_
 exact W.callWith_K0 (first:=Fe!) I1.VW hm.kp (yA (us:=Fe!) (vs:=Fe!) F hr hb hd hx I1 (Gd! rfl) q)
structure Mk(K:W.Frag)(C f:Addr):Prop where
 makes:Pw! W.makesIn
 init:cQ! fn!
 fn:m5!
 kp:W.keepIn K GH!=true
theorem Yn{X:F!}{AA:x!}{σ:St}{H:Hp}{s:Shared}{Q:VK}{us:Z!}{vs:C!}(M:Mk Kx C f)(F:OJ!)(hr:cK! X.A)(hb:OD!)(hd:Oc!)(hx:Oi!)(I:K!)(r:KP!)(h:∀x dx,t? x->t? dx->dx≠x->sp (i! x::QY!) (upd (Bl! dx DV! x) x (FY! [])) (λv H2=>v=.FG/\Is x H2) E) : E9! (call (V! C) us):=by
 have hq:=h (Fa!) s.heap.objs.size (I.DP.fresh (EX _)) (I.DP.fresh (ZG _)) (BK (KZ _));have I2:=Inv.AQ (C:=C) I;have r2:Vals (Vt! V.ref::QY!) (aT!::(Om!)):=C? rfl (r.append hd);have hl:DD! (aT!::us++ds)=ps.length:=by have e:=r2.length;rw[mH! hq] at e;exact e.symm
 refine YW (Jg4 (f:=f) I.VW M.makes M.init (KU.mp M.fn) (HH (F.run _ X.stack _ _ (FV! (aT!::us)) (aT!::(Om!)) _ _ E (hr.make C us []) (I2.ie.make C us []) (hb _ (aT!::us) I2.VW hl) r2 hq) λr s' YE=>?_));cases r with | error e=>exact hx AA σ _ _ e s' I2 YE | ok fl =>cases fl with | ret u =>obtain⟨v,H',I3,rv,ev,q3⟩:=I2.after YE;subst ev;exact A! rv (AA! (Vt! V.ref) H' I3 q3) | next=>exact gB! YE | brk=>exact gB! YE | cont=>exact gB! YE
theorem Pk{X:F!}(M:Mk Kx C f)(F:OJ!)(hr:cK! X.A)(hg:FC!)(hm:YW! GH!)(hb:OD!)(hd:Oc!)(hx:Oi!)(ha:N9!)(bE:DU!:=by decide)(he:K7!:=by rfl)(VQ:TJ!:=by rfl) : m9! (uN C sp RV E t):=by intro AA s σ H Q I h;refine sE!;refine Y' (h₀:=X.base) I.ok.mod.cI M.kp (wX! (λus s1 ⟨vs,H1,I1,r,q⟩=>L? I1.VW)) he VQ;exact Yn M F hr hb hd hx I1 r q
theorem Jga{X:F!}(M:Mk Kx C f)(F:OJ!)(hr:cK! X.A)(hg:FC!)(hm:YW! GH!)(hb:OD!)(hd:Oc!)(hx:Oi!)(bE:DU!:=by decide):fg! (Gr! x p) [] (uN C sp RV E Nd):=by intro AA s σ H Q I h;refine sE!;exact W.callWith_K0 I.VW M.kp (Yn (us:=[]) M F hr hb hd hx I S! h)
universe E
universe S
universe E
structure Ap(N P:P?)(sc:Scope):Prop where
 kind:Mc!:=by rfl
 co:sc.isCoroutine=false:=by rfl
 gen:sc.isGenerator=false:=by rfl
 nd:N.Nodup:=by decide +kernel
 pre:N.take P.length=P:=by rfl
 par:∀x∈P,KV!\/l9!:=by decide +kernel
 lq:∀y∈sc.names,y.2≠Jg!:=by decide +kernel
theorem Ur{kindOf:io!}{x:Str}:∀{binds:Pg!} {m:q?},(∀v,(x,v)∉binds)->bindL kindOf binds m x=m x
 | [],_,_=>rfl
 | (n,v)::r,m,h=>by unfold bindL;rw[Ur λw hw=>h w (AL! hw)];split;(·(have:x≠n:=by rintro rfl;exact h v ZL);simp[this]);.rfl
theorem Ut{kindOf:io!}{x:Str}:∀{binds:Pg!} {m:q?},(∀v,(x,v)∉binds)->bindC kindOf binds m x=m x
 | [],_,_=>rfl
 | (n,v)::r,m,h=>by unfold bindC;rw[Ut λw hw=>h w (AL! hw)];split;(.rfl);·(have:x≠n:=by rintro rfl;exact h v ZL);simp[this]
theorem Us{kindOf:io!}{x:Str}{v:Value}:∀{P:P?} {vs:Z!} {i:Nat} {m:q?},P.Nodup->P[i]?=some x->vs[i]?=some v->VB! kindOf -> bindL kindOf (P.zip vs) m x=some v
 | [],_,_,_,_,h,_,_=>DZ!
 | _::_,[],_,_,_,_,h,_=>DZ!
 | p::P,w::vs,0,m,nd,h1,h2,hk=>by simp at h1 h2;subst h1;subst h2;show tQ! bindL p;unfold bindL;rw[Ur λv hv=>(AV.mp nd).1 (R_ hv).1,AE hk];simp
 | p::P,w::vs,i+1,m,nd,h1,h2,hk=>by show tQ! bindL x;unfold bindL;exact Us (i:=i) (AV.mp nd).2 (by simpa using h1) (Wl!) hk
theorem Uu{kindOf:io!}{x:Str}{v:Value}:∀{P:P?} {vs:Z!} {i:Nat} {m:q?},P.Nodup->P[i]?=some x->vs[i]?=some v->kindOf x≠w? QH! -> bindC kindOf (P.zip vs) m x=some v
 | [],_,_,_,_,h,_,_=>DZ!
 | _::_,[],_,_,_,_,h,_=>DZ!
 | p::P,w::vs,0,m,nd,h1,h2,hk=>by simp at h1 h2;subst h1;subst h2;show tQ! bindC p;unfold bindC;rw[Ut λv hv=>(AV.mp nd).1 (R_ hv).1,AB hk];simp
 | p::P,w::vs,i+1,m,nd,h1,h2,hk=>by show tQ! bindC x;unfold bindC;exact Uu (i:=i) (AV.mp nd).2 (by simpa using h1) (Wl!) hk
def start(N:P?)(vs:C!):St:=vs.map some++List.replicate (N.length-vs.length) none
def Jh(CX:eF)(P:Program)(w:World)(K:W.Frag)(mg:q?)(base:Heap)(N:P?)(qual:Str)(scope:Scope)(f:Addr)(cd:Value)(A:Around)(outer:A7!)(s:Shared)(H:Hp)(E:XK):Cx K where
 prog:=P
 w:=w
 mg:=mg
 base:=base
 A:=A.deeper (tI!)
 N:=N
 HR:=s
 VE:=H
 env:=tI!
 outer:=outer
 stack:=tI!::outer
 ex:=[]
 calm:=true
 fn:=λ_=>true
 pn:=[]
 xe:=λe s'=>wpAny (model P w) (xu! scope cd) (leaving (envOfC qual scope s.heap.objs.size f cd) e) (λ_ uu=>CX outer H s E e uu) (λe' uu=>CX outer H s E e' uu) s'
theorem Z7{sc:Scope}{n:Nat}{x:Str}(h:l9!):∃c,U7! (cellsFrom n sc.names []).lookup:=by have q:=W.cellsFrom_some sc.names n [] G9!;exact JE.mp q
theorem Tw{CX:eF}{P:Program}{w:World}{K:W.Frag}{mg:q?}{base:Heap}{N ps:P?}{qual:Str}{scope:Scope}{f:Addr}{cd:Value}{A:Around}{outer:A7!}{s s1:Shared}{H:Hp}{E:XK}{us:Z!}{vs:C!}(S:Ap N ps scope)(hd:Ol!)(e0:oa!)(hl:fo!)(r:KP!)(x:InCallC s s.heap.objs.size (bindL (envOfC qual scope s.heap.objs.size f cd).kindOf ff! Ok!) (cellsFrom (Fa!) scope.names []) (bindC (envOfC qual scope s.heap.objs.size f cd).kindOf ff! Ok!) s1) : Inv (wj! cd) [] QF! H s1:=by
 have VQ:ps.length<=N.length:=by have:=DP! S.pre;rw[DG] at this;lia
 obtain⟨h1,tk,rfl,hk⟩:=x.done;have oW:∀b:Addr,b∉(Jh CX P w K mg base N qual scope f cd A outer s H E).ex:=λb z=>i5! (show b∈wb! from z);refine⟨⟨e0.mod,S.kind,rfl,rfl,ii,λy z c h1 h2=>?_,Jn!,λy c _ h=>?_,λ_=>hd,Around.frames_deeper e0.frames,L! C9!,λb z=>M6! z oW b,e0.bs,e0.cR,λb _ _=>oW b,λb z=>M6! z oW b,e0.MX,e0.dz⟩,rfl,e0.bare,Un.kept hk,WF x.toInCall.ns (λi y v h1 h2 h3=>?_),λy c h=>e? (x.cell y c h),e0.DP.fresh (ZG _),λy c h=>?_,λp hp=>i5! (show p∈([]:x!) from hp),e0.DP.kept hk,?_⟩;.exact name_of_addr x.apart (IZ h1) (IZ h2)
 .have hy:Kx! scope.names.lookup scope.names.lookup:=hy;rcases hy with hy|hy;(.exact Z7 hy);.exact GS! (S.lq _ (IZ hy))
 .exact DT (x.above y c (IZ h))
 ·(have hi:i<vs.length:=by unfold start at h2;by_cases hi:i<vs.length;(.exact hi);.rw[List.getElem?_append_right (by simpa using hi)] at h2;rw[List.getElem?_replicate] at h2;split at h2<;>cases h2);(have ha:vs[i]?=some v:=by unfold start at h2;rw[PL (by simpa using hi),ZH] at h2;cases e:vs[i]? with | none=>rw[e] at h2;cases h2 | some a=>rw[e] at h2;cases h2;rfl);obtain⟨u,hu,rv⟩:=r.get ha;(have hp:ps[i]?=some y:=by rw[<-S.pre,BM! List.getElem?_take_of_lt];exact h1);(have ndP:ps.Nodup:=G? S.pre (S.nd.sublist (List.take_sublist _ _)));refine PP u rv;rcases S.par y (ZP hp) with k|k;(.exact CL! k (Us ndP hp hu k));.obtain⟨c,e⟩:=Z7 (n:=Fa!) k;refine Ld! DH! c e ?_;have q:=x.cell y c e;rw[Uu ndP hp hu (by show scope.names.lookup y≠_;rw[k];decide)] at q;exact q
 .exact e0.DP.fresh (DT (x.above y c (IZ h)))
 .unfold start;show _=N.length;rw[ZE,ZA,List.length_replicate];lia
theorem Jlh{CX:eF}{P:Program}{w:World}{K:W.Frag}{mg:q?}{base:Heap}{k:Nat}{f:Addr}{name qual:Str}{params:Arguments}{body:Xw!}{scope:Scope}{dV kV doc pm ED ct oc:Value}{an od:GQ!}{gA:rb!}{N ps:P?}{sp:Sp}(lk:U! K.lookup f ⟨oc,od,.func (tK!),gA⟩)(RE:W.codeIn K ED qual=true)(S:Ap N ps scope)(len:mg!)(VG:∀(A:Around) (outer:A7!) (s:Shared) (H:Hp) (vs:C!) (Q:VK) (E:XK),q3! scope QD! (RF (WK! CX ED) body t)) : tE! CX (k+1) f (tK!) ps sp:=by
 refine A! len (λA outer s H args us vs Q E hr e0 hb r c8=>?_);have hl:=len _ _ _ _ c8;have KX:Gc!:=ol! e0.mod.cI.keeps;have lim:s.heap.NoLimit:=ol! e0.mod.nolimit.keeps;have IX:∀y∈ps.zip us,U! scope.names.lookup y.1 QH!\/(U! scope.names.lookup y.1 Gp!/\((cellsFrom (Fa!) scope.names []).lookup y.1).isSome=true):=λ⟨n,v⟩ hy=>by rcases S.par n (R_ hy).1 with q|q;(.exact H! q);.exact No q (v! W.cellsFrom_some _ (c? q))
 refine codeAny_call_function hr.depth (d! KX lk) rfl S.co S.gen rfl (W.codeRec_of KX RE) (hb _ _ _ _ ?_);refine wpAny_newFunctionEnv_cells S.kind IX λenv he s1 x=>?_;subst he;refine A! (lim.keeps x.toInCall.keep) (codeAny_func ?_);obtain⟨t,ht,hq⟩:=VG A outer s H vs Q E (hr.deeper _) c8;have I:Inv (wj! ED) [] QF! H s1:=Tw S hr.hd e0 hl r x;refine EO (ht [] s1 QF! H _ I hq) (λfl s' hs=>?_) λe s' hs=>hs;have fin:∀{EV:St} {H':Hp} {v:V} {u:Value},qT! (wj! ED) EV->A9!->NO!->sS! outer P w :=λ{EV H' v u} J rv q=>⟨v,H',J.os,J.bare,J.base,J.DP,rv,q⟩;cases fl with | ret u =>obtain⟨v,EV,H',J,rv,q⟩:=hs;exact fin J rv q | next =>obtain⟨EV,H',J,q⟩:=hs;exact fin (v:=V.FG) (u:=Value.none) J rfl q | brk =>obtain⟨_,_,_,q⟩:=hs;exact iR! | cont =>obtain⟨_,_,_,q⟩:=hs;exact iR!
universe S
variable {X:Cx Kx}{x:Str}{p pos:Pos}{e:Expr}{es:List Expr}{t:TA}{id T:String}{r:List V->Hp->VK->Prop}
def tCB(r:C!->LY!)(t:TA):TE:=ke! (r vs H1 Q)
theorem A7(hc:ex! id r)(hg:FC!)(hm:mj!)(hv:re bootBuiltins x AS! id)(ha:N9!)(hn:Qh!:=by decide)(bE:DU!:=by decide)(he:K7!:=by rfl)(VQ:TJ!:=by rfl):m9! (tCB r t):=by intro AA s σ H Q I h;refine IG (Re I hg hm hv ?_ hn bE);exact PyProof.Rows.callWith_builtin1 (mV! (tc! hc vs us)) he VQ
theorem Eg(hc:Fu X (BB! T) r)(hg:FC!)(hm:mj!)(hv:re bootBuiltins x BB! T)(ha:N9!)(hn:Qh!:=by decide)(bE:DU!:=by decide)(he:K7!:=by rfl)(VQ:TJ!:=by rfl):m9! (tCB r t):=by intro AA s σ H Q I h;refine IG (Re I hg hm hv ?_ hn bE);exact OF (mV! (tc! hc vs us)) he VQ
universe E
universe S
variable [DecidableEq κ]
def Cf(kvs:Ae!)(k:κ):wE:=ZD! kvs.find? wK!
def putK(kvs:Ae!)(k:κ)(v:V):Ae! :=
 QS! (nd!=true) (kvs.map (o3! (kv.1,v))) (kvs++[(k,v)])
def Dr(kvs:Ae!)(k:κ):Ae!:=kvs.filter λkv=>p? (kv.1≠k)
theorem Lk{p:κ×V}{r:Ae!}{k:κ}(e:Ei!):Cf (p::r) k=some p.2:=by simp[Cf,BX,e]
theorem Ll{p:κ×V}{r:Ae!}{k:κ}(e:¬Ei!):Cf (p::r) k=Cf r k:=by simp[Cf,BX,e]
theorem Lm(k:κ):∀kvs:Ae!,nd!=(Cf kvs k).isSome
 | []=>rfl
 | p::r=>by rw[List.any_cons];by_cases e:Ei!;(.simp only[Lk e,h1!,Bool.true_or,Option.isSome_some]);.rw[Ll e,Hz!,Bool.false_or];exact Lm k r
theorem Gi(kvs:Ae!)(k:κ)(v:V):(putK kvs k v).length<=kvs.length+1:=by
 unfold putK;split;.rw[ZA];lia
 .rw[ZE,BR,B_];lia
theorem Hk{kvs:Ae!}{k:κ}(v:V)(h:Cf kvs k=none):putK kvs k v=kvs++[(k,v)]:=by unfold putK;rw[Lm,h];exact J6!
theorem RN.KY(r:RN o u):o.isSome=u.isSome:=by cases o with | none=>(cases u with | none=>rfl | some _=>exact Tc!) | some _=>cases u with | none=>exact Tc! | some _=>rfl
theorem RN.getD(r:RN o u)(rd:BL! d d'):RelV (o.getD d) (u.getD d'):=by cases o with | none=>(cases u with | none=>exact rd | some _=>exact Tc!) | some _=>cases u with | none=>exact Tc! | some _=>exact r
theorem KV.val(r:Hh!)(k:κ):RN fy! (valueAt vs k):=by unfold KV at r;induction r with | nil=>exact True.intro | @cons p q ps qs h t ih =>obtain⟨h1,h2⟩:=h;by_cases e:Ei!;(.have e':q.1=k:=h1.symm.trans e;(have b:valueAt (q::qs) k=some q.2:=by simp[valueAt,BX,e']);rw[Lk e,b];exact h2);.have e':¬q.1=k:=aL!;(have b:valueAt (q::qs) k=valueAt qs k:=by simp[valueAt,BX,e']);rw[Ll e,b];exact ih
theorem KV.any(r:Hh!)(k:κ):nd!=vs.any wK!:=by unfold KV at r;induction r with | nil=>rfl | cons h t ih=>rw[List.any_cons,List.any_cons,ih,h.1]
theorem KV.k_(r:Hh!)(k:κ)(ry:B3!) : KV (kvs.map (o3! (kv.1,y))) (vs.map (o3! (kv.1,u))):=by unfold KV at r ⊢;induction r with | nil=>exact S! | @cons p q ps qs h t ih =>rw[AJ,AJ];refine Ge! ?_;obtain⟨h1,h2⟩:=h;by_cases e:Ei!;(.rw[jp,AE (h1.symm.trans e)];exact A! h1 ry);.rw[SC,AB (aL!)];exact aP!
theorem KV.put{kvs:Ae!}{vs:hn!}(r:Hh!)(k:κ){y:V}{u:Value}(ry:B3!):KV (putK kvs k y) (stored vs k u):=by
 unfold putK stored;rw[r.any k];by_cases e:(vs.any wK!)=true;.rw[jp,jp];exact r.k_ k ry
 .rw[SC,SC];exact Paired.snoc r (s? ry)
theorem KV.drop{kvs:Ae!}{vs:hn!}(r:Hh!)(k:κ):KV Wk! (without vs k):=by unfold KV at r ⊢;unfold Dr without;induction r with | nil=>exact S! | @cons p q ps qs h t ih =>obtain⟨h1,h2⟩:=h;rw[EA,EA];by_cases e:Ei!;(·(have a:¬mb! p.1:=Wm!);(have b:¬mb! q.1:=by simp[h1.symm.trans e]);rw[AB a,AB b];exact ih);.have e':¬q.1=k:=aL!;(have a:mb! p.1:=Wm!);(have b:mb! q.1:=by simp[e']);rw[AE a,AE b];exact Ge! aP!
theorem KV.length(r:Hh!):We!:=YY!
theorem Jhz(kvs:Ae!)(k:κ):(Dr kvs k).length<=kvs.length:=NK!
universe E
theorem Oi(r:RelV (kV k) u):(Bh P w).is k u=true:=by cases k with | inl i=>obtain⟨t,e⟩:=F9! T4!;subst e;exact Zh P w i t | inr x=>obtain⟨t,e⟩:=F9! p6!;subst e;exact Zg P w x t
theorem Tu:∀{ks:Cv!} {us:Z!},Vals (ks.map kV) us->ItemsAre V2! ks us
 | [],_,r=>by rw[GF] at r;cases r;exact S!
 | k::ks,_,r=>by rw[AJ] at r;cases r with | cons h t=>exact C? (Oi h) (Tu t)
abbrev KT(H:Hp):Uf AF! CX!:=MO! (λp q=>p.1=q.1/\Ch K? (.BE (Wu! kV))/\BL! p.2 u?)
theorem KT.val(r:Gk!)(k:Cv!):RN fy! ((atKey xs k).map pu):=by induction r with | nil=>exact True.intro | @cons p q ps qs h t ih =>obtain⟨h1,_,h2⟩:=h;by_cases e:Ei!;(.have e':q.1=k:=h1.symm.trans e;(have b:atKey (q::qs) k=some q.2:=by simp[atKey,BX,e']);rw[Lk e,b];exact h2);.have e':¬q.1=k:=aL!;(have b:atKey (q::qs) k=atKey qs k:=by simp[atKey,BX,e']);rw[Ll e,b];exact ih
theorem KT.k_(r:Gk!)(k:Cv!)(ry:B3!) : KT H (kvs.map (o3! (kv.1,y))) (xs.map (putAt k u)):=by induction r with | nil=>exact S! | @cons p q ps qs h t ih =>rw[AJ,AJ];refine Ge! ?_;obtain⟨h1,h2,h3⟩:=h;unfold putAt;by_cases e:Ei!;(.rw[jp,AE (h1.symm.trans e)];exact⟨h1,h2,ry⟩);.rw[SC,AB (aL!)];exact⟨h1,h2,h3⟩
theorem KT.put{H:Hp}{kvs:AF!}{xs:CX!}(r:Gk!)(k:Cv!){b:Addr}{y:V}{u:Value}(hb:RZ!)(ry:B3!) : KT H (putK kvs k y) (storedH xs k b u):=by
 have e:nd!=(atKey xs k).isSome:=UF Lm (r.val k).KY Option.isSome_map
 unfold putK storedH;rw[e];by_cases q:(atKey xs k).isSome=true;.rw[AE q,AE q];exact r.k_ k ry
 .rw[AB q,AB q];exact Paired.snoc r (HC! hb ry)
theorem KT.keeps(r:Gk!)(ht:∀b ys,ma! (O0! b ys) ys):KT H' kvs xs :=Jr6 r λ_ _ z=>⟨z.1,G! ht z.2.1,LX!⟩
universe S
theorem Jk7(ok:DS!)(e:Rd H a u):Ig! u:=e.ok ok
theorem Mx(ok:DS!)(e:mK!):mh! (gS! (pt! h.DictOf)) :=Cm! (Ig! l3!) (Jk7 ok e)
theorem uI(ok:DS!)(e:Sn!):mh! (gS! (pt! h.DictOf)):=Mx ok (c? e)
theorem Jz(ok:DS!)(e:Fd! (.BE (ks.map kV))):(tupleKind (Bh P w)).is h ks a:=by obtain⟨_,its,r,o,h1,h2,n,h3⟩:=HF! (Ig! (.BE (ks.map kV))) (ok a _ e);exact⟨o,its.toArray,n,h1,h2,h3,Gs! (Tu r)⟩
theorem Mw(ok:DS!)(e:Jc! a .dT kvs):Vy!/\P3! /\ ∃xs,Gk!/\bo! h.DictOfH:=by
 obtain⟨z,y,xs,r,o,es,ep,h1,h2,h3,h4,h5⟩:=HF! (Ig! (.dT kvs)) (Jk7 ok e);refine⟨z,y,xs,r,o,es,ep,h1,h2,h3,h4,CU!,h5⟩;have all:∀{l:AF!} {m:CX!},KT H l m->∀x∈m,(tupleKind (Bh P w)).is h x.1 Lt!:=by intro l m q;induction q with | nil=>intro x hx;exact nomatch hx | @cons p q ps qs hq t ih =>intro x hx;rcases ZM hx with e|hx;(.subst e;exact h2! Jz ok hq.1 hq.2.1);.exact ih x hx
 exact all r x hx
theorem Ov(ok:DS!)(e:aJ!):Vy!/\P3! /\ ∃xs,Gk!/\bo! h.DictOfH:=Mw ok (c? e)
universe E
def EL(H:Hp)(a:Addr)(y:V)(r:wE):Prop :=
 (∃kvs k,mK!/\y=kV k/\r=Cf kvs k)\/∃kvs k b,Jc! a .dT kvs/\XE!/\RZ!/\r=Cf kvs k
def HF(H:Hp)(a:Addr)(y v:V)(H':Hp):Prop :=
 (∃kvs k,Sn!/\y=kV k/\fq!/\H'=A1! H a .dK fl!) \/
 ∃kvs k b,aJ!/\XE!/\RZ!/\fq!/\H'=A1! H a .dT fl!
theorem EL.k{H:Hp}{a:Addr}{kvs:Bx!}{k:Key}(e:Sn!):EL H a (kV k) fy!:=H! (AA! kvs k (H! e) rfl)
theorem EL.t{H:Hp}{a b:Addr}{kvs:AF!}{k:Cv!}(e:aJ!)(eb:RZ!):EL H a Fm! fy!:=L! ⟨kvs,k,b,H! e,rfl,eb,rfl⟩
theorem HF.k{H:Hp}{a:Addr}{kvs:Bx!}{k:Key}{v:V}(e:Sn!)(hl:fq!):HF H a (kV k) v (Bl! a .dK fl!):=H! ⟨kvs,k,e,rfl,hl,rfl⟩
theorem HF.t{H:Hp}{a b:Addr}{kvs:AF!}{k:Cv!}{v:V}(e:aJ!)(eb:RZ!)(hl:fq!) : HF H a Fm! v (Bl! a .dT fl!):=L! ⟨kvs,k,b,e,rfl,eb,hl,rfl⟩
universe S
theorem Inv.big(I:K!):sysModules<s.heap.objs.size:=by have h:mainGlobals<s.heap.objs.size:=(I.mod.glob.keeps I.bk).lt;exact RP (l!) h
theorem Um(hu:IZ!)(I:K!)(g:EL H a y N0!)(ry:B3!)(h:cE! My! (BL! v w')) : Ls! (getItem SB u):=by
 rcases g with⟨kvs,k,e,ey,l⟩|⟨kvs,k,b,e,ey,eb,l⟩;.subst ey;obtain⟨z,hd,vs,rel,dd⟩:=KQ!;obtain⟨w',hw,RC⟩:=sW! (valueAt vs k) (q! l (rel.val k));exact wpAny_getItem_of OW! dd.mapOf hw (h w' _ (I.tok _) RC)
 .subst ey;cases UA!;obtain⟨z,hd,xs,rel,dd⟩:=Ne!;obtain⟨w',hw,RC⟩:=sW! ((atKey xs k).map pu) (q! l (rel.val k));obtain⟨p,hp,GY⟩:=Option.map_eq_some_iff.mp hw;refine wpAny_getItem_heap aE! cv! dd hp ?_;rw[GY];exact h w' _ (I.tok _) RC
theorem Jri(hu:IZ!)(I:K!)(g:bu!)(ry:B3!)(h:∀s',My!->Q (Tk o.isSome) s') : Ls! (compareOp .In u SB):=by
 rcases g with⟨kvs,k,e,ey,l⟩|⟨kvs,k,b,e,ey,eb,l⟩;.subst ey;obtain⟨z,hd,vs,rel,dd⟩:=KQ!;refine wpAny_in_of OW! hd dd.mapOf ?_;rw[<-gq!,<-l];exact ks!
 .subst ey;cases UA!;obtain⟨z,hd,xs,rel,dd⟩:=Ne!;refine wpAny_in_heap aE! cv! hd dd ?_;have q:=gq!;rw[Option.isSome_map] at q;rw[<-q,<-l];exact ks!
theorem Jkn(hu:IZ!)(I:K!)(g:bu!)(ry:B3!)(h:∀s',My!->Q (Tk (!o.isSome)) s') : Ls! (compareOp .NotIn u SB):=by
 rcases g with⟨kvs,k,e,ey,l⟩|⟨kvs,k,b,e,ey,eb,l⟩;.subst ey;obtain⟨z,hd,vs,rel,dd⟩:=KQ!;refine wpAny_notIn_of OW! hd dd.mapOf ?_;rw[<-gq!,<-l];exact ks!
 .subst ey;cases UA!;obtain⟨z,hd,xs,rel,dd⟩:=Ne!;refine wpAny_notIn_heap aE! cv! hd dd ?_;have q:=gq!;rw[Option.isSome_map] at q;rw[<-q,<-l];exact ks!
theorem Mz(I:K!)(mu:p8 (H a))(hs:eg! a)(he:∃q,KB! q)(new:ZQ! (CI! a ob) a ob) : BI! (CI! a ob) QJ! :=I.write (x:=a) (e:=a) mu HJ! (λb q hb z=>(hs.2 b hb).trans z) he new
theorem Jh0(z:Vy!)(hd:P3!)(rel:Hh!)(dd:pt! h'.DictOf) : EB P w H' h' a l3!:=⟨z,hd,vs,rel,dd⟩
theorem Ul{H':Hp}{Q:D9!}(hu:IZ!)(I:K!)(g:HF H a y v H')(ry:B3!)(rv:BL! v r)(h:l0! KY!) : Ls! (setItem SB u r):=by
 rcases g with⟨kvs,k,e,ey,l,eH⟩|⟨kvs,k,b,e,ey,eb,l,eH⟩;.subst ey eH;obtain⟨z,hd,vs,rel,dd⟩:=O8! uI;(have hz:vs.length<=sizeLine:=MY! rel.length);(have hl:Be! (putK kvs k v).length:=Co! (Gi kvs k v));refine wpAny_setItem_pairs (hsz:=hz) OW! dd λh' iH hs=>h _ ?_;have he:∃q,KB! q:=let⟨q,_,_,hq,_⟩:=iH;A! q hq;exact p0! hs he (Jh0 hl hd (rel.put k rv) iH)
 .subst ey eH;cases UA!;obtain⟨z,hd,xs,rel,dd⟩:=O8! Ov;(have hz:EE!:=MY! NA!);(have hl:Be! (putK kvs k v).length:=Co! (Gi kvs k v));refine wpAny_setItem_heap (hsz:=hz) aE! cv! dd λh' iH hs=>h _ ?_;obtain⟨q,es,ep,hq,h2,h3,h4,_,h5⟩:=iH;refine p0! hs (A! q hq) ⟨hl,hd,_,(rel.put k eb rv).keeps λc ys ec=>?_,q,es,ep,hq,h2,h3,h4,h5⟩;rw[Ac (Qs ec e (λz=>WO!))];exact ec
universe E
universe S
theorem Jpe(I:K!)(e:Sn!)(ry:RelV (kV k) u)(l:ZK!)(hm:more=[]\/∃x,more=[x])(h:cE! (BI! (Bl! a .dK Wk!) s') (BL! v w')):Z5! "dict.pop" (Aj!::u::more):=by
 obtain⟨z,hd,vs,rel,dd⟩:=O8! uI;obtain⟨w',hw,RC⟩:=sW! (valueAt vs k) (F8! l (rel.val k));have hp:(keyPart u).isSome=true:=by cases k with | inl i=>obtain⟨t,q⟩:=eZ! T4!;subst q;rfl | inr x=>obtain⟨t,q⟩:=eZ! p6!;subst q;rfl
 have ha:argsOk "dict.pop" (FV! (Aj!::u::more)):=by rcases hm with q|⟨x,q⟩;(.subst q;exact PySem.F.args_dict_pop_2 _ _);.subst q;exact G! PySem.F.args_dict_pop_3 _
 refine Y_ KJ dd.typeIs PySem.F.entry_dict_pop ha (meets_dict_pop_there Km! a OW! more hm hp) ⟨vs,w',dd,MY! rel.length,hw,λh' iH hs=>h w' _ ?_ RC⟩;have he:∃q,KB! q:=let⟨q,_,_,hq,_⟩:=iH;A! q hq;exact p0! hs he (Jh0 (A_ (Jhz kvs k) z) hd (rel.drop k) iH)
theorem Jpf(I:K!)(e:mK!)(h:∀t s',My!->Q (T! kvs.length t) s'):Z5! "len" Fe!:=by obtain⟨z,hd,vs,rel,dd⟩:=KQ!;refine call_len_dict hd dd (by rw[<-rel.length];rw[DI] at z;lia) ?_;rw[<-rel.length];exact h _ _ (I.tok _)
universe E
def Jpl(i:Expr):Prop:=∀ov iv,subscripted i false ov iv=operate [ov,iv] (getItem ov iv)
theorem Jin{prog:Program}{w:World}{A:Around}{E:M?}{s:Shared}{env:Env}{value slice:Expr}{pos:Pos}{T id:String}{Q:M?}(hl:typeLookup (BB! T) "__getitem__"=pure (ws! id))(hs:Jpl slice)(h:Tv! (eval value env) (λo EM=>ev! (eval slice env) (λi VZ=>VZ.TypeIs o T/\as! (getItem o i) VZ) EM)) : Ab! (eval (UV! value slice pos) env):=by
 refine Subscript_ (EO h (λo EM h₁=>EO h₁ (λi VZ lI=>?_) fD!) fD!);obtain⟨hT,lI⟩:=lI;unfold subscriptTail;refine H5!;rw[getitemInPython_of_ne hT.not_modules];refine GT! wpAny_specialOf hT hl;have fin:ev! (subscripted slice false o i) (λr qH=>as! (letTemporaryGo value o r >>= λ_=>pure r) qH) VZ:=I! (hs o i) (wpAny_operating (EO lI (λr qH zD=>xz wpAny_letTemporaryGo (ZS zD)) fD!))
 first | exact ZS (ZR fin) | exact U2! (ZR fin) | exact ZR fin
theorem Z4(I:K!)(g:bu!):s.TypeIs SB Da!:=by
 rcases g with⟨kvs,k,e,_,_⟩|⟨kvs,k,b,e,_,_,_⟩;.obtain⟨_,_,vs,_,dd⟩:=KQ!;exact dd.typeIs
 .obtain⟨_,_,xs,_,dd⟩:=Ne!;exact dd.typeIs
inductive Jno  (x:V) (y:V) (H2:Hp) (Q:VK):Prop
 | mk (a v) (e0:Ap!) (e1:ch! N0!) (e2:Q v H2)
def Sw(td ty:TE):TE:=Zq! (S4! (Jno  x y H2 Q))
inductive Jpr  (x:V) (y:V) (H2:Hp) (Q:VK):Prop
 | mk (a o) (e0:Ap!) (e1:ch! o) (e2:Q (.bl o.isSome) H2)
def Jp5(ty td:TE):TE:=t2! ty (λy H1=>C4! td (λx H2=>Jpr  x y H2 Q))
inductive Jig  (x:V) (y:V) (H2:Hp) (Q:VK):Prop
 | mk (a o) (e0:Ap!) (e1:ch! o) (e2:Q (.bl (!o.isSome)) H2)
def Jim(ty td:TE):TE:=t2! ty (λy H1=>C4! td (λx H2=>Jig  x y H2 Q))
inductive Jnp  (x:V) (y:V) (v:V) (H3:Hp) (σ:St) (D:Ends):Prop
 | mk (a H4) (e0:Ap!) (e1:HF H3 a y v H4) (e2:PF! H4)
def Joc(td ty tv:TE):TS:=Qo! tv (λv H1=>C4! td (λx H2=>ty σ H2 λy H3=>Jnp  x y v H3 σ D))
def Jod(td ty tv:TE)(rd:aC!):TS:=MN! (td σ H λx H1=>S4! (∃a v,Ap!/\ch! N0! /\
 tv σ H2 λy2 H3=>rd v y2 H3 λz H4=>∃H5,HF H4 a y z H5/\PF! H5))
universe S
theorem Cs(hu:GZ!)(ho:Ia!)(hi:cN!)(hs:Jpl i:=by exact λ_ _=>rfl):GP! UV! o i (Sw td ty):=by intro AA s σ H Q I h;refine Jin PySem.F.slot_dict_getitem.lookup hs (Uv! ho (λu s1 ⟨x,H1,I1,rx,q1⟩=>iv! hi (λiv s2 ⟨y,H2,I2,ry,a,v,ex,g,q2⟩=>?_)));subst ex;obtain rfl:DE!:=rx;exact A! (Z4 I2 g) (c7! Um (Wy! ⟨v,H2,I3,RC,q2⟩))
theorem K6(hu:GZ!)(hi:cN!)(ho:Ia!):PC X .In i o (Jp5 ty td):=by intro AA s σ H Q I h;refine EK (t0! hi) λiv s1 ⟨y,H1,I1,ry,q1⟩=>jQ! ho;rintro u s2 ⟨x,H2,I2,rx,a,ov,ex,g,q2⟩;subst ex;obtain rfl:DE!:=rx;exact c7! Jri (λs3 I3=>AA! (.bl ov.isSome) H2 I3 q2)
theorem Eh(hu:GZ!)(hi:cN!)(ho:Ia!):PC X .NotIn i o (Jim ty td):=by intro AA s σ H Q I h;refine EK (t0! hi) λiv s1 ⟨y,H1,I1,ry,q1⟩=>jQ! ho;rintro u s2 ⟨x,H2,I2,rx,a,ov,ex,g,q2⟩;subst ex;obtain rfl:DE!:=rx;exact c7! Jkn (λs3 I3=>AA! (.bl (!ov.isSome)) H2 I3 q2)
theorem B9(hu:GZ!)(ho:Ia!)(hi:cN!)(hv:pV!)(hs:rG! value (some (UV! o i pos'))) : nx! [UV! o i pos'] value (Joc td ty tv):=by intro AA s σ H D I h;refine wpAny_Assign_Subscript (Uv! hv (λr s1 ⟨v,H1,I1,rv,q1⟩=>iv! ho (λu s2 ⟨x,H2,I2,rx,q2⟩=>EK (hi AA s2 σ H2 _ I2 q2) λiv s3 ⟨y,H3,I3,ry,a,H4,ex,g,q3⟩=>?_))) hs;subst ex;obtain rfl:DE!:=rx;exact Ul hu I3 g ry rv λs4 I4=>Ji! H4 I4 q3
theorem L8(hu:GZ!)(ho:Ia!)(hi:cN!)(hv:pV!)(vk:uB X op rd)(ha:∀ov iv new,augStore i ov iv new=(do holding [new,ov,iv] (setItem ov iv new);release [new,ov,iv] [];pure .next)):PS X (.AugAssign (UV! o i yN) op value pos) (Jod td ty tv rd):=by
 intro AA s σ H D I h
 refine wpAny_AugAssign_SubscriptAny (Uv! ho (λu s1 ⟨x,H1,I1,rx,q1⟩=>iv! hi (λiv s2 ⟨y,H2,I2,ry,a,v,ex,g,q2⟩=>?_))) ha
 subst ex
 obtain rfl:DE!:=rx
 refine c7! Um (Wy! (EK (hv AA s3 σ H2 _ I3 q2) λw2 s4 ⟨y2,H3,I4,ry2,q3⟩=>HD! (vk AA s4 σ H3 v y2 w' w2 _ I4 RC ry2 q3)))
 rintro w3 s5 ⟨z,H4,I5,rz,H5,g5,q4⟩
 exact Ul hu I5 g5 ry rz λs6 I6=>Ji! H5 I6 q4
universe E
theorem Jh1(h:Heap)(hb:sysModules<h.objs.size):EB P w H (h.push (t1! Da! .dict (#[]))) h.objs.size (.dK []) :=⟨sw,EE.mpr (Ne.symm (BK hb)),[],S!,Heap.DictOf.new h⟩
theorem Z2(h:Heap)(hb:sysModules<h.objs.size):EB P w H (h.push (t1! Da! .dict (#[]))) h.objs.size (.dT []) :=⟨sw,EE.mpr (Ne.symm (BK hb)),[],S!,_,#[],0,CN!,i6! rfl,rfl,rfl,CS⟩
def Jlx:TE:=λ_ H Q=>OI! (Bl! p .dK [])
def Jlw:TE:=λ_ H Q=>OI! (Bl! p .dT [])
universe S
theorem Fo:GP! .Dict [] [] Jlx:=λAA s σ H Q I h =>wpAny_Dict_empty (m4! (.dK []) (λ_ _ q=>SA!) (Jh1 s.heap I.big) (h _ (I.DP.fresh (ZG _))))
theorem Eo:GP! .Dict [] [] Jlw:=λAA s σ H Q I h =>wpAny_Dict_empty (m4! (.dT []) (λ_ _ q=>SA!) (Z2 s.heap I.big) (h _ (I.DP.fresh (ZG _))))
universe E
abbrev VV:Uf (List (V×V)) (List (Value×Value)):=MO! (λp q=>BL! p.1 q.1/\BL! p.2 q.2)
structure M1(X:F!)(o:Expr)(m:Str)(apos:Pos)(e:Expr)(HU:Pos):Prop where
 base:sQ! m
 pM:Ix ((backTo HU (starEach [e] X.env)).all (λx=>! x.1)&&(backToKw HU (keywordEach [] X.env)).all (λx=>x.1.isSome)
  && p? (([e]:Jw!).length+([]:RD!).length+(QS! ([]:RD!).isEmpty 0 1)<30))
 line:it!
 trees:backTo HU (starEach [e] X.env)=[(false,vK!)]
structure M2(X:F!)(o:Expr)(m:Str)(apos:Pos)(e f:Expr)(HU:Pos):Prop where
 base:sQ! m
 pM:Ix ((backTo HU (starEach [e,f] X.env)).all (λx=>! x.1)&&(backToKw HU (keywordEach [] X.env)).all (λx=>x.1.isSome)
  && p? (([e,f]:Jw!).length+([]:RD!).length+(QS! ([]:RD!).isEmpty 0 1)<30))
 line:it!
 trees:backTo HU (starEach [e,f] X.env)=[(false,vK!),(false,U1! f)]
def qE(H:Hp)(a:Addr):Prop:=(∃kvs,mK!)\/∃kvs,Jc! a .dT kvs
theorem Wu(I:K!)(d:qE H a) : s.TypeIs SB Da!/\(∀b,Value.ref a=DW! b->∃ob,J0! s.heap.get?/\ob.dict=none)/\P3!:=by
 rcases d with⟨kvs,e⟩|⟨kvs,e⟩;.obtain⟨_,hd,vs,_,dd⟩:=KQ!;refine⟨dd.typeIs,λb q=>?_,hd⟩;cases q;obtain⟨ob,_,_,h1,h2,_⟩:=dd;exact⟨ob,h1,h2.2.1⟩
 .obtain⟨_,hd,xs,_,dd⟩:=Ne!;refine⟨dd.typeIs,λb q=>?_,hd⟩;cases q;obtain⟨ob,_,_,h1,h2,_⟩:=dd;exact⟨ob,h1,h2.2.1⟩
universe S
theorem Jng(hu:IZ!)(I:K!)(g:bu!)(ry:B3!)(h:cE! My! (RelV (o.getD .FG) w')) : Z5! "dict.get" [Aj!,u]:=by
 rcases g with⟨kvs,k,e,ey,l⟩|⟨kvs,k,b,e,ey,eb,l⟩;.subst ey;obtain⟨z,hd,vs,rel,dd⟩:=KQ!;refine rF! (PySem.F.args_dict_get_2 _ _) (meets_dict_get Km! a OW! hd) (WF dd.mapOf q8!);rw[l];exact gr! rfl
 .subst ey;cases UA!;obtain⟨z,hd,xs,rel,dd⟩:=Ne!;refine rF! (PySem.F.args_dict_get_2 _ _) (meetsH_dict_get (tupleKind (Bh X.prog X.w)) a b hd) ⟨FE hu,k,xs,Jz I.DP eb,dd,q8!⟩;rw[l];exact gr! rfl
theorem Jnf(hu:IZ!)(I:K!)(g:bu!)(ry:B3!)(rd:BL! d r)(h:cE! My! (RelV (o.getD d) w')) : Z5! "dict.get" [Aj!,u,r]:=by
 rcases g with⟨kvs,k,e,ey,l⟩|⟨kvs,k,b,e,ey,eb,l⟩;.subst ey;obtain⟨z,hd,vs,rel,dd⟩:=KQ!;refine rF! (d! PySem.F.args_dict_get_3 _) (meets_dict_get_default Km! a OW! hd r) (WF dd.mapOf q8!);rw[l];exact gr! rd
 .subst ey;cases UA!;obtain⟨z,hd,xs,rel,dd⟩:=Ne!;refine rF! (d! PySem.F.args_dict_get_3 _) (meetsH_dict_get_default (tupleKind (Bh X.prog X.w)) a b hd r) ⟨FE hu,k,xs,Jz I.DP eb,dd,q8!⟩;rw[l];exact gr! rd
universe E
def Jlz(td ty:TE):TE:=Zq! (∃a,Ap!/\qE H1 a/\S4! (∃o,ch! o/\Q (o.getD .FG) H2))
inductive Jk2(ty tx:TE)(x:V)(H1:Hp)(σ:St)(Q:VK):Prop
 | mk (a) (e0:Ap!) (e1:qE H1 a) (e2:S4! (tx σ H2 λz H3=>∃o,EL H3 a y o/\Q (o.getD z) H3))
def Jly(td ty tx:TE):TE:=Zq! (Jk2 ty tx x H1 σ Q)
def Jlv(td ty:TE):TE:=Zq! (∃a,Ap!/\qE H1 a/\S4! (∃kvs k v,eB! H2 a kvs/\y=kV k/\ZK!/\Q v (HK! a .dK Wk!)))
universe S
theorem Jgb(hu:GZ!)(ho:Ia!)(he:ka!)(m:M1 X o "get" apos e HU):Ts! "get" [e] (Jlz td ty):=by intro AA s σ H Q I h;refine tO! F_ PySem.F.type_dict_get;rintro u s1 ⟨x,H1,I1,rx,a,ex,d,q1⟩;subst ex;obtain rfl:DE!:=rx;obtain⟨t1,t2,_⟩:=Wu I1 d;refine ph!;rw[m.trees];refine sP! (λiv s2 ⟨y,H2,I2,ry,ov,g,q2⟩=>LM ?_);exact c7! Jng (Wy! (EO! H2 I3 RC q2))
theorem Ma(hu:GZ!)(ho:Ia!)(he:ka!)(hf:PE X f tx)(m:M2 X o "get" apos e f HU):Ts! "get" [e,f] (Jly td ty tx):=by intro AA s σ H Q I h;refine tO! F_ PySem.F.type_dict_get;rintro u s1 ⟨x,H1,I1,rx,a,ex,d,q1⟩;subst ex;obtain rfl:DE!:=rx;obtain⟨t1,t2,_⟩:=Wu I1 d;refine ph!;rw[m.trees];refine sP! (λiv s2 ⟨y,H2,I2,ry,q2⟩ =>IH (EK (hf AA s2 σ H2 _ I2 q2) λfv s3 ⟨z,H3,I3,rz,ov,g,q3⟩=>LM ?_));exact Jnf hu I3 g ry rz λw' s4 I4 RC=>EO! H3 I4 RC q3
theorem Yz(ho:Ia!)(he:ka!)(m:M1 X o "pop" apos e HU):Ts! "pop" [e] (Jlv td ty):=by intro AA s σ H Q I h;refine tO! KJ PySem.F.type_dict_pop;rintro u s1 ⟨x,H1,I1,rx,a,ex,d,q1⟩;subst ex;obtain rfl:DE!:=rx;obtain⟨t1,t2,_⟩:=Wu I1 d;refine ph!;rw[m.trees];refine sP! (λiv s2 ⟨y,H2,I2,ry,kvs,k,v,ea,ey,l,q2⟩=>LM ?_);subst ey;exact Jpe I2 ea ry l HJ! (Wy! ⟨v,_,I3,RC,q2⟩)
universe E
universe S
variable {X:Cx Kx}{AA:List (Addr×Obj)}{σ:St}{H:Hp}{s:Shared}{a:Addr}{kvs:List (Key×V)}{A:Around}{E:Value->Shared->Prop}
universe E
universe S
variable {X:Cx Kx}{AA:List (Addr×Obj)}{σ:St}{H:Hp}{s:Shared}{a:Addr}{y:V}{u:Value}{A:Around}{E:Value->Shared->Prop}
universe E
universe E L2
universe N HT
open PySem PyProof.Rows
def lexLt:A?->A?->Bool
 | [],[]=>false
 | [],_::_=>true
 | _::_,[]=>false
 | x::xs,y::ys=>TD (x=y) (lexLt xs ys) (p? (x<y))
theorem GX(x y:Int)(xs ys:A?):lexLt (x::xs) (y::ys)=TD (x=y) (lexLt xs ys) (p? (x<y)):=rfl
theorem OV:o? (lexLt [] []):=rfl
theorem Q9(y:Int)(ys:A?):lexLt [] (y::ys)=true:=rfl
theorem Rc(x:Int)(xs:A?):o? (lexLt (x::xs) []):=rfl
theorem Jhs(A:Around)(s:Shared)(a:Int)(t:Tok)(c:Int)(u:Tok):∃e,SeqAt.EqAt A s (T! a t) (T! c u) e/\(e=true↔a=c) :=⟨(a==c),SeqAt.EqAt.int_int a t c u,D?⟩
theorem Jfw(A:Around)(s:Shared)(a:Int)(t:Tok)(c:Int)(u:Tok)(prog:Program)(w:World)(E:M?)(Q:M?)(h:Q (Tk (decide (a<c))) s) : Ab! (richCompare .Lt (T! a t) (T! c u)) :=(PyProof.Rows.lt_int h:Ab! (compareOp .Lt (T! a t) (T! c u)))
universe S
open PySem.SeqAt
open PySem.AutoSeq1 (wpAny_loadPart')
open PySem.MeetsSeq PySem.MeetsSeq2 PySem.MeetsSeq3
theorem Se(l b:Addr)(items LI:CS!)(n n2:Nat)(dd xC:GQ!)(sl i9:rb!)(ns ms:A?)(hi:PW! items.toList)(hj:PA! LI.toList ms) : Meets (Builtin.«tuple.__lt__» (FV! [i! l,CK!])) (λ_ R s=>Fl! l { cls:=vo!,dict:=dd,data:=Na! items,slots:=sl }/\G3! s.heap.get? { cls:=vo!,dict:=xC,data:=.seq LI n2,slots:=i9 } /\ R (.ok (.ret (Tk (lexLt ns ms)))) s) :=.of_wp λprog w A R s h=>by obtain⟨hp,g,d,tk,os⟩:=s;obtain⟨hl,hb,h⟩:=h;have f2:=AutoSeq1.sub_tuple_tuple;(have z1:items.size=ns.length:=by rw[<-hi.length];simp);(have z2:LI.size=ms.length:=by rw[<-hj.length];simp);wp_walk using wpAny_loadPart' hl,wpAny_loadPart' hb,OD _ (λrest b s'=>b.1=none/\s'=s9!/\∃(vs ws:Z!)(jr mI:A?),rest=vs.zip ws /\ PA! vs jr/\PA! ws mI/\jr.length+LI.size=mI.length+items.size/\R (.ok (.ret (Tk (lexLt jr mI)))) s9!) _;(case turn =>rintro⟨y,x⟩ rest b s' ⟨I_,rfl,vs,ws,jr,mI,hz,vT,sX,hlen,hR⟩;cases vT with | nil=>rw[List.zip_nil_left] at hz;cases hz | cons a t zF =>cases sX with | nil=>rw[List.zip_nil_right] at hz;cases hz | cons c u zE =>rw[List.zip_cons_cons] at hz;injection hz with hyx rF;injection hyx with hy hx;subst hy hx;rw[GX] at hR;simp only[BR] at hlen;obtain⟨e,he,qU⟩:=Jhs A.in1 s9! a t c u;refine ZR (he prog w _ _ ?_);cases e with | true =>rw[AE (qU.mp rfl)] at hR;wp_walk;exact⟨rfl,rfl,_,_,_,_,rF,zF,zE,B!,hR⟩ | false =>rw[AB (λq=>I8! qU.mpr q AS)] at hR;have hri:=Jfw A.in1 s9! a t c u prog w;wp_walk using hri;exact m? (by simpa using hR));(case fin =>rintro⟨b1,b2⟩ s' ⟨I_,rfl,vs,ws,jr,mI,hz,vT,sX,hlen,hR⟩;simp only at I_;subst I_;(have hv:DM! (lexLt jr mI) (items.size<LI.size):=by cases vT with | nil =>(cases sX with | nil =>simp only[B_] at hlen;rw[OV];exact(decide_eq_false (B!)).symm | cons c u hw =>simp only[B_,BR] at hlen;rw[Q9];exact(decide_eq_true (B!)).symm) | cons a t hv =>cases sX with | nil =>simp only[B_,BR] at hlen;rw[Rc];exact(decide_eq_false (B!)).symm | cons c u hw =>rw[List.zip_cons_cons] at hz;cases hz);rw[hv] at hR;wp_walk;exact m? (by simpa [Builtin.Tuple.tupleCompareSizes] using hR));case h =>exact⟨rfl,rfl,items.toList,LI.toList,ns,ms,rfl,hi,hj,B!,h⟩
universe E
universe S
variable {prog:Program}{w:World}{A:Around}{E:Value->Shared->Prop}{s:Shared}
theorem bx(hl:IsTup s.heap l items)(hb:IsTup s.heap b LI)(hi:PW! items.toList)(hj:PA! LI.toList ms)(hu:UX!)(h:mq! (lexLt ns ms)):Ab! (compareOp .Lt (V! l) Fm!):=by obtain⟨⟨cls,dd,data,sl⟩,ho,hc,n,hd⟩:=id hl;obtain⟨⟨JPw,xC,data2,i9⟩,o9,hc2,n2,hd2⟩:=id hb;simp only at hc hd hc2 hd2;subst hc hd hc2 hd2;exact richCompare_meets_room (op:=.Lt) (LW! ho) (LW! o9) PySem.F.slot_tuple_lt PySem.F.entry_tuple_lt (PySem.F.args_tuple_lt_2 _ _) (Se l b items LI n n2 dd xC sl i9 ns ms hi hj) ⟨ho,o9,show Value.bool (lexLt ns ms)≠Value.notImplemented/\mq! (lexLt ns ms) from A! (λx=>nomatch x) h⟩ hu
universe E
universe E HT
universe N L2
open PySem PySem.Spec PyProof.Rows
abbrev TO:=nV! (U3! (Cs! Int))
theorem intsAre_of{ns:A?}:∀{us:Z!},Vals (ns.map V.int) us->PW! us:=by induction ns with | nil=>intro us r;rw[GF] at r;cases r;exact S! | cons n ns ih =>intro us r;rw[AJ] at r;cases r with | cons r1 r2 =>obtain⟨t,e⟩:=r1;subst e;exact C? n t (ih r2)
universe S
variable {X:Cx Kx}{e:Expr}{te:TE}{lo hi:Option Expr}{tl th:TO}{pos p2:Pos}
universe E
def mQ(n:Nat)(i:Int):Cs! Nat:=if 0<=i then(VA! (i<n) i.toNat) else VA! (-RG!<=i) (CQ! (i+n))
def YG{α:Type}(xs:N!)(i:Int):Cs! α:=(mQ xs.length i).bind λj=>UY!
theorem Jj7(h:mQ n i=some j):seqIndex? i n=some j/\j<n/\-RG!<=i/\i<n:=by
 unfold mQ at h;by_cases h0:0<=i;.rw[AE h0] at h;by_cases h1:i<n;(.rw[AE h1] at h;have e:i.toNat=j:=ZO h;exact⟨I? (seqIndex_of h0 h1) e,B!,B!,h1⟩);.rw[AB h1] at h;cases h
 .rw[AB h0] at h;by_cases h1:-RG!<=i;(.rw[AE h1] at h;have e:CQ! (i+n)=j:=ZO h;exact⟨I? (Jz! seqIndex_neg h1) e,B!,h1,B!⟩);.rw[AB h1] at h;cases h
theorem Jc3(h:bx!):∃j,seqIndex? i xs.length=some j/\UY!=some v/\UZ!/\-J? xs.length<=i/\OA!:=by unfold YG at h;cases e:mQ xs.length i with | none=>rw[e] at h;cases h | some j =>rw[e] at h;obtain⟨h1,h2,h3,h4⟩:=Jj7 e;exact⟨j,h1,h,h2,h3,h4⟩
theorem Jkq{α:Type}{xs:N!}{j:Nat}{v:α}(h:UY!=some v):YG xs A4!=some v:=by
 have hj:UZ!:=Bm! h;have e:mQ xs.length A4!=some j:=by unfold mQ;rw[H9!,H9!];simp
 unfold YG;rw[e];exact h
def Jky(b:Expr):Prop:=∀o i,subscripted b false o i=operate [o,i] (getItem o i)
def uR(X:F!)(r:R2):Prop :=
 ∀(value slice:Expr)(AA:x!)(s:Shared)(σ:St)(H:Hp)(x y:V)(v u:Value)(Q:VK),la! B3! (r x y H Q ->
  subscripted slice false v u=operate [v,u] (getItem v u)->E9! (subscriptTail value slice v u))
def tZ(X:F!)(id:String)(r:N4!):Prop :=
 ∀(AA:x!)(s:Shared)(σ:St)(H:Hp)(x:V)(xs:C!)(v:Value)(us:Z!)(Q:VK),la! IH! (r x xs H Q ->
  E9! (ez! id (v::us)))
universe S
variable {X:Cx Kx}{a b:Expr}{ta tb:TE}{pos:Pos}
theorem Ay{r:R2}(hr:uR X r)(ha:Ev!)(hb:Ib!)(hs:Jky b:=by exact λ_ _=>rfl):GP! UV! a b pn!:=WW! (Subscript_ (s3! xV (hr a b AA s2 σ H2 x y v u Q I2 rx ry q (hs _ _))))
inductive Jpv(K:W.Frag)(x:V)(y:V)(H:Hp)(Q:VK):Prop
 | mk (p xs i v) (e0:x=Go) (e1:y=JM!) (e2:mO!) (e3:bx!) (e4:Q v H)
def Jqw(K:W.Frag):R2:=oV! Jpv
inductive Jpu(K:W.Frag)(x:V)(y:V)(H:Hp)(Q:VK):Prop
 | mk (p xs i v) (e0:x=Go) (e1:y=JM!) (e2:Ze! xs) (e3:bx!) (e4:Q v H)
def kS(K:W.Frag):R2:=oV! Jpu
theorem Bq{X:F!}:uR X (Jqw Kx):=by
 intro value slice AA s σ H x y v u Q I rx ry h hs;obtain⟨p,xs,i,z,rfl,rfl,hq,he,q⟩:=h;cases rx;obtain⟨t,rfl⟩:=ry;obtain⟨its,r,pl,hz⟩:=IA!;obtain⟨j,h1,h2,h3,h4,h5⟩:=Jc3 he;obtain⟨w,ew,RC⟩:=r.get h2;have hl:=r.length;have hn:=We;have fin:mW! w:=⟨z,H,I,RC,q⟩;by_cases h0:0<=i;·(have hj:i.toNat=j:=by rw[seqIndex_of h0 h5] at h1;exact ZO h1);exact item_listR pl.isList h0 E! (by rw[hj];simpa using ew) fin hs
 ·(have hj:CQ! (i+J? its.toArray.size)=j:=by rw[Jz! seqIndex_neg h4] at h1;rw[BG,<-hl];exact ZO h1);exact subscriptTail_builtinR (x:=w) pl.isList.typeIs slot_list_getitem.lookup (wpAny_getItem_list_neg (Q:=λr s'=>r=w/\EP X AA σ Q r s') pl.isList E! (by rw[BG]<;>lia) E! (by rw[hj];simpa using ew) (s? fin)) hs
theorem Az{X:F!}:uR X (kS Kx):=by intro value slice AA s σ H x y v u Q I rx ry h hs;obtain⟨p,xs,i,z,rfl,rfl,hq,he,q⟩:=h;cases rx;obtain⟨t,rfl⟩:=ry;obtain⟨its,r,pl,hz⟩:=Ru!;obtain⟨j,h1,h2,h3,h4,h5⟩:=Jc3 he;obtain⟨w,ew,RC⟩:=r.get h2;have hl:=r.length;have hn:=We;have fin:mW! w:=⟨z,H,I,RC,q⟩;exact subscriptTail_builtinR (x:=w) pl.typeIs slot_tuple_getitem.lookup (getItem_tuple (j:=j) (Q:=λr s'=>r=w/\EP X AA σ Q r s') pl E! E! (ft! BG hl h1) (by simpa using ew) (s? fin)) hs
inductive Sr(K:W.Frag)(xs:C!)(H:Hp)(Q:VK):Prop
 | mk p ys (_:kX!) (_:(DS K H p ys\/Ze! ys)) (_:WG! ys.length)
theorem Bo{X:F!}:Fu X (AS! "len") (Sr Kx):=by
 intro AA s σ H xs us Q I r h;obtain⟨p,ys,rfl,hq,q⟩:=h;obtain⟨u,rfl,rx⟩:=KO!;cases rx;have hn:=We;rcases hq with hq|hq;.obtain⟨its,r',pl,hz⟩:=IA!;have hlen:=r'.length;exact Calls.call_len_list pl.isList (fu!) ⟨g! ys.length,H,JL!,A! (s.toks+1) (I? BG hlen),q⟩
 .obtain⟨its,r',pl,hz⟩:=Ru!;have hlen:=r'.length;exact len_tuple pl (fu!) ⟨g! ys.length,H,JL!,A! (s.toks+1) (I? BG hlen),q⟩
inductive Sa(K:W.Frag)(xs:C!)(H:Hp)(Q:VK):Prop
 | mk p ys (_:kX!) (_:((DS K H p ys/\∀l,Fy!->Is l (Bl! l .BE ys))\/(Ze! ys/\Is p H)))
theorem Er{X:F!}:Fu X (BB! Bd!) (Sa Kx):=by
 intro AA s σ H xs us Q I r h;obtain⟨p,ys,rfl,h⟩:=h;obtain⟨u,rfl,rx⟩:=KO!;cases rx;rcases h with⟨hq,q⟩|⟨hq,q⟩;.obtain⟨its,r',pl,hz⟩:=IA!;have hlen:=r'.length;refine call_tuple_list pl.isList (λh' kp=>?_) (fu!);have I1:J1!:=I.kept (t':=s.toks) kp;have I2:RN! h'.objs.size .BE ys (Gv! (bQ! h'.push its.toArray)) :=r6! I1.laid s.toks (GB!) (EB X.prog X.w _ _ _ (.BE ys)) ⟨hz,its,r',IsTup.new _ _⟩;exact WJ! h'.objs.size I2 (q _ xk!)
 .obtain⟨its,r',pl,hz⟩:=Ru!;exact call_tuple_same pl (TF! Go)
def ue(K:W.Frag)(T:String)(x:V)(H:Hp):Prop:=match x with
 | .str _=>T="str"
 | .int _=>T="int"
 | .ref p=>(T=AH!/\∃xs,mO!)\/(T=Bd!/\∃o,Ds! K.lookup o/\XG!/\o.dict=none) \/
  (T=Da!/\((∃kvs,w4! p)\/∃kvs,Iv! p .dT kvs))\/(T="set"/\∃S n,JV! (.set S n))
 | _=>False
theorem Jey{X:F!}(I:K!)(r:WL!)(ty:ue Kx T x H) : s.TypeIs v T/\∀a,Wx!->∃ob,Yk! ob/\ob.dict=none:=by cases x with | str z =>obtain⟨t,rfl⟩:=r;cases (show T="str" from ty);exact A! (typeIs_str s z t) (λ_ e=>Vs!) | int i =>obtain⟨t,rfl⟩:=r;cases (show T="int" from ty);exact A! (typeIs_int s i t) (λ_ e=>Vs!) | ref p =>cases r;rcases ty with⟨rfl,xs,hq⟩|⟨rfl,o,hk,hc,hd⟩|⟨rfl,hk⟩|⟨rfl,S,n,hk⟩;(.obtain⟨its,_,pl,_⟩:=IA!;refine A! pl.isList.typeIs (λa e=>?_);cases e;obtain⟨o,n,e,c,hd,_⟩:=pl;exact Er! hd);(.refine A! (A2! (I.VW p o hk) hc) (λa e=>?_);cases e;exact A2! (I.VW _ o hk) hd);(·(have z:∃o,Ds! s.heap.get? o/\o.ExactDict:=by rcases hk with⟨kvs,hk⟩|⟨kvs,hk⟩;(.obtain⟨_,_,_,_,o,_,_,e,ex,_⟩:=JI! p hk;exact Er! ex);.obtain⟨_,_,_,_,o,_,_,e,ex,_⟩:=JI! p hk;exact Er! ex);obtain⟨o,e,ex⟩:=z;refine A! (Er! ex.1) (λa e2=>?_);cases e2;exact Er! ex.2.1);.obtain⟨o,_,_,_,e,ex,_⟩:=JI! p hk;refine A! (Er! ex.1) (λa e2=>?_);cases e2;exact Er! ex.2.1 | _=>exact gB! ty
inductive Jps(K:W.Frag)(T:String)(r:N4!)(x:V)(H1:Hp)(Q:VK):Prop
 | mk  (e0:ue K T x H1) (e1:r x [] H1 Q)
def Jp6(K:W.Frag)(T:String)(r:N4!)(to:TE):TE:=w1! to (Jps K T r x H1 Q)
inductive Jrn(K:W.Frag)(T:String)(r:N4!)(t:TA)(σ:St)(x:V)(H1:Hp)(Q:VK):Prop
 | mk  (e0:ue K T x H1) (e1:C4! t (λxs H2=>r x xs H2 Q))
def tBM(K:W.Frag)(T:String)(r:N4!)(to:TE)(t:TA):TE:=w1! to (Jrn K T r t σ x H1 Q)
variable {o e:Expr}{es:List Expr}{to:TE}{t:TA}{name:Str}{apos HU:Pos}{T id:String}{r:V->List V->Hp->VK->Prop}
theorem Nm{X:F!}(pa:PlainAttrs T)(slot:Slot T name id)(vY:typeOf (AS! id)=pure (BB! "method_descriptor"))(hm:tZ X id r)(ho:PE X o to)(fY:sQ! name:=by rfl)(fX:it!:=by rfl):Ts! name [] (Jp6 Kx T r to):=by intro AA s σ H Q I h;refine wpAny_Call_method0_late fY fX xe!;rintro v s1 ⟨x,H1,I1,r1,ty,q1⟩;obtain⟨h1,h2⟩:=Jey I1 r1 ty;exact⟨T,id,pa,slot,vY,h1,h2,F' rfl (PySem.evalArgs_none (hm AA s1 σ H1 x [] v [] Q I1 r1 S! q1))⟩
theorem F7{X:F!}(pa:PlainAttrs T)(slot:Slot T name id)(vY:typeOf (AS! id)=pure (BB! "method_descriptor"))(hm:tZ X id r)(ho:PE X o to)(ha:N9!)(fY:sQ! name:=by rfl)(zL:Ix ((backTo HU (starEach EV! X.env)).all (λx=>! x.1)&&(backToKw HU (keywordEach [] X.env)).all (λx=>x.1.isSome) && p? ((e::es).length+([]:RD!).length+(QS! ([]:RD!).isEmpty 0 1)<30)):=by rfl)(fX:it!:=by rfl)(hs:K7!:=by rfl)(bu:o? (b? (backTo HU (starEach es X.env)).any):=by rfl) : Ts! name EV! (tBM Kx T r to t):=by intro AA s σ H Q I h;refine wpAny_Call_method_late fY zL fX rfl xe!;rintro v s1 ⟨x,H1,I1,r1,ty,q1⟩;obtain⟨h1,h2⟩:=Jey I1 r1 ty;refine⟨T,id,pa,slot,vY,h1,h2,?_⟩;have hA:=ha HU AA s1 σ H1 _ I1 q1;rw[hs] at hA ⊢;refine F' (by show bv (false || b? (backTo HU (starEach es X.env)).any);rw[bu]<;>rfl) (HJ ?_);exact EK hA λus s2 ⟨vs,H2,I2,r2,q2⟩=>s8! hm vs us Q r1 r2 q2
universe E
def nK(X:F!)(id:String)(r:N4!):Prop :=
 ∀(AA:x!)(s:Shared)(σ:St)(H:Hp)(x:V)(xs:C!)(v:Value)(us:Z!)(Q:VK),la! IH! (r x xs H Q ->
  E9! (ez! id (v::us)))
theorem Vals.one{x:V}{us:Z!}(h:U4! [x]):∃u,us=[u]/\F3!:=by cases h with|cons r t=>cases t;exact m? r
theorem Vals.two:∀{x y:V} {us:Z!},U4! [x,y]->∃u v,us=[u,v]/\F3!/\BL! y v
 | _,_,_,.cons r (.cons q .nil)=>EO! _ rfl r q
theorem Vals.zero:∀{us:Z!},U4! []->us=[]
 | _,.nil=>rfl
theorem Vals.dropLast(h:IH!):Vals xs.dropLast us.dropLast:=by induction h with | nil=>exact S! | cons r t ih =>cases t with | nil=>exact S! | cons q t'=>exact C? r ih
theorem Jbe(l:N!):l.eraseIdx (l.length-1)=l.dropLast:=MI!
universe S
variable {X:Cx Kx}{AA:List (Addr×Obj)}{σ:St}{H:Hp}{s:Shared}{l b:Addr}{xs ys zs:List V}
theorem Inv.iW{its its':Z!}{n:Nat}{f:CS!->CS!}{t':Nat}(I:K!)(hH:N6!)(e:Fl! l (P2! vC! (Na! its.toArray)))(hf:f its.toArray=its'.toArray)(hv:Vals ys its')(hz:ys.length<=sizeLine) : RN! l .BF ys { s with heap:=s.heap.update l (Obj.mapSeq f),toks:=t' }:=by have q:=PySem.IsL.update e f;rw[hf] at q;refine I.write (x:=l) (e:=l) (q! hH trivial) HJ! (λb' u hb hu=>(BO s.heap (Obj.mapSeq f) fI!).trans hu) (e? q) ?_;exact⟨hz,its',_,hv,q⟩
theorem Inv.lG(I:K!)(hv:Vals ys its)(hz:ys.length<=sizeLine) : RN! s.heap.objs.size .BF ys { s with heap:=wu! s.heap.push AH! .seq its.toArray,toks:=t' } :=I.laid (λ_ _ q=>SA!) Am! ⟨hz,its,0,hv,CN!⟩
theorem Inv.fresh(I:K!):RV!:=Ni!
theorem Inv.aW(I:K!)(hH:N6!):EE!/\∃(its:Z!)(n:Nat),TS!/\xs.length=its.length/\Fl! l (P2! vC! (Na! its.toArray)):=by obtain⟨z,its,n,r,e⟩:=JI! l hH;exact⟨z,its,n,r,r.length,e⟩
theorem Y8(h:n<=sizeLine):o? (Builtin.List.listTooLong n):=by unfold Builtin.List.listTooLong;exact BM! decide_eq_false
universe E
universe S
variable {X:Cx Kx}
inductive Jih  (x:V) (vs:C!) (H:Hp) (Q:VK):Prop
 | mk (l xs y) (e0:Ql!) (e1:vs=[y]) (e2:N6!) (e3:xs.length<sizeLine) (e4:Q .FG (NC! (.BF (xs++[y]))))
def Ji7:N4!:=λx vs H Q=>Jih  x vs H Q
theorem Cv:nK X "list.append" Ji7:=by intro AA s σ H x vs v us Q I rx rv h;obtain⟨l,xs,y,rfl,rfl,hH,hz,q⟩:=h;cases rx;obtain⟨u,rfl,ru⟩:=rv.one;obtain⟨z,its,n,r,hl,e⟩:=Tl!;refine call_meets F.slot_list_append SL! F.entry_list_append (F.args_list_append_2 _ _) (PySem.list_append l its.toArray n u j7!) (L? e);refine AA! .FG _ (s0! (its++[u]) be (r.append (C? ru S!))) q;rw[ZE,EI];lia
inductive Ji6(x:V)(vs:C!)(H:Hp)(Q:VK):Prop
 | mk l b xs zs (_:Ql!) (_:vs=[CK!]) (_:N6!) (_:uo! b zs) (_:Be! (xs.length+zs.length)) (_:Q .FG (NC! (.BF (xs++zs))))
theorem Tl:nK X "list.extend" Ji6:=by
 intro AA s σ H x vs v us Q I rx rv h;obtain⟨l,b,xs,zs,rfl,rfl,hH,hB,hz,q⟩:=h;cases rx;obtain⟨u,rfl,ru⟩:=rv.one;cases ru;obtain⟨z,its,n,r,hl,e⟩:=Tl!;obtain⟨z2,RJ,n2,r2,vp,e2⟩:=I.aW hB;have hsz:Be! fv!:=LD! BG BG
 have fW:¬Ix (!its.toArray.isEmpty&&Builtin.List.listTooLong (fv!)):=Ai! (Y8 hsz) Bool.and_false AS
 refine call_meets F.slot_list_extend SL! F.entry_list_extend (F.args_list_extend_2 _ _) (AutoSeq1.list_extend_list_list_0 l its.toArray n b RJ.toArray n2 fW j7! E!) (PP e e2);refine AA! .FG _ (s0! (its++RJ) be (r.append r2)) q;rw[ZE];lia
inductive Jqs(x:V)(vs:C!)(H:Hp)(Q:VK):Prop
 | mk l xs y (_:Ql!) (_:vs=[]) (_:N6!) (_:xs[xs.length-1]?=some y) (_:Q y (Bl! l .BF xs.dropLast))
theorem Jg1:nK X "list.pop" Jqs:=by
 intro AA s σ H x vs v us Q I rx rv h;obtain⟨l,xs,y,rfl,rfl,hH,hy,q⟩:=h;cases rx;have sY:=rv.zero;subst sY;obtain⟨z,its,n,r,hl,e⟩:=Tl!;obtain⟨u,hu,ru⟩:=r.get hy;have mS:its.toArray[its.toArray.size-1]?=some u:=by show its.toArray[its.length-1]?=some u;rw[<-Array.getElem?_toList,<-hl];exact hu
 refine call_meets F.slot_list_pop SL! F.entry_list_pop (F.args_list_pop_1 _) (MeetsSeq.list_pop_last l its.toArray n u mS j7!) (L? e);refine⟨y,_,s0! its.dropLast ?_ r.dropLast,ru,q⟩;.show its.toArray.eraseIdxIfInBounds (its.toArray.size-1)=its.dropLast.toArray;rw[BG,List.eraseIdxIfInBounds_toArray,Jbe]
 .rw[List.length_dropLast];lia
inductive Jq0(x:V)(y:V)(H:Hp)(Q:VK):Prop
 | mk l b xs zs (_:Ql!) (_:XE!) (_:N6!) (_:uo! b zs) (_:Be! (xs.length+zs.length)) (_:OI! (Lm! (.BF (xs++zs))))
theorem Jgh:TC! .Add Jq0:=by
 intro AA s σ H x y v u Q I rx ry h;obtain⟨l,b,xs,zs,rfl,rfl,hH,hB,hz,q⟩:=h;cases rx;cases ry;obtain⟨z,its,n,r,hl,e⟩:=Tl!;obtain⟨z2,RJ,n2,r2,vp,e2⟩:=I.aW hB;refine PySem.P.add_list e e2 ?_ (LD! BG BG);have ea:its.toArray++RJ.toArray=(its++RJ).toArray:=D?
 rw[ea];exact WJ! _ (I.lG (t':=s.toks) (r.append r2) (Fk! ZE)) (q _ I.fresh)
universe E
universe S
universe E
universe S
variable {X:Cx Kx}
universe E
universe E L2
universe N Att
open PySem PySem.W PySem.Calls PyProof.Rows
theorem O2:∀(ns:A?)(vs:Z!),WellAll P h vs (ns.map WData.int)->So!:=by intro ns;induction ns with | nil =>intro vs w;rw[GF] at w;cases w;exact S! | cons n ns ih =>intro vs w;rw[AJ] at w;cases w with | cons a b =>cases a;exact G! C? (ih _ b)
theorem Jdk{l:OpenLaw}{n:Nat}(hn:gt! n){P:Params}{h:Heap}{args:List WData}{vals:Z!}(iX:l.row.toRowW.claim.pre args=true)(jC:WellAll P h vals args) : ∃a vs ns,vals=[uC!]/\args=[WData.list (ns.map WData.int)]/\HO! ci!/\So!/\fw!:=by
 have hsh:WShape.hasAll [] args [Bf! T!]=true:=(pre_splitW iX).1;have hc:l.pre.holds [] { args:=args }=true:=(pre_splitW iX).2;obtain⟨d,r,rfl,h1,h2⟩:=hasAllW_cons hsh;obtain rfl:=hasAllW_nil h2;obtain⟨xs,rfl,h3⟩:=hasW_list h1;obtain⟨ns,rfl⟩:=items_int h3;have hlen:fw!:=by unfold OpenLaw.pre at hc;(have h4:(WTm.not (.lt (.lit (T! RG!)) (.len (.arg 0)))).holds [] { args:=[Bf! (ns.map T!)] }=true:=by have h4:=(holds_andW hc).1;rw[hn] at h4;exact h4);have h5:=condW_of h4 (w_not (w_lt w_lit (w_len_list (w_arg rfl))));rw[ZA] at h5;refine Nat.le_of_not_lt λq=>?_;(have q':RG!<Bn! ns.length:=B!);first | (rw[EZ! q'] at h5;exact SP! h5) | (simp at h5;lia)
 cases jC with | cons w1 w2 =>cases w2;cases w1 with | list ho zR=>exact⟨_,_,ns,rfl,rfl,ho,O2 ns _ zR,hlen⟩
theorem Jdp(l:OpenLaw)(args:List WData):l.row.toRowW.claim.post args (Tk true) args=true :=postW_of (r:=l.row.toRowW) (X:=(true==true)) (show WShape.has [] (Tk true) Tk=true by first|rfl|decide|simp[WShape.has,WShape.arms,WShape.armsAll]) (show(WTm.eq .res (.lit (Tk true))).value [] { args:=args,res:=Cr! Tk true,after:=args }=some (Tk (true==true)) from w_eq_bool (w_res rfl) w_lit) rfl
theorem aw{l:OpenLaw}{n:Nat}{q:Program}{loose:P?}{XP:Py! Wr!}{YP:Py! World}{d:DefRec}(hn:gt! n)(pD:d.params.defaults=[])(call:∀(w:World) (HR EM:Shared) (mg mb:q?) (fa:Addr) (o:Obj) (pm cd doc:Value) (a:Addr) (vs:Z!) (ns:A?),Ground q loose [] XP w HR mg mb EM.heap->YP w EM.heap -> U! EM.heap.get? fa o->o.data=.func (docDef d.name d.params d.body d.scope pm cd doc)->EM.heap.CodeRec cd d.name->lf! d.name -> Cu! EM.heap.get? ci!->So!->fw!->EM.gens=#[] -> codeAny (model l.prog w) callerA (jb! fa NN!) (λr s'=>r=.ok (.ret (Tk true))/\OldK EM.heap s'.heap/\s'.os=EM.os/\S8!) EM) : WalkO q loose XP YP l.row.toRowW d [] (λf vs=>PySem.call f vs):=by intro w HR EM mg mb G Y fa o pm cd doc dV kV ho hd RE hD hmg hg args vals as iX JPt hrd jC hlo;obtain rfl:dV=F?:=Dflts.none hD pD;obtain rfl:kV=F?:=Dflts.noKw hD;obtain⟨a,vs,ns,rfl,rfl,lM,hints,hlen⟩:=Jdk hn iX jC;refine qc! enter_call (call w HR EM mg mb fa o pm cd doc a vs ns G Y ho (fd_plain hd) RE hmg lM hints hlen hg);obtain⟨rfl,h2,h3,h4⟩:=hq;exact⟨H! ⟨ik!,ik!,[],rfl,FG!,ik!,Jdp l _,λ_=>A! List.Pairwise.nil (λ_ hm=>(nomatch hm))⟩,h2,h3,h4⟩
universe S
variable {prog:Program}{w:World}{A:Around}{E:Value->Shared->Prop}{s:Shared}{K:Frag}
def ledger(h:Heap)(L d:Addr):x!:=(List.range h.objs.size).filterMap λa=>if a=L\/a=d then none else(h.get? a).map λo=>(a,o)
universe E
universe E Att
universe N L2
open PySem PySem.Spec PyProof.Rows
theorem Su{vs:Z!}{ns:A?}(p:So!):Vals (ns.map V.int) vs:=by induction p with | nil=>exact S! | cons n t _ ih=>exact Ge! (Rs t)
def t9(H:Hp):Prop:=∀b,x?\/∃o xs,Ch b (.HK o (.BF xs))
theorem Jg8{P:Program}{w:World}{K:W.Frag}{mg mb:q?}{CX:eF}{k:Nat}{fa a:Addr}{fd:FuncData}{x:Str}{sp:Sp}{EM:Shared}{vs:Z!}{ns:A?}(KX:K.In EM.heap)(hns:MF! EM.heap.Ns)(hb:EM.heap.Ns builtinsNs mb)(hbb:∀x:Str,Qh!->mb x=bootBuiltins x)(zK:EM.heap.NoLimit)(hg:EM.gens=#[])(ha:Cu! EM.heap.get? ci!)(hi:So!)(hl:ns.length<=sizeLine)(hr:DM k callerA)(F:s1! (K.In base) P K CX k [x] sp)(rJ:∀(s:Shared) (u:Value),mQ! [u] [(x,u)])(c8:∀H:Hp,t9 H->i1! DS->sp Fe! H (λv _=>v=.bl true) ZX!)(wH:∀H e s',CX [] H EM (ZX!) e s'->False) : codeAny jc! callerA (jb! fa NN!) (λr s'=>r=.ok (.ret (Tk true))/\OldK EM.heap s'.heap/\s'.os=EM.os/\S8!) EM:=by
 have rv:=Su hi;have yy:=hi.length;have core:∀H:Hp,t9 H->i1! DS->OH P w H EM.heap->(∀b,H b≠none->b=a)->(H a≠none->Ay! K.lookup a) -> codeAny jc! callerA (jb! fa NN!) (λr s'=>r=.ok (.ret (Tk true))/\OldK EM.heap s'.heap/\s'.os=EM.os/\S8!) EM:=by intro H hO hS DP hA hK;have ck:∀{b:Addr} {o:Obj},AI! EM.heap.get?->x?->AI! (Wy EM.heap H).get?:=λe n=>Jhf e n;(have oW:∀{b:Addr} {o:Obj} {es:EB!} {ep:Nat},AI! EM.heap.get?->Jj!->x?:=λ{b o es ep} e d=>by cases q:H b with | none=>rfl | some u =>have e':b=a:=hA b (gY!);subst e';rw[ha] at e;cases e;have d':Data.seq vs.toArray _=Data.dict es ep:=d;cases d');have r_:∀{b:Addr} {m:q?},EM.heap.Ns b m->(Wy EM.heap H).Ns b m:=λ{b m} ⟨o,es,ep,e,d,r⟩=>⟨o,es,ep,ck e (oW e d),d,r⟩;have hKb:K.In (Wy EM.heap H):=Aw! (ck (Dq! KX) (by cases q:H b with | none=>rfl | some u =>have e':b=a:=hA b (gY!);subst e';rw[hK (gY!)] at e;cases e));have hM:Mod K mg (Wy EM.heap H):=⟨hKb,r_ hns,⟨mb,r_ hb,hbb⟩,let⟨mc,h1,h2⟩:=zK;⟨mc,r_ h1,h2⟩⟩;have e0:ae P w K mg (Wy EM.heap H) callerA [] EM H:=⟨rfl,hM,Aw! (Jjt e),Nat.le_of_eq (Jea _ _),trivial,j? (i5! (show b∈wb! from hb)),DP,.of_eq hg⟩;refine HH ((F _ hKb (r_ hns)).run callerA [] EM H NN! Fe! Fe! _ _ hr e0 (rJ EM SB) (Gd! rfl) (c8 H hO hS)) λr s' h=>?_;cases r with | error e=>exact(wH H e s' h).elim | ok fl =>cases fl with | next=>exact hu! | brk=>exact hu! | cont=>exact hu! | ret u =>obtain⟨v,H',os,bare,un,zH,r',q⟩:=h;have q':v=.bl true:=q;subst q';obtain rfl:u=Value.bool true:=r';refine⟨rfl,OldK.of_keep Hr!,os,bare⟩;cases q:H b with | none=>exact un.keep b o e q (by intro z;exact i5! (show b∈wb! from z)) be | some u =>rcases hO b with z|⟨ob,xs,z⟩;(.rw[q] at z;cases z);.have z2:=un.OL b ob _ z;obtain⟨e1,_⟩:=DP b _ z;obtain⟨e2,_⟩:=zH b _ z2;rw[e] at e1;cases e1;exact e2
 cases hk:K.lookup a with | some o =>have e:=KX a o hk;rw[ha] at e;cases e;refine core (Ok!) (λ_=>Fv!) (AB! ⟨_,vs.toArray,_,hk,rfl,rfl,rfl,Ai! BG yy hl,by simpa using rv⟩) (λb u z=>by have z':(none:Cs! HO)=some u:=z;cases z') (λb z=>GS! z) λz=>GS! z | none =>refine core (λb=>VA! (b=a) (.HK ci! (YE! ns.map))) (λb=>?_) (B? (N? (A! ci! SL))) (λb u z=>?_) (λb z=>?_) λ_=>hk;(.by_cases hb:b=a;(.exact L! (WF _ (AE hb)));.exact B? (AB hb));(.by_cases hb:b=a;(.have z':=(AE hb).symm.trans z;cases z';subst hb;exact⟨ha,Ef! hl,vs,_,rv,ha⟩);.have z':=(AB hb).symm.trans z;cases z');.by_cases hb:b=a;(.exact hb);.exact I8! AB hb z
abbrev KOf{K:W.Frag}{h:Heap}(_:K.In h):W.Frag:=K
theorem i0{l:W.OpenLaw}{n k:Nat}{q:Program}{loose:P?}{XP:Py! Wr!}{YP:Py! World}{d:DefRec}{K:Params->W.Frag}{CX:World->eF}{sp:World->Sp}{x:Str}(hn:gt! n)(jF:n<=sizeLine)(pD:d.params.defaults=[])(hr:DM k callerA)(hY:∀(w:World) (h:Heap),YP w h->hv!)(F:∀(w:World) (mg:q?) (fa:Addr) (h:Heap),hv!->MF! h.Ns->lf! d.name -> ∃fd:FuncData,(∀(s:Shared) (u:Value),mQ! [u] [(x,u)]) /\ s1! ((K w.params).In base) l.prog vj! (CX w) k [x] (sp w))(c8:∀(w:World) (H:Hp) (a:Addr) (ns:A?),fw!->t9 H->DS vj! H a (ns.map V.int)->sp w Fe! H (λv _=>v=.bl true) ZX!)(wH:∀(w:World) (H:Hp) (s:Shared) (e:Value) (s':Shared),CX w [] H s (ZX!) e s'->False) : W.WalkO q loose XP YP l.row.toRowW d [] (λf vs=>PySem.call f vs):=by refine Att.aw hn pD λw HR EM mg mb fa o pm cd doc a vs ns G Y ho hd RE hmg lM hints hlen hg=>?_;have KX:=hY w _ Y;obtain⟨fd,hb,hF⟩:=F w mg fa _ KX G.T.g hmg;exact Jg8 KX G.T.g G.T.b G.T.builtins G.T.nolimit hg lM hints (A_ hlen jF) hr hF hb (λH hO hS=>c8 w H a ns hlen hO hS) λH e s'=>wH w H EM e s'
def inClass(s:Stmt)(j:Nat):Stmt:=match s with
 | .ClassDef _ _ _ body _ _ _ _ _ _ _=>body.getD j (.Pass ⟨0,0,0,0⟩)
 | _=>.Pass ⟨0,0,0,0⟩
def My(s:Stmt):Arguments:=match s with
 | .FunctionDef _ a _ _ _ _ _ _ _ _=>a
 | _=>{ posonlyargs:=[],args:=[],vararg:=none,kwonlyargs:=[],kw_defaults:=[],kwarg:=none,defaults:=[] }
def Gp(s:Stmt):Xw!:=match s with
 | .FunctionDef _ _ b _ _ _ _ _ _ _=>b
 | _=>[]
def Am(s:Stmt):Scope:=match s with
 | .FunctionDef _ _ _ _ _ _ sc _ _ _=>sc
 | _=>{ kind:=.function,names:=[],isGenerator:=false,isCoroutine:=false }
abbrev aL:eF:=λ_ _ _ _ _ _=>False
abbrev E0:XK:=ZX!
theorem Ba:Iy aL X E0:=λ_ _ _ _ _ _ _ h=>h.elim
structure FR(K:W.Frag)(x qual:Str)(st:Stmt)(f:Addr)(fd:FuncData):Prop where
 ex:∃(oc:Value)(od:GQ!)(kV doc pm:Value)(an:GQ!)(ED ct:Value)(gA:rb!),
  fd=WR! x qual (My st) Nd! MA! F?/\U! K.lookup f ⟨oc,od,.func fd,gA⟩/\W.codeIn K ED qual=true
 kp:W.keepIn K Ly!=true
universe S
variable {P:Program}{w:World}{K:W.Frag}{mg:Str->Option Value}{base:Heap}
theorem FR.ok{x qual:Str}{st:Stmt}{f:Addr}{fd:FuncData}{N ps:P?}{k:Nat}{sp:Sp}(F:TP!)(S:re!)(len:mg!)(VG:∀(ED:Value) (A:Around) (outer:A7!) (s:Shared) (H:Hp) (vs:C!) (Q:VK) (E:XK),q3! MA! QD! (RF (qB! aL).oU Nd! t)):od! aL:=by obtain⟨oc,od,kV,doc,pm,an,ED,ct,gA,rfl,lk,RE⟩:=F.ex;refine Jlh lk RE S len λA outer s H vs Q E hr c8=>?_;obtain⟨t,h,q⟩:=VG ED A outer s H vs Q E hr c8;exact⟨t,h.oU,q⟩
def Bd(P:Program)(w:World)(K:W.Frag)(mg:q?)(base:Heap)(CX:eF)(b:Bool)(N ps:P?)(qual:Str)(st:Stmt)(f:Addr)(k:Nat)(vs:C!)(H:Hp)(Q:VK)(E:XK):Prop :=
 fo!/\∀(ED:Value)(A:Around)(outer:A7!)(s:Shared),DM k (xu! MA! ED) ->
  ∃t,RF (bif b then(qB! CX).oU else qB! CX) Nd! t/\t { nx:=λ_ H'=>PS!,rt:=Q } QF! H
theorem FR.JH{x qual:Str}{st:Stmt}{f:Addr}{fd:FuncData}{N ps:P?}{k:Nat}{sp:Sp}(F:TP!)(S:re!)(h:∀vs H Q E,QD!->Bd P w K mg base aL true N ps qual st f k vs H Q E):od! aL :=F.ok S (λvs H Q E z=>(h vs H Q E z).1) λED A outer s H vs Q E hr z=>(h vs H Q E z).2 ED A outer s hr
theorem FR.binds{x qual:Str}{st:Stmt}{f:Addr}{fd:FuncData}{ps:P?}(F:TP!)(h:∀(kV doc pm:Value) (an:GQ!) (ED ct:Value) (us:Z!),Wj!->jR! (bindArgs (WR! x qual (My st) Nd! MA! F?) KM!)):cX!:=by obtain⟨oc,od,kV,doc,pm,an,ED,ct,gA,rfl,lk,RE⟩:=F.ex;exact .all (h kV doc pm an ED ct)
universe E
theorem B8(hr:Ng!):IZ!:=FY (Nat.add_le_add_left (l!:1<=64) _) hr.units
theorem A8(h:n<=1000):n<sizeLine:=VV! FY h
universe S
variable {X:Cx Kx}
theorem pv(i:Nat)(hN:KN!:=by rfl)(hv:wH! xM:=by first|exact Or.inl rfl|exact Or.inr (Or.inl rfl)|exact Or.inr (Or.inr rfl))(hd:DU!:=by decide)(RE:bv (x==("__classdict__":Str)):=by decide):mB! B7 i:=Jmf hN hv hd RE
inductive Jbo(xs:C!)(H:Hp)(Q:VK):Prop
 | mk a kvs (_:xs=[PN!]) (_:Sn!) (_:WG! kvs.length)
theorem N9:ex! "len" Jbo:=by intro AA s σ H xs us Q I r h;obtain⟨a,kvs,rfl,ha,q⟩:=h;obtain⟨u,rfl,ru⟩:=KO!;cases ru;exact Jpf I (c? ha) λt s' I'=>⟨g! kvs.length,H,I',Rs t,q⟩
universe E
theorem Cu{A B:Prop}(h:B):if false=true then A else B:=gW! (AB AS)
theorem Cy{A B:Prop}(h:A):if true=true then A else B:=gW! SL
theorem J0{c A B:Prop}[Decidable c](h1:c->A)(h2:¬c->B):if c then A else B:=by
 by_cases h:c;.rw[Ar!];exact h1 h
 .rw[BV!];exact h2 h
def CB(H H':Hp):Prop:=KE (Dj!->Fx!)
theorem CB.refl(H:Hp):ap H:=f0!
universe S
variable {κ:Type}[DecidableEq κ]
theorem Gh:∀{l:List κ} {k:κ},l.Nodup->¬k∈l->GA! (l++[k])
 | [],k,_,_=>D?
 | a::r,k,h,hk=>by obtain⟨h1,h2⟩:=AV.mp h;show GA! (a::(r++[k]));refine AV.mpr (A! Md! (Gh h2 λm=>hk (CK.mpr (Or.inr m))));rcases ZI m with q|q;(.exact h1 q);.exact hk (CK.mpr (Or.inl (D2! ZK q)))
theorem Jei{p:κ×V}{r:Ae!}{k:κ}(e:Ei!):Dr (p::r) k=Dr r k:=by unfold Dr;rw[EA,AB (Wm!)]
theorem Uk{p:κ×V}{r:Ae!}{k:κ}(e:¬Ei!):Dr (p::r) k=p::Dr r k:=by unfold Dr;rw[EA,AE (Wm!)]
theorem Ry:∀{kvs:Ae!} {k:κ},¬k∈b? kvs.map->Dr kvs k=kvs
 | [],_,_=>rfl
 | p::r,k,h=>by (have h':¬k∈b? r.map:=λm=>by obtain⟨q,hq,e⟩:=En!;exact Zj! ⟨q,CK.mpr (Or.inr hq),e⟩);rw[Uk λe=>Zj! ⟨p,CK.mpr (Or.inl rfl),e⟩,Ry h']
universe E
universe E L2
set_option maxHeartbeats 4000000
universe N FX
open PySem PySem.Spec PyProof.Rows L2
inductive IP(K:W.Frag)(H:Hp):X7! V
 | FG:DK! .FG F?
 | bl (b:Bool):DK! (.bl b) (Tk b)
 | int (i:Int):DK! (GM i) (GM i)
 | str (x:Str):DK! (AR! x) (AR! x)
 | BE {a:Addr} {xs:C!} {ds:Jx!}:GW!->xs.length=ds.length->(∀(j:Nat)(x:V)(d:PyData),Y5!->ds[j]?=some d->DK! x d)->DK! SB (Oq! ds)
inductive Rep(K:W.Frag)(H:Hp):X7! V
 | one {x:V} {d:PyData}:DK! x d->aG! x
 | BF {a:Addr} {xs:C!} {ds:Jx!}:II!->Ro! IP xs ds->Rep K H SB (Bf! ds)
theorem Av{xs:N!}{ys:BU!}(p:Gj!):∀(j:Nat)(x:α)(y:β),Y5!->Ue!=some y->R x y:=by induction p with | nil=>intro j x y h;simp at h | cons r _ ih =>intro j x y h h';cases j with | zero=>cases h;cases h';exact r | succ j=>exact ih j x y h h'
theorem Dt{xs:N!}{ys:BU!}(hl:f1!)(h:∀(j:Nat) (x:α) (y:β),Y5!->Ue!=some y->R x y):Gj!:=by induction xs generalizing ys with | nil=>(cases ys with|nil=>exact S!|cons=>cases hl) | cons x xs ih=>cases ys with | nil=>cases hl | cons y ys=>exact C? (h 0 x y rfl rfl) (ih (Nat.succ.inj hl) λj=>h (j+1))
theorem IP.tupP{K:W.Frag}{H:Hp}{a:Addr}{xs:C!}{ds:Jx!}(h:GW!)(r:Ro! IP xs ds):DK! SB (Oq! ds) :=.BE h (Paired.length r) λj x d e1 e2=>Av r j x d e1 e2
structure BY(H H':Hp):Prop where
 BE:∀a xs,KF! xs->jy! a xs
 HK:∀a o u,Fd! GY!->Cu! H' GY!
theorem BY.refl(H:Hp):BY H H:=A! e3! (λ_ _ _ e=>e)
theorem BY.trans(a:BY H H1)(b:BY H1 H2):BY H H2:=A! (λc xs e=>b.BE c xs (a.BE c xs e)) (λc o u e=>b.HK c o u (a.HK c o u e))
theorem HQ(s:r?):wS:=W4! (s a _ e) (λa o u e=>s a _ e)
theorem BY.sq{K:W.Frag}{H H':Hp}(k:wS){a:Addr}{xs:C!}(h:GW!):DL K H' a xs:=by
 rcases h with(e|⟨o,e⟩)|z;.exact Dm! (k.BE a xs e)
 .exact HS! (CO! (k.HK a o _ e))
 .exact JW!
theorem Q_(h:∀o',JV! o'->(∀xs,o'≠.BE xs)/\∀b u,o'≠.HK b u):BY H (Lm! o) :=W4! (by (have:a≠p:=λz=>by subst z;exact(h _ e).1 xs rfl);rw[Ac this];exact e) (λa b u e=>by (have:a≠p:=λz=>by subst z;exact(h _ e).2 b u rfl);rw[Ac this];exact e)
theorem IP.keep{K:W.Frag}{H H':Hp}(k:wS){v:V}{d:PyData}(r:DK! v d):IP K H' v d:=by induction r with | FG=>exact .FG | bl b=>exact .bl b | int i=>exact JM! | str x=>exact AY! x | BE h hl _ ih=>exact .BE (k.sq h) hl λj x d e1 e2=>ih j x d e1 e2
universe S
theorem Ju{xs:C!}{us:Z!}{ds:Jx!}(p:IH!)(hl:xs.length=ds.length)(f:∀(j:Nat) (x:V) (d:PyData),Y5!->ds[j]?=some d->∀u,F3!->sd! h):∃as,ReadsAll h us ds as:=by induction p generalizing ds with | nil=>(cases ds with|nil=>exact A! [] S!|cons=>cases hl) | cons r t ih=>cases ds with | nil=>cases hl | cons d ds =>obtain⟨as,r1⟩:=f 0 _ d rfl rfl _ r;obtain⟨bs,r2⟩:=ih (Nat.succ.inj hl) λj=>f (j+1);exact A! (as++bs) (C? r1 r2)
theorem IP.reads{X:F!}(I:K!)(r:IP Kx H v d):∀u,A9!->sd! s.heap:=by induction r with | FG=>intro u e;cases e;exact e? F? | bl b=>intro u e;cases e;exact e? (Tk b) | int i=>intro u e;obtain⟨t,rfl⟩:=e;exact e? (T! i t) | str x=>intro u e;obtain⟨t,rfl⟩:=e;exact e? (AR! x t) | BE h hl _ ih =>intro u e;cases e;obtain⟨its,rv,⟨o,ho,hc,n,hd⟩,_⟩:=I.tuple h;obtain⟨as,ra⟩:=Ju rv hl λj x d e1 e2=>ih j x d e1 e2;exact A! as (Oq! ho hc hd (by simpa using ra))
theorem Rep.reads{X:F!}(I:K!)(r:Rep Kx H v d)(e:A9!):sd! s.heap:=by cases r with | one r=>exact r.reads I u e | BF h p =>cases e;obtain⟨its,rv,pl,_⟩:=I.list h;obtain⟨o,ho,hc,n,hd⟩:=pl.isList;obtain⟨as,ra⟩:=Ju rv (Paired.length p) λj x d e1 e2=>(Av p j x d e1 e2).reads I;exact e? (Bf! ho hc hd (by simpa using ra))
def a_(d:PyData):Prop:=vs! 40
inductive Jpw(K:W.Frag)(x:V)(y:V)(H:Hp)(Q:VK):Prop
 | mk (d e) (e0:aG! x) (e1:Rep K H y e) (e2:a_ d) (e3:a_ e) (e4:KW! (PyData.eqv d e))
def Jqz(K:W.Frag):R2:=oV! Jpw
inductive Jpt(K:W.Frag)(x:V)(y:V)(H:Hp)(Q:VK):Prop
 | mk (d e) (e0:aG! x) (e1:Rep K H y e) (e2:a_ d) (e3:a_ e) (e4:KW! (! PyData.eqv d e))
def Jqu(K:W.Frag):R2:=oV! Jpt
theorem Qp{X:F!}(hu:KT!):lk! .Eq Jqz:=by intro AA s σ H x y v u Q I rx ry h;obtain⟨d,e,r1,r2,o1,o2,q⟩:=h;obtain⟨as,g1⟩:=kV! rx;obtain⟨bs,g2⟩:=kW! ry;exact PySem.SeqAt.compareEq_reads g1 g2 o1.1 o2.1 (Co! o1.2) (TF! (.bl _))
theorem Jmm{X:F!}(hu:KT!):lk! .NotEq Jqu:=by intro AA s σ H x y v u Q I rx ry h;obtain⟨d,e,r1,r2,o1,o2,q⟩:=h;obtain⟨as,g1⟩:=kV! rx;obtain⟨bs,g2⟩:=kW! ry;exact PySem.SeqAt.compareNe_reads g1 g2 o1.1 o2.1 (Co! o1.2) (TF! (.bl _))
theorem Mt(h:a_ d):PyData.eqv d d=true:=PySem.SeqAt.eqv_refl d h.1
theorem O3(r:Ng!):A.units+64<cLine:=r.units
universe E
def Ja(p d:Addr):HO:=.ext λh=>h.IsValuesView p d
universe S
theorem Jj4{kvs:Ae!}{vs:hn!}(p:Hh!):Vals (kvs.map pu) (vs.map pu):=ni! Joh r.2
theorem Nr:tZ X "dict.values" (λx xs H Q=>∃d kvs,x=EX!/\xs=[]/\Zv!/\OI! (Lm! Ic!)):=by intro AA s σ H x xs v us Q I rx rs h;obtain⟨d,kvs,rfl,rfl,hd,q⟩:=h;cases rx;cases rs;obtain⟨z,lo,vs,rel,dd⟩:=uI I.DP hd;refine PySem.call_meetsIn JD dd.typeIs PySem.F.entry_dict_values (PySem.F.args_dict_values_1 _) (meets_dict_values Km! d lo) (L? (A! vs dd));have hn:RV!:=Ni!;refine m4! (Ja s.heap.objs.size d) GB! ?_ (q _ hn);have g:U! (s.heap.push (KJ! "dict_values" XQ!)).get? s.heap.objs.size (KJ! "dict_values" XQ!):=CN!;exact⟨tn! _ g,e? g,λh1 h2 ⟨o,e,r⟩ k=>A2! (k o e) r⟩
inductive Nc(xs:C!)(H:Hp)(Q:VK):Prop
 | mk p d kvs (_:kX!) (_:JV! Ic!) (_:Zv!) (_:∀l,Fy!->Is l (NC! (.BF (kvs.map pu))))
theorem N8(hc:Av!):Fu X (BB! AH!) Nc:=by intro AA s σ H xs us Q I r h;obtain⟨p,d,kvs,rfl,hp,hd,q⟩:=h;obtain⟨u,rfl,rx⟩:=KO!;cases rx;obtain⟨z,lo,vs,rel,dd⟩:=uI I.DP hd;obtain⟨ep,da⟩:=dd.dictAt;have hv:s.heap.IsValuesView p d:=(I.DP p _ hp).1;refine W.kdl_call (W.kdl_values (knd:=Bh X.prog X.w) (r:=p) (d:=d) (kvs:=vs) (ep:=ep)) Gh! (A! hv da) (MY! rel.length) λh' tk lU c' kp e ha=>?_;have hn:RV!:=Ni!;have e1:lU.toList=vs.map pu:=W.kdl_vals_eq lU.toList (q! DE ha.1) λj v hj=>ha.2 j v (G? Array.getElem?_toList hj);refine WJ! s.heap.objs.size (r6! I.laid tk kp (ZQ! _ _ (.BF (kvs.map pu))) ⟨Ef! z,lU.toList,c',?_,FI!⟩) (q _ hn);rw[e1];exact Jj4 rel
universe E
universe S
universe E
theorem Ah(hp:Va!):ap (Lm! o):=λb u e=>dy! (Ak e hp)
theorem Aj(a:ap H1)(b:CB H1 H2):L2!:=λc o h=>b c o (a c o h)
theorem Cp(e:r?)(h:RM! l):Fy!:=by cases q:H l with | none=>rfl | some o=>rw[e l o q] at h;cases h
theorem Vt{xs:N!}{ys:BU!}(j:Nat)(p:Gj!):Fw! R (xs.eraseIdx j) ys.eraseIdx j:=Jme p j
theorem Gg{α β:Type}{R:IU!}{x:α}{y:β}(r:R x y){xs:N!}{ys:BU!}(p:Gj!):Paired R (xs++[x]) (ys++[y]):=nq p (Gd! r)
theorem Ar{α β:Type}{R S:IU!}(f:lB! (S a b)):∀{xs:N!} {ys:BU!},Gj!->CH! S xs ys
 | _,_,.nil=>S!
 | _,_,.cons q t=>C? (d! f q) (Ar f t)
theorem Gw(h0:0<=i)(h:xs[i.toNat]?=some v):bx!:=Wh! (Jkq h) (BH h0)
theorem Ao{α:Type}{xs:N!}{j:Nat}(h:UZ!):∃x,Y5!:=A! (xs[j]) (List.getElem?_eq_some_iff.mpr (Rs h))
theorem Jla(h:∀d∈ds,a7!):PyData.canLayAll0 ds=true/\PyData.depthAll ds<=20:=by induction ds with | nil=>exact A! (by simp[PyData.canLayAll0]) (by simp[PyData.depthAll]) | cons d ds ih =>obtain⟨a,b⟩:=ih λe he=>h e (AL! he);obtain⟨c,g⟩:=DQ! d;exact A! (by simp[PyData.canLayAll0,a,c]) (by simp only[PyData.depthAll];lia)
theorem E7(h:∀d∈ds,a7!):a_ (Bf! ds):=by obtain⟨a,b⟩:=Jla h;exact A! (by simp only[PyData.canLay0];exact a) (by simp only[PyData.depth];lia)
theorem Jdt(h:∀d∈ds,a7!):a_ (Oq! ds):=by obtain⟨a,b⟩:=Jla h;exact A! (by simp only[PyData.canLay0];exact a) (by simp only[PyData.depth];lia)
universe S
universe E
def fC(K:W.Frag)(H:Hp)(a:Addr)(xs:C!):Prop:=(∃o,Fd! (.HK o (.BF xs)))\/∀H':Hp,at! H'
theorem fC.sq{K:W.Frag}{H:Hp}{a:Addr}{xs:C!}(h:fC K H a xs):II!:=h.elim (λ⟨o,e⟩=>HS! ZF!) λz=>z H
theorem fC.keep{K:W.Frag}{H H':Hp}{a:Addr}{xs:C!}(h:fC K H a xs)(kt:wS):fC K H' a xs:=h.elim (λ⟨o,e⟩=>CL! o (v! kt.HK _ e)) λz=>JW!
theorem fC.of{K:W.Frag}{H:Hp}{a:Addr}{xs:C!}(hO:t9 H)(h:II!):fC K H a xs:=by
 rcases h with(e|⟨o,e⟩)|z;.rcases hO a with q|⟨o,ys,q⟩;(.rw[q] at e;cases e);.rw[q] at e;cases e
 .exact CL! o e
 .exact L! (λH'=>JW!)
theorem Uo{prog:Program}{w:World}{A:Around}{R:iE!}{s:Shared}{elt target iter:Expr}{ifs:Jw!}{scope:Scope}{pos:Pos}{it acc:Value}{env:Env}(J:CG! Nat)(turn:∀k s0,J k s0->T3! (pyNext it) (λr s1=>match r with
  | none=>R (.ok .next) s1
  | some v=>T3! (letOwnedTupleGo target it v) (λ_ sg=>T3! (assign target env v) (λ_ s2 =>
   T3! (forIn ifs true λc r=>if r=true then do let ok <-isTrue c env (eval c env);pure (ForInStep.yield ok) else pure (ForInStep.yield r)) (λok s3 =>
    if ok=true then T3! (eval elt env) (λx s4 =>
     T3! (ez! "list.append" [acc,x]) (λ_ s5=>∃m,m<k/\J m s5) s4) s3
    else ∃m,m<k/\J m s3) s2) sg) s1) s0)(k:Nat)(h:J k s):rL! (.compLoop (f4! elt [⟨target,iter,ifs,0⟩] scope pos) 0 it acc env):=by
 refine codeAny_loop rfl J (λk s0 hI=>?_) k h
 show wpAny _ A ((compTurn (f4! elt [⟨target,iter,ifs,0⟩] scope pos) 0 it acc env).onRaise (λx=>do noteFrame x env;theTreesLotGoes x)) _ _ s0
 have no:∀{E:M?} (e:Value) (s':Shared),False->notedBy VI! A env E e s':=λ_ _ z=>z.elim
 refine wpAny_noted ?_
 rw[compTurn_list]
 refine xz wpAny_standAt (ZR (EO (turn k s0 hI) (λr s1 h1=>?_) no))
 cases r with
 | none=>exact ZS h1
 | some v =>
   refine ZR (EO h1 (λ_ sg hg=>ZR (EO hg (λ_ s2 h2=>ZR (EO h2 (λok s3 h3=>?_) no)) no)) no)
   cases ok with
   | false =>
     simp only[CL,EZ] at h3 ⊢
     exact ZS (s? h3)
   | true =>
     simp only[JV] at h3 ⊢
     exact xz ZR (EO h3 (λx s4 h4=>ZR (EO h4 (λ_ s5 h5=>ZS (ZS (s? h5))) no)) no)
def PV(X:F!)(sc:Scope)(cl:CW!)(C:Addr)(N:P?)(s1:Shared)(H1:Hp)(fp:J!)(AA:x!):F! where
 prog:=X.prog
 w:=X.w
 mg:=X.mg
 base:=X.base
 A:=X.A
 N:=N
 HR:=s1
 VE:=H1
 env:=compEnvC sc cl C X.env
 outer:=X.stack
 stack:=X.stack
 ex:=fp
 fn:=λ_=>false
 calm:=X.calm
 pn:=X.pn++AA
 xe:=QM!
def IF(cells:CW!):Di! CW!
 | []=>True
 | (x,c)::r=>U7! cells.lookup/\IF cells r
theorem IF.look{cells:CW!}:∀{cl:CW!} {x:Str} {c:Addr},IF cells cl->U7! cl.lookup->U7! cells.lookup
 | [],_,_,_,e=>f5!
 | (y,d)::r,x,c,h,e=>by rw[QX] at e;cases q:x==y with | true =>rw[q] at e;have e1:x=y:=eq_of_beq q;cases e;rw[e1];exact h.1 | false =>rw[q] at e;exact IF.look h.2 e
structure Jll(X:F!)(sc:Scope)(cl:CW!)(p:Str×Nat):Prop where
 n:X.N[p.2]?=some p.1
 k:U! X.env.scope.names.lookup p.1 Gp!
 l:cl.lookup p.1=X.env.cells.lookup p.1
 f:U! VJ! p.1 Gp!
def KH(X:F!)(sc:Scope)(cl:CW!):Di! GI!
 | []=>True
 | p::r=>Jll X sc cl p/\KH X sc cl r
theorem KH.at{X:F!}{sc:Scope}{cl:CW!}:∀{caps:GI!} {j:Nat} {p:Str×Nat},ON!->caps[j]?=some p->Jll X sc cl p
 | [],_,_,_,e=>f5!
 | q::r,0,p,h,e=>by simp at e;subst e;exact h.1
 | q::r,j+1,p,h,e=>KH.at h.2 (FI!)
abbrev Ej(caps:GI!):P?:=caps.map λp=>p.1
def Di(σ:L2.St)(caps:GI!):L2.St:=caps.map λp=>(σ[p.2]?).join
universe S
variable {X:Cx Kx}{sc:Scope}{cl:List (Str×Addr)}{AA:List (Addr×Obj)}{σ:L2.St}{H1:Hp}{s1:Shared}{fp:List Addr}{N:List Str}
theorem Jh5(I:OX!)(hf:XK! H1)(ho:CD! (∃o,AI! s1.heap.get?))(hk:Mc!)(JT:OO!)(has:∀x,(Bk! VJ! Gp!\/iI! VJ!)->∃c,U7! cl.lookup):(PV X sc cl s1.heap.objs.size N s1 H1 fp AA).Ok where
 mod:=I.ok.mod
 kind:=hk
 glob:=I.ok.glob
 blt:=I.ok.blt
 above:=ii
 inj:=λx y c e1 e2=>I.ok.inj x y c (JT.look e1) (JT.look e2)
 has:=has
 gM:=λx c e _=>Bg! e
 hd:=I.ok.hd
 frames:=I.ok.frames
 gT:=Fv!
 bG:=j? (A! (λz=>by
  obtain⟨o,e⟩:=B4! ho
  exact BK (AO e) z) (λx c e=>(hf b hb).2.2.2.2.1 x c (JT.look e)))
 bs:=Aw! (HX! I.bs)
 cR:=A_ I.ok.cR I.sz
 WB:=FJ! (by
  rcases(hf b hb).2.2.2.1 with z|z
  .exact Br! I.ok.WB z
  .exact J8! (BU (BU (AO e) I.ok.cR) z))
 T_:=λb hb z=>by
  rcases ZM (I.YX b z) with q|q
  .exact(hf b hb).2.1 q
  .exact(hf b hb).2.2.1 q
 MX:=I.stack
 dz:=j? (B4! I.RY)
theorem Jh6{x:Str}{caps:GI!}{h':Heap}{m:q?}{t':Nat}{o:Obj}(I:OX!)(ok:(PV X sc cl s1.heap.objs.size (x::Ej caps) s1 H1 fp AA).Ok)(JT:OO!)(SK:ON!)(hx:VB! VJ!)(hn:h'.Ns s1.heap.objs.size m)(hs:u2! s1.heap.objs.size (s1.heap.push o) h') : Inv (PV X sc cl s1.heap.objs.size (x::Ej caps) s1 H1 fp AA) [] (none::Di σ caps) H1 { s1 with heap:=h',toks:=t' }:=by
 have kp:wJ! (G3! s1.heap.get? u):=λb u e=>(hs.2 b lm!).trans aF!;have RA:Hy! s1.heap.objs.size:=Ni!;refine⟨ok,rfl,I.bare,Un.kept kp,⟨m,hn,λi y v e1 e2 e3=>?_⟩,ML! ?_,RA,ML! (oQ! I.IY),D0!,I.DP.kept kp,?_⟩;.cases i with | zero=>simp at e2 | succ j =>have jM:(x::Ej caps)[j+1]?=some y:=e1;rw[List.getElem?_cons_succ] at jM;(have m8:(Di σ caps)[j]?=some N0!:=by simpa using e2);rw[ZH] at jM;unfold Di at m8;rw[ZH] at m8;cases q:caps[j]? with | none=>rw[q] at jM;cases jM | some p =>rw[q] at jM m8;have e4:p.1=y:=ZO jM;have e5:(σ[p.2]?).join=some v:=ZO m8;have hc:=SK.at q;(have e6:σ[p.2]?=some N0!:=by cases z:σ[p.2]? with | none=>rw[z] at e5;cases e5 | some w' =>rw[z] at e5;have:w'=w? v:=e5;rw[this]);obtain⟨mm,sr,hl⟩:=I.loc;obtain⟨u,r,lk⟩:=hl p.2 p.1 v hc.n e6 (IQ! hc.k);refine⟨u,r,L! (L? (SU! e4 hc.f))⟩;rcases lk with⟨k1,_⟩|⟨_,c,v_,ce⟩;(.have:U! X.env.scope.names.lookup p.1 QH!:=k1;rw[hc.k] at this;cases this);.obtain⟨oc,mU,hd⟩:=ce;exact⟨c,G? e4 (hc.l.trans v_),oc,G! kp mU,hd⟩
 .obtain⟨v,oc,mU,hd⟩:=oQ! I.cell;exact⟨v,oc,G! kp mU,hd⟩
 .have gE:oz!:=hp;rw[AH] at gE;obtain⟨a1,a2,a3,a4,a5⟩:=I.pin p gE;refine⟨G! kp a1,a2,BK (AO a1),Dz!,a5⟩;rcases ZM (I.YX _ z) with q|q;(.exact a3 q);.exact a4 q
 .simp[Di,PV]
theorem Jc2{ak:x!}{EV:L2.St}{H':Hp}{s':Shared}(I:OX!)(hf:XK! H1)(I':Inv (PV X sc cl s1.heap.objs.size N s1 H1 fp AA) ak EV H' s'):KY! :=I.cW (ch:=fp) I'.os I'.base I'.DP I'.bare (j? ⟨(hf b hb).2.2.2.1,(hf b hb).2.1,(hf b hb).2.2.2.2.1,(hf b hb).2.2.2.2.2⟩)
theorem Xg{H':Hp}{s':Shared}{h':Heap}{RR:L2.St}{sA:Shared}(I:OX!)(I2:Inv X AA RR H' sA)(hn:RM! s1.heap.objs.size)(hs:u2! s1.heap.objs.size sA.heap h'):Inv X AA RR H' { sA with heap:=h' } :=I2.turned (it:=s1.heap.objs.size) (t':=sA.toks) (Ax! ((hs.2 b hb).trans e)) hn (ER I.lt) (AB! I.sz) (λx c e z=>by obtain⟨v,q⟩:=bX!;exact EW! q.lt (Pf! (DJ _))) λp hp z=>by have:=AO (I.pin p hp).1;rw[z] at this;exact J8! this
universe E
def kN(X:F!)(ifs:Jw!)(t:TT):Prop :=
 ∀(AA:x!)(s:Shared)(σ:L2.St)(H:Hp)(Q:Ja!),gJ! (t σ H Q ->
  j5! (forIn ifs true λc r=>if r=true then do let ok <-isTrue c X.env (VO! c);pure (ForInStep.yield ok) else pure (ForInStep.yield r)))
theorem Pi{X:F!}:kN X [] (bF!):=λAA s σ H Q I h=>wpAny_tests_nil ⟨H,I,h⟩
theorem Ed{X:F!}{c:Expr}{t:TT}(h:PT X c t):kN X [c] t:=λAA s σ H Q I hw=>wpAny_tests_one (a8! h hw)
def Xw(wi:TI)(caps:GI!)(tt:TT)(te:TE):TE:=t2! wi (λJ H1=>∀p,Hy! p->∃W:Nat->Nat->JB!,(∃m,W 0 m [] (Lh! p .BF []))/\∀i m ys H2,W i m ys H2->Vc! /\
 K8! J.stop (Is p H2) J.go J.aM (tt (Uu! (w? x)) H3 λb H4 =>
   if b=true then a9!
   else ∃m',m'<m/\W FS m' ys H4))
universe S
variable {X:Cx Kx}{elt iter:Expr}{x:Str}{px pos:Pos}{ifs:List Expr}{sc:Scope}{cl:List (Str×Addr)}{caps:List (Str×Nat)}{wi:TI}{tt:TT}{te:TE}
theorem Uq{AA:x!}{σ:L2.St}{H:Hp}{s:Shared}{Q:VK}{use:Option (Value->Sem Unit)}{RQ:M?}(hc:Av!)(hi:PI X ZV! iter wi)(PZ:c2!)(LP:bh!)(IX:Mc!)(LJ:dN!)(hx:KV!)(JT:OO!)(has:dO!)(SK:ON!)(hN:W3!)(ht:dC!)(he:dB!)(I:K!)(h:Xw wi caps tt te σ H Q)(fin:∀(C D:Addr) (H':Hp) (s1 s':Shared) (H1:Hp),C=s1.heap.objs.size->OX!->KY!->RM! C->(∃m,s'.heap.Ns C m)->dt! D->compPost Kz! X.A X.xe use RQ D6! C (.ok .next) s')(hs:dZ!) : Ux! (comprehension Og! sc X.env (firstIterPos eX! pos) (newList []) false Zp! use) RQ:=by
 refine wpAny_comprehension_free rfl hs PZ IX LJ (Uv! hi (ot! (λmR s2 h2=>?_)));obtain⟨it,fp,tn,J,H2,e,I2,T,f9,f2,hW⟩:=h2;subst e;refine DC ?_;have bw:Ay! H2 s2.heap.objs.size:=ZU!;have I3:BI! mP! Tn!:=I2.lG (t':=s2.toks) (its:=[]) S! C6!;obtain⟨W,⟨m0,w0⟩,turn⟩:=hW s2.heap.objs.size bw;have wJ:CD! (b≠s2.heap.objs.size):=λb hb z=>by obtain⟨o,e,_⟩:=r2! f9;exact ZI! AO (YH! (DJ _))
 have f3:XK! mP!:=j? (A! (Gq! (Ac (wJ b hb)) (VL! f2)) (f2 b hb).2);have i8:tn 0 (s2.heap.push xP!):=r3! f9 HN!;obtain⟨D,hD⟩:∃D,D=s2.heap.objs.size:=ci;obtain⟨H3,wG⟩:∃H3,H3=TB! s2.heap.objs.size:=ci;obtain⟨s3,gw⟩:∃s3:Shared,s3=Tn!:=ci;have fJ:tn 0 s3.heap:=I! gw i8
 rw[<-wG] at I3 f3 w0;rw[<-gw] at I3;rw[<-hD] at turn;show wpAny _ _ _ _ _ (Tn!:Shared);rw[<-gw,<-hD];refine wpAny_newFunctionEnv LP (by intro y hy;simp at hy) (λh1 vm j6=>?_) IX;have ok:=Jh5 (N:=x::Ej caps) I3 f3 (Bu! (let⟨o,e,_⟩:=r2! fJ;ZF!)) IX JT has;have j4:VB! VJ!:=lookup_relabel_local hx;have J4:=Jh6 (t':=o6!) I3 ok JT SK j4 vm j6;have oF:tn 0 h1:=r3! fJ ((j6.2 b lm!).trans aF!);have SH:∀{H':Hp},(XJ!)->CD! (Lf QG! [] H' b):=λhn b hb=>by refine⟨B4! hn,?_,λz=>ok.T_ b hb z,PJ!,ML! (oQ! (f3 b hb).2.2.2.2.1),D0!⟩;(.exact VL! ok.bG);.have gE:oz!:=hp;rw[AH] at gE;exact(f3 b hb).2.2.2.2.2 p gE
 have loop:∀s4:Shared,s4={ s3 with heap:=h1,toks:=o6! } -> codeAny Kz! X.A (.compLoop Og! 0 CR! D6! (compEnvC sc cl s3.heap.objs.size X.env)) (compPost Kz! X.A X.xe use RQ D6! s3.heap.objs.size) s4:=by rintro s4 rfl;refine Uo (λk s'=>∃i v0 ys H',pb! (qT! QG! om!) s'.heap (W i k ys H')) ?_ m0 ⟨0,none,[],H3,J4,oF,V7! f3,w0⟩;rintro k s5 ⟨i,v0,ys,H5,I5,eJ,bF,w5⟩;obtain⟨hD5,stop|⟨go,step⟩⟩:=turn i k ys H5 w5;(.obtain⟨stop,q⟩:=stop;refine tl! T.done stop;rintro r s6 ⟨hr,I6⟩;subst hr;obtain⟨mm,sr,_⟩:=I6.loc;exact fin _ D H5 s3 s6 H3 rfl I3 (Jc2 I3 f3 I6) I6.free (A! mm sr) q);.refine tl! T.item go;rintro r s6 ⟨u,hr,h6⟩;subst hr;refine EK h6 ?_;rintro _ s7 ⟨y,H7,I7,r7,y7,jg,QZ⟩;have yK:=I7.pinned (SH QZ) (d! T.obj jg);refine HD! (Bk (X:=rr!) (i:=0) hN rfl (c? j4) (AB! j4) _ s7 om! H7 y u (λEV H'=>EV=Uu! Rc!/\H'=H7) yK r7 C9!);rintro _ s8 ⟨σ8,H8,I8,e8,wq⟩;subst e8;subst wq;(have back:∀{n8:L2.St} {H9:Hp} {s9:Shared},Inv QG! ([]++Nk fp s7.heap) n8 H9 s9->tn (U?) s9.heap/\CD! (Dk! H9):=λ{n8 H9 s9} I9=>by refine A! (T.keep _ _ _ jg λb hb o e=>(I9.pin IY! (ZC _ (ZC _ (Fh hb e)))).1) JQ!;obtain⟨o,e,d⟩:=T.obj _ _ jg b hb;exact(I9.pin IY! (ZC _ (ZC _ (Fh hb e)))).2.1);refine ta! ht s8 I8 (step y _ y7);rintro ok s9 ⟨H9,I9,q9⟩;cases ok with | false =>simp only[CL,EZ] at q9 ⊢;obtain⟨m',hm,w9⟩:=q9;exact⟨m',hm,U?,Rc!,ys,H9,I9.JR,(back I9).1,(back I9).2,w9⟩ | true =>simp only[JV] at q9 ⊢;refine ta! he s9 I9 q9;rintro xv jj ⟨v,kX,yL,uw,lO,JS,m',hm,je⟩;refine HD! (Cv (X:=rr!) _ jj _ kX D6! [v] D6! [xv] (λ_ H'=>H'=Pl! kX D (ys++[v])) yL rfl (Gd! uw) ⟨D,ys,v,rfl,rfl,lO,JS,rfl⟩);rintro _ s11 ⟨_,qF,kW,_,wu⟩;subst wu;exact⟨m',hm,U?,Rc!,ys++[v],_,kW.JR,(back kW).1,(back kW).2,je⟩
 exact codeAny_compStart_list mk! (T.self _ 0 _ _ _ oF mk!)
theorem Fl(hc:Av!)(hi:PI X ZV! iter wi)(PZ:c2!)(LP:bh!)(IX:Mc!)(LJ:dN!)(hx:KV!)(JT:OO!)(has:dO!)(SK:ON!)(hN:W3!)(ht:dC!)(he:dB!)(hs:dZ!:=by intro _;rfl):VW! f4! elt eX! sc (Xw wi caps tt te):=by intro AA s σ H Q I h;rw[eval_ListComp];refine Uq (use:=none) hc hi PZ LP IX LJ hx JT has SK hN ht he I h (?_) hs;rintro C D H' s1 s' H1 hC I1 I' hn ⟨m,hm⟩ q;subst hC;exact⟨m,hm,λh' gy=>AA! (i! D) H' (Xg (s':=s') I1 I' hn gy) q⟩
theorem Ki{i:Nat}{y:Str}{py qI:Pos}(kC:X.N.Nodup)(cL:X.N[i]?=some y)(hy:U! X.env.scope.names.lookup y QH!)(hsw:swapsWith Og! (np! y py) qI.line X.env=pure true)(hc:Av!)(hi:PI X ZV! iter wi)(PZ:c2!)(LP:bh!)(IX:Mc!)(LJ:dN!)(hx:KV!)(JT:OO!)(has:dO!)(SK:ON!)(hN:W3!)(ht:dC!)(he:dB!)(hs:dZ!:=by intro _;rfl) :
 PS X (.Assign [Gr! y py] Og! qI) (MN! (Xw wi caps tt te σ H λv H'=>D.nx si! H')):=by
 intro AA s σ H D I h
 rw[exec_Assign_Name_used _ _ _ _ hsw]
 refine xz wpAny_standAt Sr!
 show wpAny _ X.A (do let _ <-comprehension Og! sc X.env _ (newList []) false Zp! (some (assign (Gr! y py) X.env))) _ _ s
 refine ZR (EO (Uq (use:=w? (assign (Gr! y py) X.env)) (RQ:=λ_ s'=>SP X AA D .next s') hc hi PZ LP IX LJ hx JT has SK hN ht he I h (λC Dd H' s1 s' H1 hC I1 I' hn ⟨m,hm⟩ q=>?_) hs) (λ_ s' hq=>ZS (ZS hq)) e3!)
 subst hC
 show QB! (assign (Gr! y py) X.env (V! Dd))
 refine wpAny_assign_Name (Ta I' kC cL (c? hy) (FF! (BL! (V! Dd) (V! Dd))) (λs2 I2 ⟨a,SE,ha⟩=>?_) (AB! hy))
 have hCa:s1.heap.objs.size≠a:=by
  rcases ha with z|z
  .rw[z];exact ER I1.lt
  .intro z2
   obtain⟨v,qc⟩:=I1.cell y a z
   exact EW! qc.lt (G? z2 (DJ _))
 exact⟨m,hm.sameBut SE hCa,λh' gy=>Dl! H' (Xg (s':=s') I1 I2 hn gy) q⟩
universe E
def OM(h:Heap)(d:Addr)(es:EB!)(ep:Nat):Prop:=∃o,El! d o/\o.ExactDict/\Jj!
theorem OM.at(x:VS! h)(k:∀o,El! d o->Zi! d):VS! h':=let⟨o,e,r⟩:=x;A2! (k o e) r
universe S
theorem Yr(nos:Yl!)(hm:IP!)(hQ:Is s.heap.objs.size (Gv! (lM! cw! (#[EX!,Zz!,T! es.size 0,kP!])))):Ab! (C5! pyIter d):=by obtain⟨ob,g1,g2,g3⟩:=id hm;have tD:s.TypeIs (V! d) Da!:=⟨ob,g1,g2.1⟩;refine wpAny_pyIter_slot tD F.slot_dict_iter (CU F.slot_dict_iter tD F.entry_dict_iter ?_ (F.args_dict_iter_1 _));unfold Builtin.«dict.__iter__»;refine H5!;unfold Builtin.Dict.dictSlotNone;refine No! GO tD;show Li! (pure (Value.ref d));refine ZS ?_;show Nq! (Builtin.Dict.showsAll d);unfold Builtin.Dict.showsAll;rw[YS! nos];refine ZG!;refine ZR (BV g1 g3 (ZR (EC g1 g3 ?_)));refine xz DC (ZS ⟨_,rfl,cw!,_,jS!,F.slot_dict_keyiterator_next.lookup,by simpa [rawInt] using hQ⟩)
theorem Yq(hit:Ta! s.heap.IsKeyIter es.size)(hm:IP!)(hx:es[i]?=some e)(hQ:∀h',h'.IsKeyIter it d FS es.size ep->eg! it->Q (some e.key) GE):ZE!:=by
 obtain⟨oi,i1,i2,i3⟩:=id hit;obtain⟨ob,g1,g2,g3⟩:=id hm;have tI:=hit.typeIs;unfold pyNext;refine dI! tI IL (CU IL tI F.entry_dict_keyiterator_next ?_ (F.args_dict_keyiterator_next_1 _));refine ps! ?_;first|refine lu!|refine lv!
 refine GT! wpAny_fieldsOf i1 i3;have br:o? (Builtin.Dict_items.ownsTuple cw!):=l!
 simp only[br,CL,EZ];show Li! nI!;rw[oD!];refine ap! g1 g3;rw[Ca!];refine lK! g1 g3;rw[Ca!];refine ZS ?_;have lt:f6!:=RO! hx;have ee:es[i]=e:=(DX.mp hx).2;simp only[Cm! pW! B!,EZ,CA,Array.getElem?_eq_getElem lt];refine H5!;first|refine lu!|refine lv!
 refine No! wpAny_isOneOf_keyiter tI;show Nq! (pP! 1 rawInt (y!+1));refine ZR (HV i1 i3 be ?_);have qT:(s.heap.update it (Obj.mapFields (·.setIfInBounds 1 (rawInt ((i:Int)+1))))).IsKeyIter it d FS es.size ep :=Dl! (T9! i1 MT FF i3) ((Obj.cls_mapFields ..).trans i2) (by rw[FF i3];simp[rawInt]);refine L1! ?_;refine ZR (wpAny_isOneOf_keyiter (s:=Gv! (s.heap.update it (Obj.mapFields (·.setIfInBounds 1 (rawInt ((i:Int)+1)))))) qT.typeIs ?_);show QB! (pure es[i].key);rw[ee];exact ZS (ZS (m? (ZS (hQ _ qT Jf!))))
theorem Jb7(hh:Ol!)(hit:Ta! s.heap.IsKeyIter es.size)(hm:IP!)(hx:es.size<=i)(hQ:∀h',Heap.ExtBut it s.heap h'->YA! none):ZE!:=by
 obtain⟨oi,i1,i2,i3⟩:=id hit;obtain⟨ob,g1,g2,g3⟩:=id hm;have tI:=hit.typeIs;unfold pyNext;refine dI! tI IL (CU IL tI F.entry_dict_keyiterator_next ?_ (F.args_dict_keyiterator_next_1 _));refine ps! ?_;first|refine lu!|refine lv!
 refine GT! wpAny_fieldsOf i1 i3;have br:o? (Builtin.Dict_items.ownsTuple cw!):=l!
 simp only[br,CL,EZ];show Li! nI!;rw[oD!];refine ap! g1 g3;rw[Ca!];refine lK! g1 g3;rw[Ca!];refine ZS ?_;simp only[Cm! pW! B!,EZ,CA,Array.getElem?_eq_none hx];refine H5!;first|refine lu!|refine lv!
 show Nq! (setField CR! 0 F?);refine ZR (HV i1 i3 be ?_);show k5! (newExc (BB! EH!) []);refine H5!;simp only[newExc,newTuple];refine ZR (DC ?_ gF!);refine ro! (firstArgMember _ _) Value.none (by first|rfl|(simp only[firstArgMember];rfl)) ?_;refine DC ?_ (by size_fits);simp only[raiseNew];refine xz wpAny_handled ?_;rw[show A.in1.handled=none from hh];refine U2! (wpAny_throw ?_);refine ZR (OC (T:=EH!) (b:=true) jS! isSubtype_stop ?_);exact ZS (hQ _ (((Heap.SameBut.update ..).extBut.push _).push _))
universe E
def tf(H:Hp)(kvs:AF!)(as:J!):Prop:=A6! (λ(p:List Key×V)(a:Addr)=>Fd! (.BE (Wu! kV))) kvs as
universe S
theorem Jj5{kvs:AF!}{xs:CX!}(p:Gk!):tf H kvs (xs.map Gz!):=ni! Jk8 Aa!
theorem Xe(I:K!)(e:Jc! d .dT kvs):Vy!/\Yl!/\∃(es:EB!)(ep:Nat)(as:J!),IP!/\es.size=kvs.length/\tf H kvs as/\∀j (h:f7!),∃a,as[j]?=some a/\es[j].key=DW! a:=by
 obtain⟨z,lo,xs,rel,o,es,ep,g1,g2,g3,g4,g5⟩:=va! d (.dT kvs) (e.ok I.DP);have hl:es.size=xs.length:=dY! (DP! g4)
 refine⟨z,lo,es,ep,Wn! xs.map,⟨o,g1,g2,g3⟩,Gq! hl (D2! Paired.length rel),Jj5 rel,λj h=>?_⟩;have hj:UZ!:=B!
 have e1:es.toList[j]?=some es[j]:=by simp[h]
 rw[g4,ZH] at e1;have e2:UY!=some xs[j]:=f8!
 rw[e2] at e1;refine PP xs[j].2.1 (PG! e2);have e3:entryOfKey (tupleKind Km!) xs[j]=es[j]:=ZO e1;rw[<-e3];rfl
universe E
universe S
theorem K9(I:K!)(hd:∃o,Ec! o)(nt:∀xs,H d≠Cr! .BE xs)(no:∀y,H d≠Cr! DV! y)(nf:∀o v,X.VE d≠w? (.HK o v))(ntb:∀ps,H d≠Cr! .gR ps)(new:w9! (CI! d u) d u):qm! u:=by
 obtain⟨o,hd⟩:=hd;have fr:∀b,x?->Dk! (CI! d u):=λb n=>o! (λz=>by rw[z,hd] at n;cases n) n
 refine⟨I.ok,I.os,I.bare,⟨I.base.keep,I.base.slot,λb ob e n hx=>fr b (s7! ob),I.base.there,λb xs e=>?_,λb ob v e=>?_,λb ps e=>?_⟩,I.loc,I.cell,fr _ I.free,ML! (fr _ (I.IY y c e)),D0!,λb v e=>?_,I.len⟩;.have:=I.base.QP b xs e;rw[Ac λz=>nt xs (HI! this)];exact this
 .have:=I.base.OL b ob v e;rw[Ac λz=>nf ob v (HI! e)];exact this
 .obtain⟨more,q⟩:=I.base.QQ b ps e;exact A! more (o! (λz=>ntb _ (HI! q)) q)
 .obtain⟨a1,a2,a3⟩:=Sz!;exact⟨a1,fr _ a2,a3⟩
 .by_cases hb:b=d;(.subst hb;rw[Ab] at e;cases e;exact new);.rw[Du!] at e;refine bs! v db! gU! gX!;(.rw[Ac λz=>no _ (HI! q)];exact q);.rw[Ac λz=>nt _ (HI! q)];exact q
theorem Jba(I:K!)(e:km!):∃o,nv!/\qm! Nv!:=by
 have ok:=JI! d e;obtain⟨_,_,xs,_,o,es,ep,g,_⟩:=id ok;refine A2! g (K9 I Af! (λxs z=>IN!) (λy z=>IN!) (λob v z=>ga! (I.base.OL d ob v z) e) (λps z=>IN!) (L? g));refine ok.OX (db!) (gU!) gX!;.rw[UN!];exact q
 .rw[UN!];exact q
theorem Zq(I:K!)(e:Ec! GY!)(nf:∀o v,X.VE d≠w? (.HK o v)):qm! u:=by
 obtain⟨g,ok⟩:=Wd! GY! e;refine K9 I Af! (λxs z=>IN!) (λy z=>IN!) nf (λps z=>IN!) ?_;refine ok.OX (db!) (gU!) gX!;.rw[UN!];exact q
 .rw[UN!];exact q
inductive Jpk(VE H H':Hp):Prop
 | mk d o u (_:Ec! GY!) (_:(∀o v,VE d≠w? (.HK o v))) (_:H'=upd H d u)
theorem PE.bU(h:PE X e t):PE X e (vI! (λv H1=>∃H2,Jpk X.VE H1 H2/\Q v H2)):=λAA s σ H Q I hw =>EK (h AA s σ H _ I hw) λu s' ⟨v,H1,I1,r,H2,⟨d,o,w',e1,e2,e3⟩,q⟩=>⟨v,H2,I! e3 (Zq I1 e1 e2),r,q⟩
theorem RF.bU(h:RF X GV t):RF X GV (MN! (∃H2,Jpk X.VE H H2/\t D σ H2)):=λAA s σ H D I ⟨H2,⟨d,o,w',e1,e2,e3⟩,q⟩=>by subst e3;exact h AA s σ _ D (Zq I e1 e2) q
universe E
def iJ(d:Addr)(kvs:AF!)(o:Obj):It :=
 b7! (gh! Nv! f9!) (∃a k v,Ap!/\N7! Uf!/\Fd! vg!) (gh! Nv! (kvs.length<=i))
theorem Jde{P:Program}{w:World}{K:W.Frag}{tg:Expr}(d it:Addr)(kvs:AF!)(o:Obj)(es:EB!)(ep:Nat)(ho:o.ExactDict)(hd:Jj!)(hz:es.size=kvs.length):dd! (iJ d kvs o) (Ta! h.IsKeyIter es.size) where
 mem:=D?
 obj:=QT! (by
  have e:b=it:=CC!
  subst e
  obtain⟨oi,e,c,q⟩:=st
  exact⟨oi,e,XL! q⟩)
 keep:=λi h h' ⟨oi,e,r⟩ k=>⟨oi,k it be oi e,r⟩
 item:=by
  intro X hP hw hc i AA s σ H E I hf st ⟨hg,hi⟩
  subst hP hw
  obtain⟨f0,f1,f2,f3,f4,f5⟩:=E4!
  have g:nv!:=(show EB X.prog X.w H s.heap d Nv! from I.DP d _ hg).1
  obtain⟨_,_,iA,kG,as,⟨o',g',q1,q2⟩,z',ks,at_⟩:=Xe I (N? (CO! hg))
  rw[g] at g';cases g'
  rw[hd] at q2
  injection q2 with q2 q3
  subst q2;subst q3
  have lt:f6!:=B!
  obtain⟨a,ha,hk⟩:=at_ i lt
  have hx:Uf!=some kvs[i]:=de!
  refine Yq st ⟨o,g,ho,hd⟩ (e:=es[i]) (by simp[lt]) gi!
  have I1:J1!:=Vr! (gA! ((sb.2 b hb).trans e))
  obtain⟨oi,e,c,q⟩:=id RS
  refine m? (og! q Aj! hk ⟨rfl,a,kvs[i].1,kvs[i].2,rfl,hx,Av ks i kvs[i] a hx ha⟩)
 done:=by
  intro X hP hw hc i AA s σ H E I hf st ⟨hg,hi⟩
  subst hP hw
  obtain⟨f0,f1,f2,f3,f4,f5⟩:=E4!
  have g:nv!:=(show EB X.prog X.w H s.heap d Nv! from I.DP d _ hg).1
  exact Jb7 Gh! st ⟨o,g,ho,hd⟩ E! (xn! (gA! (eb b ob hb e)))
 self:=Tm! wpAny_pyIter_keyiter
universe S
def Jo0(td:TE):TI:=XM! td (∃d kvs,x=EX!/\re H1 d .dT kvs/\∀o,R (iJ d kvs o) (upd H1 d Nv!))
theorem Pj{l:Expr}{td:TE}(hl:PE X l td):N8! l (Jo0 td):=by
 intro AA s σ H R I h;refine bN!;rintro v s1 ⟨x,H1,I1,r1,d,kvs,ex,hd,hR⟩;subst ex;cases r1;obtain⟨o,g,I2⟩:=Jba I1 hd;obtain⟨_,lo,es,ep,as,⟨o',g',q1,q2⟩,z,ks,at_⟩:=Xe I1 (c? hd);rw[g] at g';cases g';refine Yr lo ⟨o,g,q1,q2⟩ ?_;have fresh:=ZU!;have I3:BI! (upd H1 d Nv!) { s1 with heap:=WH! s1.heap.push cw! (#[EX!,Zz!,T! es.size 0,kP!]) }:=aS! I2.kept (Ug! HN!);refine oU! (iJ d kvs o) _ I3 (Jde d _ kvs o es ep q1 q2 z) (hR o);have e:Wb!:=CC!
 subst e;exact I2.bf (ZG _) fresh
universe E
universe E FX
universe N FhS
open PySem PyProof.Rows PySem.W
def ON(cmp:Nat->Nat->CG! (YR!))(lt:jq!)(n:Nat)(s:Shared):Prop :=
 ∀i j,i<n->j<n->∀C:YR!,C (lt i j) s->cmp i j C s
structure q_(lt:jq!)(n:Nat):Prop where
 tr:∀i j k,i<n->j<n->k<n->gL!->lt j k=true->lt i k=true
 tot:∀i j,i<n->j<n->i≠j->o? (lt i j)->lt j i=true
structure Pm(p:KD!)(n:Nat):Prop where
 pm:p.toList.Perm (List.range n)
theorem Pm.size(h:E1!):p.size=n:=by have:=h.pm.length_eq;simpa using this
theorem Pm.lt(h:E1!)(hi:i<n):am!<n:=by
 have hs:=h.size;have cL:i<p.size:=B!
 have e:am!=p[i]:=by simp[Array.getD,cL]
 rw[e];have:p[i]∈List.range n:=h.pm.mem_iff.mp (D?);exact BB.mp this
theorem Pm.inj(h:E1!)(hi:i<n)(hj:j<n)(e:am!=p.getD j 0):i=j:=by
 have hs:=h.size;have cL:i<p.size:=B!
 have dA:j<p.size:=B!
 have nd:p.toList.Nodup:=h.pm.nodup_iff.mpr List.nodup_range;have e1:am!=p[i]:=by simp[Array.getD,cL]
 have e2:p.getD j 0=p[j]:=by simp[Array.getD,dA]
 rw[e1,e2] at e;have:=(IU (xs:=p.toList) (i:=i) (j:=j) (h₀:=by simpa using cL) (h₁:=by simpa using dA) nd).mp (FI!);exact this
theorem Pm.cb(h:E1!)(hq:q.Perm p):Pm q n:=⟨(Array.perm_iff_toList_perm.mp hq).trans h.pm⟩
theorem Jf5(n:Nat):Pm (List.toArray (List.range n)) n:=⟨D?⟩
def Up(lt:jq!)(p:KD!)(m:Nat):Prop:=∀i j,i<j->j<m->dG! fT! j
def Dn(lt:jq!)(p:KD!)(m:Nat):Prop:=∀i j,i<j->j<m->mc! j
universe S
variable (O:q_ lt n)
include O
theorem other(h:E1!)(hi:i<n)(hj:j<n)(cK:i≠j)(e:o? (lt fT! (p.getD j 0))):mc! j :=O.tot _ _ (h.lt hi) (h.lt hj) (λz=>cK (h.inj hi hj z)) e
theorem Up.snoc(h:E1!)(h1:1<=a)(ha:a<n)(u:TD! a)(e:dG! nD! a):Up lt p (a+1):=by
 intro i j cK hj;by_cases pC:j=a;.subst pC;by_cases hi:i=j-1;(.rw[hi];exact e);.exact su! PM! (h.lt ha) (u i (j-1) E! (MP! (VV! Nat.sub_lt G8!))) e
 .exact u i j cK E!
theorem Dn.snoc(h:E1!)(h1:1<=a)(ha:a<n)(u:Dn lt p a)(e:WQ! a nD!=true):Dn lt p (a+1):=by
 intro i j cK hj;by_cases pC:j=a;.subst pC;by_cases hi:i=j-1;(.rw[hi];exact e);.exact su! (h.lt ha) PM! e (u i (j-1) E! (MP! (VV! Nat.sub_lt G8!)))
 .exact u i j cK E!
theorem xr(K:US!)(h:E1!):∀(f a:Nat)(G:CG! Nat),1<=a->a+f<=n->TD! a -> (∀m,a<=m->m<=a+f->TD! m->(m=a+f\/WQ! m (p.getD (m-1) 0)=true)->G m s)->(kas_asc p f a).kasWp cmp G s
 | 0,a,G,_,_,u,k=>k a Am! Am! u HJ!
 | f+1,a,G,h1,hn,u,k=>by unfold kas_asc;refine dJ! PM!;cases e:WQ! a nD! with | true =>simp only[JV];exact k a Am! (MP! (Nat.le_add_right _ _)) u (AB! e) | false =>simp only[CL,EZ];exact xr K h f (a+1) G (Qa! GN) E! (Up.snoc O h h1 E! u (other O h E! E! E! e)) λm a1 a2 a3 a4=>k m (Qa! DT) E! a3 (a4.imp (λz=>B!) Go!)
theorem Jcw(K:US!)(h:E1!):∀(f a:Nat)(G:CG! (KD!×Nat×Nat)),1<=a->a+f<=n->Dn lt p a -> (∀m,a<=m->m<=a+f->Dn lt p m->G (p,m,0) s)->(kas_desc f p a 0).kasWp cmp G s
 | 0,a,G,_,_,u,k=>k a Am! Am! u
 | f+1,a,G,h1,hn,u,k=>by unfold kas_desc;refine dJ! PM!;cases e:WQ! a nD! with | true =>simp only[JV,DJ,gt_iff_lt,EZ];exact Jcw K h f (a+1) G (Qa! GN) E! (Dn.snoc O h h1 E! u e) λm a1 a2 a3=>k m (Lk! DT) E! a3 | false =>simp only[CL,EZ];refine dJ! PM!;simp only[other O h E! E! E! e,JV];exact k a Am! (Uh! (Nat.le_add_right _ _)) u
omit O in
theorem Pn{p q:Array Nat}{i j:Nat}(e:p[i]?=q[j]?):p.getD i 0=q.getD j 0:=by
 rw[Array.getD_eq_getD_getElem?,Array.getD_eq_getD_getElem?,e]
omit O in
theorem Jmc{p:Array Nat}{m:Nat}(hm:m<=p.size)(d:Dn lt p m):Up lt (kas_rev p 0 m) m:=by
 intro i j cK hj
 have g:∀k,k<m->(kas_rev p 0 m).getD k 0=p.getD (m-1-k) 0:=λk hk=>by
  refine Pn ?_
  unfold kas_rev
  rw[getElem?_mirror_all hm,AE ⟨AM _,hk⟩]
  congr 1;lia
 rw[g i (by lia),g j hj]
 exact d _ _ (by lia) (by lia)
theorem Jh3(K:US!)(hn:1<=n)(h:E1!)(G:CG! (Nat×KD!))(k:∀m q,1<=m->m<=n->Pm q n->Up lt q m->G (m,q) s):(kas_count n p).kasWp cmp G s:=by
 unfold kas_count;rw[QD];have up1:TD! 1:=λi j h1 h2=>B!
 refine xr O K h (n-1) 1 _ Am! E! up1 λa a1 a2 a3 a4=>?_;by_cases ha:Ix (a==n);.rw[AE ha];exact k a p a1 E! h a3
 .rw[AB ha];(have wD:a≠n:=by simpa using ha);by_cases h1:a > 1;(.rw[AE h1];refine dJ! (h.lt (gQ!));simp only[a3 0 (a-1) E! (Uh! (VV! Nat.sub_lt G8!)),JV];exact k a p a1 E! h a3);.rw[AB h1];(have e1:a=1:=B!);subst e1;unfold kas_descPart;rw[QD];have e2:dG! (p.getD 1 0) 0:=a4.elim (λz=>B!) Go!;(have d2:Dn lt p (1+1):=by intro i j cK hj;(have e3:i=0:=B!);(have e4:j=1:=B!);rw[e3,e4];exact e2);refine Jcw O K h (n-(1+1)) (1+1) _ (MP! (EX _)) E! d2 λm q2 q3 q4=>?_;simp only[gt_iff_lt,DJ,EZ];unfold kas_tail3;rw[QD];have hr:Pm (kas_rev p 0 m) n:=h.cb (v! mirror_perm _ _);refine xr O K hr (n-m) m _ (Qa! DT) E! (Jmc (LC! h.size) q4) λb b1 b2 b3 _=>?_;exact k b _ E! E! hr b3
theorem Qn(K:US!)(h:E1!)(hk:k<n)(u:TD! k):∀(f l r:Nat)(G:CG! Nat),l<=r->r<=k->r-l<=f->(∀i,i<l->dG! fT! k)->(∀i,r<=i->i<k->mc! k) -> (∀m,m<=k->(∀i,i<m->dG! fT! k)->(∀i,m<=i->i<k->mc! k)->G m s)->(kas_place p k f l r).kasWp cmp G s
 | 0,l,r,G,h1,h2,h3,lo,hi,g=>g l (Uh! py!) lo λi a b=>hi i E! b
 | f+1,l,r,G,h1,h2,h3,lo,hi,g=>by unfold kas_place;by_cases q:l ≥ r;(.rw[AE q];exact g l (Uh! py!) lo λi a b=>hi i (Uh! py!) b);.rw[AB q];refine dJ! (h.lt hk);cases e:WQ! k (p.getD (ZR!) 0) with | true =>simp only[JV];refine Qn K h hk u f l (ZR!) G E! E! E! lo (λi a b=>?_) g;by_cases z:i=ZR!;(.rw[z];exact e);.exact su! (h.lt hk) PM! e (u _ _ E! b) | false =>simp only[CL,EZ];have e':=other O h hk E! E! e;refine Qn K h hk u f (ZR!+1) r G E! h2 E! (λi a=>?_) hi g;by_cases z:i=ZR!;(.rw[z];exact e');.exact su! PM! (h.lt hk) (u _ _ E! E!) e'
omit O in
theorem Jnh{p:Array Nat}(h:Pm p n){k l:Nat}(hk:k<n)(hl:l<=k)(u:Up lt p k)(lo:∀i,i<l->lt (p.getD i 0) (p.getD k 0)=true)(hi:∀i,l<=i->i<k->lt (p.getD k 0) (p.getD i 0)=true) :
 Up lt (bubble p k (k-l)) (k+1):=by
 have g:∀j,j<k+1->(bubble p k (k-l)).getD j 0=if j=l then p.getD k 0 else if l<j then p.getD (j-1) 0 else p.getD j 0:=λj hj=>by
  have e:=getElem?_bubble (xs:=p) (src:=k) (by rw[h.size];exact hk) (k-l) (by lia) j
  rw[show k-(k-l)=l by lia] at e
  by_cases c1:j=l
  .rw[AE c1] at e ⊢;exact Pn e
  .rw[AB c1] at e ⊢
   by_cases c2:l<j
   .rw[AE ⟨c2,by exact PQ ‹_›⟩] at e;rw[AE c2];exact Pn e
   .rw[AB (by lia)] at e;rw[AB c2];exact Pn e
 intro i j cK hj
 rw[g i (by lia),g j hj]
 repeat' split
 all_goals first
  | (exfalso;lia)
  | exact lo _ (by lia)
  | exact hi _ (by lia) (by lia)
  | exact u _ _ (by lia) (by lia)
theorem Jh7(K:US!):∀(f:Nat)(p:KD!)(k:Nat)(G:CG! KD!),E1!->k+f=n->TD! k->(∀q,Pm q n->Up lt q n->G q s)->(kas_bin f p k).kasWp cmp G s
 | 0,p,k,G,h,hk,u,g=>by (have e:k=n:=gQ!);subst e;exact g p h u
 | f+1,p,k,G,h,hk,u,g=>by unfold kas_bin;rw[QD];exact Qn O K h (k:=k) E! u k 0 k _ C6! Am! (MP! ii) (λi a=>by contradiction) (λi a b=>Uh! (M6! G8! Nat.not_lt_of_le G8!)) λm c1 c2 c3 =>Jh7 K f _ (k+1) G (h.cb (d! bubble_perm _)) E! (Jnh h E! c1 u c2 c3) g
theorem i4(K:US!)(hn:1<=n)(G:CG! KD!)(g:∀q,Pm q n->Up lt q n->G q s):(kas_sort n).kasWp cmp G s:=by
 unfold kas_sort;rw[QD];refine Jh3 O K hn (Jf5 n) _ λm q h1 h2 h3 h4=>?_;by_cases c:m<n;.rw[v?];(have e2:max m 1=m:=B!);show(kas_bin (n-max m 1) q (max m 1)).kasWp cmp G s;rw[e2];exact Jh7 O K _ q m G h3 E! h4 g
 .rw[EQ];(have e2:m=n:=B!);subst e2;exact g q h3 h4
universe E
universe E FhS
universe N FX
open PySem PySem.Spec PyProof.Rows L2
universe S
theorem Jdn(hh:Ol!)(I d:Addr)(c_:d≠I)(es:EB!)(ep:Nat):Walks prog w A I [I,d] [I] es.size (rT!) (λi h=>h.IsKeyIter I d i es.size ep/\VS! h) where
 sub:=j? (by simp at hb;simp[hb])
 frame:=λ_ _ _ st hk=>A! (let⟨o,e,r⟩:=st.1;A2! (hk I be o e) r) (k8! st.2.at hk d)
 item:=λi s0 Q E0 hi st hQ=>Yq st.1 st.2 (e:=es[i]) (de!) λh' it' sb =>
  hQ _ h' s0.toks (CT! (es[i]) de!) (A! it' (st.2.at λo e=>(sb.2 d c_).trans e)) (Ax! ((sb.2 b λz=>hb (by simp[z])).trans e))
 done:=λs0 Q E0 st hQ=>Jb7 hh st.1 st.2 Am! λh' eb=>hQ h' s0.toks (Px! eb (lV! hb))
 self:=λ_ _ _ _ st hQ=>wpAny_pyIter_keyiter st.1 hQ
theorem Vq(lo:Yl!):W.KdlSrc prog w Da! d d es.size (rT!) (λh=>VS! h) where
 type:=λ_ ⟨o,e,x,_⟩=>Er! x.1
 there:=λ_ ⟨o,e,_⟩=>A! B1! B1!
 keep:=λ_ _ hm hk=>hm.at λo e=>hk d HJ! o e
 notList:=l!
 notTuple:=l!
 hint:=λ_ _ _ _ ⟨o,e,x,_⟩ hq=>W.kdl_hint_dict (Er! x.1) hq
 iter:=λ_ s0 hh hm=>EO! _ (λ_ _ hq=>Yr lo hm hq) (Jdn hh _ d (let⟨o,e,_⟩:=hm;BK (AO e)) es ep) (A! xl! (hm.at λo e=>HN!))
universe E
theorem Kg:∀as:J!,Vals (as.map V.ref) (as.map Value.ref)
 | []=>S!
 | _::as=>C? rfl (Kg as)
theorem Z9{es:EB!}{acc:CS!}{as:J!}(ha:ItemsOf (rT!) acc es.size)(g_:as.length=es.size)(at_:∀j (h:f7!),∃a,as[j]?=some a/\es[j].key=DW! a):ge! nP!:=by
 refine cf!;by_cases hj:f7!;·(have h1:j<acc.size:=I! ha.1 hj);obtain⟨e2,e3,e4⟩:=ha.2 j acc[j] (gg!);obtain⟨a,e5,e6⟩:=at_ j hj;(have e7:e2=es[j]:=by (have:es[j]?=some es[j]:=f8!);rw[this] at e3;exact D2! ZO e3);rw[ZH,e5];(have:acc.toList[j]?=some acc[j]:=gg!);rw[this,e4,e7,e6];rfl
 ·(have h1:acc.toList.length<=j:=Ai! DE ha.1 NP!);(have h2:mm!<=j:=PU!);rw[CY h1,CY h2]
universe S
variable {X:Cx Kx}
inductive O6(xs:C!)(H:Hp)(Q:VK):Prop
 | mk d kvs (_:kY!) (_:Jc! d .dT kvs) (_:∀l as,Fy!->tf H kvs as->Is l (NC! JD!))
theorem R5(hc:Av!):Fu X (BB! AH!) O6:=by intro AA s σ H xs us Q I r h;obtain⟨d,kvs,rfl,hd,q⟩:=h;obtain⟨u,rfl,rx⟩:=KO!;cases rx;obtain⟨z,lo,es,ep,as,raw,hz,ks,at_⟩:=Xe I hd;refine W.kdl_call (Vq lo (es:=es) (ep:=ep)) Gh! raw (q! hz z) λh' tk acc c kp e ha=>?_;have hn:RV!:=Ni!;have g_:as.length=kvs.length:=D2! Paired.length ks;have e1:ge! nP!:=Z9 ha E! at_;refine WJ! s.heap.objs.size (r6! I.laid tk kp (ZQ! _ _ JD!) ⟨PU!,acc.toList,c,?_,FI!⟩) (q _ as hn ks);rw[e1];exact Kg as
universe E
theorem Pl:∀xs:A?,o? (jm! xs)
 | []=>rfl
 | x::xs=>Ai! HT.GX SL (Pl xs)
theorem Wf:∀{xs ys zs:A?},jm! ys=true->HT.lexLt ys zs=true->jm! zs=true
 | [],[],_,h,_=>JS!
 | [],_::_,[],_,h=>JS!
 | [],_::_,_::_,_,_=>rfl
 | _::_,[],_,h,_=>JS!
 | _::_,_::_,[],_,h=>JS!
 | x::xs,y::ys,z::zs,h1,h2=>by rw[HT.GX] at h1 h2 ⊢;by_cases e1:x=y;(.rw[AE e1] at h1;by_cases e2:y=z;(.rw[AE e2] at h2;rw[AE (e1.trans e2)];exact Wf h1 h2);.rw[AB e2] at h2;rw[AB (gV! e2),e1];exact h2);.rw[AB e1] at h1;have h1:=BW h1;by_cases e2:y=z;(.rw[AB (G? e2 e1),<-e2];exact decide_eq_true h1);.rw[AB e2] at h2;have h2:=BW h2;rw[GR!];exact id!
theorem Wh:∀{xs ys:A?},xs≠ys->o? (jm! ys)->HT.lexLt ys xs=true
 | [],[],h,_=>mn!
 | [],_::_,_,h=>JS!
 | _::_,[],_,_=>rfl
 | x::xs,y::ys,c_,h=>by rw[HT.GX] at h ⊢;by_cases e:x=y;(.rw[jp] at h;rw[AE e.symm];exact Wh (λz=>c_ (XA! z)) h);.rw[SC] at h;have h:=of_decide_eq_false h;rw[AB (Ne.symm e)];exact id!
theorem Ih{α:Type}{lt:Uf α α}(irr:∀a,¬lt a a)(qw:∀a b,lt a b->¬lt b a):∀{YR l₂:N!},YR.Perm l₂->YR.Pairwise lt->l₂.Pairwise lt->YR=l₂
 | [],l₂,p,_,_=>(List.Perm.nil_eq p)
 | a::YR,[],p,_,_=>by have:=p.length_eq;simp at this
 | a::YR,b::l₂,p,h1,h2=>by have hU:=DV.mp h1;have dy:=DV.mp h2;(have e:a=b:=by have ha:a∈b::l₂:=p.mem_iff.mp (AJ!);have hb:b∈a::YR:=p.mem_iff.mpr (AJ!);rcases ZM ha with e|ha;(.exact e);.rcases Eo! with e|hb;(.exact e.symm);.exact IR (dy.1 a ha) (d! qw (hU.1 b hb)));subst e;rw[Ih irr qw (List.Perm.cons_inv p) hU.2 dy.2]
universe S
theorem To(ho:Yk! (seqObj AH! vs.toArray n))(cN:vs.length<64)(O:FhS.q_ lt vs.length)(K:2<=vs.length->∀h',(lh!)->∀Q:CG! SortKind,(∀κ,FhS.ON (W.kas_ask prog w A κ vs) lt vs.length GE->YA! κ)->as! (keyKind' vs.toArray) GE)(h:∀q:DG!,a2! vs.length->cJ! gL!->∀h' c,(lh!)->KB! (Nj! q.map (Cz! vs.getD F?) c)->P oC! GE) :
 Tv! (Builtin.«list.sort» NN!) P:=by
 rw[list_sort_plain]
 have al:a<s.heap.objs.size:=AO ho
 have small:∀{k:Nat},k<=63->k<=sizeLine:=λhk=>I! DI (Kb! G8!)
 refine ZR (listItems_at ho rfl (ZR (listUpdate_at ho rfl ?_ (q! BG (small (Lk! PQ))) C6!)))
 obtain⟨e1,g1⟩:∃e1,Cu! (s.heap.update a (Obj.mapSeq λ_=>(#[]:CS!))).get? (ZW! e1):=e? (MF ho λ_=>#[])
 refine ZR (seqEpoch_at g1 rfl (ZR (wpAny_newTuple (ZR (VH (DA ?_) C6!)) (by show vs.length<=_;exact small (Lk! PQ)))))
 have g2:Cu! (tP! (seqObj AH! #[] 0)).get? (ZW! e1):=ZT _ (ZT _ g1)
 have kp:KE (b≠a->CM!->AI! (tP! (seqObj AH! #[] 0)).get?):=λb o hb e =>
  ZT _ (ZT _ (lD! e))
 show ev! _ P (Gv! (tP! (seqObj AH! #[] 0)))
 generalize tP! (seqObj AH! #[] 0)=hh at g2 kp
 dsimp only
 have fin:∀(st:SortSt)(q:DG!),ZD! arrOf st=(q.map (Cz! vs.getD F?)).toArray->Ay! failedOf st->a2! vs.length->cJ! gL! ->
  ev! (do
   let touched:=(<-seqEpoch a) != e1
   Builtin.List.listUpdate SB λ_=>ZD! arrOf st
   if let some e:=failedOf st then rule "list.sort.comparison-raised";throw e
   if touched then rule "list.sort.modified";raiseError Ir! "list modified during sort"
   ret F?) P hI!:=λst q ea ef qp qo=>by
  have hl:q.length=vs.length:=I? qp.length_eq CF
  refine GT! seqEpoch_at g2 rfl
  rw[ea]
  refine ZR (listUpdate_at g2 rfl ?_ C6! (by show(q.map (Cz! vs.getD Value.none)).toArray.size<=sizeLine+1;rw[BG,ZA,hl];exact GN (small (Qa! PQ))))
  rw[ef]
  simp only[bne_self_eq_false,CL,EZ]
  refine ZS (h q qp qo _ _ (Ax! (lD! (kp b o hb e))) (MF g2 _))
 by_cases h2:vs.toArray.size<2
 .rw[AE h2,AE h2]
  refine ZG!
  rw[StateT.run_pure]
  refine ZG!
  have dy:vs.length<2:=Wl!
  refine fin (SortSt.mk' general' (vs.toArray.zip vs.toArray) #[] 7 none) (List.range vs.length) ?_ rfl (List.Perm.refl _) ?_
  .show ZD! vs.toArray.zip vs.toArray=_
   match vs,dy with
   | [],_=>simp
   | [v],_=>simp
  .match vs,dy with
   | [],_=>exact List.Pairwise.nil
   | [v],_=>exact List.pairwise_singleton _ _
 .rw[AB h2,AB h2]
  have dy:2<=vs.length:=Wl!
  refine ZR (K dy hh kp _ λκ ask=>?_)
  refine ZR (EO (W.kat_run (E:=E) (vs:=vs) (ks:=vs) (κ:=κ) (s:=hI!) (Q:=λRS s'=>s'=hI!/\∃q:DG!,ZD! arrOf RS=(q.map (Cz! vs.getD F?)).toArray/\Ay! failedOf RS/\a2! vs.length/\cJ! gL!)
   (G:=λp s'=>s'=hI!/\FhS.Pm p vs.length/\FhS.Up lt p vs.length) rfl dy cN (λp RS s' hp ha hf ⟨e,pm,up⟩=>?_) (FhS.i4 O ask (Qa! DT) _ λq pm up=>HC! pm up)) (λr s' hr=>?_) e3!)
  .refine⟨e,p.toList,W.kat_snds rfl ha,hf,pm.pm,?_⟩
   rw[List.pairwise_iff_getElem]
   intro i j hi hj cK
   have hs:=pm.size
   have:=up i j cK (by rw[<-hs];simpa using hj)
   have gi:am!=p.toList[i]:=by simp[Array.getD,show i<p.size by simpa using hi]
   have gj:p.getD j 0=p.toList[j]:=by simp[Array.getD,show j<p.size by simpa using hj]
   rw[gi,gj] at this
   exact this
  .obtain⟨u,RS⟩:=r
   obtain⟨e,q,q1,q2,q3,q4⟩:=hr
   dsimp only at e q1 q2 ⊢
   subst e
   exact fin RS q q1 q2 q3 q4
universe E
universe S
theorem Jhb{us ws:Z!}{ns ms:A?}(i:Nat)(s:Shared)(p:PW! us)(q:PA! ws ms)(hf:fin=p? (ns.length<ms.length))(h:Q (HT.lexLt ns ms) s):W.KatLex prog w A b fin Q (us.zip ws) i s:=by induction p generalizing ws ms i with | nil =>rw[List.zip_nil_left];refine W.kat_nil ?_;rw[hf];cases q<;>exact h | cons n t r ih =>cases q with | nil=>rw[List.zip_nil_right];refine W.kat_nil ?_;rw[hf];exact h | cons m u q =>rw[List.zip_cons_cons];refine W.kat_cons (wpAny_eqBool_int (W.kat_go (λe=>W.kat_yes ?_) λe=>W.kat_no ?_));(·(have e:n=m:=FI!);rw[HT.GX,jp] at h;exact ih FS q (Cl! hf) h);·(have e:n≠m:=FI!);rw[HT.GX,SC] at h;cases hb:(b&&i==0) with | true=>exact oneLt_int h | false=>exact W.kat_one _ _ (lt_int h)
def JP(h:Heap):hx! (List (List Int)):=MO! (λa ns=>ns≠[]/\∃its,nr! a/\PW! its.toList)
theorem Xr{as:J!}{VP:List (List Int)}(p:JP h as VP):∃fs:Z!,W.KatTups h wn! fs/\fs.length=as.length/\∀v∈fs,∃n t,v=Value.int n t:=by induction p with | nil=>exact FQ! [] trivial (λv hv=>by simp at hv) | cons r t ih =>obtain⟨fs,a1,a2,a3⟩:=ih;obtain⟨c_,its,⟨o,ho,hc,n,hd⟩,hi⟩:=r;cases hL:its.toList with | nil=>rw[hL] at hi;cases hi;exact GS! c_ | cons f fr =>rw[hL] at hi;cases hi with | cons n0 t0 hr =>refine⟨Value.int n0 t0::fs,W.KatTups.cons ho hc hd ?_ a1,by simp[a2],Qs!⟩;(·(have:its[0]?=its.toList[0]?:=D?);rw[this,hL];rfl);.rcases ZM hv with rfl|hv;(.exact LW! _);.exact a3 v hv
theorem JP.keep(k:xG! BW! (∃ts n,o.data=Na! ts/\XG!))(t:JP h as VP):JP h' as VP :=Ar (λa ns ⟨h1,its,⟨o,ho,hc,n,hd⟩,hi⟩=>⟨h1,its,⟨o,k a o ho (Dl! _ hd hc),hc,n,hd⟩,hi⟩) t
theorem Jdf(hκ:∃b,κ=tuples' b)(t:JP s.heap as VP) : FhS.ON (W.kas_ask prog w A κ wn!) (λi j=>HT.lexLt (VP.getD i []) (VP.getD j [])) mm! s:=by
 obtain⟨b,rfl⟩:=hκ;intro i j hi hj C hC;rw[ZA] at hi hj;have get:∀k,k<as.length->∃a ns its,xU! k F?=DW! a/\VP.getD k []=ns/\IsTup s.heap a its/\PW! its.toList:=λk hk=>by have hl:=Paired.length t;(have h1:as[k]?=some as[k]:=by simp[hk]);(have h2:VP[k]?=some (VP[k]' E!):=Qt! (k<VP.length));obtain⟨_,its,q1,q2⟩:=Av t k _ _ h1 h2;exact⟨as[k],_,its,by simp[hk],Qt! (k<VP.length),q1,q2⟩
 obtain⟨a,ns,its,e1,e2,⟨o,ho,hc,n,hd⟩,hi1⟩:=get i hi;obtain⟨a',jr,its',jM,m8,⟨o',g8,wA,n',aH⟩,qV⟩:=get j hj;unfold W.kas_ask;rw[e1,jM];refine W.kat_lt ho hd g8 aH (Jhb 0 s hi1 qV ?_ (by dsimp only at hC;rw[e2,m8] at hC;exact hC));have l1:=hi1.length;have l2:=qV.length;simp only[DE] at l1 l2;rw[l1,l2]
theorem Q8(ho:Yk! (SY! n))(cN:as.length<64)(t:JP s.heap as VP)(nd:VP.Nodup)(h:∀q:DG!,a2! as.length->cJ! (HT.lexLt (VP.getD i []) (VP.getD j [])=true)->∀h' c,(lh!)->KB! (Nj! q.map a4! c)->P oC! GE) : Tv! (Builtin.«list.sort» NN!) P:=by
 have hl:=Paired.length t;have j9:mm!=as.length:=ZA ..;refine To (lt:=λi j=>HT.lexLt (VP.getD i []) (VP.getD j [])) ho (iB! cN) (A! (λi j k _ _ _=>Wf) (λi j hi hj cK e=>Wh (λz=>cK ?_) e)) (λh2 h' kp Q hQ=>?_) (iB! h);·(have cL:i<VP.length:=B!);(have dA:j<VP.length:=B!);(have e1:VP[i]=VP[j]:=by simpa [cL,dA] using z);exact(IU nd).mp e1
 .have t':JP h' as VP:=t.keep λb o e ⟨ts,k,q,qc⟩=>kp b o (λz=>by rw[z,ho] at e;cases e;have qc:Value.type AH!=Value.type Bd!:=qc;injection qc with qc;exact SP! qc) e;obtain⟨fs,f1,f2,f3⟩:=Xr t';refine W.kat_kind (s:=GE) (T:=Iw! "int") f1 (by rw[f2];rw[j9] at h2;exact DT G8!) (Qs!) rfl (hQ _ (Jdf ci t'));obtain⟨m,tk,rfl⟩:=f3 v hv;exact W.Looks.of_pure rfl
universe E
theorem Qm(g:F2!)(f:α->Addr)(h:∀x,g x=V.ref (f x)):∀as:N!,Vals (as.map g) ((as.map f).map Value.ref)
 | []=>S!
 | a::as=>C? (I! (h a) rfl) (Qm g f h as)
universe S
variable {X:Cx Kx}
inductive Nb(xs:C!)(H:Hp)(Q:VK):Prop
 | mk d (L:List (A?×V)) (_:kY!) (_:Rd H d (.dT (L.map λp=>(p2!,p.2)))) (_:L.length<64) (_:k? L.map) (_:(∀p∈L,p.1≠[])) (_:∀(l:Addr)(M:List (A?×Addr)),Fy!->(M.map (·.1)).Perm (L.map pi)->M.Pairwise (λp q=>HT.lexLt p.1 q.1=true)->(∀p∈M,Ch p.2 (.BE (Wu! V.int)))->Is l (NC! (.BF (M.map λp=>WP p.2))))
theorem N7(hc:Av!):au! Nb:=by
 intro AA s σ H xs us Q I r h;obtain⟨d,L,rfl,hd,cN,nd,c_,q⟩:=h;obtain⟨u,rfl,rx⟩:=KO!;cases rx;obtain⟨z,lo,es,ep,as,raw,hz,ks,at_⟩:=Xe I hd;have hlL:IN L.map (λp=>((p2!:Cv!),p.2))=L.length:=ZA ..;have g_:as.length=L.length:=by rw[<-hlL];exact D2! Paired.length ks
 have key:∀(j:Nat)(p:A?×V),L[j]?=some p->∃a,as[j]?=some a/\Fd! (.BE (Wu! V.int)):=λj p hp=>by have hj:hs!:=Bm! hp;obtain⟨a,ha⟩:=VG! as j;have:=Av ks j ((p2!:Cv!),p.2) a (QZ! hp) ha;refine PP a ha;rw[this,AK];rfl
 have t0:JP s.heap as (L.map pi):=Dt (I? ZA g_) λj a ns e1 e2=>by rw[ZH] at e2;cases hp:L[j]? with | none=>rw[hp] at e2;cases e2 | some p =>rw[hp] at e2;have e3:p.1=ns:=ZO e2;obtain⟨a',h1,h2⟩:=key j p hp;rw[e1] at h1;cases h1;obtain⟨its,rv,it,_⟩:=Sy! h2;exact⟨G? e3 (c_ p (ZP hp)),its.toArray,it,by rw[<-e3];simpa using intsAre_of rv⟩
 refine tD! (by unfold Builtin.«sorted»;refine tR! (W.kdu_collect (Vq lo (es:=es) (ep:=ep)) (HF! _ (I.ok.hd hc)) raw (q! hz z) λh1 tk acc kp ha=>?_);have e1:ge! nP!:=Z9 ha E! at_;rw[e1];have I1:FN! { s with heap:=h1,toks:=tk }:=lU!;refine mw! lg!;have g1:U! (h1.push (seqObj "list" (as.map Value.ref).toArray 0)).get? h1.objs.size (SY! 0):=CN!;have t1:JP wZ! as (L.map pi):=t0.keep λb o e _=>ZT _ (Dq! kp);refine tH! g1 (Q8 g1 E! t1 nd λp pp po h2 c og e=>Rb!);have hn:h8!:=SX!;have inr:∀i∈p,Ui!:=λi hi=>BB.mp (pp.mem_iff.mp hi);(have eM:(p.map a4!)=(p.map Hg!).map Value.ref:=by rw[AK];refine BP λi hi=>?_;have:=TR!;simp[this]);refine pq! (I1.laid (a:=h1.objs.size) (o:=.BF ((p.map λi=>(cM!,as.getD i 0)).map λq=>WP q.2)) (t':=tk) (λb o hb=>og b o (BK (AO hb)) (ZT _ hb)) Am! ⟨?_,(p.map Hg!).map Value.ref,c,?_,?_⟩) (q _ _ hn ?_ ?_ ?_);(.rw[ZA,ZA,pp.length_eq,CF,DI];lia);(.rw[AK];exact Qm _ (Hg!) (FG!) p);(.rw[<-eM];exact e);(.rw[AK];(have e2:(List.range as.length).map (Cz! Lo! [])=L.map pi:=by refine cf!;rw[ZH];by_cases hj:hs!;(·(have h3:(List.range as.length)[j]?=some j:=by simp[g_,hj]);rw[h3];simp[hj]);·(have h3:(List.range as.length)[j]?=none:=by simp[g_];exact NP!);rw[h3,CY (Ef! NP!)];rfl);have e7:=pp.map (Cz! Lo! []);rw[e2] at e7;exact e7);(.rw[DK];exact po);.intro r hr;obtain⟨i,hi,e3⟩:=ZN hr;have JS:=TR!;obtain⟨p0,hp0⟩:=Zl! L;obtain⟨a,h3,h4⟩:=key i p0 hp0;rw[<-e3];(have e5:as.getD i 0=a:=Db! IK h3);(have e6:cM!=p0.1:=LI! IK ZH hp0);show Ch (as.getD i 0) (.BE ((Lo! i []).map V.int));rw[e5,e6];exact h4)
universe E
universe S
universe E
abbrev T2:=Int×Int
def tk(t:T2):Cv!:=[H! t.1,H! t.2]
def tv(t:T2):C!:=Sa! t.1 t.2
theorem xq(t:T2):(tk t).map kV=tv t:=rfl
theorem yI(h:tk a=tk b):a=b:=by obtain⟨a1,a2⟩:=a;obtain⟨b1,b2⟩:=b;unfold tk at h;simp only[List.cons.injEq,Sum.inl.injEq,and_true] at h;rw[h.1,h.2]
structure BM where
 BJ:Int
 AQ:Int
 AX:Int
 h:Addr
 o:Addr
 l:Addr
 r:Addr
 hand:D!
 AF:Y!
 holds:NY!
 AI:Y!
theorem Ht{k:Str}{v:V}{r:By!}:List.lookup k ((k,v)::r)=some v:=by rw[QX];have:Ix (k==k):=beq_self_eq_true k;rw[this]
theorem Bs{k j:Str}{v:V}{r:By!}(h:¬k=j):List.lookup k ((j,v)::r)=List.lookup k r:=by rw[QX];have:bv (k==j):=EE.mpr h;rw[this]
theorem Ew:As f v []=[(f,v)]:=rfl
theorem Jk9:As f v ((f,x)::r)=(f,v)::r:=by grind [As,V]
theorem Bz(h:¬k=f):oY!=ob!:=by grind [As,V]
theorem Gv:Rd! Cp!:=ZV
theorem Jv:Rd! BD!:=ZV
theorem Sj:Rd! Bh!:=ZV
theorem Si:Rd! BE!:=ZV
theorem Q0:Rd! BF!:=ZV
theorem Np:Rd! Bi!:=ZV
theorem Sk:Re! Dd!:=ZV
theorem Md:Re! BD!:=ZV
theorem Zd:Re! Bh!:=ZV
theorem Zc:Re! BE!:=ZV
theorem V5:Re! BF!:=ZV
theorem Q1:Re! Bi!:=ZV
theorem Qu:Rf! Dd!:=ZV
theorem Vz:Rf! Cp!:=ZV
theorem V2:Rf! Bh!:=ZV
theorem Vy:Rf! BE!:=ZV
theorem Sg:Rf! BF!:=ZV
theorem Ow:Rf! Bi!:=ZV
theorem Sm:Rg! Dd!:=ZV
theorem Zf:Rg! Cp!:=ZV
theorem Wa:Rg! BD!:=ZV
theorem Ze:Rg! BE!:=ZV
theorem Wb:Rg! BF!:=ZV
theorem Q3:Rg! Bi!:=ZV
theorem Sh:Rh! Dd!:=ZV
theorem Za:Rh! Cp!:=ZV
theorem V3:Rh! BD!:=ZV
theorem Zb:Rh! Bh!:=ZV
theorem V4:Rh! BF!:=ZV
theorem Qz:Rh! Bi!:=ZV
theorem Q2:Ri! Dd!:=ZV
theorem V7:Ri! Cp!:=ZV
theorem Sl:Ri! BD!:=ZV
theorem V9:Ri! Bh!:=ZV
theorem V6:Ri! BE!:=ZV
theorem Oz:Ri! Bi!:=ZV
theorem Nn:Rj! Dd!:=ZV
theorem Qw:Rj! Cp!:=ZV
theorem Ox:Rj! BD!:=ZV
theorem Qx:Rj! Bh!:=ZV
theorem Qv:Rj! BE!:=ZV
theorem Oy:Rj! BF!:=ZV
def B4(G:BM):By!:=[(Dd!,g! G.BJ),(Cp!,g! G.AQ),(BD!,g! G.AX),Ha! Bh! G.h,Ha! BE! G.o,Ha! BF! G.l,Ha! Bi! G.r]
theorem T4(G:BM):U! (B4 G).lookup (Dd!:Str) (GM G.BJ):=by unfold B4;rw[Ht]
theorem Jcm(G:BM):U! (B4 G).lookup (Cp!:Str) (GM G.AQ):=by unfold B4;rw[Bs Sk,Ht]
theorem Cd(G:BM):U! (B4 G).lookup (BD!:Str) (GM G.AX):=by unfold B4;rw[Bs Qu,Bs Vz,Ht]
theorem Fz(G:BM):kS! Bh! G.h:=by unfold B4;rw[Bs Sm,Bs Zf,Bs Wa,Ht]
theorem Da(G:BM):kS! BE! G.o:=by unfold B4;rw[Bs Sh,Bs Za,Bs V3,Bs Zb,Ht]
theorem Ep(G:BM):kS! BF! G.l:=by unfold B4;rw[Bs Q2,Bs V7,Bs Sl,Bs V9,Bs V6,Ht]
theorem C6(G:BM):kS! Bi! G.r:=by unfold B4;rw[Bs Nn,Bs Qw,Bs Ox,Bs Qx,Bs Qv,Bs Oy,Ht]
theorem Zs(G:BM)(y:Int):As Cp! (GM y) (B4 G)=B4 { G with AQ:=y }:=by unfold B4;rw[Bz Gv,Jk9]
theorem Bn(G:BM)(y:Int):As BD! (GM y) (B4 G)=B4 { G with AX:=y }:=by unfold B4;rw[Bz Jv,Bz Md,Jk9]
theorem Jm9(G:BM):As Bi! (V! G.r) (dq! BF! G.l BE! (V! G.o) (pf! G.h (GM G.AX) (As Cp! (GM G.AQ) (As Dd! (GM G.BJ) []))))=B4 G:=by unfold B4;rw[Ew];rw[Bz Gv,Ew];rw[Bz Jv,Bz Md,Ew];rw[Bz Sj,Bz Zd,Bz V2,Ew];rw[Bz Si,Bz Zc,Bz Vy,Bz Ze,Ew];rw[Bz Q0,Bz V5,Bz Sg,Bz Wb,Bz V4,Ew];rw[Bz Np,Bz Q1,Bz Ow,Bz Q3,Bz Qz,Bz Oz,Ew]
theorem B5(G:BM){m:Str}(h:o? (([Dd!,Cp!,BD!,Bh!,BE!,BF!,Bi!]:P?).contains m)):Mu! (B4 G).lookup:=by simp only[OQ,Bool.or_eq_false_iff,EE] at h;obtain⟨h1,h2,h3,h4,h5,h6,h7,_⟩:=h;unfold B4;rw[Bs h1,Bs h2,Bs h3,Bs h4,Bs h5,Bs h6,Bs h7];rfl
theorem D9(G:BM):IN B4 G<1000:=Is! (7<1000)
def Bg(l:D!):HO:=.dT (l.map (gx! (tk t)))
def C4(l:Y!):HO:=.dT (l.map Eq!)
def Dy(l:NY!):HO:=.dT (l.map IF!)
theorem Eb(l:N!)(k:BY!)(f:F2!)(t:T2):Xu! (n5! K2!) l.find? (k q=t) f:=by
 unfold Cf;rw[OP,Option.map_map];congr 1;congr 1;funext q;show DM! (p? (tk (k q)=tk t)) (k q=t);by_cases e:k q=t;.rw[e];simp
 .rw[Hz!,BR! (Po! yI)]
theorem Uy{α:Type}{l:N!}{k:BY!}{f:F2!}{t:T2}(h:∀q∈l,XU!):n5! K2!=none:=Db! Eb (BI.mpr (UV (Gs! (A3! h))))
theorem Ij{α:Type}{l:N!}{k:BY!}{f:F2!}{t:T2}(v:V)(h:∀q∈l,XU!):putK (Bq! K2!) (tk t) v=Bq! K2!++[(tk t,v)]:=Hk v (Uy h)
def BL(G:BM):J!:=G.h::G.o::G.l::G.r::Wn! G.holds.map
structure AU(C:Addr)(H:Hp)(p:Addr)(G:BM):Prop where
 ob:g0! (FY! (B4 G))
 dh:GN! G.h G.hand
 dO:fC! G.o G.AF
 dl:Vv! G.l G.holds
 dr:fC! G.r G.AI
 hl:Or! (GN! K? u?)
 nd:(BL G).Nodup
def aT(p:Addr)(G:BM)(H H':Hp):Prop:=MB! FL! Lw! Fx!
universe S
variable {C p:Addr}{H H':Hp}{G:BM}
theorem AU.keep(x:Q?)(k:aH! (b=p\/MW!)):KK! G:=by
 have m0:G.h∈BN!:=EI!
 have m1:G.o∈BN!:=EI!
 have m2:g1!:=EI!
 have m3:G.r∈BN!:=EI!
 refine⟨V8! Ew!,SF! m0 x.dh,SF! m1 x.dO,SF! m2 x.dl,SF! m3 x.dr,UV (SF! ?_ (x.hl q hq)),x.nd⟩;unfold BL;exact rv! (BD hq)
theorem AU.same(x:Q?)(s:r?):KK! G:=x.keep λb o _ e=>HX! s
theorem AU.OI(x:Q?)(hb:MW!):∃kvs,Iv! b .dT kvs:=by
 unfold BL at hb;rcases Eo! with rfl|hb;.exact e? x.dh
 rcases Eo! with rfl|hb;.exact e? x.dO
 rcases Eo! with rfl|hb;.exact e? x.dl
 rcases Eo! with rfl|hb;.exact e? x.dr
 obtain⟨q,hq,e⟩:=ZN hb;rw[<-e];exact e? SG!
theorem AU.SJ(x:Q?)(hb:MW!):FL!:=by obtain⟨kvs,e⟩:=x.OI hb;obtain⟨dx,e'⟩:=x.ob;exact pS! e e'
theorem AU.tup_ne(x:Q?)(hb:bL!):FL!/\Lw!:=by obtain⟨dx,e'⟩:=x.ob;refine A! (pS! hb e') Md!;obtain⟨kvs,e⟩:=x.OI m;rw[hb] at e;cases e
theorem AU.YZ(x:Q?)(hb:eV! b):FL!/\Lw!:=by obtain⟨dx,e'⟩:=x.ob;refine A! (pS! hb e') Md!;obtain⟨kvs,e⟩:=x.OI m;rw[hb] at e;cases e
theorem AU.cy(x:Q?):(G.h≠G.o/\G.h≠G.l/\G.h≠G.r)/\(G.o≠G.l/\G.o≠G.r)/\G.l≠G.r/\Or! (K?≠G.h/\K?≠G.o/\K?≠G.l/\K?≠G.r):=by have nd:=x.nd;unfold BL at nd;simp only[AV,CK,not_or] at nd;obtain⟨⟨a1,a2,a3,a4⟩,⟨b1,b2,b3⟩,⟨c1,c2⟩,d1,_⟩:=nd;refine⟨⟨a1,a2,a3⟩,A! b1 b2,c1,CV!⟩;have m:K?∈Wn! G.holds.map:=BD hq;exact⟨iW! a4,iW! b3,iW! c2,iW! d1⟩
theorem AU.fld(x:Q?)(dx:Addr)(m t:Int):Cy! (Lm! (FY! (B4 { G with AQ:=m,AX:=t }))) { G with AQ:=m,AX:=t }:=by
 have n:∀{b},MW!->FL!:=λhb=>x.SJ hb;have m0:G.h∈BN!:=EI!
 have m1:G.o∈BN!:=EI!
 have m2:g1!:=EI!
 have m3:G.r∈BN!:=EI!
 refine⟨HH! Ab,nY! m0 x.dh,nY! m1 x.dO,nY! m2 x.dl,nY! m3 x.dr,CV!,x.nd⟩;rw[Ac (n (by unfold BL;exact rv! (BD hq)))];exact SG!
theorem AU.KD(x:Q?)(l:Y!):nw! l { G with AF:=l }:=g2! G.o ⟨HH! xd!,o! a1 x.dh,Ab,o! b1.symm x.dl,YD! b2.symm,gy! (d1 q hq).2.1 SG!,x.nd⟩
theorem AU.P_(x:Q?)(l:D!):a5! l { G with hand:=l }:=g2! G.h ⟨HH! xd!,Ab,o! a1.symm x.dO,o! a2.symm x.dl,YD! a3.symm,gy! (d1 q hq).1 SG!,x.nd⟩
theorem AU.ZW(x:Q?)(l:Y!):Cy! (Bl! G.r C4 l) { G with AI:=l }:=g2! G.r (oI! a3 b2 (o! c1 x.dl) Ab (gy! (d1 q hq).2.2.2 SG!) x.nd)
theorem AU.i5(x:Q?)(t:T2)(ha:GN! a [])(hf:a∉BN!):Cy! (CI! G.l (Dy (xC! t))) { G with holds:=xC! t }:=by
 obtain⟨⟨a1,a2,a3⟩,⟨b1,b2⟩,c1,d1⟩:=x.cy;have np:=x.SJ (b:=G.l) (EI!);obtain⟨dx,e⟩:=x.ob;refine oI! a2 b1 Ab (YD! c1.symm) CV! ?_;.rcases ZI hq with hq|hq;(.rw[Ac (d1 q hq).2.2.1];exact SG!);·(have e2:q=(t,a,[]):=dg!);subst e2;have:a≠G.l:=NE! hf;rw[Ac this];exact ha
 ·(have e2:BL { G with holds:=xC! t }=BN!++[a]:=EI!);rw[e2];exact Gh x.nd hf
universe E
def YB(t:T2):PyData:=Hm! (Sa! t.1 t.2)
theorem Jl(t:T2):(YB t).canLay0=true/\(YB t).depth<=2:=by
 unfold YB;constructor;.simp[PyData.canLay0,PyData.canLayAll0]
 .simp[PyData.depth,PyData.depthAll]
theorem Jgu{α:Type}{f:α->PyData}{n:Nat}(h:∀x,(f x).canLay0=true/\(f x).depth<=n):∀l:N!,PyData.canLayAll0 (l.map f)=true/\PyData.depthAll (l.map f)<=n
 | []=>A! (by simp[PyData.canLayAll0]) (by simp[PyData.depthAll])
 | x::l=>by obtain⟨a,b⟩:=Jgu h l;obtain⟨c,d⟩:=h x;exact A! (by simp[PyData.canLayAll0,a,c]) (by simp only[AJ,PyData.depthAll];lia)
theorem Jlp{α:Type}{f:α->PyData}{n:Nat}(h:∀x,(f x).canLay0=true/\(f x).depth<=n)(l:N!):(PyData.tuple (l.map f)).canLay0=true/\(PyData.tuple (l.map f)).depth<=n+1:=by obtain⟨a,b⟩:=Jgu h l;exact A! (by simp only[PyData.canLay0];exact a) (by simp only[PyData.depth];exact Y4!)
theorem U1(t:T2):a_ (YB t):=A! (Jl t).1 (Kb! (Jl t).2)
def AZ(H:Hp):hx! D!:=MO! (λa t=>Za!)
theorem Pw{K:W.Frag}{H:Hp}{a:Addr}{t:T2}(e:Za!):DK! SB (YB t):=pQ! e (C? DJ! (C? DJ! S!))
theorem Kb{K:W.Frag}{H:Hp}{as:J!}{ts:D!}(p:B7!):Fw! (IP K H) Yw! ts.map YB:=Joh (λ_ _ e=>Pw e) p
def HZ(a b:T2):Prop:=HT.lexLt [a.1,a.2] [b.1,b.2]=true
theorem Dx(a b:T2):HZ a b↔(a.1<b.1\/(b5!/\a.2<b.2)):=by
 unfold HZ;rw[HT.GX,HT.GX];by_cases h1:b5!;.rw[AE h1];by_cases h2:a.2=b.2;(.rw[AE h2,HT.OV];constructor;(.intro z;cases z);.intro z;lia);.rw[AB h2];constructor;(.intro z;exact No h1 (BW z));.intro z;exact id!
 .rw[AB h1];constructor;(.intro z;exact B? (BW z));.intro z;exact id!
universe S
inductive Ku(xs:C!)(H:Hp)(Q:VK):Prop
 | mk d (l:List (T2×V)) (ss:D!) (_:kY!) (_:Rd H d (aj! l.map)) (_:l.length<64) (_:ss.Perm (l.map pi)) (_:ss.Pairwise HZ) (_:∀(r:Addr)(as:J!),RU!->AZ H as ss->Is r (CI! r JD!))
theorem Ca(hc:Av!):au! Ku:=by
 intro AA s σ H xs us Q I rv h;obtain⟨d,l,ss,rfl,hd,cN,pm,pw,q⟩:=h;refine N7 hc AA s σ H _ us Q I rv ⟨d,l.map λq=>(vb!,q.2),rfl,?_,Ef! cN,?_,?_,λr M hr mp mw ma=>?_⟩;·(have e:((l.map OK!).map λp=>((p2!:Cv!),p.2))=l.map λq=>(LO!,q.2):=D1!);rw[e];exact hd
 ·(have nd:ss.Nodup:=pw.imp λ{a b} h z=>o7!);have YD:Yd!:=pm.nodup_iff.mp nd;(have e:G7! (l.map OK!).map (l.map pi).map Qz!:=Db! AK AK);rw[e];exact List.Pairwise.map _ (λa b h z=>h (by obtain⟨a1,a2⟩:=a;obtain⟨b1,b2⟩:=b;simp at z;rw[z.1,z.2])) YD
 .intro p hp;obtain⟨q,_,e⟩:=ZN hp;rw[<-e];simp
 ·(have e:G7! (l.map OK!).map (l.map pi).map Qz!:=Db! AK AK);rw[e] at mp;(have e2:G7! M.map ss.map Qz!:=by refine Ih (lt:=λa b=>HT.lexLt a b=true) (λa z=>by rw[Pl] at z;cases z) (λa b h1 h2=>ga! (Wf h1 h2) Pl) (mp.trans (pm.symm.map _)) ?_ ?_;(.rw[DK];exact mw);.rw[DK];exact pw);(have hl:M.length=ss.length:=dY! (DP! e2));(have e3:(M.map λp=>WP p.2)=(M.map pu).map V.ref:=D1!);rw[e3];refine q r _ hr (Dt (Ef! hl) λj a t e4 e5=>?_);rw[ZH] at e4;cases hm:M[j]? with | none=>rw[hm] at e4;cases e4 | some m =>rw[hm] at e4;cases e4;(have e6:(M.map (·.1))[j]?=some m.1:=PG! hm);rw[e2,ZH,e5] at e6;have e7:PX!=m.1:=ZO e6;have:=ma m (ZP hm);rw[<-e7] at this;exact this
universe E
theorem Jcp(h:GN! d l):Rd H d (aj! (l.map (gx! t)).map):=by
 have e:nf! l.map (gx! t) l.map (gx! (tk t)):=D1!
 rw[e];exact H?
theorem Jhd(h:lY! l):Rd H d (aj! (l.map (I7! FS!)).map):=by
 have e:nf! l.map (I7! FS!) l.map Eq!:=D1!
 rw[e];exact H?
theorem Ia{K:W.Frag}{a p:Addr}{xs:C!}{tt:TT}{te:TE}{caps:GI!}{σ:L2.St}{H:Hp}{Q:Rq!}(Pv:iY!)(h0:sC!)(hl:o8! Gu! (at! H2/\Vc!))(hs:∀i x ys H2 (N:JB!),sr! GU! (vY! H2 (vt! c8!) ab!))(hd:o9! xs.length) : OR! (MR! (K8! (dF K a).stop (Q H2) (dF K a).go (dF K a).aM (Of! a9!))):=by
 refine r1! LB! Gu! xs.length;rintro i m ys H2 ⟨rfl,hi,pv⟩;obtain⟨q1,q2⟩:=sH!;refine L? q2;by_cases JS:OA!;.refine Yj! (cs! q1);obtain⟨e,y⟩:=y;subst e;exact hs i x ys _ (rN! LB! XP! (U?<=xs.length)) (y xs q1) pv dP!
 ·(have e:Wc!:=B!);subst e;exact rf! (b6! q1)
theorem Rz{lo:Int}{n:Nat}{p:Addr}{tt:TT}{te:TE}{caps:GI!}{σ:L2.St}{H:Hp}{Q:Rq!}(Pv:iY!)(h0:sC!)(hl:o8! (i<=n) Vc!)(hs:∀i ys H2 (N:JB!),sr! (i<n) (tt (Uu! (ut (lo+i))) H2 λb H4 =>TD (b=true) (te (Uu! (ut (lo+i))) H4 c8!) ab!))(hd:o9! n) : OR! (MR! (K8! (gO lo n).stop (Q H2) (gO lo n).go (gO lo n).aM (Of! a9!))):=by
 refine r1! (n-i) (i<=n) n;rintro i m ys H2 ⟨rfl,hi,pv⟩;refine L? sH!;by_cases JS:i<n;.refine Yj! JS;obtain⟨e,y⟩:=y;subst e y;exact hs i ys _ (rN! (n-i) (n-FS) (U?<=n)) JS pv dP!
 ·(have e:i=n:=B!);subst e;exact rf! ii
def Ws(p d:Addr):HO:=.ext λh=>h.IsItemsView p d
theorem O0(d:Addr)(hd:Yl!) : MeetsIn prog w (Builtin.«dict.items» (FV! [EX!])) (λ_ R s=>s.TypeIs (V! d) Da!/\R (.ok (C5! .ret s.heap.objs.size)) (Gv! (lM! Uj! XQ!))) :=.of_wp λA R s ⟨ht,h⟩=>by unfold Builtin.«dict.items»;refine H5!;unfold Builtin.Dict.noArgs;refine No! GO ht;show Li! (pure d);refine ZS ?_;show Nq! (Builtin.Dict.showsAll d);unfold Builtin.Dict.showsAll;rw[YS! hd];refine ZG!;exact xz DC (ZS (m? h))
universe S
theorem Jg2:tZ X "dict.items" (λx xs H Q=>∃d kvs,x=EX!/\xs=[]/\km!/\OI! (Lm! (Ws p d))):=by intro AA s σ H x xs v us Q I rx rs h;obtain⟨d,kvs,rfl,rfl,hd,q⟩:=h;cases rx;cases rs;obtain⟨z,lo,ys,rel,o,es,ep,g1,g2,g3,g4,g5⟩:=Wd! (.dT kvs) hd;refine PySem.call_meetsIn PySem.F.slot_dict_items (A2! g1 g2.1) PySem.F.entry_dict_items (PySem.F.args_dict_items_1 _) (O0 d lo) (L? (A2! g1 g2.1));have hn:RV!:=Ni!;refine m4! (Ws s.heap.objs.size d) GB! ?_ (q _ hn);have g:U! (s.heap.push (KJ! Uj! XQ!)).get? s.heap.objs.size (KJ! Uj! XQ!):=CN!;exact⟨tn! _ g,e? g,λh1 h2 ⟨o,e,r⟩ k=>A2! (k o e) r⟩
universe E
def Cn(vs:CS!)(a0:Value):Prop:=a0=F?/\vs[2]?=some a0
def jQ(h:Heap)(g:iU!)(e:Addr)(cls:Value):Prop:=g e/\∃oe vs a0,El! e oe/\oe.cls=cls/\g3!/\Cn vs a0 /\
 (vs[1]?=some F?\/∃T oT ts,Jv! (vs[1]?) T/\g T/\T≠e/\El! T oT/\pA!/\ts[3]?=some F?)
theorem jQ.mono(x:af! h)(k:∀b,g b->g' b):jQ h g' e cls:=by obtain⟨g1,oe,vs,a0,h1,h2,h4,h5,h6⟩:=x;refine⟨k _ g1,oe,vs,a0,h1,h2,h4,h5,h6.imp (Go!) ?_⟩;rintro⟨T,oT,ts,t1,t2,t3⟩;exact⟨T,oT,ts,t1,k _ t2,t3⟩
def p5(h:Heap)(g:iU!)(e:Addr)(cls fl:Value):Prop:=g e/\∃oe vs a0 T oT ts,El! e oe/\oe.cls=cls/\g3!/\Cn vs a0/\Jv! (vs[1]?) T/\g T/\T≠e/\El! T oT/\pA!/\ts[3]?=some fl
def kK(h:Heap)(g:iU!)(e:Addr)(cls:Value):Prop:=dE! h F?
theorem kK.at(x:ag! h):af! h:=by obtain⟨g1,oe,vs,a0,T,oT,ts,h1,h2,h3,h4,h5⟩:=x;exact⟨g1,oe,vs,a0,h1,h2,h3,h4,Ld! T oT ts h5⟩
def bQ(P:Program)(w:World):eF:=λouter H s E e s'=>∃ex cls H',e=i! ex/\kK s'.heap (λb=>Dk! s.heap.get?/\Le!) ex cls/\E cls none H'/\s'.os=s.os/\S8!/\oO! outer [] s'.heap/\OH P w H' s'.heap
theorem N2(ok:DS!)(e:ZS!):∃ob,HO! ob:=by have x:=ok a o e;cases o with | BF xs=>obtain⟨_,_,_,_,e⟩:=x;exact Af! | BE xs=>obtain⟨_,_,_,o,e,_⟩:=x;exact Af! | dK kvs=>obtain⟨_,_,_,_,o,_,_,e,_⟩:=x;exact Af! | dT kvs=>obtain⟨_,_,_,_,o,_,_,e,_⟩:=x;exact Af! | set S n=>obtain⟨o,_,_,_,e,_⟩:=x;exact Af! | ins C dx fs=>obtain⟨_,_,_,e,_⟩:=x;exact Af! | own y=>obtain⟨_,e⟩:=x;exact Af! | xd fs=>obtain⟨_,⟨_,_,_,e,_⟩,_⟩:=x;exact Af! | rj lo hi=>obtain⟨_,_,_,e⟩:=x;exact Af! | HK ob u=>obtain⟨e,_⟩:=x;exact Af! | gR ps=>exact e? (op!) | met f y=>exact e? (op!) | ext φ=>obtain⟨_,⟨_,e⟩,_⟩:=x;exact Af!
structure KS(fr:J!)(g:iU!)(h h':Heap):Prop where
 keep:KE (BW!->b∉fr->¬g b->PZ!)
 slot:KE (BW!->b∈fr->or!)
theorem KS.trans(a:KS fr g h h1)(b:KS fr g h1 h2):KS fr g h h2 :=A! (λc o e n1 n2=>b.keep c o (a.keep c o e n1 n2) n1 n2) (λc o e m=>by obtain⟨sl,e1⟩:=a.slot c o e m;obtain⟨i9,e2⟩:=b.slot c _ e1 m;exact A! i9 e2)
universe S
variable {M:Model}{A:Around}{E:Value->Shared->Prop}{s:Shared}{base:Heap}{env:Env}{outer:List Env}{L e:Addr}{cls:Value}{g:Addr->Prop}
theorem Jct{head:Value}{hn:Bool}{oe:Obj}{vs:CS!}{Q:D9!}(dt:o2!)(hl:cx!)(hf:pB!)(he:Fl! e oe)(hd:g3!)(hsz:1<vs.size)(h:∀h' T oT ts jo,j4! jo->jo.cls=oe.cls->jo.data=Hk! (vs.setIfInBounds 1 (V! T))->Ay! s.heap.get? T->T≠e->PI! T oT->pA!->ts[3]?=some (rawInt L) ->
  (KE (b≠e->b∉QY (je!)->CM!->PZ!))->(KE (b≠e->CM!->or!))->Q () GE) :
 L7! (do let a <-PySem.frameOf env;let pl <-entryPlaceOf L hn;let b <-EntryCells.newEntry head a F? (rawInt L) F? pl;setField (V! e) 1 b):=by
 have zM:e∉(je!).filterMap (·.frame):=λhm=>by
  obtain⟨_,o,ho,pB⟩:=hl.mem hm
  rw[he] at ho;cases ho
  exact pB vs hd
 refine ZR (wpAny_frameOf_fun dt hl hf λh1 s1=>xz wpAny_entryPlaceOf (λpl VQ=>?_))
 unfold EntryCells.newEntry newFields
 refine ZR (DC ?_ (VQ.sizeOk5 _ _ _ _ _))
 obtain⟨ob,j8⟩:∃ob:Obj,ob={ cls:=Iw! "traceback",dict:=none,data:=Hk! ([head,i! L,F?,rawInt L,F?]++(if pl.isEmpty then List.replicate 6 Value.none else pl)).toArray }:=ci
 have e1:U! h1.get? e oe:=(s1.2.1 e zM).trans he
 have e2:U! (h1.push ob).get? e oe:=ZT _ e1
 have Te:h1.objs.size≠e:=ER (AO e1)
 rw[<-j8]
 refine HV e2 hd hsz (h _ h1.objs.size ob _ _ (DU _ e2 (MT (FF hd _))) (Obj.cls_mapFields _ _) (FF hd _) ?_ Te ((BO _ _ (Ne.symm Te)).trans (ZU h1 (KM j8))) (ww j8) be (λb o hb hm q=>?_) λb o hb q=>?_)
 .cases q:s.heap.get? h1.objs.size with
  | none=>rfl
  | some o =>
    obtain⟨sl,q2⟩:=s1.2.2 _ o q
    exact I8! AO q2 (DJ _)
 .exact im! fI! (ZT _ ((s1.2.1 b hm).trans q))
 .obtain⟨sl,q2⟩:=s1.2.2 b o q
  exact A! sl ((BO _ _ fI!).trans (ZT _ q2))
theorem Cn.set{vs:CS!}{a0 v:Value}(c:Cn vs a0):Cn (vs.setIfInBounds 1 v) a0:=Qe! c.1 (dp! Array.getElem?_setIfInBounds_ne) c.2
theorem Jmp{Q:D9!}(dt:o2!)(hl:cx!)(hf:pB!)(x:af! s.heap)(fresh:ZB! s.heap.get? (g b))(h:bU! (dE! h' (rawInt L)) nk!):kh! noteFrame env:=by
 obtain⟨ge,oe,vs,a0,h1,rfl,h3,h4,h5⟩:=x;unfold noteFrame;simp only[hf];rcases h5 with h5|⟨T,oT,ts,t1,t2,t3,t4,t5,t6⟩;.have z1:=RO! h5;refine ZR (FN h1 h3 h5 ?_);rw[J6!];refine Jct dt hl hf h1 h3 z1 λh' T oT ts jo k1 k2 k3 k4 k5 k6 k7 k8 k9 vM=>h h' ⟨ge,jo,_,a0,T,oT,ts,k1,k2,k3,h4.set,by simp[z1],fresh T k4,k5,k6,k7,k8⟩ (A! (λb o q m n=>k9 b o (lW! n ge) m q) (λb o q m=>vM b o jr! q));obtain⟨_,o',e',hn⟩:=hl.mem m;rw[z,h1] at e';cases e';exact hn vs h3
 .have z1:=RO! t1;refine ZR (FN h1 h3 t1 ?_);rw[AE (Os! (Ix (Hl! T != Value.none)))];refine ZR (FN t4 t5 t6 ?_);rw[AB (show ¬(Ix (Value.none==rawInt L)) by simp[rawInt])];refine ZR (HV t4 t5 (RO! t6) ?_);have other:∀b,b≠T->(s.heap.update T (Obj.mapFields (·.setIfInBounds 3 Value.none))).get? b=s.heap.get? b:=j? (BO _ _ (Ne.symm hb));(have nr:KE (CM!->(∀vs,o.data≠Hk! vs)->b≠T):=λb o hb pB q=>by rw[q,t4] at hb;cases hb;exact pB ts t5);(have nfr:∀b∈QY (je!),b≠e/\b≠T:=λb m=>by obtain⟨_,o',e',hn⟩:=hl.mem m;refine A! Dz! (nr b o' e' hn);rw[z,h1] at e';cases e';exact hn vs h3);refine Jct (base:=base) dt (hl.of_keeps λb o hb pB=>A2! ((other b (nr b o hb pB)).trans hb) rfl) hf ((other e (Ne.symm t3)).trans h1) h3 z1 λh' T' oT' fy jo k1 k2 k3 k4 k5 k6 k7 k8 k9 vM =>h h' ⟨ge,jo,_,a0,T',oT',fy,k1,k2,k3,h4.set,by simp[z1],?_,k5,k6,k7,k8⟩ (A! (λb o q m n=>k9 b o (lW! n ge) m ((other b (lW! n t2)).trans q)) (λb o q m=>vM b o (nfr b m).1 ((other b (nfr b m).2).trans q)));by_cases z:T'=T;(.rw[z];exact t2);.exact h2! fresh T' (other T' z) k4
theorem Jpd{Q:D9!}{fl:Value}{fo:GQ!}{fr:J!}(x:dE! s.heap fl)(hg:∀b∈fr,¬g b)(h:bU! (dE! h' (fo.elim F? λf=>rawInt f)) fr):kh! setFlight fo:=by
 obtain⟨ge,oe,vs,a0,T,oT,ts,h1,h2,h3,h4,t1,t2,t3,t4,t5,t6⟩:=x;have hsz:3<ts.size:=RO! t6;unfold setFlight;refine ZR (FN h1 h3 t1 ?_);rw[AE (Os! (Ix (Hl! T != Value.none)))];refine HV t4 t5 hsz (h _ ⟨ge,oe,vs,a0,T,_,_,im! t3 h1,h2,h3,h4,t1,t2,t3,T9! t4 MT FF t5,FF t5 _,by simp[hsz]⟩ (A! (λb o q _ n=>?_) (λb o q m=>?_)));.exact iS! (Vb! n t2)
 .exact A! o.slots (iS! (λz=>hg b m (HI! t2)))
theorem Jmz{Q:D9!}(x:ag! s.heap)(hg:∀b∈fr,¬g b)(h:bU! (ag! h') fr):kh! setFlight none:=Jpd (fo:=none) x hg h
theorem Jpc(hl:cx!)(x:dE! h' fl)(a:KS nk! g s.heap h'):∀T oT ts,PI! T oT->pA!->T∉QY (je!):=λT oT ts k1 k2 m=>by obtain⟨_,o,e1,hn⟩:=hl.mem m;obtain⟨sl,e2⟩:=a.slot T o e1 m;rw[k1] at e2;cases e2;exact hn ts k2
theorem Jg5{Q:D9!}(dt:o2!)(hl:cx!)(hf:pB!)(x:af! s.heap)(fresh:ZB! s.heap.get? (g b))(h:bU! (ag! h') nk!):wpAny M A (noteFrame (V! e) env) (λ_ s2=>wpAny M A (setFlight (V! e) none) Q E s2) E s:=by
 refine Jmp dt hl hf x fresh λh1 x1 a1=>?_;have fr:=Jpc hl x1 a1;obtain⟨ge,oe,vs,a0,T,oT,ts,hU,h2,h3,h4,t1,t2,t3,t4,t5,t6⟩:=x1;have hsz:3<ts.size:=RO! t6;unfold setFlight;refine ZR (FN (s:=It!) hU h3 t1 ?_);rw[AE (Os! (Ix (Hl! T != Value.none)))];refine HV (s:=It!) t4 t5 hsz (h _ ⟨ge,oe,vs,a0,T,_,_,im! t3 hU,h2,h3,h4,t1,t2,t3,T9! t4 MT FF t5,FF t5 _,by simp[hsz]⟩ (a1.trans (A! (λb o q _ n=>?_) (λb o q m=>?_))));.exact iS! (Vb! n t2)
 .exact A! o.slots (iS! (λz=>fr T oT ts t4 t5 (YH! m)))
theorem Jj3{Q:D9!}(dt:o2!)(hl:cx!)(hf:pB!)(x:af! s.heap)(fresh:ZB! s.heap.get? (g b))(h:bU! (ag! h') nk!):L7! (leaving env (V! e)):=ZR (Jg5 dt hl hf x fresh h)
universe E
universe S
variable {X:Cx Kx}{AA:List (Addr×Obj)}{σ:L2.St}{H H1:Hp}{s s1:Shared}{h':Heap}{g:Addr->Prop}{ex:Addr}{cls:Value}
theorem T3(ok:OH P w H1 h)(a:KS fr g h h')(hf:∀b∈fr,Rz!)(hg:∀b,g b->Rz!):OH P w H1 h':=λb o e =>(ok b o e).OX (λc u hc q=>a.keep c u q (λm=>by have:=hf c m;rcases hc with rfl|hc;(.rw[this] at e;cases e);.rw[this] at hc;cases hc) (λm=>by have:=hg c m;rcases hc with rfl|hc;(.rw[this] at e;cases e);.rw[this] at hc;cases hc)) (V4!) MJ!
theorem Xp(u:Un fs [] H0 H1 s0 h)(a:KS fr g h h')(hg:KE (AI! s0.get?->¬g b))(dt:KE (AI! s0.get?->b∈fr->b∈fs))(hH:∀b∈fr,Rz!):Un fs [] H0 H1 s0 h' where
 keep:=λb o e n1 n2 n3=>a.keep b o (u.keep b o e n1 n2 n3) (λm=>n2 (Br! dt m)) (Dq! hg)
 slot:=λb o e n1 m n3=>by
  obtain⟨sl,q⟩:=u.slot b o e n1 m n3
  by_cases hm:b∈fr
  .obtain⟨i9,q2⟩:=a.slot b _ q hm
   exact A! i9 q2
  .exact A! sl (a.keep b _ q hm (Dq! hg))
 free:=u.free
 there:=λb o e n=>by
  obtain⟨o',q⟩:=Br! u.there n
  by_cases hm:b∈fr
  .obtain⟨i9,q2⟩:=a.slot b _ q hm
   exact e? q2
  .exact e? (a.keep b _ q hm (Dq! hg))
 QP:=u.QP
 OL:=u.OL
 QQ:=u.QQ
universe E
def Jid(X:F!)(E:XK):Prop:=∀(AA:x!)(σ:L2.St)(H1:Hp)(s1:Shared)(ex:Addr)(cls:Value),OX!->jQ s1.heap (λb=>Dk! X.HR.heap.get?/\Rz!) ex cls->E cls none H1->X.xe (V! ex) s1
universe S
variable {P:Program}{w:World}{K:W.Frag}{mg:Str->Option Value}{base:Heap}{N:List Str}{qual:Str}{scope:Scope}{f:Addr}{cd:Value}{A:Around}{outer:List Env}{s:Shared}{H:Hp}{E:XK}
theorem Ii:Jid (WK! Es! cd) E:=by
 intro AA σ H1 s1 ex cls I x hE;have MC:Vn! (∃o',G3! s1.heap.get? o'):=Aw! (Br! I.base.there (by simp[Jh]));refine Jj3 (base:=base) (L:=s.heap.objs.size) I.ok.frames I.stack rfl x (λb q=>?_) λh' x' as=>?_;.constructor;(.cases q2:s.heap.get? b with | none=>exact q2 | some o =>obtain⟨o',e⟩:=MC b o q2;rw[q] at e;cases e);.cases q2:H1 b with | none=>rfl | some o =>obtain⟨ob,e⟩:=N2 I.DP q2;rw[q] at e;cases e
 .have RA:∀b∈QY (tI!::outer),Rz!:=j? (B4! I.RY);refine⟨ex,cls,H1,rfl,x',hE,I.os,I.bare,Xp (fs:=QY outer) I.base as (λb o e z=>?_) (λb o e m=>?_) RA,T3 I.DP as RA λb z=>z.2⟩;(.have:=z.1;have e':CM!:=e;rw[LJ! ((WK! Es! cd).HR.heap.get? b=s.heap.get? b),e'] at this;cases this);.rcases ZM (show b∈s.heap.objs.size::QY outer from m) with z|z;(.have:=AO (show CM! from e);rw[z] at this;exact J8! this);.exact z
theorem B0:Iy Es! (WK! Es! cd) E:=by intro AA σ H0 s0 e s' I ⟨ex,cls,H',he,x,hE,ho,hg,u,ok⟩;subst he;have I':Inv (WK! Es! cd) AA σ H' s':=I.cW (ch:=[]) ho u ok hg (Bu! (by simp at hb));refine Ii AA σ H' s' ex cls I' (x.at.mono λb z=>Lu! z.2) hE;cases q:s.heap.get? b with | none=>exact q | some o =>obtain⟨o',e⟩:=I.base.there b o q (by simp[Jh]);rw[z.1] at e;cases e
universe E
universe S
variable {P:Program}{w:World}{K:W.Frag}{mg:Str->Option Value}{base:Heap}
theorem ok1{x qual:Str}{st:Stmt}{f:Addr}{fd:FuncData}{N ps:P?}{k:Nat}{sp:Sp}(F:TP!)(S:re!)(len:mg!)(VG:∀(ED:Value) (A:Around) (outer:A7!) (s:Shared) (H:Hp) (vs:C!) (Q:VK) (E:XK),q3! MA! QD! (RF (qB! Es!) Nd! t)):od! Es!:=by obtain⟨oc,od,kV,doc,pm,an,ED,ct,gA,rfl,lk,RE⟩:=F.ex;exact Jlh lk RE S len λA outer s H vs Q E hr c8=>VG ED A outer s H vs Q E hr c8
theorem Im{x qual:Str}{st:Stmt}{f:Addr}{fd:FuncData}{N ps:P?}{k:Nat}{sp:Sp}(F:TP!)(S:re!)(h:∀vs H Q E,QD!->Bd P w K mg base Es! false N ps qual st f k vs H Q E):od! Es! :=ok1 F S (λvs H Q E z=>(h vs H Q E z).1) λED A outer s H vs Q E hr z=>(h vs H Q E z).2 ED A outer s hr
theorem EW.bC{k:Nat}{f:Addr}{fd:FuncData}{ps:P?}{sp:Sp}(F:tG! aL):tG! Es! :=A! F.len (λA outer s H args us vs Q E hr he hb hv hs=>HH (F.run A outer s H args us vs Q E hr he hb hv hs) λr s' h=>by cases r with | ok fl=>cases fl<;>exact h | error e=>exact hu!)
universe E
def ng:Z!:=[Iw! Ir!,Iw! "Exception",Iw! dh!,Iw! "object"]
structure O4(K:W.Frag)(mg:q?)(x:Str)(C:Addr):Prop where
 mg:Bk! mg GH!
 ex:xD! C ng
universe S
variable {X:Cx Kx}{x:Str}{C:Addr}{E:XK}{np HU pos p1:Pos}{msg:Str}{j:Nat}
theorem Jcs{K:W.Frag}{h:Heap}{C:Addr}(XK:K.In h)(q:xD! C ng):∃nm q N bs bm hdct sn sub ab col dd k0 k1 k2 k3 k5 mN,El! C (excClassObj nm q C N bs bm hdct sn sub ab col dd k0 k1 k2 k3 k5 "ValueError.__new__")/\h.Ns N mN/\Ay! mN fn!/\OwnTail h ng bm:=by
 unfold W.excIn at q;split at q;.rename_i dd cd sl ho;split at q;(.rename_i C' bm k0 k1 k2 k3 n k5 hm hs;simp only[Bool.and_eq_true,KU,Bool.not_eq_true'] at q;obtain⟨⟨⟨⟨⟨rfl,rfl⟩,qZ⟩,ht⟩,DP⟩,o_⟩:=q;obtain⟨nm,bs,mro,ns,qn,hd,sn,sub,ab,col,del⟩:=cd;dsimp only at hm qZ DP o_;subst hm qZ;(have jD:sl=#[k0,k1,k2,k3,Cr! AS! "ValueError.__new__",k5]:=by obtain⟨l⟩:=sl;simp only at hs;rw[hs]);subst jD;exact⟨nm,qn,ns,bs,bm,hd,sn,sub,ab,col,dd,k0,k1,k2,k3,k5,_,G! XK ho,.of_isNs (W.isNs_of_in XK DP),W.nsMap_none_of_in XK DP o_,W.tail_of_in XK ht⟩);.cases q
 .cases q
theorem Jer{X:F!}{h:Heap}{mg:q?}(XK:Kx.In h)(c:O4 Kx mg x C):∃nm q N bs bm hdct sn sub ab col dd k0 k1 k2 k3 k5 mN,El! C (excClassObj nm q C N bs bm hdct sn sub ab col dd k0 k1 k2 k3 k5 "ValueError.__new__")/\h.Ns N mN/\Ay! mN fn!/\OwnTail h ng bm:=Jcs XK c.ex
theorem Hl{X:F!}(hc:Av!)(hg:FC!)(c:O4 Kx X.mg x C)(hx:Jid X E)(hex:X.ex=[]:=by rfl)(hd:DU!:=by decide)(bu:o? (b? (backTo HU (starEach sz! X.env)).any):=by rfl)(hs:gO! sz! [(false,U1! (WT! (AR! msg) j p1))]:=by rfl) : PS X (.Raise (some (.Call (Gr! x np) sz! [] HU)) none pos) (λ_ _ H=>HL! C):=by
 intro AA s σ H D I h;obtain⟨nm,q,N,bs,bm,hdct,sn,sub,ab,col,dd,k0,k1,k2,k3,k5,mN,hC,hN,o_,tl⟩:=Jer (X:=X) I.mod.cI c;refine wpAny_Raise_call_subU (C:=C) (nm:=nm) (q:=q) (N:=N) (bs:=bs) (bm:=bm) (hdct:=hdct) (sn:=sn) (sub:=sub) (ab:=ab) (col:=col) (dd:=dd) (k0:=k0) (k1:=k1) (k2:=k2) (k3:=k3) (k5:=k5) F.excBase_ValueError (bmB:=ng) ZV F.excBase_ValueError (tl.hasType ZV) Gh! bu o_ ?_;refine Ir I hg c.mg GM! hd;have ha:PA X sz! (Dz (WE! msg) Nd):=Aa Bi Ae hs;have hA:=ha HU AA s σ H (λvs H1=>vs=[AY! msg]/\H1=H) I C9!;rw[hs] at hA ⊢;refine HJ (EK hA ?_);rintro us s2 ⟨vs,H2,I2,r2,e1,e2⟩;subst e1 e2;refine⟨rfl,by show us.length<=sizeLine;rw[<-r2.length];show Be! 1;decide,G! I2.bk hC,(let⟨o,es,ep,e,r⟩:=hN;⟨o,es,ep,ET! I2.bk,r⟩),tl.keeps I2.bk,λh' e hm=>?_⟩;obtain⟨t,ht,_⟩:=hm.there;have none_:ZB! s2.heap.get? (Dk! X.HR.heap.get?/\Dk! H2):=λb q=>by constructor;(.cases q2:X.HR.heap.get? b with | none=>rfl | some o =>obtain⟨o',e'⟩:=I2.base.there b o q2 (Cl! hex);rw[q] at e';cases e');.cases q2:H2 b with | none=>rfl | some o =>obtain⟨ob,e'⟩:=N2 I2.DP q2;rw[q] at e';cases e'
 have I3:BI! H2 { s2 with heap:=h' }:=I2.kept (t':=s2.toks) hm.keeps;exact hx AA σ H2 _ e GH! I3 ⟨none_ e hm.new,_,_,_,ht,rfl,rfl,C9!,Fv!⟩ h
universe E
universe S
theorem Ko(I:K!)(hN:X.N.Nodup)(hi:KN!)(hk:VB! X.env.scope.names.lookup)(h:l0! (Inv X AA pT! H s')):L7! (do bindName X.env x F?;unbindBehindTheSuite X.env x pos):=by
 obtain⟨m,hn,hl⟩:=id I.loc
 have bZ:bv (e5! .class || (e5! .module&&X.env.locals != X.env.globals)):=KM I.ok.kind
 have iZ:i<σ.length:=XC! I.len hi
 have e_:=I.e_
 refine wpAny_nameGoes_keeps hk hn bZ λh' v vo hs=>?_
 have low:∀{b:Addr} {o:Obj},AI! X.HR.heap.get?->H4!:=λe=>BK (BU (AO e) I.ok.above)
 refine h _ ⟨I.ok,I.os,I.bare,oq! (λb o e n hb hx=>(hs.2 b (low e)).trans (wI! I.base.keep)) I.base.free I.base.QP I.base.OL I.base.QQ,WF vo (λj y v' e1 e2 e3=>?_),ML! ?_,I.free,I.IY,D0!,Ug! ?_,I! MK I.len⟩
 .obtain⟨sl,e1⟩:=mL!
  exact A! sl ((hs.2 b (low e)).trans e1)
 .obtain⟨o',e1⟩:=bn!
  exact A! o' ((hs.2 b (low e)).trans e1)
 .have hj:j≠i:=λz=>by
   subst z
   rw[ET iZ] at e2
   cases e2
  rw[ig! hj] at e2
  obtain⟨u',r',q⟩:=hl j y v' e1 e2 e3
  refine PP u' r'
  rcases q with⟨k,e⟩|⟨k,c,e,z⟩
  .refine X2! k
   have:y≠x:=λe=>hj (Qr hN e1 (e▸hi))
   simp[this,e]
  .exact mF! c q2!
 .obtain⟨w',z⟩:=I.cell y c e
  exact A! w' q2!
 .obtain⟨e,n,ne,nf,d⟩:=Sz!
  exact⟨(hs.2 p.1 ne).trans e,n,ne,nf,d⟩
 .refine bs! ob (λc w' hc q=>(hs.2 c ?_).trans q) V4! MJ!
  rintro rfl
  rcases hc with rfl|hc
  .rw[I.free] at e;cases e
  .rw[I.free] at hc;cases hc
universe E
def T1(X:F!)(AA:x!)(E:M?):F!:={ X with pn:=X.pn++AA,xe:=E }
def dg(X:F!)(ex:Addr):F!:={ X with A:=X.A.mark (some (V! ex)),calm:=false,xe:=QM! }
universe S
theorem Cx.Ok.toTry(ok:X.Ok):(T1 X AA E).Ok:=nO!
theorem Cx.Ok.rD(ok:(T1 X AA E).Ok):X.Ok:=nO!
theorem Cx.Ok.toX(ok:X.Ok):(dg X ex).Ok:=xv! (λz=>FP! z)
theorem Jd9(I:K!):Inv fp! [] σ H s:=mX! Cx.Ok.toTry I.ok (λp hp=>I.pin p (by have gE:oz!:=hp;rwa [AH] at gE))
theorem Hu(I:Inv fp! ak σ H s):K!:=mX! Cx.Ok.rD I.ok (λp hp=>I.pin p (ZB _ hp))
theorem Wv(I:K!):q7! (dg X ex):=mX! Cx.Ok.toX I.ok I.pin
theorem Mn(I:q7! (dg X ex))(ok:X.Ok):K!:=wY! ok I.pin
theorem Tv(I:K!)(hn:M1!)(h0:Ay! X.HR.heap.get? a)(h1:a≠X.env.locals)(h2:PY! (c≠a))(h3:e6! (p.1≠a))(ok:w9! Kh! a o):BI! Kh! s:=by
 have ne:∀{b:Addr} {u:HO},vD!->b≠a:=λe=>Ak e hn;refine⟨I.ok,I.os,I.bare,⟨I.base.keep,I.base.slot,λb ob e n hx=>?_,I.base.there,λb xs e=>?_,λb ob u e=>?_,λb ps e=>?_⟩,I.loc,I.cell,MV! h1 I.free,λx c e=>o! (h2 x c e) (I.IY x c e),D0!,W5!,I.len⟩;.rw[Ac (W9! h0)];exact I.base.free b ob e n hx
 .have:=I.base.QP b xs e;rw[Ac (ne this)];exact this
 .have:=I.base.OL b ob u e;rw[Ac (ne this)];exact this
 .obtain⟨more,q⟩:=I.base.QQ b ps e;exact Qe! more (Ac (ne q)) q
 .obtain⟨a1,a2,a3⟩:=Sz!;exact⟨a1,o! (h3 p hp) a2,a3⟩
 .by_cases hb:b=a;(.subst hb;rw[Ab] at e;cases e;exact ok);.rw[Du!] at e;exact bs! u db! (λc q=>I! (Ac (ne q)) q) (λc xs q=>I! (Ac (ne q)) q)
universe E
def ni(a C:Addr):HO:=.ext λh=>∃o vs,ZT!/\gf!/\o.data=Hk! vs/\vs[2]?=some F?
def Xi(X:F!)(ES:b4!):Prop:=∀(AA:x!)(σ:L2.St)(H:Hp)(s:Shared)(e:Value)(s':Shared),JT! (bQ X.prog X.w X.stack H s (ES σ) e s') (X.xe e s')
universe S
theorem Ji0{X:F!}(F:xM! (bQ X.prog X.w))(hr:ST!)(hb:vc! [])(hx:Xi X ES)(I:K!)(r:KP!)(h:sp vs H Q (ES σ)):E9! (KR! call us):=by
 have hl:Wj!:=G? r.length (mH! h)
 refine qc! YW (F.run X.A X.stack s H KM! us vs Q (ES σ) hr I.ie (Wh! (hb s us I.VW (RY! hl)) AH) r h);cases r with | error e=>exact hx AA σ H s e s' I hq | ok fl =>cases fl with | ret u=>exact I.after hq | next=>exact hq.elim | brk=>exact hq.elim | cont=>exact hq.elim
inductive Jk1(C:Addr)(m:Str)(sp:Sp)(ES:b4!)(t:TA)(σ:L2.St)(x:V)(H1:Hp)(Q:VK):Prop
 | mk (a dx fs) (e0:Ap!) (e1:pe!) (e2:Mu! fs.lookup) (e3:C4! t (λvs H2=>sp (x::vs) H2 Q (ES σ)))
def Jlt(C:Addr)(m:Str)(sp:Sp)(ES:b4!)(ta:TE)(t:TA):TE:=Np! (Jk1 C m sp ES t σ x H1 Q)
theorem E6{X:F!}(he:ZY!)(c:UE!)(hm:nX Kx C m f)(F:xM! (bQ X.prog X.w))(hr:ST!)(hb:vc! [])(hx:Xi X ES)(ha:N9!)(o5:K7!:=by rfl)(VQ:TJ!:=by rfl)(ht:eval (.Call Sw! EV! [] pos) X.env=(do let ov <-v9!;standAt apos.atName;let(f,first) <-holding [ov] (getMethod ov m pl);callWith pos f first (ef! EV!) (wa! pos)):=by rfl) :
 fg! Sw! EV! (Jlt C m sp ES ta t):=by
 intro AA s σ H Q I h
 refine W.methodCall_KW (pl:=pl) SV! ht
 rintro u s1 ⟨x,H1,I1,rx,a,dx,fs,ex,ea,l,q⟩
 subst ex
 cases rx
 refine La I1 ea c hm l (Y' (first:=Fe!) (h₀:=X.base) I.ok.mod.cI hm.kp (EK (ha pos AA s1 σ H1 _ I1 q) λus s2 ⟨vs,H2,I2,r,q2⟩=>L? I2.VW) o5 VQ)
 exact Ji0 (us:=Aj!::us) (vs:=Aj!::vs) F hr hb hx I2 (C? rfl r) q2
universe E
theorem Jlm{M:Model}{A:Around}{E:M?}{s:Shared}{K:W.Frag}{C D e:Addr}{oe:Obj}{Q:YR!}(XK:Gc!)(cD:xD! D ng)(lJ:EK! W.mroIn C D6! true)(he:Fl! e oe)(bZ:oe.cls=i! C)(hq:Q true s):kh! excMatches D6!:=by
 obtain⟨h,g,d,t,os⟩:=s
 obtain⟨nm,q,N,bs,bm,hdct,sn,sub,ab,col,dd,k0,k1,k2,k3,k5,mN,hD,hN,o_,tl⟩:=Jcs XK cD
 have hB:(Hl! D::bm).contains (BB! dh!)=true:=UF OQ (tl.hasType (b:=true) ZV) Bool.or_true
 have f:=tc_notTuple
 have LS:=W.looks_mroIn (M:=M) XK lJ
 unfold excMatches
 repeat (first|(with_reducible refine wpAny_loadPart_at he ?_;rw[bZ])|with_reducible refine wpAny_loadPart_at hD ?_|(with_reducible refine wpAny_isSubtype_exc hD ?_;rw[hB])|with_reducible refine LS.at ?_|wp_step)
 exact hq
def gone(D:Ends)(i:Nat):Ends:={ nx:=λσ H=>D.nx pT! H,bk:=λσ H=>D.bk pT! H,ct:=λσ H=>D.ct pT! H,rt:=D.rt }
def Jnt(K:W.Frag)(D:Addr)(cls:Value)(C:Addr):Prop:=cls=i! C/\EK! W.mroIn C D6! true
def Jls(K:W.Frag)(D:Addr)(i:Nat)(tb:(b4!)->TS)(ts:Addr->TS):TS:=λE σ H =>
 tb (λEV cls _ H'=>∃C,Jnt K D cls C/\∀ex,RM! ex->ts ex (gone E i) (EV.set i (I6! ex)) (upd H' ex oB!)) E σ H
universe S
theorem Jf1{X:F!}(dM:X.stack=MK!)(dt:X.env.frame=w? X.env.locals)(hex:X.ex=[])(hN:X.N.Nodup)(hi:X.N[i]?=some n)(hn:U! X.env.scope.names.lookup n QH!)(hg:FC!)(cD:O4 Kx X.mg x D)(hb:∀(AA:x!) (E:M?) (ES:b4!),Xi fp! ES->RF fp! body (tb ES))(hs:∀ex,RF (dg X ex) (qu::jU) (ts ex))(hd:DU!:=by decide) : PS X (.Try body [.ExceptHandler (np! x np) (some n) (qu::jU) iY] [] [] pos) (Jls Kx D i tb ts):=by
 intro AA s σ H E I h;refine wpAny_Try_except (EO (hb AA (λe s1=>Z3! (noteFrame e X.env) (λ_ s2=>Z3! (setFlight e none) (λ_ s3=>u9! (handleBy e X.env [.ExceptHandler (np! x np) (some n) (qu::jU) iY]) (SP X AA E) s3) s2) s1) _ ?_ [] s σ H E (Jd9 I) h) (λf s1 q=>?_) λe s1 q=>q);· intro ak EV H0 s0 e s' I0 ⟨ex,cls,H',he,xt,⟨C,⟨bZ,lJ⟩,hE⟩,ho,hga,u,ok⟩;subst he bZ;have I1:u7! H0 s0:=Hu I0;(have frn:∀b∈QY (MK!),Le!:=j? (by have:=P0! I1.RY b dM hb;obtain⟨o,e1,_⟩:=(I1.stack.mem (I! dM hb)).2;exact u.free b o e1 this (D?)));(have frg:∀b∈QY (MK!),¬(Dk! s0.heap.get?/\Le!):=λb hb z=>by obtain⟨o,e1,_⟩:=(I1.stack.mem (I! dM hb)).2;rw[e1] at z;cases z.1);have I2:vi!:=I1.cW (ch:=[]) ho u ok hga (Bu! (by simp at hb));(have fl:s'.heap.FunFrames X.base (MK!):=by have:=I2.stack;rwa [dM] at this);(have hfm:X.A.frames=some (MK!):=I? I1.ok.frames dM);(have none_:ZB! s'.heap.get? (Dk! s0.heap.get?/\Le!):=λb q=>by constructor;(.cases q2:s0.heap.get? b with | none=>rfl | some o =>obtain⟨o',e1⟩:=u.there b o q2 be;rw[q] at e1;cases e1);.cases q2:H' b with | none=>rfl | some o =>obtain⟨ob,e1⟩:=N2 ok q2;rw[q] at e1;cases e1);(have back:∀{h':Heap} (t:Nat),KS (QY (MK!)) (λb=>Dk! s0.heap.get?/\Le!) s'.heap h'->u7! H' { s' with heap:=h',toks:=t }:=λ{h'} t as=>by refine I1.cW (s':={ s' with heap:=h',toks:=t }) (ch:=[]) ho ?_ (T3 ok as frn λb z=>z.2) hga (Bu! (by simp at hb));have u':Un (QY X.stack) [] H0 H' s0.heap s'.heap:=u;exact Xp u' as (λb o e1 z=>by rw[e1] at z;cases z.1) (λb o e1 m=>I! dM m) frn);refine Jg5 (base:=X.base) (L:=X.env.locals) hfm fl dt xt.at none_ λh1 x1 JA=>?_;have J1:=back s'.toks JA;obtain⟨oe,vs,a0,T,oT,fy,b1,b2,b3,_⟩:=x1.2;refine wpAny_handleBy_cons (codeAny_handlers_test (Ir (X:=dg X ex) (Wv J1) hg cD.mg ?_ hd)) (by intro q;cases q);refine Jlm J1.VW cD.ex lJ b1 b2 ?_;refine codeAny_handlers_suite_as (Jmz (s:={ s' with heap:=h1 }) x1 frg λh2 x2 VX=>?_);have J2:=back s'.toks (JA.trans VX);obtain⟨oe2,vs2,a2,T2,oT2,ts2,c1,c2,c3,⟨c4,c5⟩,_⟩:=x2.2;subst c4;(have J3:u7! (upd H' ex oB!) { s' with heap:=h2,toks:=s'.toks }:=by refine Tv J2 x2.1.2 ?_ jr! (λy c e1 z=>?_) (λp hp z=>?_) ⟨⟨oe2,vs2,c1,c2,c3,c5⟩,A! oe2 c1,λha hb ⟨o,vs,q1,q2⟩ k=>⟨o,vs,k o q1,q2⟩⟩;(.cases q2:X.HR.heap.get? ex with | none=>rfl | some o =>obtain⟨o',e1⟩:=I1.base.there ex o q2 (Cl! hex);rw[x2.1.1] at e1;cases e1);(.obtain⟨m,⟨o,_,_,e1,_⟩,_⟩:=I1.loc;rw[<-z,x2.1.1] at e1;cases e1);(.obtain⟨v,o,e2,_⟩:=I1.cell y c e1;rw[z,x2.1.1] at e2;cases e2);.have:=(I1.pin p hp).1;rw[z,x2.1.1] at this;cases this);refine Pz (X:=X) J3 hN hi (c? hn) (FF! (BL! (V! ex) (V! ex))) (λs4 J4=>?_) (AB! hn);refine EO (hs ex AA s4 _ _ (gone E i) (Wv J4) (hE ex x2.1.2)) (λf s5 q=>?_) λ_ _ z=>z.elim;cases f with | next=>obtain⟨rR,H5,J5,q5⟩:=q;exact tg! (Dl! H5 J6 q5) | brk=>obtain⟨rR,H5,J5,q5⟩:=q;exact tg! (Dl! H5 J6 q5) | cont=>obtain⟨rR,H5,J5,q5⟩:=q;exact tg! (Dl! H5 J6 q5) | ret v=>obtain⟨v5,rR,H5,J5,r5,q5⟩:=q;exact tg! ⟨v5,_,H5,J6,r5,q5⟩
 .cases f with | next=>obtain⟨bz,H1,I1,q1⟩:=q;exact PD ⟨bz,H1,Hu I1,q1⟩ | brk=>obtain⟨bz,H1,I1,q1⟩:=q;exact⟨bz,H1,Hu I1,q1⟩ | cont=>obtain⟨bz,H1,I1,q1⟩:=q;exact⟨bz,H1,Hu I1,q1⟩ | ret v=>obtain⟨v1,bz,H1,I1,r1,q1⟩:=q;exact⟨v1,bz,H1,Hu I1,r1,q1⟩
universe E
universe E FX
universe N FX
open PySem PySem.Spec PySem.Calls PyProof.Rows L2 Builtin Builtin.ObjectAttr Builtin.Getset_descriptor
set_option maxHeartbeats 400000
structure qA(K:W.Frag)(C:Addr):Prop where
 ga:Zy! l8! Ot!
 gb:F4! "__getattr__"
 ha:Zy! G0! G1!
 hn:EK! W.specialIn (AS! G1!) "__get__" jk!
 ht:W.takesIn K (AS! G1!)=some true
 hm:ae! C
 hb:ad! C
 hc:(W.clsIn K C).isSome=true
theorem Jh8:U! builtinKind Ot! .slot:=ZV
theorem Jem:U! splitId Ot! (dh!,l8!):=ZV
universe S
variable {prog:Program}{w:World}{A:Around}{E:Value->Shared->Prop}{s:Shared}{K:W.Frag}{x C:Addr}
theorem Z6{R:iE!}{tp:Value}(X:Gc!)(hx:∃o,Bk! s.heap.get? o/\gf!)(f:qA K C)(h:R (.ok (C5! .ret C)) s):rL! (.call (AS! "getset_descriptor.__get__") (FV! [AS! G1!,i! x,tp])):=by
 obtain⟨hh,g,dr,t,os⟩:=s;obtain⟨o,vQ,hc⟩:=hx;have L0:Ti! (C5! typeOf x) GH!:=hc▸(W.Looks.ld vQ).andThen .now;have L1:=s5! W.looks_mroIn f.hm;refine codeAny_call_builtin W.KF.slot_gs.plain W.KF.entry_gs (W.KF.slot_gs.check _ _ _ _ _ _ _ _ W.KF.type_class (d! W.KF.args_gs _) ?_);unfold Builtin.«getset_descriptor.__get__» descrGet;rw[W.dga_obj];refine ZG!;unfold descrGetter descrCheckInstance descrNameAndClass isInstance;simp only[W.KF.owner_class];repeat lk
 refine A! (Code.quiet_builtin _ ZV) (PF W.KF.entry_class ?_);unfold Builtin.«object.__class__» shownTypeOf;repeat lk
 exact h
theorem Jeg{Q:iF!}(X:Gc!)(hx:∃o,Bk! s.heap.get? o/\gf!)(f:qA K C)(h:h0! (I6! C)):Ab! (getAttr? (V! x) G0!):=by
 obtain⟨hh,g,dr,t,os⟩:=s;obtain⟨o,vQ,hc⟩:=id hx;have L0:Ti! (C5! typeOf x) GH!:=hc▸(W.Looks.ld vQ).andThen .now;have L1:=s5! W.looks_findIn f.ga;have L2':=s5! W.looks_findIn f.gb;have L3:Ti! (isInstance RE! (BB! dh!)) true:=L0.andThen (W.looks_mroIn X f.hb);have L4:=s5! W.looks_findIn f.ha;have L5:Ti! (getOf (ws! G1!)) jk!:=W.looks_specialIn X f.hn;have L6:Ti! (dataDescriptor? (ws! G1!) jk!) (some (AS! "getset_descriptor.__get__",AS! G1!)):=(W.looks_takesIn X f.ht).andThen .now;have L7:Ti! (find (V! x) GH! G0!) (.bind (AS! "getset_descriptor.__get__") (AS! G1!)):=L4.andThen (L5.andThen (L6.andThen (W.Looks.tag .now)));unfold getAttr? getAttrBy? getAttrBy;refine xz wpAny_mkText (ZR (JW (DA (ZR (L0.at (ZR (L1.at ?_)))))));have c_:bv (onTheHeap (Value.ref C)&&(gC! Ot! == gC! "object.__getattribute__")):=I? (show bv (gC! Ot! == gC! "object.__getattribute__") from by decide +kernel) Bool.and_false
 dsimp only;rw[YS! c_];unfold getAttrByItsOwn;refine ZR (Cm! (QB! (typeLookup (V! C) "__getattr__")) (L2'.at ?_));refine xz JW (DA ?_);unfold callGetattribute;rw[AB (Um! (¬(Ix (false&&_))) Bool.false_and AS)];unfold boundAndCalled;refine No! RX (C5! F.excAttr_ValueError.ga.bind x);show QB! (ez! Ot! [i! x,AR! G0! t]);refine YW (codeAny_call_builtin F.excAttr_ValueError.ga.plain F.entry_bexc_ga (@W.check_slot VI! _ _ _ Ot! dh! l8! RE! [AR! G0! t] [] _ Jh8 Jem L3 (F.args_bexc_ga RE! (AR! G0! t)) ?_));unfold Builtin.«object.__getattribute__»;refine ro! (slotArgs l8! 1 (FV! [i! x,AR! G0! t])) (Value.ref x,[Value.str G0! t]) (by kernel_rfl) ?_;dsimp only;refine ro! (attrName (AR! G0! t)) (G0!:Str) (by kernel_rfl) ?_;refine xz L0.at (ZR (L7.at ?_));dsimp only;unfold bindTo;dsimp only;refine L1! (YW (Z6 (A:=A.in1) X hx f ?_));refine ZS ?_;refine RX (a:=Hl! C) (W.handedOut_of rfl) ?_;exact ZS h
theorem Jha(f:qA K C):W.KitX K RE! GH! (λh=>∃o,Bk! h.get? o/\gf!) where
 ty:=λ_ _ _ ⟨o,h1,h2⟩=>h2▸(W.Looks.ld h1).andThen .now
 it:=λ_ _ X _=>by
  obtain⟨cd,RE⟩:=JE.mp f.hc
  unfold W.clsIn at RE
  split at RE
  .rename_i c' d' cd' um ho
   intro A' Q' E' s' k q
   unfold isType loadHead
   exact ZR (wpAny_loadPart (CP! k X ho) (ZS q))
  .cases RE
 ne:=λh tp dd its n sl X htp=>by
  obtain⟨cd,RE⟩:=JE.mp f.hc
  refine Bool.eq_false_iff.mpr λq=>?_
  have e:C=tp:=Value.ref.inj (KU.mp q)
  subst e
  unfold W.clsIn at RE
  split at RE
  .rename_i c' d' cd' um ho
   have z:=(X _ _ ho).symm.trans htp
   cases z
  .cases RE
 ca:=λX I k=>Jeg X I f k
universe E
theorem Ka{ds:J!}{its:Z!}(h:Vals (ds.map V.ref) its):its=ds.map Value.ref:=by induction ds generalizing its with | nil=>cases h;rfl | cons d ds ih=>cases h with|cons h1 h2=>cases h1;rw[ih h2];rfl
universe S
inductive Sb(K:W.Frag)(xs:C!)(H:Hp)(Q:VK):Prop
 | mk a C c cv b (_:xs=[Aj!,c]) (_:BL! c cv) (_:Fd! (ni a C)) (_:qA K C) (_:EK! W.kitOne (V! C) cv b) (_:KW! b)
theorem Ek{X:F!}:Fu X (AS! "isinstance") (Sb Kx):=by
 intro AA s σ H xs us Q I r h;obtain⟨a,C,c,cv,b,rfl,rc,ha,f,e,q⟩:=h;obtain⟨u1,u2,rfl,r1,r2⟩:=r.two;cases r1;have:u2=cv:=by cases c with | ref p=>exact rO! | ty n=>exact rO! | FG=>exact rO! | bl b=>exact rO! | int i=>obtain⟨t,e1⟩:=rc;rw[e1] at e;unfold W.kitOne W.kitCls at e;simp at e | str i=>obtain⟨t,e1⟩:=rc;rw[e1] at e;unfold W.kitOne W.kitCls at e;simp at e | bM i=>obtain⟨t,e1⟩:=rc;rw[e1] at e;unfold W.kitOne W.kitCls at e;simp at e | pL i=>obtain⟨t,e1⟩:=rc;rw[e1] at e;unfold W.kitOne W.kitCls at e;simp at e
 subst this;obtain⟨o,vs,g1,g2,g3⟩:=(I.DP a _ ha).1;exact W.kia_one (Jha f) I.VW (A2! g1 g2) e (λz=>WO!) λtk=>AA! (.bl b) H (I.tok tk) q
universe E
universe E FX
universe N FX
open PySem PySem.Spec PyProof.Rows L2
theorem EW.no{P:Program}{w:World}{K:W.Frag}{mg:q?}{base:Heap}{k:Nat}{f:Addr}{fd:FuncData}{ps:P?}{sp:Sp}(F:tG! Es!):EW P w K mg base aL k f fd ps (pD! sp) :=A! (λvs H Q E q=>F.len vs H Q E0 q) (λA outer s H args us vs Q E hr he hb hv hs=>HH (F.run A outer s H args us vs Q E0 hr he hb hv hs) λr s' h=>by cases r with | ok fl=>cases fl<;>exact h | error e=>obtain⟨_,_,_,_,_,z,_⟩:=h;exact z.elim)
theorem Ml{K:W.Frag}{v:Value}:EK! W.kitOne v v true:=by unfold W.kitOne;rw[AE (D?)]
theorem Jko:re bootBuiltins Ir! BB! Ir!:=ZV
universe E FX
universe N FX
open PySem L2
theorem Iw(h:EK! W.mroIn C b r):(W.clsIn K C).isSome=true:=by obtain⟨cd,a,_⟩:=Option.bind_eq_some_iff.mp h;rw[a];rfl
universe E FX
universe N FX
open PySem PySem.Spec PyProof.Rows L2
inductive bA(h:Heap)(it d:Addr)(i n ep:Nat):Prop
 | mk (own ok ov:Value) (f:Bool) (_:(own=F?\/∃a:Nat,own=rawInt a)) (_:El! it { cls:=Iw! Ik!,dict:=none,data:=Hk! #[own,Tk f,EX!,T! i 0,T! n 0,kP!,ok,ov],slots:=#[] })
def jS(h:Heap)(a:Addr)(k v:Value):Prop:=HO! (t1! Bd! .seq (#[k,v]))
universe S
variable {prog:Program}{w:World}{A:Around}{E:Value->Shared->Prop}{s:Shared}{it d:Addr}{i n ep:Nat}
theorem bA.ty(x:TW! s.heap):s.TypeIs CR! Ik!:=let⟨_,_,_,_,_,e⟩:=x;SL!
theorem bA.to(x:TW! h)(k:∀o,El! it o->Zi! it):TW! h':=let⟨a,b,c,f,g,e⟩:=x;⟨a,b,c,f,g,k _ e⟩
theorem Jkv(h:Q (s.heap.get? a) s):Ab! (loadIfAlive a):=λ_ _ _=>h
theorem Je4(h:∀h' e,Shared.TypeIs GE (V! e) EH!->(aK!)->Is e GE):Ab! (newExc (BB! EH!) []):=by
 have first:firstArgMember (BB! EH!) []=pure F?:=by unfold firstArgMember;cases (Manifest.find? EH!).elim false λt=>t.mro.contains EH! || t.mro.contains "SystemExit" <;> rfl
 unfold newExc newTuple;rw[first];refine ZR (DC (ZR (ZS (DC (h _ _ jS! (Aw! (ZT _ aF!))) (by size_fits)))) gF!)
theorem Jgf(hw:TW! s.heap)(hQ:∀h',TW! h'->jS h' s.heap.objs.size k v->(li!)->Is s.heap.objs.size GE) :
 Ab! (Builtin.Dict_items.pairFromOwner CR! 6 k v):=by
 obtain⟨own,ok,ov,f,ho,e0⟩:=hw
 have il:it<s.heap.objs.size:=AO e0
 have zC:s.heap.objs.size≠it:=ER il
 obtain⟨h1,eh⟩:∃h1,h1=bQ! s.heap.push ([k,v]:Z!).toArray:=ci
 have p1:jS h1 s.heap.objs.size k v:=I! eh CN!
 have k1:Vn! h6!:=Aw! (I! eh HN!)
 have e1:=k1 it _ e0
 have fin:∀h2,TW! h2->u2! it h1 h2->Is s.heap.objs.size nC!:=λh2 x y =>
  hQ h2 x ((y.2 _ zC).trans p1) (Ax! ((y.2 b hb).trans (k1 b o e)))
 have free:as! (do
  let old:=[<-field CR! 6,<-field CR! (6+1)]
  setField CR! 6 k;setField CR! (6+1) v
  pP! 0 rawInt s.heap.objs.size;pP! 1 Tk false
  letGo old [ho!]
  return ho!) It!:=by
  refine ZR (sj! ok (ZR (sj! ov ?_)))
  refine Tx! e1 (λg2 q2 b2=>Tx! q2 (λg3 q3 b3=>Tx! q3 (λg4 q4 b4=>Tx! q4 (λg5 q5 b5=>?_))))
  refine xz wpAny_letGo (ZS (fin g5 ⟨_,_,_,_,NF! s.heap.objs.size,q5⟩ (Lu! JQ!)))
  .rw[b5.1,b4.1,b3.1,b2.1]
  .rw[B4! b5.2,B4! b4.2,B4! b3.2,B4! b2.2]
 unfold Builtin.Dict_items.pairFromOwner
 refine xz wpAny_newTuple ?_
 rw[<-eh]
 refine H5!
 unfold Builtin.Dict_items.ownedTupleIsFree
 refine ZR (sj! own ?_)
 rcases ho with rfl|⟨a,rfl⟩
 .exact ZS free
 .show k5! (loadIfAlive (gm! a))
  refine xz Jkv ?_
  cases ha:h1.get? (gm! a) with
  | none=>exact ZS free
  | some oa =>
    refine ZR (sj! (Tk f) ?_)
    cases f with
    | true=>exact ZS (ZS (fin h1 ⟨_,_,_,_,NF! a,e1⟩ (Heap.SameBut.refl _ _)))
    | false=>exact Tx! e1 (λg2 q2 b2=>ZS (ZS (fin g2 ⟨_,_,_,_,NF! a,q2⟩ b2)))
theorem Ja8(hv:s.heap.IsItemsView v d)(hm:IP!)(hQ:∀h',bA h' s.heap.objs.size d 0 es.size ep->(aK!)->Is s.heap.objs.size GE):Ab! (C5! pyIter v):=by
 obtain⟨o1,e1,c1,f1⟩:=id hv;obtain⟨o2,e2,c2,f2⟩:=hm;refine wpAny_pyIter_slot hv.typeIs F.slot_dict_items_iter (CU F.slot_dict_items_iter hv.typeIs F.entry_dict_items_iter ?_ (F.args_dict_items_iter_1 _));unfold Builtin.«dict_items.__iter__» Builtin.Dict_items.dictOf Builtin.Dict_items.newIterator;refine ps! (FN (x:=EX!) e1 f1 rfl (ZS (ZR (ZR (BV e2 f2 (ZR (EC e2 f2 ?_)))))));have own:Builtin.Dict_items.ownsTuple Ik!=true:=l!
 simp only[own,JV,CL,EZ];refine DC (ZS ⟨_,rfl,Ik!,_,jS!,F.slot_dict_itemiterator_next.lookup,?_⟩) (by simp[sizeOk,Builtin.Dict_items.ownedTupleFields,DI]);exact hQ _ ⟨F?,F?,F?,false,Fv!,(ZU _ rfl).trans (by simp[rawInt,Builtin.Dict_items.ownedTupleFields])⟩ GB!
theorem Ja7{es:EB!}{Q:iF!}(hw:Vq! s.heap i es.size)(hm:IP!)(hi:f6!)(hQ:∀h',Vq! h' FS es.size->jS h' s.heap.objs.size es[i].key es[i].val->(li!)->YA! (I6! s.heap.objs.size)):ZE!:=by
 have ty:=hw.ty;obtain⟨own,ok,ov,f,ho,e0⟩:=hw;obtain⟨o2,e2,c2,f2⟩:=hm;have lC:Builtin.Dict_items.ownsTuple Ik!=true:=l!
 unfold pyNext;refine dI! ty IC (CU IC ty F.entry_dict_itemiterator_next (co! ?_) (F.args_dict_itemiterator_next_1 _));refine xz ZR (HX ty (ZS (ZR (wpAny_fieldsOf e0 rfl ?_))));simp only[lC,JV];refine jV! (pX! _ nI! _ _);rw[oD!];refine ap! e2 f2;rw[Ca!];refine lK! e2 f2;rw[Ca!];refine ZS ?_;simp only[FK! pW!,EZ,CA,Array.getElem?_eq_getElem hi];refine xz ZR (HX ty (ZS (ZR (Z' ty ?_))));refine jV! (pX! _ (pP! 3 rawInt (y!+1) >>= _) _ _);refine Tx! e0 (λh1 q1 b1=>?_);have w1:Vq! h1 FS es.size:=⟨own,ok,ov,f,ho,by rw[show Bn! U?=y!+1 by rfl];simpa [rawInt] using q1⟩;have ty1:Shared.TypeIs It! CR! Ik!:=bA.ty (s:=It!) w1;refine L1! (ZR (Z' ty1 (ZR (Z' ty1 ?_))));refine Jgf (s:=It!) w1 λh2 w2 p2 k2=>?_;have z1:h1.objs.size=s.heap.objs.size:=b1.1;dsimp only at p2 k2 ⊢;rw[z1] at p2 ⊢;exact ZS (m? (ZS (hQ h2 w2 p2 (Ax! (k2 b o hb ((b1.2 b hb).trans e))))))
theorem Jd7{es:EB!}{Q:iF!}(hh:Ol!)(hw:Vq! s.heap i es.size)(hm:IP!)(hi:es.size<=i)(hQ:∀h',(li!)->YA! none):ZE!:=by
 have ty:=hw.ty;obtain⟨own,ok,ov,f,ho,e0⟩:=hw;obtain⟨o2,e2,c2,f2⟩:=hm;have lC:Builtin.Dict_items.ownsTuple Ik!=true:=l!
 unfold pyNext;refine dI! ty IC (CU IC ty F.entry_dict_itemiterator_next (co! ?_) (F.args_dict_itemiterator_next_1 _));refine xz ZR (HX ty (ZS (ZR (wpAny_fieldsOf e0 rfl ?_))));simp only[lC,JV];refine jV! (pX! _ nI! _ _);rw[oD!];refine ap! e2 f2;rw[Ca!];refine lK! e2 f2;rw[Ca!];refine ZS ?_;simp only[FK! pW!,EZ,CA,Array.getElem?_eq_none hi];refine lI! HX ty;refine ZR (GJ (k:=2) e0 be λh1 q1 b1=>?_);refine xz Je4 (λh2 x t2 k2=>wpAny_raiseNew_none hh (ZR (OC t2 isSubtype_stop (ZS (hQ h2 (Ax! (k2 b o ((b1.2 b hb).trans e))))))))
universe E
def eC(h:Heap)(it:Addr)(es:EB!)(as:J!):Prop:=∀(j:Nat)(a:Addr),as[j]?=some a->it<a/\∃e:DictEntry,es[j]?=some e/\jS h a e.key e.val
theorem eC.to(x:bt! h)(k:xG! (it<b) BW!):bt! h' :=λj a e=>let⟨l,d,e1,e2⟩:=x j a e;⟨l,d,e1,k a _ l e2⟩
theorem eC.more(x:bt! h)(hi:as.length<es.size)(l:it<a)(p:jS h a es[as.length].key es[as.length].val):eC h it es (as++[a]):=λj b e=>by rcases Nat.lt_trichotomy j as.length with hj|hj|hj;(.rw[PL hj] at e;exact x j b e);(.subst hj;(have e':a=b:=FI!);subst e';exact⟨l,_,de!,p⟩);.rw[CY (by simp;assumption)] at e;cases e
universe S
theorem Rg(hh:Ol!)(l1:S<it)(n1:d≠S)(n2:d≠it)(hz:es.size<=sizeLine)(res:Value) : ∀(k:Nat)(s:Shared)(as:J!)(c:Nat),as.length+k=es.size->Vq! s.heap as.length es.size->IP!->Fl! S (SY! c)->bt! s.heap->as.Nodup -> (∀h' LO c',LO.length=es.size->LO.Nodup->(KE (b≠S->b≠it->CM!->PZ!))->PI! S (Nj! LO.map Value.ref c')->eC h' it es LO->R (.ok (.ret res)) GE) -> rL! (AS! "list.extend.loop" (FV! [i! S,i! it,res]))
 | 0,s,as,c,hk,iw,rd,hS,ps,nd,q=>by refine PF PySem.F.entry_extend_loop ?_;rw[OS GA _];refine(ZR (m:=pyNext (DW! it)) (Jd7 hh iw rd E! λh' kp=>ZS (q h' as c (gQ!) nd (λb o _ hb e=>kp b o hb e) (kp S _ (BK l1) hS) (ps.to (Px! kp (ER hb))))))
 | k+1,s,as,c,hk,iw,rd,hS,ps,nd,q=>by (have hi:as.length<es.size:=B!);have al:it<s.heap.objs.size:=let⟨_,_,_,_,_,e⟩:=iw;B1!;refine PF PySem.F.entry_extend_loop ?_;rw[OS GA _];refine ZR (m:=pyNext (DW! it)) (Ja7 iw rd hi λh1 iw1 p1 k1=>?_);have pJ:=k1 S _ (BK l1) hS;(have sz:(as.map Value.ref).toArray.size=as.length:=D?);refine ZR (m:=updateSeq S (·.push (Value.ref s.heap.objs.size))) (wpAny_updateSeq pJ rfl (ZS (L? (plainId_quiet GA _))) (Fk! sz) (eI! Array.size_push sz));have up:KE (b≠S->h6!->AI! (h1.update S (Obj.mapSeq (·.push (Value.ref s.heap.objs.size)))).get?):=Ax! ((BO _ _ fI!).trans e);refine Rg hh l1 n1 n2 hz res k (Gv! (h1.update S (Obj.mapSeq (·.push (Value.ref s.heap.objs.size))))) (as++[s.heap.objs.size]) (c+1) (WY!) (q! ZE (iw1.to λo e=>up it o (ER l1) e)) (rd.at λo e=>up d o n1 (k1 d o n2 e)) ?_ ?_ ?_ λh' LO c' a1 a0 a2 a3 a4=>q h' LO c' a1 a0 (λb o hb hc e=>a2 b o hb hc (up b o hb (k1 b o hc e))) a3 a4;(.refine(MF pJ _).trans ?_;simp[seqObj]);(.exact eC.more (ps.to (Ax! (up b o (ER (RP l1 hb)) (k1 b o (ER hb) e)))) hi al (up _ _ (ER (RP l1 al)) p1));.refine AL.mpr ⟨nd,D?,λa ha b hb z=>?_⟩;(have e:b=s.heap.objs.size:=CC!);obtain⟨j,hj⟩:=CV.mp ha;obtain⟨_,_,_,e2⟩:=ps j a hj;exact I8! AO e2 (Pu! z e (DJ _))
universe E
universe S
theorem Sn(hh:Ol!)(hv:s.heap.IsItemsView v d)(hm:IP!)(hz:es.size<=sizeLine)(h:∀h' as it,as.length=es.size->as.Nodup->s.heap.objs.size<=it->(aK!)->bt! h'->R (as.map Value.ref) GE) : Tv! (C5! collect v) R:=by
 have lv:v<s.heap.objs.size:=let⟨_,e,_⟩:=hv;B1!;have ld:d<s.heap.objs.size:=let⟨_,e,_⟩:=hm;B1!;unfold collect;refine xz wpAny_runValue (PF PySem.F.entry_proto_collect ?_);rw[OS PySem.F.plain_proto_collect _];refine ZR (m:=newList []) (DC (ZS (A! (plainId_quiet PySem.F.plain_list_iadd _) (PF PySem.F.entry_list_iadd ?_))) gF!);rw[OS PySem.F.plain_list_iadd _];generalize wF:wu! s.heap.push AH! .seq ([]:Z!).toArray=h0;have gS:U! h0.get? s.heap.objs.size (ZW! 0):=G? wF CN!
 have k0:Vn! (AI! h0.get?):=Aw! (G? wF HN!)
 have vW:h0.IsItemsView v d:=let⟨o,e,r⟩:=hv;A2! (k0 v o e) r;have hm0:VS! h0:=hm.at λo e=>k0 d o e;have z0:h0.objs.size=Fa!:=Ou! wF Heap.size_push
 have low:Vn! (b<s.heap.objs.size):=Aw! B1!;obtain⟨S,hS⟩:∃S:Addr,S=s.heap.objs.size:=ci;rw[<-hS] at gS z0 lv ld low ⊢;have lS:S<h0.objs.size:=I! z0 (KZ _)
 refine jV! (wpAny (model prog w) _ (Builtin.List.listExtendWith (V! S) Xx! (V! S)) _ _ { s with heap:=h0 });have fin:∀(R':iE!),(∀h' LO c',LO.length=es.size->LO.Nodup->(aK!)->PI! S (Nj! LO.map Value.ref c')->eC h' h0.objs.size es LO->R' (.ok (C5! .ret S)) GE) -> ∀h1 c1,bA h1 h0.objs.size d 0 es.size ep->VS! h1->U! h1.get? S (ZW! c1)->(Vn! h6!)->codeAny VI! A (AS! "list.extend.loop" (FV! (cg! S h0.objs.size S))) R' It!:=λR' q h1 c1 a1 a2 a3 a4 =>Rg hh lS (BK ld) (BK (RP ld lS)) hz _ es.size It! [] c1 be a1 a2 (by simpa using a3) (λj a e=>f5!) CS λh' LO c' q1 q0 q2 q3 q4=>q h' LO c' q1 q0 (Aw! (q2 b o (BK (low b o e)) (BK (RP (Dq! low) lS)) (Dq! a4))) q3 q4;unfold Builtin.List.listExtendWith;refine ZR (wpAny_typeOf (T:=Uj!) (Heap.IsItemsView.typeIs (s:={ s with heap:=h0 }) vW) ?_);have n1:o? (Builtin.List.listSameRef (V! S) Xx!):=by simp[Builtin.List.listSameRef,ER lv]
 have n2:bv (Pt! Uj! == Pt! AH!):=l!
 have n3:bv (Pt! Uj! == Pt! Bd!):=l!
 simp only[n1,n2,n3,Bool.or_false,CL,EZ];refine ZR (Ja8 (s:={ s with heap:=h0 }) vW hm0 λh1 iw k1=>?_);refine L1! (W.kdx_hint (s:=It!) (let⟨o,e,c,_⟩:=vW;A2! (k1 v o e) c) ?_);have tJ:=G! k1 gS;have loop:∀h2 c2,(KE (b≠S->h6!->AI! h2.get?))->hk! S (ZW! c2) -> codeAny VI! A (AS! "list.extend.loop" (FV! (cg! S h0.objs.size S))) (λq s'=>∃h' LO c',q=.ok (.ret (V! S))/\s'=GE/\LO.length=es.size/\LO.Nodup/\(aK!)/\PI! S (Nj! LO.map Value.ref c')/\eC h' h0.objs.size es LO) nC!:=λh2 c2 k2 g2 =>fin _ (λh' LO c' a1 a0 a2 a3 a4=>⟨h',LO,c',rfl,rfl,a1,a0,a2,a3,a4⟩) h2 c2 (iw.to λo e=>k2 _ o (ER lS) e) (hm0.at λo e=>k2 d o (BK ld) (k1 d o e)) g2 (Aw! (k2 b o (BK (low b o e)) (k1 b o (Dq! k0))));refine wpAny_ite_split (Vi!) (λ_=>ZS (L? (plainId_quiet GA _)));.refine iQ! (ZR (m:=updateSeq S (·.push .none) >>= λ_=>updateSeq S (·.pop)) (ZR (wpAny_updateSeq tJ rfl (wpAny_updateSeq (MF tJ _) rfl (ZS (L? (plainId_quiet GA _))) ?_ ?_) ?_ ?_)));(.refine HH (v! loop (Ax! (lD! (lD! e))) (MF (MF tJ _) _)) λq s' y=>?_;obtain⟨h',LO,c',rfl,rfl,a1,a0,a2,a3,a4⟩:=y;refine ZR (m:=load S) (wpAny_load a3 (ZS ?_));exact h h' LO _ a1 a0 (F8! hS (DT lS)) a2 a4);all_goals (simp[seqObj,DI])
 .refine HH (loop h1 0 (λb o _ e=>e) tJ) λq s' y=>?_;obtain⟨h',LO,c',rfl,rfl,a1,a0,a2,a3,a4⟩:=y;refine ZR (m:=load S) (wpAny_load a3 (ZS ?_));exact h h' LO _ a1 a0 (F8! hS (DT lS)) a2 a4
universe E
universe S
theorem Jbb{vs:Z!}{ns:A?}(p:So!):ItemsAre (intKind prog w) ns vs:=by induction p with | nil=>exact S! | cons n t _ ih=>exact C? (intKind_is prog w n t) ih
theorem O7(x:nr! a)(y:PW! its.toList):IsTupleKey (intKind prog w) h ns a :=let⟨o,ho,hc,n,hd⟩:=x;⟨o,its,n,ho,hc,hd,Jbb y⟩
inductive O_(h:Heap)(a:Addr)(q:A?×Int):Prop
 | mk ka its t (_:jS h a (V! ka) (T! q.2 t)) (_:nr! ka) (_:IntsAre its.toList q.1)
theorem O_.to(k:xG! BW! XG!)(x:O_ h a q):O_ h' a q :=let⟨ka,its,t,e1,⟨o,ho,hc,r⟩,e3⟩:=x;⟨ka,its,t,v! k e1 rfl,⟨o,k ka o ho hc,hc,r⟩,e3⟩
theorem Jjd(hu:UX!)(x:O_ s.heap a p)(y:O_ s.heap b q)(same:p.1=q.1->p.2=q.2)(h:C (HT.lexLt p.1 q.1) s) : pX! A (keyLt' (tuples' false) SB Fm!) C (QM!):=by
 obtain⟨ka,its,t,e1,e2,e3⟩:=x;obtain⟨kb,sU,u,f1,f2,f3⟩:=y;refine W.kat_lt e1 rfl f1 rfl (W.kat_cons (wpAny_eqBool_tuple hu (O7 e2 e3) (O7 f2 f3) (W.kat_go (λe=>W.kat_yes (W.kat_cons (wpAny_eqBool_int (W.kat_go (λ_=>W.kat_yes (W.kat_nil ?_)) Dz!)))) λe=>W.kat_no (d! W.kat_one (HT.bx e2 f2 e3 f3 hu h)))));.have e:=BW e;rw[e,Pl] at h;exact h
 .rw[same (BW e)] at z;simp at z
def Ks(h:Heap):hx! (List (A?×Int)):=Paired (O_ h)
theorem Vs{as:J!}{L:List (A?×Int)}(p:Ks h as L):∃fs:Z!,W.KatTups h wn! fs/\fs.length=as.length/\∀v∈fs,∃ka its,v=Hl! ka/\nr! ka:=by induction p with | nil=>exact FQ! [] trivial (λv hv=>by simp at hv) | cons r _ ih =>obtain⟨ka,its,t,e1,e2,e3⟩:=r;obtain⟨fs,a1,a2,a3⟩:=ih;refine⟨i! ka::fs,W.KatTups.cons e1 rfl rfl rfl a1,by simp[a2],Qs!⟩;rcases ZM hv with rfl|hv;(.exact FQ! ka its e2);.exact a3 v hv
theorem Ti(x:Ks h as L)(hi:Ui!):∃a q,ME!=some a/\L[i]?=some q/\xU! i F?=DW! a/\cM!=q.1/\O_ h a q:=by
 have hl:=R? x;obtain⟨a,ha⟩:=tV! as i hi;obtain⟨q,hq⟩:=Zl! L;refine⟨a,q,ha,hq,?_,?_,Av x i a q ha hq⟩;.rw[IK,ZH,ha];rfl
 .rw[IK,ZH,hq];rfl
theorem Zj(hu:UX!)(ho:Yk! (SY! n))(cN:as.length<64)(x:Ks s.heap as L)(nd:k? L.map)(h:∀q:DG!,a2! as.length->cJ! (HT.lexLt (Lo! i []) (Lo! j [])=true)->∀h' c,(lh!)->KB! (Nj! q.map a4! c)->P oC! GE) : Tv! (Builtin.«list.sort» NN!) P:=by
 have hl:=R? x;have j9:mm!=as.length:=ZA ..;have key:∀i,Ui!->∃h:i<(L.map (·.1)).length,cM!=(L.map (·.1))[i]:=λi hi=>A! PU! (Qt! (i<L.length));have one:∀i j,Ui!->j<as.length->cM!=Lo! j []->i=j:=λi j hi hj e=>by obtain⟨l1,e1⟩:=key i hi;obtain⟨l2,e2⟩:=key j hj;rw[e1,e2] at e;exact(IU nd).mp e
 refine To (lt:=λi j=>HT.lexLt (Lo! i []) (Lo! j [])) ho (iB! cN) (A! (λi j k _ _ _=>Wf) (λi j hi hj cK e=>Wh (λz=>cK (one i j E! E! z)) e)) (λh2 h' kp Q hQ=>?_) (iB! h);have x':Ks h' as L:=Ar (λb q y=>y.to λb o e c=>kp b o (λz=>by rw[z,ho] at e;cases e;exact absurd (show Value.type AH!=Value.type Bd! from c) (l!)) e) x;obtain⟨fs,f1,f2,f3⟩:=Vs x';refine W.kat_kind (s:=GE) (T:=vo!) f1 (Fk! f2) (Qs!) rfl (hQ _ λi j hi hj C hC=>?_);.obtain⟨ka,its,rfl,o,e,c,_⟩:=f3 v hv;have z:W.Looks VI! h' (C5! typeOf ka) o.cls:=(W.Looks.ld e).andThen .now;rw[c] at z;exact z
 .rw[j9] at hi hj;obtain⟨a1,q1,g1,g2,g3,g4,g5⟩:=Ti x' hi;obtain⟨a2,q2,k1,k2,k3,k4,k5⟩:=Ti x' hj;unfold W.kas_ask;rw[g3,k3];dsimp only at hC;rw[g4,k4] at hC;refine Jjd (s:=GE) hu g5 k5 jr! hC;have e:=one i j hi hj (UF g4 k4 z);subst e;rw[g2] at k2;cases k2;rfl
universe E
def lay(H:Hp):Xy!->Hp
 | []=>H
 | p::r=>H8! (lay H r) p.1 p.2
theorem Wj:∀{ps:Xy!},b∉b? ps.map->lay H ps b=H b
 | [],_=>rfl
 | p::r,h=>by have h1:b≠p.1:=λz=>h (Pf! AJ!);show(upd (lay H r) p.1 (.BE p.2)) b=_;rw[Ac h1];exact Wj (in! h)
theorem Jch:∀{ps:Xy!},k? ps.map->∀p∈ps,lay H ps p.1=some (.BE p.2)
 | [],_,p,hp=>Bg! hp
 | q::r,nd,p,hp=>by have OG:=BA!;rcases ZM hp with rfl|hp;(.exact Ab);.have ne:p.1≠q.1:=V0! OG.1 ⟨p,hp,z⟩;show(upd (lay H r) q.1 (.BE q.2)) p.1=_;rw[Ac ne];exact Jch OG.2 p hp
universe S
def Jpm(X:F!)(AA:x!)(a:Addr):Prop:=Ay! X.HR.heap.get? a/\a≠X.env.locals/\(PY! (c≠a))/\e6! (p.1≠a)
theorem Jrx(I:K!)(h:WF!):Jpm X AA a :=let x:=I.bf (H':=Ok!) h rfl;⟨Heap.get?_none_of_le (A_ I.sz h),Lt!,x.2.2.2.2.1,x.2.2.2.2.2⟩
theorem Jck:∀{ps:Xy!},K!->k? ps.map->(∀p∈ps,Jpm X AA p.1/\t? p.1/\∀H',w9! H' p.1 (.BE p.2))->BI! mD! s
 | [],I,_,_=>I
 | p::r,I,nd,h=>by have OG:=BA!;obtain⟨⟨a1,a2,a3,a4⟩,a5,a6⟩:=DQ! p;exact Tv (Jck I OG.2 (UV (h q (AL! hq)))) (q! (Wj OG.1) a5) a1 a2 a3 a4 (a6 _)
universe E
inductive RecAt(H:Hp)(a:Addr)(q:Dc!):Prop
 | mk ka (_:KF! (bm! ka)) (_:bk!)
theorem Jmy{P:Program}{w:World}{H:Hp}{h1:Heap}{n:Nat}{as:J!}{L:Y!}(p:A6! (λa q=>n<=a/\∃ka t,jS h1 a (V! ka) (T! q.2 t)/\bk!) as L) : ∃ps:Xy!,b? ps.map=as/\(∀p∈ps,n<=p.1/\∀H',EB P w H' h1 p.1 (.BE p.2))/\A6! (λp q=>∃ka,p.2=bm! ka/\bk!) ps L:=by induction p with | nil=>exact⟨[],rfl,λp hp=>by(cases hp),S!⟩ | @cons a q _ _ r _ ih =>obtain⟨la,ka,t,e1,e2⟩:=r;obtain⟨ps,b1,b2,b3⟩:=ih;refine⟨(a,bm! ka)::ps,I? AJ b1,D0!,C? (Eb! ka e2) b3⟩;rcases ZM hp with rfl|hp;(.exact A! la (λH'=>⟨Um! gp! DI (Nat.le_add_left _ _),[i! ka,T! q.2 t],Tt! C? rfl (Rs t),qE! e1⟩));.exact b2 p hp
universe S
variable {X:Cx Kx}
inductive Ld(xs:C!)(H:Hp)(Q:VK):Prop
 | mk v d (L rs:Y!) (_:xs=[i! v]) (_:Ch v (Ws v d)) (_:lY! L) (_:L.length<64) (_:rs.Perm L) (_:FB!) (_:∀(r:Addr)(as:J!)(H':Hp),r?->RU!->mC! r->cZ! H' as->dt! r)
theorem M0(hc:Av!)(hu:KT!):au! Ld:=by
 intro AA s σ H xs us Q I rv h;obtain⟨v,d,L,rs,rfl,hv,hd,cN,pm,pw,q⟩:=h;obtain⟨u,rfl,rx⟩:=vals1 rv;cases rx;obtain⟨z,lo,ys,rel,o,es,ep,g1,g2,g3,g4,g5⟩:=Wd! (C4 L) hd;have vw:s.heap.IsItemsView v d:=(I.DP v _ hv).1;have hes:es.size=ys.length:=GZ g4;have hyl:ys.length=L.length:=by have:=NA!;rw[ZA] at this;exact this.symm
 have ent:∀(j:Nat)(e:DictEntry)(q:Dc!),es[j]?=some e->L[j]?=some q->∃ka t,e.key=i! ka/\e.val=T! q.2 t/\bk!:=λj e q h1 h2=>by rw[entry_at g4 j] at h1;cases hy:Ue! with | none=>rw[hy] at h1;cases h1 | some y =>rw[hy] at h1;cases h1;obtain⟨r1,r2,r3⟩:=Av rel j wA! y (QZ! h2) hy;obtain⟨t,r3⟩:=r3;exact⟨y.2.1,t,rfl,r3,r2⟩
 have ndL:k? L.map:=(pm.map (·.1)).nodup_iff.mp (List.Pairwise.imp (λ{a b} (h:HZ a b) (z:a=b)=>o7!) pw);refine tD! (by unfold Builtin.«sorted»;refine tR! (Sn (HF! _ (I.ok.hd hc)) vw ⟨o,g1,g2,g3⟩ (by rw[hes,hyl,DI];lia) λh1 as it hl gk hit kp prs=>?_);have I1:FN! { s with heap:=h1,toks:=s.toks }:=lU!;(have ia:as.length=L.length:=B!);(have fct:A6! (λa q=>WF!/\∃ka t,jS h1 a (V! ka) (T! q.2 t)/\bk!) as L:=Dt ia (pC! (by obtain⟨la,e,e3,e4⟩:=prs j a e1;obtain⟨ka,t,k1,k2,k3⟩:=ent j e q e3 e2;rw[k1,k2] at e4;exact⟨DT (FY hit la),ka,t,e4,k3⟩)));obtain⟨ps,b1,b2,b3⟩:=Jmy (P:=X.prog) (w:=X.w) fct;have mV:∀a,WF!->M1!:=λa ha=>I.DP.fresh ha;have I2:BI! mD! { s with heap:=h1,toks:=s.toks }:=Jck I1 (q! b1 gk) λp hp=>⟨Jrx I (b2 p hp).1,mV _ (b2 p hp).1,(b2 p hp).2⟩;(have sm:ap mD!:=Ug! (by rw[Wj (Dz!)];(.exact e);.obtain⟨p,hp,rfl⟩:=ZN z;rw[mV _ (b2 p hp).1] at e;cases e));(have yV:CH! (RecAt (lay H ps)) as L:=by rw[<-b1];refine Dt (Ef! (R? b3)) (pC! ?_);rw[ZH] at e1;cases hp:ps[j]? with | none=>rw[hp] at e1;cases e1 | some p =>rw[hp] at e1;cases e1;obtain⟨ka,k1,k2⟩:=Av b3 j p q hp e2;exact Ho! ka (I? (Jch (q! b1 gk) p (ZP hp)) k1) sm k2);(have yY:Ks h1 as (L.map OK!):=Dt (Ef! ia) (pC! (by rw[ZH] at e2;cases hq:L[j]? with | none=>rw[hq] at e2;cases e2 | some q0 =>rw[hq] at e2;cases e2;obtain⟨_,ka,t,k1,k2⟩:=Av fct j a q0 e1 hq;obtain⟨its,rv,it2,_⟩:=I1.tuple (DL.of k2);exact⟨ka,its.toArray,t,k1,it2,Gs! (ou! [q0.1.1,q0.1.2] rv)⟩)));(have eK:G7! (L.map OK!).map L.map (λq=>vb!):=D1!);(have vG:k? (L.map OK!).map:=by (have e:(L.map λq=>vM! vb!)=(L.map pi).map Qz!:=D1!);rw[eK,e];exact List.Pairwise.map _ (λa b h z=>h (by obtain⟨a1,a2⟩:=a;obtain⟨c1,c2⟩:=b;simp at z;rw[z.1,z.2])) ndL);refine mw! lg!;have g1:U! (h1.push (seqObj "list" (as.map Value.ref).toArray 0)).get? h1.objs.size (SY! 0):=CN!;have yX:Ks wZ! as (L.map OK!):=Ar (λa q y=>y.to λb o e _=>HN!) yY;refine tH! g1 (Zj (ip! h9!) g1 E! yX vG λp pp po h2 c og e=>Rb!);have hn:h8!:=SX!;have jF:lay H ps h1.objs.size=none:=ZU!;have inr:∀i∈p,Ui!:=λi hi=>BB.mp (pp.mem_iff.mp hi);(have eR:p.map (Cz! L.getD jh!)=rs:=by refine Ih (lt:=λa b:T2×Int=>HZ a.1 b.1) (λa z=>by rw[Dx] at z;lia) (λa b h1 h2=>by rw[Dx] at h1 h2;lia) ?_ ?_ (F8! (DK (f:=An!) (R:=HZ)) pw);(·(have e2:(List.range as.length).map (Cz! L.getD jh!)=L:=by refine cf!;rw[ZH];by_cases hj:hs!;(.rw[show(List.range as.length)[j]?=some j by simp[ia,hj]];simp[hj]);.rw[show(List.range as.length)[j]?=none by simp[ia];exact NP!,CY (Lk! GQ.mp)];rfl);have e7:=pp.map (Cz! L.getD jh!);rw[e2] at e7;exact e7.trans pm.symm);.rw[DK];refine List.Pairwise.imp_of_mem (λ{i j} hi hj z=>?_) po;have li:=TR!;have lj:=inr j hj;rw[eK] at z;simpa [HZ,FK! (i<L.length),FK! hs!] using z);(have eV:(p.map a4!)=(p.map Hg!).map Value.ref:=by rw[AK];refine BP λi hi=>?_;have:=TR!;simp[this]);(have yU:cZ! (LU! mD! h1.objs.size (p.map Hg!).map) l2!:=by rw[<-eR];refine Dt (XB! ZA) (pC! ?_);rw[ZH] at e1 e2;cases hp:p[j]? with | none=>rw[hp] at e1;cases e1 | some i =>rw[hp] at e1 e2;cases e1;cases e2;have li:=inr i (ZP hp);obtain⟨ka,k1,k2⟩:=Av yV i (as.getD i 0) (L.getD i jh!) (by simp[li]) (Qt! (i<L.length));exact⟨ka,Ah jF _ _ k1,Ah jF _ _ k2⟩);refine pq! (wL! I2.laid h1.objs.size (.BF ((p.map Hg!).map V.ref)) (λb o hb=>og b o (BK (AO hb)) (ZT _ hb)) ⟨?_,(p.map Hg!).map Value.ref,c,Kg _,?_⟩) (q _ l2! _ (Aj sm (Ah jF)) hn Ab yU);(.rw[ZA,ZA,pp.length_eq,CF,DI];lia);.rw[<-eV];exact e)
universe E
theorem Q7(f:α->β):∀(xs:N!)(j:Nat),(xs.map f).eraseIdx j=ml! f
 | [],_=>rfl
 | _::_,0=>rfl
 | x::xs,j+1=>U8! (f x :: ·) (Q7 f xs j)
universe S
variable {prog:Program}{w:World}{K:Type}[DecidableEq K]{knd:HeapKind prog w K}{A:Around}{E:Value->Shared->Prop}{s:Shared}
theorem U2{d a:Addr}{xs:Fu!}{k:K}{p:P4!}{j:Nat}{Q:CG! (Cs! DictEntry)}(hu:ok!)(dN:rB!)(hm:qZ!)(hz:EE!)(hj:Db UY! k p)(hQ:∀h' o es ep,Zi! d->o.ExactDict->Jj!->oo! ml! knd->TE!->Q (some (entryOfKey knd (k,p))) { s with heap:=h',toks:=s.toks+Yn! }) : Ab! (Builtin.Dict.takeOut d SB):=by
 obtain⟨o,es,ep,ho,hc,hd,he,his,hn⟩:=hm;unfold Builtin.Dict.takeOut;refine DA (ZR (knd.pyHash hu dN (ZR (wpAny_dictFind_heap (s:=xF! Yn!) hu dN ho hd he his hn (λno=>IR hj (no j p)) λi q hi=>?_))));obtain rfl:=idxH_unique hn hi hj;rw[hj] at hi;cases hi;refine ZR (BV (s:=xF! Yn!) ho hd ?_);rw[entry_at he i,hj];refine ZR (wpAny_updateDictKeys (hz:=I! (GZ he) hz) (s:=xF! Yn!) ho hd (ZS (hQ _ _ _ _ (DU _ ho (PO (HI hd _))) (hc.mapDictKeys _) (HI hd _) ?_ Jf!)));have e1:(es.eraseIdxIfInBounds i).toList=es.toList.eraseIdx i:=D?
 rw[e1,he];exact G! Q7 _
theorem Jf3{d a:Addr}{xs:Fu!}{k:K}{p:P4!}{j:Nat}{Q:CG! PySem.Fin}(hu:ok!)(dN:rB!)(hm:qZ!)(hz:EE!)(hj:Db UY! k p)(hQ:∀h' o es ep,Zi! d->o.ExactDict->Jj!->oo! ml! knd->TE!->Q (.done (.ret p.2)) { s with heap:=h',toks:=s.toks+Yn! }) : Ab! (Builtin.«dict.pop» (FV! [i! d,Aj!])):=by
 have ty:=hm.typeIs;obtain⟨o,es,ep,ho,hc,hd,he,his,hn⟩:=id hm;have ne:es.isEmpty=false:=by have h1:=GZ he;have h2:UZ!:=Bm! hj;cases h3:es.isEmpty with | false=>rfl | true=>rw[LA] at h3;lia
 unfold Builtin.«dict.pop» Builtin.Dict.keyAndDefault;refine lI! GO ty;dsimp only;rw[AB (show ¬(keyPart (Value.ref a)).isSome=true from AS)];refine ZR (BV ho hd (ZR (ZS ?_)));rw[YS! ne];refine ZR (U2 hu dN hm hz hj λh' o' iA kG a1 a2 a3 a4 a5=>?_);exact xz wpAny_letGo (ZS (hQ h' o' iA kG a1 a2 a3 a4 a5))
universe E
universe S
variable {κ:Type}[DecidableEq κ]
theorem Rw:∀{kvs:Ae!} {k:κ} {v:V} {j:Nat},k? kvs.map->N7! (kvs[j]?)->Dr kvs k=kvs.eraseIdx j
 | [],_,_,j,_,h=>DZ!
 | p::r,k,v,0,nd,h=>by (have h:p=(k,v):=At);have OG:=BA!;rw[Jei (ww h),Ry (by rw[h] at OG;exact OG.1)];rfl
 | p::r,k,v,j+1,nd,h=>by (have h:N7! (r[j]?):=At);have OG:=BA!;have ne:¬Ei!:=V0! OG.1 ⟨(k,v),ZP h,z.symm⟩;rw[Uk ne,Rw OG.2 h];rfl
theorem Jbr:∀{kvs:Ae!} {k:κ} {v:V},ZK!->∃j:Nat,N7! (kvs[j]?)
 | [],k,v,h=>JS!
 | p::r,k,v,h=>by by_cases e:Ei!;(.rw[Lk e] at h;exact A! 0 (by rw[<-e,<-ZO h];rfl));.rw[Ll e] at h;obtain⟨j,hj⟩:=Jbr h;exact A! (j+1) (by simpa using hj)
universe E
universe S
variable {X:Cx Kx}{AA:List (Addr×Obj)}{σ:L2.St}{H:Hp}{s:Shared}{A:Around}{E:Value->Shared->Prop}{a b:Addr}
theorem Zn{kvs:AF!}{xs:CX!}(p:Gk!):AM! xs.map kvs.map:=ni! xo r.1.symm
theorem Jne{kvs:AF!}{k:Cv!}{v:V}{Q:M?}(hu:IZ!)(I:K!)(e:aJ!)(eb:RZ!)(l:ZK!)(h:cE! (RN! a .dT Wk! s') (BL! v w')):Z5! "dict.pop" [Aj!,CK!]:=by
 obtain⟨z,hd,xs,rel,dd⟩:=O8! Ov;have hz:EE!:=MY! NA!
 obtain⟨j,hj⟩:=Jbr l;have hjx:UZ!:=Dp! NA! hj
 obtain⟨x,hx⟩:=Ao hjx;obtain⟨r1,r2,r3⟩:=Av rel j _ _ hj hx;obtain⟨k',p⟩:=x;have r1:k=k':=r1;subst r1;have nd:k? kvs.map:=by obtain⟨_,_,_,_,_,_,_,_,nd⟩:=id dd;rw[<-Zn rel];exact nd
 have oX:k? ml!:=by rw[<-Q7,Zn rel];exact nd.sublist (List.eraseIdx_sublist _ _)
 refine CU KJ dd.typeIs PySem.F.entry_dict_pop (Jf3 aE! cv! dd hz hx λh' o es ep a1 a2 a3 a4 a5=>m? (v! h ?_ r3)) (PySem.F.args_dict_pop_2 _ _);rw[Rw nd hj];refine p0! a5 (CO! a1) ⟨?_,hd,xs.eraseIdx j,KT.keeps (Vt j rel) λc ys ec=>?_,o,es,ep,a1,a2,a3,a4,oX⟩;.exact A_ (by rw[List.length_eraseIdx];split<;>lia) z
 .rw[Ac (Qs ec e (λz=>WO!))];exact ec
def Jlu(td ty:TE):TE:=Zq! (∃a,Ap!/\qE H1 a/\S4! (∃kvs k v b,re H2 a .dT kvs/\XE!/\G3! H2 vg!/\ZK!/\Q v (HK! a .dT Wk!)))
theorem F6(hu:GZ!)(ho:Ia!)(he:ka!)(m:M1 X o "pop" apos e HU):Ts! "pop" [e] (Jlu td ty):=by intro AA s σ H Q I h;refine tO! KJ PySem.F.type_dict_pop;rintro u s1 ⟨x,H1,I1,rx,a,ex,d,q1⟩;subst ex;obtain rfl:DE!:=rx;obtain⟨t1,t2,_⟩:=Wu I1 d;refine ph!;rw[m.trees];refine sP! (λiv s2 ⟨y,H2,I2,ry,kvs,k,v,b,ea,ey,eb,l,q2⟩=>LM ?_);subst ey;obtain rfl:iv=Value.ref b:=ry;exact Jne hu I2 ea eb l (Wy! ⟨v,_,I3,RC,q2⟩)
universe E
def Jn(l:NY!)(a:Addr)(h:D!):NY!:=l.map λq=>rV!
theorem Qb(l:NY!)(a:Addr)(h:D!):(Jn l a h).map Gz!=l.map Gz!:=by
 unfold Jn;rw[AK];refine Kl!;show(rV!).2.1=K?;by_cases e:K?=a;.rw[jp];exact e.symm
 .rw[SC]
theorem Jfb(l:NY!)(a:Addr)(h:D!):(Jn l a h).map (IF!)=l.map IF!:=by
 unfold Jn;rw[AK];refine Kl!;show(tk (rV!).1,WP (rV!).2.1)=_;by_cases e:K?=a;.rw[jp,<-e]
 .rw[SC]
theorem Jg3(m:q∈Jn l a h):(∃q0∈l,q0.2.1=a/\q=(q0.1,a,h))\/(q∈l/\K?≠a):=by
 unfold Jn at m;obtain⟨q0,h0,e⟩:=En!;by_cases e1:q0.2.1=a;.rw[AE e1] at e;exact H! ⟨q0,h0,e1,e.symm⟩
 .rw[AB e1] at e;rw[<-e];exact No h0 e1
universe S
theorem AU.cY(x:Q?)(hq:q∈G.holds)(l:D!):vq! K? l (vB! Jn K? l):=by
 obtain⟨_,_,_,d1⟩:=x.cy;obtain⟨n1,n2,n3,n4⟩:=A3! d1;have mem:K?∈BN!:=by unfold BL;exact rv! (BD hq)
 have np:=x.SJ mem;obtain⟨dx,e⟩:=x.ob;refine oI! n1.symm n2.symm ?_ (YD! n4.symm) Ht! ?_;.rw[Ac n3.symm];show Ch G.l (.dT ((Jn G.holds K? l).map IF!));rw[Jfb];exact x.dl
 .rcases Jg3 hr with⟨q0,_,e1,e2⟩|⟨h1,h2⟩;(.rw[e2];exact Ab);.rw[Ac h2];exact x.hl r h1
 ·(have e2:BL (vB! Jn K? l)=BL G:=by unfold BL;rw[Qb]);rw[e2];exact x.nd
universe E
def Bu(l:D!)(t:T2):D!:=if FM! then l else l++[t]
def Hz(l:D!)(t:T2):D!:=l.filter (JO! (u≠t))
theorem Jef(l:D!)(t:T2):eK! (q=t)=VA! FM! t:=by
 by_cases h:FM!;.rw[Ar!];cases e:C2! l.find? (q=t) with | none=>exact EW! (BI.mp e t h) D? | some u =>have:=D_ e;(have:u=t:=by simpa using this);rw[this]
 .rw[BV!];exact BI.mpr (BG! (by have:¬u=t:=λz=>h (z▸hu);simpa using this))
theorem Gy(l:D!)(t:T2):n5! B9!=if FM! then Cr! V.bl true else none:=by
 rw[Eb (k:=dj!) (f:=MT!),Jef];by_cases h:FM!;.rw[Ar!,Ar!];rfl
 .rw[BV!,BV!];rfl
theorem Ff(l:D!)(t:T2):putK (Bq! B9!) (tk t) (V.bl true)=(Bu l t).map B9!:=by
 unfold Bu;by_cases h:FM!;.rw[Ar!];unfold putK;rw[Lm,Gy,Ar!,AE (LJ! ((some (V.bl true)).isSome=true)),AK];refine Kl!;show(if tk q=tk t then(tk q,V.bl true) else(tk q,V.bl true))=_;by_cases e:tk q=tk t;(.rw[jp]);.rw[SC]
 .rw[BV!,Ij (k:=dj!) (f:=MT!) _ (Ov! (h (HI! hq))),ZF];rfl
theorem Ga(l:N!)(k:BY!)(f:F2!)(t:T2):Xu! (Dr (l.map K2!) (tk t)) l.filter XU! K2!:=by
 unfold Dr;rw[JG];congr 1;refine EH λq _=>?_;show DM! (p? (tk (k q)≠tk t)) XU!;by_cases e:k q=t;.rw[e];simp
 .have e2:¬tk (k q)=tk t:=Po! yI;simp[e,e2]
def Be(l:Y!)(t:T2)(v:Int):Y!:=TD BX! (l.map λq=>Sq!) (l++[(t,v)])
theorem E4(l:Y!)(t:T2)(v:Int):putK (Bq! Eq!) (tk t) (V.int v)=MQ! Eq!:=by
 unfold Be;by_cases h:BX!;.rw[Ar!];unfold putK;(have e1:((l.map Eq!).any λkv=>p? (kv.1=tk t))=true:=by obtain⟨q,hq,e⟩:=B0!;exact K'.mpr ⟨wA!,BD hq,Wm!⟩);rw[e1,SL,AK,AK];refine Kl!;show(if LO!=tk t then(LO!,X? v) else wA!)=(tk (Sq!).1,X? (Sq!).2);by_cases e:h?;(.rw[jp,AE (O7!)]);.rw[SC,AB (Po! yI)]
 .rw[BV!,Ij (k:=An!) (f:=Dt!) _ (Ov! (Zj! V1!)),ZF];rfl
universe S
inductive Na(xs:C!)(H:Hp)(Q:VK):Prop
 | mk (l:Addr) (as:J!) (ts ss:D!) (_:xs=[i! l]) (_:aU!) (_:B7!) (_:ts.length<64) (_:ss.Perm ts) (_:ss.Pairwise HZ) (_:∀(r:Addr)(LO:J!),RU!->AZ H LO ss->Is r (iT! r LO.map))
theorem N6(hc:Av!):au! Na:=by
 intro AA s σ H xs us Q I rv h;obtain⟨l,as,ts,ss,rfl,hl,th,cN,pm,pw,q⟩:=h;obtain⟨u,rfl,rx⟩:=vals1 rv;cases rx;obtain⟨z,its,n,vl,gl⟩:=va! l JD! (JI! l hl);have ei:=Ka vl;subst ei;have wC:=NB!;have nd:ts.Nodup:=pm.nodup_iff.mp (List.Pairwise.imp (λ{a b} (h:HZ a b) (z:a=b)=>o7!) pw);have vG:Dy! ts.map (λt=>vM! PX!):=List.Pairwise.map _ (λa b h z=>h (by obtain⟨a1,a2⟩:=a;obtain⟨c1,c2⟩:=b;simp at z;rw[z.1,z.2])) nd;have t0:JP s.heap as (ts.map Qz!):=Dt (Ef! wC) λj a ns e1 e2=>by rw[ZH] at e2;cases ht:ts[j]? with | none=>rw[ht] at e2;cases e2 | some t =>rw[ht] at e2;cases e2;obtain⟨its,rv,it,_⟩:=Sy! (Av th j a t e1 ht);exact⟨D?,its.toArray,it,Gs! (ou! PX! rv)⟩
 refine tD! (by unfold Builtin.«sorted»;refine tR! (collect_list (qE! gl) ?_ lg!);have kp:Vn! (AI! ((s.heap.push (seqObj AH! #[] 0)).update s.heap.objs.size (Obj.mapSeq (·++(as.map Value.ref).toArray))).get?):=λb o e =>im! (ER (AO e)) aF!;generalize (s.heap.push (seqObj AH! #[] 0)).update s.heap.objs.size (Obj.mapSeq (·++(as.map Value.ref).toArray))=h1 at kp;have I1:FN! { s with heap:=h1,toks:=s.toks }:=lU!;refine mw! lg!;have g1:U! (h1.push (seqObj "list" (as.map Value.ref).toArray 0)).get? h1.objs.size (SY! 0):=CN!;have t1:JP wZ! as (ts.map Qz!):=t0.keep λb o e _=>ZT _ (Dq! kp);refine tH! g1 (Q8 g1 E! t1 vG λp pp po h2 c og e=>Rb!);have hn:h8!:=SX!;have inr:∀i∈p,Ui!:=λi hi=>BB.mp (pp.mem_iff.mp hi);(have eR:p.map (Cz! ts.getD (0,0))=ss:=by refine Ih (lt:=HZ) (λa z=>by rw[Dx] at z;lia) (λa b h1 h2=>by rw[Dx] at h1 h2;lia) ?_ ?_ pw;(·(have e2:(List.range as.length).map (Cz! ts.getD (0,0))=ts:=by refine cf!;rw[ZH];by_cases hj:j<ts.length;(.rw[show(List.range as.length)[j]?=some j by simp[wC,hj]];simp[hj]);.rw[show(List.range as.length)[j]?=none by simp[wC];exact NP!,CY (Lk! GQ.mp)];rfl);have e7:=pp.map (Cz! ts.getD (0,0));rw[e2] at e7;exact e7.trans pm.symm);.rw[DK];refine List.Pairwise.imp_of_mem (λ{i j} hi hj z=>?_) po;have li:=TR!;have lj:=inr j hj;simpa [HZ,FK! (i<ts.length),FK! (j<ts.length)] using z);(have eV:(p.map a4!)=(p.map Hg!).map Value.ref:=by rw[AK];refine BP λi hi=>?_;have:=TR!;simp[this]);(have QK:AZ H l2! ss:=by rw[<-eR];refine Dt (XB! ZA) λj a t e1 e2=>?_;rw[ZH] at e1 e2;cases hp:p[j]? with | none=>rw[hp] at e1;cases e1 | some i =>rw[hp] at e1 e2;cases e1;cases e2;have li:=inr i (ZP hp);exact Av th i (as.getD i 0) (ts.getD i (0,0)) (by simp[li]) (Qt! (i<ts.length)));refine pq! (wL! I1.laid h1.objs.size (.BF ((p.map Hg!).map V.ref)) (λb o hb=>og b o (BK (AO hb)) (ZT _ hb)) ⟨?_,(p.map Hg!).map Value.ref,c,Kg _,?_⟩) (q _ l2! hn QK);(.rw[ZA,ZA,pp.length_eq,CF,DI];lia);.rw[<-eV];exact e)
universe E
noncomputable def jy (H:Hp) (tb:T2):Value->Bool
 | .ref a=>@decide (ds! a tb) hw!
 | _=>false
theorem Jhc(h:Za!):DM! (jy H tb SB) De!:=by
 show @decide (ds! a tb) hw!=_;by_cases e:De!;.rw[h1!];exact @decide_eq_true _ hw! (I? h e)
 .rw[Hz!];refine @decide_eq_false _ hw! λz=>e ?_;rw[h] at z;have z:tv t=tv tb:=HO.BE.inj (ZO z);unfold tv at z;simp only[List.cons.injEq,V.int.injEq,and_true] at z;exact Prod.ext z.1 z.2
theorem Jkr{as:J!}{ts:D!}(p:B7!):DM! ((as.map Value.ref).any (jy H tb)) (tb∈ts):=by induction p with | nil=>simp | @cons a t _ _ r q ih =>rw[AJ,List.any_cons,Jhc r,ih];by_cases e:De!;(.rw[e];simp);.have:¬tb=t:=d3! e;simp[e,this]
universe S
theorem Jke(hu:UX!)(I:K!)(ha:Za!)(hb:KB):SeqAt.EqAt A s SB Fm! (jy H tb SB):=by
 intro prog w E Q q;obtain⟨its,rv,it,_⟩:=Sy! ha;obtain⟨sU,RC,jt,_⟩:=Sy! hb;have i1:PA! its PX!:=ou! PX! rv;have i2:PA! sU ov!:=ou! ov! RC;refine wpAny_eqBool_tuple hu (O7 it (by simpa using i1)) (O7 jt (by simpa using i2)) ?_;rw[Jhc ha] at q;have e:DM! (U9! (vM! PX!) ov!) De!:=by by_cases e:De!;(.rw[e];simp);.have:¬vM! PX!=ov!:=λz=>e (by simp at z;exact Prod.ext z.1 z.2);rw[Hz!,BR! this]
 rw[e];exact q
inductive Jqx(neg:Bool)(x:V)(y:V)(H:Hp)(Q:VK):Prop
 | mk (b l:Addr) (tb:T2) (as:J!) (ts:D!) (_:x=CK!) (_:y=i! l) (_:KB) (_:aU!) (_:B7!) (_:KW! (if neg then Lv! (tb∈ts) else p? (tb∈ts)))
theorem Jdg(hu:KT!)(I:K!)(hb:KB)(hl:aU!)(th:B7!) : s.heap.IsList l x2!/\∀y,y∈x2!->SeqAt.EqAt X.A.in1 s y Fm! (jy H tb y):=by
 obtain⟨z,its,n,vl,gl⟩:=va! l JD! (JI! l hl);have ei:=Ka vl;subst ei;refine A! (qE! gl) Jn!;have hy:y∈nP!:=by simpa using hy
 obtain⟨a,ha,rfl⟩:=ZN hy;obtain⟨j,hj⟩:=CV.mp ha;obtain⟨t,ht⟩:=bS! ts th;exact Jke (Iz! GZ!) I (Av th j a t hj ht) hb
theorem Jb(hu:KT!):fX! .NotIn Jqx true:=by intro AA s σ H x y v u Q I rx ry h;obtain⟨b,l,tb,as,ts,rfl,rfl,hb,hl,th,q⟩:=h;cases rx;cases ry;obtain⟨a1,a2⟩:=Jdg hu I hb hl th;refine SeqAt.notIn_listAt (jy H tb) a1 a2 (AA! (.bl _) H I ?_);rw[Os! ((as.map Value.ref).toArray.any (jy H tb)=(as.map Value.ref).any (jy H tb)),Jkr th];exact q
universe E
universe S
variable {prog:Program}{w:World}{A:Around}{R:Result->Shared->Prop}{s:Shared}{l:Addr}{items:Array Value}{n:Nat}{x:Value}
universe E
universe S
universe E
universe S
universe E
universe S
universe E
theorem Joj:Az! LK! Ow!:=ZV
def Fd(c:Int)(d:Addr):By!:=As Ow! (V! d) (As LK! (GM c) [])
theorem Yx(c:Int)(d:Addr):Fd c d=([(LK!,X? c),(Ow!,WP d)]:By!):=by grind [As,V,Joj,Fd]
theorem Fx(c:Int)(d:Addr):U! (Fd c d).lookup (LK!:Str) (GM c):=by unfold Fd;rw[Bf,AB Joj,Bf,SL]
theorem Fk(c:Int)(d:Addr):U! (Fd c d).lookup (Ow!:Str) (V! d):=by unfold Fd;rw[Bf,SL]
theorem Dq(c:Int)(d:Addr){m:Str}(h1:¬m=Ow!)(h2:¬m=LK!):Mu! (Fd c d).lookup:=by unfold Fd;rw[Bf,AB h1,Bf,AB h2];all_goals rfl
theorem Jdr(c y:Int)(d:Addr):As LK! (GM y) (Fd c d)=Fd y d:=by grind [Yx,V,As,Fd]
def kvsOf(ls:j!):Bx!:=ls.map λl=>(Sum.inl l.1,WP l.2)
structure IQ(C:Addr)(H:Hp)(p d:Addr)(c:Int)(ls:j!):Prop where
 ob:g0! (FY! (Fd c d))
 dc:Ec! (U0! ls)
 le:CF! (l.1<=c)
 nd:k? ls.map
theorem IQ.keep(x:dX! C)(h1:∀o,JV! o->A5! p o)(h2:∀o,Ec! o->A5! d o):IQ C H' p d c ls :=⟨V8! (h1 _ e),h2 _ x.dc,x.le,x.nd⟩
theorem IQ.ne(x:dX! C):p≠d:=by obtain⟨dx,e⟩:=x.ob;exact pS! e x.dc
theorem Mj(ls:j!):IN kvsOf ls=ls.length:=ZA ..
theorem Mi:pj! Cf kvsOf ls=(ls.find? λl=>p? Hs!).map λl=>WP l.2:=by
 unfold Cf kvsOf;rw[OP,Option.map_map];congr 1;congr 1;funext l;show DM! (p? (PR! l.1=Sum.inl n)) Hs!;by_cases e:Hs!;.rw[e];simp
 .rw[Hz!,BR! (Po! Sum.inl.inj)]
theorem Jm0(h:CF! (l.1≠n)):pj! Cf kvsOf ls=none:=XR! (kE! (Gs! (h l hl)))
theorem Zz{l1 l2:j!}{n:Int}{t:Addr}(nd:KA! Sk!):Db ((Sk!).find? (λl=>p? Hs!)) n t:=by
 rw[ZF,AJ] at nd;have h:∀l∈l1,¬Hs!:=λl hl e=>q4! (Zu! l.1 (BD hl) n (AJ!)) (this e)
 rw[List.find?_append];have e1:l1.find? (λl=>p? Hs!)=none:=kE! (Gs! (h l hl))
 rw[e1];simp
theorem Z3(nd:KA! Sk!):pj! Dr kvsOf (Sk!)=kvsOf (G2!):=by
 rw[ZF,AJ] at nd;have h1:∀l∈l1,¬Hs!:=λl hl e=>Zu! l.1 (BD hl) n (AJ!) e;have h2:∀l∈l2,¬Hs!:=λl hl e=>(AV.mp (hy! nd)).1 (by have m:=BD (f:=λx:Int×Addr=>x.1) hl;rw[e] at m;exact m);have all:∀ls:j!,(CF! (¬Hs!))->Dr (kvsOf ls) kC!=kvsOf ls:=λls h=>by refine Ry Md!;unfold kvsOf at m;rw[AK] at m;obtain⟨l,hl,e⟩:=En!;exact h l hl (Sum.inl.inj e)
 unfold kvsOf;rw[ZF,AJ,ZF];unfold Dr;rw[JL,EA];have e0:o? (p? (((Sum.inl (n,t).1,WP (n,t).2):Key×V).1≠Y9!)):=D?
 rw[e0];have a1:=all l1 h1;have a2:=all l2 h2;unfold Dr kvsOf at a1 a2;rw[a1,a2];rfl
theorem Wm(h:CF! (l.1≠n)):qp! ls kC! t (ls++[(n,t)]):=by rw[Hk _ (Jm0 h)];unfold kvsOf;rw[ZF];rfl
structure EF where
 share:Int
 hs:Addr
 po:Addr
 iq:Addr
 fi:Addr
 en:Addr
 pd:Addr
 c:Int
 ls:j!
 qs:a!
 MB:j!
 GW:j!
 FA:j!
theorem Jj:Az! EJ! Cq!:=ZV
theorem Lg:Az! BH! Cq!:=ZV
theorem Kv:Az! BH! EJ!:=ZV
theorem Oa:Az! Df! Cq!:=ZV
theorem Lh:Az! Df! EJ!:=ZV
theorem Pt:Az! Df! BH!:=ZV
theorem Kw:iG! Cq!:=ZV
theorem Jk:iG! EJ!:=ZV
theorem Li:iG! BH!:=ZV
theorem Ob:iG! Df!:=ZV
theorem Oc:YT! Cq!:=ZV
theorem Lj:YT! EJ!:=ZV
theorem Pu:YT! BH!:=ZV
theorem Ss:YT! Df!:=ZV
theorem Od:YT! LL!:=ZV
def Fc(W:EF):By!:=[(Cq!,g! W.share),Ha! EJ! W.hs,Ha! BH! W.po,Ha! Df! W.iq,Ha! LL! W.fi,Ha! Oy! W.en]
theorem Ji(W:EF):U! (Fc W).lookup (Cq!:Str) (GM W.share):=by unfold Fc;rw[Ht]
theorem Ds(W:EF):Z6! EJ! W.hs:=by unfold Fc;rw[Bs Jj,Ht]
theorem Es(W:EF):Z6! BH! W.po:=by unfold Fc;rw[Bs Lg,Bs Kv,Ht]
theorem Ps(W:EF):Z6! Df! W.iq:=by unfold Fc;rw[Bs Oa,Bs Lh,Bs Pt,Ht]
theorem Jeu(W:EF):Z6! LL! W.fi:=by unfold Fc;rw[Bs Kw,Bs Jk,Bs Li,Bs Ob,Ht]
theorem Jev(W:EF):Z6! Oy! W.en:=by unfold Fc;rw[Bs Oc,Bs Lj,Bs Pu,Bs Ss,Bs Od,Ht]
theorem Ct(W:EF)(h:o? (([Cq!,EJ!,BH!,Df!,LL!,Oy!]:P?).contains m)):Mu! (Fc W).lookup:=by simp only[OQ,Bool.or_eq_false_iff,EE] at h;obtain⟨h1,h2,h3,h4,h5,h6,_⟩:=h;unfold Fc;rw[Bs h1,Bs h2,Bs h3,Bs h4,Bs h5,Bs h6];rfl
theorem Jln(W:EF):As Oy! (V! W.en) (As LL! (V! W.fi) (dq! Df! W.iq BH! (V! W.po) (dq! EJ! W.hs Cq! (GM W.share) [])))=Fc W:=by unfold Fc;rw[Ew];rw[Ce! Jj,Ew];rw[Ce! Lg,Ce! Kv,Ew];rw[Ce! Oa,Ce! Lh,Ce! Pt,Ew];rw[Ce! Kw,Ce! Jk,Ce! Li,Ce! Ob,Ew];rw[Ce! Oc,Ce! Lj,Ce! Pu,Ce! Ss,Ce! Od,Ew]
def Bw:a!->J!
 | []=>[]
 | q::l=>qW!++Bw l
theorem Hv:∀(l m:a!),Bw (l++m)=Bw l++Bw m
 | [],m=>rfl
 | q::l,m=>by show qW!++Bw (l++m)=(qW!++Bw l)++Bw m;rw[Hv l m,AN]
theorem DF:∀{l:a!},b∈Bw l↔∃q∈l,b=q.1\/b∈BL q.2
 | []=>A! (λh=>by simp[Bw] at h) (λ⟨q,h,_⟩=>DZ!)
 | q::l=>by show b∈qW!++Bw l↔_;rw[SA,CK,DF];constructor;(.rintro(h|⟨r,hr,h⟩);(.exact⟨q,AJ!,h⟩);.exact⟨r,ZD _ hr,h⟩);.rintro⟨r,hr,h⟩;rcases ZM hr with rfl|hr;(.exact H?);.exact L! (L5! h)
def Cb(p:Addr)(W:EF):J!:=[p,W.hs,W.po,W.pd,W.iq,W.fi,W.en]
def Bv(p:Addr)(W:EF):J!:=Pc!++Bw W.qs
structure AR(CW CH CP:Addr)(H:Hp)(p:Addr)(W:EF):Prop where
 ob:g0! (CE! CW dx (Fc W))
 hs:Ch W.hs (.BF (W.qs.map W0!))
 ho:∀q∈W.qs,AU CH H q.1 q.2
 po:IQ CP H W.po W.pd W.c W.ls
 iq:Ch W.iq (U0! W.MB)
 fi:Ch W.fi (U0! W.GW)
 en:Ch W.en (U0! W.FA)
 nd:(Bv p W).Nodup
def HD(p:Addr)(W:EF)(H H':Hp):Prop:=S1! Eh!
universe S
variable {CW CH CP p:Addr}{H H':Hp}{W:EF}
theorem AR.keep(x:Cj!)(k:aH! gZ!):dl! CH H' W:=by have t:∀{b},W8!->gZ!:=λh=>EY!;refine⟨V8! (v! k xA! e),jE! x.hs,UV ((x.ho q hq).keep (Ax! (v! k (ny! (LV! hb)) e))),x.po.keep (λo e=>v! k xA! e) (λo e=>v! k xA! e),jE! x.iq,jE! x.fi,jE! x.en,x.nd⟩
theorem AR.same(x:Cj!)(s:r?):dl! CH H' W:=x.keep λb o _ e=>HX! s
theorem AR.some_at(x:Cj!)(hb:gZ!):∃o,Dj!/\(∀xs,o≠.BE xs)/\∀ob u,o≠.HK ob u:=by
 rcases ZI hb with hb|hb;.simp only[Cb,CK,EJ,OO] at hb;rcases hb with rfl|rfl|rfl|rfl|rfl|rfl|rfl;(.obtain⟨dx,e⟩:=x.ob;exact lQ!);(.exact WN! x.hs);(.obtain⟨dx,e⟩:=x.po.ob;exact lQ!);(.exact WN! x.po.dc);(.exact WN! x.iq);(.exact WN! x.fi);.exact WN! x.en
 .obtain⟨q,hq,hb⟩:=DF.mp hb;rcases hb with rfl|hb;(.obtain⟨dx,e⟩:=(x.ho q hq).ob;exact lQ!);.obtain⟨kvs,e⟩:=(x.ho q hq).OI hb;exact lQ!
theorem AR.fg(x:Cj!)(e:bL!):Eh!:=λm=>by obtain⟨o,e',h,_⟩:=jZ!;rw[e] at e';cases e';exact h _ rfl
theorem AR.QC(x:Cj!)(e:x?):Eh!:=λm=>by obtain⟨o,e',_⟩:=jZ!;rw[e] at e';cases e'
theorem HD.DY(x:Cj!)(f:Dv!):wS :=W4! (f a _ e (x.fg e)) (λa ob u e=>f a _ e λm=>by obtain⟨o,e',_,h⟩:=jZ!;rw[e] at e';cases e';exact G! h rfl)
theorem Jmq{A X X' B:J!}(h:GA! (A++(X++B)))(hx:X'.Nodup)(k:∀b∈X',b∈X\/(b∉A/\b∉B)):GA! (A++(X'++B)):=by
 obtain⟨a1,a2,a3⟩:=AL.mp h;obtain⟨b1,b2,b3⟩:=AL.mp a2;refine AL.mpr ⟨a1,AL.mpr ⟨hx,b2,λy hy z hz e=>?_⟩,λy hy z hz e=>?_⟩;.rcases k y hy with h|h;(.exact b3 y h z hz e);.exact h.2 (e▸hz)
 .rcases A8! with hz|hz;(.rcases Ag! k with h|h;(.exact a3 y hy z (ZB _ h) e);.exact h.1 (e▸hy));.exact a3 y hy z (ZC _ hz) e
theorem AR.step(x:Cj!){i:Nat}{q:Addr}{G G':BM}(hi:RW!)(S:AU CH H' q G')(f:aT q G H H')(nw:OH!) : Ww! H' (LM! OZ!) Dv!:=by
 obtain⟨JS,_⟩:=ZJ hi;have e1:W.qs=W.qs.take i++FO!::W.qs.drop (U?):=by have:=E_ i W.qs;rw[<-this];congr 1;(.rw[E_]);.rw[E_];exact(List.drop_eq_getElem?_toList_append (l:=W.qs) (i:=i)).trans (KM hi)
 have e2:OZ!=W.qs.take i++Fb!::W.qs.drop (U?):=I? List.set_eq_take_append_cons_drop (AE JS)
 generalize W.qs.take i=l1 at e1 e2;generalize W.qs.drop (U?)=l2 at e1 e2;have hm:FO!∈W.qs:=ZP hi;have nd:=x.nd;unfold Bv at nd;rw[e1,Hv] at nd;have eA:Pc!++(Bw l1++Bw (FO!::l2))=(Pc!++Bw l1)++((q::BN!)++Bw l2):=gb!
 rw[eA] at nd;obtain⟨a1,a2,a3⟩:=AL.mp nd;obtain⟨b1,b2,b3⟩:=AL.mp a2;have apart:∀b,(W8!\/b∈Bw l1\/b∈Bw l2)->b≠q/\Lw!:=j? (by (have no:b∉q::BN!:=λm=>by rcases hb with hb|hb|hb;(.exact a3 b (ZB _ hb) b Yu! rfl);(.exact a3 b (ZC _ hb) b Yu! rfl);.exact b3 b m b hb rfl);exact A! (λz=>no (Pf! AJ!)) (in! no))
 have kp:aH! (W8!\/b∈Bw l1\/b∈Bw l2):=Ax! (f b o e (VL! apart) (apart b hb).2);have t:∀{b},W8!->b∈Pc!\/b∈Bw l1\/b∈Bw l2:=λh=>H?;have hsm:W.qs.map (W0!)=(W.qs.set i Fb!).map W0!:=by rw[e2,e1,ZF,ZF];rfl
 refine A! ⟨V8! (Td! e),?_,Ht!,x.po.keep (λo e=>Td! e) (λo e=>Td! e),Td! x.iq,Td! x.fi,Td! x.en,?_⟩ (FJ! ?_);.have:=v! kp (t (b:=W.hs) (rX!)) x.hs;rw[hsm] at this;exact this
 .have hr:r∈OZ!:=hr;rw[e2] at hr;(have oth:r∈l1\/r∈l2->AU CH H' r.1 r.2:=λh=>by (have hW:r∈W.qs:=gV! (h.elim (λz=>Os z) λz=>u8! z));exact(x.ho r hW).keep (Px! kp (h.elim (λz=>AN! (DF.mpr ⟨r,z,hb⟩)) λz=>cr (DF.mpr ⟨r,z,hb⟩))));rcases Em! with hr|hr;(.exact oth (B? hr));.rcases ZM hr with rfl|hr;(.exact S);.exact oth (N? hr)
 .show(Pc!++Bw (W.qs.set i Fb!)).Nodup;rw[e2,Hv];(have eB:Pc!++(Bw l1++Bw (Fb!::l2))=(Pc!++Bw l1)++((q::BL G')++Bw l2):=gb!);rw[eB];refine Jmq nd (AV.mpr (A! (λm=>S.SJ m rfl) S.nd)) JQ!;rcases Eo! with rfl|hb;(.exact B? (AJ!));.rcases B4! nw with h|h;(.exact H! (AL! h));.have no:=x.QC h;unfold Bv at no;rw[e1,Hv] at no;refine No (λm=>no ?_) (λm=>no ?_);(.rcases ZI m with m|m;(.exact Os m);.exact ZC _ Yu!);.exact ZC _ (ZC _ (ZC (q::BN!) m))
 .have I_:b∉Bw W.qs:=λm=>hb (ZC _ m);exact f b o e (λz=>I_ (DF.mpr (WF hm (H! z)))) λz=>I_ (DF.mpr (WF hm JW!))
theorem AR.iL(x:Cj!):(W.po≠W.pd/\W.po≠p/\W.po≠W.hs/\W.po≠W.iq/\W.po≠W.fi/\W.po≠W.en)/\(W.pd≠p/\W.pd≠W.hs/\W.pd≠W.iq/\W.pd≠W.fi/\W.pd≠W.en)/\(W.iq≠p/\W.iq≠W.hs/\W.iq≠W.fi/\W.iq≠W.en)/\(W.fi≠p/\W.fi≠W.hs/\W.fi≠W.en)/\(W.en≠p/\W.en≠W.hs):=by have nd:=YB! x.nd;simp only[Cb,AV,CK,EJ,OO,not_or,CS,and_true,not_false_eq_true] at nd;obtain⟨⟨a1,a2,a3,a4,a5,a6⟩,⟨b1,b2,b3,b4,b5⟩,⟨c1,c2,c3,c4⟩,⟨d1,d2,d3⟩,⟨e1,e2⟩,f1⟩:=nd;exact⟨⟨c1,F7! a2,F7! b1,c2,c3,c4⟩,⟨F7! a3,F7! b2,d1,d2,d3⟩,TI! (F7! a4) (F7! b3),⟨F7! a5,F7! b4,f1⟩,A! (F7! a6) (F7! b5)⟩
theorem AR.IS(x:Cj!)(hb:W8!)(hq:q∈W.qs):b≠q.1/\b∉BL q.2:=by have h:=B4! (AL.mp x.nd).2.2;exact A! (λz=>h _ (DF.mpr (LV! Fv!)) z) (λz=>h _ (DF.mpr (LV! JW!)) rfl)
theorem AR.JO(x:Cj!)(S:IQ CP H' W.po W.pd c ls)(f:MB! (b≠W.po) (b≠W.pd) Fx!) : Ww! H' { W with c:=c,ls:=ls } Dv!:=by
 obtain⟨⟨a1,a2,a3,a4,a5,a6⟩,⟨b1,b2,b3,b4,b5⟩,_⟩:=x.iL;refine rH! (cz! e a2 b1) (cz! x.hs a3 b2) (f b o e ?_ ?_) S (cz! x.iq a4 b3) (cz! x.fi a5 b4) (cz! x.en a6 b5) (f b o e ?_ ?_);.rintro rfl;have h:=cj! W.po;exact cY!
 .rintro rfl;have h:=cj! W.pd;exact cY!
 .rintro rfl;exact az!
 .rintro rfl;exact az!
theorem AR.zB(x:Cj!):Ww! (QI! W.iq) { W with MB:=l } (I3! (QI! W.iq)):=by
 obtain⟨⟨a1,a2,a3,a4,a5,a6⟩,⟨b1,b2,b3,b4,b5⟩,⟨c1,c2,c3,c4⟩,_⟩:=x.iL;have f:i2! (b≠W.iq) (QI! W.iq):=λb o e h=>nZ!
 refine rH! (v! f e (Ne.symm c1)) (Sb! x.hs c2) TM! (x.po.keep (Qq! a4) (Qq! b3)) Ab (Sb! x.fi c3) (Sb! x.en c4) TM!;.rintro rfl;have h:=cj! W.iq;exact cY!
 .rintro rfl;exact az!
universe E
def kP(W:EF)(h:Int):Prop:=h<0\/RH!<=h
def LD(W:EF)(h:Int)(q:Addr)(G:BM):Prop:=0<=h/\FM (W.qs[h.toNat]?)
theorem LD.at(i:BQ!)(x:Cj!):AU CH H q G:=x.ho FO! (ZP i.2)
theorem LD.lt(i:BQ!):0<=h/\h<W.qs.length:=by obtain⟨z,_⟩:=ZJ i.2;have:=i.1;exact A! i.1 B!
theorem LD.YG(i:BQ!):L2.YG (W.qs.map W0!) h=some (V.ref q):=pR! i.1 i.2
theorem lookup_mem:∀{l:JU!},U! l.lookup y k->(y,k)∈l
 | [],h=>DZ!
 | (a,b)::l,h=>by rw[QX] at h;by_cases e:y=a;(·(have q1:Ix (y==a):=MU! (beq_self_eq_true a));rw[q1] at h;have h:b=k:=ZO h;rw[e,h];exact AJ!);.have q1:bv (y==a):=EE.mpr e;rw[q1] at h;exact ZD _ (lookup_mem h)
theorem W8{l:JU!}{cl:CW!}{y:Str}(hc:∀p∈l,p.2=Gp!\/p.2=Jg!->WP! p.1)(h:Kx! l.lookup l.lookup):OU!:=by
 rcases h with h|h;.exact hc _ (lookup_mem h) (B? rfl)
 .exact hc _ (lookup_mem h) (N? rfl)
theorem Jq9{a b c:Str}{cl:CW!}{y:Str}(h:Kx! ([P5!,P6!,(c,NameKind.globalImplicit)]:JU!).lookup ([P5!,P6!,(c,NameKind.globalImplicit)]:JU!).lookup):OU! :=ql! (by simp only[CK,EJ,OO] at hp;rcases hp with rfl|rfl|rfl<;>rcases hk with hk|hk<;>cases hk)
theorem Jra{a b c d e f:Str}{k1 k2 k3 k4:NameKind}{cl:CW!}{y:Str}(hc:lR!)(hd:WP! d)(he:WP! e)(hf:WP! f)(h:Kx! ([P5!,P6!,(c,k1),(d,k2),(e,k3),(f,k4)]:JU!).lookup ([P5!,P6!,(c,k1),(d,k2),(e,k3),(f,k4)]:JU!).lookup):OU! :=ql! (by simp only[CK,EJ,OO] at hp;rcases hp with rfl|rfl|rfl|rfl|rfl|rfl;(.rcases hk with hk|hk<;>cases hk);(.rcases hk with hk|hk<;>cases hk);(.exact hc);(.exact hd);(.exact he);.exact hf)
inductive aZ(K:W.Frag)(H:Hp):X7! V
 | BE {a:Addr} {xs:C!} {ds:Jx!}:GW!->Ro! Rep xs ds->aZ K H SB (Oq! ds)
universe S
theorem aZ.reads{X:F!}(I:K!)(r:aZ Kx H v d)(e:A9!):sd! s.heap:=by cases r with | BE h p =>cases e;obtain⟨its,rv,⟨o,ho,hc,n,hd⟩,_⟩:=I.tuple h;obtain⟨as,ra⟩:=Ju rv (Paired.length p) λj x d e1 e2 u ru=>(Av p j x d e1 e2).reads I ru;exact A! as (Oq! ho hc hd (by simpa using ra))
universe E
structure Lies(H:Hp)(L:J!):Prop where
 nd:L.Nodup
 all:∀b∈L,∃o,Dj!
theorem Lies.keep(x:Lies H L)(k:rA!):Lies H' L:=A! x.nd (j? (let⟨o,e⟩:=B4! x.all;HX! k))
theorem Lies.new(x:Lies H L)(h:x?)(h':∃o,Fx!)(k:rA!):Lies H' (b::L) :=A! (AV.mpr (A! (λm=>(by obtain⟨o,e⟩:=x.all b m;rw[h] at e;cases e)) x.nd)) (λc hc=>by rcases ZM hc with rfl|hc;(.exact h');.obtain⟨o,e⟩:=x.all c hc;exact k c o e)
universe S
universe E
theorem Lies.add(x:Lies H L)(nd:X.Nodup)(h:∀b∈X,x?)(h':∀b∈X,∃o,Fx!)(k:rA!):Lies H' (X++L) :=A! (AL.mpr ⟨nd,x.nd,λb hb c hc e=>by obtain⟨o,z⟩:=x.all c hc;rw[<-e,B4! h] at z;cases z⟩) (λc hc=>by rcases ZI hc with hc|hc;(.exact h' c hc);.obtain⟨o,e⟩:=x.all c hc;exact k c o e)
theorem Lies.perm(x:Lies H L)(p:L.Perm L'):Lies H L':=A! (p.nodup_iff.mp x.nd) (j? (x.all b (p.mem_iff.mpr hb)))
def Kp(p:Addr)(H H':Hp):Prop:=S1! FL!
theorem Kp.trans(a:Kp p H H1)(b:Kp p H1 H2):Kp p H H2:=λc o e h=>b c o (a c o e h) h
theorem nU:Kp p H (Lm! o):=λb o' e h=>nZ!
theorem Kp.ex(k:Kp p H H')(hp:∃o,A5! p o):rA!:=Aw! (by by_cases z:b=p;(.rw[z];exact hp);.exact CO! (Br! k z))
theorem Joa(h:¬x=y):o? (GJ! V.str x V.str y):=BR! (FZ! h V.str.inj)
theorem cx(k:tb D σ H)(hv:RB! (some (AR! wd)):=by rfl)(ne:¬wd=c:=by decide +kernel):tj! (B7 i):=⟨_,hv,rfl,_,rfl,I! (Joa ne) (Cu k)⟩
theorem ny(k:ta D σ H)(hv:RB! (some (AR! c)):=by rfl):tj! (B7 i):=⟨_,hv,rfl,_,rfl,I! (EZ! rfl) (Cy k)⟩
theorem AR.YY(x:Cj!)(e:eV! b)(h:b≠W.hs):Eh!:=λhb=>by rcases ZI hb with hb|hb;(.simp only[Cb,CK,EJ,OO] at hb;rcases hb with rfl|rfl|rfl|rfl|rfl|rfl|rfl;(.obtain⟨dx,e'⟩:=x.ob;rw[e] at e';cases e');(.exact h rfl);(.obtain⟨dx,e'⟩:=x.po.ob;rw[e] at e';cases e');(.have e':=x.po.dc;rw[e] at e';cases e');(.have e':=x.iq;rw[e] at e';cases e');(.have e':=x.fi;rw[e] at e';cases e');.have e':=x.en;rw[e] at e';cases e');.obtain⟨q,hq,hb⟩:=DF.mp hb;have ne:=(x.ho q hq).YZ e;exact hb.elim ne.1 ne.2
def Joo(G:BM):Bx!:=[(L! dk!,g! G.BJ),kG! Bh! G.h,kG! BF! G.l,kG! BE! G.o,kG! Bi! G.r,(L! Cp!,g! G.AQ),(L! BD!,g! G.AX)]
inductive LstAt(H:Hp)(b:Addr)(ts:D!):Prop
 | mk (as:J!) (_:Ch b JD!) (_:B7!)
theorem AZ.keep(k:wS)(x:B7!):Tf!:=Ar (λ_ _ e=>O3! e) x
structure i6(H:Hp)(p:Addr)(G:BM):Prop where
 ob:JV! (.dK (Joo G))
 dh:LstAt H G.h G.hand
 dO:fC! G.o G.AF
 dl:Vv! G.l G.holds
 dr:fC! G.r G.AI
 hl:Or! (LstAt H K? u?)
 nd:GA! (p::BN!)
universe S
variable {p:Addr}{H H':Hp}{G:BM}
theorem F9{α β:Type}{f:α->β}:l1! (Qc! f) (∀{a b:α},a∈l->b∈l->f a=f b->a=b)
 | [],_,_,_,ha,_,_=>Bg! ha
 | x::l,nd,a,b,ha,hb,e=>by have nd:=BA!;rcases ZM ha with ha|ha<;>rcases Eo! with hb|hb;(.rw[ha,hb]);(.exact I8! AG.mpr ⟨b,hb,XV! ha⟩ nd.1);(.exact I8! AG.mpr ⟨a,ha,XA! hb⟩ nd.1);.exact F9 nd.2 ha hb e
universe E
abbrev HL:=NY!
def MC(l:HL):List (T2×D!):=l.map Ci!
def JB(l:HL)(t:T2)(h:D!):HL:=l.map λq=>c9!
def CD(l:HL)(t:T2):D!:=((l.find? (sK h?)).map Dg!).getD []
theorem Rj(l:HL)(t:T2):Xu! (ij! (MC l).find?) l.find? h? Ci!:=sk! OP
theorem Zy(l:HL)(t:T2):C3! l=(((MC l).find? (sK h?)).map pu).getD []:=by unfold CD;rw[Rj,Option.map_map];rfl
theorem Yb(l:HL)(t:T2)(h:D!):MC (JB l t h)=(MC l).map λq=>if h? then(q.1,h) else q:=by
 unfold MC JB;rw[AK,AK];refine Kl!;show((c9!).1,(c9!).2.2)=if h? then(q.1,h) else(q.1,u?);by_cases e:h?;.rw[jp,jp]
 .rw[SC,SC]
theorem Jfd(l:HL)(t:T2)(h:D!):(JB l t h).map Gz!=l.map Gz!:=by
 unfold JB;rw[AK];refine Kl!;show(c9!).2.1=K?;by_cases e:h?;.rw[jp]
 .rw[SC]
theorem Jfc(l:HL)(t:T2)(h:D!):AM! (JB l t h).map l.map:=by
 unfold JB;rw[AK];refine Kl!;show(c9!).1=q.1;by_cases e:h?;.rw[jp]
 .rw[SC]
theorem Me(m:q∈JB l t h):(h?/\u?=h)\/q∈l:=by
 obtain⟨q0,h0,e⟩:=En!;by_cases c:q0.1=t;.rw[v?] at e;subst e;exact CL! c rfl
 .rw[EQ] at e;subst e;exact L! h0
theorem Po(h:BX!):∃a,Kc!=some (t,a,C3! l):=by cases e:mr! with | none =>obtain⟨q,hq,e2⟩:=B0!;have:=qf!;exact EW! e2 (by simpa using this) | some q =>(have h1:h?:=dY! (D_ e));refine L? K?;(have:C3! l=u?:=LN! e);rw[this,<-h1]
theorem Tc(ka:Qc! Gz!)(kt:Yd!)(f:RC! Kc! t)(h:D!):Jn l a h=JB l t h:=by
 have m:=AY f;unfold Jn JB;refine BP CV!;by_cases e:h?;.have:=F9 kt hq m e;rw[this,SL,SL]
 .have:¬K?=a:=λz=>e (ww (F9 ka hq m z));rw[AB this,SC]
structure FC(M G:BM):Prop where
 BJ:M.BJ=G.BJ
 AQ:M.AQ=G.AQ
 AX:M.AX=G.AX
 hand:M.hand=G.hand
 AF:so!
 AI:M.AI=G.AI
 holds:MC M.holds=MC G.holds
theorem FC.CD(x:wn)(t:T2):FX.CD M.holds t=FX.CD G.holds t:=UF Zy Zy x.holds
structure Ok(G:BM)(n:Nat):Prop where
 hn:G.hand.Nodup
 hz:G.hand.length<=n
 on:k? G.AF.map
 oz:G.AF.length<=n
 ke:nq!
 rn:k? G.AI.map
 rz:G.AI.length<=n
 ln:Or! (q.2.2.Nodup/\q.2.2.length<=n)
 new:GC! (WA!/\t.2<G.AQ)
 hk:LT! mZ!
 lk:xV! mZ!
 rk:JE! G.AI.map XZ!
theorem Ok.mono(x:z?)(h:n<=m):Ok G m :=⟨x.hn,A_ x.hz h,x.on,A_ x.oz h,x.ke,x.rn,A_ x.rz h,UV (A! (x.ln q hq).1 (A_ (x.ln q hq).2 h)),x.new,x.hk,x.lk,x.rk⟩
def HY(G:BM):BM:={ G with AX:=Bo! }
def aN(G:BM)(a:Addr):BM:={ G with AQ:=Do!,hand:=Vj!,AF:=Nr!,holds:=IV! }
theorem CZ:u∈Bu l t↔u∈l\/u=t:=by
 unfold Bu;by_cases h:FM!;.rw[Ar!];exact A! B? (λz=>z.elim id λz=>Pf! h)
 .rw[BV!];simp
theorem HG:u∈Hz l t↔u∈l/\u≠t:=by unfold Hz;rw[AD];simp
theorem Qt(t:T2)(h:l.Nodup):(Bu l t).Nodup:=by
 unfold Bu;by_cases e:FM!;.rw[jp];exact h
 .rw[SC];exact Gh h e
theorem Km(l:D!)(t:T2):(Bu l t).length<=hA!:=by
 unfold Bu;by_cases e:FM!;.rw[jp];exact EX _
 .rw[SC];simp
universe S
theorem Ok.HY(x:z?):Ok (HY G) n:=⟨x.hn,x.hz,x.on,x.oz,x.ke,x.rn,x.rz,x.ln,x.new,x.hk,x.lk,x.rk⟩
theorem Ok.hand(x:z?)(h1:l.Nodup)(h2:l.length<=n)(h3:∀t∈l,mZ!):Ok { G with hand:=l } n:=⟨h1,h2,x.on,x.oz,x.ke,x.rn,x.rz,x.ln,x.new,h3,x.lk,x.rk⟩
theorem Ok.holds(x:z?)(h1:l.Nodup)(h2:l.length<=n)(h3:∀t∈l,mZ!):Ok (vB! JB t l) n:=by
 refine⟨x.hn,x.hz,x.on,x.oz,(Jfc ..).trans x.ke,x.rn,x.rz,CV!,x.new,x.hk,CV!,x.rk⟩;.rcases Me hq with⟨_,e⟩|hq;(.rw[e];exact aP!);.exact A3! x.ln
 .rcases Me hq with⟨_,e⟩|hq;(.rw[e];exact h3);.exact A3! x.lk
theorem Ok.aN(x:z?)(a:Addr):OY! Vg!:=by
 have nw:Ak!∉Iy!:=λm=>q4! (x.new _ m).2 (EW! this (xL (¬G.AQ<G.AQ)))
 have eo:b? Yb!=Iy!++[(G.BJ,G.AQ)]:=Qi!
 refine⟨?_,?_,?_,?_,?_,x.rn,by have:=x.rz;show G.AI.length<=n+1;exact GN G8!,CV!,?_,?_,?_,x.rk⟩;.exact Gh x.hn λm=>nw (x.hk _ m rfl)
 .show(Vj!).length<=n+1;rw[ZE];have:=x.hz;show G.hand.length+1<=n+1;exact Y4!
 .show KA! vp!;rw[eo];exact Gh x.on nw
 .show(vp!).length<=n+1;rw[ZE];have:=x.oz;show G.AF.length+1<=n+1;exact Y4!
 .show(G.holds++[(Ak!,a,R8!)]).map (λ(q:T2×Addr×List T2)=>q.1)=Yb! pi;rw[eo,ZF,x.ke];rfl
 .rcases ZI hq with hq|hq;(.exact A! (x.ln q hq).1 (GN (x.ln q hq).2));·(have:oA!:=dg!);rw[this];exact A! CS sw
 .intro t ht;have ht:FB Yb!:=ht;show WA!/\t.2<Do!;rw[eo] at ht;rcases H3! with ht|ht;(.have:=C8! x.new;exact A! this.1 (Co! this.2));·(have:Jo!:=dm!);rw[this];exact s? (by show G.AQ<Do!;exact BS!)
 .intro t ht e;show FB Yb!;rw[eo];rcases H3! with ht|ht;(.exact Os (x.hk t ht e));.exact ZC _ ht
 .intro q hq t ht e;show FB Yb!;rw[eo];rcases ZI hq with hq|hq;(.exact Os (x.lk q hq t ht e));·(have:oA!:=dg!);rw[this] at ht;cases ht
theorem Ok.fresh(x:z?):(LT! (t≠Ak!))/\(∀q∈G.AF,na!)/\Or! na!:=by
 have nw:Ak!∉Iy!:=λm=>q4! (x.new _ m).2 (EW! this (xL (¬G.AQ<G.AQ)))
 refine⟨λt ht e=>hj! nw (x.hk t ht (O7!)),λq hq e=>hj! nw (BD hq),λq hq e=>nw (dn! e x.ke (BD hq))⟩
theorem Ok.RI(x:z?):G.holds.length<=n:=by have:=DP! x.ke;rw[ZA,ZA] at this;rw[this];exact x.oz
theorem Ok.get(x:z?)(t:T2):(CD G.holds t).Nodup/\(CD G.holds t).length<=n/\∀u∈Pn!,u.1=G.BJ->u∈Iy!:=by unfold CD;cases e:C2! G.holds.find? h? with | none=>exact⟨CS,sw,BG! (Bg! hu)⟩ | some q =>have m:=AY e;exact⟨(x.ln q m).1,(x.ln q m).2,x.lk q m⟩
theorem Ok.find(x:z?)(h1:A0!)(h2:WA!):∃a,Yp! h?=some (t,a,Pn!):=Po (I! x.ke (x.hk t h1 h2))
theorem FC.JB(x:wn)(t:T2)(l:D!):FC { M with holds:=JB M.holds t l } (vB! JB t l) :=eN! x.AX x.hand x.AF x.AI (by show MC (FX.JB M.holds t l)=MC (FX.JB G.holds t l);rw[Yb,Yb,x.holds])
theorem FC.mk2(x:wn)(a b:Addr):FC (HY (aN M a)) (HY (aN G b)):=by
 refine⟨x.BJ,?_,?_,?_,?_,x.AI,?_⟩;.show M.AQ+1=Do!;rw[x.AQ]
 .show M.AX+1=Bo!;rw[x.AX]
 .show M.hand++_=G.hand++_;rw[x.hand,x.BJ,x.AQ]
 .show M.AF++_=G.AF++_;rw[x.AF,x.BJ,x.AQ]
 .show MC (M.holds++[((M.BJ,M.AQ),a,[])])=MC (G.holds++[(Ak!,b,[])]);unfold MC;rw[ZF,ZF,show M.holds.map (Ci!)=G.holds.map Ci! from x.holds,x.BJ,x.AQ];rfl
universe E
def Ai(l:Y!)(t:T2):Int:=((l.find? (sK h?)).map pu).getD 0
theorem Fg(l:Y!)(t:T2)(v:Int):b? MQ!=TD BX! fB! (fB!++[t]):=by
 unfold Be;by_cases h:BX!;.rw[Ar!,Ar!,AK];refine Kl!;show(Sq!).1=q.1;by_cases e:h?;(.rw[jp]);.rw[SC]
 .rw[BV!,BV!,ZF];rfl
theorem Ok.qm(x:z?)(hf:Ej!)(v:Int):OY! { G with hand:=Fc!,AI:=lp! }:=by
 have x1:=x.mono (EX n);refine⟨Qt _ x.hn,by have:=Km G.hand tb;have:=x.hz;show(Bu G.hand tb).length<=n+1;lia,x1.on,x1.oz,x1.ke,?_,?_,x1.ln,x1.new,Mi!,x1.lk,?_⟩;.show k? (Be G.AI tb v).map;rw[Fg];by_cases h:hC!;(.rw[Ar!];exact x.rn);.rw[BV!];exact Gh x.rn h
 .have h0:=DP! (Fg G.AI tb v);have:=x.rz;show(Be G.AI tb v).length<=n+1;rw[ZA] at h0;rw[h0];by_cases h:hC!;(.rw[Ar!,ZA];exact GN G8!);.rw[BV!,ZE,ZA];show G.AI.length+1<=n+1;exact Y4!
 .rcases DO! with ht|ht;(.exact x.hk t ht e);.exact BP! (G? ht e) hf
 .show JE! (Be G.AI tb v).map XZ!;rw[Fg];intro t ht;by_cases h:hC!;(.rw[Ar!] at ht;exact C8! x.rk);.rw[BV!] at ht;rcases H3! with ht|ht;(.exact C8! x.rk);·(have:De!:=dm!);rw[this];exact hf
def Dj(p m:Addr)(G M:BM):Prop:=∀b,(b=m\/b∈BL M)->FL!/\Lw!
universe S
theorem Jhn(G:BM)(a:Addr):BL (HY Vg!)=BN!++[a]:=by unfold BL aN HY;simp
universe E
theorem Mr(h:BX!):Db Kc! t H1!:=by cases e:mr! with | none =>obtain⟨q,hq,e2⟩:=B0!;have:=qf!;exact EW! e2 (by simpa using this) | some q =>(have h1:h?:=dY! (D_ e));(have:H1!=q.2:=by unfold Ai;rw[e];rfl);rw[this,<-h1]
theorem Jb8(h:BX!)(v:Int):AM! MQ! l.map:=I? Fg Ar!
theorem Yt(h:BX!)(v:Int):(Be l t v).length=l.length:=kZ! (congrArg List.length (Jb8 h v)) ZA
structure Wk(G:BM):Prop where
 nn:∀q∈G.AI,0<=q.2
 hr:LT! (XZ!->YN!)
universe S
theorem Ok.AF(x:z?)(h:Fr!)(v:Int):Ok (tW! lo!) n:=by
 have e:=Jb8 h v;refine⟨x.hn,x.hz,by show k? (Be G.AF tb v).map;rw[e];exact x.on,by show(Be G.AF tb v).length<=n;rw[Yt h];exact x.oz,Um! (AM! G.holds.map (Be G.AF tb v).map) e x.ke,x.rn,x.rz,x.ln,?_,?_,?_,x.rk⟩;.show JE! (Be G.AF tb v).map _;rw[e];exact x.new
 .show LT! (WA!->FB (Be G.AF tb v).map);rw[e];exact x.hk
 .show xV! (WA!->FB (Be G.AF tb v).map);rw[e];exact x.lk
def IE(M G:BM):Prop:=FC { M with AX:=G.AX } G
universe E
theorem Rv(f:α->Int):∀{l:N!} (x:Int),Qc! f->Eg! l.filter (λe=>f e==x) 1
 | [],_,_=>sw
 | a::l,x,nd=>by have nd:=BA!;rw[EA];by_cases e:f a=x;(.have no:(l.filter λe=>f e==x)=[]:=List.filter_eq_nil_iff.mpr λb hb z=>Fi! nd.1 ⟨b,hb,by rw[e];simpa using z⟩;rw[AE (FI!),no];exact ii);.rw[AB (FI!)];exact Rv f x nd.2
universe S
variable {prog:Program}{w:World}{K:Type}[DecidableEq K]{knd:HeapKind prog w K}{A:Around}{E:Value->Shared->Prop}{s:Shared}
def Tame(knd:HeapKind prog w K):Prop:=∀{A:Around} {E:M?} {s:Shared} {k:K} {a:Addr} {Q:YR!},rB!->(∀b,Q b s)->Ab! (C5! Builtin.Dict.quietEq a)
theorem Jbf{id:String}{d:Addr}{ob:Obj}{es:EB!}{ep:Nat}{xs:Fu!}{Q:CG! EB!}(tm:Tame knd)(g:Fl! d ob)(dat:ob.data=.dict es ep)(ent:oo! xs.map knd)(keys:∀x∈xs,knd.is s.heap x.1 Lt!)(hh:Dy! xs.map (λx=>knd.hash x.1))(q:Q es s):Ab! (Builtin.Dict.entriesForEmpty id d):=by
 have hn:Dy! es.toList.map (λe=>e.hash):=Ai! ent AK hh
 unfold Builtin.Dict.entriesForEmpty;refine ZR (BV g dat Sr!);rw[<-Array.forIn_toList];refine tb! (λrest _ s'=>s'=s/\∀e∈rest,e∈es.toList) (s? (λe he=>he));.rintro e rest b s' ⟨rfl,sub⟩;have me:=sub e (AJ!);rw[ent] at me;obtain⟨x,hx,ex⟩:=ZN me;(have ek:e.key=i! Lt!:=by rw[<-ex];rfl);rw[ek];refine ZR (tm (keys x hx) λbq=>?_);(have small:¬(es.filter λz=>z.hash==e.hash).size > 1:=by have h1:=Rv (λz:DictEntry=>z.hash) e.hash hn;(have h2:(es.filter λz=>z.hash==e.hash).size=IN es.toList.filter (λz=>z.hash==e.hash):=Ou! DE Array.toList_filter);rw[h2];exact GQ.mpr h1);cases bq with | true =>simp only[Bool.not_true,CL,EZ];exact ZS (s? (λe he=>sub e (AL! he))) | false =>simp only[Bool.not_false,JV];rw[AB small];exact ZS (s? (λe he=>sub e (AL! he)))
 .rintro b s' ⟨rfl,_⟩;exact ZS q
theorem Qa{d a:Addr}{xs:Fu!}{k:K}{v:Value}{Q:D9!}(room:ok!)(key:rB!)(m:qZ!)(z:EE!)(q:xY! (ll! (storedH xs k a v)) TE!):Ab! (dictSetHashed d SB (knd.hash k) v):=by
 obtain⟨ob,es,ep,g,ex,dat,ent,keys,nd⟩:=m;have sz:=GZ ent;unfold dictSetHashed;refine DA (ZR (wpAny_dictFind_heap room key g dat ent keys nd (λno=>?_) λj p hj=>?_));.refine iQ! (wpAny_updateDictKeys (hz:=I! sz z) g dat (q _ ⟨_,_,ep+1,T9! g PO HI dat,ex.mapDictKeys _,HI dat _,?_,CU!,?_⟩ Jf!));(.rw[storedH_new (atKey_none_of_get no),ZF,<-ent];simp[entryOfKey]);(.rw[storedH_new (atKey_none_of_get no)] at hx;rcases ZI hx with hx|hx;(.exact knd.keeps (keys x hx) g dat Jf!);·(have e:x=(k,a,v):=by simpa using hx);rw[e];exact knd.keeps key g dat Jf!);.rw[storedH_new (atKey_none_of_get no),ZF];exact Gh nd (not_mem_keys_of_get no)
 .refine iQ! (ZR (wpAny_updateDict g dat (wpAny_point (q _ ⟨_,_,ep,T9! g PO Obj.data_mapDict dat,ex.mapDict _,Obj.data_mapDict dat _,?_,CU!,?_⟩ Jf!))));(.rw[storedH_old (atKey_of_get nd hj)];have e:=modify_map_putAt (entryOfKey knd) (λe:DictEntry=>{ e with val:=v }) k v Wp! nd hj;rw[<-ent] at e;rw[<-e];simp);(.rw[storedH_old (atKey_of_get nd hj)] at hx;obtain⟨y,hy,e⟩:=ZN hx;(have e1:x.1=y.1/\Lt!=y.2.1:=by rw[<-e];unfold putAt;by_cases c:y.1=k;(.rw[v?];exact C9!);.rw[EQ];exact C9!);rw[e1.1,e1.2];exact knd.keeps (keys y hy) g dat Jf!);.rw[storedH_old (atKey_of_get nd hj),keys_map_putAt];exact nd
def Em(xs more:Fu!):Fu!:=more.foldl (λacc x=>rR! storedH acc) xs
theorem Og(xs more:Fu!){i:Nat}{x:K×P4!}(h:more[i]?=some x):Em xs (more.take (U?))=rR! storedH (Em xs (more.take i)):=by unfold Em;rw[List.take_succ,h,List.foldl_append];rfl
theorem X5(xs:Fu!)(k:K)(a:Addr)(v:Value):(storedH xs k a v).length<=xs.length+1:=by cases e:atKey xs k with | none=>rw[storedH_new e,ZE];exact ii | some p=>rw[storedH_old e,ZA];exact EX _
theorem K8:∀(more xs:Fu!),Cd! Em xs more (xs.length+more.length)
 | [],xs=>ii
 | x::r,xs=>by have h1:Cd! Em (storedH xs x.1 Lt! x.2.2) r _:=K8 r _;have h2:=rR! X5 xs;show Cd! Em (storedH xs x.1 Lt! x.2.2) r (xs.length+(r.length+1));lia
theorem Q5:∀(more xs:Fu!),KA! (xs++more)->Em xs more=xs++more
 | [],xs,_=>D2! AH xs
 | x::r,xs,nd=>by (have e:atKey xs x.1=none:=by cases c:atKey xs x.1 with | none=>rfl | some p =>exfalso;unfold atKey at c;cases f:xs.find? (λy=>U9! y.1 x.1) with | none=>rw[f] at c;cases c | some y =>(have h1:y.1=x.1:=Gs! (D_ f));have h2:=AY f;rw[ZF,AL] at nd;exact nd.2.2 _ (BD h2) _ (BD (AJ!)) h1);show Em (rR! storedH xs) r=xs++x::r;rw[storedH_new e];(have e2:xs++[(x.1,Lt!,x.2.2)]++r=xs++x::r:=gb!);rw[Q5 r _ (YI! e2),e2]
theorem Ja3{id:String}{d o:Addr}{xs more:Fu!}{Q:D9!}(tm:Tame knd)(room:ok!)(ne:d≠o)(lo:bv (o==sysModules))(hd:qZ!)(ho:s.heap.DictOfH knd o more)(z:Be! (xs.length+more.length))(hh:xs=[]->Dy! more.map (λx=>knd.hash x.1))(q:xY! (ll! (Em xs more)) TE!):Ab! (Builtin.Dict.mergeDict id d o):=by
 obtain⟨od,esd,epd,gd,exd,bg,zW,JEO,sL⟩:=_root_.id hd;obtain⟨oo,RU,epo,go,exo,XA,fO,cU,sJ⟩:=_root_.id ho;have so:=GZ fO;unfold Builtin.Dict.mergeDict Builtin.Dict.showsAll;rw[AB (by simpa using ne),YS! lo];refine ap! go XA;dsimp only;split;.refine GT! BV gd bg;split;(.rename_i em;(have ex:xs=[]:=by have h1:=GZ zW;rw[LA.mp em] at h1;exact BS.mp h1.symm);subst ex;have em':Em [] more=more:=Q5 more [] sJ;rw[em'] at q;refine ZR (Jbf tm go XA fO cU (hh rfl) ?_);split;(·(have zz:RU.size<=sizeLine+1:=by rw[so];have:Be! (0+more.length):=z;lia);refine ZR (wpAny_updateDictKeysTo gd bg (ZS (q _ ⟨_,_,epd+1,T9! gd PO HI bg,exd.mapDictKeys _,HI bg _,fO,CU!,sJ⟩ Jf!)) zz);exact knd.keeps (cU x hx) gd bg (Heap.SameBut.update ..));.rename_i nz;(have e0:more=[]:=by have:RU.size=0:=LA.mp (by simpa using nz);rw[so] at this;exact BS.mp this);subst e0;exact ZS (q _ hd (Heap.SameBut.refl _ _)));.refine ZR (EC go XA (ZR (BV go XA Sr!)));rw[IM];simp only[Std.Legacy.Range.size,Nat.sub_zero,Nat.add_sub_cancel,Nat.div_one];refine tb! (λrest _ s'=>∃h' j,s'=GE/\rest=List.range' j (RU.size-j)/\j<=RU.size/\ll! (Em xs (more.take j))/\TE!) ⟨s.heap,0,rfl,D?,sw,hd,Heap.SameBut.refl _ _⟩;(.rintro i rest b s' ⟨h',j,rfl,hr,hj,aH,sb⟩;(have lt:Us!:=by by_cases c:Us!;(.exact c);.rw[VM (GQ.mp c)] at hr;cases hr);(have er:i=j/\rest=List.range' (j+1) (RU.size-(j+1)):=by rw[rI!,K_] at hr;exact List.cons.inj hr);obtain⟨rfl,er⟩:=er;have go':PI! o oo:=pi! sb.2 go;obtain⟨x,hx⟩:=Zl! more;refine oE! BV GE go';rw[entry_at fO i,hx];have kx:=knd.keeps (cU x (ZP hx)) gd bg sb;(have zl:Be! (Em xs (more.take i)).length:=by have h1:=K8 (more.take i) xs;(have h2:YQ! more.take<=more.length:=gn!);lia);refine L1! (Qa (s:=GE) room kx aH zl λh2 hd2 oK=>?_);have go2:hk! o oo:=pi! oK.2 go';refine oE! EC nC! go2;rw[Ca!];exact ZS ⟨h2,U?,rfl,er,lt,I! (Og xs more hx) hd2,sb.trans oK⟩);.rintro b s' ⟨h',j,rfl,hr,hj,aH,sb⟩;(have ej:j=RU.size:=by by_cases c:Us!;(.rw[rI!,K_] at hr;cases hr);.lia);rw[ej,so,BQ] at aH;exact ZS (q h' aH sb)
 .refine ZR (EC go XA (ZR (BV go XA Sr!)));rw[IM];simp only[Std.Legacy.Range.size,Nat.sub_zero,Nat.add_sub_cancel,Nat.div_one];refine tb! (λrest _ s'=>∃h' j,s'=GE/\rest=List.range' j (RU.size-j)/\j<=RU.size/\ll! (Em xs (more.take j))/\TE!) ⟨s.heap,0,rfl,D?,sw,hd,Heap.SameBut.refl _ _⟩;(.rintro i rest b s' ⟨h',j,rfl,hr,hj,aH,sb⟩;(have lt:Us!:=by by_cases c:Us!;(.exact c);.rw[VM (GQ.mp c)] at hr;cases hr);(have er:i=j/\rest=List.range' (j+1) (RU.size-(j+1)):=by rw[rI!,K_] at hr;exact List.cons.inj hr);obtain⟨rfl,er⟩:=er;have go':PI! o oo:=pi! sb.2 go;obtain⟨x,hx⟩:=Zl! more;refine oE! BV GE go';rw[entry_at fO i,hx];have kx:=knd.keeps (cU x (ZP hx)) gd bg sb;(have zl:Be! (Em xs (more.take i)).length:=by have h1:=K8 (more.take i) xs;(have h2:YQ! more.take<=more.length:=gn!);lia);refine L1! (Qa (s:=GE) room kx aH zl λh2 hd2 oK=>?_);have go2:hk! o oo:=pi! oK.2 go';refine oE! EC nC! go2;rw[Ca!];exact ZS ⟨h2,U?,rfl,er,lt,I! (Og xs more hx) hd2,sb.trans oK⟩);.rintro b s' ⟨h',j,rfl,hr,hj,aH,sb⟩;(have ej:j=RU.size:=by by_cases c:Us!;(.rw[rI!,K_] at hr;cases hr);.lia);rw[ej,so,BQ] at aH;exact ZS (q h' aH sb)
universe E
theorem Jah{prog:Program}{w:World}{K:Type}[DecidableEq K](knd:KeyKind prog w K):Tame (tupleKind knd):=λhk q=>by unfold Builtin.Dict.quietEq;exact ZR (wpAny_specialOf (IsTupleKey.typeIs hk) F.slot_tuple_eq.lookup (ZS (q _)))
def Mp(w:World)(k:Cv!):Int:=reduceHash (Builtin.Tuple.tupleHashOf (k.map (Jou w)))
def Fw(kvs more:AF!):AF!:=more.foldl (λacc kv=>putK acc kv.1 kv.2) kvs
theorem Jg9{more:AF!}{ms:CX!}(p:KT H more ms):∀{kvs:AF!} {xs:CX!},Gk!->KT H oM! (Em xs ms):=by induction p with | nil=>exact id | @cons p q _ _ h t ih =>intro kvs xs r;have e:q.1=p.1:=h.1.symm;have r1:=KT.put r p.1 h.2.1 h.2.2;show KT H (Fw (putK kvs p.1 p.2) _) (Em (storedH xs q.1 K? u?) _);rw[e];exact ih r1
theorem Jj6{kvs:AF!}{xs:CX!}(p:Gk!):(xs.map λx=>(tupleKind (Bh P w)).hash x.1)=kvs.map λq=>Mp w q.1:=ni! xo (KM r.1)
theorem Q4:∀(more kvs:AF!),Cd! Fw kvs more (kvs.length+more.length)
 | [],_=>ii
 | q::r,kvs=>by have h1:Cd! Fw (putK kvs q.1 q.2) r _:=Q4 r _;have h2:=Gi kvs q.1 q.2;show Cd! Fw (putK kvs q.1 q.2) r (kvs.length+(r.length+1));lia
universe S
variable {X:Cx Kx}{AA:List (Addr×Obj)}{σ:L2.St}{H:Hp}{s:Shared}{A:Around}{E:Value->Shared->Prop}
theorem T9{id:String}{d o:Addr}{kvs more:AF!}{Q:CG! PySem.Fin}(hu:UX!)(I:K!)(ed:km!)(eo:Jc! o .dT more)(ne:d≠o)(z:Be! (kvs.length+more.length))(hh:kvs=[]->(more.map λq=>Mp X.w q.1).Nodup)(q:∀s',RN! d .dT oM! s'->Q oC! s'):Ls! (Builtin.Dict.updateFrom id d (V! o) [] F?):=by
 obtain⟨zd,ld,xs,rd,dd⟩:=Ov I.DP ed;obtain⟨zo,lo,ms,ro,dO⟩:=Mw I.DP eo;have l1:=R? rd;have l2:=R? ro;unfold Builtin.Dict.updateFrom;refine No! wpAny_typeOf dO.typeIs;rw[J6!];refine H5!;unfold Builtin.Dict.merge Builtin.Dict.readDirectly;refine xz ZR (OC dO.typeIs isSubtype_dict_dict ?_);simp only[Bool.not_true,CL,EZ];refine ZR (wpAny_specialOf dO.typeIs F.slot_dict_iter.lookup (ZS ?_));simp only[beq_self_eq_true,JV];refine U2! (Ja3 (Jah _) hu ne lo dd dO E! (XD!) λh' iH sb=>?_);.rw[Jj6 ro];refine hh ?_;rw[e] at l1;exact BS.mp l1
 .obtain⟨ob,es,ep,g,h2,h3,h4,_,h5⟩:=iH;(have I':RN! d .dT oM! GE:=by refine Mz (t':=s.toks) I (q! ed True.intro) sb (A! ob g) ⟨?_,ld,_,(Jg9 ro rd).keeps λc ys ec=>?_,ob,es,ep,g,h2,h3,h4,h5⟩;(.have:=Q4 more kvs;exact py!);.rw[Ac (Qs ec ed (λz=>WO!))];exact ec);show k5! (Builtin.Dict.addKeywords d []);exact U2! (ZS (q _ I'))
universe E
universe S
variable {X:Cx Kx}
inductive Jog(w:World)(x:V)(vs:C!)(H:Hp)(Q:VK):Prop
 | mk (d o:Addr) (kvs more:AF!) (_:x=EX!) (_:vs=[i! o]) (_:km!) (_:Jc! o .dT more) (_:d≠o) (_:Be! (kvs.length+more.length)) (_:(kvs=[]->(more.map λq=>Mp w q.1).Nodup)) (_:Q .FG (Bl! d .dT oM!))
theorem Jju(hu:GZ!):nK X "dict.update" (Jog X.w):=by intro AA s σ H x vs v us Q I rx rv h;obtain⟨d,o,kvs,more,rfl,rfl,ed,eo,ne,z,hh,q⟩:=h;cases rx;obtain⟨u,rfl,ru⟩:=rv.one;cases ru;obtain⟨_,_,xs,rd,dd⟩:=Ov I.DP ed;refine CU PySem.F.slot_dict_update dd.typeIs PySem.F.entry_dict_update ?_ (PySem.F.args_dict_update_2 _ _);unfold Builtin.«dict.update» Builtin.Dict.selfAndRest;refine lI! GO dd.typeIs;exact T9 (id:="dict.update") (HF! (X.A.in1.units<cLine) (FE (knd:=Bh X.prog X.w) hu)) I ed eo ne z hh λs' I'=>⟨_,rfl,.FG,_,I',rfl,q⟩
inductive Jaa(w:World)(xs:C!)(H:Hp)(Q:VK):Prop
 | mk (o:Addr) (more:AF!) (_:xs=[i! o]) (_:Iv! o .dT more) (_:(more.map λq=>Mp w q.1).Nodup) (_:OI! (Bl! p .dT (Fw [] more)))
theorem Jbi(hu:KT!):Fu X (BB! Da!) (Jaa X.w):=by
 intro AA s σ H xs us Q I r h;obtain⟨o,more,rfl,eo,hh,q⟩:=h;obtain⟨u,rfl,rx⟩:=KO!;cases rx;refine callType_codes (Q₁:=λobj EM=>obj=ho!/\EM=Gv! (wu! s.heap.push Da! .dict (#[]))) F.kt_called_dict (F.kt_typeCall_dict_1 _) F.entry_dict_init (kt_code_dict_new _ C9!) ?_;rintro obj EM ⟨rfl,rfl⟩;have hn:RV!:=Ni!;have I1:=wL! I.laid s.heap.objs.size (.dT []) (λ_ _ z=>ZT _ z) (Z2 s.heap I.big);have e1:re (Bl! s.heap.objs.size .dT []) s.heap.objs.size .dT []:=Ab;obtain⟨_,_,xs,rd,dd⟩:=Ov I1.DP e1;refine PP dd.typeIs (F.args_dict_init_2 _ _);unfold Builtin.«dict.__init__» Builtin.Dict.selfAndRest;refine lI! GO dd.typeIs;have ne:s.heap.objs.size≠o:=λz=>by rw[<-z,hn] at eo;cases eo
 have eo1:re (Bl! s.heap.objs.size .dT []) o .dT more:=o! ne.symm eo
 obtain⟨zo,_⟩:=Ov I.DP eo;have ot:X.A.in1.in1.units<cLine:=by (have h1:X.A.in1.in1.units=h9!:=by first|rfl|simp[units_in1]);lia
 exact T9 (id:="dict.__init__") ot I1 e1 (c? eo1) ne (Fk! B_) (λ_=>hh) λs' I'=>⟨rfl,ho!,_,by rw[Uz] at I';exact I',rfl,q _ hn⟩
universe E
def hN(a b:Nat):Int:=reduceHash (Builtin.Tuple.tupleHashOf [mY! a,mY! b])
theorem Il{as:N!}{bs:BU!}(p:px!){a:α}{b:β}(r:R a b):Paired R (as++[a]) (bs++[b]):=nq p (Gd! r)
theorem Oq{α:Type}(b:Rx!){ts:N!}{i:Nat}{t:α}(h:l5!):(ts.take (U?)).filter b=W7! b++LZ! (b t=true) [t] []:=by rw[List.take_succ,h,JL];cases e:b t<;>simp[e]
theorem Jc(b:Rx!)(ts:N!)(i:Nat):IN W7! b<=ts.length:=MI!
inductive JQ(p:Addr)(b:T2->Bool)(ts:D!)(H:Hp)(i:Nat)(ys:C!)(H2:Hp):Prop
 | mk (bs:J!) (_:ys=IB!) (_:L2!) (_:Vc!) (_:qe! W7!)
universe S
variable {p:Addr}{b:T2->Bool}{ts:List T2}{H:Hp}{tt:TT}{caps:List (Str×Nat)}{σ:L2.St}{Q:Hp->Prop}
theorem JQ.start(hp:Va!):JQ p b ts H 0 [] (wx! p):=⟨[],rfl,Ah hp,Ab,S!⟩
theorem xQ(hp:Va!)(hz:hE!)(ht:tB! (t∈ts)){i:Nat}{ys:C!}{H2:Hp}{a:Addr}{t:T2}{N:JB!}(pv:n8! i H2)(hi:l5!)(ha:Cu! H2 (G4! t))(n:∀ys H',n8! FS H'->N ys H') : tt (Uu! He!) H2 λc H4=>W1! (sn! He! c8!) ab!:=by
 obtain⟨bs,ey,sm,GY,th⟩:=pv;have e1:=Oq b hi;have ln:ys.length<=ts.length:=by rw[ey,ZA,NB!];exact Jc b ts i
 refine ht H2 a t _ sm ha (ZP hi) ?_;cases c:b t with | false =>rw[c] at e1;rw[J6!];exact n ys H2 ⟨bs,ey,sm,GY,by rw[e1];simpa using th⟩ | true =>rw[c,SL] at e1;rw[SL];(have s2:ap (upd H2 p (.BF (ys++[PN!]))):=λd o e=>eJ! hp (sm d o e));(have kt:BY H2 (upd H2 p (.BF (ys++[PN!]))):=pc GY);refine KL! GY PQ! (G! n ⟨bs++[a],Qx! ey,s2,Ab,?_⟩);rw[e1];exact Il (AZ.keep kt th) (d! kt.BE ha)
theorem Kq{K:W.Frag}{l:Addr}{as:J!}(hp:Va!)(hz:hE!)(hl:aU!)(th:B7!)(ht:tB! (t∈ts))(k:∀(H2:Hp) (bs:J!),L2!->an! p->qe! ts.filter->Q H2) : OR! (MR! (K8! (dF K l).stop (Q H2) (dF K l).go (dF K l).aM (Of! (sn! (w? x) vu!)))):=by
 have lt:=NB!;refine Ia (K:=K) (a:=l) (p:=p) (xs:=Ep!) (caps:=caps) (λi ys H2=>n8! i H2) (JQ.start hp) (λi ys H2 _ pv=>?_) (λi x ys H2 N hx pv n=>?_) λys H2 pv=>?_;.obtain⟨bs,_,sm,GY,_⟩:=pv;exact gT! sm hl GY
 .rw[ZH] at hx;cases ea:ME! with | none=>rw[ea] at hx;cases hx | some a =>rw[ea] at hx;have hx:hD!:=ZO hx;subst hx;obtain⟨t,et⟩:=qv!;have ha:=sM! et;obtain⟨bs,e0,sm,GY,QK⟩:=id pv;exact xQ hp hz ht pv et (d! sm ha) n
 .obtain⟨bs,ey,sm,GY,QK⟩:=pv;rw[ZA,lt,BQ] at QK;exact k H2 bs sm (G? ey GY) QK
theorem N5{α:Type}{d:Addr}{l:N!}{key:BY!}{val:F2!}{ob:Obj}(hp:Va!)(hz:l.length<=900)(hd:Ec! (.HK ob (.dT (l.map qG!))))(ht:tB! (t∈l.map key))(k:∀(H2:Hp) (bs:J!),L2!->an! p->qe! (l.map key).filter->Q H2) : OR! (MR! (K8! (iJ d (Bq! qG!) ob).stop (Q H2) (iJ d (Bq! qG!) ob).go (iJ d (Bq! qG!) ob).aM (Of! (sn! (w? x) vu!)))):=by
 have hz':Eg! l.map key 900:=Ef! hz
 refine PP (λi m ys H2=>m=l.length-i/\i<=l.length/\JQ p b (Bq! key) H i ys H2) ⟨l.length,D?,sw,JQ.start hp⟩;rintro i m ys H2 ⟨rfl,hi,pv⟩;obtain⟨bs,ey,sm,GY,QK⟩:=id pv;have hd2:=G! sm hd;refine L? GY;by_cases JS:t3!;.refine Yj! (A! hd2 (Ef! JS));obtain⟨e,a,kk,v,ex,ek,ha⟩:=y;subst e ex;rw[ZH] at ek;obtain⟨q,hq⟩:=Ao JS;rw[hq] at ek;have ek:(tk (key q),val q)=(kk,v):=ZO ek;have e1:kk=tk (key q):=(Prod.mk.inj ek).1.symm;rw[e1,xq] at ha;exact xQ (N:=λzs H'=>∃m',m'<l.length-i/\(m'=l.length-FS/\U?<=l.length/\JQ p b (Bq! key) H FS zs H')) hp hz' ht pv (QZ! hq) ha dP!
 ·(have e:i=l.length:=B!);subst e;refine X2! (A! hd2 (Ef! ii));(have e2:(l.map key).take l.length=l.map key:=Ou! (ZA (f:=key)) BQ);rw[e2] at QK;exact k H2 bs sm (G? ey GY) QK
universe E
def ME(nx:T2->D!):Nat->D!->Uf D! D!
 | 0,ahead,found,R=>ahead=[]/\R=found
 | n+1,ahead,found,R=>∃a t,ahead=a++[t]/\((t∈found/\ME nx n a found R)\/(t∉found/\ME nx n (a++nx t) (C1!) R))
theorem ME.len:hF! (b1!->ahead.length<=n)
 | 0,_,_,_,h=>I! h.1 ii
 | n+1,_,_,_,⟨a,t,e,h⟩=>by rw[e,ZE];rcases h with⟨_,h⟩|⟨_,h⟩;(.have:=h.len;show hG!<=n+1;exact Y4!);.have:=h.len;rw[ZE] at this;show hG!<=n+1;lia
theorem ME.sub:hF! (b1!->(∀t∈found,AZ!)/\du! AZ!)
 | 0,_,_,_,h=>by rw[h.1,h.2];exact A! (λ_ z=>z) (λ_ z=>Bg! z)
 | n+1,_,_,_,⟨a,t,e,h⟩=>by rw[e];rcases h with⟨ht,h⟩|⟨_,h⟩;(.refine A! h.sub.1 Fq!;rcases GO! with hu|hu;(.exact h.sub.2 u hu);·(have:u=t:=QU!);rw[this];exact C8! h.sub.1);.refine A! (BG! (kU! h.sub.1)) Fq!;rcases GO! with hu|hu;(.exact kU! h.sub.2);.exact h.sub.1 u (ZC _ hu)
theorem ME.closed:hF! (b1!->(∀t∈found,∀u∈nx t,u∈found\/u∈ahead)->∀t∈R,∀u∈nx t,u∈R)
 | 0,_,_,_,h,c=>by rw[h.2];rw[h.1] at c;exact λt ht u hu=>(c t ht u hu).elim id λz=>Bg! z
 | n+1,_,found,_,⟨a,t,e,h⟩,c=>by rw[e] at c;rcases h with⟨ht,h⟩|⟨_,h⟩;(.refine h.closed λs hs u hu=>?_;rcases c s hs u hu with z|z;(.exact H! z);.rcases ZI z with z|z;(.exact JW!);·(have:u=t:=t4!);rw[this];exact X0!);.refine h.closed λs hs u hu=>?_;rcases ZI hs with hs|hs;(.rcases c s hs u hu with z|z;(.exact H! (ZB _ z));.rcases ZI z with z|z;(.exact L! (ZB _ z));.exact H! (ZC _ z));·(have:s=t:=by simpa using hs);rw[this] at hu;exact L! (ZC _ hu)
theorem ME.least{nx:T2->D!}{S:y?}(cl:∀t,S t->∀u∈nx t,S u):hF! (b1!->(∀t∈found,S t)->(du! (S t))->∀t∈R,S t)
 | 0,_,_,_,h,f,_=>I! h.2 f
 | n+1,_,_,_,⟨a,t,e,h⟩,f,g=>by rw[e] at g;have gt:=g t (ZC _ be);rcases h with⟨ht,h⟩|⟨_,h⟩;(.exact h.least cl f (BG! (kU! g)));.refine h.least cl (Fq!) Fq!;(.rcases GO! with hu|hu;(.exact f u hu);·(have:u=t:=QU!);rw[this];exact gt);.rcases GO! with hu|hu;(.exact kU! g);.exact cl t gt u hu
theorem K4:l1! (l≠[]) (∃a t,l=a++[t])
 | [],h=>mn!
 | [x],_=>CT! [] x
 | x::y::l,_=>by obtain⟨a,t,e⟩:=K4 (l:=y::l) be;exact⟨x::a,t,KM e⟩
theorem ME.ex{nx:T2->D!}{keys:D!}{B:Nat}(sub:∀t,∀u∈nx t,u∈keys)(sz:∀t,IN nx t<=B):∀(m:Nat)(ahead found:D!),(du! (t∈keys))->IN keys.filter (EN! (t∉found))*(B+1)+ahead.length<=m->∃n R,n<=m/\b1!
 | m,ahead,found,ha,hm=>by by_cases e:ahead=[];(.exact⟨0,found,sw,e,rfl⟩);obtain⟨a,t,ea⟩:=K4 e;(have l1:ahead.length=hG!:=Db! ea ZE);have wD:∀u∈a,u∈keys:=BG! (P0! ha u ea (Os hu));have ht:t∈keys:=ha t (q! ea ib!);match m,hm with | 0,hm=>exact EW! hm B! | m+1,hm =>by_cases hf:t∈found;(.obtain⟨n,R,h1,h2⟩:=ME.ex sub sz m a found wD E!;exact⟨n+1,R,Lk! GK,a,t,ea,CL! hf h2⟩);·(have lt:bj! hH!<bj! (u∉found):=by (have e1:(keys.filter (JO! hH!))=(keys.filter (JO! (u∉found))).filter (JO! (u≠t)):=by rw[List.filter_filter];refine EH λu _=>?_;by_cases c1:u∈found<;>by_cases c2:u=t<;>simp[c1,c2]);rw[e1];refine List.length_filter_lt_length_iff_exists.mpr ⟨t,F5! ht (by simpa using hf),D?⟩);have l2:=sz t;(have key:bj! hH!*(B+1)+DD! (a++nx t)<=m:=by rw[ZE];have:(bj! hH!+1)*(B+1)<=bj! (u∉found)*(B+1):=FD _ lt;rw[Nat.add_mul,Nat.one_mul] at this;lia);obtain⟨n,R,h1,h2⟩:=ME.ex sub sz m (a++nx t) (C1!) (BG! ((ZI hu).elim (wD u) (sub t u))) key;exact⟨n+1,R,Lk! GK,a,t,ea,No hf h2⟩
def OW(hl:HL)(t:T2):D!:=(CD hl t).filter (JO! Q1!)
def K1(G:BM):D!:=lC! (EN! j8!)
def startT(G:BM):D!:=(G.hand++K1 G).filter (EN! (FB G.holds.map))
def keepR(G:BM)(R:D!):BM:={ G with AF:=Oz! G.AF.filter Bw!,holds:=Oz! G.holds.filter Bw! }
def CJ(G:BM)(t:T2):Bool:=p? A0! || C2! G.holds.any V9!
def FU(G:BM):BM:=dx! (G.AI.filter λq=>Pb!)
universe S
theorem Rr(s:hl.Sublist G.holds):(BL { G with holds:=hl }).Sublist (BL G):=by unfold BL;exact((((s.map _).cons₂ _).cons₂ _).cons₂ _).cons₂ _
theorem AU.ao(x:Q?){hl:HL}(s:hl.Sublist G.holds):Cy! (Bl! G.l Dy hl) { G with holds:=hl }:=g2! G.l (oI! a2 b1 Ab (YD! c1.symm) (gy! (d1 q (s.subset hq)).2.2.1 (x.hl q (s.subset hq))) (x.nd.sublist (Rr s)))
universe E
theorem Jhm{d:Addr}{kvs:AF!}{ob:Obj}{g:TG}{tb:TS}{D:Ends}{σ:L2.St}{H:Hp}(Pv:Nat->M9!)(h0:ZH!)(hf:XO! t5! (Ec! (NX! .dT kvs)))(hs:∀i a k v σ H,N7! Uf!->Fd! vg!->u3!->cn! SB)(hd:cD! kvs.length) : by! M9! (Wo! (UR! (iJ d kvs ob).stop (iJ d kvs ob).go M9! (iJ d kvs ob).aM)):=by
 refine cb! (kvs.length-i) t5! kvs.length;rintro i m σ H ⟨rfl,hi,pv⟩;have fz:=hf i σ H hi pv;by_cases JS:f9!;.refine da! (A! fz JS) (kvs.length-FS);obtain⟨e,a,k,v,ex,ek,ha⟩:=y;subst e ex;exact hs i a k v σ _ ek ha pv
 ·(have e:i=kvs.length:=B!);subst e;exact Yx! (A! fz ii) pv
def Fb(l m:D!):D!:=m.foldl Bu l
theorem Q6:∀{m l:D!} {t:T2},t∈Fb l m↔FM!\/t∈m
 | [],l,t=>by simp[Fb]
 | u::m,l,t=>by show t∈Fb (Bu l u) m↔_;rw[Q6,CZ,CK,or_assoc]
theorem R8:∀(m l:D!),Cd! Fb l m (l.length+m.length)
 | [],l=>ii
 | u::m,l=>by have h1:Cd! Fb (Bu l u) m _:=R8 m (Bu l u);have h2:=Km l u;show Cd! Fb (Bu l u) m (l.length+(m.length+1));lia
theorem R7:∀(m l:D!),GA! (l++m)->Fb l m=l++m
 | [],l,_=>D2! AH l
 | u::m,l,nd=>by (have nu:u∉l:=λz=>by rw[AL] at nd;exact nd.2.2 u z u (AJ!) rfl);(have e2:l++[u]++m=l++u::m:=gb!);show Fb (Bu l u) m=_;(have e3:Bu l u=l++[u]:=by unfold Bu;rw[AB nu]);rw[e3,R7 m _ (YI! e2),e2]
theorem Jw:∀(m l:D!),Fw (l.map B9!) (m.map B9!)=(Fb l m).map B9!
 | [],l=>rfl
 | u::m,l=>Um! (Fw (putK (Bq! B9!) (tk u) (V.bl true)) (m.map B9!)=_) Ff (Jw m (Bu l u))
theorem Oj{α:Type}{l:N!}{k:BY!}{f:F2!}{t:T2}:DM! ((l.find? (sK (k q=t))).map f).isSome (t∈l.map k):=MI!
theorem Nz{H:Hp}{d a:Addr}{α:Type}{l:N!}{k:BY!}{f:F2!}{t:T2}(hd:Rd H d (.dT (l.map K2!)))(ha:Za!):∃o,EL H d SB o/\o.isSome=p? (t∈l.map k) :=WF (L! ⟨_,tk t,a,hd,rfl,ha,rfl⟩) (I! Eb Oj)
theorem Jci(a:N!)(t:α):(a++[t])[DD! (a++[t])-1]?=some t:=Cl! ZE
theorem Xu(th:AZ H as (a++[t])):∃(bs:J!)(c:Addr),as=bs++[c]/\AZ H bs a/\ds! c t:=by
 have hl:=NB!;have ne:as≠[]:=λz=>by rw[z] at hl;simp at hl
 obtain⟨bs,c,e⟩:=K4 ne;subst e;have l2:bs.length=a.length:=by rw[ZE,ZE] at hl;simpa using hl
 refine⟨bs,c,rfl,?_,?_⟩;·(have go:∀{xs:J!} {ys:D!} {x:Addr} {y:T2},f1!->AZ H (xs++[x]) (ys++[y])->AZ H xs ys:=by intro xs;induction xs with | nil=>intro ys x y h _;(cases ys with | nil=>exact S! | cons _ _=>simp at h) | cons x0 xs ih=>intro ys x y h q;cases ys with | nil=>simp at h | cons y0 ys =>cases q with | cons h1 q=>exact C? h1 (ih (At) q));exact go l2 th
 .exact Av th bs.length c t be (Cl! l2)
theorem O8{as:J!}{ts:D!}{bs:J!}{us:D!}(p:B7!)(q:AZ H bs us):AZ H (as++bs) (ts++us):=nq p q
theorem Fs{α:Type}(k:BY!)(l:N!){ts:D!}{i:Nat}{t:T2}(h:l5!):Xv! (Fg! l.filter (k q∉ts.take (U?))) (l.filter λq=>decide (k q∉ts.take i)).filter XU!:=by rw[List.filter_filter,List.take_succ,h];refine EH λq _=>?_;by_cases c1:k q∈ts.take i<;>by_cases c2:k q=t<;>simp[c1,c2]
theorem Dk(k:BY!)(l:N!)(f:T2->Bool):(l.filter λq=>f (k q)).map k=(l.map k).filter f:=KM JG
theorem Gx{α:Type}{l:N!}{k:BY!}{f:F2!}{t:T2}(h:t∈l.map k):∃v,n5! K2!=some v:=by rw[Eb];have:=Oj (l:=l) (k:=k) (f:=f) (t:=t);rw[RL!] at this;exact JE.mp this
def An(G:BM)(ts:D!):BM:={ G with AF:=Oz! G.AF.filter D4!,holds:=Oz! G.holds.filter D4! }
theorem Rx(G:BM):An G []=G:=by
 have a1:Oz! G.AF.filter (q.1∉R8!)=G.AF:=EU.mpr λq _=>D?
 have a2:Oz! G.holds.filter (q.1∉R8!)=G.holds:=EU.mpr λq _=>D?
 unfold An;rw[a1,a2]
theorem FV{α:Type}{k:BY!}{l:N!}(nd:Qc! k){q:α}(hq:q∈l):l.find? (λr=>GJ! k r k q)=some q:=by cases e:l.find? λr=>GJ! k r k q with | none=>have:=qf!;simp at this | some r =>(have h1:k r=k q:=Qn!);rw[F9 nd (AY e) hq h1]
def C0(hand:D!)(qs:HL):D!:=qs.foldl (λl q=>Fb l u?) hand
theorem KG:∀{qs:HL} {hand:D!} {t:T2},t∈C0 hand qs↔t∈hand\/∃q∈qs,V9!
 | [],hand,t=>by simp[C0]
 | q::qs,hand,t=>by show t∈C0 (Fb hand u?) qs↔_;rw[KG,Q6,or_assoc];simp
theorem On:∀{qs:HL} {hand:D!},(dz! (q.2.2.length<=B))->Cd! C0 hand qs (hand.length+qs.length*B)
 | [],hand,_=>by simp[C0]
 | q::qs,hand,h=>by have h1:Cd! C0 (Fb hand u?) qs _:=On (Bj! (h r (AL! hr)));have h2:=R8 u? hand;have h3:=DQ! q;show Cd! C0 (Fb hand u?) qs (hand.length+(qs.length+1)*B);rw[Nat.add_mul,Nat.one_mul];lia
theorem Xa(hand:D!){qs:HL}{i:Nat}{q:T2×vW!}(h:qs[i]?=some q):C0 hand (qs.take (U?))=Fb (C0 hand (qs.take i)) u?:=by unfold C0;rw[List.take_succ,h,List.foldl_append];rfl
theorem Jeb(G:BM)(t:T2):(decide (rW!))=R5!:=by
 unfold CJ;by_cases h:rW!;.rw[RL!];rcases KG.mp h with h|⟨q,hq,h⟩;(.simp[h]);.have:gK! G.holds.any:=K'.mpr ⟨q,hq,At⟩;rw[this];simp
 .rw[X4!];have h1:t∉G.hand:=λz=>h (KG.mpr (c? z));(have h2:o? (Fg! G.holds.any V9!):=by rw[List.any_eq_false];intro q hq z;exact h (KG.mpr (AB! (LV! t4!))));simp[h1,h2]
theorem Xc{α:Type}{b:Rx!}{ts:N!}{i:Nat}{t:α}(h:l5!):(ts.take (U?)).filter b=W7! b++LZ! (b t=true) [t] []:=Oq b h
theorem Nx(b:Rx!)(ts:N!)(i:Nat):IN W7! b<=ts.length:=Jc b ts i
theorem Of:∀{l:N!} {i:Nat} {t:α},l.Nodup->l[i]?=some t->t∉l.take i
 | [],_,_,_,h=>DZ!
 | x::l,0,t,_,_=>D?
 | x::l,i+1,t,nd,h=>by have nd:=BA!;(have h:l[i]?=some t:=At);rw[List.take_succ_cons];intro z;rcases ZM z with z|z;(.exact nd.1 (HI! (ZP h)));.exact Of nd.2 h z
def JC(H:Hp):hx! Y!:=MO! (λa q=>∃c,KF! (bm! c)/\ds! c q.1)
theorem JC.keep(k:wS)(x:JC H as bs):JC H' as bs:=SD! (by obtain⟨c,e1,e2⟩:=h9;exact⟨c,O3! e1,Y3!⟩) x
theorem Jcj{H:Hp}{val:T2->V}:∀{l:D!} {as:J!},tf H (Bq! (λq=>(tk q,val q))) as->AZ H as l
 | [],as,h=>by cases h;exact S!
 | t::l,as,h=>by cases h with | cons h1 h2=>exact C? (G? xq h1) (Jcj h2)
theorem Uh{α:Type}(k:BY!){l:N!}{ks R:D!}(h:∀q∈l,k q∈ks):Xv! (Fg! l.filter (k q∉ks.filter R1!)) l.filter (k q∈R):=EH (UV (by by_cases c:k q∈R;(·(have:k q∉ks.filter R1!:=λz=>by have:=Jb! z;simp[c] at this);simp[c]);.have:k q∈ks.filter R1!:=F5! (A3! h) O6!;simp[c,A3! h]))
theorem Xf{G:BM}{R:D!}(ke:nq!):An G (lC! R1!)=bJ!:=by
 have h1:=Uh (An!) (l:=G.AF) (ks:=Iy!) (R:=R) (UV (BD hq));have h2:=Uh (FX!) (l:=G.holds) (ks:=Iy!) (R:=R) (UV (G? ke (BD hq)))
 unfold An keepR;rw[h1,h2]
theorem Jr1(ts:D!)(h:b∈BL bn):MW!:=by have:(BL bn).Sublist (BL G):=Rr (G:=tW! (An G ts).AF) FO;exact this.subset h
structure xT(C p m:Addr)(H:Hp)(G M:BM)(n:Nat):Prop where
 hs:Q?
 md:i6 H m M
 lk:Gl!
 ok:z?
 wk:Wk G
 dj:Dj p m G M
universe S
theorem Jfz(h:hM!)(v:Int):Be l t v=l++[(t,v)]:=by unfold Be;rw[BV!]
theorem Eu(h:hM!):H1!=0:=by unfold Ai;rw[cp! (¬h?) h];rfl
theorem fk:∀{l m:D!},l.Nodup->(∀x∈l,x∈m)->l.length<=m.length
 | [],_,_,_=>sw
 | x::l,m,nd,h=>by have nd:=BA!;have hx:=DQ! x;have ih:l.length<=IN m.erase x:=fk nd.2 (Cn! ((List.mem_erase_of_ne (λ(z:y=x)=>nd.1 (HI! hy))).mpr (h y (ZD _ hy))));rw[List.length_erase_of_mem hx] at ih;have:0<m.length:=KA hx;show hA!<=m.length;lia
universe E
theorem Jc7(h:(BL G).Nodup):Dy! G.holds.map Gz!:=by unfold BL at h;simp only[AV] at h;exact h.2.2.2.2
universe S
variable {p:Addr}{H H':Hp}{G:BM}
universe E
theorem Zo(l:HL):AM! l.map (MC l).map:=sk! AK
theorem Rk(l:HL)(R:D!):qM! l.filter Bw! (MC l).filter (sK Bw!):=sk! JG
universe S
variable {G M:BM}{n:Nat}{R:List T2}
theorem IE.keys(x:Gl!):AM! M.holds.map G.holds.map:=UF Zo Zo hB!
theorem IE.nx(x:Gl!):OW M.holds=OW G.holds:=by funext t;unfold OW;rw[Cm! (C3! M.holds=Pn!) (FC.CD x t),x.keys]
theorem IE.start(x:Gl!):startT M=startT G:=by unfold startT K1;rw[show M.hand=G.hand from x.hand,show so! from x.AF,x.keys]
theorem IE.keepR(x:Gl!)(R:D!):IE (FX.keepR M R) (FX.keepR G R):=by
 refine eN! rfl x.hand ?_ x.AI ?_;.show M.AF.filter _=G.AF.filter _;rw[show so! from x.AF]
 .show qM! M.holds.filter Bw! MC (Fg! G.holds.filter Bw!);rw[Rk,Rk,hB!]
theorem T5(G:BM)(t:T2):R5!=(p? A0! || C2! (MC G.holds).any (t∈q.2)):=by unfold CJ MC;rw[List.any_map];rfl
theorem IE.CJ(x:Gl!)(t:T2):FX.CJ M t=FX.CJ G t:=by rw[T5,T5,show M.hand=G.hand from x.hand,hB!]
theorem IE.FU(x:Gl!):IE (FX.FU M) (FX.FU G):=by refine eN! rfl x.hand x.AF ?_ x.holds;show M.AI.filter (λq=>FX.CJ M q.1)=G.AI.filter (λq=>FX.CJ G q.1);rw[show M.AI=G.AI from x.AI];exact EH λq _=>x.CJ q.1
theorem Jmr(ok:z?){q:T2×vW!}(hq:q∈G.holds){t:T2}(ht:V9!)(e:FB G.holds.map):t∈OW G.holds q.1:=by
 have nd:iZ!:=I! ok.ke ok.on
 have f:=FV (k:=FX!) nd hq;have:CD G.holds q.1=u?:=LN! f
 unfold OW;rw[this];exact F5! ht FI!
theorem Ok.keepR(ok:z?)(st:∀t∈startT G,AZ!)(cl:∀t∈R,∀u∈OW G.holds t,u∈R):Ok (FX.keepR G R) n:=by
 have mem:∀t,Ao!->AZ!->FB (G.AF.filter (sK Bw!)).map:=λt h1 h2=>I! (qh! AZ!) (F5! h1 Wl!)
 have sub:∀t,FB (G.AF.filter (sK Bw!)).map->Ao!:=λt h=>MD! h;refine⟨ok.hn,ok.hz,ok.on.sublist (List.filter_sublist.map _),Sc! ok.oz,?_,ok.rn,ok.rz,bH! ok.ln,V? (ok.new t (sub t ht)),Mi!,λq hq t ht e=>?_,ok.rk⟩;.show pm! Bw! Bw!;rw[Dk (FX!) G.holds (V6! AZ!),qh! AZ!,ok.ke]
 .have h1:=ok.hk t ht e;refine mem t h1 (st t ?_);unfold startT;exact F5! (Os ht) (by rw[ok.ke];simpa using h1)
 .obtain⟨dk,cJ⟩:=AD.mp hq;have h1:=ok.lk q dk t ht e;exact mem t h1 (cl q.1 (by simpa using cJ) t (Jmr ok dk ht (q! ok.ke h1)))
theorem Ok.FU(ok:z?):Ok (FX.FU G) n :=⟨ok.hn,ok.hz,ok.on,ok.oz,ok.ke,ok.rn.sublist (List.filter_sublist.map _),Sc! ok.rz,ok.ln,ok.new,ok.hk,ok.lk,V? (ok.rk t (MD! ht))⟩
theorem Jdh(G:BM):∀t∈startT G,FB G.holds.map:=V? nb!
theorem Jg0(hl:HL)(t:T2):∀u∈OW hl t,Q1!:=BG! (dY! (Jb! hu))
universe E
universe S
universe E
universe S
universe E
theorem P7(h:n<=100000):n<sizeLine:=VV! FY h
def lx:A?->Bool
 | []=>true
 | [_]=>true
 | x::y::l=>p? (x<y)&&lx (y::l)
theorem Jex:∀{l:A?} {x:Int},lx (x::l)=true->∀y∈l,x<y
 | [],_,_,y,hy=>by simp at hy
 | z::l,x,h,y,hy=>by unfold lx at h;rw[Bool.and_eq_true] at h;have h1:=BW h.1;rcases ZM hy with rfl|hy;(.exact h1);.exact Int.lt_trans h1 (Jex h.2 y hy)
theorem Jew:∀{l:A?},lx l=true->l.Nodup
 | [],_=>CS
 | [x],_=>D?
 | x::y::l,h=>by have h':=h;unfold lx at h';rw[Bool.and_eq_true] at h';exact AV.mpr (A! (λm=>Int.lt_irrefl _ (Jex h x m)) (Jew h'.2))
def jY:List (Nat×Nat):=(List.range 12).flatMap λn=>SK! 60 (λj=>(n,j))
def fZ:A?:=jY.map λp=>hN p.1 p.2
def uD(x:Int):A?->A?
 | []=>[x]
 | y::l=>TD (x<y) (x::y::l) (y::uD x l)
theorem Tz(x:Int):∀l:A?,(uD x l).Perm (x::l)
 | []=>WB!
 | y::l=>by unfold uD;split;(.exact WB!);.exact((Tz x l).cons y).trans (List.Perm.swap x y l)
def uF:A?->A?
 | []=>[]
 | x::l=>uD x (uF l)
theorem Tb:∀l:A?,(uF l).Perm l
 | []=>WB!
 | x::l=>(Tz x (uF l)).trans ((Tb l).cons x)
theorem Jja:lx (uF fZ)=true:=ZV
theorem Jjb:fZ.Nodup:=(Tb fZ).nodup_iff.mp (Jew Jja)
def bN(t:T2):Prop:=0<=t.1/\t.1<12/\0<=t.2/\t.2<60
theorem Jec(ht:bN t)(hu:bN u)(e:Mp w (tk t)=Mp w (tk u)):t=u:=by
 have kC:∀v:T2,0<=v.1->0<=v.2->Mp w (tk v)=hN gk! gl!:=λv h1 h2=>by show reduceHash (Builtin.Tuple.tupleHashOf [hashInt v.1,hashInt v.2])=reduceHash (Builtin.Tuple.tupleHashOf [mY! gk!,mY! gl!]);rw[BH h1,BH h2]
 obtain⟨a0,a1,a2,a3⟩:=ht;obtain⟨b0,b1,b2,b3⟩:=hu;rw[kC t a0 a2,kC u b0 b2] at e;have m:∀v:T2,0<=v.1->v.1<12->0<=v.2->v.2<60->(gk!,gl!)∈jY:=λv h0 h1 h2 h3 =>C_.mpr ⟨gk!,ic!,Fj! gl! ic!⟩;have:=F9 (f:=λp:Nat×Nat=>hN p.1 p.2) Jjb (m t a0 a1 a2 a3) (m u b0 b1 b2 b3) e;have e1:=U8! Prod.fst this;have e2:=U8! Prod.snd this;simp only at e1 e2;exact Jz! Prod.ext E!
theorem Zt:∀{ts:D!},ts.Nodup->(∀t∈ts,bN t)->Dy! ts.map (λt=>Mp w (tk t))
 | [],_,_=>CS
 | t::ts,nd,hr=>by have nd:=BA!;refine AV.mpr (A! Md! (Zt nd.2 (BG! (hr u (AL! hu)))));obtain⟨u,hu,e⟩:=En!;exact nd.1 ((Jec (hr t LS!) (hr u (ZD _ hu)) e.symm)▸hu)
theorem Rm{w:World}{l:D!}(nd:l.Nodup)(hr:∀t∈l,bN t):((l.map B9!).map λq=>Mp w q.1).Nodup:=I! AK (Zt nd hr)
def Jie(o:Obj):Prop:=XG!/\o.dict=none/\∃xs k,o.data=.seq xs k
universe S
inductive O5(K:W.Frag)(xs:C!)(H:Hp)(Q:VK):Prop
 | mk p ys (_:kX!) (_:DS K H p ys) (_:∀l o,Fy!->Jie o->Is l (NC! (.HK o (.BE ys))))
theorem R1{X:F!}:Fu X (BB! Bd!) (O5 Kx):=by intro AA s σ H xs us Q I r h;obtain⟨p,ys,rfl,hq,q⟩:=h;obtain⟨u,rfl,rx⟩:=KO!;cases rx;obtain⟨its,r',pl,hz⟩:=IA!;have hlen:=r'.length;refine call_tuple_list pl.isList (λh' kp=>?_) (fu!);have I1:J1!:=I.kept (t':=s.toks) kp;have I2:BI! (CI! h'.objs.size (.HK (t1! Bd! .seq its.toArray) (.BE ys))) (Gv! (bQ! h'.push its.toArray)) :=r6! I1.laid s.toks (GB!) (EB X.prog X.w _ _ _ (.HK _ (.BE ys))) ⟨CN!,hz,its,r',IsTup.new _ _⟩;exact WJ! h'.objs.size I2 (v! q xk! ⟨rfl,rfl,_,_,rfl⟩)
universe E
universe S
universe E
universe S
universe E
universe S
variable {X:Cx Kx}
universe E
universe S
variable {X:Cx Kx}{sc:Scope}{cl:List (Str×Addr)}{AA:List (Addr×Obj)}{σ:L2.St}{H1:Hp}{s1:Shared}{fp:List Addr}{N:List Str}
universe E
universe S
variable {X:Cx Kx}{elt iter:Expr}{x y0:Str}{px py0 pt pos:Pos}{kt:Nat}{ifs:List Expr}{sc:Scope}{cl:List (Str×Addr)}{caps:List (Str×Nat)}{wi:TI}{tt:TT}{te:TE}
universe E
universe E FX
universe N FX
open PySem PySem.Spec PyProof.Rows L2 PySem.Builtin PySem.Builtin.Str
universe S
variable {X:Cx Kx}
universe E
universe E FX
universe N FX
open PySem PySem.Spec PyProof.Rows L2
universe S
variable {X:Cx Kx}{AA:List (Addr×Obj)}{σ:L2.St}{H:Hp}{s:Shared}
universe E
universe S
variable {prog:Program}{w:World}{A:Around}{E:Value->Shared->Prop}{s:Shared}
universe E
abbrev zi(h:Heap)(l1:Addr):Heap:=WH! h.push "tuple_iterator" (#[i! l1,Zz!])
abbrev zg(h:Heap)(l1 l2:Addr):Heap:=WH! (zi h l1).push "list_iterator" (#[i! l2,Zz!])
abbrev ze(h:Heap)(l1 l2:Addr):Heap:=bQ! (zg h l1 l2).push (#[i! h.objs.size,i! (zi h l1).objs.size])
abbrev zp4(h:Heap)(l1 l2:Addr):Heap:=bQ! (ze h l1 l2).push (#[F?,F?])
abbrev zp5(h:Heap)(l1 l2:Addr):Heap:=WH! (zp4 h l1 l2).push "zip" (#[F?,Tk false,Tk false,i! (zg h l1 l2).objs.size,i! (ze h l1 l2).objs.size])
universe S
variable {prog:Program}{w:World}{A:Around}{E:Value->Shared->Prop}{s:Shared}
universe E
theorem So:entryFor table "proto.unchain"=some Builtin.«proto.unchain»:=entryFor_of_tree (by kernel_rfl)
universe S
variable {prog:Program}{w:World}{A:Around}{E:Value->Shared->Prop}{s:Shared}
theorem Jd3{it l ex:Addr}{i:Nat}{items:CS!}{oe:Obj}{vs:CS!}{Q:iF!}(hh:A.handled=YK!)(ay:Fl! ex oe)(oq:g3!)(vR:vs[2]?=some F?)(c_:ex≠it)(hit:s.heap.IsListIter it l i)(hl:s.heap.IsList l items)(hx:items[i]?=none)(hQ:∀h',Heap.ExtBut it s.heap h'->YA! none):ZE!:=by
 obtain⟨o,ho,hc,hd⟩:=id hit;obtain⟨ol,hol,_,nl,hdl⟩:=hl;refine dI! hit.typeIs slot_listiter_next (CU slot_listiter_next hit.typeIs entry_listiter_next ?_ (args_listiter_next _));show Nq! (field CR! 0);refine ZR (FN ho hd (x:=i! l) rfl ?_);show Li! (ite (Ix (Value.ref l==Value.none)) _ _);rw[AB (show ¬(Ix (Value.ref l==Value.none)) from AS)];show Nq! (field CR! 1);refine ZR (FN ho hd (x:=T! i 0) rfl (ZR (wpAny_seqItems hol hdl ?_)));simp only[CA,hx];refine iQ! (ZR (HV ho hd be Sr!));simp only[newExc,newTuple];refine ZR (DC (ro! (firstArgMember _ _) Value.none (by first|rfl|(simp only[firstArgMember];rfl)) (DC ?_ (by size_fits))) gF!);simp only[raiseNew];refine xz wpAny_handled ?_;rw[show A.in1.handled=YK! from hh];obtain⟨h2,mn⟩:∃h2,h2=(s.heap.update it (Obj.mapFields λx=>x.setIfInBounds 0 Value.none)).push (ir! Bd! Data.seq (#[])):=ci;have eb2:Heap.ExtBut it s.heap h2:=Gq! mn ((Heap.SameBut.update ..).extBut.push _)
 rw[<-mn];have x2:hk! ex oe:=eb2 ex oe c_ ay;have nx:ex≠h2.objs.size:=BK (AO x2);obtain⟨vn,evn⟩:∃vn,vn=(#[Hl! (s.heap.update it (Obj.mapFields λx=>x.setIfInBounds 0 Value.none)).objs.size,Value.none,Value.none,Value.none,Value.bool false,Value.none]++ownMembersOf (Value.type EH!) []):=ci;have vn2:2<vn.size:=Ai! evn Array.size_append (BU (d2! (2<6)) (Nat.le_add_right 6 _))
 rw[<-evn];show QB! (ite (Ix (Hl! ex != Hl! h2.objs.size)) _ _);rw[AE (by simp[bne_iff_ne,nx])];have x3:=ZT (ir! EH! Data.fields vn) x2;have y3:U! (h2.push (ir! EH! Data.fields vn)).get? h2.objs.size (ir! EH! Data.fields vn):=CN!;refine L1! (runValue_entry So ?_);refine ZR (m:=field (V! ex) 2) (FN x3 oq vR ?_);refine ZS (m? (ZR (HV (a:=h2.objs.size) y3 rfl vn2 (wpAny_throw ?_))));refine ZR (OC (T:=EH!) (b:=true) (LW! (DU _ y3 rfl)) isSubtype_stop ?_);refine ZS (hQ _ λb o' hb e=>?_);have e2:=eb2 b o' hb e;exact((Heap.SameBut.update ..).2 b (BK (AO e2))).trans (ZT _ e2)
universe E
structure Jlk(ex:Addr)(P:Program)(w:World)(K:W.Frag)(tg:Expr)(J:It)(fp:J!)(it:Addr)(tn:ku!):Prop where
 mem:it∈fp
 obj:∀i h,tn i h->CD! (∃o,BW!/\∀v,o.data≠bf!)
 keep:∀i h h',tn i h->(CD! (∀o,BW!->PZ!))->tn i h'
 item:rS! (uB! YK!) (∀(i:Nat)(AA:x!)(s:Shared)(σ:L2.St)(H:Hp)(E:M?),qY! (J.go i H ->
  st! (∃u,r=w? u /\
   wpAny (model P w) X.A (letOwnedTupleGo tg CR! u) (λ_ s2=>∃x H',kA!/\F3!/\J.aM i H x H'/\tn (U?) s2.heap/\XJ!) E s1)))
 done:rS! (uB! YK!) (∀(i:Nat)(AA:x!)(s:Shared)(σ:L2.St)(H:Hp)(E:M?),qY! (J.stop i H ->
  st! (r=none/\FN! s1)))
 self:∀(A:Around)(i:Nat)(s:Shared)(Q:M?)(E:M?),tn i s.heap->Is it s->wm! P (C5! pyIter it)
inductive Jrl(ex:Addr)(X:F!)(AA:x!)(σ:L2.St)(tg:Expr)(R:Rk!)(mR:Value)(s2:Shared):Prop
 | mk (it:Addr) (fp:J!) (tn:ku!) (J:It) (H':Hp) (_:mR=i! it) (_:kA!) (_:Jlk ex X.prog X.w Kx tg J fp it tn) (_:tn 0 s2.heap) (_:(CD! (Lf X AA H' b))) (_:R J H')
def xP(ex:Addr)(X:F!)(tg iter:Expr)(wi:TI):Prop :=
 ∀(AA:x!)(s:Shared)(σ:L2.St)(H:Hp)(R:Rk!),gJ! (wi σ H R ->
  NV! Zp! (λv s1=>u9! (pyIter v) (Jrl ex X AA σ tg R) s1))
def p_(ex:Addr)(K:W.Frag)(a:Addr):It:=⟨(dF K a).go,(dF K a).aM,λi H=>(∃xs,II!/\xs.length<=i)/\∃C,Ch ex oB!⟩
theorem Jaf{ex:Addr}{P:Program}{w:World}{K:W.Frag}{tg:Expr}(a it:Addr):Jlk ex P w K tg (p_ ex K a) [it] it (λi h=>h.IsListIter it a i) where
 mem:=D?
 obj:=QT! (by
  have e:b=it:=CC!
  subst e
  obtain⟨o,e,c,d⟩:=st
  exact Er! (XL! d))
 keep:=fi! (k8! st.at k it)
 item:=by
  intro X hP hw hc i AA s σ H E I hf st hg
  subst hP hw
  obtain⟨xs,x,hq,hx⟩:=hg
  obtain⟨its,rv,p,hz⟩:=IA!
  obtain⟨u,hu,ru⟩:=rv.get hx
  obtain⟨f0,f1,f2,f3,f4,f5⟩:=E4!
  refine wpAny_pyNext_list_item st p.isList (x:=u) (QU!) gi!
  have I1:J1!:=Vr! (Ax! ((sb.2 b hb).trans e))
  obtain⟨o,e,c,d⟩:=id RS
  exact Eb! u (og! d x ru (s? (λys hy=>I! (I.au hy hq) hx)))
 done:=by
  intro X hP hw hc i AA s σ H E I hf st hg
  subst hP hw
  obtain⟨⟨xs,hq,hx⟩,C,hC⟩:=hg
  obtain⟨its,rv,p,hz⟩:=IA!
  obtain⟨f0,f1,f2,f3,f4,f5⟩:=E4!
  have hl:=rv.length
  obtain⟨o,vs,g1,g2,g3,g4⟩:=(I.DP ex _ hC).1
  exact Jd3 hc g1 g3 g4 (λz=>by rw[z,f0] at hC;cases hC) st p.isList (WY!) qt!
 self:=Tm! wpAny_pyIter_listiter
def Jm7(ex:Addr)(K:W.Frag)(tl:TE):TI:=XM! tl (∃a,Ap!/\(∃xs,at! H1)/\R (p_ ex K a) H1)
theorem Jf7{ex:Addr}{X:F!}{tg l:Expr}{tl:TE}(hl:PE X l tl):xP ex X tg l (Jm7 ex Kx tl):=by
 intro AA s σ H R I h;refine bN!;rintro v s1 ⟨x,H1,I1,r1,q1⟩;obtain⟨a,e,⟨xs,hq⟩,q⟩:=q1;subst e;cases r1;obtain⟨its,rv,p,hz⟩:=I1.list hq;refine wpAny_pyIter_list p.isList ?_;refine oU! _ H1 (aS! I1.kept GB!) (Jaf a _) q;have e:Wb!:=CC!
 subst e;exact qu!
universe S
variable {tM:Addr}{X:Cx Kx}{elt iter:Expr}{x:Str}{px pos:Pos}{ifs:List Expr}{sc:Scope}{cl:List (Str×Addr)}{caps:List (Str×Nat)}{wi:TI}{tt:TT}{te:TE}
theorem Jbh{AA:x!}{σ:L2.St}{H:Hp}{s:Shared}{Q:VK}{use:Option (Value->Sem Unit)}{RQ:M?}(hc:uB! (d? tM))(hi:xP tM X ZV! iter wi)(PZ:c2!)(LP:bh!)(IX:Mc!)(LJ:dN!)(hx:KV!)(JT:OO!)(has:dO!)(SK:ON!)(hN:W3!)(ht:dC!)(he:dB!)(I:K!)(h:Xw wi caps tt te σ H Q)(fin:∀(C D:Addr) (H':Hp) (s1 s':Shared) (H1:Hp),C=s1.heap.objs.size->OX!->KY!->RM! C->(∃m,s'.heap.Ns C m)->dt! D->compPost Kz! X.A X.xe use RQ D6! C (.ok .next) s')(hs:dZ!) : Ux! (comprehension Og! sc X.env (firstIterPos eX! pos) (newList []) false Zp! use) RQ:=by
 refine wpAny_comprehension_free rfl hs PZ IX LJ (Uv! hi (ot! (λmR s2 h2=>?_)));obtain⟨it,fp,tn,J,H2,e,I2,T,f9,f2,hW⟩:=h2;subst e;refine DC ?_;have bw:Ay! H2 s2.heap.objs.size:=ZU!;have I3:BI! mP! Tn!:=I2.lG (t':=s2.toks) (its:=[]) S! C6!;obtain⟨W,⟨m0,w0⟩,turn⟩:=hW s2.heap.objs.size bw;have wJ:CD! (b≠s2.heap.objs.size):=λb hb z=>by obtain⟨o,e,_⟩:=r2! f9;exact ZI! AO (YH! (DJ _))
 have f3:XK! mP!:=j? (A! (Gq! (Ac (wJ b hb)) (VL! f2)) (f2 b hb).2);have i8:tn 0 (s2.heap.push xP!):=r3! f9 HN!;obtain⟨D,hD⟩:∃D,D=s2.heap.objs.size:=ci;obtain⟨H3,wG⟩:∃H3,H3=TB! s2.heap.objs.size:=ci;obtain⟨s3,gw⟩:∃s3:Shared,s3=Tn!:=ci;have fJ:tn 0 s3.heap:=I! gw i8
 rw[<-wG] at I3 f3 w0;rw[<-gw] at I3;rw[<-hD] at turn;show wpAny _ _ _ _ _ (Tn!:Shared);rw[<-gw,<-hD];refine wpAny_newFunctionEnv LP (by intro y hy;simp at hy) (λh1 vm j6=>?_) IX;have ok:=Jh5 (N:=x::Ej caps) I3 f3 (Bu! (let⟨o,e,_⟩:=r2! fJ;ZF!)) IX JT has;have j4:VB! VJ!:=lookup_relabel_local hx;have J4:=Jh6 (t':=o6!) I3 ok JT SK j4 vm j6;have oF:tn 0 h1:=r3! fJ ((j6.2 b lm!).trans aF!);have SH:∀{H':Hp},(XJ!)->CD! (Lf QG! [] H' b):=λhn b hb=>by refine⟨B4! hn,?_,λz=>ok.T_ b hb z,PJ!,ML! (oQ! (f3 b hb).2.2.2.2.1),D0!⟩;(.exact VL! ok.bG);.have gE:oz!:=hp;rw[AH] at gE;exact(f3 b hb).2.2.2.2.2 p gE
 have loop:∀s4:Shared,s4={ s3 with heap:=h1,toks:=o6! } -> codeAny Kz! X.A (.compLoop Og! 0 CR! D6! (compEnvC sc cl s3.heap.objs.size X.env)) (compPost Kz! X.A X.xe use RQ D6! s3.heap.objs.size) s4:=by rintro s4 rfl;refine Uo (λk s'=>∃i v0 ys H',pb! (qT! QG! om!) s'.heap (W i k ys H')) ?_ m0 ⟨0,none,[],H3,J4,oF,V7! f3,w0⟩;rintro k s5 ⟨i,v0,ys,H5,I5,eJ,bF,w5⟩;obtain⟨hD5,stop|⟨go,step⟩⟩:=turn i k ys H5 w5;(.obtain⟨stop,q⟩:=stop;refine tl! T.done stop;rintro r s6 ⟨hr,I6⟩;subst hr;obtain⟨mm,sr,_⟩:=I6.loc;exact fin _ D H5 s3 s6 H3 rfl I3 (Jc2 I3 f3 I6) I6.free (A! mm sr) q);.refine tl! T.item go;rintro r s6 ⟨u,hr,h6⟩;subst hr;refine EK h6 ?_;rintro _ s7 ⟨y,H7,I7,r7,y7,jg,QZ⟩;have yK:=I7.pinned (SH QZ) (d! T.obj jg);refine HD! (Bk (X:=rr!) (i:=0) hN rfl (c? j4) (AB! j4) _ s7 om! H7 y u (λEV H'=>EV=Uu! Rc!/\H'=H7) yK r7 C9!);rintro _ s8 ⟨σ8,H8,I8,e8,wq⟩;subst e8;subst wq;(have back:∀{n8:L2.St} {H9:Hp} {s9:Shared},Inv QG! ([]++Nk fp s7.heap) n8 H9 s9->tn (U?) s9.heap/\CD! (Dk! H9):=λ{n8 H9 s9} I9=>by refine A! (T.keep _ _ _ jg λb hb o e=>(I9.pin IY! (ZC _ (ZC _ (Fh hb e)))).1) JQ!;obtain⟨o,e,d⟩:=T.obj _ _ jg b hb;exact(I9.pin IY! (ZC _ (ZC _ (Fh hb e)))).2.1);refine ta! ht s8 I8 (step y _ y7);rintro ok s9 ⟨H9,I9,q9⟩;cases ok with | false =>simp only[CL,EZ] at q9 ⊢;obtain⟨m',hm,w9⟩:=q9;exact⟨m',hm,U?,Rc!,ys,H9,I9.JR,(back I9).1,(back I9).2,w9⟩ | true =>simp only[JV] at q9 ⊢;refine ta! he s9 I9 q9;rintro xv jj ⟨v,kX,yL,uw,lO,JS,m',hm,je⟩;refine HD! (Cv (X:=rr!) _ jj _ kX D6! [v] D6! [xv] (λ_ H'=>H'=Pl! kX D (ys++[v])) yL rfl (Gd! uw) ⟨D,ys,v,rfl,rfl,lO,JS,rfl⟩);rintro _ s11 ⟨_,qF,kW,_,wu⟩;subst wu;exact⟨m',hm,U?,Rc!,ys++[v],_,kW.JR,(back kW).1,(back kW).2,je⟩
 exact codeAny_compStart_list mk! (T.self _ 0 _ _ _ oF mk!)
theorem Jgc(hc:uB! (d? tM))(hi:xP tM X ZV! iter wi)(PZ:c2!)(LP:bh!)(IX:Mc!)(LJ:dN!)(hx:KV!)(JT:OO!)(has:dO!)(SK:ON!)(hN:W3!)(ht:dC!)(he:dB!)(hs:dZ!:=by intro _;rfl):VW! f4! elt eX! sc (Xw wi caps tt te):=by intro AA s σ H Q I h;rw[eval_ListComp];refine Jbh (use:=none) hc hi PZ LP IX LJ hx JT has SK hN ht he I h (?_) hs;rintro C D H' s1 s' H1 hC I1 I' hn ⟨m,hm⟩ q;subst hC;exact⟨m,hm,λh' gy=>AA! (i! D) H' (Xg (s':=s') I1 I' hn gy) q⟩
universe E
structure uL(P:Program)(w:World)(K:W.Frag)(mg:q?)(base:Heap)(k:Nat)(f:Addr)(fd:FuncData)(ps:P?)(sp:Addr->C!->LY!):Prop where
 len:∀ex vs H Q,rq!->fo!
 run:∀(ex:Addr)(A:Around)(outer:A7!)(s:Shared)(H:Hp)(args:Args)(us:Z!)(vs:C!)(Q:VK),Ng!->oa!->BindsTo s fd args ff!->KP!->rq! ->
  codeAny jc! (A.mark (I6! ex)) (KR! .call args) (CR aL outer P w H s Q E0) s
universe S
variable {P:Program}{w:World}{K:W.Frag}{mg:Str->Option Value}{base:Heap}{sp:Addr->List V->Hp->VK->Prop}
theorem Jnb{k:Nat}{f:Addr}{name qual:Str}{params:Arguments}{body:Xw!}{scope:Scope}{dV kV doc pm ED ct oc:Value}{an od:GQ!}{gA:rb!}{N ps:P?}(lk:U! K.lookup f ⟨oc,od,.func (tK!),gA⟩)(RE:W.codeIn K ED qual=true)(S:Ap N ps scope)(len:∀ex vs H Q,rq!->fo!)(VG:∀(ex:Addr) (A:Around) (outer:A7!) (s:Shared) (H:Hp) (vs:C!) (Q:VK),q3! scope rq! (RF (dg (wy! aL scope ED E0) ex) body t)) : uL P w K mg base (k+1) f (tK!) ps sp:=by
 refine A! len (λex A outer s H args us vs Q hr e0 hb r c8=>?_);have hl:=len _ _ _ _ c8;have KX:Gc!:=ol! e0.mod.cI.keeps;have lim:s.heap.NoLimit:=ol! e0.mod.nolimit.keeps;have IX:∀y∈ps.zip us,U! scope.names.lookup y.1 QH!\/(U! scope.names.lookup y.1 Gp!/\((cellsFrom (Fa!) scope.names []).lookup y.1).isSome=true):=λ⟨n,v⟩ hy=>by rcases S.par n (R_ hy).1 with q|q;(.exact H! q);.exact No q (v! W.cellsFrom_some _ (c? q))
 refine codeAny_call_function hr.depth (d! KX lk) rfl S.co S.gen rfl (W.codeRec_of KX RE) (hb _ _ _ _ ?_);refine wpAny_newFunctionEnv_cells S.kind IX λenv he s1 x=>?_;subst he;refine A! (lim.keeps x.toInCall.keep) (codeAny_func ?_);obtain⟨t,ht,hq⟩:=VG ex A outer s H vs Q (hr.deeper _) c8;have I:Inv (dg (wy! aL scope ED E0) ex) [] QF! H s1:=Wv (Tw S hr.hd e0 hl r x);refine EO (ht [] s1 QF! H _ I hq) (λfl s' hs=>?_) λe s' hs=>hs.elim;have fin:∀{EV:L2.St} {H':Hp} {v:V} {u:Value},qT! (dg (wy! aL scope ED E0) ex) EV->A9!->NO!->sS! outer P w :=λ{EV H' v u} J rv q=>⟨v,H',J.os,J.bare,J.base,J.DP,rv,q⟩;cases fl with | ret u =>obtain⟨v,EV,H',J,rv,q⟩:=hs;exact fin J rv q | next =>obtain⟨EV,H',J,q⟩:=hs;exact fin (v:=V.FG) (u:=Value.none) J rfl q | brk =>obtain⟨_,_,_,q⟩:=hs;exact iR! | cont =>obtain⟨_,_,_,q⟩:=hs;exact iR!
theorem Cx.Ok.ofX{Y:F!}{ex:Addr}(ok:(dg Y ex).Ok)(h:Y.A.handled=none):Y.Ok:=xv! (λ_=>h)
def Jl0(sp:Addr->C!->LY!)(ex:Addr)(t:TA):TE:=ke! (sp ex vs H1 Q)
theorem Jgd{Y:F!}{k:Nat}{f ex:Addr}{fd:FuncData}{ps:P?}{x:Str}{e:Expr}{es:Jw!}{t:TA}{p pos:Pos}(F:uL Y.prog Y.w Kx Y.mg Y.base k f fd ps sp)(hr:DM k Y.A)(hg:Gl (dg Y ex) x)(hm:Bk! Y.mg Ly!)(hk:W.keepIn Kx Ly!=true)(hb:vc! [])(ha:PA (dg Y ex) EV! t)(bE:DU!:=by decide)(he:starEach (e::es) Y.env=(false,eval e Y.env)::starEach es Y.env:=by rfl)(VQ:o? (b? (backTo pos (starEach es Y.env)).any):=by rfl) : PE (dg Y ex) (.Call (Gr! x p) EV! [] pos) (Jl0 sp ex t):=by
 intro AA s σ H Q I h;refine sE!;refine Y' (h₀:=Y.base) I.ok.mod.cI hk (wX! (λus s1 ⟨vs,H1,I1,r,q⟩=>L? I1.VW)) he VQ;have hl:Wj!:=G? r.length (mH! q)
 refine qc! YW (F.run ex Y.A Y.stack s1 H1 KM! us vs Q hr (Mn I1 (Cx.Ok.ofX I1.ok hr.hd)).ie (Wh! (hb s1 us I1.VW (RY! hl)) AH) r q);cases r with | error e=>exact hq.elim | ok fl =>cases fl with | ret u=>exact I1.after hq | next=>exact Rv! | brk=>exact Rv! | cont=>exact Rv!
universe E
inductive Ji5(x:V)(vs:C!)(H:Hp)(Q:VK):Prop
 | mk l (bs:List Bool) (n:Nat) (_:Ql!) (_:vs=[.bl true]) (_:Ch l (.BF (bs.map V.bl))) (_:bs.idxOf true=n) (_:n<bs.length) (_:WG! n)
theorem Xo:∀{bs:List Bool} {us:Z!},Vals (bs.map V.bl) us->us=bs.map Value.bool
 | [],_,.nil=>rfl
 | b::r,_,.cons e q=>by cases e;rw[Xo q];rfl
theorem Jd1{X:F!}:nK X "list.index" Ji5:=by
 intro AA s σ H x vs v us Q I rx rv h;obtain⟨l,bs,n,rfl,rfl,hH,hi,hn,q⟩:=h;cases rx;obtain⟨u,rfl,ru⟩:=rv.one;cases ru;obtain⟨z,its,k,r,hl,e⟩:=Tl!;have ei:=Xo r;subst ei;have hz:bs.length<=sizeLine:=t4!
 have sz:sizeLine=16777216:=DI;refine call_meets F.slot_list_index SL! F.entry_list_index (F.args_list_index_2 _ _) (PySem.SeqAt.list_indexAt l (bs.map Value.bool).toArray k none #[] (Tk true) (λy=>y == ik!) n (by simpa using hn) E! ?_ ?_) ⟨e,?_,TV! PO!⟩;.subst hi;have:=List.getElem_idxOf hn;simp only[List.getElem_toArray,List.getElem_map,this];rfl
 .intro m hm hmn;(have hm':m<bs.length:=by simpa using hm);have:=List.not_of_lt_findIdx (p:=(· == true)) (xs:=bs) (i:=m) (by rw[<-hi] at hmn;exact hmn);simp only[List.getElem_toArray,List.getElem_map];cases c:bs[m] with | false=>rfl | true=>rw[c] at this;simp at this
 .intro y hy;(obtain⟨b,_,rfl⟩:∃b,b∈bs/\Value.bool b=y:=by simpa using hy);have:=PySem.SeqAt.EqAt.bool_bool (A:=X.A.in1) (s:=s) b true;cases b<;>exact this
theorem Jbg{ex:Addr}{C:Addr}{K:W.Frag}{a p:Addr}{xs:C!}{tt:TT}{te:TE}{caps:GI!}{σ:L2.St}{H:Hp}{Q:Rq!}(Pv:iY!)(h0:sC!)(hl:o8! Gu! (at! H2/\Vc!/\Mr! ex oB!))(hs:∀i x ys H2 (N:JB!),sr! GU! (vY! H2 (vt! c8!) ab!))(hd:o9! xs.length) : OR! (MR! (K8! (p_ ex K a).stop (Q H2) (p_ ex K a).go (p_ ex K a).aM (Of! a9!))):=by
 refine r1! LB! Gu! xs.length;rintro i m ys H2 ⟨rfl,hi,pv⟩;obtain⟨q1,q2,q3⟩:=sH!;refine L? q2;by_cases JS:OA!;.refine Yj! (cs! q1);obtain⟨e,y⟩:=y;subst e;exact hs i x ys _ (rN! LB! XP! (U?<=xs.length)) (y xs q1) pv dP!
 ·(have e:Wc!:=B!);subst e;exact rf! ⟨b6! q1,C,q3⟩
universe E FX
universe N K64
open PySem L2 FX
def top(i:Nat):Stmt:=PySem.Challenge.pw_farhold_k64_whole_two_orders.main.body.getD i (.Pass ⟨0,0,0,0⟩)
abbrev Yi:Stmt:=Sc 0
abbrev Yg:Stmt:=Sc 1
abbrev Yj:Stmt:=Sc 2
abbrev Yl:Stmt:=Sc 3
abbrev Ye:Stmt:=Sc 4
abbrev Yk:Stmt:=Sc 5
abbrev Yf:Stmt:=Sc 6
abbrev Ym:Stmt:=Sc 7
abbrev Ql:Stmt:=Sc 8
abbrev Qi:Stmt:=Sc 9
abbrev Lv:Stmt:=Sc 10
abbrev Yd:Stmt:=Sc 13
abbrev Ni:Stmt:=Sc 14
abbrev Yc:Stmt:=Sc 15
abbrev Jr:Stmt:=Sc 16
abbrev Gs:Stmt:=Sc 18
abbrev Jq:Stmt:=Sc 19
abbrev Kf:Stmt:=Sc 20
abbrev Qe:Stmt:=Sc 21
abbrev Tf:Stmt:=Sc 22
abbrev uP:Stmt:=top 27
abbrev Ke:Stmt:=top 14
abbrev Fn:Stmt:=top 12
abbrev F4:Stmt:=top 18
abbrev Hh:Stmt:=top 19
abbrev Qh:Stmt:=Yf! 0
abbrev Ly:Stmt:=Yf! 1
abbrev Js:Stmt:=Yf! 2
abbrev Lx:Stmt:=Yf! 3
abbrev Jt:Stmt:=Yf! 4
abbrev Yh:Stmt:=Sc 12
abbrev uQ:Stmt:=wP 8
abbrev Hf:Stmt:=wP 17
abbrev E3:Stmt:=wP 18
abbrev He:Stmt:=wP 19
abbrev Hg:Stmt:=wP 20
abbrev Jp:Stmt:=wP 21
abbrev Qd:Stmt:=Sc 17
abbrev Qj:Stmt:=Sc 11
abbrev Qg:Stmt:=Sc 23
abbrev Td:Stmt:=Sc 24
abbrev Qf:Stmt:=ia! 0
abbrev K0:Stmt:=ia! 1
abbrev Hi:Stmt:=ia! 2
abbrev Lw:Stmt:=ia! 3
abbrev Vi:Stmt:=wP 0
abbrev Vh:Stmt:=wP 1
abbrev Vj:Stmt:=wP 2
abbrev Vl:Stmt:=wP 3
abbrev Vf:Stmt:=wP 4
abbrev Vk:Stmt:=wP 5
abbrev Jqp:Stmt:=wP 11
abbrev Vg:Stmt:=wP 6
abbrev Ph:Stmt:=wP 7
abbrev Kd:Stmt:=wP 9
abbrev Pg:Stmt:=wP 10
abbrev Kc:Stmt:=wP 12
abbrev Ec:Stmt:=wP 14
abbrev Jo:Stmt:=wP 15
abbrev Qc:Stmt:=wP 16
abbrev Nh:Stmt:=wP 22
abbrev Jnu:Stmt:=wP 13
abbrev Vm:Stmt:=top 28
abbrev Vo:Stmt:=top 29
abbrev xn:Stmt:=top 30
abbrev Vn:Stmt:=top 31
abbrev xi:Stmt:=top 32
abbrev xj:Stmt:=top 33
abbrev xk:Stmt:=top 34
abbrev yB:Stmt:=top 35
abbrev Qk:Stmt:=top 36
abbrev xh:Stmt:=top 37
abbrev xm:Stmt:=top 38
abbrev xg:Stmt:=top 39
abbrev kT:Stmt:=top 40
structure CT(K:W.Frag)(C:Addr)(x qual:Str)(st:Stmt)(ps:P?)(f:Addr)(fd:FuncData):Prop where
 fn:TP!
 bd:cX!
 mt:nX K C x f
structure RW(K:W.Frag)(mg:q?)(x:Str)(st:Stmt)(ps:P?)(f:Addr)(fd:FuncData):Prop where
 fn:vk! x
 bd:cX!
 mg:Bk! mg Ly!
structure MeI(K:W.Frag)(C:Addr)(x q:Str)(st:Stmt)(f:Addr)(fd:FuncData):Prop where
 a:cQ! x
 i:m5!
 fn:vk! q
structure GI(K:W.Frag)(x:Str)(st:Stmt)(f:Addr)(fd:FuncData):Prop where
 a:DN! x f
 fn:vk! x
structure YH(K:W.Frag)(x:Str)(st:Stmt)(ps:P?)(f:Addr)(fd:FuncData):Prop extends GI K x st f fd where
 b:cX!
theorem YH.aQ{K:W.Frag}{mg:q?}{hp:Heap}{x:Str}{st:Stmt}{f:Addr}{fd:FuncData}{ps:P?}(m:YH K x st ps f fd)(X:K.In hp)(G:MF! hp.Ns):Bs! x st ps f fd:=⟨m.fn,m.b,JJ X G m.a⟩
structure uV(K:W.Frag)(C:Addr):Prop where
 pg:ce! Str.empty
 hd:kr!
 po:Pw! W.plainOver
 sa:Zy! "__setattr__" "object.__setattr__"
 mm:Pw! W.makesIn
 kc:W.keepIn K GH!=true
def Bd(x q:Str)(st:Stmt)(ps:P?):Prop:=∀(kV doc pm:Value)(an:GQ!)(ED ct:Value)(us:Z!),Wj!->jR! (bindArgs (WR! x q (My st) Nd! MA! F?) KM!)
theorem el0{P:ND!}{us:Z!}(h:PE! 0)(k:P []):P us:=by
 rcases us with _|⟨a,us⟩;.exact k
 .cases h
theorem pU{P:ND!}{n:Nat}{us:Z!}(h:PE! (n+1))(k:∀a vs,vs.length=n->P (a::vs)):P us:=by
 rcases us with _|⟨a,us⟩;.cases h
 .exact k a us (Nat.succ.inj h)
theorem el1{P:ND!}{us:Z!}(h:PE! 1)(k:∀u0,P [u0]):P us:=dT! el0
theorem iC{P:ND!}{us:Z!}(h:PE! 2)(k:∀u0 u1,P [u0,u1]):P us:=dT! el1
theorem aK{P:ND!}{us:Z!}(h:PE! 3)(k:∀u0 u1 u2,P [u0,u1,u2]):P us:=dT! iC
theorem a7{P:ND!}{us:Z!}(h:PE! 4)(k:∀u0 u1 u2 u3,P [u0,u1,u2,u3]):P us:=dT! aK
theorem wZ{P:ND!}{us:Z!}(h:PE! 5)(k:∀u0 u1 u2 u3 u4,P [u0,u1,u2,u3,u4]):P us:=dT! a7
def BA(x q:Str)(st:Stmt)(ps:P?)(us:Z!):Prop:=∀(kV doc pm:Value)(an:GQ!)(ED ct:Value),jR! (bindArgs (WR! x q (My st) Nd! MA! F?) KM!)
theorem bd1{a:Str}(h:∀u0,V5! [a] [u0]):UL! [a]:=df! el1 [a]
theorem bd2{a b:Str}(h:∀u0 u1,V5! [a,b] [u0,u1]):UL! [a,b]:=df! iC [a,b]
theorem bd3{a b c:Str}(h:∀u0 u1 u2,V5! [a,b,c] [u0,u1,u2]):UL! [a,b,c]:=df! aK [a,b,c]
theorem bd4{a b c d:Str}(h:∀u0 u1 u2 u3,V5! [a,b,c,d] [u0,u1,u2,u3]):UL! [a,b,c,d]:=df! a7 [a,b,c,d]
theorem bd5{a b c d e:Str}(h:∀u0 u1 u2 u3 u4,V5! [a,b,c,d,e] [u0,u1,u2,u3,u4]):UL! [a,b,c,d,e]:=df! wZ [a,b,c,d,e]
theorem MeI.mth{K:W.Frag}{C:Addr}{x q:Str}{st:Stmt}{f:Addr}{fd:FuncData}{ps:P?}(m:MeI K C x q st f fd)(h:UL! ps:=by first|exact K64.bd1 λ_ _ _ _ _ _ _=>rfl|exact K64.bd2 λ_ _ _ _ _ _ _ _=>rfl|exact K64.bd3 λ_ _ _ _ _ _ _ _ _=>rfl|exact K64.bd4 λ_ _ _ _ _ _ _ _ _ _=>rfl|exact K64.bd5 λ_ _ _ _ _ _ _ _ _ _ _=>rfl|exact K64.bd0 λ_ _ _ _ _ _=>rfl|exact K64.bd6 λ_ _ _ _ _ _ _ _ _ _ _ _=>rfl):CT K C x q st ps f fd:=⟨m.fn,m.fn.binds h,⟨m.a,m.i,m.fn.kp⟩⟩
theorem GI.gdi{K:W.Frag}{x:Str}{st:Stmt}{f:Addr}{fd:FuncData}{ps:P?}(m:GI K x st f fd)(h:Bd x x st ps:=by first|exact K64.bd1 λ_ _ _ _ _ _ _=>rfl|exact K64.bd2 λ_ _ _ _ _ _ _ _=>rfl|exact K64.bd3 λ_ _ _ _ _ _ _ _ _=>rfl|exact K64.bd4 λ_ _ _ _ _ _ _ _ _ _=>rfl|exact K64.bd5 λ_ _ _ _ _ _ _ _ _ _ _=>rfl|exact K64.bd0 λ_ _ _ _ _ _=>rfl|exact K64.bd6 λ_ _ _ _ _ _ _ _ _ _ _ _=>rfl):YH K x st ps f fd:=A! m (m.fn.binds h)
inductive Oe(K:W.Frag)(vs:C!)(H:Hp)(Q:VK)(E:XK):Prop
 | mk (a:Addr) (ns:A?) (_:vs=[Aj!]) (_:i1! fC) (_:ns.length<=63) (_:∀H',qO!)
def Gl(R:Prop)(K:W.Frag)(mg:q?)(C CW CP CI HE NH LG MQ MI NW NL NI NR d_ RK QS eW TH SU TU TZ WY WN TR SQ WD WU WG WL WQ W_ WV WZ TB TJ SO WK WM WE WR WS WO SM NG LR LV LU LQ NA WC MY M_ NF ND NJ MZ WT WJ TV RL WX WW S_ SY SX KQ NM NK NB NN NC SN WH SR TM SS TC TN TL TK SV TY TQ SW TX cO:Addr)(eZ UI RM eY UR UH U_ VC XY XM UZ UD XC XT XE XI XO X_ XU XZ UP US UC XH XJ XD XQ XR XN UA NY LX LZ LY LW NS XB NO NQ NX NV NZ NP XS XG U' UO XX XW UN UM UL KR N' N_ NT OA NU UB XF UE UW UG UQ UX UU UT UJ VB UY UK VA cQ:FuncData):Prop:=∀⦃h:Heap⦄ (X:K.In h) (G:MF! h.Ns)
 (aC:DN! "House" C)
 (aCW:DN! "World" CW)
 (aCP:DN! "Post" CP)
 (aCI:DN! "Inquiry" CI)
 (aHE:DN! "HoldError" HE)
 (aNH:DN! "NoHouse" NH)
 (aNHd:DN! "NotHeld" LG)
 (aNNr:DN! "NotNear" MQ)
 (aMI:DN! "Missing" MI)
 (aNW:DN! "NoWeight" NW)
 (aNL:DN! "NoLetter" NL)
 (aNI:DN! "NoInquiry" NI)
 (aNR:DN! "NoRow" NR)
 (q3:EK! W.specialIn (AS! G1!) "__get__" jk!)
 (q4:W.takesIn K (AS! G1!)=some true)
 (xNH:IW! NH)
 (xNHd:IW! LG)
 (xNNr:IW! MQ)
 (xMI:IW! MI)
 (xNW:IW! NW)
 (xNL:IW! NL)
 (xNI:IW! NI)
 (xNR:IW! NR)
 (xHE:IW! HE)
 (sNHd:bZ! LG)
 (qaNHd:p9! LG)
 (qbNHd:jP! LG)
 (qcNHd:qA! LG)
 (qdNHd:ae! LG)
 (qeNHd:ad! LG)
 (tNHdNH:NR! NH)
 (tNHdNNr:NR! MQ)
 (tNHdMI:NR! MI)
 (tNHdNW:NR! NW)
 (tNHdNL:NR! NL)
 (tNHdNI:NR! NI)
 (tNHdNR:NR! NR)
 (tNHdV:c6! LG)
 (sNNr:bZ! MQ)
 (qaNNr:p9! MQ)
 (qbNNr:jP! MQ)
 (qcNNr:qA! MQ)
 (qdNNr:ae! MQ)
 (qeNNr:ad! MQ)
 (tNNrNH:NS! NH)
 (tNNrNHd:NS! LG)
 (tNNrMI:NS! MI)
 (tNNrNW:NS! NW)
 (tNNrNL:NS! NL)
 (tNNrNI:NS! NI)
 (tNNrNR:NS! NR)
 (tNNrV:c6! MQ)
 (sMI:bZ! MI)
 (qaMI:p9! MI)
 (qbMI:jP! MI)
 (qcMI:qA! MI)
 (qdMI:ae! MI)
 (qeMI:ad! MI)
 (tMINH:NT! NH)
 (tMINHd:NT! LG)
 (tMINNr:NT! MQ)
 (tMINW:NT! NW)
 (tMINL:NT! NL)
 (tMINI:NT! NI)
 (tMINR:NT! NR)
 (tMIV:c6! MI)
 (sNW:bZ! NW)
 (qaNW:p9! NW)
 (qbNW:jP! NW)
 (qcNW:qA! NW)
 (qdNW:ae! NW)
 (qeNW:ad! NW)
 (tNWNH:NU! NH)
 (tNWNHd:NU! LG)
 (tNWNNr:NU! MQ)
 (tNWMI:NU! MI)
 (tNWNL:NU! NL)
 (tNWNI:NU! NI)
 (tNWNR:NU! NR)
 (tNWV:c6! NW)
 (hI:ns! C uE! Yi d_ eZ)
 (hPI:ns! CP uF! Qf RK UI)
 (hWI:ns! CW "World.__init__" Vi QS RM)
 (mM:JG! JF! uG! Yg eW eY)
 (mFr:Ra! HT! uH! Yk TH UR)
 (mPa:CT K C "part" uI! Yf NH! SU UH)
 (mCa:JZ! "came" uJ! Ym TU U_)
 (mAd:JZ! "added" uK! Ql TZ VC)
 (mGi:JZ! "given" uL! Qi WY XY)
 (mPs:CT K C "passed" uM! Lv OQ! WN XM)
 (mCl:JG! JH! uN! Qj TR UZ)
 (mSt:rm! SQ UD)
 (mTo:dv! VE! uO! Yc WD XC)
 (mNe:xL! WU XT)
 (mSp:dv! uP! uQ! Qd WG XE)
 (mQH:xS! WL XI)
 (mPR:Ra! uS! uT! Qe WQ XO)
 (mAR:rt! W_ X_)
 (mLo:r7! WV XU)
 (mGb:rn! WZ XZ)
 (mHo:JY! AT uU! Yj TB UP)
 (mDr:JY! HV! uW! Yl TJ US)
 (mTa:JY! HW! uX! Ye SO UC)
 (mQN:xr! WK XH)
 (mQG:rs! WM XJ)
 (mTi:JG! "tick" uY! Yd WE XD)
 (mPP:xT! WR XQ)
 (mPL:CT K CP PK! ua! Hi sB WS XR)
 (mPT:CT K CP "taken" ub! Lw D8! WO XN)
 (mWM:La! JF! "World.make" Vh SM UA)
 (mWFr:FR! HT! "World.free" Vk R2! NG NY)
 (mWSe:FR! VH! "World.send" Vg SN! LR LX)
 (mWCl:La! JH! "World.clean" Ph LV LZ)
 (mWDe:FR! uc! "World.deliver" Kd D8! LU LY)
 (mWSt:La! VD! "World.state" Pg LQ LW)
 (mWLe:FR! PK! "World.letters" Kc sB NA NS)
 (mWH:xI! WC XB)
 (mWWe:Cc! ud! ue! Jo MY NO)
 (mWPa:Cc! uf! ug! Qc M_ NQ)
 (mWGb:sl! NF NX)
 (mWHo:Rr! AT "World.hold" Vj ND NV)
 (mWDr:Rr! HV! "World.drop" Vl NJ NZ)
 (mWTa:Rr! HW! "World.take" Vf MZ NP)
 (mP1:YH K VM! Ke Ma! WT XS)
 (mR1:YH K Lg! Fn Gg! WJ XG)
 (mC1:YH K uh! uP cB! TV U')
 (hII:ns! CI ui! Qh RL UO)
 (mIF:CT K CI "first" uj! Ly Oe! WX XX)
 (mIS:CT K CI "second" uk! Js Nl! WW XW)
 (mIL:Su! "still" ul! Lx S_ UN)
 (mIR:Su! "result" um! Jt SY UM)
 (mLH:v4! HY! up! Yh SX UL)
 (mWAs:La! Bc! "World.ask" uQ KQ KR)
 (mWAc:Cc! uq! ur! Hf NM N')
 (mWAn:Cc! us! ut! E3 NK N_)
 (mWLc:Cc! uu! uv! He NB NT)
 (mWAa:sm! NN OA)
 (mWLa:FR! ux! uy! Jp Ob! NC NU)
 (mUn:YH K eC! F4 JR! SN UB)
 (mRc:YH K eD! Hh JR! WH XF)
 (mSm:YH K "_law_stream" Vm ow! SR UE)
 (mCs:YH K u1! Vo XH! TM UW)
 (mPk:YH K "_law_pick" xn cm! SS UG)
 (mHb:YH K "_law_held_by" Vn ox! TC UQ)
 (mCo:jo! "_law_come" xi VR! TN UX)
 (mDe:YH K "_law_deed" xj rU! TL UU)
 (mDn:jo! "_law_done" xk VT! TK UT)
 (mNx:YH K "_law_next" yB cC! SV UJ)
 (mAl:jo! "_law_all_come" Qk VQ! TY VB)
 (mCm:YH K "_law_calm" xh dH! TQ UY)
 (mLf:jo! "_law_left" xm JN! SW UK)
 (mAr:YH K "_law_all_reached" xg oy! TX VA)
 (hW:GI K "law" kT cO cQ)
 (cC:uV K C)
 (nC0:F4! Dd!)
 (nC1:F4! Cp!)
 (nC2:F4! BD!)
 (nC3:F4! Bh!)
 (nC4:F4! BE!)
 (nC5:F4! BF!)
 (nC6:F4! Bi!)
 (cCW:uV K CW)
 (nCW0:SJ! Cq!)
 (nCW1:SJ! EJ!)
 (nCW2:SJ! BH!)
 (nCW3:SJ! Df!)
 (nCW4:SJ! LL!)
 (nCW5:SJ! Oy!)
 (cCP:uV K CP)
 (nCP0:EK! W.findIn (V! CP) LK! none)
 (nCP1:EK! W.findIn (V! CP) Ow! none)
 (cCI:uV K CI)
 (nCI0:jO! Fo!)
 (nCI1:jO! Dx!)
 (nCI2:jO! Hb!)
 (nCI3:jO! JP!)
 (z0:Et! "len")
 (z1:Et! CB!)
 (z2:Et! Bd!)
 (z3:Et! "sorted")
 (z4:Et! "isinstance")
 (z5:Et! AH!)
 (z6:Et! Da!)
 (z7:Et! "max")
 (z8:Et! "int")
 (z9:Et! "bool")
 (z10:Et! "min")
 (z11:Et! Ir!),R
def xS(P:Program)(w:World)(K:W.Frag)(mg:q?)(base:Heap)(C CW CP CI HE NH LG MQ MI NW NL NI NR d_ RK QS eW TH SU TU TZ WY WN TR SQ WD WU WG WL WQ W_ WV WZ TB TJ SO WK WM WE WR WS WO SM NG LR LV LU LQ NA WC MY M_ NF ND NJ MZ WT WJ TV RL WX WW S_ SY SX KQ NM NK NB NN NC SN WH SR TM SS TC TN TL TK SV TY TQ SW TX cO:Addr)(eZ UI RM eY UR UH U_ VC XY XM UZ UD XC XT XE XI XO X_ XU XZ UP US UC XH XJ XD XQ XR XN UA NY LX LZ LY LW NS XB NO NQ NX NV NZ NP XS XG U' UO XX XW UN UM UL KR N' N_ NT OA NU UB XF UE UW UG UQ UX UU UT UJ VB UY UK VA cQ:FuncData):Prop:=Gl (tE! aL 12 cO cQ Jm! St!) K mg C CW CP CI HE NH LG MQ MI NW NL NI NR d_ RK QS eW TH SU TU TZ WY WN TR SQ WD WU WG WL WQ W_ WV WZ TB TJ SO WK WM WE WR WS WO SM NG LR LV LU LQ NA WC MY M_ NF ND NJ MZ WT WJ TV RL WX WW S_ SY SX KQ NM NK NB NN NC SN WH SR TM SS TC TN TL TK SV TY TQ SW TX cO eZ UI RM eY UR UH U_ VC XY XM UZ UD XC XT XE XI XO X_ XU XZ UP US UC XH XJ XD XQ XR XN UA NY LX LZ LY LW NS XB NO NQ NX NV NZ NP XS XG U' UO XX XW UN UM UL KR N' N_ NT OA NU UB XF UE UW UG UQ UX UU UT UJ VB UY UK VA cQ
abbrev Ev:Type:=Program×World×W.Frag×Wr!×Heap×Addr×wc! (wc! (wc! ((J9!)×(Nat->FuncData))))
def uM(e:Ev):Prop:=xS e.1 e.2.1 e.2.2.1 e.2.2.2.1 e.2.2.2.2.1 e.2.2.2.2.2.1 e.2.2.2.2.2.2.1 e.2.2.2.2.2.2.2.1 e.2.2.2.2.2.2.2.2.1 e.2.2.2.2.2.2.2.2.2.1 e.2.2.2.2.2.2.2.2.2.2.1 e.2.2.2.2.2.2.2.2.2.2.2.1 e.2.2.2.2.2.2.2.2.2.2.2.2.1 e.2.2.2.2.2.2.2.2.2.2.2.2.2.1 e.2.2.2.2.2.2.2.2.2.2.2.2.2.2.1 e.2.2.2.2.2.2.2.2.2.2.2.2.2.2.2.1 e.2.2.2.2.2.2.2.2.2.2.2.2.2.2.2.2.1 e.2.2.2.2.2.2.2.2.2.2.2.2.2.2.2.2.2.1 (R! 0) (R! 1) (R! 2) (R! 3) (R! 4) (R! 5) (R! 6) (R! 7) (R! 8) (R! 9) (R! 10) (R! 11) (R! 12) (R! 13) (R! 14) (R! 15) (R! 16) (R! 17) (R! 18) (R! 19) (R! 20) (R! 21) (R! 22) (R! 23) (R! 24) (R! 25) (R! 26) (R! 27) (R! 28) (R! 29) (R! 30) (R! 31) (R! 32) (R! 33) (R! 34) (R! 35) (R! 36) (R! 37) (R! 38) (R! 39) (R! 40) (R! 41) (R! 42) (R! 43) (R! 44) (R! 45) (R! 46) (R! 47) (R! 48) (R! 49) (R! 50) (R! 51) (R! 52) (R! 53) (R! 54) (R! 55) (R! 56) (R! 57) (R! 58) (R! 59) (R! 60) (R! 61) (R! 62) (R! 63) (R! 64) (R! 65) (R! 66) (R! 67) (R! 68) (R! 69) (R! 70) (R! 71) (R! 72) (O! 0) (O! 1) (O! 2) (O! 3) (O! 4) (O! 5) (O! 6) (O! 7) (O! 8) (O! 9) (O! 10) (O! 11) (O! 12) (O! 13) (O! 14) (O! 15) (O! 16) (O! 17) (O! 18) (O! 19) (O! 20) (O! 21) (O! 22) (O! 23) (O! 24) (O! 25) (O! 26) (O! 27) (O! 28) (O! 29) (O! 30) (O! 31) (O! 32) (O! 33) (O! 34) (O! 35) (O! 36) (O! 37) (O! 38) (O! 39) (O! 40) (O! 41) (O! 42) (O! 43) (O! 44) (O! 45) (O! 46) (O! 47) (O! 48) (O! 49) (O! 50) (O! 51) (O! 52) (O! 53) (O! 54) (O! 55) (O! 56) (O! 57) (O! 58) (O! 59) (O! 60) (O! 61) (O! 62) (O! 63) (O! 64) (O! 65) (O! 66) (O! 67) (O! 68) (O! 69) (O! 70) (O! 71) (O! 72)
theorem Jli:Nonempty Ev:=⟨default,A! (λ_ _=>0) { strHash:=λ_=>0,shareClass:=λ_=>0,mergeTok:=id,idOf:=λ_=>0,idOfShared:=λ_ _=>0,followText:=λ_=>false,idOfImm:=λ_=>0 },[],Ok!,default,0,0,0,0,0,0,0,0,0,0,0,0,0,λ_=>0,λ_=>default⟩
@[irreducible] noncomputable def e0:Ev:=@Classical.epsilon Ev Jli λe=>¬uM e
theorem Jkf{α:Type}(ne:Nonempty α)(p:Di! α)(x:α)(e:x=@Classical.epsilon α ne λa=>¬p a)(h:p x)(a:α):p a:=QV! (λn=>by subst e;exact Classical.epsilon_spec (p:=λa=>¬p a) (A! a n) h)
theorem Jhk(h:uM e0)(e:Ev):uM e:=Jkf Jli uM e0 (by unfold e0;rfl) h e
noncomputable def P:Program:=e0.1
noncomputable def w:World:=e0.2.1
noncomputable def K:W.Frag:=e0.2.2.1
noncomputable def mg:Wr!:=e0.2.2.2.1
noncomputable def base:Heap:=e0.2.2.2.2.1
noncomputable def C:Addr:=e0.2.2.2.2.2.1
noncomputable def CW:Addr:=e0.2.2.2.2.2.2.1
noncomputable def CP:Addr:=e0.2.2.2.2.2.2.2.1
noncomputable def CI:Addr:=e0.2.2.2.2.2.2.2.2.1
noncomputable def HE:Addr:=e0.2.2.2.2.2.2.2.2.2.1
noncomputable def NH:Addr:=e0.2.2.2.2.2.2.2.2.2.2.1
noncomputable def LG:Addr:=e0.2.2.2.2.2.2.2.2.2.2.2.1
noncomputable def MQ:Addr:=e0.2.2.2.2.2.2.2.2.2.2.2.2.1
noncomputable def MI:Addr:=e0.2.2.2.2.2.2.2.2.2.2.2.2.2.1
noncomputable def NW:Addr:=e0.2.2.2.2.2.2.2.2.2.2.2.2.2.2.1
noncomputable def NL:Addr:=e0.2.2.2.2.2.2.2.2.2.2.2.2.2.2.2.1
noncomputable def NI:Addr:=e0.2.2.2.2.2.2.2.2.2.2.2.2.2.2.2.2.1
noncomputable def NR:Addr:=e0.2.2.2.2.2.2.2.2.2.2.2.2.2.2.2.2.2.1
noncomputable def d_:Addr:=Q! 0
noncomputable def RK:Addr:=Q! 1
noncomputable def QS:Addr:=Q! 2
noncomputable def eW:Addr:=Q! 3
noncomputable def TH:Addr:=Q! 4
noncomputable def SU:Addr:=Q! 5
noncomputable def TU:Addr:=Q! 6
noncomputable def TZ:Addr:=Q! 7
noncomputable def WY:Addr:=Q! 8
noncomputable def WN:Addr:=Q! 9
noncomputable def TR:Addr:=Q! 10
noncomputable def SQ:Addr:=Q! 11
noncomputable def WD:Addr:=Q! 12
noncomputable def WU:Addr:=Q! 13
noncomputable def WG:Addr:=Q! 14
noncomputable def WL:Addr:=Q! 15
noncomputable def WQ:Addr:=Q! 16
noncomputable def W_:Addr:=Q! 17
noncomputable def WV:Addr:=Q! 18
noncomputable def WZ:Addr:=Q! 19
noncomputable def TB:Addr:=Q! 20
noncomputable def TJ:Addr:=Q! 21
noncomputable def SO:Addr:=Q! 22
noncomputable def WK:Addr:=Q! 23
noncomputable def WM:Addr:=Q! 24
noncomputable def WE:Addr:=Q! 25
noncomputable def WR:Addr:=Q! 26
noncomputable def WS:Addr:=Q! 27
noncomputable def WO:Addr:=Q! 28
noncomputable def SM:Addr:=Q! 29
noncomputable def NG:Addr:=Q! 30
noncomputable def LR:Addr:=Q! 31
noncomputable def LV:Addr:=Q! 32
noncomputable def LU:Addr:=Q! 33
noncomputable def LQ:Addr:=Q! 34
noncomputable def NA:Addr:=Q! 35
noncomputable def WC:Addr:=Q! 36
noncomputable def MY:Addr:=Q! 37
noncomputable def M_:Addr:=Q! 38
noncomputable def NF:Addr:=Q! 39
noncomputable def ND:Addr:=Q! 40
noncomputable def NJ:Addr:=Q! 41
noncomputable def MZ:Addr:=Q! 42
noncomputable def WT:Addr:=Q! 43
noncomputable def WJ:Addr:=Q! 44
noncomputable def TV:Addr:=Q! 45
noncomputable def RL:Addr:=Q! 46
noncomputable def WX:Addr:=Q! 47
noncomputable def WW:Addr:=Q! 48
noncomputable def S_:Addr:=Q! 49
noncomputable def SY:Addr:=Q! 50
noncomputable def SX:Addr:=Q! 51
noncomputable def KQ:Addr:=Q! 52
noncomputable def NM:Addr:=Q! 53
noncomputable def NK:Addr:=Q! 54
noncomputable def NB:Addr:=Q! 55
noncomputable def NN:Addr:=Q! 56
noncomputable def NC:Addr:=Q! 57
noncomputable def SN:Addr:=Q! 58
noncomputable def WH:Addr:=Q! 59
noncomputable def SR:Addr:=Q! 60
noncomputable def TM:Addr:=Q! 61
noncomputable def SS:Addr:=Q! 62
noncomputable def TC:Addr:=Q! 63
noncomputable def TN:Addr:=Q! 64
noncomputable def TL:Addr:=Q! 65
noncomputable def TK:Addr:=Q! 66
noncomputable def SV:Addr:=Q! 67
noncomputable def TY:Addr:=Q! 68
noncomputable def TQ:Addr:=Q! 69
noncomputable def SW:Addr:=Q! 70
noncomputable def TX:Addr:=Q! 71
noncomputable def cO:Addr:=Q! 72
noncomputable def eZ:FuncData:=P! 0
noncomputable def UI:FuncData:=P! 1
noncomputable def RM:FuncData:=P! 2
noncomputable def eY:FuncData:=P! 3
noncomputable def UR:FuncData:=P! 4
noncomputable def UH:FuncData:=P! 5
noncomputable def U_:FuncData:=P! 6
noncomputable def VC:FuncData:=P! 7
noncomputable def XY:FuncData:=P! 8
noncomputable def XM:FuncData:=P! 9
noncomputable def UZ:FuncData:=P! 10
noncomputable def UD:FuncData:=P! 11
noncomputable def XC:FuncData:=P! 12
noncomputable def XT:FuncData:=P! 13
noncomputable def XE:FuncData:=P! 14
noncomputable def XI:FuncData:=P! 15
noncomputable def XO:FuncData:=P! 16
noncomputable def X_:FuncData:=P! 17
noncomputable def XU:FuncData:=P! 18
noncomputable def XZ:FuncData:=P! 19
noncomputable def UP:FuncData:=P! 20
noncomputable def US:FuncData:=P! 21
noncomputable def UC:FuncData:=P! 22
noncomputable def XH:FuncData:=P! 23
noncomputable def XJ:FuncData:=P! 24
noncomputable def XD:FuncData:=P! 25
noncomputable def XQ:FuncData:=P! 26
noncomputable def XR:FuncData:=P! 27
noncomputable def XN:FuncData:=P! 28
noncomputable def UA:FuncData:=P! 29
noncomputable def NY:FuncData:=P! 30
noncomputable def LX:FuncData:=P! 31
noncomputable def LZ:FuncData:=P! 32
noncomputable def LY:FuncData:=P! 33
noncomputable def LW:FuncData:=P! 34
noncomputable def NS:FuncData:=P! 35
noncomputable def XB:FuncData:=P! 36
noncomputable def NO:FuncData:=P! 37
noncomputable def NQ:FuncData:=P! 38
noncomputable def NX:FuncData:=P! 39
noncomputable def NV:FuncData:=P! 40
noncomputable def NZ:FuncData:=P! 41
noncomputable def NP:FuncData:=P! 42
noncomputable def XS:FuncData:=P! 43
noncomputable def XG:FuncData:=P! 44
noncomputable def U':FuncData:=P! 45
noncomputable def UO:FuncData:=P! 46
noncomputable def XX:FuncData:=P! 47
noncomputable def XW:FuncData:=P! 48
noncomputable def UN:FuncData:=P! 49
noncomputable def UM:FuncData:=P! 50
noncomputable def UL:FuncData:=P! 51
noncomputable def KR:FuncData:=P! 52
noncomputable def N':FuncData:=P! 53
noncomputable def N_:FuncData:=P! 54
noncomputable def NT:FuncData:=P! 55
noncomputable def OA:FuncData:=P! 56
noncomputable def NU:FuncData:=P! 57
noncomputable def UB:FuncData:=P! 58
noncomputable def XF:FuncData:=P! 59
noncomputable def UE:FuncData:=P! 60
noncomputable def UW:FuncData:=P! 61
noncomputable def UG:FuncData:=P! 62
noncomputable def UQ:FuncData:=P! 63
noncomputable def UX:FuncData:=P! 64
noncomputable def UU:FuncData:=P! 65
noncomputable def UT:FuncData:=P! 66
noncomputable def UJ:FuncData:=P! 67
noncomputable def VB:FuncData:=P! 68
noncomputable def UY:FuncData:=P! 69
noncomputable def UK:FuncData:=P! 70
noncomputable def VA:FuncData:=P! 71
noncomputable def cQ:FuncData:=P! 72
structure Txt:Prop where
 cl:bO K C
 nN:F6! Dd!
 nM:F6! Cp!
 nT:F6! BD!
 nH:F6! Bh!
 nO:F6! BE!
 nL:F6! BF!
 nR:F6! Bi!
 jB:fM! "House" C
 qt:If! "NotHeld" LG
 qr:If! "NotNear" MQ
 cMI:If! "Missing" MI
 cNW:If! "NoWeight" NW
 len:ZJ!
 range:C7! CB!
 tuple:C7! Bd!
 sorted:jY!
 aG:C7! "isinstance"
structure M8:Prop where
 cl:bO K CP
 nL:EN K CP LK!
 nW:EN K CP Ow!
 jB:fM! "Post" CP
 cNL:If! "NoLetter" NL
 list:C7! AH!
structure Gd:Prop where
 cl:bO K CW
 nS:SQ! Cq!
 nH:SQ! EJ!
 nP:SQ! BH!
 nI:SQ! Df!
 nF:SQ! LL!
 nE:SQ! Oy!
 jB:fM! "World" CW
 cNH:If! "NoHouse" NH
structure t_:Prop where
 dict:C7! Da!
 list:C7! AH!
 max:C7! "max"
structure Jpi:Prop where
 tuple:C7! Bd!
 sorted:jY!
structure Xh:Prop where
 cl:bO K CI
 nM:EN K CI Fo!
 nS:EN K CI Dx!
 nF:EN K CI Hb!
 nT:EN K CI JP!
 jB:fM! "Inquiry" CI
structure nC(cls:Addr)(n:Nat):Prop where
 lt:n<8
 sub:bZ! cls
 isX:qA K cls
 k0:Kq! NH 0
 k1:Kq! LG 1
 k2:Kq! MQ 2
 k3:Kq! MI 3
 k4:Kq! NW 4
 k5:Kq! NL 5
 k6:Kq! NI 6
 k7:Kq! NR 7
 kV:c6! cls
abbrev EG := EW P w K mg base aL
abbrev GB := EW P w K mg base Es!
structure GG:Prop where
 T:Txt
 TW:Gd
 TP:M8
 TI:Xh
 TF:Jpi
 Tx:t_
 y5:C7! AH!
 y1:C7! CB!
 y7:C7! "max"
 y0:ZJ!
 y2:C7! Bd!
 y3:jY!
 ub:C7! "min"
 ua:C7! Ir!
 FI:M7! uE! Yi d_ eZ
 bI:Lr! eZ Mv!
 p9:GL! C d_
 uT:M7! uF! Qf RK UI
 xH:Lr! UI sB
 lV:GL! CP RK
 uS:M7! "World.__init__" Vi QS RM
 tV:Lr! RM Tr!
 iy:GL! CW QS
 mM:JG! JF! uG! Yg eW eY
 mFr:Ra! HT! uH! Yk TH UR
 mPa:CT K C "part" uI! Yf NH! SU UH
 mCa:JZ! "came" uJ! Ym TU U_
 mAd:JZ! "added" uK! Ql TZ VC
 mGi:JZ! "given" uL! Qi WY XY
 mPs:CT K C "passed" uM! Lv OQ! WN XM
 mCl:JG! JH! uN! Qj TR UZ
 mSt:rm! SQ UD
 mTo:dv! VE! uO! Yc WD XC
 mNe:xL! WU XT
 mSp:dv! uP! uQ! Qd WG XE
 mQH:xS! WL XI
 mPR:Ra! uS! uT! Qe WQ XO
 mAR:rt! W_ X_
 mLo:r7! WV XU
 mGb:rn! WZ XZ
 mHo:JY! AT uU! Yj TB UP
 mDr:JY! HV! uW! Yl TJ US
 mTa:JY! HW! uX! Ye SO UC
 mQN:xr! WK XH
 mQG:rs! WM XJ
 mTi:JG! "tick" uY! Yd WE XD
 mPP:xT! WR XQ
 mPL:CT K CP PK! ua! Hi sB WS XR
 mPT:CT K CP "taken" ub! Lw D8! WO XN
 mWM:La! JF! "World.make" Vh SM UA
 mWFr:FR! HT! "World.free" Vk R2! NG NY
 mWSe:FR! VH! "World.send" Vg SN! LR LX
 mWCl:La! JH! "World.clean" Ph LV LZ
 mWDe:FR! uc! "World.deliver" Kd D8! LU LY
 mWSt:La! VD! "World.state" Pg LQ LW
 mWLe:FR! PK! "World.letters" Kc sB NA NS
 mWH:xI! WC XB
 mWWe:Cc! ud! ue! Jo MY NO
 mWPa:Cc! uf! ug! Qc M_ NQ
 mWGb:sl! NF NX
 mWHo:Rr! AT "World.hold" Vj ND NV
 mWDr:Rr! HV! "World.drop" Vl NJ NZ
 mWTa:Rr! HW! "World.take" Vf MZ NP
 mP1:Bs! VM! Ke Ma! WT XS
 mR1:Bs! Lg! Fn Gg! WJ XG
 mC1:Bs! uh! uP cB! TV U'
 uU:M7! ui! Qh RL UO
 xI:Lr! UO Mw!
 lW:GL! CI RL
 mIF:CT K CI "first" uj! Ly Oe! WX XX
 mIS:CT K CI "second" uk! Js Nl! WW XW
 mIL:Su! "still" ul! Lx S_ UN
 mIR:Su! "result" um! Jt SY UM
 mLH:v4! HY! up! Yh SX UL
 mWAs:La! Bc! "World.ask" uQ KQ KR
 mWAc:Cc! uq! ur! Hf NM N'
 mWAn:Cc! us! ut! E3 NK N_
 mWLc:Cc! uu! uv! He NB NT
 mWAa:sm! NN OA
 mWLa:FR! ux! uy! Jp Ob! NC NU
 mUn:jX! eC! F4 SN UB
 mRc:jX! eD! Hh WH XF
 mSm:Bs! "_law_stream" Vm ow! SR UE
 mCs:Bs! u1! Vo XH! TM UW
 mPk:Bs! "_law_pick" xn cm! SS UG
 mHb:Bs! "_law_held_by" Vn ox! TC UQ
 mCo:jW! "_law_come" xi VR! TN UX
 mDe:Bs! "_law_deed" xj rU! TL UU
 mDn:jW! "_law_done" xk VT! TK UT
 mNx:Bs! "_law_next" yB cC! SV UJ
 mAl:jW! "_law_all_come" Qk VQ! TY VB
 mCm:Bs! "_law_calm" xh dH! TQ UY
 mLf:jW! "_law_left" xm JN! SW UK
 mAr:Bs! "_law_all_reached" xg oy! TX VA
 FW:FR K "law" "law" kT cO cQ
 X1:nC LG 1
 X2:nC MQ 2
 X3:nC MI 3
 X4:nC NW 4
 cHE:If! "HoldError" HE
 cNI:If! "NoInquiry" NI
 cNR:If! "NoRow" NR
theorem Jo1(k:GG->EG 12 cO cQ Jm! St!):xS P w K mg base C CW CP CI HE NH LG MQ MI NW NL NI NR d_ RK QS eW TH SU TU TZ WY WN TR SQ WD WU WG WL WQ W_ WV WZ TB TJ SO WK WM WE WR WS WO SM NG LR LV LU LQ NA WC MY M_ NF ND NJ MZ WT WJ TV RL WX WW S_ SY SX KQ NM NK NB NN NC SN WH SR TM SS TC TN TL TK SV TY TQ SW TX cO eZ UI RM eY UR UH U_ VC XY XM UZ UD XC XT XE XI XO X_ XU XZ UP US UC XH XJ XD XQ XR XN UA NY LX LZ LY LW NS XB NO NQ NX NV NZ NP XS XG U' UO XX XW UN UM UL KR N' N_ NT OA NU UB XF UE UW UG UQ UX UU UT UJ VB UY UK VA cQ:=by intro h X Gn aC aCW aCP aCI aHE aNH aNHd aNNr aMI aNW aNL aNI aNR q3 q4 xNH xNHd xNNr xMI xNW xNL xNI xNR xHE sNHd qaNHd qbNHd qcNHd qdNHd qeNHd tNHdNH tNHdNNr tNHdMI tNHdNW tNHdNL tNHdNI tNHdNR tNHdV sNNr qaNNr qbNNr qcNNr qdNNr qeNNr tNNrNH tNNrNHd tNNrMI tNNrNW tNNrNL tNNrNI tNNrNR tNNrV sMI qaMI qbMI qcMI qdMI qeMI tMINH tMINHd tMINNr tMINW tMINL tMINI tMINR tMIV sNW qaNW qbNW qcNW qdNW qeNW tNWNH tNWNHd tNWNNr tNWMI tNWNL tNWNI tNWNR tNWV hI hPI hWI mM mFr mPa mCa mAd mGi mPs mCl mSt mTo mNe mSp mQH mPR mAR mLo mGb mHo mDr mTa mQN mQG mTi mPP mPL mPT mWM mWFr mWSe mWCl mWDe mWSt mWLe mWH mWWe mWPa mWGb mWHo mWDr mWTa mP1 mR1 mC1 hII mIF mIS mIL mIR mLH mWAs mWAc mWAn mWLc mWAa mWLa mUn mRc mSm mCs mPk mHb mCo mDe mDn mNx mAl mCm mLf mAr hW cC nC0 nC1 nC2 nC3 nC4 nC5 nC6 cCW nCW0 nCW1 nCW2 nCW3 nCW4 nCW5 cCP nCP0 nCP1 cCI nCI0 nCI1 nCI2 nCI3 z0 z1 z2 z3 z4 z5 z6 z7 z8 z9 z10 z11;have y0:=Eu! z0;have y1:=Eu! z1;have y2:=Eu! z2;have y3:=Eu! z3;have y4:=Eu! z4;have y5:=Eu! z5;have y6:=Eu! z6;have y7:=Eu! z7;have y8:=Eu! z8;have y9:=Eu! z9;have ub:=Eu! z10;have ua:=Eu! z11;have gC:=EC! aC;obtain⟨pgC,hdC,poC,saC,mkC,kcC⟩:=cC;have gCW:=EC! aCW;obtain⟨yc,zN,yZ,yR,yu,yz⟩:=cCW;have gCP:=EC! aCP;obtain⟨yd,zO,ya,yS,yv,y_⟩:=cCP;have gCI:=EC! aCI;obtain⟨ye,zP,yb,yT,yw,zA⟩:=cCI;have gHE:=EC! aHE;have gNH:=EC! aNH;have zT:=EC! aNHd;have zS:=EC! aNNr;have gMI:=EC! aMI;have gNW:=EC! aNW;have gNL:=EC! aNL;have gNI:=EC! aNI;have gNR:=EC! aNR;obtain⟨aI,iI,FI⟩:=hI;have bI:=se! Mv! aI iI FI;have p9:GL! C d_:=⟨mkC,aI,iI,kcC⟩;obtain⟨aPI,iPI,uT⟩:=hPI;have xH:=se! sB aPI iPI uT;have lV:GL! CP RK:=⟨yv,aPI,iPI,y_⟩;obtain⟨aWI,iWI,uS⟩:=hWI;have tV:=se! Tr! aWI iWI uS;have iy:GL! CW QS:=⟨yu,aWI,iWI,yz⟩;obtain⟨aII,iII,uU⟩:=hII;have xI:=se! Mw! aII iII uU;have lW:GL! CI RL:=⟨yw,aII,iII,zA⟩;exact k ⟨⟨⟨pgC,hdC,poC,saC⟩,nC0,nC1,nC2,nC3,nC4,nC5,nC6,gC,A! zT xNHd,A! zS xNNr,A! gMI xMI,A! gNW xNW,y0,y1,y2,y3,y4⟩,⟨⟨yc,zN,yZ,yR⟩,nCW0,nCW1,nCW2,nCW3,nCW4,nCW5,gCW,A! gNH xNH⟩,⟨⟨yd,zO,ya,yS⟩,nCP0,nCP1,gCP,A! gNL xNL,y5⟩,⟨⟨ye,zP,yb,yT⟩,nCI0,nCI1,nCI2,nCI3,gCI⟩,A! y2 y3,⟨y6,y5,y7⟩,y5,y1,y7,y0,y2,y3,ub,ua,FI,bI,p9,uT,xH,lV,uS,tV,iy,mM,mFr,mPa,mCa,mAd,mGi,mPs,mCl,mSt,mTo,mNe,mSp,mQH,mPR,mAR,mLo,mGb,mHo,mDr,mTa,mQN,mQG,mTi,mPP,mPL,mPT,mWM,mWFr,mWSe,mWCl,mWDe,mWSt,mWLe,mWH,mWWe,mWPa,mWGb,mWHo,mWDr,mWTa,BZ! mP1.aQ,BZ! mR1.aQ,BZ! mC1.aQ,uU,xI,lW,mIF,mIS,mIL,mIR,mLH,mWAs,mWAc,mWAn,mWLc,mWAa,mWLa,BZ! mUn.aQ,BZ! mRc.aQ,BZ! mSm.aQ,BZ! mCs.aQ,BZ! mPk.aQ,BZ! mHb.aQ,BZ! mCo.aQ,BZ! mDe.aQ,BZ! mDn.aQ,BZ! mNx.aQ,BZ! mAl.aQ,BZ! mCm.aQ,BZ! mLf.aQ,BZ! mAr.aQ,hW.fn,sc! sNHd qaNHd qbNHd qcNHd qdNHd qeNHd qdNHd tNHdNH Ml tNHdNNr tNHdMI tNHdNW tNHdNL tNHdNI tNHdNR tNHdV,sc! sNNr qaNNr qbNNr qcNNr qdNNr qeNNr qdNNr tNNrNH tNNrNHd Ml tNNrMI tNNrNW tNNrNL tNNrNI tNNrNR tNNrV,sc! sMI qaMI qbMI qcMI qdMI qeMI qdMI tMINH tMINHd tMINNr Ml tMINW tMINL tMINI tMINR tMIV,sc! sNW qaNW qbNW qcNW qdNW qeNW qdNW tNWNH tNWNHd tNWNNr tNWMI Ml tNWNL tNWNI tNWNR tNWV,A! gHE xHE,A! gNI xNI,A! gNR xNR⟩
inductive U8(vs:C!)(H:Hp)(Q:VK)(E:XK):Prop
 | mk (p t:Addr) (G:BM) (th:T2) (_:GV!) (_:Q?) (_:Ex!) (_:Q (bY! (th.1=G.BJ)) H)
inductive Lr(vs:C!)(H:Hp)(Q:VK)(E:XK):Prop
 | mk (p t:Addr) (G:BM) (th:T2) (_:GV!) (_:Q?) (_:Ex!) (_:((th∈G.hand/\Q .FG H)\/(th∉G.hand/\HL! LG)))
inductive U7(vs:C!)(H:Hp)(Q:VK)(E:XK):Prop
 | mk (p t:Addr) (G:BM) (th:T2) (_:GV!) (_:Q?) (_:Ex!) (_:((th.1=G.BJ/\Q .FG H)\/(th.1≠G.BJ/\HL! MQ)))
def Xk(G:BM)(ta tb:T2)(good:Uf Addr D!)(nh nn mi:Prop):Prop :=
 (vA!/\nh)\/(AQ!/\Xa!/\nn)\/(AQ!/\D3!/\∃(a:Addr)(hl:D!),Yp! (q.1=ta)=some (ta,a,hl)/\((tb∉hl/\mi)\/(tb∈hl/\good a hl)))
inductive P6(vs:C!)(H:Hp)(Q:VK)(E:XK):Prop
 | mk (p a b:Addr) (G:BM) (ta tb:T2) (_:p7!) (_:Q?) (_:E7!) (_:KB) (_:Xk G ta tb (λ_ _=>Q .FG H) (Ii! LG) (Ii! MQ) (Ii! MI))
universe S
theorem scN:cO! Jr:={}
theorem Vv(F:h! "is_near" "House.is_near" Jr)(T:Txt):Bt! G6! U8:=by refine f? scN;obtain⟨p,t,G,th,rfl,S,ht,k⟩:=h;refine X!;obtain⟨dx,hp⟩:=S.ob;refine FA! (Jmh (Jmj Ix! (Aq O? rfl)));exact m? ⟨t,_,0,_,rfl,rfl,NE ht,rfl,_,rfl,p,C,dx,_,_,rfl,hp,T.cl,T.nN,T4 G,_,_,rfl,rfl,k⟩
theorem Gk(hd:GN! d l)(ht:Ex!):TN! (xw! (th∈l)):=HP! bA! Gy
theorem Jqj:cO! Gs:={}
theorem Mc(F:h! "need_in_hand" "House.need_in_hand" Gs)(T:Txt):fK! f fd Lr:=by
 refine Au! Jqj;obtain⟨p,t,G,th,rfl,S,ht,k⟩:=h;refine X!;have hu:=a?;obtain⟨dx,hp⟩:=S.ob;refine Ct! (Af (Bl (El (Eh hu z! g?)) (UT! T.qt) Bb));refine oh! dx hp T.nH (Fz G) G.h _ (Gk S.dh ht);rcases k with⟨h,k⟩|⟨h,k⟩;.rw[Ar!];exact Cu k
 .rw[BV!];exact Cy k
universe E
universe S
theorem Jqi:cO! Jq:={}
theorem Y5(F:h! "need_near" "House.need_near" Jq)(T:Txt)(M1:Oh!):j1! G6! U7:=by
 have G1:fK! f1 hZ U8:=Rp! Vv M1.fn T;refine Au! Jqi;obtain⟨p,t,G,th,rfl,S,ht,k⟩:=h;refine X!;have hu:=a?;obtain⟨dx,hp⟩:=S.ob;refine Ct! (Af (Bl (Vr (F5 (w6! T.cl M1.mt G1 hr M1.bd))) (UT! T.qr) Bb));refine⟨_,rfl,p,dx,_,rfl,hp,SZ,_,rfl,p,t,G,th,rfl,S,ht,_,rfl,?_⟩;rcases k with⟨h,k⟩|⟨h,k⟩;.rw[RL!];exact Cu k
 .rw[X4!];exact Cy k
theorem Jn8:pZ! Kf:={}
theorem N0(S:Q?)(ht:Ex!)(f:RC! (Yp! Hu!) th):EL H G.l JK! (some (V.ref a))/\GN! a hl/\(th,a,hl)∈G.holds:=by have:=vw! S.dl;rw[ca!,f] at this;exact⟨this,S.hl _ (AY f),AY f⟩
theorem Tj(F:h! "need_holding" "House.need_holding" Kf)(T:Txt)(M1:Oh!)(M2:UF!)(M3:qy!):Sf! EP! P6:=by
 have G2:rD!:=pz!;have G3:Op 2 f3 pN G6! U7:=Y5 M3.fn T M1;refine Au! Jn8;obtain⟨p,a,b,G,ta,tb,rfl,S,ha,hb,k⟩:=h;refine X!;have hu:=a?;have GC:lc:=W?;obtain⟨dx,hp⟩:=S.ob;refine Ie! (vT! T.cl M2.mt G2 M2.bd) (Ad (TO! T.cl M3.mt G3 hr M3.bd ES!) (Af (i4! W! S5! (UT! T.cMI))));refine tm! a ta ha;rcases k with⟨h,k⟩|⟨h,h2,k⟩|⟨h,h2,ad,hl,az,k⟩;.exact Yh! h
 .refine tr! h a ta ha (Yh! h2)
 .obtain⟨g1,g2,g3⟩:=N0 S ha az;refine tr! h a ta ha (X2! h2);refine⟨_,rfl,_,rfl,p,C,dx,_,_,rfl,hp,T.cl,T.nL,Ep G,_,rfl,G.l,_,rfl,g1,ad,_,rfl,Gk g2 hb,_,rfl,?_⟩;rcases k with⟨h3,k⟩|⟨h3,k⟩;(.rw[AB h3];exact Cy k);.rw[AE h3];exact Cu k
universe E
universe S
def Done(p:Addr)(G:BM)(H:Hp)(G':BM)(k:Rq!):Prop:=∀H',KK! G'->Zt!->k H'
inductive Va(vs:C!)(H:Hp)(Q:VK)(E:XK):Prop
 | mk (p a b:Addr) (G:BM) (ta tb:T2) (_:p7!) (_:Q?) (_:E7!) (_:KB) (_:vN! (¬(AQ!/\wp)) LG ((AQ!/\wp/\Xa!/\HL! MQ)\/(AQ!/\wp/\D3!/\∃(ad:Addr)(hl:D!),Yp! (q.1=ta)=some (ta,ad,hl)/\vL! 500/\E3! { G with AX:=Bo!,holds:=Jn G.holds ad jp! })))
inductive Vc(vs:C!)(H:Hp)(Q:VK)(E:XK):Prop
 | mk (p a b:Addr) (G:BM) (ta tb:T2) (_:p7!) (_:Q?) (_:E7!) (_:KB) (_:Xk G ta tb (λad hl=>E3! { G with AX:=Bo!,holds:=Jn G.holds ad lc! }) (Ii! LG) (Ii! MQ) (Ii! MI))
inductive U6(vs:C!)(H:Hp)(Q:VK)(E:XK):Prop
 | mk (p a b:Addr) (G:BM) (ta tb:T2) (_:p7!) (_:Q?) (_:E7!) (_:KB) (_:Xf!) (_:Xk G ta tb (λ_ _=>E3! { G with AX:=Bo!,hand:=Fc! }) (Ii! LG) (Ii! MQ) (Ii! MI))
inductive Vb(vs:C!)(H:Hp)(Q:VK)(E:XK):Prop
 | mk (p b:Addr) (G:BM) (tb:T2) (_:vs=[Go,CK!]) (_:Q?) (_:KB) (_:((Vf!/\HL! LG)\/(wp/\E3! { G with AX:=Bo!,hand:=Y6! })))
theorem Fe(hd:d∈BN!)(hf:BL G1=BL G)(e:H1=upd H d o)(S1:Cy! H1 G1)(D:Done p G H { G1 with AX:=G1.AX+1 } k) : k (upd H1 p (FY! (B4 { G1 with AX:=G1.AX+1 }))):=by refine D _ (S1.fld dx G1.AQ (G1.AX+1)) λb o' e1 h1 h2=>?_;rw[Ac h1,e,Ac (λz=>h2 (Pf! hd))];exact e1
theorem scH:pZ! Yj:={}
theorem Ub(h:q∈G.holds):K?∈BN!:=by unfold BL;exact rv! (BD h)
theorem Jjo(F:h! AT uU! Yj)(T:Txt)(M1:Oh!)(M2:UF!)(M3:qy!):Sf! EP! Va:=by
 have G2:rD!:=pz!;have G3:Op 2 f3 pN G6! U7:=Y5 M3.fn T M1;refine Au! scH;obtain⟨p,a,b,G,ta,tb,rfl,S,ha,hb,k⟩:=h;refine X!;have hu:=a?;have GC:lc:=W?;obtain⟨dx,hp⟩:=S.ob;refine Ie! (vT! T.cl M2.mt G2 M2.bd) (Ad (TO! T.cl M2.mt G2 GC M2.bd Pi!) (LP! (TO! T.cl M3.mt G3 hr M3.bd ES!) (B9 hu S5! W! Gf rfl) (ZL! Ce Ag D8)));refine tm! a ta ha;by_cases h1:AQ!;.refine tr! h1 b tb hb ?_;by_cases h2:wp;(.refine tr! h2 a ta ha ?_;rcases k with⟨h,k⟩|⟨_,_,h,k⟩|⟨_,_,h,ad,hl,az,z,k⟩;(.exact absurd aP! h);(.exact Yh! h);.obtain⟨g1,g2,g3⟩:=N0 S ha az;refine H! ⟨h,_,rfl,p,C,dx,_,_,rfl,hp,T.cl,T.nL,Ep G,_,rfl,G.l,_,rfl,g1,_,rfl,ad,_,rfl,Kt! g2,?_⟩;rw[Ff];have S1:vq! ad jp! (my! jp!):=S.cY g3 (Bu hl tb);obtain⟨FH,IA⟩:=S1.ob;refine K9!;rw[Bn];exact Fe (G1:=my! jp!) (Ub g3) (by unfold BL;rw[Qb]) rfl S1 k);.rcases k with⟨h,k⟩|⟨_,h,_⟩|⟨_,h,_⟩;(.exact Yh! h2);(.exact Rl! h2);.exact Rl! h2
 .rcases k with⟨h,k⟩|⟨h,_⟩|⟨h,_⟩;(.exact Yh! h1);(.exact Rl! h1);.exact Rl! h1
theorem scD:pZ! Yl:={}
theorem Jjq(F:h! HV! uW! Yl)(T:Txt)(M1:Oh!)(M2:UF!)(M3:qy!)(M4:rs! f4 wM) : j2! EP! Vc:=by
 have G4:Op 3 f4 wM EP! P6:=Tj M4.fn T M1 M2 M3;refine Au! scD;obtain⟨p,a,b,G,ta,tb,rfl,S,ha,hb,k⟩:=h;refine X!;have hu:=a?;obtain⟨dx,hp⟩:=S.ob;refine Ie! (Uq! O? T.cl M4.mt G4 hr M4.bd B0 Te!) (kR! (A6 (F6 hu S5! W! C0!)));refine⟨_,rfl,p,dx,_,rfl,hp,SZ,_,rfl,_,rfl,p,a,b,G,ta,tb,rfl,S,ha,hb,?_⟩;rcases k with k|k|⟨h1,h2,ad,hl,az,k⟩;.exact DH!
 .exact AN! k
 .refine cr ⟨h1,h2,ad,hl,az,?_⟩;rcases k with k|⟨h3,k⟩;(.exact DH!);.obtain⟨g1,g2,g3⟩:=N0 S ha az;refine L! ⟨h3,_,rfl,p,C,dx,_,_,rfl,hp,T.cl,T.nL,Ep G,_,rfl,G.l,_,rfl,g1,ad,rfl,L6! g2,_,rfl,_,tk tb,_,b,g2,rfl,hb,Hn! Gy (AE h3),?_⟩;rw[Ga (k:=dj!) (f:=MT!)];have S1:vq! ad lc! (my! lc!):=S.cY g3 (Hz hl tb);obtain⟨FH,IA⟩:=S1.ob;refine K9!;rw[Bn];exact Fe (G1:=my! lc!) (Ub g3) (by unfold BL;rw[Qb]) rfl S1 k
theorem Jp9:pZ! Ye:={}
theorem Jjj(F:h! HW! uX! Ye)(T:Txt)(M1:Oh!)(M2:UF!)(M3:qy!)(M4:rs! f4 wM) : j2! EP! U6:=by
 have G4:Op 3 f4 wM EP! P6:=Tj M4.fn T M1 M2 M3;refine Au! Jp9;obtain⟨p,a,b,G,ta,tb,rfl,S,ha,hb,z,k⟩:=h;refine X!;have hu:=a?;obtain⟨dx,hp⟩:=S.ob;refine Ie! (Uq! O? T.cl M4.mt G4 hr M4.bd B0 Te!) (kR! (Vp! W! Gf));refine⟨_,rfl,p,dx,_,rfl,hp,SZ,_,rfl,_,rfl,p,a,b,G,ta,tb,rfl,S,ha,hb,?_⟩;rcases k with k|k|⟨h1,h2,ad,hl,az,k⟩;.exact DH!
 .exact AN! k
 .refine cr ⟨h1,h2,ad,hl,az,?_⟩;rcases k with k|⟨h3,k⟩;(.exact DH!);.refine L! ⟨h3,_,rfl,p,C,dx,_,_,rfl,hp,T.cl,T.nH,Fz G,_,rfl,G.h,_,rfl,Kt! S.dh,?_⟩;rw[Ff];have S1:a5! eQ! GE!:=qn! Bu;obtain⟨FH,IA⟩:=S1.ob;refine K9!;rw[Bn];exact ck! GE!
theorem uq:Y? Ll! Ll! Yk:={}
theorem Jjp(F:h! HT! uH! Yk)(T:Txt)(M2:UF!) : j1! Ll! Vb:=by
 have G2:rD!:=pz!;refine Au! uq;obtain⟨p,b,G,tb,rfl,S,hb,k⟩:=h;refine X!;have hu:=a?;obtain⟨dx,hp⟩:=S.ob;refine Ie! (w6! T.cl M2.mt G2 hr M2.bd) (kR! (A6 (F6 hu g? z! C0!)));refine tm! b tb hb;rcases k with k|⟨h,k⟩;.exact L! k
 .refine H! ⟨h,_,rfl,p,C,dx,_,_,rfl,hp,T.cl,T.nH,Fz G,G.h,rfl,L6! S.dh,_,rfl,_,tk tb,_,b,S.dh,rfl,hb,Hn! Gy Ar!,?_⟩;rw[Ga (k:=dj!) (f:=MT!)];have S1:a5! (Hz G.hand tb) (eS! Y6!):=qn! Hz;obtain⟨FH,IA⟩:=S1.ob;refine K9!;rw[Bn];exact ck! (eS! Y6!)
universe E
universe S
def Hw(n:Int):Int:=TD (n=1) 1 (n / 2)
inductive X9(vs:C!)(H:Hp)(Q:VK)(E:XK):Prop
 | mk (n:Int) (_:vs=[PO!]) (_:OI! (Bl! p .BE [T! (n-Hw n),T! (Hw n)]))
theorem scP:Y? [d5!,"goes"] Ma! Ke:={}
theorem Jdz(F:h! VM! VM! Ke):EG 1 f fd Ma! X9:=by
 refine f? scP;obtain⟨n,rfl,k⟩:=h;refine X!;refine J5! (kx! O? (iA! Ag)) (Z1! 1 scP.nd (NG! O?) (Ax (Bp (AU! (Bc Vu O? z!) z!))));refine c4! ?_;refine J0 (λc1=>?_) (λc1=>?_);.have c1:n=1:=V.int.inj (BW c1);subst c1;exact A! (d2! gp!) (λp hp=>k p hp)
 ·(have c1:¬n=1:=λz=>by rw[z] at c1;simp at c1);refine TT! _ rfl rfl Kg! ?_;refine⟨_,rfl,_,rfl,_,_,rfl,rfl,_,rfl,(d2! gp!),D0!⟩;have:=k p hp;unfold Hw at this;rw[AB c1] at this;exact this
def N3(l:Y!)(t:T2):Int:=((l.find? (sK h?)).map pu).getD 0
inductive Jbx(vs:C!)(H:Hp)(Q:VK)(E:XK):Prop
 | mk (p b:Addr) (G:BM) (tb:T2) (wt:Int) (_:vs=[Go,CK!]) (_:Q?) (_:KB) (_:Db (fG! G.AI.find?) tb wt) (_:Mh!) (_:((wt=0/\HL! NW)\/(wt≠0/\Done p G H (dx! (eu! (wt-Hw wt))) (Q (T! (Hw wt))))))
theorem Iu(hd:lY! l)(ht:Ex!):TN! ((l.find? (sK Hu!)).map Dt!):=HP! bA! qP!
theorem ki:Y? [Bv!,"b",d5!,"halves"] Ll! Qe:={}
theorem Jgt(F:h! uS! uT! Qe)(T:Txt)(MP:Bs! VM! Ke Ma! fP fdP):j1! Ll! Jbx:=by
 have GP:GB 1 fP fdP Ma! X9:=FX.EW.bC (Jdz MP.fn);refine Au! ki;obtain⟨p,b,G,tb,wt,rfl,S,hb,az,z,k⟩:=h;refine X!;have hu:=a?;obtain⟨dx,hp⟩:=S.ob;have g1:pu! G.r wt:=HP! (Iu S.dr hb) az
 refine VP! ki.nd S5! (Ad (i3! W! (UT! T.cNW)) (fL! ki.nd (Br GP hr EL! MP.mg MP.fn.kp MP.bd S! B0 Pi!) (S6! (Dh! E?)) (BO! (Dh! E?))));refine UH! dx hp T.nR (C6 G) G.r g1;refine c4! ?_;rcases k with⟨h,k⟩|⟨h,k⟩;.rw[Cm! (e0! wt 0=true) (Ju! (ww h))];exact Cy k
 .rw[Cm! (o? (e0! wt 0)) (BR! (λe=>h (V.int.inj e)))];refine At!;refine fU! wt GD!;have s1:=Vd! jD! (V.int (Hw wt)) ht;have S1:=Sl!;have t1:YM! (Bl! t .BE [jD!,V.int (Hw wt)]) t [jD!,V.int (Hw wt)]:=Ab;have b1:=G! s1 hb;generalize H8! H t [jD!,V.int (Hw wt)]=H1 at s1 S1 t1 b1;obtain⟨FH,IA⟩:=S1.ob;refine⟨_,rfl,t,_,0,_,rfl,rfl,NE t1,rfl,_,rfl,p,C,FH,_,_,rfl,IA,T.cl,T.nR,C6 G,_,rfl,G.r,_,rfl,vQ! S1.dr b1 PQ!,?_⟩;rw[E4];have S2:Cy! (Lh! G.r C4 (uz! (wt-Hw wt))) (dx! (eu! (wt-Hw wt))):=S1.ZW _;have tr:t≠G.r:=λe=>(S1.tup_ne t1).2 (by rw[e];simp[BL]);refine lw! 1 (DL.of (o! tr t1));refine fb! S2 ?_;rw[Ac UJ!];exact ET! s1
universe E
universe S
inductive yC(vs:C!)(H:Hp)(Q:VK)(E:XK):Prop
 | mk (p b:Addr) (G:BM) (tb:T2) (wt:Int) (_:n4!) (_:Q?) (_:KB) (_:Mh!) (_:E3! (dx! aq!))
theorem Jqo:pa! Tf:={}
theorem Jcc(F:h! "add_to_record" "House.add_to_record" Tf)(T:Txt):Bt! FT! yC:=by
 refine f? Jqo;obtain⟨p,b,G,tb,wt,rfl,S,hb,z,k⟩:=h;refine X!;have hu:=a?;obtain⟨dx,hp⟩:=S.ob;refine Ct! (Af (qi! (Bc Ex (Ma hu g? z! Ag C0!) W!)));have ei:((G.AI.find? (sK (q.1=tb))).map Dt!).getD (V.int 0)=V.int (N3 G.AI tb):=by unfold N3;cases C2! G.AI.find? (q.1=tb)<;>rfl
 refine⟨_,rfl,p,C,dx,_,_,rfl,hp,T.cl,T.nR,C6 G,G.r,rfl,L6! S.dr,_,rfl,_,Iu S.dr hb,?_⟩;rw[ei];refine⟨_,rfl,_,_,rfl,rfl,_,rfl,p,C,dx,_,_,rfl,hp,T.cl,T.nR,C6 G,_,rfl,G.r,_,rfl,Kt! S.dr,?_⟩;rw[E4];refine fb! (S.ZW _) ?_;rw[Ac UJ!];exact e
inductive Ve(vs:C!)(H:Hp)(Q:VK)(E:XK):Prop
 | mk (p b:Addr) (G:BM) (tb:T2) (wt:Int) (_:n4!) (_:Q?) (_:KB) (_:Mh!) (_:E3! (Q4! aq!))
theorem Jqn:pa! Ql:={}
theorem Jgz(F:h! "added" uK! Ql)(T:Txt)(M5:rt! f5 wL):Gi! FT! Ve:=by have G5:Cw! f5 wL FT! yC:=Jcc M5.fn T;refine f? Jqn;obtain⟨p,b,G,tb,wt,rfl,S,hb,z,k⟩:=h;refine X!;obtain⟨dx,hp⟩:=S.ob;refine Ie! (TK! T.cl M5.mt G5 M5.bd Te!) (ZL! Ce Ag D8);refine q1! dx hp SZ b G tb wt S hb z Vk!;obtain⟨FH,IA⟩:=S1.ob;refine K9!;rw[Bn];exact nM! S1.fld FH LN
inductive yD(vs:C!)(H:Hp)(Q:VK)(E:XK):Prop
 | mk (p b:Addr) (G:BM) (tb:T2) (wt:Int) (_:n4!) (_:Q?) (_:KB) (_:Xf!) (_:Ml!) (_:Mh!) (_:((Mg!/\∃o,rJ!/\E3! (hO! Fc! (Ln! (o-wt))))\/(Ej!/\E3! { G with AX:=Bo!,hand:=Fc!,AI:=aq! })))
theorem scC:pa! Ym:={}
theorem Jjs(F:h! "came" uJ! Ym)(T:Txt)(M1:Oh!)(M5:rt! f5 wL) : Gi! FT! yD:=by
 have G1:Cw! f1 hZ G6! U8:=Vv M1.fn T;have G5:Cw! f5 wL FT! yC:=Jcc M5.fn T;refine f? scC;obtain⟨p,b,G,tb,wt,rfl,S,hb,z1,z2,z3,k⟩:=h;refine X!;have hu:=a?;obtain⟨dx,hp⟩:=S.ob;refine I4! (qi! Gf) (kR! (Bl (F5 (Up! O? T.cl M1.mt G1 hr M1.bd Ba ES!)) (jK! W! Jhe) (HU! (TK! T.cl M5.mt G5 M5.bd Te!))));refine UH! dx hp T.nH (Fz G) G.h (Kt! S.dh);rw[Ff];have S1:a5! eQ! GE!:=qn! Bu;have LN:HZ! q9!:=λb' o e h1 h2=>dy! UJ!
 have b1:=wR! LN hb hb hb;rw[LJ! ((HO.dT ((Bu G.hand tb).map B9!))=Bg eQ!)];generalize q9!=H1 at S1 LN b1;obtain⟨FH,IA⟩:=S1.ob;refine tN! p FH IA p b1;rcases k with⟨h,o,az,k⟩|⟨h,k⟩;.rw[Cm! (U9! tb.1 (GE!:BM).BJ=true) RL!];refine Cb!;(have g1:EL H1 G.o Fm! (WD! o):=Lx! (Iu S1.dO b1) (LJ! ((GE!:BM).AF=G.AF)) az);refine to! C FH IA T.nO (Da _) G.o g1 _ rfl rfl _ (vQ! S1.dO b1 (Sh! (G.AF.length<=1000)));rw[E4];have S2:=S1.KD (Be G.AF tb (o-wt));(have MN:HZ! (Lh! G.o C4 (aI! (o-wt))):=λb' o' e h1 h2=>ea! UJ! LN);obtain⟨JI,GY⟩:=S2.ob;refine PT! JI GY JI GY;rw[Bn];exact nM! S2.fld JI MN
 .rw[Cm! (o? (U9! tb.1 (GE!:BM).BJ)) X4!];refine At!;refine q1! FH IA (B5 _ ZV) b _ tb wt S1 b1 z3 (λH2 S2 MN=>?_);obtain⟨JI,GY⟩:=S2.ob;refine PT! JI GY JI GY;rw[Bn];exact fb! (S2.fld JI G.AQ (Bo!)) (o! h1 (eE! MN (LN _ _ e h1 h2)))
inductive yG(vs:C!)(H:Hp)(Q:VK)(E:XK):Prop
 | mk (p b:Addr) (G:BM) (tb:T2) (sh:Int) (_:fP! CK! sh) (_:Q?) (_:KB) (_:Ml!) (_:Mh!) (_:vN! Vf! LG ((wp/\Mg!/\∃o,rJ!/\Done p G H (Xh! (Ln! (o+sh))) (Q (T! sh)))\/(wp/\Ej!/\∃wt,Db (fG! G.AI.find?) tb wt/\((wt=0/\HL! NW)\/(wt≠0/\Done p G H (Q4! (eu! (wt-Hw wt))) (Q (T! (Hw wt))))))))
theorem kg:Y? [Bv!,"b",Cq!,"goes"] NH! Yf:={}
theorem Jjk(F:h! "part" uI! Yf)(T:Txt)(M1:Oh!)(M2:UF!)(M6:Ra! uS! uT! Qe f6 fd6)(MP:Bs! VM! Ke Ma! fP fdP) : Sf! NH! yG:=by
 have G1:fK! f1 hZ U8:=Rp! Vv M1.fn T;have G2:rD!:=pz!;have G6:Op 2 f6 fd6 Ll! Jbx:=Jgt M6.fn T MP;refine Au! kg;obtain⟨p,b,G,tb,sh,rfl,S,hb,z1,z2,k⟩:=h;refine X!;have hu:=a?;have GC:lc:=W?;obtain⟨dx,hp⟩:=S.ob;refine Ie! (vT! T.cl M2.mt G2 M2.bd) (Yo! (Bl (F5 (Up! O? T.cl M1.mt G1 GC M1.bd B0 ES!)) (Ad (L8 hu g? z! W! D8 vz!) (jI! kg.nd W!)) (jI! kg.nd (w6! T.cl M6.mt G6 hr M6.bd))) L8! 3);refine tm! b tb hb;rcases k with k|⟨h1,h2,o,az,k⟩|⟨h1,h2,wt,az,k⟩;.exact L! k
 .refine H! ⟨h1,_,rfl,p,dx,_,rfl,hp,SZ,_,rfl,p,b,G,tb,rfl,S,hb,_,rfl,?_⟩;rw[EZ! h2];refine Cb!;(have g1:pu! G.o o:=HP! (Iu S.dO hb) az);refine to! C dx hp T.nO (Da _) G.o g1 _ rfl rfl _ (Kt! S.dO);rw[E4];have S1:nw! (aI! (o+sh)) (Q2! (o+sh)):=S.KD _;obtain⟨FH,IA⟩:=S1.ob;refine⟨_,rfl,_,rfl,p,C,FH,_,_,rfl,IA,T.cl,T.nT,Cd _,_,_,rfl,rfl,FH,_,IA,D9 _,?_⟩;rw[Bn];refine Rb!;exact ck! (Q2! (o+sh))
 .refine H! ⟨h1,_,rfl,p,dx,_,rfl,hp,SZ,_,rfl,p,b,G,tb,rfl,S,hb,_,rfl,?_⟩;rw[BR! h2];refine At!;refine⟨_,rfl,p,dx,_,rfl,hp,SZ,_,rfl,p,b,G,tb,wt,rfl,S,hb,az,z2,?_⟩;rcases k with k|⟨h3,k⟩;(.exact DH!);.refine Yi! h3;obtain⟨FH,IA⟩:=S1.ob;refine K9!;rw[Bn];exact m? (nM! S1.fld FH LN)
universe E
inductive OY(vs:C!)(H:Hp)(Q:VK)(E:XK):Prop
 | mk (p dx:Addr) (n:Int) (_:jH!) (_:JV! (FY! [])) (_:∀(h o l r:Addr)(H':Hp),H h=none->t? o->Fy!->RU!->KK! ⟨n,0,0,h,o,l,r,[],[],[],[]⟩->Wt! H'->PS!)
inductive U9(vs:C!)(H:Hp)(Q:VK)(E:XK):Prop
 | mk (p:Addr) (G:BM) (_:GX!) (_:Q?) (_:Xf!) (_:Ml!) (_:G.holds.length<=500) (_:(LT! (t≠Ak!))) (_:(∀q∈G.AF,na!)) (_:(Or! na!)) (_:∀(t a:Addr)(H':Hp),t? t->M1!->A5! t (G4! Ak!)->KK! { G with AQ:=Do!,AX:=Bo!,hand:=Vj!,AF:=Nr!,holds:=IV! }->Zt!->iy!)
inductive Je6(vs:C!)(H:Hp)(Q:VK)(E:XK):Prop
 | mk (p:Addr) (G:BM) (_:GX!) (_:Q?) (_:WG! G.AX)
inductive YA(H:Hp)(v:V)(r:Mf!):Prop
 | mk (a t hd:Addr) (cs:J!) (_:Wx!) (_:KF! [i! t,g! Aa!,i! hd]) (_:w0! r.1) (_:Ch hd (PB! cs.map)) (_:IC! Al!)
theorem YA.keep(x:YA H v r)(k:wS):YA H' v r:=by obtain⟨a,t,hd,cs,e,e1,e2,e3,e4⟩:=x;exact⟨a,t,hd,cs,e,O3! e1,Y3!,O3! e3,Ys! e4⟩
inductive q8(H:Hp)(x:Addr)(hs:D!)(os:B6!)(rs:Y!):Prop
 | mk (y1 y2 y3:Addr) (as:J!) (bs:C!) (ds:J!) (_:Fh! (cg! y1 y2 y3)) (_:Ch y1 IL!) (_:AZ H as hs) (_:O0! y2 bs) (_:n0! H os) (_:(∃ob,Ch y3 (.HK ob (PB! ds.map))/\Jie ob)) (_:cZ! H ds)
inductive yH(vs:C!)(H:Hp)(Q:VK)(E:XK):Prop
 | mk (p t:Addr) (G:BM) (th:T2) (w:Int) (a:Addr) (hl hs:D!) (_:GV!) (_:Q?) (_:Ex!) (_:Db (Oz! G.AF.find? Hu!) th w) (_:RC! (Yp! Hu!) th) (_:Xi!) (_:hs.Perm hl) (_:iz!) (_:Vl! (r?->YA H' RE! (th,w,hs)->I9!))
structure Rows(G:BM)(os:B6!):Prop where
 pm:(os.map (·.1)).Perm (G.AF.map pi)
 pw:w5! os.map
 at_:∀q∈os,Db (RA! G.AF.find?) q.1 K?/\∃a hl,RC! (RA! G.holds.find?) q.1/\Xi!/\q.2.2.Perm hl/\q.2.2.Pairwise HZ
inductive Lq(vs:C!)(H:Hp)(Q:VK)(E:XK):Prop
 | mk (p:Addr) (G:BM) (hs:D!) (os:B6!) (rs:Y!) (_:GX!) (_:Q?) (_:G.hand.length<64) (_:G.AF.length<64) (_:G.AI.length<64) (_:hs.Perm G.hand) (_:iz!) (_:al!) (_:DT!) (_:FB!) (_:Vl! (r?->q8 H' x hs os rs->I9!))
universe S
theorem scI:Y? Mv! Mv! Yi:={}
theorem Z_(F:iP! uE! Yi)(T:Txt):Bt! Mv! OY:=by
 refine f? scI;obtain⟨p,dx,n,rfl,hp,k⟩:=h;refine X!;refine Ct! (Ad (Pr! z!) (Ad (Dl O? Ag rfl) (MM! (Dl O? Ag rfl) (Pr! Eo) (Pr! Eo) (Pr! Eo) (ZL! Dl Eo rfl))));refine⟨_,rfl,_,rfl,p,C,dx,[],rfl,hp,T.cl,T.nN,nS!,?_⟩;refine lN! C Ab T.nM (Is! (1<1000));rw[Uz];refine lN! C Ab T.nT (by rw[Ew,Bz Gv,Ew];show 2<1000;decide);rw[Uz];have step:∀{H1:Hp} {d:Addr} {fs:By!} {o:HO},Ds! H1 eL!->Wt! H1->Hy! d->Ds! (upd H1 d o) eL!/\Wt! (upd H1 d o)/\d≠p/\t? d:=λ{H1 d fs o} e1 e2 e3=>by have vE:p≠d:=Ak e1 e3;refine⟨o! vE e1,vO! (o! (Ak (e2 b u e hb) e3) (e2 b u e hb)),vE.symm,?_⟩;cases q:H d with | none=>rfl | some u=>rw[e2 d u q vE.symm] at e3;cases e3
 have a0:vv! (Lm! (FY! (As BD! O5! MG!))):=vO! SH!
 intro d1 h1;obtain⟨b1,b2,b3,b4⟩:=sb! a0 h1;refine ru! b1 T.nH;.have:=rh!;have:=sT!;have:=oF!;simp only[B_] at *;lia
 have c0:∀{H1:Hp} {fs:By!},(vv! H1)->vv! (upd H1 p eL!):=λe b u e1 hb=>h5! (e b u e1 hb)
 intro d2 h2;obtain⟨b5,b6,b7,b8⟩:=sb! (c0 b2) h2;refine ru! b5 T.nO;.have:=S2! Bh! d1 BD! O5! MG!;have:=rh!;have:=sT!;have:=oF!;simp only[B_] at *;lia
 intro d3 h3;obtain⟨b9,b10,xJ,b12⟩:=sb! (c0 b6) h3;refine ru! b9 T.nL;.have:=A4 BE! hm! (pf! d1 O5! MG!);have:=S2! Bh! d1 BD! O5! MG!;have:=rh!;have:=sT!;have:=oF!;simp only[B_] at *;lia
 intro d4 h4;obtain⟨b13,b14,b15,b16⟩:=sb! (c0 b10) h4;refine ru! b13 T.nR;.have:=S2! BF! d3 BE! hm! (pf! d1 O5! MG!);have:=A4 BE! hm! (pf! d1 O5! MG!);have:=S2! Bh! d1 BD! O5! MG!;have:=rh!;have:=sT!;have:=oF!;simp only[B_] at *;lia
 have gm:d1≠d2:=λz=>by rw[<-z,GK!,Ab] at h2;cases h2
 have jx:d1≠d3:=λz=>by rw[<-z,GK!,Ac gm,GK!,Ab] at h3;cases h3
 have jw:d2≠d3:=λz=>by rw[<-z,Ac b7,Ab] at h3;cases h3
 have n14:d1≠d4:=λz=>by rw[<-z,GK!,Ac jx,GK!,Ac gm,GK!,Ab] at h4;cases h4
 have n24:d2≠d4:=λz=>by rw[<-z,Ac b7,Ac jw,Ac b7,Ab] at h4;cases h4
 have n34:d3≠d4:=λz=>by rw[<-z,Ac xJ,Ab] at h4;cases h4
 refine k d1 d2 d3 d4 _ b4 b8 b12 b16 ⟨L? dx,?_,?_,?_,?_,UV (by simp at hq),?_⟩ (c0 b14);.rw[Ab,<-Jm9]
 .rw[GK!,Ac n14,GK!,Ac jx,GK!,Ac gm,GK!,Ab];rfl
 .rw[Ac b7,Ac n24,Ac b7,Ac jw,Ac b7,Ab];rfl
 .rw[Ac xJ,Ac n34,Ac xJ,Ab];rfl
 .rw[Ac b15,Ab];rfl
 .simp[BL,gm,jx,n14,jw,n24,n34]
theorem scM:Vw! G6! Yg:={}
theorem Jjl(F:h! JF! uG! Yg)(T:Txt):SS! U9:=by
 refine f? scM;obtain⟨p,G,rfl,S,z1,z2,z3,f1,f2,f3,k⟩:=h;refine X!;have hu:=a?;refine OL! scM.nd (Bp (AU! g? g?)) (Ad L8! (MM! (S6! Ag) (S6! Eo) (S6! Gf) L8! (Vm! 1)));obtain⟨dx,hp⟩:=S.ob;refine⟨_,rfl,p,C,dx,_,_,rfl,hp,T.cl,T.nN,T4 G,_,rfl,p,C,dx,_,_,rfl,hp,T.cl,T.nM,Jcm G,Ee!,GD!⟩;have s1:=Vd! (X? G.BJ) (X? G.AQ) ht;have S1:=Sl!;have t1:U! (Bl! t .BE [X? G.BJ,X? G.AQ]) t (G4! Ak!):=Ab;generalize H8! H t [X? G.BJ,X? G.AQ]=H1 at s1 S1 t1;obtain⟨FH,IA⟩:=S1.ob;refine⟨_,rfl,p,C,FH,_,_,rfl,IA,T.cl,T.nM,Jcm G,_,_,rfl,rfl,FH,_,IA,D9 G,?_⟩;rw[Zs];have S2:=S1.fld FH (Do!) G.AX;have MN:R7! H1 FL! (upd H1 p (P9! FH hQ!)):=FJ! SH!
 have tp:=S1.tup_ne t1;have t2:=v! MN t1 tp.1;have S2:Cy! (upd H1 p (P9! FH hQ!)) hQ!:=S2;generalize upd H1 p (P9! FH hQ!)=H2 at S2 MN t2;obtain⟨JI,GY⟩:=S2.ob;refine UH! JI GY T.nO (Da _) G.o (VC! Ak! S2.dO t2 (Sh! (G.AF.length<=1000)));have e3:putK (G.AF.map hR!) vh! (V.int 0)=(Nr!).map hR!:=Qx! (Ij (k:=An!) (f:=Dt!) _ f2)
 have S3:=S2.KD (Nr!);unfold C4 at S3;rw[<-e3] at S3;have uf:=S2.tup_ne t2;have RT:R7! H2 Lw! (HK! G.o .dT (Tu! G.AF.map hR! (V.int 0))):=FJ! (WI! (NE! hb))
 have t3:=v! RT t2 uf.2;generalize HK! G.o .dT (Tu! G.AF.map hR! (V.int 0))=H3 at S3 RT t3;intro a ha;have s4:=SI! ha;have S4:=S3.same s4;have a4:re (BJ! H3 a .dT []) a Bg []:=Ab;have t4:=DI! t3;have af:a∉BN!:=λm=>by obtain⟨kvs,e⟩:=S3.OI (b:=a) (by have:BL { G with AQ:=Do!,AF:=vp! }=BL G:=rfl;rw[this];exact m);rw[ha] at e;cases e
 generalize SM! H3 a=H4 at s4 S4 a4 t4;obtain⟨bK,g7⟩:=S4.ob;refine UH! bK g7 T.nL (Ep _) G.l (VC! Ak! S4.dl t4 (Sh! (G.holds.length<=1000)));have e5:putK (G.holds.map DF!) vh! (V.ref a)=(IV!).map DF!:=Qx! (Ij (k:=FX!) (f:=eG!) _ f3)
 have S5:=S4.i5 Ak! a4 af;unfold Dy at S5;rw[<-e5] at S5;have bF:R7! H4 Lw! (BJ! H4 G.l .dT (Tu! G.holds.map DF! (V.ref a))):=FJ! (WI! (NE! hb))
 have t5:=v! bF t4 uf.2;generalize BJ! H4 G.l .dT (Tu! G.holds.map DF! (V.ref a))=H5 at S5 bF t5;obtain⟨eX,dq⟩:=S5.ob;refine UH! eX dq T.nH (Fz _) G.h (VC! Ak! S5.dh t5 (Sh! (G.hand.length<=1000)));have e6:putK (G.hand.map hS!) vh! (V.bl true)=(Vj!).map hS!:=Qx! (Ij (k:=dj!) (f:=MT!) _ f1)
 have S6:=S5.P_ (Vj!);unfold Bg at S6;rw[<-e6] at S6;have hV:R7! H5 Lw! (BJ! H5 G.h .dT (Tu! G.hand.map hS! (V.bl true))):=FJ! (WI! (NE! hb))
 have t6:=v! hV t5 uf.2;generalize BJ! H5 G.h .dT (Tu! G.hand.map hS! (V.bl true))=H6 at S6 hV t6;obtain⟨a9,dm⟩:=S6.ob;refine PT! a9 dm a9 dm;rw[Bn];have S7:=S6.fld a9 (Do!) (Bo!);have RA:∀{b:Addr},Rz!->x?:=λ{b} e=>Cp s1 e;have QZ:HZ! (upd H6 p (P9! a9 { G with AQ:=Do!,AX:=Bo!,AF:=Nr!,holds:=IV!,hand:=Vj! })):=λb o e hb hf=>h5! (v! hV (bF _ _ (d! s4 (RT _ _ (MN _ _ (d! s1 e) hb) hf)) hf) hf)
 refine m? (k t a _ ht ?_ (Pd! tp.1 t6) S7 QZ);cases q:H a with | none=>rfl | some u =>exfalso;(have nap:a≠p:=λz=>by rw[z,S3.ob.choose_spec] at ha;cases ha);have:Cu! H3 u:=v! RT (MN _ _ (d! s1 q) nap) af;rw[ha] at this;cases this
theorem scT:aY! Yd:={}
theorem Jji(F:h! "tick" uY! Yd)(T:Txt):SS! Je6:=by refine f? scT;obtain⟨p,G,rfl,S,k⟩:=h;refine X!;obtain⟨dx,hp⟩:=S.ob;exact WF (Af (Ax g?)) ⟨_,rfl,p,C,dx,_,_,rfl,hp,T.cl,T.nT,Cd G,k⟩
universe E
theorem PX{a b c:Str}{k:NameKind}{cl:CW!}{y:Str}(hc:lR!)(h:Kx! nL! nL!):OU!:=MI!
theorem Jdm(s:r?)(x:cZ! H as):cZ! H' as:=SD! (by obtain⟨ka,e1,e2⟩:=h9;exact Ho! ka (Hw! s) s e2) x
universe S
theorem Jp8:cO! Yc:={}
theorem Mf(f:α->β)(l:N!):b? (l.map λt=>(t,f t)).map=l:=I! AK (IT l)
theorem Jjh(F:h! VE! uO! Yc)(T:Txt):Bt! G6! yH:=by
 refine f? Jp8;obtain⟨p,t,G,th,wt,a,hl,hs,rfl,S,ht,f1,f2,cN,pm,pw,k⟩:=h;refine X!;have hu:=a?;obtain⟨dx,hp⟩:=S.ob;have g1:EL H G.o JK! (WD! wt):=Lx! (vw! S.dO) qP! f1
 have g2:EL H G.l JK! (some (V.ref a)):=Lx! (vw! S.dl) ca! f2
 have g3:GN! a hl:=S.hl _ (AY f2);refine FA! (Bp (Fn! z! S5! (b0! (am (jd! RP! T.sorted S5!)))));refine⟨_,rfl,_,rfl,p,C,dx,_,_,rfl,hp,T.cl,T.nO,Da G,_,rfl,G.o,_,rfl,g1,_,rfl,p,C,dx,_,_,rfl,hp,T.cl,T.nL,Ep G,_,rfl,G.l,_,rfl,g2,a,_,hs,rfl,Jcp g3,wr! cN,q! Mf pm,pw,λr as hr ha=>?_⟩;refine FQ! r _ (CL! (AC Ab) (λx2 oq=>A! (gH! 3) CU!));have s1:=IR! as.map hr;have s2:=kO! as.map oq;have s3:=PC! [Mx!,X? wt,WP x2] hx;have ss:=r9!;exact k x _ ss ⟨x,t,x2,as,rfl,Ab,G! ss ht,CY! Ab,bM! ss ha⟩
theorem l_:Vw! [Bv!,Bh!,"things",Bi!] Ni:={}
theorem Jgq{f fT:Addr}{fd wK:FuncData}(F:h! VD! "House.state" Ni)(T:Txt)(FT:FR K VE! uO! Yc fT wK)(bT:Lr! wK G6!)(mT:nX K C VE! fT) : Gi! sB Lq:=by
 have GT:Cw! fT wK G6! yH:=Jjh FT T;refine f? l_;obtain⟨p,G,hs,os,rs,rfl,S,z1,z2,z3,pm,pw,R,pmr,pwr,k⟩:=h;refine X!;have GC:lc:=W?;obtain⟨dx,hp⟩:=S.ob;refine OL! l_.nd (b0! (am (jd! RP! T.sorted g?))) (t8! 2 l_.nd (b0! (Aa (Fl (caps:=Ky!) rfl (sp! RP! T.sorted YO!) rfl ZV rfl ZV rfl JX! Kd! Jd! ZV gG! (Uw! (Aw z! T.cl mT GT GC bT S! Ba (am O?)))) Ae)) (LR! 3 l_.nd (Eg R1 EL! T.tuple FK (am (jd! (M0 rfl (O3 hr)) T.sorted (Nm DH PySem.F.slot_dict_items PySem.F.type_dict_items Jg2 g?))))) (VY! (Fn! z! W! E?)));refine⟨_,rfl,p,C,dx,_,_,rfl,hp,T.cl,T.nH,Fz G,G.h,_,hs,rfl,Jcp S.dh,wr! z1,q! Mf pm,pw,λr1 JA zG ha1=>no! r1 Ab (λx1 ay=>?_)⟩;have s1:=IR! JA.map zG;have s2:=kO! JA.map ay;have rY:=Aj s1 s2;have S1:=Lj! rY;have q1:U! (upd (iT! r1 JA.map) x1 jj!) x1 jj!:=Ab;have qh:AZ (upd (iT! r1 JA.map) x1 jj!) JA hs:=bM! rY ha1;generalize upd (iT! r1 JA.map) x1 jj!=H1 at rY S1 q1 qh;obtain⟨FH,IA⟩:=S1.ob;have e0:Iu! (G.AF.map (I7! FS!)).map=G.AF.map pi:=D1!
 refine⟨_,rfl,p,C,FH,_,_,rfl,IA,T.cl,T.nO,Da G,G.o,_,b? os.map,rfl,Jhd S1.dO,wr! z2,q! e0 R.pm,R.pw,λr2 VX OK dw=>aD! r2 Ab CV!⟩;have s3:=IR! VX.map OK;have gL:NL! H1 r2 VX.map r2 VX.map:=Ab;have S2:=S1.same s3;have ss2:=Aj rY s3;have qb:AZ (LU! H1 r2 VX.map) VX (os.map pi):=bM! s3 dw;have qg:AZ (LU! H1 r2 VX.map) JA hs:=bM! s3 qh;have q1b:=CY! q1;generalize NW! H1 r2 VX.map=H2 at s3 gL S2 ss2 qb qg q1b hq;have hlen:VX.length=os.length:=HP! (R? dw) ZA
 have hos:os.length<64:=by have h1:=R.pm.length_eq;rw[ZA,ZA] at h1;lia
 refine Ia (K:=K) (a:=r2) (xs:=I0! VX.map) (tt:=bF!) (te:=Sv C VE! (yH) [] E0 (B7 1) (Dz (B7 0) Nd)) (caps:=Ky!) (σ:=[CZ!,d? x1,none,none]) (λi ys H3=>I2! H3 q/\CB H2 H3/\Fw! (YA H3) ys os.take i) (MS! Ab (Ah hq) JX S!) (λi ys H3 _ h=>gT! h.2.1 gL h.1) ?_ ?_;.rintro i x ys H3 N hx ⟨e3,s4,pr⟩ hN;refine Cb!;rw[ZH] at hx;cases cM:VX[i]? with | none=>rw[cM] at hx;cases hx | some ai =>rw[cM] at hx;cases hx;(have mW:i<os.length:=Dp! hlen cM);obtain⟨qo,vh⟩:=Ao mW;have eth:=Av qb i ai qo.1 cM (QZ! vh);obtain⟨f1,a,hl,f2,f3,f4,f5⟩:=R.at_ qo (ZP vh);have S3:=S2.same s4;obtain⟨QN,RD⟩:=S3.ob;refine⟨_,rfl,p,QN,_,rfl,RD,SZ,_,rfl,p,ai,G,qo.1,qo.2.1,a,hl,qo.2.2,rfl,S3,DI! eth,f1,f2,f3,f4,f5,λx2 H5 s5 rep=>Ho! (G! s5 e3) ?_ hN (PP Ab Hr!)⟩;(.have:=R? pr;rw[this];exact A8 (A_ (List.length_take_le _ _) E!));(.have nb:b≠q:=Ak e hq;rw[Ac nb];exact ld! s5);·(have kq:BY H5 (upd H5 q (.BF (ys++[WP x2]))):=pc (G! s5 e3));(have et:os.take (U?)=os.take i++[qo]:=XS! vh);rw[et];exact Gg (rep.keep kq) (Ar (λ_ _ r=>(r.keep (HQ s5)).keep kq) pr)
 .rintro ys H3 ⟨e3,s4,pr⟩;rw[ZA,hlen,BQ] at pr;refine no! q e3 (λx2 oq=>?_);have s5:=PC! ys oq;have ss3:=Aj ss2 (Aj s4 s5);have S4:=(S2.same s4).same s5;have q2:YM! (BJ! H3 x2 .BE ys) x2 ys:=Ab;have q1c:=FU! s5 s4 q1b;have qe:AZ (BJ! H3 x2 .BE ys) JA hs:=Ar (λ_ _ e=>ld! s5) qg;have pr':CH! (YA (BJ! H3 x2 .BE ys)) ys os:=ao! s5 pr;generalize H8! H3 x2 ys=H4 at s5 ss3 S4 q2 q1c qe pr';obtain⟨bK,g7⟩:=S4.ob;have xB:=S4.dr;refine⟨_,rfl,p,C,bK,_,_,rfl,g7,T.cl,T.nR,C6 G,ax! (s? (L! (e? xB))),G.r,_,rfl,rfl,xB,Qs!⟩;have s6:=Ah (o:=Ws v G.r) hv;refine⟨v,G.r,G.AI,rs,rfl,Ab,G! s6 xB,z3,pmr,pwr,λr3 as3 H7 s7 c9 e7 pr7=>⟨r3,_,rfl,AC e7,λx3 ob3 vR pl3=>?_⟩⟩;have s8:=Ah (o:=.HK ob3 (PB! as3.map)) vR;refine⟨_,rfl,_,rfl,_,rfl,gH! 3,CU!⟩;have s9:=PC! [WP x1,WP x2,WP x3] hx;have oG:=Aj s6 (Aj s7 (Aj s8 s9));exact k x _ (Aj ss3 oG) ⟨x1,x2,x3,JA,ys,as3,Ab,G! oG q1c,bM! oG qe,G! oG q2,ao! oG pr',⟨ob3,Hx! s9,pl3⟩,Jdm (Aj s8 s9) pr7⟩
universe E
universe S
theorem ko:Y? [eA!,"_law_k","_law_number"] cB! uP:={}
inductive Jfa(vs:C!)(H:Hp)(Q:VK)(E:XK):Prop
 | mk (a:Addr) (ns:A?) (k:Int) (_:vs=[Aj!,g! k]) (_:i1! DS) (_:ns.length<=63) (_:0<=k) (_:k<=1000) (_:∀v:Int,WG! v)
theorem Jjr(F:h! uh! uh! uP)(hn:ZJ!):Bt! cB! Jfa:=by
 refine f? ko;obtain⟨a,ns,k,rfl,hS,hl,h0,JPu,kk⟩:=h;refine X!;have hlen:IN ns.map V.int=ns.length:=ZA ..;have item:∀i:Int,0<=i->i<ns.length->∃v,YG (ns.map V.int) i=some (GM v):=λi a b=>by obtain⟨x,hx⟩:=VG! ns i.toNat;exact A! x (pR! a hx)
 refine J5! (vH! (LQ! Mb z! (w7! hn O?)) (Ay Bq O? z!)) (ZN! 2 ko.nd (Ry! (KE! z!)) (Bl (LQ! uK (w7! hn O?) Ag) (xH! ko.nd (Cf! (Bc Ex (KE! (Ay Bq O? (Bc Cj (KE! z!) (w7! hn O?)))) (KE! z!)))) Bb) (Cf! (Bc F8 W! W!)));refine tT! a (H! hS) _ rfl _ rfl ?_;refine J0 (λc1=>?_) (Vi!);.have c1:=BW c1;obtain⟨v,hv⟩:=item k h0 (by rw[hlen] at c1;exact c1);exact sG! _ rfl a _ hS hv (kk v)
 .refine⟨_,rfl,_,_,rfl,rfl,Kp!,_,_,rfl,rfl,?_⟩;refine sG! a _ rfl (H! hS) _ rfl ?_;refine J0 (λc2=>?_) (Vi!);(.have c2:=BW c2;(have iY:Uy! (J? ns.length):=by rw[hlen] at c2;exact c2);obtain⟨v,hv⟩:=item (k*7 % J? ns.length) (DQ _ E!) (DW _ iY);refine⟨_,rfl,_,rfl,_,_,rfl,rfl,Kp!,_,rfl,a,_,rfl,H! hS,_,_,rfl,rfl,q! hlen iY,a,_,_,_,rfl,rfl,hS,q! hlen hv,_,_,rfl,rfl,Kp!,_,rfl,_,_,rfl,rfl,Kp!,_,_,rfl,rfl,_,_,rfl,rfl,DA! 2147483647,?_⟩;refine tT! _ rfl (H! H7!) _ rfl js! (kk _);(.have:=DQ (v*48271+k*7919) (Xj! (J? 2147483647));lia);.have:=DW (v*48271+k*7919) (wq! 2147483647);lia);.exact tT! _ rfl (CL! B! B!) _ rfl js! (kk _)
universe E
theorem Wc(h1:HZ a b)(h2:HZ b c):HZ a c:=by rw[Dx] at *;lia
theorem Wd(h:a≠b)(h1:¬HZ a b):HZ b a:=by rw[Dx] at *;have:¬(b5!/\a.2=b.2):=λz=>h (Prod.ext z.1 z.2);lia
theorem Lu(key:BY!)(x:α):∀{s:N!},(s.map key).Pairwise HZ->(∀y∈s,key x≠key y)->∃s':N!,gN! (s'.Perm (x::s)) s'.map
 | [],_,_=>md! [x]
 | y::s,h,ne=>by have h':=DV.mp h;by_cases e:HZ (key x) (key y);(.refine⟨x::y::s,WB!,pr! h⟩;rcases ZM hz with rfl|hz;(.exact e);.exact Wc e (h'.1 z hz));.obtain⟨s',p,q⟩:=Lu key x h'.2 (Q5! ne);refine⟨y::s',(p.cons y).trans (List.Perm.swap x y s),pr! q⟩;obtain⟨u,hu,rfl⟩:=As!;rcases ZM (p.mem_iff.mp hu) with rfl|hu;(.exact Wd (ne y LS!) e);.exact h'.1 _ (BD hu)
theorem sorts(key:BY!):l1! (Qc! key) (∃s:N!,gN! (s.Perm l) s.map)
 | [],_=>md! []
 | x::l,nd=>by have OG:=BA!;obtain⟨s,p,q⟩:=sorts key OG.2;obtain⟨s',p',q'⟩:=Lu key x q λy hy e=>Fi! OG.1 ⟨y,p.mem_iff.mp hy,e.symm⟩;exact⟨s',p'.trans (p.cons x),q'⟩
structure Good(G:BM):Prop where
 h1:G.hand.Nodup
 h2:G.hand.length<64
 o1:k? G.AF.map
 o2:G.AF.length<64
 r1:k? G.AI.map
 r2:G.AI.length<64
 at_:∀q∈G.AF,∃a hl,RA! G.holds.find?=some (q.1,a,hl)/\hl.Nodup/\Xi!
structure Told(G:BM)(hs:D!)(os:B6!)(rs:Y!):Prop where
 pm:hs.Perm G.hand
 pw:iz!
 PM:al!
 pr:DT!
 wr:FB!
theorem FV{l:Y!}(nd:Yd!){q:Dc!}(hq:q∈l):RA! l.find?=some q:=by induction l with | nil=>cases hq | cons x l ih =>have OG:=BA!;rcases ZM hq with rfl|hq;(.simp);.have ne:¬x.1=q.1:=V0! OG.1 (LV! z.symm);rw[BX,BR! ne];exact ih OG.2 hq
theorem Jb4(g:Good G):∀{s:Y!},(∀q∈s,q∈G.AF)->∃os:B6!,os.map (I7! K?)=s/\∀q∈os,Db (RA! G.AF.find?) q.1 K?/\∃a hl,RC! (RA! G.holds.find?) q.1/\Xi!/\q.2.2.Perm hl/\q.2.2.Pairwise HZ
 | [],_=>Eb! [] gz!
 | x::s,h=>by obtain⟨os,e,k⟩:=Jb4 g (UV (h q (AL! hq)));have hx:=DQ! x;obtain⟨a,hl,f,nd,z⟩:=g.at_ x hx;obtain⟨hs,p,q⟩:=o1! sorts hl (YI! IT);rw[IT] at q;refine⟨(x.1,x.2,hs)::os,I? AJ e,Jn!⟩;rcases ZM hy with rfl|hy;(.exact⟨FV g.o1 hx,a,hl,f,z,p,q⟩);.exact k y hy
theorem Good.told(g:Good G):∃hs os rs,Ij!:=by
 obtain⟨hs,p1,q1⟩:=o1! sorts G.hand (q! IT g.h1);obtain⟨so,p2,q2⟩:=sorts (An!) g.o1;obtain⟨rs,p3,q3⟩:=sorts (An!) g.r1;obtain⟨os,e,k⟩:=Jb4 g (UV (p2.mem_iff.mp hq));have e1:AM! os.map so.map:=by rw[<-e,AK];rfl
 rw[IT] at q1;exact⟨hs,os,rs,p1,q1,⟨gV! (p2.map _),gV! q2,k⟩,p3,q3⟩
inductive Jby(vs:C!)(H:Hp)(Q:VK)(E:XK):Prop
 | mk (p dx:Addr) (_:GX!) (_:JV! (CE! CP dx [])) (_:∀(d:Addr)(H':Hp),t? d->IQ CP H' p d 0 []->(S1! FL!)->PS!)
inductive Gr(vs:C!)(H:Hp)(Q:VK)(E:XK):Prop
 | mk (p d:Addr) (c:Int) (ls:j!) (k s g a:V) (_:vs=[Go,k,s,g,a]) (_:dX! CP) (_:ls.length<=700) (_:ec! (t? t->jy! t [T! (c+1),k,s,g,a]->IQ CP H' p d (c+1) (ls++[(c+1,t)])->(MB! FL! (b≠d) Fx!)->TA! (c+1)))
inductive P5(vs:C!)(H:Hp)(Q:VK)(E:XK):Prop
 | mk (p d:Addr) (c:Int) (ls:j!) (_:GX!) (_:dX! CP) (_:∀(l:Addr)(H':Hp),M2! Fy! (mt! ls.map d7!) r? l)
inductive Ya(vs:C!)(H:Hp)(Q:VK)(E:XK):Prop
 | mk (p d:Addr) (c:Int) (ls:j!) (n:Int) (_:jH!) (_:dX! CP) (_:((∃(l1 l2:j!)(t:Addr),ls=Sk!/\∀(H':Hp),IQ CP H' p d c (G2!)->(S1! (b≠d))->iy!)\/((CF! (l.1≠n))/\HL! NL)))
universe S
theorem Jqh:aY! Qf:={}
theorem Jgs(F:iP! uF! Qf)(T:M8):SS! Jby:=by
 refine f? Jqh;obtain⟨p,dx,rfl,hp,k⟩:=h;refine X!;refine Ct! (Ad (Dl O? Ag rfl) (Af aN!));refine⟨_,rfl,p,CP,dx,[],rfl,hp,T.cl,T.nL,nS!,?_⟩;intro d hd;have o7:p≠d:=λz=>by rw[<-z,Ab] at hd;cases hd
 have aH:t? d:=by rw[dw! o7] at hd;exact hd
 refine lN! CP (kj! o7) T.nW (Is! (1<1000));refine k d _ aH ⟨HH! Ab,Db! (dw! o7) Ab,λl hl=>by simp at hl,CS⟩ (FJ! ?_);rw[Du!,JC! aH,Du!];exact e
theorem Jqf:Y? uR! uR! K0:={}
theorem Kl(F:h! "put" "Post.put" K0)(T:M8):Bt! uR! Gr:=by
 refine f? Jqf;obtain⟨p,d,c,ls,kk,ss,gg,aa,rfl,S,hl,k⟩:=h;refine X!;have hu:=a?;obtain⟨⟨dx,h1⟩,hd,le,nd⟩:=id S;have oR:p≠d:=S.ne;refine Ct! (Ad L8! (Ad (Vp! g? (Bp (Aa g? (un! z! W! E? n?)))) (BO! g?)));refine⟨_,rfl,p,CP,dx,_,_,rfl,h1,T.cl,T.nL,Fx _ _,_,_,rfl,rfl,dx,_,h1,(by rw[Yx];show 2<1000;decide),?_⟩;rw[Jdr];have h2:Ds! kK! xs!:=Ab;have d2:U! kK! d (U0! ls):=o! oR.symm hd
 refine⟨_,rfl,p,CP,dx,_,_,rfl,h2,T.cl,T.nL,Fx _ _,_,rfl,_,rfl,_,rfl,_,rfl,gH! 5,?_⟩;intro t ht;have npt:p≠t:=Ak h2 ht;have ndt:d≠t:=Ak d2 ht;have sZ:t? t:=by rw[Ac npt.symm] at ht;exact ht
 have h3:∀o,Ds! (upd kK! t o) xs!:=λo=>o! npt h2
 have d3:∀o,U! (upd kK! t o) d (U0! ls):=λo=>o! ndt d2
 refine⟨_,rfl,p,CP,dx,_,_,rfl,h3 _,T.cl,T.nW,Fk _ _,_,rfl,p,CP,dx,_,_,rfl,h3 _,T.cl,T.nL,Fx _ _,d,_,rfl,le! (Sum.inl (c+1)) (d3 _) PQ!,?_⟩;have zJ:Cf (kvsOf ls) (ih! (c+1))=none:=XR! (kE! (by have:=le l hl;simp;lia))
 have zV:qp! ls (ih! (c+1)) t (ls++[(c+1,t)]):=by rw[Hk _ zJ];unfold kvsOf;rw[ZF];rfl
 rw[zV];refine⟨_,rfl,p,CP,dx,_,_,rfl,Pd! oR (h3 _),T.cl,T.nL,Fx _ _,?_⟩;refine k t _ sZ (Hn! (Ac ndt.symm) Ab) ⟨HH! (o! oR (h3 _)),Ab,Q0!,?_⟩ λb o e hp hb=>?_;.rcases ZI hl with hl|hl;(.have:=le l hl;lia);·(have e:l=(c+1,t):=by simpa using hl);rw[e];exact BS!
 .rw[ZF];refine Gh nd Md!;obtain⟨l,hl,e⟩:=En!;have:=le l hl;have e':l.1=c+1:=e;lia
 .rw[Du!,JC! sZ,Ac hp];exact e
theorem Jqg:aY! Hi:={}
theorem Y4(F:h! PK! ua! Hi)(T:M8):SS! P5:=by
 refine f? Jqg;obtain⟨p,d,c,ls,rfl,S,k⟩:=h;refine X!;obtain⟨⟨dx,h1⟩,hd,le,nd⟩:=id S;refine FA! (Eg (N8 rfl) EL! T.list PyProof.Rows.boot_list (am (Nm DH JD QH Nr g?)));refine⟨_,rfl,p,CP,dx,_,_,rfl,h1,T.cl,T.nW,Fk _ _,ax! (s? (X1! hd)),d,_,rfl,rfl,hd,Qs!⟩;have ndv:d≠v:=Ak hd hv;refine⟨v,d,_,rfl,Ab,o! ndv hd,Q0!⟩;have nvl:l≠v:=λz=>by rw[z,Ab] at hl;cases hl
 have aP:Fy!:=by rw[Ac nvl] at hl;exact hl
 refine k l _ aP (by rw[Ab];unfold kvsOf;rw[AK];rfl) Hr!;rw[JC! aP,JC! hv];exact e
theorem Jqe:Y? D8! D8! Lw:={}
theorem Jdx(F:h! "taken" ub! Lw)(T:M8):Op 1 f fd D8! Ya:=by
 refine Au! Jqe;obtain⟨p,d,c,ls,n,rfl,S,k⟩:=h;refine X!;have hu:=a?;obtain⟨⟨dx,h1⟩,hd,le,nd⟩:=id S;have oR:p≠d:=S.ne;refine J5! (i4! z! g? (UT! T.cNL)) (BO! (Yz g? z! C0!));refine⟨_,rfl,_,rfl,p,CP,dx,_,_,rfl,h1,T.cl,T.nW,Fk _ _,d,_,rfl,EL.k (k:=Y9!) hd,_,rfl,?_⟩;rcases k with⟨l1,l2,t,rfl,k⟩|⟨mV,k⟩;·(have ev:Cf (kvsOf (Sk!)) kC!=some JK!:=XR! (Zz nd));rw[ev];refine At!;refine⟨_,rfl,p,CP,dx,_,_,rfl,h1,T.cl,T.nW,Fk _ _,d,rfl,X1! (H! hd),_,rfl,_,Y9!,_,hd,rfl,ev,?_⟩;rw[Z3 nd];(refine k _ ⟨HH! (o! oR h1),Ab,λl hl=>le l ?_,?_⟩ (FJ! SH!));(.rcases ZI hl with hl|hl;(.exact Os hl);.exact u8! hl);.rw[ZF,AJ] at nd;rw[ZF];refine AL.mpr ⟨YB! nd,(AV.mp (hy! nd)).2,λa ha b hb=>Zu! a ha b (AL! hb)⟩
 ·(have ev:Cf (kvsOf ls) kC!=none:=XR! (kE! (Gs! (mV l hl))));rw[ev];exact Cy k
universe E
universe S
inductive Jbw(vs:C!)(H:Hp)(Q:VK)(E:XK):Prop
 | mk (p t:Addr) (G:BM) (th:T2) (_:GV!) (_:Q?) (_:Ex!) (_:Q (bY! (U! (G.AI.find? (sK Hu!)).map pu 0)) H)
theorem Jqb:cO! Qd:={}
theorem Jgr(F:h! uP! uQ! Qd)(T:Txt):Bt! G6! Jbw:=by refine f? Jqb;obtain⟨p,t,G,th,rfl,S,ht,k⟩:=h;refine X!;have hu:=a?;obtain⟨dx,hp⟩:=S.ob;refine FA! (mA! (xq! Jgb z!) Ag);refine⟨_,rfl,p,C,dx,_,_,rfl,hp,T.cl,T.nR,C6 G,G.r,rfl,L6! S.dr,_,rfl,_,Iu S.dr ht,?_⟩;cases e:Fg! G.AI.find? Hu! with | none =>rw[e] at k;exact s? k | some q =>rw[e] at k;refine GM!;(have e2:DM! (p? (FS!=V.int 0)) (U! (some q).map pu dr!):=D?);show Q (V.bl (decide (FS!=V.int 0))) H;rw[e2];exact k
universe E
universe S
inductive En(vs:C!)(H:Hp)(Q:VK)(E:XK):Prop
 | mk (p:Addr) (h:Int) (W:EF) (_:ZC!) (_:wT) (_:wW! (Is q H))
theorem Jfh:nn! Ec:={}
theorem Ei(F:h! dk! "World.house" Ec)(T:Txt)(TW:Gd):Op 1 f fd CJ! En:=by
 refine Au! Jfh;obtain⟨p,h,W,rfl,S,k⟩:=h;refine X!;obtain⟨dx,hp⟩:=S.ob;refine J5! (Bl (tq (xc (wG! z!) (x_ (LQ! Jok z! p8!)))) (UT! TW.cNH) Bb) (BO! (Z0! z!));have e0:J? (F0! W.qs.map (WP q.1))=W.qs.length:=D?
 refine d6! _ rfl rfl _ rfl ?_;rcases k with⟨o,k⟩|⟨q,G,i,k⟩;.refine J0 (λ_=>Cy k) (λc=>?_);have c:¬h<0:=FZ! c decide_eq_true;refine tf! _ rfl p CW dx _ _ rfl hp TW.cl TW.nH (Ds W) W.hs kb! ?_;rw[e0,Ju! (show RH!<=h from o.resolve_left c)];exact Cy k
 .obtain⟨i1,i2⟩:=i.lt;rw[GG! (FK! (¬h<0))];refine At!;refine tf! _ rfl p CW dx _ _ rfl hp TW.cl TW.nH (Ds W) W.hs kb! ?_;rw[e0,GG! (FK! (¬RH!<=h))];refine At!;exact⟨_,rfl,p,CW,dx,_,_,rfl,hp,TW.cl,TW.nH,Ds W,_,rfl,W.hs,_,_,_,rfl,rfl,YV!,i.YG,k⟩
inductive Pb(vs:C!)(H:Hp)(Q:VK)(E:XK):Prop
 | mk (p:Addr) (h:Int) (W:EF) (_:ZC!) (_:wT) (_:wW! (U9 [RI!] H Q E))
theorem Jiu:nn! Vh:={}
theorem Jgl(F:h! JF! "World.make" Vh)(T:Txt)(TW:Gd)(MH:Ih!)(M1:JG! JF! uG! Yg f1 d1)(G1:Op 1 f1 d1 sB U9):j1! CJ! Pb:=by
 have GH:K4!:=K6!;refine Au! Jiu;obtain⟨p,h,W,rfl,S,k⟩:=h;refine X!;have GC:lc:=W?;obtain⟨dx,hp⟩:=S.ob;refine FA! (dK! fh! T.cl B0);refine TZ!;rcases k with k|⟨q,G,i,k⟩;.exact DH!
 .obtain⟨FH,hq⟩:=FD!;exact L! ⟨q,G,i,q,FH,_,rfl,hq,SZ,k⟩
inductive Pc(vs:C!)(H:Hp)(Q:VK)(E:XK):Prop
 | mk (p:Addr) (h:Int) (va vb:V) (W:EF) (_:vs=[Go,Cx!,va,vb]) (_:wT) (_:sB! Va [RI!,va,vb])
theorem Jiv:Y? Ea! Ea! Vj:={}
theorem Jgm(F:h! AT "World.hold" Vj)(T:Txt)(TW:Gd)(MH:Ih!)(M1:JY! AT uU! Yj f1 d1)(G1:Op 3 f1 d1 EP! Va):j2! Ea! Pc:=by
 have GH:K4!:=K6!;refine Au! Jiv;obtain⟨p,h,va,vb,W,rfl,S,k⟩:=h;refine X!;have GC:lc:=W?;obtain⟨dx,hp⟩:=S.ob;refine p3! l7!;refine TZ!;rcases k with k|⟨q,G,i,k⟩;.exact DH!
 .obtain⟨FH,hq⟩:=FD!;exact L! ⟨q,G,i,q,FH,_,rfl,hq,SZ,_,rfl,_,rfl,k⟩
inductive Pf(vs:C!)(H:Hp)(Q:VK)(E:XK):Prop
 | mk (p:Addr) (h:Int) (va vb:V) (W:EF) (_:vs=[Go,Cx!,va,vb]) (_:wT) (_:sB! Vc [RI!,va,vb])
theorem Jiy:Y? Ea! Ea! Vl:={}
theorem Jgp(F:h! HV! "World.drop" Vl)(T:Txt)(TW:Gd)(MH:Ih!)(M1:JY! HV! uW! Yl f1 d1)(G1:Op 4 f1 d1 EP! Vc):Op 5 f fd Ea! Pf:=by
 have GH:K4!:=K6!;refine Au! Jiy;obtain⟨p,h,va,vb,W,rfl,S,k⟩:=h;refine X!;have GC:lc:=W?;obtain⟨dx,hp⟩:=S.ob;refine p3! l7!;refine TZ!;rcases k with k|⟨q,G,i,k⟩;.exact DH!
 .obtain⟨FH,hq⟩:=FD!;exact L! ⟨q,G,i,q,FH,_,rfl,hq,SZ,_,rfl,_,rfl,k⟩
inductive Pa(vs:C!)(H:Hp)(Q:VK)(E:XK):Prop
 | mk (p:Addr) (h:Int) (va vb:V) (W:EF) (_:vs=[Go,Cx!,va,vb]) (_:wT) (_:sB! U6 [RI!,va,vb])
theorem Jit:Y? Ea! Ea! Vf:={}
theorem Jgi(F:h! HW! "World.take" Vf)(T:Txt)(TW:Gd)(MH:Ih!)(M1:JY! HW! uX! Ye f1 d1)(G1:Op 4 f1 d1 EP! U6):Op 5 f fd Ea! Pa:=by
 have GH:K4!:=K6!;refine Au! Jit;obtain⟨p,h,va,vb,W,rfl,S,k⟩:=h;refine X!;have GC:lc:=W?;obtain⟨dx,hp⟩:=S.ob;refine p3! l7!;refine TZ!;rcases k with k|⟨q,G,i,k⟩;.exact DH!
 .obtain⟨FH,hq⟩:=FD!;exact L! ⟨q,G,i,q,FH,_,rfl,hq,SZ,_,rfl,_,rfl,k⟩
inductive Pe(vs:C!)(H:Hp)(Q:VK)(E:XK):Prop
 | mk (p:Addr) (h:Int) (vb:V) (W:EF) (_:vs=[Go,Cx!,vb]) (_:wT) (_:sB! Vb [RI!,vb])
theorem Jix:Y? R2! R2! Vk:={}
theorem Jgo(F:h! HT! "World.free" Vk)(T:Txt)(TW:Gd)(MH:Ih!)(M1:Ra! HT! uH! Yk f1 d1)(G1:Op 2 f1 d1 Ll! Vb):Sf! R2! Pe:=by
 have GH:K4!:=K6!;refine Au! Jix;obtain⟨p,h,vb,W,rfl,S,k⟩:=h;refine X!;have GC:lc:=W?;obtain⟨dx,hp⟩:=S.ob;refine p3! Pi!;refine TZ!;rcases k with k|⟨q,G,i,k⟩;.exact DH!
 .obtain⟨FH,hq⟩:=FD!;exact L! ⟨q,G,i,q,FH,_,rfl,hq,SZ,_,rfl,k⟩
inductive P0(vs:C!)(H:Hp)(Q:VK)(E:XK):Prop
 | mk (p:Addr) (h:Int) (W:EF) (_:ZC!) (_:wT) (_:wW! (Lq [RI!] H Q E))
theorem Jff:nn! Pg:={}
theorem Jdu(F:h! VD! "World.state" Pg)(T:Txt)(TW:Gd)(MH:Ih!)(M1:rm! f1 d1)(G1:Op 2 f1 d1 sB Lq):Sf! CJ! P0:=by
 have GH:K4!:=K6!;refine Au! Jff;obtain⟨p,h,W,rfl,S,k⟩:=h;refine X!;have GC:lc:=W?;obtain⟨dx,hp⟩:=S.ob;refine FA! (dK! fh! T.cl B0);refine TZ!;rcases k with k|⟨q,G,i,k⟩;.exact DH!
 .obtain⟨FH,hq⟩:=FD!;exact L! ⟨q,G,i,q,FH,_,rfl,hq,SZ,k⟩
universe E
def YN(G:BM)(tb:T2)(wt:Int):Y!:=if Fr! then Ln! Xk! else G.AF
theorem Jkd{l:Y!}{t:T2}(h:hM!):Kc!=none:=cp! (¬h?) h
theorem Mo(hd:lY! l)(ht:Ex!)(f:Db (eK! Hu!) th v):TN! (WD! v):=HP! (Iu hd ht) f
universe S
inductive Jb0(vs:C!)(H:Hp)(Q:VK)(E:XK):Prop
 | mk (p b:Addr) (G:BM) (tb:T2) (wt:Int) (_:n4!) (_:Q?) (_:KB) (_:Ml!) (_:E3! (Xh! qF!))
theorem Jql:pa! Qi:={}
theorem Jgw{f:Addr}{fd:FuncData}(F:h! "given" uL! Qi)(T:Txt):Bt! FT! Jb0:=by
 refine f? Jql;obtain⟨p,b,G,tb,wt,rfl,S,hb,z,k⟩:=h;refine X!;have hu:=a?;obtain⟨dx,hp⟩:=S.ob;refine Ct! (Ad (Bl (El (K6 hu z! g?)) (jK! W! Jhe) Bb) (Af L8!));refine oh! dx hp T.nO (Da G) G.o _ (Iu S.dO hb);by_cases h:Fr!;.have fo:=Mr h;rw[fo];refine Cb!;have g1:pu! G.o (Ai G.AF tb):=Mo S.dO hb fo;refine to! C dx hp T.nO (Da _) G.o g1 _ rfl rfl _ (Kt! S.dO);rw[E4];have S1:nw! (aI! Xk!) (Q2! Xk!):=S.KD _;obtain⟨FH,IA⟩:=S1.ob;refine K9!;rw[Bn];(have e:YN G tb wt=Ln! Xk!:=ek! Ar!);rw[e] at k;exact ck! (Q2! Xk!)
 .rw[Jkd h];refine At!;(have e:qF!=G.AF:=ek! BV!);rw[e] at k;refine PT! dx hp dx hp;rw[Bn];exact fb! (S.fld dx G.AQ (Bo!)) (dy! h1)
def aE(G:BM)(tb:T2)(FQ:Bool):D!:=if FQ=true then Fc! else G.hand
def eP(G:BM)(tb:T2)(sh:Int)(FQ:Bool):Y!:=Ln! (SR! (TD (FQ=true) (sh-1) (2*sh-1)))
inductive X8(vs:C!)(H:Hp)(Q:VK)(E:XK):Prop
 | mk (p b:Addr) (G:BM) (tb:T2) (sh:Int) (FQ:Bool) (_:vs=[Go,CK!,g! sh,.bl FQ]) (_:Q?) (_:KB) (_:Ml!) (_:Xf!) (_:Fr!) (_:E3! (hO! T7! (eP G tb sh FQ)))
theorem Jqc:Y? OQ! OQ! Lv:={}
theorem Jdy(F:h! "passed" uM! Lv)(T:Txt):Bt! OQ! X8:=by refine f? Jqc;obtain⟨p,b,G,tb,sh,FQ,rfl,S,hb,z1,z2,h,k⟩:=h;refine X!;have hu:=a?;obtain⟨dx,hp⟩:=S.ob;refine Ct! (Ad (Bl (F5 (pv 3)) (Ad (S6! Gf) (jK! (Bc Vu W! Ag) D8)) (jK! (Bc Vu (Bc F8 Ag W!) Ag) D8)) (Af L8!));have fo:=Mr h;refine fU! FQ ?_;cases FQ with | true =>refine Cb!;refine UH! dx hp T.nH (Fz G) G.h (Kt! S.dh);rw[Ff];have S1:a5! eQ! GE!:=qn! Bu;(have LN:HZ! q9!:=λb' o e h1 h2=>dy! UJ!);have b1:=wR! LN hb hb hb;rw[LJ! ((HO.dT ((Bu G.hand tb).map B9!))=Bg eQ!)];generalize q9!=H1 at S1 LN b1;obtain⟨FH,IA⟩:=S1.ob;have g1:EL H1 G.o Fm! (WD! (Ai G.AF tb)):=Mo S1.dO b1 fo;refine⟨_,rfl,p,C,FH,_,_,rfl,IA,T.cl,T.nO,Da _,_,rfl,G.o,_,rfl,g1,_,rfl,_,_,rfl,rfl,_,_,rfl,rfl,_,vQ! S1.dO b1 (Sh! (G.AF.length<=1000)),?_⟩;rw[E4];have S2:=S1.KD (Be G.AF tb (SR! (sh-1)));(have MN:HZ! (Lh! G.o C4 (aI! (SR! (sh-1)))):=λb' o' e h1 h2=>ea! UJ! LN);obtain⟨JI,GY⟩:=S2.ob;refine PT! JI GY JI GY;rw[Bn];exact nM! S2.fld JI MN | false =>refine At!;have g1:pu! G.o (Ai G.AF tb):=Mo S.dO hb fo;refine⟨_,rfl,p,C,dx,_,_,rfl,hp,T.cl,T.nO,Da _,_,rfl,G.o,_,rfl,g1,_,rfl,_,_,rfl,rfl,CL! l! l!,_,_,rfl,rfl,_,_,rfl,rfl,_,Kt! S.dO,?_⟩;rw[E4];have S1:nw! (aI! (SR! (2*sh-1))) (Q2! (SR! (2*sh-1))):=S.KD _;obtain⟨FH,IA⟩:=S1.ob;refine K9!;rw[Bn];exact ck! (Q2! (SR! (2*sh-1)))
universe E
theorem QB(hd:Vv! d l)(ht:Ex!)(f:RC! (eK! Hu!) th):TN! (some (V.ref a)):=Lx! bA! ca! f
universe S
inductive Hb(vs:C!)(H:Hp)(Q:VK)(E:XK):Prop
 | mk (sa l:Addr) (as:J!) (ts:D!) (hl:HL) (n:Nat) (R:D!) (_:vs=d9! sa l) (_:Vu! sa) (_:B7!) (_:ts.length<=400) (_:aX! l) (_:vL! 400) (_:(DX! (GN! K? u?/\q.2.2.length<=400/\K?≠l))) (_:qK! (ts.filter KH!)) (_:n<=5000) (_:Vl! (t? x->r?->jz! x R->I9!))
theorem gU:Y? ["starts",BF!,"found",Lf!,"ahead"] Gg! Fn:={}
theorem K7(F:h! Lg! Lg! Fn):EG 1 f fd Gg! Hb:=by
 refine f? gU;obtain⟨sa,l,as,ts,hl,n,R,rfl,es,th,zt,el,zl,hq,eO,zn,k⟩:=h;refine X!;have hu:=a?;refine VP! gU.nd Eo (Yo! (Ki (te:=B7 0) (i:=4) (caps:=Kk!) gU.nd rfl rfl rfl rfl (KU! 0) rfl ZV rfl ZV rfl JX! Kd! Jd! ZV mS! L3!) (pO! (Yu n? (FG!)) (Z1! 3 gU.nd (Nm BN PySem.F.slot_list_pop PySem.F.type_list_pop Jg1 n?) (i4! E? W! (Ad (B9 hu W! E? Gf rfl) (HU! (F7 BN QI QG Tl n? (am (PE.bU (sx! Kk! (Pj (Cs hu z! E?)) Kd! mS!))))))))) 2);intro fa eS;have s1:=SI! eS;have e1:lH! (Bl! fa .dT []) []:=Ab;generalize SM! H fa=H1 at s1 e1;have oE:AZ H1 as ts:=Ez! s1 th;refine Ve! sa (uZ! s1 es) (λaa eT=>?_);refine Kq (b:=KH!) (caps:=Kk!) eT E! (d! s1 es) oE (λH2 a t Q' sm ha ht q=>?_) λH2 bs sm ea tb=>?_;.obtain⟨o,g,eo⟩:=sJ! (CP! sm s1 el);refine r5!;rw[eo];exact Rm!
 have jv:t? aa:=by cases c:H aa with | none=>rfl | some o=>rw[G! s1 c] at eT;cases eT
 have ju:fa≠aa:=λz=>by rw[<-z,e1] at eT;cases eT
 refine PP (λm σ H'=>∃(ahead found:D!)(LO:J!)(u3:wE),σ=[d? sa,M3!,d? fa,u3,d? aa]/\r?/\jz! fa found/\v6! aa LO.map/\AZ H' LO ahead/\ME (OW hl) m ahead found R/\found.length+m<=5000/\du! EU!) ⟨n,_,[],bs,_,rfl,Aj s1 sm,Hw! sm,ea,tb,eO,by simpa using zn,V? nb!⟩;rintro m σ H' ⟨ahead,found,LO,u3,rfl,sh,ef,YO,gQ,rc,zm,hk⟩;refine KL! _ (H! (LW! (AC YO))) ?_;cases m with | zero =>obtain⟨e0,eR⟩:=rc;rw[e0] at gQ;have e2:LO=[]:=BS.mp (Paired.length gQ);rw[e2];refine Cu (m? (k fa H' eS sh ?_));rw[eR];exact ef | succ m =>have uY:=rc.len;obtain⟨a,t,iG,rc⟩:=rc;rw[iG] at gQ uY;obtain⟨KL,c,e2,uj,ec⟩:=Xu gQ;subst e2;(have em:I0! (KL++[c]).map=R6!++[RQ!]:=Qi!);rw[em] at YO ⊢;rw[show Ix (!(R6!++[RQ!]).isEmpty) by cases KL<;>rfl];refine Cy (Ct! (λEV H' h=>⟨m,KZ m,h⟩));refine⟨_,rfl,DC! YO,aa,_,_,rfl,rfl,YO,Jci _ _,?_⟩;rw[Os! ((R6!++[RQ!]).dropLast=KL.map V.ref)];(have s3:ap Gm!:=Kj! jv sh);(have aF:BY H' Gm!:=pc YO);(have bH:lH! Gm! found:=o! ju ef);have kH:pk! Gm!:=Ab;have bS:AZ Gm! KL a:=Fp! aF uj;have iE:=G! aF.BE ec;generalize upd H' aa (.BF (KL.map V.ref))=H3 at s3 aF bH kH bS iE;refine⟨_,rfl,_,rfl,fa,_,rfl,Gk bH iE,_,rfl,?_⟩;rcases rc with⟨hf,rc⟩|⟨hf,rc⟩;(.rw[AE hf];exact Cu ⟨a,found,KL,_,rfl,s3,bH,kH,bS,rc,B!,BG! rK!⟩);.rw[AB hf];refine Cy (lt! fa (VC! t bH iE (BM! P7)));rw[Ff,show Bu found t=C1! by unfold Bu;rw[AB hf]];(have s4:ap Gn!:=Kj! eS s3);(have LB:BY H3 Gn!:=pc bH);have iD:U! Gn! fa (Bg (C1!)):=Ab;(have iF:pk! Gn!:=o! ju.symm kH);have bR:AZ Gn! KL a:=Fp! LB bS;have pY:=G! LB.BE iE;rw[FF! (HO.dT ((C1!).map B9!)=Bg (C1!))];generalize A1! H3 fa Bg (C1!)=H4 at s4 LB iD iF bR pY;have ui:EU!:=hk t (q! iG ib!);obtain⟨ad,pO⟩:=Po ui;have mq:=AY pO;obtain⟨q1,q2,q3⟩:=hq _ mq;have q1:GN! ad Je!:=q1;have q2:(CD hl t).length<=400:=q2;have q3:ad≠l:=q3;refine⟨_,rfl,DC! iF,_,rfl,_,rfl,l,_,rfl,QB (d! s4 el) pY pO,ad,_,rfl,DI! q1,λob pl VQ=>?_⟩;(have JPq:aa≠ad:=λz=>by rw[z,q1] at jv;cases jv);(have JPo:fa≠ad:=λz=>by rw[z,q1] at eS;cases eS);refine N5 (b:=JO! Q1!) (caps:=Kk!) (l:=C3! hl) (key:=λq=>q) (val:=MT!) (ob:=ob) VQ E! Ab (λH2 a' u Q' uk ha ow q=>?_) λH5 fA sm5 ep5 cp=>?_;(.obtain⟨o,g,eo⟩:=sJ! (uk l (Dy hl) (Pd! q3.symm (DI! el)));refine r5!;rw[eo];exact Rm!);.have f5:U! H5 ad (NX! Bg Je!):=Hx! sm5;refine nF! (A1! H5 ad Bg Je!) ad ob f5;(.have z:hq! ad:=z;rw[q1] at z;cases z);(have uz:pl≠ad:=λz=>by rw[z,Ab] at VQ;cases VQ);(have s6:CB H4 (BJ! H5 ad Bg Je!):=sa! (b=ad) (DI! q1) (G! sm5 (SH!)));(have tQ:O1! (BJ! H5 ad Bg Je!) pl fA.map:=o! uz ep5);(have VU:AZ (BJ! H5 ad Bg Je!) fA (OW hl t):=by (have cp:AZ H5 fA (OW hl t):=by rw[IT] at cp;exact cp);refine Ar (W5!) cp;rw[Ac λz=>Pp! f5];exact e);generalize A1! H5 ad Bg Je!=H6 at s6 tQ VU;have zz:=rc.len;rw[ZE] at zz;have l1:=R? bR;have l2:=R? VU;refine⟨aa,pl,_,_,rfl,rfl,kt!,tQ,nh! P7,?_⟩;rw[<-ZF];(have ax:BY H6 (LU! H6 aa (KL++fA).map):=pc kt!);refine⟨a++OW hl t,C1!,KL++fA,_,rfl,Hr!,?_,Ab,AZ.keep ax (O8 (nE! bR) VU),rc,?_,Fq!⟩;(.rw[JC! jv];exact ld! s6);(.rw[Ac ju];exact G! s6 iD);(.rw[ZE];show found.length+1+m<=5000;lia);.rcases GO! with hu|hu;(.exact rK!);.have:=Jb! hu;simpa using this
universe E
universe S
inductive Je8(vs:C!)(H:Hp)(Q:VK)(E:XK):Prop
 | mk (p ta:Addr) (G:BM) (as:J!) (ts:D!) (_:jG! ta) (_:Q?) (_:nq!) (_:Vu! ta) (_:B7!) (_:E3! bn)
theorem iS:Y? [Bv!,"things",Lf!] HR! Qg:={}
theorem Jjm(F:h! "lose" "House.lose" Qg)(T:Txt):Bt! HR! Je8:=by
 refine f? iS;obtain⟨p,ta,G,as,ts,rfl,S,ke,et,th,k⟩:=h;refine X!;have hu:=a?;have lt:=NB!;refine Ct! (Af (wN! (KU! 1) (i9! iS.nd) (Se! (El (K6 hu W! g?)) (Ad (A6 oL!) (HU! oL!)))));refine Nz! ta (AC et);refine aM! ta Ep! (λi σ H2=>∃u2:wE,σ=[CZ!,d? ta,u2]/\Cy! H2 (An G (ts.take i))/\HZ! H2) (HQ! (gs! Rx S) (λb o e _ _=>e)) (eq! (ep! (DS.of (fr _ _ et (S.YZ et).1 (S.YZ et).2))));.rintro i x σ H2 hx ⟨u2,rfl,S2,MN⟩;rw[ZH] at hx;cases ea:ME! with | none=>rw[ea] at hx;cases hx | some a =>rw[ea] at hx;have hx:hD!:=ZO hx;subst hx;obtain⟨t,ht⟩:=qv!;have ha:=sM! ht;have dw:=sA! MN;obtain⟨JI,GY⟩:=S2.ob;obtain⟨o,g,eo⟩:=Nz (k:=An!) (f:=Dt!) (c? S2.dO) dw;have f1:=Fs (An!) G.AF ht;have f2:=Fs (FX!) G.holds ht;refine oh! JI GY T.nO (Da _) G.o o g;rw[eo];(have ks:AM! (An G (ts.take i)).holds.map hV!:=by show pm! j9! j9!;rw[Dk (FX!) G.holds (V6! hL!),qh! hL!,ke]);by_cases h:FB hV!;(.rw[RL!];obtain⟨v1,vV⟩:=tC! Q3! Dt! h;obtain⟨v2,vU⟩:=tC! Qv! eG! (q! ks h);refine Cy (rM! JI GY T.nO (Da _) G.o S2.dO S2.dO dw vV);rw[Ga (k:=An!) (f:=Dt!)];have S3:=S2.KD (HM! xN!);(have RT:HZ! q5!:=EF! (ea! (NE! h2) MN));have pH:=sA! RT;rw[FF! (HO.dT ((HM! (sK HA!)).map Eq!)=C4 (Fg! HM! HA!))];have S3:Cy! q5! pF!:=S3;generalize upd H2 G.o xp!=H3 at S3 RT pH;obtain⟨QN,RD⟩:=S3.ob;refine rM! QN RD T.nL (Ep _) G.l S3.dl S3.dl pH vU;have e3:Xu! (Dr ((pF!:BM).holds.map DF!) (tk t)) Jr! HA! DF! :=Ga (k:=FX!) (f:=eG!) _ t;rw[e3];have S4:=S3.ao (hl:=C2! Jr! HA!) FO;(have eG:nW! { fN! with AF:=fF! HM!,holds:=fF! Jr! }:=by unfold An;rw[f1,f2]);refine jv! S4 (EF! ?_);rw[Ac λz=>h2 (by rw[z];show g1!;simp[BL])];exact eE! RT e);.rw[X4!];have vB:hW! Q3!:=Ov! (Zj! V1!);have vA:hW! Qv!:=Ov! (h (G? ks (O4! q hq z)));(have eG:nW! fN!:=by (have a1:gP! HM! Q3!:=qj! vB);(have a2:gP! Jr! Qv!:=qj! vA);unfold An at a1 a2 ⊢;rw[f1,f2,a1,a2]);exact Cu (jv! S2 MN)
 .rintro σ H2 ⟨u2,rfl,S2,MN⟩;rw[ZA,lt,BQ] at S2;exact k H2 S2 MN
universe E
universe S
def Bj(G:BM)(rs:Y!):Y!:=C2! (rs.filter λq=>! Pb!).filter (0<q.2)
inductive yE(vs:C!)(H:Hp)(Q:VK)(E:XK):Prop
 | mk (p:Addr) (G:BM) (n:Nat) (rs:Y!) (_:GX!) (_:Q?) (_:z?) (_:n<=62) (_:bE!) (_:b3!) (_:DT!) (_:FB!) (_:∀(x:Addr)(as:J!)(H':Hp),t? x->eT! JD!->JC H' as (Bj G rs)->KK! (FU G)->Zt!->I9!)
theorem dJ:Vw! [Bv!,"held","holder",Lf!,"unheld",BC!] Td:={}
def Jnz:TE:=uG (Dz (B7 0) (Dz (dQ! Bi!) Nd))
def Jnx:TT:=Ky (YK (gY (dM! (j<i))) (dQ! Bi!) Kr!)
theorem Jcb(F:h! "give_back" "House.give_back" Td)(T:Txt)(Tx:t_):SS! yE:=by
 refine f? dJ;obtain⟨p,G,n,rs,rfl,S,ok,zn,gr,gq,pm,pw,k⟩:=h;refine X!;have hu:=a?;obtain⟨dx,hp⟩:=S.ob;refine I4! (Au (i:=1) dJ.nd rfl (by first|exact Or.inl rfl|exact Or.inr rfl) (Eg (Pq! Jbi) EL! Tx.dict PyProof.Rows.boot_dict YO!)) (Ad (Vh! (Pj g?) 2 dJ.nd (HU! (F7 DH PySem.F.slot_dict_update PySem.F.type_dict_update (Jju hu) z! (am (Vo! W!))))) (RF.bU (Ad (Ki (te:=B7 0) (i:=4) (caps:=[("held",1)]) dJ.nd rfl rfl rfl rfl (sp! RP! T.sorted YO!) rfl ZV rfl ZV rfl JX! Kd! Jd! ZV (wQ! Eh) L3!) (Yo! (Ki (te:=Jnz) (tt:=Jnx) (i:=5) (caps:=Ky!) dJ.nd rfl rfl rfl rfl (KU! 4) rfl ZV rfl ZV rfl JX! Kd! Jd! ZV (dS! uK cV! Ag) (Uw! (Bp (U5! cV!)))) (Vh! (KU! 4) 3 dJ.nd (HU! (xq! F6 E?))) 5))));have z1:=ok.hz;have z2:=ok.RI;have z3:=ok.rz;refine⟨_,rfl,p,C,dx,_,_,rfl,hp,T.cl,T.nH,Fz G,G.h,_,rfl,S.dh,Rm ok.hn gr,λhd mX=>?_⟩;have e0:Fw [] (G.hand.map B9!)=G.hand.map B9!:=by have:=Jw G.hand [];rw[G! R7 (by simpa using ok.hn)] at this;simpa using this
 rw[e0];have s1:=Ah (o:=Bg G.hand) mX;have e1:re (Bl! hd Bg G.hand) hd Bg G.hand:=Ab;rw[FF! (HO.dT (G.hand.map B9!)=Bg G.hand)];generalize A1! H hd Bg G.hand=H1 at s1 e1;have S1:=Sl!;obtain⟨FH,IA⟩:=S1.ob;have mH:iZ!:=I! ok.ke ok.on
 have gh:∀{b:Addr} {o:HO},Dj!->b≠hd:=λe=>Ak e mX;have uz:p≠G.l:=λz=>S.SJ (b:=G.l) (EI!) z.symm;refine tJ! C FH IA T.cl T.nL (Ep G) G.l S1.dl (λob=>?_);refine Jhm (d:=G.l) (ob:=ob) (λi σ H2=>∃u2:wE,σ=[CZ!,iD!,u2,none,none,none]/\re H2 hd Bg (C0 G.hand (G.holds.take i))/\R7! (upd H1 G.l (NX! Dy G.holds)) (b≠hd) H2) (HQ! (Db! (Ac (D2! gh S.dl)) e1) (λb o e _=>e)) (eq! (ep! (l6! Ab S.dl))) ?_ ?_;.rintro i a kk v σ H2 hx ha ⟨u2,rfl,eh,fr⟩;rw[ZH] at hx;cases eq:G.holds[i]? with | none=>rw[eq] at hx;cases hx | some q =>rw[eq] at hx;have hx:x1!=(kk,v):=ZO hx;have mq:=ZP eq;have e2:kk=LO!:=(Prod.mk.inj hx).1.symm;rw[e2,xq] at ha;have hpp:Ds! H2 (CE! C FH (B4 G)):=v! fr (Pd! uz IA) (gh hp);have j_:Mr! G.l (NX! Dy G.holds):=l6! Ab S.dl;(have hqq:re H2 K? Bg u?:=by have h0:=S.hl q mq;refine l6! ?_ h0;rw[Ac (S.cy.2.2.2 q mq).2.2.1];exact S1.hl q mq);(have gv:Cf (G.holds.map DF!) (tk q.1)=some (V.ref K?):=Db! ca! (FX.FV (k:=FX!) mH mq));have l0:=ok.ln q mq;(have l1:(C0 G.hand (G.holds.take i)).length<=62+62*62:=by have h1:=On (B:=62) (qs:=G.holds.take i) (hand:=G.hand) (Bj! (Co! (ok.ln r (List.mem_of_mem_take hr)).2));(have h2:YQ! G.holds.take<=G.holds.length:=gn!);have h3:YQ! G.holds.take*62<=62*62:=FD _ E!;lia);refine⟨_,rfl,R4! (s? (L! (e? eh))),_,rfl,p,C,FH,_,_,rfl,hpp,T.cl,T.nL,Ep G,_,rfl,G.l,_,rfl,L! ⟨_,LO!,a,No ob j_,rfl,ha,gv.symm⟩,hd,K?,_,_,rfl,rfl,eh,H! hqq,(gh (S.hl q mq)).symm,?_,λ_=>Rm l0.1 (gq q mq),?_⟩;(.rw[ZA,ZA];exact DT (P7 E!));.rw[Jw,<-Xa G.hand eq];exact HQ! Ab (FJ! (h5! (Br! fr hb)))
 .rintro σ H2 ⟨u2,rfl,eh,fr⟩;rw[ZA,BQ] at eh;have j_:Mr! G.l (NX! Dy G.holds):=l6! Ab S.dl;refine nF! (A1! H2 G.l Dy G.holds) G.l ob j_;(.have z:hq! G.l:=z;rw[S.dl] at z;cases z);(have s3:ap (HK! G.l Dy G.holds):=sa! (b=G.l) S.dl (v! fr (Pd! hb (ET! s1)) (gh e)));(have e3:re (HK! G.l Dy G.holds) hd Bg (C0 G.hand G.holds):=o! (D2! gh S.dl) eh);generalize A1! H2 G.l Dy G.holds=H3 at s3 e3;have S3:=Lj! s3;obtain⟨QN,RD⟩:=S3.ob;refine⟨_,rfl,p,C,QN,_,_,rfl,RD,T.cl,T.nR,C6 G,G.r,_,b? rs.map,rfl,Jhd S3.dr,Fk! ZA,?_,pw,λsl m_ jD tsl=>aD! sl Ab (λul hul=>?_)⟩;(·(have e4:Iu! (G.AI.map (I7! FS!)).map=G.AI.map pi:=D1!);rw[e4];exact pm.map _);have s4:=IR! m_.map jD;have a7:NL! H3 sl m_.map sl m_.map:=Ab;have t4:AZ (wf! H3 m_.map) m_ (rs.map pi):=Ez! s4 tsl;generalize NW! H3 sl m_.map=H4 at s4 a7 t4 hul;(have lrs:rs.length<=62:=by have:=pm.length_eq;lia);refine Kq (b:=λt=>! R5!) (caps:=[("held",1)]) hul (Fk! ZA) a7 t4 (λH5 a t Q' sm ha ht q=>?_) λH5 bs sm eu tu=>?_;(.refine lt! hd (Gk (CP! sm s4 e3) ha);(have e5:(!(if rW! then some (V.bl true) else none).isSome)=! R5!:=by rw[<-Jeb];by_cases c:rW!;(.rw[v?,SZ!];rfl);.rw[EQ,SO!];rfl);rw[e5];exact Rm!);have eU:(rs.map (·.1)).filter (λt=>! R5!)=(rs.filter Wz!).map pi:=(Dk (An!) rs λt=>! R5!).symm;rw[eU] at tu;have s5:ap H5:=Aj s3 (Aj s4 sm);have kZ:∀q∈rs.filter (Wz!),q∈rs:=UV et!;(have usz:Eg! rs.filter Wz! 62:=Co! (AW (Wz!) rs));have hbk:Xv! (Bj G rs) (rs.filter λq=>! Pb!).filter (0<q.2):=rfl;(have und:k? (rs.filter Wz!).map:=by have h1:Ye!:=gD! pm.map ok.rn;exact h1.sublist (List.filter_sublist.map _));generalize sY:(rs.filter λq=>! Pb!)=us at tu kZ usz hbk und;have S5:=Lj! s5;have vI:=R? tu;rw[ZA] at vI;have val:∀q∈us,G.AI.find? (λr=>U9! r.1 q.1)=some q:=UV (FX.FV (k:=An!) ok.rn (pm.subset (kZ q hq)));refine Ve! ul (AC eu) (λbl mZ=>?_);refine Ia (K:=K) (a:=ul) (p:=bl) (xs:=IB!) (tt:=Jnx) (te:=Jnz) (caps:=Ky!) (λi ys H6=>∃cs:J!,ys=I0! cs.map/\I2! H6 bl/\CB H5 H6/\JC H6 cs ((us.take i).filter (sK (0<q.2)))) ⟨[],rfl,Ab,Ah mZ,S!⟩ (λi ys H6 _ h=>let⟨_,_,e,sm,_⟩:=h;gT! sm eu e) ?_ ?_;(.rintro i x ys H6 N hx ⟨cs,ey,e6,s6,ba⟩ hN;rw[ZH] at hx;cases eb:bs[i]? with | none=>rw[eb] at hx;cases hx | some b =>rw[eb] at hx;have hx:eP!=x:=ZO hx;subst hx;obtain⟨q,hq⟩:=xo! us eb;have hb:=Av tu i b q.1 eb (QZ! hq);have hb6:=G! s6 hb;have S6:=S5.same s6;obtain⟨a9,dm⟩:=S6.ob;have gv:EL H6 G.r Fm! (WD! q.2):=Mo S6.dr hb6 (val q (ZP hq));have ft:=Xc (b:=Un! (p? (0<q.2))) hq;refine tf! p C a9 _ _ rfl dm T.cl T.nR (C6 G) _ rfl G.r gv ?_;by_cases c:0<q.2;(.rw[SZ!] at ft ⊢;refine Cy ⟨_,rfl,_,rfl,p,C,a9,_,_,rfl,dm,T.cl,T.nR,C6 G,_,rfl,G.r,_,rfl,gv,Ee!,λx1 ay=>?_⟩;have s7:=wF! FS! ay;have x7:YM! (BJ! H6 x1 .BE [eP!,FS!]) x1 [eP!,FS!]:=Ab;have e7:=G! s7 e6;generalize H8! H6 x1 [eP!,FS!]=H7 at s7 x7 e7;(have QO:BY H7 (upd H7 bl (.BF (ys++[WP x1]))):=pc e7);(have lcs:cs.length<=us.length:=I! (R? ba) (Nx _ us i));refine Ho! e7 (Ai! ey ZA (BM! P7)) hN ⟨cs++[x1],Qx! ey,Ab,λd o e=>?_,?_⟩;(.rw[JC! mZ];exact fJ! s7 s6);.rw[ft,SL];exact Il (JC.keep QO (JC.keep (HQ s7) ba)) ⟨b,G! QO.BE x7,FU! QO.BE s7 hb6⟩);.rw[SO!] at ft ⊢;refine Cu (d! hN ⟨cs,ey,e6,s6,?_⟩);rw[ft,J6!,AH];exact ba);.rintro ys H6 ⟨cs,ey,e6,s6,ba⟩;rw[ZA,vI,BQ,<-hbk] at ba;rw[ey] at e6;have S6:=S5.same s6;have tO:=G! s6 eu;have tu6:AZ H6 bs (us.map pi):=Ez! s6 tu;(have yt:bl≠G.r:=λz=>by rw[z,S5.dr] at mZ;cases mZ);(have zQ:t? bl:=by cases c:H bl with | none=>rfl | some o=>rw[G! s5 c] at mZ;cases mZ);refine Nz! ul (AC tO);have JEP:∀j,Xv! (rY! ((us.map (·.1)).take j):BM).AI G.AI.filter (q.1∉(us.map (·.1)).take j):=FG!;refine aM! ul IB! (λi σ H7=>∃u3:wE,σ=[CZ!,iD!,u2,u3,d? ul,d? bl]/\Cy! H7 (rY! jC!)/\R7! H6 (b≠G.r) H7) (HQ! ?_ (λb o e _=>e)) (λi σ H7 _ h=>ep! (DS.of (v! fr tO (λz=>by rw[z,S6.dr] at tO;cases tO))));(·(have e8:Fg! G.AI.filter (q.1∉v2! 0)=G.AI:=EU.mpr λq _=>D?);rw[e8];exact S6);(.rintro i x σ H7 hx ⟨u3,rfl,S7,QZ⟩;rw[ZH] at hx;cases eb:bs[i]? with | none=>rw[eb] at hx;cases hx | some b =>rw[eb] at hx;have hx:eP!=x:=ZO hx;subst hx;obtain⟨q,hq⟩:=xo! us eb;(have vj:(us.map (·.1))[i]?=some q.1:=PG! hq);have hb:=Av tu6 i b q.1 eb vj;(have hb7:=v! QZ hb (λz=>by rw[z,S6.dr] at hb;cases hb));obtain⟨wz,o8⟩:=S7.ob;(have qin:a0! (G.AI.filter (Mj! (r.1∉jC!))).map:=by refine Zm! (oi! (pm.subset (kZ q (ZP hq))));have:q.1∉jC!:=λz=>Of und vj z;simpa using this);obtain⟨v,hv⟩:=Gx (l:=G.AI.filter λ(r:T2×Int)=>p? (r.1∉(us.map λ(z:T2×Int)=>z.1).take i)) (k:=λ(q:T2×Int)=>q.1) (f:=λ(q:T2×Int)=>FS!) (t:=q.1) qin;refine⟨_,rfl,p,C,wz,_,_,rfl,o8,T.cl,T.nR,C6 _,G.r,rfl,L6! S7.dr,_,rfl,_,LO!,_,b,S7.dr,rfl,hb7,hv,?_⟩;(have e9:Dr (((rY! jC!:BM).AI).map Eq!) (tk q.1)=(G.AI.filter (Mj! (r.1∉v2! (U?)))).map Eq!:=I! (Fs (An!) G.AI vj) (Ga (k:=An!) (f:=Dt!) _ _));rw[e9];have S8:=S7.ZW (G.AI.filter (Mj! (r.1∉v2! (U?))));exact HQ! S8 (FJ! (h5! (v! QZ e hb))));.rintro σ H7 ⟨u3,rfl,S7,QZ⟩;rw[ZA,vI,<-ZA (f:=An!),BQ] at S7;have ax:BY H6 H7:=A! (λb xs e=>v! QZ e (λz=>Pp! S6.dr)) (λb o v e=>v! QZ e (λz=>Pp! S6.dr));refine m? (k bl cs H7 zQ (QZ _ _ e6 yt) (JC.keep ax ba) ?_ (EF! (v! QZ (CP! s6 s5 e) (NE! h2))));(have eK:FU G=rY! (b? us.map):=by unfold FU;(have:Xv! (G.AI.filter λq=>Pb!) G.AI.filter (q.1∉b? us.map):=EH (UV (by by_cases c:Pb!=true;(·(have nm:q.1∉b? us.map:=λz=>by obtain⟨r,hr,er⟩:=ZN z;rw[<-sY] at hr;have:=Jb! hr;rw[er,c] at this;cases this);rw[c,EZ! nm]);·(have c:o? Pb!:=O6!);(have im:a0! us.map:=G? sY (Zm! (F5! (pm.symm.subset hq) (KM c))));rw[c];simp only[im,not_true_eq_false,decide_false])));rw[this]);rw[eK];exact S7
universe E
universe S
inductive Vd(vs:C!)(H:Hp)(Q:VK)(E:XK):Prop
 | mk (p:Addr) (G:BM) (n m:Nat) (rs:Y!) (R:D!) (_:GX!) (_:Q?) (_:z?) (_:n<=62) (_:bE!) (_:b3!) (_:DT!) (_:FB!) (_:xb! m) (_:m<=5000) (_:Ok AK! n) (_:∀(x:Addr)(as:J!)(H':Hp),(oH!)->eT! JD!->JC H' as (Bj AK! rs)->KK! (HY (FU AK!))->Zt!->I9!)
theorem kj:Vw! [Bv!,"lent","kept"] Qj:={}
def Jpy:TT:=Ky (YK (gY (dM! (j<i))) (dQ! BE!) Kr!)
theorem Jgx(F:h! JH! uN! Qj)(T:Txt)(Tx:t_)(MR:Bs! Lg! Fn Gg! fR dR)(ML:r7! fL dL)(MG:rn! fG dG) : Gi! sB Vd:=by
 have GR:EG 1 fR dR Gg! Hb:=K7 MR.fn;have GL:Cw! fL dL HR! Je8:=Jjm ML.fn T;have GG:Rw! fG dG yE:=Jcb MG.fn T Tx;refine f? kj;obtain⟨p,G,n,m,rs,R,rfl,S,ok,zn,gr,gq,pm,pw,rc,zm,eQ,k⟩:=h;refine X!;have hu:=a?;obtain⟨dx,hp⟩:=S.ob;refine I4! (Ki (te:=B7 0) (tt:=Jpy) (i:=1) (caps:=Ky!) kj.nd rfl rfl rfl rfl (Pj g?) rfl ZV rfl ZV rfl JX! Kd! Jd! ZV (dS! uK cV! Ag) L3!) (RF.bU (Ad (Au (i:=2) kj.nd rfl (by first|exact Or.inl rfl|exact Or.inr rfl) (t6! GR hr MR.mg MR.fn.kp MR.bd (AU! (Bc Jgh (Eg (R5 rfl) EL! Tx.list PyProof.Rows.boot_list YO!) z!) g?))) (LP! (vf! T.cl ML.mt GL hr ML.bd Ba (am (PE.bU (sx! (h3! 2) (Pj g?) Kd! (wQ! Eh))))) L8! (BO! (Cq O? T.cl MG.mt GG hr MG.bd S! Ba)))));have z0:=ok.oz;have z1:=ok.hz;have z2:=ok.RI;have oQ:p≠G.o:=λz=>S.SJ (b:=G.o) (EI!) z.symm;refine tJ! C dx hp T.cl T.nO (Da G) G.o S.dO (λob ll j_=>?_);refine N5 (b:=EN! j8!) (caps:=Ky!) (l:=G.AF) (key:=λq=>q.1) (val:=Dt!) (ob:=ob) j_ E! Ab (λH2 a t Q' sm ha ht q=>?_) λH2 bs sm el tl=>?_;.have GY:Ds! H2 (FY! (B4 G)):=G! sm (Pd! oQ hp);(have gv:Cf (G.AF.map Eq!) (tk t)=some (V.int (Ai G.AF t)):=Db! qP! (Mr ht));exact tf! p C dx _ _ rfl GY T.cl T.nO (Da G) _ rfl G.o (L! ⟨_,tk t,a,No ob (Hx! sm),rfl,ha,gv.symm⟩) q
 have o9:Mr! G.o (NX! C4 G.AF):=Hx! sm;refine nF! (A1! H2 G.o C4 G.AF) G.o ob o9;.have z:hq! G.o:=z;rw[S.dO] at z;cases z
 have nll:ll≠G.o:=λz=>by rw[z,Ab] at j_;cases j_
 have s3:ap (HK! G.o C4 G.AF):=sa! (b=G.o) S.dO (G! sm (SH!))
 have aK:es! (HK! G.o C4 G.AF) ll:=o! nll el
 have tl3:AZ (HK! G.o C4 G.AF) bs (K1 G):=by refine Ar (W5!) tl;rw[Ac λz=>Pp! o9];exact e
 generalize A1! H2 G.o C4 G.AF=H3 at s3 aK tl3;have S3:=Lj! s3;obtain⟨QN,RD⟩:=S3.ob;refine tJ! C QN RD T.cl T.nH (Fz G) G.h (H! S3.dh) (λl1 JA sv ky1=>?_);have t1:AZ H3 JA G.hand:=Jcj (val:=MT!) ky1;have s4:=IR! JA.map sv;have e4:NL! H3 l1 JA.map l1 JA.map:=Ab;have t4:AZ (LU! H3 l1 JA.map) JA G.hand:=Ez! s4 t1;have a7:=DI! aK;have ug:AZ (LU! H3 l1 JA.map) bs (K1 G):=Ez! s4 tl3;generalize NW! H3 l1 JA.map=H4 at s4 e4 t4 a7 ug;have n1:=R? t4;have n2:=R? ug;have n3:Eg! K1 G 62:=by have:Eg! K1 G (G.AF.map (·.1)).length:=NK!;rw[ZA] at this;lia
 refine⟨_,rfl,l1,ll,_,_,rfl,rfl,e4,a7,nh! P7,λcl v_=>?_⟩;rw[<-ZF];have s5:=IR! Ya! v_;have e5:NL! H4 cl Ya! cl Ya!:=Ab;have t5:AZ (LU! H4 cl Ya!) (JA++bs) (G.hand++K1 G):=Ez! s5 (O8 t4 ug);generalize NW! H4 cl Ya!=H5 at s5 e5 t5;have S5:=S3.same (Aj s4 s5);obtain⟨eX,dq⟩:=S5.ob;refine⟨_,rfl,p,C,eX,_,_,rfl,dq,T.cl,T.nL,Ep G,cl,G.l,JA++bs,G.hand++K1 G,G.holds,m,R,rfl,e5,t5,LC! ZE,S5.dl,B!,UV ⟨A3! S5.hl,Co! (ok.ln q hq).2,(S.cy.2.2.2 q hq).2.2.1⟩,rc,zm,λkp H6 hkp s6 ek=>?_⟩;have S6:=S5.same s6;obtain⟨a9,dm⟩:=S6.ob;refine⟨_,rfl,p,a9,_,rfl,dm,SZ,_,rfl,p,C,a9,_,_,rfl,dm,T.cl,T.nO,Da G,G.o,_,rfl,S6.dO,λoP gl vv=>?_⟩;have nkp:kp≠G.o:=λz=>by rw[z,S5.dO] at hkp;cases hkp
 refine N5 (b:=R1!) (caps:=h3! 2) (l:=G.AF) (key:=λq=>q.1) (val:=Dt!) (ob:=oP) vv E! Ab (λH7 a t Q' rh ha ht q=>?_) λH7 gs rh eg tg=>?_;.refine lt! kp (Gk (rh kp (Bg R) (Pd! nkp ek)) ha);(have e8:DM! (!(if AZ! then some (V.bl true) else none).isSome) (t∉R):=by by_cases c:AZ!;(.rw[v?];simp[c]);.rw[EQ];simp[c]);rw[e8];exact Rm!
 have ho7:U! H7 G.o (.HK oP (C4 G.AF)):=Hx! rh;refine nF! (A1! H7 G.o C4 G.AF) G.o oP ho7;.have z:hq! G.o:=z;rw[S.dO] at z;cases z
 have ngl:gl≠G.o:=λz=>by rw[z,Ab] at vv;cases vv
 have s8:CB H6 (BJ! H7 G.o C4 G.AF):=sa! (b=G.o) S6.dO (G! rh (SH!))
 have eg8:O1! (BJ! H7 G.o C4 G.AF) gl gs.map:=o! ngl eg
 have tg8:AZ (BJ! H7 G.o C4 G.AF) gs (lC! R1!):=by refine Ar (W5!) tg;rw[Ac λz=>Pp! ho7];exact e
 generalize A1! H7 G.o C4 G.AF=H8 at s8 eg8 tg8;have S8:=S6.same s8;refine⟨p,gl,G,gs,_,rfl,S8,ok.ke,eg8,tg8,λH9 S9 wI=>?_⟩;rw[Xf ok.ke] at S9;obtain⟨dC,gz⟩:=S9.ob;refine PT! dC gz dC gz;rw[Bn];have fE:=S9.fld dC (keepR G R).AQ ((keepR G R).AX+1);have bc:aT p G H8 (qd! { bJ! with AX:=(keepR G R).AX+1 }):=EF! (xj! wI)
 have fE:Cy! (qd! { bJ! with AX:=(keepR G R).AX+1 }) (HY AK!):=fE;generalize upd H9 p (P9! dC { bJ! with AX:=(keepR G R).AX+1 })=kX at fE bc;obtain⟨lR,lK⟩:=fE.ob;have s08:ap H8:=Aj s3 (Aj s4 (Aj s5 (Aj s6 s8)));refine⟨_,rfl,p,lR,_,rfl,lK,B5 _ ZV,p,HY AK!,n,rs,rfl,fE,eQ.HY,zn,gr,bH! gq,pm,pw,λx as qF hx ex ba xO lP=>?_⟩;have vS:oH!:=EF! (Ak (eE! bc (d! s08 e)) hx);refine k x as qF vS ex ba xO (EF! (lP _ _ (bc _ _ (d! s08 e) h1 h2) h1 λz=>h2 (List.Sublist.subset (Rr (G:=tW! (keepR G R).AF) FO) z)))
universe E
universe E K64
universe N FX
open PySem PySem.Spec PyProof.Rows L2
theorem Jrb{a b c d:Str}{k1 k2:NameKind}{cl:CW!}{y:Str}(hc:lR!)(hd:WP! d)(h:Kx! ([P5!,P6!,(c,k1),(d,k2)]:JU!).lookup ([P5!,P6!,(c,k1),(d,k2)]:JU!).lookup):OU! :=ql! (by simp only[CK,EJ,OO] at hp;rcases hp with rfl|rfl|rfl|rfl;(.rcases hk with hk|hk<;>cases hk);(.rcases hk with hk|hk<;>cases hk);(.exact hc);.exact hd)
inductive KO(H:Hp)(t:Addr)(n:Int)(kind:Str)(s g:Int)(tb:T2)(x:Int):Prop
 | mk a b (_:is! (nK! kind Aj!)) (_:KF! [CK!,g! x]) (_:KB)
theorem KO.keep(h:KO H t n kind s g tb x)(k:wS):KO H' t n kind s g tb x:=let⟨a,b,e1,e2,e3⟩:=h;⟨a,b,O3! e1,Y3!,O3! e3⟩
universe E FX
universe N K64
open PySem L2 FX
def Jrp(G:BM)(tb:T2)(wt:Int)(G':BM):Prop:=(Mg!/\∃o,rJ!/\G'=hO! Fc! (Ln! (o-wt)))\/(Ej!/\G'={ G with AX:=Bo!,hand:=Fc!,AI:=aq! })
def Wt(kind:Str)(G:BM)(tb:T2)(wt:Int)(G':BM):Prop:=(hX!/\Jrp G tb wt G')\/(kind=wv/\G'=Q4! aq!)\/(kind=BC!/\G'=Xh! qF!)
theorem Wt.BL(h:Th! wt):BL G'=BL G:=by rcases h with⟨_,⟨_,o,_,rfl⟩|⟨_,rfl⟩⟩|⟨_,rfl⟩|⟨_,rfl⟩<;>rfl
universe S
def Sz(G:BM):Prop:=Xf!/\Ml!/\Mh!
inductive G9(vs:C!)(H:Hp)(Q:VK)(E:XK):Prop
 | mk (p t:Addr) (W:EF) (n s g:Int) (kind:Str) (tb:T2) (wt:Int) (q:Addr) (G G':BM) (_:GV!) (_:wT) (_:KO H t n kind s g tb wt) (_:SB!) (_:Th! wt) (_:Sz G) (_:∀H',Ff! (LM! (fH! g.toNat))->Dv!->PS!)
theorem KW:YX! [Bv!,VK!,"kind",dk!,Lf!,d5!] Jo:={}
theorem Jay(F:h! ud! ue! Jo)(T:Txt)(TW:Gd)(M1:JZ! "came" uJ! Ym f1 d1)(G1:pv! FT! yD)(M2:JZ! "added" uK! Ql f2 d2)(G2:pw! FT! Ve)(M3:JZ! "given" uL! Qi f3 d3):T6! AW! G9:=by
 have G3:Cw! f3 d3 FT! Jb0:=Jgw M3.fn T;refine c1! KW;.obtain⟨p,t,W,n,s,g,kind,tb,wt,q,G,G',rfl,_⟩:=h;rfl
 .obtain⟨p,t,W,n,s,g,kind,tb,wt,q,G,G',rfl,S,⟨a,b,e1,e2,e3⟩,i,cm,⟨z1,z2,z3⟩,k⟩:=h;have GC:lc:=W?;obtain⟨dx,hp⟩:=S.ob;refine Zr! KW.nd (kN! KW.nd (Z0! Ix!) (ZM! KW.nd Rn! (LR! 5 KW.nd Rn!) (Af (Bl (t7! W! Bi) (HU! (wV! E? Ba (YG! AO!))) (Af (Bl (t7! W! Bi) (HU! (Uq! E? T.cl M2.mt G2 hr M2.bd Ba (YG! AO!))) (HU! (Uq! E? T.cl M3.mt G3 GC M3.bd Ba (YG! AO!)))))))));refine lw! _ Pj!;refine⟨_,rfl,p,CW,dx,_,_,rfl,hp,TW.cl,TW.nH,Ds W,_,rfl,t,_,_,_,rfl,rfl,Pj!,rfl,W.hs,_,_,_,rfl,rfl,YV!,i.YG,?_⟩;refine tw!;refine tw!;obtain⟨FH,hq⟩:=FD!;(have dn:Done q G H G' λH'=>PS!:=λH' S' fr=>by obtain⟨x1,x2⟩:=S.step i.2 S' fr (j? (B? (by rw[cm.BL] at hb;exact hb)));exact k H' x1 x2);rcases cm with⟨rfl,cm⟩|⟨rfl,rfl⟩|⟨rfl,rfl⟩;(.refine ny ⟨_,rfl,q,FH,_,rfl,hq,SZ,_,rfl,_,rfl,q,b,G,tb,wt,rfl,Nc!,e3,z1,z2,z3,?_⟩;rcases cm with⟨h1,o,h2,rfl⟩|⟨h1,rfl⟩;(.exact H! ⟨h1,o,h2,dn⟩);.exact No h1 dn);(.exact cx (ny ⟨_,rfl,q,FH,_,rfl,hq,SZ,_,rfl,_,rfl,q,b,G,tb,wt,rfl,Nc!,e3,z3,dn⟩));.exact cx (cx ⟨_,rfl,q,FH,_,rfl,hq,SZ,_,rfl,_,rfl,q,b,G,tb,wt,rfl,Nc!,e3,z2,dn⟩)
def Ey(G:BM)(tb:T2)(sh:Int)(FQ:Bool):BM:=hO! T7! (eP G tb sh FQ)
def Xj(p:Addr)(W:EF)(H:Hp)(x:Addr):Prop:=KE (Dj!->Eh!->b≠x)
inductive Lp(vs:C!)(H:Hp)(Q:VK)(E:XK):Prop
 | mk (p t:Addr) (W:EF) (n s MW goal:Int) (tb:T2) (q:Addr) (G:BM) (_:GV!) (_:wT) (_:KO H t n Ah! s MW tb goal) (_:LD W MW q G) (_:Sz G) (_:Fr!) (_:GF!) (_:((goal=MW/\∀(x t1:Addr)(H':Hp),sN! (wD! (qN! MW.toNat tb true) XV Js!) (KO H' t1 Pe! wv MW s tb W.share) (aZ! [T! (XV)]))\/(goal≠MW/\∀(x t1 t2:Addr)(H':Hp),pU! (qN! MW.toNat tb false) Fz! (Js!++[(Fz!,t2)]) t1 AT MW goal W.share (KO H' t2 (Fz!) wv MW s tb W.share) (J7! Dv! QK! fZ! (aZ! [T! (XV),T! (Fz!)])))))
theorem QA:YX! [Bv!,VK!,"home",Lf!,"goal","went"] Qc:={}
theorem Jgk(F:h! uf! ug! Qc)(T:Txt)(TW:Gd)(TP:M8)(M1:CT K C "passed" uM! Lv OQ! f1 d1)(M3:UG!) : Gi! AW! Lp:=by
 have G1:Cw! f1 d1 OQ! X8:=Jdy M1.fn T;have G3:cq!:=cd!;refine c1! QA;.obtain⟨p,t,W,n,s,MW,goal,tb,q,G,rfl,_⟩:=h;rfl
 .obtain⟨p,t,W,n,s,MW,goal,tb,q,G,rfl,S,⟨a,b,e1,e2,e3⟩,i,⟨z1,z2,z3⟩,ho,zl,k⟩:=h;obtain⟨dx,hp⟩:=S.ob;refine Zr! QA.nd (fL! QA.nd Rn! (LR! 4 QA.nd Rn!) (MM! (A6 (Up! (Z0! W!) T.cl M1.mt G1 hr M1.bd Ba (Fn! E? g? (mA! n? W!)))) (LR! 5 QA.nd ED!) (Bl (LQ! xb n? W!) (wT! AO! (Aa (oc! g? (vR! W! n? (SW! g?))) Ae)) Bb) (A6 (F7 BN CO CN Cv AO! (Aa (oc! g? (vR! W! Ix! (SW! g?))) Ae))) (Vm! 5)));refine lw! _ Pj!;refine tw!;refine tw!;obtain⟨FH,hq⟩:=FD!;refine⟨_,rfl,p,CW,dx,_,_,rfl,hp,TW.cl,TW.nH,Ds W,_,rfl,W.hs,_,_,_,rfl,rfl,YV!,i.YG,q,FH,_,rfl,hq,SZ,_,rfl,_,rfl,p,CW,dx,_,_,rfl,hp,TW.cl,TW.nS,Ji W,_,rfl,_,rfl,rfl,q,b,G,tb,W.share,aw! MW,rfl,Nc!,e3,z2,z1,ho,Vk!⟩;obtain⟨W1,HM⟩:=nH!;have QL:=N5!;refine Hp! CU!;have s2:=JJ! hx;have ex:Vx! (Lh! x .BF []) []:=Ab;have W2:=lx!;have mP:=QL.trans (HQ s2);(have jd:QK!:=λz=>by rw[z] at hx;rw[W1.hs] at hx;cases hx);(have zw:fZ!:=λb o e hb z=>by rw[<-z,Br! HM hb] at hx;cases hx);have m6:=Hw! mP.BE;have bH:=G! mP.BE e3;obtain⟨JI,GY⟩:=W2.ob;obtain⟨QN,cJ⟩:=W2.po.ob;have lr:x∉Bv p (LM! (qN! MW.toNat tb (decide (a1! goal MW)))):=W2.YY ex jd;refine⟨_,rfl,_,rfl,rfl,_,rfl,?_⟩;rcases k with⟨rfl,k⟩|⟨ne,k⟩;(.rw[Os! (bv (! aw! goal))];refine At!;refine⟨_,rfl,DC! ex,_,rfl,p,CW,JI,_,_,rfl,GY,TW.cl,TW.nP,Es _,W.po,QN,_,rfl,cJ,L9!,_,rfl,_,rfl,t,_,_,_,rfl,rfl,NE m6,rfl,_,rfl,_,rfl,p,CW,JI,_,_,rfl,GY,TW.cl,TW.nS,Ji _,Ee!,λa2 dw=>?_⟩;have s3:=n7! dw;have W3:=k9!;refine UB! W3.po (Kb! zl) (λt1 H4 ht et S4 dB=>?_);obtain⟨W4,VT⟩:=W3.JO S4 dB;have LB:=nt!;have pQ:Vx! H4 []:=v! VT (d! s3 ex) lr;refine nG! x pQ (Is! (0<=1000));(have kq:Pm! H4 H4 x [] Lp!:=pc pQ);refine m? (k x t1 _ ?_ ⟨a2,b,G! kq.BE et,fa! Ab,ln! bH⟩ (Q6!) jd zw Ab);(·(have:=W4.keep (H':=nz! H4 [] Lp!) λb' o' I_ e'=>VN! (Vb! lr I_) e');rw[e9! (aw! goal=true)] at this;exact this);·(have pF:b'≠x:=λz=>by rw[z] at e' I_;rw[HM x o' e' I_] at hx;cases hx);rw[Ac pF];exact UQ! dB (CP! s3 s2 ay!));.rw[show Ix (! aw! MW) by simp[ne]];refine Cb!;refine⟨_,rfl,DC! ex,_,rfl,p,CW,JI,_,_,rfl,GY,TW.cl,TW.nP,Es _,W.po,QN,_,rfl,cJ,L9!,_,rfl,_,rfl,_,rfl,_,rfl,p,CW,JI,_,_,rfl,GY,TW.cl,TW.nS,Ji _,Ee!,λa2 dw=>?_⟩;have s3:=n7! dw;have W3:=k9!;refine UB! W3.po (Kb! zl) (λt1 H4 ht et S4 dB=>?_);obtain⟨W4,VT⟩:=W3.JO S4 dB;have LB:=nt!;have pQ:Vx! H4 []:=v! VT (d! s3 ex) lr;refine nG! x pQ (Is! (0<=1000));(have kq:Pm! H4 H4 x [] Lp!:=pc pQ);have l1:KO (d1! H4 x [] Lp!) t1 Pe! AT MW goal tb W.share:=⟨a2,b,G! kq.BE et,fa! Ab,ln! bH⟩;(have W5:=W4.keep (H':=nz! H4 [] Lp!) λb' o' I_ e'=>VN! (Vb! lr I_) e');have wQ:Vx! (d1! H4 x [] Lp!) XI!:=Ab;have qk:=ln! m6;have qj:=ln! bH;(have wf5:∀b' o',Ch b' o'->b'∉ER!->U! (d1! H4 x [] Lp!) b' o':=λb' o' e' I_=>by (have pF:b'≠x:=λz=>by rw[z] at e' I_;rw[HM x o' e' I_] at hx;cases hx);rw[Ac pF];exact UQ! dB (CP! s3 s2 ay!));generalize nz! H4 [] Lp!=H5 at l1 W5 wQ qk qj wf5;obtain⟨eX,dq⟩:=W5.ob;obtain⟨a9,sj⟩:=W5.po.ob;refine⟨_,rfl,DC! wQ,_,rfl,p,CW,eX,_,_,rfl,dq,TW.cl,TW.nP,Es _,W.po,a9,_,rfl,sj,L9!,_,rfl,_,rfl,t,_,_,_,rfl,rfl,NE qk,rfl,_,rfl,_,rfl,p,CW,eX,_,_,rfl,dq,TW.cl,TW.nS,Ji _,Ee!,λa6 ha6=>?_⟩;have s6:=n7! ha6;have W6:=W5.same s6;refine em! XV Js! W6.po (QL! ZE (_+1<=700)) (λt2 H7 ht7 wU S7 QZ=>?_);obtain⟨W7,lu⟩:=W6.JO S7 QZ;have ax:=FW! W6 lu;have ex7:Vx! H7 XI!:=v! lu (d! s6 wQ) lr;refine nG! x ex7 (Is! (1<=1000));(have kr:qI! x XI! (EQ! Fz!):=pc ex7);refine m? (k x t1 t2 _ ?_ (l1.keep (((HQ s6).trans ax).trans kr)) ⟨a6,b,G! kr.BE wU,FU! kr.BE ax.BE Ab,FU! kr.BE ax.BE (d! s6 qj)⟩ (Q6!) jd zw Ab);(·(have:=W7.keep (H':=nz! H7 XI! (EQ! Fz!)) λb' o' I_ e'=>VN! (Vb! lr I_) e');rw[show o? (aw! MW) by simp[ne]] at this;exact this);·(have pF:b'≠x:=λz=>by rw[z] at e' I_;rw[HM x o' e' I_] at hx;cases hx);rw[Ac pF];exact UQ! QZ (d! s6 (e2! wf5))
universe E
universe S
inductive P1(vs:C!)(H:Hp)(Q:VK)(E:XK):Prop
 | mk (p:Addr) (W:EF) (_:GX!) (_:wT) (_:∀(l:Addr)(H':Hp),M2! Fy! (mt! W.ls.map d7!) r? l)
theorem Jap:aY! Kc:={}
theorem Y0(F:h! PK! "World.letters" Kc)(TW:Gd)(TP:M8)(M1:CT K CP PK! ua! Hi sB f1 d1):Gi! sB P1:=by have G1:Rw! f1 d1 P5:=Y4 M1.fn TP;refine f? Jap;obtain⟨p,W,rfl,S,k⟩:=h;refine X!;obtain⟨dx,hp⟩:=S.ob;obtain⟨FH,hq⟩:=S.po.ob;refine FA! (dK! g? TP.cl Ba);exact⟨_,rfl,p,CW,dx,_,_,rfl,hp,TW.cl,TW.nP,Es W,W.po,FH,_,rfl,hq,L9!,W.po,W.pd,W.c,W.ls,rfl,S.po,k⟩
structure qD(G:BM)(i:Nat):Prop where
 eq:∃h o l r,G=vZ! r
theorem PH:Y? [Bv!,"n",VK!,"kind"] D8! Kd:={}
inductive Lo(vs:C!)(H:Hp)(Q:VK)(E:XK):Prop
 | mk (p b:Addr) (h g:Int) (W:EF) (tb:T2) (q:Addr) (G:BM) (_:vs=Zg! Go) (_:wT) (_:KB) (_:BQ!) (_:(∃q2 G2,LD W g q2 G2)) (_:Ml!) (_:Mh!) (_:W.ls.length<=700) (_:vN! Vf! LG ((wp/\Mg!/\∃o,rJ!/\fG! G.AI.find?=none/\ec! (pU! (L4! (Xh! (Ln! (o+W.share)))) XV (W.ls++NJ!) t AT h g W.share Dv! (TA! Pe!)))\/(wp/\Ej!/\∃wt,Db (fG! G.AI.find?) tb wt/\vN! (wt=0) NW ((wt=1/\ec! (pU! (L4! (Q4! (Be G.AI tb 0))) XV (W.ls++NJ!) t Ah! h tb.1 g Dv! (TA! Pe!)))\/(2<=wt/\ec! (pU! (L4! (Q4! (eu! (wt-Q7!)))) XV (W.ls++NJ!) t AT h g (Q7!) Dv! (TA! Pe!)))))))
theorem ZY:Y? [Bv!,"h","g","b",dk!,d5!] SN! Vg:={}
theorem Ue(h:Db Kc! t w9):Db (ij! (Be l t v).find?) t v:=by have m:BX!:=oj! (AY h);unfold Be;rw[AE m];clear m;induction l with | nil=>simp at h | cons q l ih =>rw[AJ];by_cases e:h?;(.rw[jp,BX];simp[e]);.rw[SC,BX];rw[BX] at h;simp only[e,decide_false] at h ⊢;exact ih h
theorem Jgj(F:h! VH! "World.send" Vg)(T:Txt)(TW:Gd)(TP:M8)(MH:Ih!)(M1:CT K C "part" uI! Yf NH! f1 d1)(G1:Op 3 f1 d1 NH! yG)(M2:dv! uP! uQ! Qd f2 d2)(M3:UG!) : j2! SN! Lo:=by
 have GH:K4!:=K6!;have G2:fK! f2 d2 Jbw:=Rp! Jgr M2.fn T;have G3:Op 1 f3 d3 uR! Gr:=Rp! Kl M3.fn TP;refine Au! ZY;obtain⟨p,b,h,g,W,tb,q,G,rfl,S,hb,i,⟨q2,yM,i2⟩,z1,z2,z3,k⟩:=h;refine X!;have GC:lc:=W?;obtain⟨dx,hp⟩:=S.ob;refine I4! (Uo! 4 ZY.nd fh!) (Ad (TO! TW.cl MH.mt GH GC MH.bd Pi!) (ZN! 5 ZY.nd (wV! n? B0 (AU! E? g?)) (vH! (F5 (Up! n? T.cl M2.mt G2 GC M2.bd B0 (am E?))) (qo! M3.mt G3 M3.bd B0 (ko! (Dh! E?) (SW! W!)))) (qo! M3.mt G3 M3.bd B0 (ko! W! (SW! AO!)))));obtain⟨FH,hq⟩:=FD!;refine xR! (L! ⟨q,G,i,_,rfl,p,dx,_,rfl,hp,Lb!,_,rfl,p,g,W,rfl,S,Ld! q2 yM i2 ?_⟩);refine⟨_,rfl,q,FH,_,rfl,hq,SZ,_,rfl,_,rfl,p,CW,dx,_,_,rfl,hp,TW.cl,TW.nS,Ji W,q,b,G,tb,W.share,rfl,Nc!,hb,z1,z2,?_⟩;rcases k with k|⟨h1,h2,o,h3,h4,k⟩|⟨h1,h2,wt,h3,k⟩;.exact DH!
 .refine AN! ⟨h1,h2,o,h3,Vk!⟩;obtain⟨W1,HM⟩:=nH!;have QL:=N5!;obtain⟨JI,dk⟩:=S1.ob;refine tN! q JI dk q ak!;(have e4:o? (p? (((G.AI.find? (sK (q.1=tb))).map pu)=some 0)):=KM h4);rw[e4];refine At!;obtain⟨QN,RD⟩:=W1.ob;obtain⟨bK,j7⟩:=W1.po.ob;refine tu! QN RD (Es _) bK j7 _ rfl _ rfl _ Ee! XW!;have s2:=n7! ha;have W2:=lx!;refine UB! W2.po z3 (λt H3 ht et S3 RT=>?_);obtain⟨W3,cE⟩:=W2.JO S3 RT;have aF:=FW! W2 cE;refine k t H3 W3 ⟨a,b,et,Hx! aF.BE,i8! aF.BE (d! QL.BE hb)⟩ Q6!;exact UQ! RT (d! s2 ay!)
 .refine cr ⟨h1,h2,wt,h3,?_⟩;rcases k with k|⟨rfl,k⟩|⟨h4,k⟩;(.exact DH!);(.refine No l! Vk!;(have eg:J? 1-Hw 1=0:=l!);rw[eg] at S1;obtain⟨W1,HM⟩:=nH!;have QL:=N5!;obtain⟨JI,dk⟩:=S1.ob;refine tN! q JI dk q ak!;(have e4:p? ((((Be G.AI tb 0).find? (sK (q.1=tb))).map pu)=some 0)=true:=KM (Ue h3));rw[e4];refine Cb!;obtain⟨QN,RD⟩:=W1.ob;obtain⟨bK,j7⟩:=W1.po.ob;have tE:=ak!;refine⟨_,rfl,p,CW,QN,_,_,rfl,RD,TW.cl,TW.nP,Es _,W.po,bK,_,rfl,j7,L9!,_,rfl,_,rfl,b,_,_,_,rfl,rfl,NE tE,rfl,_,rfl,_,rfl,Ee!,XW!⟩;have s2:=wF! (X? g) ha;have W2:=lx!;refine UB! W2.po z3 (λt H3 ht et S3 RT=>?_);obtain⟨W3,cE⟩:=W2.JO S3 RT;have aF:=FW! W2 cE;refine k t H3 W3 ⟨a,b,et,Hx! aF.BE,i8! aF.BE tE⟩ Q6!;exact UQ! RT (d! s2 ay!));.refine Yi! B!;(have eg:Hw wt=Q7!:=by unfold Hw;rw[GR!]);rw[eg] at S1;obtain⟨W1,HM⟩:=nH!;have QL:=N5!;obtain⟨JI,dk⟩:=S1.ob;refine tN! q JI dk q ak!;(have e4:o? (p? ((((Be G.AI tb (wt-Q7!)).find? (sK (q.1=tb))).map pu)=some 0)):=by rw[Ue h3];refine BR! Dz!;have:wt-Q7!=0:=ZO z;lia);rw[e4];refine At!;obtain⟨QN,RD⟩:=W1.ob;obtain⟨bK,j7⟩:=W1.po.ob;have tE:=ak!;refine tu! QN RD (Es _) bK j7 _ rfl _ rfl _ Ee! XW!;rw[eg] at *;have s2:=wF! (EQ! Q7!) ha;have W2:=lx!;refine UB! W2.po z3 (λt H3 ht et S3 RT=>?_);obtain⟨W3,cE⟩:=W2.JO S3 RT;have aF:=FW! W2 cE;refine k t H3 W3 ⟨a,b,et,Hx! aF.BE,i8! aF.BE tE⟩ Q6!;exact UQ! RT (d! s2 ay!)
universe E
structure uH(H:Hp)(c h:Int)(L:j!)(bs:Y!):Prop where
 BJ:ii! (List.range bs.length).map pG!
 MV:A6! (λ(y:Int×Addr)(q:T2×Int)=>KO H y.2 y.1 BC! h q.1.1 q.1 q.2) L bs
universe S
inductive Pd(vs:C!)(H:Hp)(Q:VK)(E:XK):Prop
 | mk (p l:Addr) (h:Int) (W:EF) (as:J!) (bs:Y!) (_:vs=[Go,Cx!,i! l]) (_:wT) (_:aU!) (_:l∉ER!) (_:JC H as bs) (_:bs.length<=60) (_:GF!) (_:hY! (sN! (Ff! (Xl! (W.c+(bs.length:Nat)))) (uH H' W.c h L bs) S0!))
theorem Jiw:Y? P7! P7! Nh:={}
def Jny:TE:=Sv CP "put" (Gr) [] E0 (U3 K (B7 2) BH!) (Dz (WE! BC!) (Dz (B7 1) (Dz (YK Ss! (YK Ss! (B7 0) Kr!) Kr!) (Dz (B7 0) Nd))))
theorem Jgn(F:h! "give_back" "World.give_back" Nh)(TW:Gd)(TP:M8)(M3:UG!):Gi! P7! Pd:=by
 have G3:cq!:=cd!;refine f? Jiw;obtain⟨p,l,h,W,as,bs,rfl,S,el,lno,bk,zb,zl,k⟩:=h;refine X!;have lab:=R? bk;refine FA! (wM! Jny [("h",1),jg!] (KU! 2) (HC! rfl trivial) (λy h=>Jrb ci ci h) ⟨C0!,C0!,trivial⟩ gG! (Uw! (oc! (Aq W! rfl) (ko! (Dh! iN!) O?))));refine Ve! l (AC el) hZ!;have s0:=Nn!;have nrl:l≠r:=Ak el IW;have mC:r∉ER!:=S.QC IW;have S0:dl! C (wx! r) (fE! ai! (W.ls++[])):=Ai! (e9! (ai!=W.c)) AH (Lj! s0)
 refine Ia (K:=K) (a:=l) (xs:=Ep!) (tt:=bF!) (te:=Jny) (caps:=[("h",1),jg!]) (σ:=[CZ!,ut h,M3!]) (λi ys H2=>I2! H2 r/\O1! H2 l as.map/\∃L,ys=ng!/\F1! (Xl! PL!)/\uH H2 W.c h L (bs.take i)/\JC H2 as bs/\I3! H2) ⟨Ab,G! s0 el,[],rfl,S0,s? S!,bk.keep (HQ s0),Qy! s0⟩ (λi ys H2 _ h=>A! (AC h.2.1) h.1) ?_ ?_;.rintro i v ys H2 N hi ⟨er,iC,L,rfl,W2,b2,xG,QJ⟩ hN;refine Cb!;rw[ZH] at hi;cases cM:ME! with | none=>rw[cM] at hi;cases hi | some ai =>rw[cM] at hi;cases hi;(have vt:i<bs.length:=Dp! lab cM);obtain⟨q,hq⟩:=Ao vt;obtain⟨cc,ea,ec⟩:=Av xG i ai q cM hq;(have lL:L.length=i:=by have:=R? b2.MV;rw[DG] at this;lia);obtain⟨JI,GY⟩:=W2.ob;obtain⟨QN,cJ⟩:=W2.po.ob;refine⟨_,rfl,p,CW,JI,_,_,rfl,GY,TW.cl,TW.nP,Es _,W.po,QN,_,rfl,cJ,L9!,_,rfl,_,rfl,ai,_,_,_,rfl,rfl,NE ea,rfl,cc,_,_,_,rfl,rfl,NE ec,rfl,_,rfl,?_⟩;refine em! _ _ W2.po (eI! ZE lL) (λt H4 ht et S4 dB=>?_);obtain⟨W4,VT⟩:=W2.JO S4 dB;have LB:=FW! W2 VT;have aJ:U! H4 r ee!:=v! VT er mC;have a7:O1! H4 l as.map:=v! VT iC lno;(have kq:Pm! H4 H4 r ng! (EQ! H2!):=pc aJ);refine Ho! aJ Si! hN ⟨Ab,o! nrl a7,L++[(H2!,t)],Qi!,?_,?_,xG.keep (LB.trans kq),Q6!⟩;(·(have e1:eo! U?=PL!+1:=B!);rw[e1,<-AN];exact gE! W4.keep (Ny! mC));(.rw[CQ,hq];refine Lu! (Gg ?_ (Ar (λ_ _ rr=>rr.keep (LB.trans kq)) b2.MV));(.have n1:=b2.BJ;(have n2:YQ! bs.take=i:=gn!);rw[n2] at n1;rw[ZF,n1,ZE,n2];show _=(List.range (U?)).map _;rw[DZ,ZF];congr 1;show [H2!]=[XV+y!];congr 1;lia);.exact⟨ai,cc,G! kq.BE et,fa! ea,fa! ec⟩);·(have pG:b'≠r:=λz=>by rw[z] at e';rw[IW] at e';cases e');rw[Ac pG];exact VT b' o' (e2! QJ) I_
 .rintro ys H2 ⟨er,iC,L,rfl,W2,b2,xG,QJ⟩;rw[ZA,lab] at W2 b2;rw[BQ] at b2;exact k r L H2 W2 b2 QJ (lW! mC (Os (rX!))) (λb o e _ z=>by rw[<-z,e] at IW;cases IW) er
theorem Lc:∀b∈BL (HY (FU AK!)),MW!:=j? (by unfold BL at hb ⊢;have hb:b∈G.h::G.o::G.l::G.r::(G.holds.filter (sK Bw!)).map Gz!:=hb;simp only[CK] at hb ⊢;rcases hb with h|h|h|h|h;(.exact H?);(.exact IG!);(.exact cr G9!);(.exact cr (IQ! h));.obtain⟨q,hq,e⟩:=B0!;exact cr (e1! AG.mpr ⟨q,et!,e⟩))
inductive Jm(vs:C!)(H:Hp)(Q:VK)(E:XK):Prop
 | mk (p:Addr) (h:Int) (W:EF) (q:Addr) (G:BM) (n m:Nat) (rs:Y!) (R:D!) (_:ZC!) (_:wT) (_:BQ!) (_:z?) (_:n<=62) (_:bE!) (_:b3!) (_:DT!) (_:FB!) (_:xb! m) (_:m<=5000) (_:Ok AK! n) (_:(Bj AK! rs).length<=60) (_:GF!) (_:hY! (sN! (wD! (L4! lr!) (W.c+((Bj AK! rs).length:Nat)) EG!) (uH H' W.c h L (Bj AK! rs)) S0!))
theorem Jfi:nn! Ph:={}
theorem Jdw(F:h! JH! "World.clean" Ph)(T:Txt)(TW:Gd)(MH:Ih!)(M1:JG! JH! uN! Qj f1 d1)(G1:pv! sB Vd)(M2:sl! f2 d2)(G2:pw! P7! Pd):T6! CJ! Jm:=by
 have GH:Cw! fH dH CJ! (pD! En):=FX.EW.no (Ei MH.fn T TW);refine f? Jfi;obtain⟨p,h,W,q,G,n,m,rs,R,rfl,S,i,ok,zn,gr,gq,pm,pw,rc,zm,eQ,zb,zl,k⟩:=h;refine X!;have GC:lc:=W?;obtain⟨dx,hp⟩:=S.ob;obtain⟨FH,hq⟩:=FD!;refine FA! (TK! TW.cl M2.mt G2 M2.bd (AU! z! (dK! (ve! TW.cl MH.mt GH GC MH.bd ES!) T.cl Ba)));refine⟨_,rfl,p,dx,_,rfl,hp,Lb!,_,rfl,_,rfl,p,dx,_,rfl,hp,Lb!,_,rfl,p,h,W,rfl,S,L! ⟨q,G,i,q,FH,_,rfl,hq,SZ,q,G,n,m,rs,R,rfl,Nc!,ok,zn,gr,gq,pm,pw,rc,zm,eQ,λx as H1 nx ex bk S1 LN=>?_⟩⟩;obtain⟨W1,HM⟩:=S.step i.2 S1 LN (j? (hr! Lc));have o6:=S.IS (b:=W.hs) (rX!) (ZP i.2);have jd:QK!:=λz=>nx _ _ S.hs o6.1 o6.2 z.symm;have sub:∀b,Eh!->b∉Bv p (LM! (L4! lr!)):=λb hb m=>by rcases ZI m with m|m;(.exact hb Yu!);.obtain⟨z,hz,hm⟩:=DF.mp m;have hz:z∈L4! lr!:=hz;rcases PK hz with hz|rfl;(.exact sL! (Id! hm));.refine sL! (PP FO! (ZP i.2));exact hm.imp id λz=>Lc b z
 refine⟨p,x,h,_,as,_,rfl,W1,ex,W1.YY ex jd,bk,zb,zl,λy L H2 W2 b2 QJ jc jb ey=>?_⟩;exact k y L H2 W2 b2 (qX! QJ) jc (qX! jb) ey
universe E
universe E K64
universe N FX
open PySem PySem.Spec PyProof.Rows L2
def SG(G:BM)(t:T2):Prop:=A0!\/∃q∈G.holds,V9!
theorem Gm(h:t∈vS!):Cg!:=by unfold CD at h;cases e:C2! G.holds.find? (q.1=ta) with | none=>rw[e] at h;cases h | some q=>rw[e] at h;exact L! ⟨q,AY e,h⟩
def iK(m:Nat)(t:T2):Prop:=bN t/\t.1<m
structure Sd(m:Nat)(G:BM)(n:Nat):Prop where
 ok:z?
 nn:∀q∈G.AI,0<=q.2
 ip:∀t,Cg!->iK m t
 rk:∀t,Cg!->XZ!->YN!
 ir:JE! G.AI.map (iK m t)
 n0:0<=G.BJ
 n1:G.BJ<m
 m0:0<=G.AQ
 m1:G.AQ<=n
theorem Tn(h:q∈Be l t v):q=(t,v)\/q∈l:=by
 unfold Be at h;by_cases c:BX!;.rw[v?] at h;obtain⟨r,hr,e⟩:=B0!;by_cases d:r.1=t;(.rw[AE d] at e;exact B? (XV! d));.rw[AB d] at e;exact N? (VU! hr)
 .rw[EQ] at h;rcases ZI h with h|h;(.exact AP!);.exact B? (At)
theorem Dc(l:Y!)(t:T2)(v:Int):FB MQ!/\(∀u∈fB!,u∈b? MQ!)/\∀u∈b? MQ!,u=t\/u∈fB!:=by
 rw[Fg];by_cases c:BX!;.rw[v?];exact⟨c,λu hu=>hu,BG! (L! hu)⟩
 .rw[EQ];refine⟨ib!,BG! (Os hu),Fq!⟩;rcases GO! with hu|hu;(.exact L! hu);.exact B? (QU!)
theorem C3:∀(l:Y!)(t u:T2)(v:Int),Ai (Be l t v) u=if u=t then v else Ai l u:=by
 have app:∀(l:Y!)(t u:T2)(v:Int),hM!->Ai (l++[(t,v)]) u=if u=t then v else Ai l u:=λl t u v h=>by unfold Ai;rw[List.find?_append];by_cases e:u=t;(.rw[jp,e];(have:Kc!=none:=cp! (¬h?) h);rw[this];simp);.rw[SC];have:¬t=u:=d3! e;cases eK! (q.1=u)<;>simp[this]
 have mp:∀(l:Y!)(t u:T2)(v:Int),BX!->Ai (l.map λq=>Sq!) u=if u=t then v else Ai l u:=λl t u v h=>by induction l with | nil=>simp at h | cons q l ih =>unfold Ai;rw[AJ,BX,BX];by_cases e:h?;(.rw[jp];by_cases e2:u=t;(.rw[AE e2,e2,e];simp);.rw[AB e2];have n1:¬q.1=u:=λz=>e2 (z▸e);rw[BR! n1];by_cases hl:BX!;(.have:=ih hl;rw[AB e2] at this;exact this);·(have:Bq! (λq=>Sq!)=l:=by refine(BP Ht!).trans (List.map_id l);have:¬r.1=t:=V0! hl (L5! z);rw[AB this];rfl);rw[this]);.rw[SC];(have hl:BX!:=by rcases ZM h with h|h;(.exact iM! e);.exact h);by_cases e2:q.1=u;(.rw[EZ! e2];have:¬u=t:=Po! e2.trans;rw[AB this]);.rw[BR! e2];exact ih hl
 intro l t u v;unfold Be;by_cases c:BX!;.rw[v?];exact mp l t u v c
 .rw[EQ];exact app l t u v c
theorem Ea(l:Y!)(P9:T2->Bool)(t:T2):BK! (l.filter λq=>P9 q.1)=TD (P9 t=true) H1! 0:=by induction l with | nil=>by_cases c:P9 t=true<;>simp[c,Ai] | cons q l ih =>rw[EA];by_cases e:h?;(.by_cases c:P9 q.1=true;(.rw[v?,AE (kH!)];unfold Ai;rw[BX,BX,h1!]);.rw[EQ,ih,AB (kH!),AB (kH!)]);·(have e1:Ai (q::l) t=H1!:=by unfold Ai;rw[BX,Hz!]);rw[e1];by_cases c:P9 q.1=true;(.rw[v?];(have:Ai (q::l.filter λq=>P9 q.1) t=BK! (l.filter λq=>P9 q.1):=by unfold Ai;rw[BX,Hz!]);rw[this,ih]);.rw[EQ,ih]
theorem J7(h:∀q∈l,0<=q.2)(t:T2):0<=H1!:=by unfold Ai;cases e:Kc! with | none=>exact BS! | some q=>exact h q (AY e)
universe S
theorem Sd.of(x:Bb!)(gZ:OY! G')(nu:WU!)(md:QN!)(hd:fR! (Cg!\/(iK m t/\(XZ!->FB G'.AI.map))))(hl:∀q∈G'.holds,∀t∈u?,Cg!)(nn:∀q∈G'.AI,0<=q.2)(ir:JE! G'.AI.map (YN!\/iK m t))(ks:∀t,SG G' t->YN!->FB G'.AI.map):Dw! G':=by
 refine⟨gZ,nn,GD!,Mi!,V? ((ir t ht).elim (x.ir t) id),W6! x.n0,W6! x.n1,I! md x.m0,by rw[md];have:=x.m1;lia⟩;.rcases ht with ht|⟨q,hq,ht⟩;(.rcases C8! hd with h|h;(.exact x.ip t h);.exact h.1);.exact x.ip t (hl q hq t ht)
 .rw[nu] at e;rcases id ht with h|⟨q,hq,h⟩;(.rcases hd t h with h|h;(.exact ks t ht (x.rk t h e));.exact h.2 e);.exact ks t ht (x.rk t (hl q hq t h) e)
theorem Sd.up(x:Bb!):Dw! G:=x.of (x.ok.mono (EX n)) rfl rfl (AV! eU!) (λq hq t ht=>Pz!) x.nn Kw! Ke!
theorem Sd.tk(x:Bb!):Sd m (HY G) n:=⟨x.ok.HY,x.nn,x.ip,x.rk,x.ir,x.n0,x.n1,x.m0,x.m1⟩
theorem Sd.make(x:Bb!)(hm:m<=12)(hn:AD!)(a:Addr):Dw! (HY Vg!):=by
 refine Sd.tk ⟨x.ok.aN a,x.nn,GD!,Mi!,x.ir,x.n0,x.n1,by show 0<=Do!;have:=x.m0;lia,by show Do!<=Bn! (n+1);have:=x.m1;lia⟩;.have h1:=x.m1;have h2:=x.n1;rcases ht with ht|⟨q,hq,ht⟩;(.have ht:XY!:=ht;rcases H3! with ht|ht;(.exact x.ip t (c? ht));·(have:Jo!:=dm!);rw[this];exact A! ⟨x.n0,xL (G.BJ<12),x.m0,xL (G.AQ<60)⟩ x.n1);.have hq:q∈IV!:=hq;rcases ZI hq with hq|hq;(.exact x.ip t (AB! (LV! ht)));·(have:oA!:=dg!);rw[this] at ht;cases ht
 .rcases ht with ht|⟨q,hq,ht⟩;(.have ht:XY!:=ht;rcases H3! with ht|ht;(.exact x.rk t (c? ht) e);·(have:Jo!:=dm!);exact BP! (KM this) e);.have hq:q∈IV!:=hq;rcases ZI hq with hq|hq;(.exact x.rk t (AB! (LV! ht)) e);·(have:oA!:=dg!);rw[this] at ht;cases ht
theorem Ok.fb(ok:z?)(h:Mg!->Fr!):OY! GE!:=by
 refine(ok.mono (EX n)).hand (Qt _ ok.hn) (by have:=Km G.hand tb;have:=ok.hz;lia) Mi!;rcases DO! with ht|ht;.exact ok.hk t ht e
 .rw[ht];exact h (G? ht e)
def Jd(G:BM)(ta tb:T2):BM:=HY (mz! (Bu K3! tb))
def Hy(G:BM)(ta tb:T2):BM:=HY (mz! (Hz K3! tb))
def Ot(G:BM)(tb:T2):BM:=HY GE!
def Ou(G:BM)(tb:T2):BM:=HY (eS! Y6!)
theorem Sd.hold(x:Bb!)(hb:wp):Dw! lJ!:=by
 have gZ:OY! (mz! (Bu K3! tb)):=by obtain⟨g1,g2,g3⟩:=x.ok.get ta;refine(x.ok.mono (EX n)).holds (Qt _ g1) (Co! (Km K3! tb)) Mi!;rcases DO! with ht|ht;(.exact g3 t ht e);.rw[ht];exact x.ok.hk tb hb (G? ht e)
 refine TG! gZ ?_ x.nn Kw! Ke!;rcases Me hq with⟨_,e⟩|hq;.rw[e] at ht;rcases DO! with ht|ht;(.exact Gm ht);.rw[ht];exact PJ!
 .exact Pz!
theorem Sd.drop(x:Bb!)(ta tb:T2):Dw! f2!:=by
 have gZ:OY! (mz! (Hz K3! tb)):=by obtain⟨g1,g2,g3⟩:=x.ok.get ta;refine(x.ok.mono (EX n)).holds (g1.sublist FO) (by have:=AW (JO! (u≠tb)) K3!;unfold Hz;lia) λt ht e=>g3 t OG! e
 refine TG! gZ ?_ x.nn Kw! Ke!;rcases Me hq with⟨_,e⟩|hq;.rw[e] at ht;exact Gm OG!
 .exact Pz!
theorem Sd.take(x:Bb!)(hb:Jp!):Dw! (Ot G tb):=by
 refine k7! (x.ok.fb λe=>(x.ok.get ta).2.2 tb hb e) (Uz! ?_) x.nn Kw! Ke!;rcases DO! with ht|ht;.exact X0!
 .rw[ht];exact Gm hb
theorem Sd.free(x:Bb!)(tb:T2):Dw! (Ou G tb):=by refine k7! ((x.ok.mono (EX n)).hand (l:=Y6!) (x.ok.hn.sublist FO) (by have:=AW (JO! (u≠tb)) G.hand;have:=x.ok.hz;unfold Hz;lia) λt ht e=>x.ok.hk t OG! e) (AV! (Dm! OG!)) x.nn Kw! Ke!
def Sq(G:BM)(tb:T2)(v:Int):BM:=HY (tW! lo!)
def Jg(G:BM)(tb:T2)(v:Int):BM:=HY (dx! lp!)
theorem Sd.out(x:Bb!)(h:Fr!)(v:Int):j3! Sq :=TG! ((x.ok.AF h v).mono (EX n)) Pz! x.nn Kw! Ke!
theorem Sd.lA(x:Bb!)(hf:Ej!)(hi:iK m tb)(hv:0<=v):j3! Jg:=by
 have okc:=(x.ok.qm hf v).hand (l:=G.hand) x.ok.hn (GN x.ok.hz) x.ok.hk;refine TG! okc Pz! (CV!) H6! (λt _ h=>(Dc _ _ _).2.1 t h);.rcases Tn hq with e|hq;(.rw[e];exact hv);.exact A3! x.nn
 .rcases Nf! with e|h;(.rw[e];exact L! hi);.exact H?
def Fi(G:BM)(R:D!):BM:=lr!
theorem Sd.clean(x:Bb!)(eQ:Ok AK! n):Dw! (Fi G R):=by
 refine TG! (eQ.FU.mono (EX n)) (L! ⟨q,et!,ht⟩) (bH! x.nn) mo! (λt ht hk=>?_);obtain⟨q,hq,e⟩:=ZN hk;refine Y7! q (oi! hq);rw[e];unfold CJ;rcases ht with ht|⟨r,hr,ht⟩;.have ht:t∈(keepR G R).hand:=ht;rw[decide_eq_true ht];rfl
 .have:gK! (keepR G R).holds.any:=K'.mpr ⟨r,hr,dm!⟩;rw[this,Bool.or_true]
theorem ME.ofN(ok:z?)(hn:n<=60):∃k R,k<=5000/\bc!:=by
 have l1:(G.holds.map (·.1)).length<=60:=by rw[ok.ke,ZA];have:=ok.oz;lia
 have l2:Eg! startT G 200:=by unfold startT K1;refine Sc! ?_;rw[ZE];have h1:=ok.hz;have h2:=AW (EN! j8!) (Iu! G.AF.map);rw[ZA] at h2;have h3:=ok.oz;lia
 have l3:Eg! (G.holds.map (·.1)).filter (EN! (t∉R8!)) 60:=Sc! l1;obtain⟨k,R,h1,h2⟩:=ME.ex (nx:=OW G.holds) (keys:=b? G.holds.map) (B:=60) (Jg0 G.holds) (λt=>A_ (AW _ _) (A_ (ok.get t).2.1 hn)) 5000 (startT G) [] (Jdh G) (by have:IN (G.holds.map (·.1)).filter (EN! (t∉R8!))*(60+1)<=60*(60+1):=FD _ l3;lia);exact⟨k,R,h1,h2⟩
theorem Ok.clean(ok:z?)(rc:bc!):Ok (FX.keepR G R) n:=ok.keepR rc.sub.2 (rc.closed (Mk!))
universe E
universe S
def Jht(G:BM)(tb:T2)(v:Int):BM:=HY { G with hand:=Fc!,AF:=lo! }
def Jhu(G:BM)(tb:T2)(v:Int):BM:=HY { G with hand:=Fc!,AI:=lp! }
theorem Sd.rP(x:Bb!)(JT:Fr!)(hi:iK m tb)(v:Int):j3! Jht:=by
 refine k7! (FX.Ok.AF (G:=GE!) (Ok.fb x.ok λ_=>JT) JT v) H6! x.nn Kw! Ke!;rcases DO! with ht|ht;.exact eU!
 .rw[ht];exact No hi (λe=>IR (x.ok.new tb JT).1 e)
theorem Sd.rQ(x:Bb!)(hf:Ej!)(hi:iK m tb)(hv:0<=v):j3! Jhu:=by
 refine k7! (x.ok.qm hf v) H6! (CV!) H6! (λt _ h=>(Dc _ _ _).2.1 t h);.rcases DO! with ht|ht;(.exact eU!);.rw[ht];exact No hi (λ_=>(Dc _ _ _).1)
 .rcases Tn hq with e|hq;(.rw[e];exact hv);.exact A3! x.nn
 .rcases Nf! with e|h;(.rw[e];exact L! hi);.exact H?
theorem Kh(l:Y!)(t:T2)(v:Int):(Be l t v).length<=hA!:=by
 unfold Be;split;.rw[ZA];lia
 .rw[ZE];exact ii
universe E
universe E FX
universe N K64
open PySem L2 FX
structure LT where
 kind:Str
 s:Int
 g:Int
 th:T2
 x:Int
def PR(t:T2)(l:LT):Int:=if DY! then(if Fs! then 1 else l.x) else 0
def Ci(t:T2):l?->Int
 | []=>0
 | l::r=>Yz! r
theorem G8(t:T2):∀(a b:l?),Ci t Ad!=Ci t a+Ci t b
 | [],b=>by simp[Ci]
 | l::a,b=>by show Yz! Ad!=(Yz! a)+Ci t b;rw[G8 t a b];lia
theorem Fm(t:T2)(a b:l?)(l:LT):Ci t (a++l::b)=cP! Ad! l:=fe! G8 G8 (Ci t a+(Yz! b)=_)
theorem G7(t:T2)(a:l?)(l:LT):Ci t (a++[l])=cP! a l:=QL! G8 (Ci t a+(PR t l+0)=_)
def MO(t:T2)(G:BM):Int:=AX!-Dn!
def Gq(t:T2):a!->Int
 | []=>0
 | q::r=>V3! q.2 r
def Hj:a!->Nat
 | []=>0
 | q::r=>q.2.AI.length+Hj r
theorem Xy:∀{l:a!} {i:Nat} {q r:Ox!},IJ!->Gq t bK!=Gq t l-MO t q.2+MO t r.2
 | [],i,q,r,h=>DZ!
 | x::l,0,q,r,h=>by (have h:x=q:=At);subst h;show V3! r.2 l=(bT!)-MO t x.2+MO t r.2;lia
 | x::l,i+1,q,r,h=>by (have h:IJ!:=At);show V3! x.2 bK!=(bT!)-MO t q.2+MO t r.2;rw[Xy h];lia
theorem Yp:∀{l:a!} {i:Nat} {q r:Ox!},IJ!->Hj bK!+q.2.AI.length=Hj l+r.2.AI.length
 | [],i,q,r,h=>DZ!
 | x::l,0,q,r,h=>by (have h:x=q:=At);subst h;show r.2.AI.length+Hj l+x.2.AI.length=x.2.AI.length+Hj l+r.2.AI.length;lia
 | x::l,i+1,q,r,h=>by (have h:IJ!:=At);have:=Yp (r:=r) h;show x.2.AI.length+Hj bK!+q.2.AI.length=x.2.AI.length+Hj l+r.2.AI.length;lia
theorem O9:∀{l:a!},(∀(j:Nat) r,l[j]?=some r->il!)->0<=Gq t l
 | [],_=>BS!
 | x::l,k=>by have h1:=k 0 x rfl;have h2:=O9 (t:=t) λj r h=>k (j+1) r (At);show 0<=bT!;lia
theorem U5:∀{l:a!} {i:Nat} {q:Ox!},IJ!->(∀(j:Nat) r,l[j]?=some r->j≠i->il!)->MO t q.2<=Gq t l
 | [],i,q,h,_=>DZ!
 | x::l,0,q,h,k=>by (have h:x=q:=At);subst h;have h2:=O9 (t:=t) λj r h=>k (j+1) r (At) E!;show MO t x.2<=bT!;lia
 | x::l,i+1,q,h,k=>by (have h:IJ!:=At);have h1:=k 0 x rfl E!;have h2:=U5 h λj r h ne=>k (j+1) r (At) E!;show MO t q.2<=bT!;lia
def KP(m:Nat)(l:LT):Prop:=0<=l.g/\l.g<m/\iK m l.th /\
 ((l.kind=AT/\1<=l.x)\/(l.kind=wv/\1<=l.x/\l.g≠l.th.1)\/(Xm!/\1<=l.x/\Xn!)\/(Fs!/\Xn!/\0<=l.x/\l.x<m/\0<=l.s/\l.s<m/\l.s≠l.th.1))
theorem E9:M8! wv:=ZV
theorem Dg:M8! AT:=ZV
theorem Fa:M8! BC!:=ZV
theorem KP.w(h:IO!):1<=PR l.th l:=by grind [PR,Dg,E9,Fa,LT,KP]
theorem KP.nn(h:IO!)(t:T2):0<=PR t l:=by
 by_cases e:DY!;.rw[<-e];have:=h.w;lia
 .unfold PR;rw[SC];exact BS!
theorem Ln:∀{ls:l?},(CF! IO!)->0<=Ci t ls
 | [],_=>BS!
 | l::ls,h=>by have h1:=(h l LS!).nn t;have h2:=Ln (t:=t) (Q5! h);show 0<=Yz! ls;lia
theorem Px(h:CF! IO!)(hl:Gt!):1<=Ci l.th ls:=by obtain⟨a,b,e⟩:=HP hl;rw[e,Fm];have h1:=(h l hl).w;have h2:=Ln (t:=l.th) (ls:=T?) (S? (h z (by rw[e];rcases A8! with hz|hz;(.exact Os hz);.exact u8! hz)));lia
structure Wl(C:y?)(m n:Nat)(sh:Int)(qs:a!)(ls:l?):Prop where
 len:qs.length=m
 oZ:m<=12
 sd:∀(i:Nat)(q:Addr)(G:BM),Z?->Bb!/\ha!
 ok:CF! IO!
 sum:∀t,C t->Gq t qs+Ci t ls=0
 sh:2<=sh
universe S
variable {C:T2->Prop}{m n:Nat}{sh:Int}{qs:List (Addr×BM)}{ls:List LT}
theorem Jkt{P9:Uf BM Nat}{l:a!}{i:Nat}{q:Addr}{G':BM}(h:∀j q G,FM (l[j]?)->j≠i->P9 G j)(hi:P9 G' i):∀j q' G,Db ((l.set i Fb!)[j]?) q' G->P9 G j:=by
 intro j q' G e;rw[List.getElem?_set] at e;by_cases z:i=j;.rw[AE z] at e;by_cases z2:t3!;(.rw[AE z2] at e;have:Fb!=(q',G):=ZO e;rw[<-eb! this,<-z];exact hi);.rw[AB z2] at e;cases e
 .rw[AB z] at e;exact h j q' G e λz'=>z z'.symm
theorem Wl.next(x:B8!){i:Nat}{q:Addr}{G G':BM}{OU:l?}(hi:Z?)(uo:Dw! G')(nu:WU!)(gZ:∀l∈OU,IO!)(yP:∀t,C t->MO t G'+Ci t OU=MO t G+Ci t ls)(JPv:G'.AI.length+OU.length<=G.AI.length+ls.length+1):Ks! BT! OU:=by refine⟨I! MK x.len,x.oZ,Jkt (P9:=λG j=>Dw! G/\G.BJ=A4!) (λj q G e _=>A! (x.sd j q G e).1.up (x.sd j q G e).2) (A! uo (Gq! nu (x.sd i q G hi).2)),gZ,λt hC=>?_,x.sh⟩;have h1:=x.sum t hC;have h2:=yP t hC;rw[Xy hi];show Gq t qs-MO t G+MO t G'+Ci t OU=0;lia
theorem Wl.up(x:B8!):Ur! Wl C Bp!:=⟨x.len,x.oZ,λi q G e=>A! (x.sd i q G e).1.up (x.sd i q G e).2,x.ok,x.sum,x.sh⟩
theorem Wl.lD(x:B8!){t:T2}{j:Nat}{r:Ox!}(e:QP!=some r)(ne:me!):BK! r.2.AF=0:=by obtain⟨s,nu⟩:=x.sd j r.1 r.2 e;exact Eu λz=>ne (mf! z)
theorem Wl.qv(x:B8!){t:T2}{j:Nat}{r:Ox!}(e:QP!=some r)(ne:me!):il!:=by have h1:=x.lD e ne;have h2:=J7 (x.sd j r.1 r.2 e).1.nn t;unfold MO;lia
theorem Wl.there(x:B8!){l:LT}(hl:Gt!)(hC:C l.th){i:Nat}{q:Addr}{G:BM}(hi:Z?)(e:l.th.1=y!):Mm!:=by
 refine QV! (λno=>?_);have h1:=Px x.ok hl;have h2:=O9 (t:=l.th) (l:=qs) λj r ej=>by by_cases c:l.th.1=A4!;(·(have:i=j:=B!);subst this;have er:FO!=r:=ZO (hi.symm.trans ej);have h3:=J7 (x.sd i r.1 r.2 ej).1.nn l.th;unfold MO;rw[<-er] at h3 ⊢;have h4:Ai G.AF l.th=0:=Eu no;show 0<=Ai G.AI l.th-Ai G.AF l.th;have h3:0<=Ai G.AI l.th:=h3;lia);.exact x.qv ej c
 have h3:=x.sum l.th hC;lia
theorem Wl.lZ(x:B8!){i:Nat}{q:Addr}{G:BM}(hi:Z?)(t:T2)(hC:Ao!->C t):0<=Dn!:=by
 by_cases c:Ao!;.obtain⟨s,nu⟩:=OB!;(have e1:wE!:=mf! c);have h1:=U5 (t:=t) hi λj r ej ne=>x.qv ej (B!);have h2:=Ln (t:=t) x.ok;have h3:=x.sum t (hC c);have h4:AX!=0:=Eu λz=>s.ok.rk t z (s.ok.new t c).1;have h1:AX!-Dn!<=Gq t qs:=h1;lia
 .rw[Eu c];exact BS!
universe E
universe S
variable {C:T2->Prop}{m n:Nat}{sh:Int}{qs:List (Addr×BM)}{ls:List LT}{i:Nat}{q:Addr}{G:BM}
theorem mem_mid(hz:z∈T?):z∈a++l::b:=MI!
theorem Wl.same(x:B8!)(hi:Z?){G':BM}(uo:Dw! G')(nu:WU!)(hr:G'.AI=G.AI)(ho:G'.AF=G.AF):Wl C m Bp! sh BT! ls :=x.next hi uo nu x.ok (λt _=>by unfold MO;rw[hr,ho]) (Fk! hr)
theorem Wl.make(x:B8!)(hi:Z?)(hn:AD!)(a:Addr):Wl C m Bp! sh (HB! Sg!) ls:=by
 obtain⟨s,nu⟩:=OB!;refine x.next hi (s.make x.oZ hn a) rfl x.ok (λt _=>?_) iq!;have fr:Ak!∉Iy!:=λz=>by obtain⟨r,hr,e⟩:=ZN z;exact s.ok.fresh.2.1 r hr e
 have e:Ai (Nr!) t=Dn!:=by rw[<-Jfz fr,C3];by_cases c:Jo!;(.rw[v?,c,Eu fr]);.rw[EQ]
 show Z4! (Ai (Nr!) t) ls;rw[e]
theorem Kk(h:∀z∈ls,KP m z)(hl:IO!):∀z∈ls++[l],KP m z:=S? (by rcases A8! with hz|hz;(.exact Ag! h);.rw[ZK hz];exact hl)
theorem Wl.VL(x:B8!)(hi:Z?){b:T2}(hb:QQ!)(hn:b.1=G.BJ){g:Int}(g0:Ek!)(g1:g<m):Ks! (SC! Sq Tp!) (ls++[cr!]):=by
 obtain⟨s,nu⟩:=OB!;have hs:=x.sh;refine aO! (s.out (s.ok.hk b hb hn) _) x.ok ⟨g0,g1,s.ip b M0!,RJ! (xL (1<=sh))⟩ (fe! ZE EI wB!);rw[G7];show Lq! (AX!-P1! G.AF b (Tp!)+(cP! ls cr!));rw[C3];unfold PR;by_cases c:t=b;.rw[v?,AE (show b=t from c.symm),AB Dg,c];show _+(_+sh)=_;lia
 .rw[EQ,AB (Cm! (¬b=t) ZZ!)];lia
theorem Mu(h:b∈b? G.AI.map)(v:Int):(Jg G b v).AI.length=G.AI.length:=Yt h v
theorem Wl.ZX(x:B8!)(hi:Z?){b:T2}(hb:QQ!)(hf:g8!){g:Int}(g0:Ek!)(g1:g<m)(w2:2<=uA!) : Ks! (SC! Jg cA!) (kq! AT g Pa!):=by
 obtain⟨s,nu⟩:=OB!;refine aO! (s.lA hf (s.ip b (B? hb)) E!) x.ok ⟨g0,g1,s.ip b M0!,RJ! (xL (1<=Pa!))⟩ (by rw[ZE,EI,Mu (s.rk b M0! hf)];lia);rw[G7];show Lq! (m3! (cA!)-Dn!+(cP! ls ⟨AT,y!,g,b,Pa!⟩));rw[C3];unfold PR;by_cases c:t=b;.rw[v?,AE (show b=t from c.symm),AB Dg,c];show _+(_+Pa!)=_;lia
 .rw[EQ,AB (Cm! (¬b=t) ZZ!)];lia
theorem Wl.VJ(x:B8!)(hi:Z?){b:T2}(hb:QQ!)(hf:g8!){g:Int}(g0:Ek!)(g1:g<m)(w1:uA!=1) : Ks! (HB! (Jg G b 0)) (kq! Ah! b.1 g):=by
 obtain⟨s,nu⟩:=OB!;have ib:=s.ip b M0!;have hil:i<m:=Dp! x.len hi
 refine aO! (s.lA hf ib HG!) x.ok ⟨ib.1.1,ib.2,ib,cr (AB! ⟨rfl,rfl,g0,g1,xL (0<=y!),QR! (y!<m),by rw[nu] at hf;exact d3! hf⟩)⟩ (by rw[ZE,EI,Mu (s.rk b M0! hf)];lia);rw[G7];show Lq! (m3! 0-Dn!+(cP! ls ⟨Ah!,y!,b.1,b,g⟩));rw[C3];unfold PR;by_cases c:t=b;.rw[v?,AE (show b=t from c.symm),SL,c,w1];lia
 .rw[EQ,AB (Cm! (¬b=t) ZZ!)];lia
theorem Wl.wt(x:B8!){a b:l?}{l:LT}(es:hU!)(np:l.kind≠Ah!)(hC:Wv! (C l.th))(hi:FM (qs[l.g.toNat]?)) : ∃G',Wt l.kind G l.th l.x G'/\Ks! p1! Ad!:=by
 have hl:Gt!:=IM!
 obtain⟨g0,g1,ib,kk⟩:=x.ok l hl;obtain⟨s,nu⟩:=x.sd _ q G hi;rw[Ga!] at nu;have i':∀z∈T?,KP m z:=S? (P0! x.ok z es jf!);have len:(a++b).length+1=ls.length:=by rw[es];simp only[ZE,BR];lia
 have lw:∀t,PR t l=if DY! then l.x else 0:=gw! (AB np)
 rcases kk with⟨k,x1⟩|⟨k,x1,ne⟩|⟨k,x1,eg⟩|⟨k,_⟩;· by_cases c:l.th.1=G.BJ;(.have JT:=x.there hl (hC (by rw[k];decide +kernel)) hi (UF Ga! c nu);refine rQ! Jht Xo! (CL! k (H! ⟨c,_,Mr JT,rfl⟩)) (s.rP JT ib _) iq!;show Z4! (P1! G.AF l.th (Xo!)) Ad!;rw[es,Fm,C3,lw];by_cases d:MZ!;(.rw[AE d,J2!,d];lia);.rw[AB d,Ko!];lia);.have r0:=J7 s.nn l.th;refine rQ! Jhu Q8! (CL! k (NF! c)) (s.rQ c ib E!) (by have:=Kh G.AI l.th (Q8!);show(Be G.AI l.th _).length+_<=_;lia);show Lq! (P1! G.AI l.th (Q8!)-Dn!+Ci t Ad!);rw[es,Fm,C3,lw];by_cases d:MZ!;(.rw[AE d,J2!,d];lia);.rw[AB d,Ko!];lia
 · (have c:l.th.1≠G.BJ:=W6! (d3! ne));have r0:=J7 s.nn l.th;refine rQ! Jg Q8! (AN! (Rs k)) (s.lA c ib E!) (by have:=Kh G.AI l.th (Q8!);show(Be G.AI l.th _).length+_<=_;lia);show Lq! (P1! G.AI l.th (Q8!)-Dn!+Ci t Ad!);rw[es,Fm,C3,lw];by_cases d:MZ!;(.rw[AE d,J2!,d];lia);.rw[AB d,Ko!];lia
 · by_cases JT:Mm!;(·(have e1:YN G l.th l.x=Be G.AF l.th (Xo!):=ek! (AE JT));refine rQ! Sq Xo! (ix! k (KM e1)) (s.out JT _) iq!;show Z4! (P1! G.AF l.th (Xo!)) Ad!;rw[es,Fm,C3,lw];by_cases d:MZ!;(.rw[AE d,J2!,d];lia);.rw[AB d,Ko!];lia);·(have e1:YN G l.th l.x=G.AF:=ek! (AB JT));refine⟨HY G,ix! k (KM e1),x.next hi s.up.tk rfl i' H6! iq!⟩;show Lq! (AX!-Dn!+Ci t Ad!);rw[es,Fm,lw];by_cases d:DY!;(.exact BP! (x.there hl (q! d ht) hi (I? Ga! eg)) JT);.rw[AB d];lia
 .exact lb!
theorem Sd.pass(s:Bb!)(JT:Fr!)(hi:iK m tb)(sh:Int)(FQ:Bool):Dw! (Ey G tb sh FQ):=by
 have okh:OY! (eS! T7!):=by cases FQ;(.exact s.ok.mono (EX n));.exact FX.Ok.fb s.ok λ_=>JT
 refine(s.of (FX.Ok.AF (G:=eS! T7!) okh JT _) rfl rfl H6! (λq hq t ht=>Pz!) s.nn Kw! Ke!).tk;have ht:t∈T7!:=ht;unfold aE at ht;cases FQ;.exact eU!
 .rcases DO! with ht|ht;(.exact eU!);.rw[ht];exact No hi (λe=>IR (s.ok.new tb JT).1 e)
theorem Wl.pass(x:B8!){a b:l?}{l:LT}(es:hU!)(hp:Fs!)(hC:C l.th)(hi:FM (qs[l.th.1.toNat]?)):Mm! /\ (l.x=l.th.1->Ks! (K5! true) (KS! T?)) /\ (l.x≠l.th.1->Ks! (K5! false) (KS! (ID! K0!))):=by
 have hl:Gt!:=IM!
 obtain⟨g0,g1,ib,kk⟩:=x.ok l hl;obtain⟨s,nu⟩:=x.sd _ q G hi;have hs:=x.sh;have JT:=x.there hl hC hi (D2! BH ib.1.1);have i':∀z∈T?,KP m z:=S? (P0! x.ok z es jf!);have len:(a++b).length+1=ls.length:=by rw[es];simp only[ZE,BR];lia
 have fin:Xn!/\0<=l.x/\l.x<m/\0<=l.s/\l.s<m/\l.s≠l.th.1:=by rcases kk with⟨h,_⟩|⟨h,_⟩|⟨h,_⟩|⟨_,h⟩;(.rw[hp] at h;exact iM! Dg);(.rw[hp] at h;exact iM! E9);(.rw[hp] at h;exact iM! Fa);.exact h
 obtain⟨eg,x0,x1,s0,s1,sne⟩:=fin;have okM:KP m VZ!:=⟨s0,s1,ib,AN! (HC! (xL (1<=sh)) sne)⟩;have okH:KP m K0!:=⟨x0,x1,ib,RJ! (xL (1<=sh))⟩;have lwP:∀t,PR t l=TD DY! 1 0:=gw! (AE hp)
 have lwM:∀t,PR t VZ!=if DY! then sh else 0:=gw! (AB E9)
 have lwH:∀t,PR t K0!=if DY! then sh else 0:=gw! (AB Dg)
 refine⟨JT,λ_=>aO! (Sd.pass s JT ib sh true) i' okM ?_,λ_=>aO! (Sd.pass s JT ib sh false) (Kk i' okH) okM ?_⟩;.show Z4! (Ai (eP G l.th sh true) t) _;unfold eP;rw[G7,es,Fm,C3,lwP,lwM,SL];by_cases d:MZ!;(.rw[AE d,J2!,J2!,d];lia);.rw[AB d,Ko!,Ko!];try lia
 .rw[ZE,EI];show wB!;lia
 .show Z4! (Ai (eP G l.th sh false) t) _;unfold eP;rw[G7,G7,es,Fm,C3,lwP,lwM,lwH,AB AS];by_cases d:MZ!;(.rw[AE d,J2!,J2!,d];lia);.rw[AB d,Ko!,Ko!];try lia
 .rw[ZE,ZE,EI,EI];show wB!;lia
universe E
def Ib(i:Int)(y:Dc!):LT:=⟨BC!,i,y.1.1,y.1,y.2⟩
theorem Zw(q:Dc!)(l:Y!)(t:T2):Ai (q::l) t=TD h? q.2 H1!:=by
 unfold Ai;rw[BX];by_cases e:h?;.rw[h1!,jp];rfl
 .rw[Hz!,SC]
theorem R6(i:Int)(t:T2):∀{l:Y!},Yd!->(∀q∈l,0<=q.2)->Ci t ((l.filter (sK (0<q.2))).map (Ib i))=H1!
 | [],_,_=>rfl
 | q::l,nd,nn=>by have OG:=BA!;have ih:=R6 i t OG.2 (Bj! (nn r (AL! hr)));have q0:=nn q (AJ!);rw[Zw,EA];(have lw:PR t (Ib i q)=TD h? q.2 0:=by unfold PR;rw[AB (show ¬(Ib i q).kind=Ah! from Fa)];rfl);by_cases c:0<q.2;(.rw[AE (decide_eq_true c)];show PR t (Ib i q)+Ci t _=_;rw[lw,ih];by_cases e:h?;(.rw[jp,jp,hj! Eu OG.1];lia);.rw[SC,SC];lia);.rw[AB (O6!),ih];by_cases e:h?;(.rw[jp,hj! Eu OG.1];lia);.rw[SC]
theorem Ro(p:a.Perm b)(nd:k? b.map)(t:T2):BK! a=BK! b:=by
 have gk:k? a.map:=(p.map _).nodup_iff.mpr nd;by_cases c:FB b.map;.obtain⟨q,hq,e⟩:=ZN c;have h1:=FV nd hq;have h2:=FV gk (p.mem_iff.mpr hq);rw[e] at h1 h2;unfold Ai;rw[h1,h2]
 .rw[Eu c,Eu (FZ! c (p.map _).mem_iff.mp)]
theorem Ms(P9:Rx!):∀l:N!,IN l.filter P9+IN l.filter (λx=>! P9 x)=l.length
 | []=>rfl
 | x::l=>by have:=Ms P9 l;rw[EA,EA];cases e:P9 x<;>simp<;>lia
universe S
variable {C:T2->Prop}{m n:Nat}{sh:Int}{qs:List (Addr×BM)}{ls:List LT}{i:Nat}{q:Addr}{G M:BM}
theorem Wl.clean(x:B8!)(hi:Z?)(hC:GC! (C t)){k:Nat}{R:D!}(rc:bc!){rs:Y!}(pm:DT!) : Ks! p4! (ls++wS! AK!):=by
 obtain⟨s,nu⟩:=OB!;refine x.next hi (s.clean (s.ok.clean rc)) rfl gI! (λt _=>?_) ?_;.rcases A8! with hz|hz;(.exact Ag! x.ok);.obtain⟨y,hy,rfl⟩:=As!;obtain⟨om,vP⟩:=AD.mp hy;have vO:=pm.mem_iff.mp (HE! om);have im:=s.ir y.1 (AG.mpr (CT! y vO));exact⟨im.1.1,im.2,im,R4! (i6! (by have:=BW vP;show 1<=y.2;lia))⟩
 .rw[G8];have gB:Ye!:=gD! pm.map s.ok.rn;have e1:Ci t ((Bj AK! rs).map (Ib y!))=BK! (rs.filter λq=>aR!) :=R6 y! t (gB.sublist (List.filter_sublist.map _)) (Bj! (s.nn r (pm.mem_iff.mp NZ!)));rw[e1,Ea rs (λt=>! aW!) t,Ro pm s.ok.rn];show Lq! (lZ! jx!-BK! (Fg! G.AF.filter Bw!)+_);rw[m6! aW!,Ea G.AF (V6! AZ!) t];(have e2:LZ! (p? AZ!=true) Dn! 0=Dn!:=by by_cases c:AZ!;(.rw[AE (decide_eq_true c)]);.rw[AB (O6!)];have h1:=x.lZ hi t (hC t);by_cases d:Ao!;(.have h2:¬j8!:=λz=>c (rc.sub.2 t (by unfold startT K1;refine oi! (ZC _ (AD.mpr (A! d (decide_eq_true z))));rw[s.ok.ke];exact decide_eq_true d));lia);.rw[Eu d]);rw[e2];cases aW!;(.rw[Ca!,AE (by rfl)];lia);.rw[SL,Ca!];lia
 .rw[ZE,ZA];have h1:(Bj AK! rs).length<=F0! rs.filter aR!:=NK!;have h2:=(pm.filter λq=>aR!).length_eq;have h3:=Ms (Un! jx!) G.AI;show F0! G.AI.filter jx!+_<=_;lia
theorem Wl.good(x:B8!)(hn:n<=60)(hi:Z?):Good G:=by obtain⟨s,nu⟩:=OB!;have h1:=s.ok.hz;have h2:=s.ok.oz;have h3:=s.ok.rz;refine⟨s.ok.hn,B!,s.ok.on,B!,s.ok.rn,B!,Ht!⟩;obtain⟨a,fd⟩:=Po (l:=G.holds) (t:=r.1) (q! s.ok.ke (Fj! r hr));obtain⟨g1,g2,_⟩:=s.ok.get r.1;exact⟨a,_,fd,g1,B!⟩
universe E
inductive VS(qs:a!)(t:T2):Prop
 | mk (j:Nat) (q:Addr) (G:BM) (_:Ph!) (_:Ao!)
structure QT(qs:a!)(ls:l?)(X:y?):Prop where
 hand:Xp! (LT! (¬X t))
 aY:CF! (Wv! (¬X l.th))
 hold:Xp! (∀r∈G.holds,g7! (X t->X r.1))
 old:Xp! (∀t,X t->Zn!->t.2<G.AQ)
def LC(qs:a!)(ls:l?)(qs':a!)(OU:l?):Prop:=∀X,K1! X->QT qs' OU X
theorem LC.refl(qs:a!)(ls:l?):LC qs ls qs ls:=λ_ h=>h
def YU(ls:l?)(j:Int)(t:T2):Prop:=∃l∈ls,DY!/\((Fs!/\l.s=j)\/(l.kind=wv/\l.g=j))
def YT(qs:a!)(ls:l?):Prop:=Xp! (∀t,Cg!->me!->1<=AX!\/YU ls A4! t)
universe S
variable {qs:List (Addr×BM)}{ls OU:List LT}{i:Nat}{q:Addr}{G G':BM}{X:T2->Prop}
theorem Dw{l:a!}{j:Nat}{q':Addr}{G2:BM}(e:Db ((l.set i Fb!)[j]?) q' G2):(j=i/\G2=G'/\q'=q)\/(j≠i/\Db (l[j]?) q' G2):=by
 rw[List.getElem?_set] at e;by_cases z:i=j;.rw[AE z] at e;by_cases z2:t3!;(.rw[AE z2] at e;have:Fb!=(q',G2):=ZO e;exact H! ⟨z.symm,(Prod.mk.inj this).2.symm,(Prod.mk.inj this).1.symm⟩);.rw[AB z2] at e;cases e
 .rw[AB z] at e;exact No (λy=>z y.symm) e
theorem QT.next(x:K1! X)(hi:Z?)(h1:fR! (A0!\/¬X t))(h2:∀l∈OU,Wv! (Gt!\/¬X l.th))(h3:∀r∈G'.holds,g7! ((∃r0∈G.holds,r0.1=r.1/\g5!)\/¬X t))(h4:Il!):QT BT! OU X:=by
 refine⟨λj q' G2 e t ht=>?_,λl hl nb=>?_,λj q' G2 e r hr t ht xt=>?_,λj q' G2 e t xt et=>?_⟩;.rcases Dw e with⟨_,e2,_⟩|⟨_,e⟩;(.rw[e2] at ht;rcases C8! h1 with h|h;(.exact x.hand i q G hi t h);.exact h);.exact x.hand j q' G2 e t ht
 .rcases h2 l hl nb with h|h;(.exact x.aY l h nb);.exact h
 .rcases Dw e with⟨_,e2,_⟩|⟨_,e⟩;(.rw[e2] at hr;rcases h3 r hr t ht with⟨r0,m0,e0,t0⟩|h;(.rw[<-e0];exact x.hold i q G hi r0 m0 t t0 xt);.exact absurd xt h);.exact x.hold j q' G2 e r hr t ht xt
 .rcases Dw e with⟨ej,e2,_⟩|⟨_,e⟩;(.rw[e2];have:=av! x.old xt (Hn! et ej);lia);.exact x.old j q' G2 e t xt et
theorem LC.less(hi:Z?)(h1:fR! A0!)(h2:∀l∈OU,Wv! Gt!)(h3:∀r∈G'.holds,∀t∈Al!,∃r0∈G.holds,r0.1=r.1/\g5!)(h4:Il!):j6! BT! :=λX x=>x.next hi (jM! h1) (λl hl nb=>H! (OM! h2)) (WX! (B? (h3 r hr t ht))) h4
theorem YT.next(x:YT qs ls)(hi:Z?)(hp:∀(j:Nat) t,j≠i->YU ls A4! t->YU OU A4! t)(h':∀t,SG G' t->t.1≠y!->1<=RT!\/YU OU y! t):nU! YT:=by
 intro j q' G2 e t ht ne;rcases Dw e with⟨ej,e2,_⟩|⟨ne2,e⟩;.subst ej;rw[e2] at ht ⊢;exact h' t ht ne
 .rcases x j q' G2 e t ht ne with h|h;(.exact H?);.exact N? (hp j t ne2 h)
theorem YU.mono(h:CF! (l∈OU))(p:YU ls j t):YU OU j t:=let⟨l,hl,r⟩:=p;⟨l,h l hl,r⟩
theorem YT.less(x:YT qs ls)(hi:Z?)(hl:CF! (l∈OU))(h':∀t,SG G' t->t.1≠y!->Cg!/\AX!<=RT!):nU! YT :=x.next hi (λj t _ p=>p.mono hl) λt ht ne=>by obtain⟨h1,h2⟩:=h' t ht ne;rcases av! x h1 ne with h|h;(.exact BM! B?);.exact G5! h.mono hl
universe E
structure Wg(D:y?)(m n:Nat)(sh:Int)(qs:a!)(ls:l?):Prop where
 wl:Ur! Wl (λt=>Hq!\/IK!) n
 sD:K1! D
 rc:YT qs ls
theorem Wl.mono{C C':y?}{m n:Nat}{sh:Int}{qs:a!}{ls:l?}(x:B8!)(h:∀t,C' t->C t):Ur! Wl C' n:=⟨x.len,x.oZ,x.sd,x.ok,λt c=>x.sum t (h t c),x.sh⟩
universe S
variable {D:T2->Prop}{m n:Nat}{sh:Int}{qs:List (Addr×BM)}{ls OU:List LT}{i:Nat}{q:Addr}{G G':BM}
theorem VS.set(hi:Z?){t:T2}(h:VS BT! t):IK!\/FB G'.AF.map:=by
 obtain⟨j,q',G2,e,m⟩:=h;rcases Dw e with⟨_,e2,_⟩|⟨_,e⟩;.rw[e2] at m;exact L! m
 .exact H! ⟨j,q',G2,e,m⟩
theorem Wg.step(x:AG!)(hi:Z?)(w9:Wl (λt=>Hq!\/IK!) m Bp! sh BT! OU)(ho:fO! (Ao!\/Hq!))(st:j6! BT!)(rc:nU! YT):vl! BT! OU :=⟨w9.mono λt h=>by rcases h with h|h;(.exact H?);.rcases h.set hi with h|h;(.exact AP!);.rcases ho t h with h|h;(.exact L! (IX! i hi h));.exact H?,st D x.sD,rc⟩
theorem Wg.BJ(x:AG!)(hi:Z?):Bb!/\ha!:=x.wl.sd i q G hi
theorem Xz(hi:Z?)(nu:ha!)(a:Addr):LC qs ls (HB! Sg!) ls:=λX x=>by (have nx:¬X Ak!:=λz=>by have:=x.old i q G hi _ z nu;simp at this);refine x.next hi H6! (λl hl _=>H! hl) (WX! ?_) (xL (G.AQ<=Do!));(.have ht:XY!:=ht;rcases H3! with h|h;(.exact H?);.rw[D7!];exact L! nx);.have hr:r∈IV!:=hr;rcases Em! with h|h;(.exact RK! h);.rw[D7!] at ht;cases ht
theorem Wg.make(x:AG!)(hi:Z?)(hn:AD!)(a:Addr):Wg D m Bp! sh (HB! Sg!) ls:=by
 obtain⟨s,nu⟩:=IE!;refine x.step hi (x.wl.make hi hn a) H6! (Xz hi nu a) (ej! x.rc.less (λl h=>h) ?_);.have ht:t∈(G.AF++[((Ak!,0):Dc!)]).map (An!):=ht;rw[ZF] at ht;rcases H3! with h|h;(.exact H?);·(have e:Jo!:=At);refine L! Dz!;rw[e] at z;have:=x.sD.old i q G hi _ z nu;simp at this
 .refine Lu! BS!;rcases ht with h|⟨r,hr,h⟩;(.have h:XY!:=h;rcases ZI h with h|h;(.exact H?);·(have e:Jo!:=At);exact BP! (MU! nu) ne);.have hr:r∈IV!:=hr;rcases Em! with hr|hr;(.exact L! (L5! h));.rw[ZK hr] at h;cases h
theorem Rp(h:t∈CD l ta):∃r0∈l,r0.1=ta/\g5!:=by unfold CD at h;cases e:C2! l.find? (q.1=ta) with | none=>rw[e] at h;cases h | some r =>rw[e] at h;exact⟨r,AY e,Qn!,h⟩
theorem Hr(hr:r∈JB l ta h):(r.1=ta/\Al!=h)\/r∈l:=by
 unfold JB at hr;obtain⟨r0,m0,e⟩:=ZN hr;by_cases c:r0.1=ta;.rw[v?] at e;exact CL! kH! (by rw[<-e])
 .rw[EQ] at e;exact N? (VU! m0)
theorem Wg.hold(x:AG!)(hi:Z?){ta tb:T2}(hb:wp):gM! (HB! (QE! Jd)) (k2! Jd):=by
 obtain⟨s,nu⟩:=IE!;have st:k2! Jd:=λX y=>Tk! y.next w8! (λl hl _=>H! hl) (by rcases Hr hr with⟨e1,e2⟩|h;(.rw[e2] at ht;rcases DO! with h|h;(.obtain⟨r0,m0,e0,t0⟩:=Rp h;exact H! ⟨r0,m0,I? e0 e1,t0⟩);.rw[h];exact N? (y.hand i q G hi tb hb));.exact RK! h);refine td! (s.hold hb);rcases ht with h|⟨r,hr,h⟩;.exact H?
 .rcases Hr hr with⟨e1,e2⟩|h2;(.rw[e2] at h;rcases X5! with h|h;(.exact Gm h);.rw[h];exact PJ!);.exact nl! h2
theorem Wg.drop(x:AG!)(hi:Z?)(ta tb:T2):gM! (HB! (QE! Hy)) (k2! Hy):=by
 obtain⟨s,nu⟩:=IE!;have key:∀r∈(Hy G ta tb).holds,∀t∈Al!,∃r0∈G.holds,r0.1=r.1/\g5!:=WX! (by rcases Hr hr with⟨e1,e2⟩|h;(.rw[e2] at ht;obtain⟨r0,m0,e0,t0⟩:=Rp OG!;exact⟨r0,m0,I? e0 e1,t0⟩);.exact eh! h)
 have st:k2! Hy:=LC.less hi (Wa!) (λl hl _=>hl) key HG!;refine td! (s.drop ta tb);rcases ht with h|⟨r,hr,h⟩;.exact H?
 .obtain⟨r0,m0,_,t0⟩:=key r hr t h;exact L! ⟨r0,m0,t0⟩
theorem Wg.take(x:AG!)(hi:Z?){ta tb:T2}(ha:AQ!)(hb:Jp!):gM! (HB! (Ot G tb)) (k3! Ot):=by
 obtain⟨s,nu⟩:=IE!;have st:k3! Ot:=λX y=>Tk! y.next (AV! (by rcases DO! with h|h;(.exact H?);.refine L! Dz!;rw[h] at z;obtain⟨r0,m0,e0,t0⟩:=Rp hb;exact y.hand i q G hi ta ha (F8! e0 (y.hold i q G hi r0 m0 tb t0 z)))) (λl hl _=>H! hl) (RK! hr);refine td! (s.take hb);rcases ht with h|h;.rcases X5! with h|h;(.exact H?);.rw[h];exact Gm hb
 .exact AP!
theorem Wg.free(x:AG!)(hi:Z?)(tb:T2):gM! (HB! (Ou G tb)) (k3! Ou):=by
 obtain⟨s,nu⟩:=IE!;have st:k3! Ou:=Tk! LC.less (AV! OG!) (λl hl _=>hl) (eh! hr);refine td! (s.free tb);rcases ht with h|h;.exact H! (HG.mp h).1
 .exact AP!
theorem Py(hi:Z?){l:LT}(hb:l.th∈G.hand)(h1:G'.hand=G.hand)(h2:G'.holds=G.holds)(h3:QN!):fV! BT! [l]:=λX y=>y.next hi (AV! (SU! h1 ht)) (λl' hl _=>by rcases ZI hl with h|h;(.exact H?);.rw[D7!];exact N? (y.hand i q G hi _ hb)) (WX! (RK! (G? h2 hr))) (I! h3 BS!)
theorem xw(h1:G'.hand=G.hand)(h2:G'.holds=G.holds)(h:SG G' t):Cg!:=by unfold SG at *;rw[h1,h2] at h;exact h
theorem Wg.VL(x:AG!)(hi:Z?){b:T2}(hb:QQ!)(hn:b.1=G.BJ){g:Int}(g0:Ek!)(g1:g<m):Qb! (SC! Sq Tp!) (ls++[cr!]) (fV! (SC! Sq Tp!) [cr!]):=by
 obtain⟨s,nu⟩:=IE!;have st:=Py (ls:=ls) (G':=Sq G b (Tp!)) (l:=cr!) hi hb rfl rfl rfl;refine ei! (x.wl.VL hi hb hn g0 g1) (Uz! ?_) (ej! x.rc.less Mn! (A! (xw (G:=G) rfl rfl ht) BS!));have ht:FB (Be G.AF b (Tp!)).map:=ht;rcases Nf! with h|h;.rw[h];exact s.ok.hk b hb hn
 .exact h
theorem Wg.ZX(x:AG!)(hi:Z?){b:T2}(hb:QQ!)(hf:g8!){g:Int}(g0:Ek!)(g1:g<m)(w2:2<=uA!) : Qb! (SC! Jg cA!) (kq! AT g Pa!) (fV! (SC! Jg cA!) [⟨AT,y!,g,b,Pa!⟩]):=by
 have st:=Py (ls:=ls) (G':=Jg G b (cA!)) (l:=⟨AT,y!,g,b,Pa!⟩) hi hb rfl rfl rfl;refine xm! (x.wl.ZX hi hb hf g0 g1 w2) x.rc.next (λj t _ p=>p.mono Mn!) ?_;show 1<=m3! _\/_;rw[C3];by_cases c:t=b;.rw[v?];exact BM! B?
 .rw[EQ];rcases av! x.rc (xw (G:=G) rfl rfl ht) ne with h|h;(.exact H?);.exact G5! h.mono Mn!
theorem Wg.VJ(x:AG!)(hi:Z?){b:T2}(hb:QQ!)(hf:g8!){g:Int}(g0:Ek!)(g1:g<m)(w1:uA!=1) : Qb! (HB! (Jg G b 0)) (kq! Ah! b.1 g) (fV! (HB! (Jg G b 0)) [⟨Ah!,y!,b.1,b,g⟩]):=by
 have st:=Py (ls:=ls) (G':=Jg G b 0) (l:=⟨Ah!,y!,b.1,b,g⟩) hi hb rfl rfl rfl;refine xm! (x.wl.VJ hi hb hf g0 g1 w1) x.rc.next (λj t _ p=>p.mono Mn!) ?_;show 1<=m3! 0\/_;rw[C3];by_cases c:t=b;.exact L! (Dl! Yg! c.symm (H! C9!))
 .rw[EQ];rcases av! x.rc (xw (G:=G) rfl rfl ht) ne with h|h;(.exact H?);.exact G5! h.mono Mn!
universe E
universe S
theorem Wp:Az! AT BC!:=ZV
theorem Wn:Az! Ah! BC!:=ZV
theorem Mm:Az! AT wv:=ZV
theorem Wq:Az! BC! wv:=ZV
theorem Wr:YU! BC!:=ZV
theorem Wo:YU! wv:=ZV
theorem Wt.kY(h:Th! x):(fR! (A0!\/(hX!/\De!)))/\G'.holds=G.holds/\QN!/\WU!/\G'.AX=Bo!/\(∀t,AX!=RT!\/(De!/\RT!=AX!+x))/\(fO! Ao!) /\ (kind=wv->I1! G'.AI=B5!+x)/\(hX!->Ej!->I1! G'.AI=B5!+x):=by
 have put:∀t,BK! (uz! (Xq!))=TD De! (B5!+x) AX!:=λt=>KM C3
 rcases h with⟨k,⟨c,o,f,e⟩|⟨c,e⟩⟩|⟨k,e⟩|⟨k,e⟩;.refine sZ! GD! (λt=>B? (O7!)) GD! (b9! Mm) (λ_ z=>IR c z);(.rw[e] at ht;rcases DO! with h|h;(.exact H?);.exact No k h);.rw[e] at ht;rcases Nf! with h|h;(.rw[h];exact oj! (AY f));.exact h
 .refine sZ! GD! (λt=>?_) (pE! ht) (b9! Mm) (λ_ _=>by rw[e];show I1! (uz! _)=_;rw[put,SL]);(.rw[e] at ht;rcases DO! with h|h;(.exact H?);.exact No k h);.rw[e];show AX!=h7!\/_;by_cases d:De!;(.exact No d (by show h7!=_;rw[put,AE d,d]));.exact B? (I? put (AB d))
 .refine sZ! (pE! X0!) (λt=>?_) (pE! ht) (λ_=>by rw[e];show I1! (uz! _)=_;rw[put,SL]) (b9! Wo);rw[e];show AX!=h7!\/_;by_cases d:De!;(.exact No d (by show h7!=_;rw[put,AE d,d]));.exact B? (I? put (AB d))
 .refine sZ! (pE! X0!) (λt=>B? (O7!)) GD! (b9! Wq) (b9! Wr);rw[e] at ht;have ht:FB (YN G tb x).map:=ht;unfold YN at ht;by_cases c:Fr!;(.rw[v?] at ht;rcases Nf! with h|h;(.rw[h];exact c);.exact h);.rw[EQ] at ht;exact ht
theorem Wg.wt(x:AG!){a b:l?}{l:LT}(es:hU!)(np:l.kind≠Ah!)(hi:FM (qs[l.g.toNat]?)) : ∃G',Wt l.kind G l.th l.x G'/\vl! p1! Ad!/\LC qs ls p1! (T?):=by
 have hl:Gt!:=IM!
 have hC:Wv! (¬D l.th\/VS qs l.th):=λnb=>H! (OM! x.sD.aY);obtain⟨G',wt,w9⟩:=x.wl.wt es np hC hi;obtain⟨h1,h2,h3,h4,_,h5,h6,h7,h8⟩:=wt.kY;obtain⟨s,nu⟩:=IE!;obtain⟨g0,g1,ib,kk⟩:=x.wl.ok l hl;rw[Ga!] at nu;have sub:∀z∈T?,z∈ls:=S? (I! es jf!)
 have st:LC qs ls p1! (T?):=λX y=>y.next hi (AV! (by rcases C8! h1 with h|⟨k,e⟩;(.exact H?);.rw[e];exact L! (y.aY l hl (q! k Wp)))) (λz hz _=>H! (sub z hz)) (WX! (RK! (G? h2 hr))) (I! h3 BS!);have x1:1<=l.x:=by rcases kk with⟨_,h⟩|⟨_,h,_⟩|⟨_,h,_⟩|⟨k,_⟩;(.exact h);(.exact h);(.exact h);.exact lb!
 refine⟨G',wt,x.step hi w9 (jM! h6) st (ej! x.rc.next (λj t ne p=>?_) ?_),st⟩;.obtain⟨z,hz,e,c⟩:=p;rw[es] at hz;rcases A8! with hz|hz;(.exact⟨z,Os hz,e,c⟩);.rcases ZM hz with hz|hz;(.rw[hz] at c;rcases c with⟨k,_⟩|⟨_,g⟩;(.exact lb!);.exact BP! (KM g) ne);.exact⟨z,ZC _ hz,e,c⟩
 .rw[Ga!] at ne;have r0:=J7 s.nn t;by_cases d:MZ!;(.subst d;rcases kk with⟨k,_⟩|⟨k,_⟩|⟨k,_,eg⟩|⟨k,_⟩;(.exact B? (LC! (P0! h8 k nu ne)));(.exact B? (LC! (h7 k)));(.exact IR eg.symm ne);.exact lb!);·(have hd:Cg!:=by rcases ht with h|⟨r,hr,h⟩;(.rcases h1 t h with h|⟨_,h⟩;(.exact H?);.exact Rl! d);.exact nl! (G? h2 hr));(have er:RT!=AX!:=by rcases h5 t with h|⟨h,_⟩;(.exact h.symm);.exact Rl! d);rcases x.rc _ q G hi t hd (q! Ga! ne) with h|⟨z,hz,e,c⟩;(.exact B? (gW! er));.refine Ld! z ?_ e c;rw[es] at hz;rcases A8! with hz|hz;(.exact Os hz);.rcases ZM hz with hz|hz;(.exact BP! (XV! hz) d);.exact ZC _ hz
theorem Hm(JT:Fr!):JE! (eP G tb sh FQ).map Ao!:=V? (by unfold eP at ht;rcases Nf! with h|h;(.rw[h];exact JT);.exact h)
theorem Wg.pass(x:AG!){a b:l?}{l:LT}(es:hU!)(hp:Fs!)(hi:FM (qs[l.th.1.toNat]?)):Mm! /\ (l.x=l.th.1->Qb! (K5! true) (KS! T?) (LC qs ls (K5! true) (KS! T?))) /\ (l.x≠l.th.1->Qb! (K5! false) (KS! (ID! K0!)) (LC qs ls (K5! false) (KS! (ID! K0!)))):=by
 have hl:Gt!:=IM!
 have nb:l.kind≠BC!:=I! hp Wn
 obtain⟨JT,p1,p2⟩:=x.wl.pass es hp (c? (OM! x.sD.aY)) hi;obtain⟨s,nu⟩:=IE!;obtain⟨g0,g1,ib,kk⟩:=x.wl.ok l hl;have sub:∀z∈T?,z∈ls:=S? (I! es jf!)
 have stp:∀(FQ:Bool)(more:l?),(∀z∈more,z.th=l.th)->LC qs ls (K5! FQ) (T?++more):=λFQ more hm X y=>Tk! y.next (AV! (by have ht:t∈aE G l.th FQ:=ht;unfold aE at ht;cases FQ;(.exact X0!);.rcases DO! with h|h;(.exact H?);.rw[h];exact L! (OM! y.aY))) (λz hz _=>by rcases A8! with hz|hz;(.exact H! (sub z hz));.rw[Ag! hm];exact L! (OM! y.aY)) (RK! hr);have rcn:∀(FQ:Bool)(more:l?),(VZ!:LT)∈more->YT (K5! FQ) (T?++more):=λFQ more hm=>by (have pn:∀(j:Int) t,YU ls j t->YU (T?++more) j t:=λj t ⟨z,hz,e,c⟩=>by rw[es] at hz;rcases A8! with hz|hz;(.exact⟨z,Os (ZB _ hz),e,c⟩);.rcases ZM hz with hz|hz;(.rw[hz] at c e;rcases c with⟨_,c⟩|⟨k,_⟩;(.exact Dl! (ZC _ hm) e (L! (s? c)));.rw[hp] at k;exact PP! k);.exact⟨z,Os (ZC _ hz),e,c⟩);refine x.rc.next hi (λj t _ p=>pn _ t p) λt ht ne=>?_;(have hd:Cg!:=by rcases ht with h|h;(.have h:t∈aE G l.th FQ:=h;unfold aE at h;cases FQ;(.exact H?);.rcases X5! with h|h;(.exact H?);.refine IR ?_ ne;rw[h,BH ib.1.1]);.exact AP!);rcases x.rc _ q G hi t hd ne with h|h;(.exact H?);.exact L! (pn _ t h)
 refine⟨JT,XD!,XD!⟩;·(have st:=stp true [VZ!] (S? (ww (ZK hz))));exact ei! (p1 e) (ri! JT) (rcn true _ vn!)
 ·(have st:=stp false (KS! [K0!]) (S? (by rcases A8! with hz|hz<;>rw[ZK hz])));have rn:=rcn false (KS! [K0!]) (ZC _ (DO.mpr rfl));rw[<-AN] at st rn;exact ei! (p2 e) (ri! JT) rn
theorem Zp(h:SG (Fi G R) t):Cg!/\aW!=true:=by
 rcases h with h|⟨r,hr,h⟩;.have h:A0!:=h;exact A! H? (by unfold CJ;rw[Ju! (show t∈(keepR G R).hand from h)];rfl)
 .have hr:r∈(keepR G R).holds:=hr;refine L? (nl! NZ!);unfold CJ;have:gK! (keepR G R).holds.any:=K'.mpr ⟨r,hr,At⟩;rw[this,Bool.or_true]
theorem Wg.clean(x:AG!)(hi:Z?)(rc:bc!)(pm:DT!) : Qb! p4! (ls++wS! AK!) (lj! p4! AK!):=by
 have st:lj! p4! AK!:=Tk! LC.less (Wa!) (λl hl nb=>by rcases ZI hl with h|h;(.exact h);.obtain⟨y,_,rfl⟩:=B0!;exact GS! nb) (eh! NZ!);refine ei! (x.wl.clean hi (AV! (L! (IX! i hi ht))) rc pm) (Uz! ?_) (ej! x.rc.less Mn! ?_);.exact MD! ht
 .obtain⟨h1,h2⟩:=Zp ht;refine L? h1;show AX!<=lZ! jx!;rw[m6! aW!,AE h2];exact BS!
universe E
universe E K64
universe N FX
open PySem PySem.Spec PyProof.Rows L2
universe S
theorem Zr(I:K!)(e:Zv!):∃o,nv!/\qm! Nu!:=by
 have ok:=JI! d e;obtain⟨_,_,vs,_,o,es,ep,g,_⟩:=id ok;refine A2! g (K9 I Af! (λxs z=>IN!) (λy z=>IN!) (λob v z=>ga! (I.base.OL d ob v z) e) (λps z=>IN!) (L? g));refine ok.OX (db!) (gU!) gX!;.rw[UN!];exact q
 .rw[UN!];exact q
theorem Jlj(I:K!)(hg:Ec! Nu!)(hd:Jj!):∃vs,Hh!/\Yl!/\s.heap.DictAt Km! d vs ep:=by obtain⟨g,z,lo,vs,rel,o',iA,kG,g',c',q',k',p',n'⟩:=Wd! Nu! hg;rw[g] at g';cases g';rw[hd] at q';injection q' with q1 q2;subst q1;subst q2;exact⟨vs,rel,lo,o,es,g,c',hd,k',p',n'⟩
universe E
def n6(d:Addr)(kvs:Bx!)(o:Obj):It :=
 b7! (gh! Nu! f9!) (∃k,Db Uf! k x) (gh! Nu! (kvs.length<=i))
theorem Xq{P:Program}{w:World}{K:W.Frag}{tg:Expr}(d it:Addr)(kvs:Bx!)(o:Obj)(es:EB!)(ep:Nat)(hd:Jj!):dd! (n6 d kvs o) (Ta! h.IsValIter kvs.length) where
 mem:=D?
 obj:=QT! (by
  have e:b=it:=CC!
  subst e
  obtain⟨oi,e,c,q⟩:=st
  exact⟨oi,e,XL! q⟩)
 keep:=λi h h' ⟨oi,e,r⟩ k=>⟨oi,k it be oi e,r⟩
 item:=by
  intro X hP hw hc i AA s σ H E I hf st ⟨hg,hi⟩
  subst hP hw
  obtain⟨f0,f1,f2,f3,f4,f5⟩:=E4!
  obtain⟨vs,rel,lo,da⟩:=Jlj I hg hd
  have hl:We!:=NA!
  have hx:Uf!=some kvs[i]:=de!
  have hy:vs[i]?=some (vs[i]' E!):=Qt! (i<vs.length)
  obtain⟨ek,rv⟩:=Av rel i _ _ hx hy
  have RS:Ta! s.heap.IsValIter vs.length:=G? hl st
  refine wpAny_pyNext_values_item RS da (k:=(vs[i]' E!).1) (v:=(vs[i]' E!).2) hy λh' f9 sb=>?_
  have I1:J1!:=Vr! (gA! ((sb.2 b hb).trans e))
  obtain⟨oi,e,c,q⟩:=id f9
  exact m? (T6 (s:=GE) e c q (l!) ⟨kvs[i].2,H,I1,rv,HC! kvs[i].1 hx,q! hl f9,V7! hf⟩)
 done:=by
  intro X hP hw hc i AA s σ H E I hf st ⟨hg,hi⟩
  subst hP hw
  obtain⟨f0,f1,f2,f3,f4,f5⟩:=E4!
  obtain⟨vs,rel,lo,da⟩:=Jlj I hg hd
  have hl:We!:=NA!
  have RS:Ta! s.heap.IsValIter vs.length:=G? hl st
  exact wpAny_pyNext_values_end Gh! RS da (LC! List.getElem?_eq_none_iff) (xn! (gA! (eb b ob hb e)))
 self:=Tm! wpAny_pyIter_valiter
universe S
def Jow(td:TE):TI:=XM! td (∃p d kvs,x=Go/\Ds! H1 Ic!/\eB! H1 d kvs/\∀o,R (n6 d kvs o) (upd H1 d Nu!))
theorem Th{l:Expr}{td:TE}(hl:PE X l td):N8! l (Jow td):=by
 intro AA s σ H R I h;refine bN!;rintro v s1 ⟨x,H1,I1,r1,p,d,kvs,ex,hp,hd,hR⟩;subst ex;cases r1;obtain⟨o,g,I2⟩:=Zr I1 hd;obtain⟨z,lo,vs,rel,o',es,ep,g',c',q',k',p',n'⟩:=HF! (EB X.prog X.w H1 s1.heap d l3!) (I1.DP d _ hd);rw[g] at g';cases g';have hlen:We!:=NA!;have da:s1.heap.DictAt Km! d vs ep:=⟨o,es,g,c',q',k',p',n'⟩;have hv:s1.heap.IsValuesView p d:=(I1.DP p _ hp).1;refine wpAny_pyIter_values hv da ?_;have fresh:=ZU!;have I3:BI! (upd H1 d Nu!) { s1 with heap:=WH! s1.heap.push "dict_valueiterator" (#[EX!,Zz!,T! vs.length 0,kP!]) }:=aS! I2.kept (Ug! HN!);refine⟨s1.heap.objs.size,[s1.heap.objs.size],_,n6 d kvs o,_,rfl,I3,Xq d _ kvs o es ep q',(Gq! hlen xl!),JQ!,hR o⟩;have e:Wb!:=CC!
 subst e;exact I2.bf (ZG _) fresh
universe E
theorem Rq{d:Addr}{kvs:Bx!}{ob:Obj}{g:TG}{tb:TS}{D:Ends}{σ:L2.St}{H:Hp}(Pv:Nat->M9!)(h0:ZH!)(hf:XO! t5! (Ec! (NX! .dK kvs)))(hs:∀i k v σ H,N7! Uf!->u3!->cn! v)(hd:cD! kvs.length) : by! M9! (Wo! (UR! (n6 d kvs ob).stop (n6 d kvs ob).go M9! (n6 d kvs ob).aM)):=by
 refine cb! (kvs.length-i) t5! kvs.length;rintro i m σ H ⟨rfl,hi,pv⟩;have fz:=hf i σ H hi pv;by_cases JS:f9!;.refine da! (A! fz JS) (kvs.length-FS);obtain⟨e,k,ek⟩:=y;subst e;exact hs i k x σ _ ek pv
 ·(have e:i=kvs.length:=B!);subst e;exact Yx! (A! fz ii) pv
universe S
universe E
theorem Wc(h1:HZ a b)(h2:HZ b c):HZ a c:=by rw[Dx] at *;lia
theorem Wd(h:a≠b)(h1:¬HZ a b):HZ b a:=by rw[Dx] at *;have:¬(b5!/\a.2=b.2):=λz=>h (Prod.ext z.1 z.2);lia
theorem Lu(key:BY!)(x:α):∀{s:N!},(s.map key).Pairwise HZ->(∀y∈s,key x≠key y)->∃s':N!,gN! (s'.Perm (x::s)) s'.map
 | [],_,_=>md! [x]
 | y::s,h,ne=>by have h':=DV.mp h;by_cases e:HZ (key x) (key y);(.refine⟨x::y::s,WB!,pr! h⟩;rcases ZM hz with rfl|hz;(.exact e);.exact Wc e (h'.1 z hz));.obtain⟨s',p,q⟩:=Lu key x h'.2 (Q5! ne);refine⟨y::s',(p.cons y).trans (List.Perm.swap x y s),pr! q⟩;obtain⟨u,hu,rfl⟩:=As!;rcases ZM (p.mem_iff.mp hu) with rfl|hu;(.exact Wd (ne y LS!) e);.exact h'.1 _ (BD hu)
theorem sorts(key:BY!):l1! (Qc! key) (∃s:N!,gN! (s.Perm l) s.map)
 | [],_=>md! []
 | x::l,nd=>by have OG:=BA!;obtain⟨s,p,q⟩:=sorts key OG.2;obtain⟨s',p',q'⟩:=Lu key x q λy hy e=>Fi! OG.1 ⟨y,p.mem_iff.mp hy,e.symm⟩;exact⟨s',p'.trans (p.cons x),q'⟩
theorem PX{a b c:Str}{k:NameKind}{cl:CW!}{y:Str}(hc:lR!)(h:Kx! nL! nL!):OU! :=ql! (by simp only[CK,EJ,OO] at hp;rcases hp with rfl|rfl|rfl;(.rcases hk with hk|hk<;>cases hk);(.rcases hk with hk|hk<;>cases hk);.exact hc)
theorem Z5{K:W.Frag}{a p:Addr}{xs:C!}{tt:TT}{te:TE}{caps:GI!}{σ:L2.St}{H:Hp}{Q:Rq!}(Pv:iY!)(h0:sC!)(hl:o8! Gu! (DL K H2 a xs/\Vc!))(hs:∀i x ys H2 (N:JB!),sr! GU! (vY! H2 (vt! c8!) ab!))(hd:o9! xs.length) : OR! (MR! (K8! (fF K a).stop (Q H2) (fF K a).go (fF K a).aM (Of! a9!))):=by
 refine r1! LB! Gu! xs.length;rintro i m ys H2 ⟨rfl,hi,pv⟩;obtain⟨q1,q2⟩:=sH!;refine L? q2;by_cases JS:OA!;.refine Yj! (cs! q1);obtain⟨e,y⟩:=y;subst e;exact hs i x ys _ (rN! LB! XP! (U?<=xs.length)) (y xs q1) pv dP!
 ·(have e:Wc!:=B!);subst e;exact rf! (b6! q1)
theorem xU:∀{ds:Jx!},(∀d∈ds,d.canLay0=true/\d.depth<=n)->PyData.canLayAll0 ds=true/\PyData.depthAll ds<=n
 | [],_=>A! (by simp[PyData.canLayAll0]) (by simp[PyData.depthAll])
 | d::ds,h=>by obtain⟨h1,h2⟩:=xU (S? (h z (AL! hz)));obtain⟨h3,h4⟩:=DQ! d;exact A! (by simp[PyData.canLayAll0,h1,h3]) (by simp only[PyData.depthAll];lia)
abbrev HS:=D!×B6!×Y!
inductive iu(K:W.Frag)(H:Hp)(v:V)(r:Mf!):Prop
 | mk (a t hd:Addr) (cs:J!) (_:Wx!) (_:DL K H a [i! t,g! Aa!,i! hd]) (_:w0! r.1) (_:Zf! hd) (_:IC! Al!)
inductive ix(K:W.Frag)(H:Hp)(v:V)(q:Dc!):Prop
 | mk (a t:Addr) (_:Wx!) (_:DL K H a (bm! t)) (_:w0! q.1)
inductive aR(K:W.Frag)(H:Hp)(x:Addr)(S:HS):Prop
 | mk (y1 y2 y3:Addr) (as:J!) (bs ds:C!) (_:DL K H x (cg! y1 y2 y3)) (_:DL K H y1 Yw!) (_:AZ H as S.1) (_:DL K H y2 bs) (_:Ro! iu bs Hj!) (_:DL K H y3 ds) (_:Ro! ix ds S.2.2)
universe S
variable {K:W.Frag}{H H':Hp}
theorem iu.keep(k:wS){v:V}{r:Mf!}(h:iu K H v r):iu K H' v r:=by obtain⟨a,t,hd,cs,e,e1,e2,e3,th⟩:=h;exact⟨a,t,hd,cs,e,k.sq e1,Y3!,k.sq e3,Ys! th⟩
theorem ix.keep(k:wS){v:V}{q:Dc!}(h:ix K H v q):ix K H' v q:=by obtain⟨a,t,e,e1,e2⟩:=h;exact⟨a,t,e,k.sq e1,Y3!⟩
theorem aR.keep(k:wS){x:Addr}{S:HS}(h:aR K H x S):aR K H' x S:=by obtain⟨y1,y2,y3,as,bs,ds,e,e1,t1,e2,t2,e3,t3⟩:=h;exact⟨y1,y2,y3,as,bs,ds,k.sq e,k.sq e1,Ys! t1,k.sq e2,Ar (λ_ _ r=>r.keep k) t2,k.sq e3,Ar (λ_ _ r=>r.keep k) t3⟩
universe E
universe S
variable {p:Addr}{b:T2->Bool}{ts:List T2}{H:Hp}{tt:TT}{caps:List (Str×Nat)}{σ:L2.St}{Q:Hp->Prop}
theorem Z0{K:W.Frag}{l:Addr}{as:J!}(hp:Va!)(hz:hE!)(hl:DL K H l Yw!)(th:B7!)(ht:tB! (t∈ts))(k:∀(H2:Hp) (bs:J!),L2!->an! p->qe! ts.filter->Q H2) : OR! (MR! (K8! (fF K l).stop (Q H2) (fF K l).go (fF K l).aM (Of! (sn! (w? x) vu!)))):=by
 have lt:=NB!;refine Z5 (K:=K) (a:=l) (p:=p) (xs:=Ep!) (caps:=caps) (λi ys H2=>n8! i H2) (JQ.start hp) (λi ys H2 _ pv=>?_) (λi x ys H2 N hx pv n=>?_) λys H2 pv=>?_;.obtain⟨bs,_,sm,GY,_⟩:=pv;exact A! ((HQ sm).sq hl) GY
 .rw[ZH] at hx;cases ea:ME! with | none=>rw[ea] at hx;cases hx | some a =>rw[ea] at hx;have hx:hD!:=ZO hx;subst hx;obtain⟨t,et⟩:=qv!;have ha:=sM! et;obtain⟨bs,e0,sm,GY,QK⟩:=id pv;exact xQ hp hz ht pv et (d! sm ha) n
 .obtain⟨bs,ey,sm,GY,QK⟩:=pv;rw[ZA,lt,BQ] at QK;exact k H2 bs sm (G? ey GY) QK
universe E
inductive Jfx(K:W.Frag)(x:V)(vs:C!)(H:Hp)(Q:VK):Prop
 | mk l b xs zs (_:Ql!) (_:vs=[CK!]) (_:N6!) (_:DL K H b zs) (_:Be! (xs.length+zs.length)) (_:Q .FG (NC! (.BF (xs++zs))))
theorem Ja2{X:F!}:nK X "list.extend" (Jfx Kx):=by
 intro AA s σ H x vs v us Q I rx rv h;obtain⟨l,b,xs,zs,rfl,rfl,hH,hB,hz,q⟩:=h;cases rx;obtain⟨u,rfl,ru⟩:=rv.one;cases ru;obtain⟨z,its,n,r,hl,e⟩:=Tl!;obtain⟨RJ,r2,⟨o2,e2,c2,n2,q2⟩,z2⟩:=I.tuple hB;have l1:=r.length;have l2:=r2.length;have hsz:Be! fv!:=LD! BG BG
 have fW:¬Ix (!its.toArray.isEmpty&&Builtin.List.listTooLong (fv!)):=Ai! (Y8 hsz) Bool.and_false AS
 refine CU F.slot_list_extend SL! F.entry_list_extend ?_ (F.args_list_extend_2 _ _);show Li! (Builtin.List.listExtendWith (V! l) Fm! F?);unfold Builtin.List.listExtendWith;refine ZR (wpAny_typeOf (T:=Bd!) ⟨o2,e2,c2⟩ ?_);have ht:Ix (Pt! Bd! == Pt! Bd!):=by rfl
 rw[AE (Cl! ht)];refine ZR (listItems_at e2 q2 (ZR (listItems_at e rfl ?_)));rw[AB fW];refine ZR (listUpdate_at e rfl ?_ j7! (show(its.toArray++RJ.toArray).size<=sizeLine+1 by rw[Array.size_append];exact Kb! G8!));refine ZS (m? (AA! .FG _ (s0! (its++RJ) be (r.append r2)) q));rw[ZE];assumption
def rowsOf(L:D5!):B6!:=Wn! L.flatMap
def Gc(l:Y!)(t:T2):Int:=((l.find? (sK h?)).map pu).getD 0
def addW(a:Y!)(q:Dc!):Y!:=Be a q.1 (Gc a q.1+q.2)
def Cg(L:D5!):Y!:=(L.flatMap Dg!).foldl addW []
inductive Led(L:D5!):y?
 | hand {S:HS} {t:T2} (h:S∈L) (m:t∈S.1):OF!
 | out {r:Mf!} (h:r∈Sp!) (m:Aa!≠Gc (Cg L) r.1):Led L r.1
 | step {r:Mf!} {u:T2} (h:r∈Sp!) (m:u∈Al!) (l:Led L r.1):Led L u
structure Found(L:D5!)(ts:D!):Prop where
 pw:ts.Pairwise HZ
 mem:cH! (FB bi!) (¬OF!)
theorem Mg(a:T2):¬HZ a a:=λh=>by rw[Dx] at h;lia
theorem Nj:∀{l m:D!},l.Pairwise HZ->m.Pairwise HZ->(∀t,FM!↔t∈m)->l=m
 | [],[],_,_,_=>rfl
 | [],b::m,_,_,h=>by have:=(h b).mpr (AJ!);cases this
 | a::l,[],_,_,h=>by have:=(h a).mp (AJ!);cases this
 | a::l,b::m,h1,h2,h=>by have hU:=DV.mp h1;have dy:=DV.mp h2;(have e:a=b:=by rcases ZM ((h a).mp LS!) with e|ha;(.exact e);.rcases ZM ((h b).mpr LS!) with e|hb;(.exact e.symm);.exact M6! (Wc (hU.1 b hb) (dy.1 a ha)) Mg a);subst e;congr 1;refine Nj hU.2 dy.2 λt=>A! (λht=>?_) (λht=>?_);(.rcases ZM ((h t).mp (AL! ht)) with e|hm;(.rw[e] at ht;exact M6! (hU.1 a ht) Mg a);.exact hm);.rcases ZM ((h t).mpr (AL! ht)) with e|hm;(.rw[e] at ht;exact M6! (dy.1 a ht) Mg a);.exact hm
theorem Found.one(a:Found L ts)(b:Found L us):ts=us:=Nj a.pw b.pw λt=>(a.mem t).trans (b.mem t).symm
universe E FX
universe N K64
open PySem L2 FX
def Je(t:T2)(rs:Y!):Int:=(rs.map λq=>TD h? q.2 0).sum
theorem T8(t:T2):∀(rs a:Y!),Gc (rs.foldl addW a) t=Gc a t+Je t rs
 | [],a=>by simp[Je]
 | q::rs,a=>by rw[List.foldl_cons,T8 t rs];have e:Gc (addW a q) t=P1! a q.1 (Gc a q.1+q.2):=rfl;rw[e,C3];unfold Je;rw[AJ,DR];by_cases c:t=q.1;(.rw[v?,AE c.symm,c];lia);.rw[EQ,AB (d3! c)];show Gc a t+_=_;lia
theorem Je3(t:T2)(a b:Y!):Je t Ad!=Je t a+Je t b:=by unfold Je;rw[ZF,MJ]
theorem Sy(t:T2):∀(L:D5!),Je t (L.flatMap Dg!)=qS! L.map
 | []=>rfl
 | S::L=>by rw[CG,Je3,Sy t L,AJ,DR]
theorem T7(t:T2)(L:D5!):Gc (Cg L) t=qS! L.map:=by unfold Cg;rw[T8,Sy];show 0+_=_;lia
theorem Xx{t:T2}:∀{rs:Y!},Ye!->Je t rs=BK! rs
 | [],_=>rfl
 | q::rs,nd=>by have OG:=BA!;have ih:=Xx (t:=t) OG.2;rw[Zw];unfold Je at *;rw[AJ,DR,ih];by_cases c:h?;(.rw[v?,v?,Eu (G? c OG.1)];lia);.rw[EQ,EQ];lia
theorem Kz{α:Type}{f:α->Int}{b:Rx!}:∀{l:N!},(∀x∈l,0<=f x)->d4! l.filter b f<=Xr! f/\∀j∈l,o? (b j)->d4! l.filter b f+f j<=Xr! f
 | [],_=>A! D? (λj hj=>Bg! hj)
 | a::l,h=>by obtain⟨i1,i2⟩:=Kz (f:=f) (b:=b) (l:=l) λx hx=>h x (AL! hx);have h0:=DQ! a;rw[EA];cases c:b a with | true =>rw[SL,AJ,DR,AJ,DR];refine en! (λj hj bj=>?_);rcases ZM hj with e|hj;(.rw[e,c] at bj;cases bj);.have:=i2 j hj bj;lia | false =>rw[AB AS,AJ,DR];refine en! (λj hj bj=>?_);rcases ZM hj with e|hj;(.rw[e];lia);.have:=i2 j hj bj;lia
def YL(t:T2)(qs:a!)(h:Nat):Int:=(qs[h]?.map λp=>BK! p.2.AI).getD 0
def YC(t:T2)(qs:a!)(h:Nat):Int:=(qs[h]?.map λp=>BK! p.2.AF).getD 0
theorem K2(t:T2):∀(qs:a!),Gq t qs=eR! qs.length (λh=>YL t qs h)-eR! qs.length (λh=>mx!)
 | []=>by simp[Gq]
 | p::qs=>by have ih:=K2 t qs;rw[BR,List.range_succ_eq_map];simp only[AJ,AK,DR];(have e1:((λh=>YL t (p::qs) h) ∘ Nat.succ)=λh=>YL t qs h:=by funext h;simp[YL]);(have e2:((λh=>YC t (p::qs) h) ∘ Nat.succ)=λh=>mx!:=by funext h;simp[YC]);rw[e1,e2];show V3! p.2 qs=_;rw[ih];unfold MO;(have e3:YL t (p::qs) 0=BK! p.2.AI:=by simp[YL]);(have e4:YC t (p::qs) 0=BK! p.2.AF:=by simp[YC]);rw[e3,e4];lia
theorem U4{f:EA!}{h0:Nat}:∀{m:Nat},h0<m->(∀h,h≠h0->f h=0)->N2! f=f h0
 | 0,hl,_=>B!
 | m+1,hl,h=>by rw[DZ,ZF,MJ];simp only[AJ,GF,DR,List.sum_nil];by_cases c:h0=m;(.subst c;(have:∀k,k<=h0->eR! k f=0:=λk=>by induction k with | zero=>intro _;simp | succ k ih =>intro hk;rw[DZ,ZF,MJ,BM! ih];simp only[AJ,GF,DR,List.sum_nil];rw[h k (B!)];lia);rw[this h0 Am!];lia);.rw[U4 (m:=m) E! h,h m (ZZ!)];lia
structure M9(G:BM)(S:HS):Prop where
 hand:LT! (t∈S.1)
 row:∀t∈Iy!,∃r∈Hj!,r.1=t
 iU:∀r∈Hj!,XN! r.1/\Aa!=Ai G.AF r.1
 qL:∀r∈Hj!,Or! (q.1=r.1->∀t∈u?,t∈Al!)
 AI:∀t,Je t S.2.2=AX!
 rK:∀t∈S.1,A0!
 rC:∀r∈Hj!,g7! (t∈u0! r.1)
def Lb(m:Nat)(b:Yc!)(S1:B2!):D5!:=((List.range m).filter b).map S1
def GS(m:Nat)(b:Yc!)(S1:B2!)(t:T2):Prop:=FB (rowsOf oJ!).map/\¬Led oJ! t
theorem OZ{m:Nat}{b:Yc!}{S1:B2!}{S:HS}:S∈Lb m b S1↔∃h,h<m/\OT!/\S1 h=S:=by
 unfold Lb;rw[AG];constructor;.rintro⟨h,hh,e⟩;obtain⟨h1,h2⟩:=AD.mp hh;exact⟨h,BB.mp h1,h2,e⟩
 .rintro⟨h,h1,h2,e⟩;exact⟨h,F5! (BB.mpr h1) h2,e⟩
theorem HN{L:D5!}{r:Mf!}:r∈Sp!↔∃S∈L,r∈Hj!:=by unfold rowsOf;exact C_
universe S
variable {D:T2->Prop}{m n:Nat}{sh:Int}{qs:List (Addr×BM)}{ls:List LT}
theorem Wg.snap(x:AG!){b:Yc!}{S1:B2!}(hs:∀(h:Nat) q G,RX!->OT!->lE!):K1! (GS m b S1):=by
 have lm:=x.wl.len;have key:∀t,sy!->(∃(h:Nat)(q:Addr)(G:BM),RX!/\OT!/\t.1=i?/\Ao!)/\Ci t ls=0/\pI! (o? (b j)) (AX!=0):=λt ⟨ht,nl⟩=>by obtain⟨r,hr,e⟩:=ZN ht;obtain⟨S,hS,OK⟩:=HN.mp hr;obtain⟨h,hm,bh,e2⟩:=OZ.mp hS;subst e2;obtain⟨⟨q,G⟩,eq⟩:=Zk! h;have T:=hs h q G eq bh;obtain⟨o1,o2⟩:=T.iU r OK;obtain⟨s,nu⟩:=x.BJ eq;rw[e] at o1 o2;(have t1:t.1=i?:=mf! o1);have ew:Aa!=Gc (Cg oJ!) r.1:=QV! (λz=>nl (VU! (.out hr z)));rw[e,T7] at ew;(have eR:∀k,k<m->∃q G,FM (qs[k]?)/\YL t qs k=AX!/\qg! k:=λk hk=>by obtain⟨⟨q,G⟩,eq⟩:=Zk! k;exact⟨q,G,eq,by unfold YL;rw[eq];rfl,hc!⟩);(have eA:qS! (Lb m b S1).map=d4! (List.range m).filter b hb!:=by unfold Lb;rw[AK];congr 1;refine BP XT!;obtain⟨h1,h2⟩:=AD.mp hk;obtain⟨q',G',QM,e3,_⟩:=eR k (BB.mp h1);show Je t (S1 k).2.2=YL t qs k;rw[e3,(hs k q' G' QM h2).AI t]);rw[eA] at ew;(have nnR:∀k∈List.range m,0<=YL t qs k:=λk hk=>by obtain⟨q',G',QM,e3,_⟩:=eR k (BB.mp hk);rw[e3];exact J7 (x.BJ QM).1.nn t);(have sO:N2! (λk=>YC t qs k)=mx!:=U4 hm λk nk=>by by_cases hk:k<m;(.obtain⟨q',G',QM,_,e4⟩:=eR k hk;rw[e4];exact x.wl.lD (r:=(q',G')) QM (Fk! t1));.unfold YC;rw[BM! CY];rfl);(have oh:qg! h:=hc!);have sm:=hz! (AB! (IX! h eq o1));rw[K2,lm,sO,oh,<-o2] at sm;have l0:=Ln (t:=t) x.wl.ok;obtain⟨f1,f2⟩:=Kz (f:=hb!) (b:=b) nnR;refine⟨⟨h,q,G,eq,bh,t1,o1⟩,B!,λj q' G' QM bj=>?_⟩;(have hj:j<m:=Dp! lm QM);have f3:=f2 j (BB.mpr hj) bj;(have e5:YL t qs j=RT!:=by unfold YL;rw[QM];rfl);have nn5:=nnR j (BB.mpr hj);rw[e5] at f3 nn5;lia
 have oV:∀t,sy!->CF! (l.th≠t):=λt ht l hl e=>by have:=Px x.wl.ok hl;rw[e,(key t ht).2.1] at this;lia
 have wN:∀t,sy!->pI! (o? (b j)) (¬Cg!):=λt ht j q G eq bj hd=>by obtain⟨⟨h,q',G',QM,bh,t1,_⟩,_,z⟩:=C8! key;(have nj:me!:=λy=>by (have:h=j:=B!);rw[this,bj] at bh;cases bh);rcases x.rc j q G eq t hd nj with r|⟨l,hl,e,_⟩;(.have:=z j q G eq bj;lia);.exact oV t ht l hl e
 refine⟨λj q G eq t ht gs=>?_,λl hl _ gs=>oV _ gs l hl rfl,λj q G eq r0 bD t ht gs=>?_,λj q G eq t gs tj=>?_⟩;.cases bj:b j with | false=>exact wN t gs j q G eq bj (c? ht) | true =>(have hj:j<m:=TU!);exact gs.2 (Im! (OZ.mpr ⟨j,hj,bj,rfl⟩) ((hs j q G eq bj).hand t ht))
 .cases bj:b j with | false=>exact I8! N? ⟨r0,bD,ht⟩ (wN t gs j q G eq bj) | true =>(have hj:j<m:=TU!);have T:=hs j q G eq bj;obtain⟨s,nu⟩:=x.BJ eq;obtain⟨r,hr,e⟩:=h2! T.row r0.1 s.ok.ke (Fj! r0 bD);have mr:r∈rowsOf (Lb m b S1):=HN.mpr (WF (OZ.mpr ⟨j,hj,bj,rfl⟩) hr);refine A! (Y7! r mr) (λld=>gs.2 ?_);exact In! mr (T.qL r hr r0 bD e.symm t ht) (MU! ld)
 .obtain⟨⟨h,q',G',QM,bh,t1,o1⟩,_⟩:=key t gs;(have:h=j:=B!);subst this;have e:(q',G')=FO!:=ZO (QM.symm.trans eq);obtain⟨s,nu⟩:=x.BJ eq;exact(s.ok.new t (F8! kw! o1)).2
universe E
def Kt(G:BM)(ts:D!):BM:=lq!
universe S
variable {D F:T2->Prop}{m n:Nat}{sh:Int}{qs:List (Addr×BM)}{ls:List LT}{i:Nat}{q:Addr}{G:BM}{ts:List T2}
theorem Wi{t:T2}(h:SG WZ! t):Cg!/\aV!=true:=by
 rcases h with h|⟨r,hr,h⟩;.have h:A0!:=h;exact A! H? (by unfold CJ;rw[Ju! (show t∈(An G ts).hand from h)];rfl)
 .have hr:r∈(An G ts).holds:=hr;refine L? (nl! NZ!);unfold CJ;have:gK! (An G ts).holds.any:=K'.mpr ⟨r,hr,At⟩;rw[this,Bool.or_true]
theorem Jom(ok:z?)(h1:LT! Od!)(h2:∀r∈G.holds,r.1∉ts->g7! Od!):Sm!:=by
 have sub:(G.AF.filter λq=>decide (D4!)).Sublist G.AF:=FO;refine⟨ok.hn,ok.hz,ok.on.sublist (sub.map _),A_ sub.length_le ok.oz,?_,ok.rn,ok.rz,Bj! (ok.ln r NZ!),V? (ok.new t ((sub.map _).subset ht)),Mi!,λr hr t ht e=>?_,ok.rk⟩;.show pm! D4! D4!;(have e1:G7! (G.holds.filter (sK D4!)).map (G.holds.map (·.1)).filter (EN! Od!):=KM JG);(have e2:G7! (G.AF.filter (sK D4!)).map lC! (EN! Od!):=KM JG);rw[e1,e2,ok.ke]
 .have m:=ok.hk t ht e;obtain⟨o,ho,eo⟩:=En!;exact O4! o (F5! ho (by rw[eo];simpa using C8! h1)) eo
 .obtain⟨GC,OK⟩:=AD.mp hr;have m:=ok.lk r GC t ht e;obtain⟨o,ho,eo⟩:=En!;exact O4! o (F5! ho (by rw[eo];simpa using h2 r GC (by simpa using OK) t ht)) eo
theorem Jn6(x:Bb!)(eQ:Sm!):Dw! WZ!:=by refine TG! (eQ.FU.mono (EX n)) (L! ⟨q,et!,ht⟩) (bH! x.nn) mo! (λt ht hk=>?_);obtain⟨q,hq,e⟩:=ZN hk;refine Y7! q (oi! hq);rw[e];exact(Wi (G:=G) (ts:=ts) ht).2
theorem Wg.yx(x:AG!)(hi:Z?)(sF:K1! F)(fD:∀t,F t->D t)(ht:cH! (F t) wE!){rs:Y!}(pm:DT!) : vl! cW! (ls++wS! bn)/\lj! cW! bn/\Sm!:=by
 obtain⟨s,nu⟩:=IE!;have r6:Sm!:=Jom s.ok (λt m z=>av! sF.hand m ((ht t).mp z).1) λr hr nr t m z=>nr ((ht r.1).mpr (A! (sF.hold i q G hi r hr t m ((ht t).mp z).1) (I? (s.ok.new r.1 (F8! s.ok.ke (Fj! r hr))).1 nu)));have st:lj! cW! bn:=Tk! LC.less (Wa!) (λl hl nb=>by rcases ZI hl with h|h;(.exact h);.obtain⟨y,_,rfl⟩:=B0!;exact GS! nb) (eh! NZ!);have gone:∀t∈ts,¬(Hq!\/VS cW! t):=λt m z=>by obtain⟨f,t1⟩:=(ht t).mp m;rcases z with z|⟨j,q',G2,e,o⟩;(.exact z (fD t f));.rcases Dw e with⟨_,e2,_⟩|⟨nj,e⟩;(.rw[e2] at o;obtain⟨y,hy,ey⟩:=ZN o;have:=Jb! hy;rw[ey] at this;exact(BW this) m);.obtain⟨s2,nu2⟩:=x.BJ e;have:=(s2.ok.new t o).1;lia
 have C':∀t,(Hq!\/VS cW! t)->(Hq!\/IK!):=λt h=>by rcases h with h|h;(.exact H?);.rcases h.set hi with h|h;(.exact AP!);.exact L! (IX! i hi (MD! h))
 refine⟨⟨(x.wl.mono C').next hi (Jn6 s r6) rfl gI! (λt ct=>?_) ?_,st D x.sD,x.rc.less hi (Mn!) λt ht ne=>?_⟩,st,r6⟩;.rcases A8! with hz|hz;(.exact Ag! x.wl.ok);.obtain⟨y,hy,rfl⟩:=As!;obtain⟨om,vP⟩:=AD.mp hy;have vO:=pm.mem_iff.mp (HE! om);have im:=s.ir y.1 (AG.mpr (CT! y vO));exact⟨im.1.1,im.2,im,R4! (i6! (by have:=BW vP;show 1<=y.2;lia))⟩
 .rw[G8];have gB:Ye!:=gD! pm.map s.ok.rn;have e1:Ci t ((Bj bn rs).map (Ib y!))=BK! (rs.filter λq=>aQ!) :=R6 y! t (gB.sublist (List.filter_sublist.map _)) (Bj! (s.nn r (pm.mem_iff.mp NZ!)));rw[e1,Ea rs (λt=>! aV!) t,Ro pm s.ok.rn];show Lq! (lZ! jw!-BK! (Fg! G.AF.filter D4!)+_);rw[m6! aV!,Ea G.AF (V6! Od!) t];rw[AE (decide_eq_true (HF! (¬t∈ts) (λz=>gone t z ct)))];cases aV!;(.rw[Ca!,AE (by rfl)];lia);.rw[SL,Ca!];lia
 .rw[ZE,ZA];have h1:(Bj bn rs).length<=F0! rs.filter aQ!:=NK!;have h2:=(pm.filter λq=>aQ!).length_eq;have h3:=Ms (Un! jw!) G.AI;show F0! G.AI.filter jw!+_<=_;lia
 .obtain⟨h1,h2⟩:=Wi ht;refine L? h1;show AX!<=lZ! jw!;rw[m6! aV!,AE h2];exact BS!
theorem Wg.more(x:AG!)(sF:K1! F):Ur! Wg (λt=>D t\/F t) n :=⟨x.wl.mono λt h=>by rcases h with h|h;(.exact H! (FZ! h B?));.exact AP!,⟨λj q G e t ht z=>z.elim (x.sD.hand j q G e t ht) (sF.hand j q G e t ht),λl hl nb z=>z.elim (OM! x.sD.aY) (OM! sF.aY),λj q G e r hr t ht z=>z.elim (λz=>B? (x.sD.hold j q G e r hr t ht z)) λz=>N? (sF.hold j q G e r hr t ht z),λj q G e t z tj=>z.elim (λz=>x.sD.old j q G e t z tj) λz=>sF.old j q G e t z tj⟩,x.rc⟩
universe E
universe E K64
universe N FX
open PySem PySem.Spec PyProof.Rows L2
def rg(n:Nat):A?:=SK! n (Io! Bz!)
theorem Fv(n:Nat):IN rg n=n:=by unfold rg;rw[ZA,CF]
theorem QW:x∈rg n↔(0<=x/\x<n):=by
 unfold rg;rw[AG];constructor;.rintro⟨k,hk,rfl⟩;have:=BB.mp hk;lia
 .rintro⟨h1,h2⟩;exact⟨x.toNat,ic!,Lk! BH⟩
universe S
universe E
universe E FX
universe N K64
open PySem L2 FX
inductive LL where
 | w (l:LT)
 | ask (s g n u:Int)
 | JU (s g n u tick:Int) (S:HS)
 | lt (s g:Int) (ts:D!)
def rS:LL->Cs! LT
 | .w l=>w? l
 | _=>none
def kR(n u:Int):LL->Cs! Int
 | .ask _ g n' u'=>VA! (n'=n/\u'=u) g
 | _=>none
def nZ(n u:Int):LL->Option (hP!)
 | .JU s _ n' u' tick S=>VA! (n'=n/\u'=u) Ed!
 | _=>none
def Cc(al:M!)(n u:Int):A?:=al.filterMap (kR n u)
def Bx(al:M!)(n u:Int):E6!:=al.filterMap (nZ n u)
def JF(al:M!):l?:=al.filterMap rS
theorem Bt(a b:M!)(n u:Int):P8! u=Cc a n u++Cc b n u:=VN ..
theorem Bm(a b:M!)(n u:Int):S3! u=Bx a n u++Bx b n u:=VN ..
theorem C8(a b:M!):l4!=JF a++JF b:=VN ..
theorem Fj(z:LL)(b:M!)(n u:Int):Cc (z::b) n u=(kR n u z).toList++Cc b n u:=by unfold Cc;rw[HC];cases kR n u z<;>rfl
theorem Dh(z:LL)(b:M!)(n u:Int):Bx (z::b) n u=(nZ n u z).toList++Bx b n u:=by unfold Bx;rw[HC];cases nZ n u z<;>rfl
def Jrm(al:M!):Prop:=∀n u,Ns! u/\Nt! u
theorem Nq:∀ls:l?,Jrm (ls.map .w)
 | []=>λn u=>C9!
 | l::ls=>λn u=>A! (by rw[AJ,Fj];exact(Nq ls n u).1) (by rw[AJ,Dh];exact(Nq ls n u).2)
theorem xp:∀ls:l?,JF (ls.map .w)=ls
 | []=>rfl
 | l::ls=>by show l::JF (ls.map .w)=_;rw[xp ls]
structure p6(h:Int)(S:HS):Prop where
 nd:k? S.2.1.map
 hz:S.1.length<=60
 rz:S.2.2.length<=60
 oz:∀w∈Hj!,w.1.1=h/\0<=w.1.2/\w.2.2.length<=60
structure Iz(qs:a!)(r:hP!):Prop where
 tk:pI! (r.1=A4!) (Aa!<=G.AX/\(Aa!=G.AX->M9 G Al!))
 so:p6 r.1 Al!
 nw:pI! (r.1=A4!) (∀w∈r.2.2.2.1,w.1.2<G.AQ)
def Gb(fi:E6!)(h:Nat):Int:=((fi.find? Kv!).map Gz!).getD 0
def Jf(fi:E6!)(h:Nat):HS:=((fi.find? Kv!).map Dg!).getD ([],[],[])
def Still(qs:a!)(al:M!)(n:Int)(fi:E6!)(se:RF!)(h:Nat):Prop :=
 (∃r∈se,nu! (r.2=Sd!))\/(∃r∈Bx al n 2,nu! (Aa!=Sd!))\/(i?∈Cc al n 2/\∃q G,RX!/\G.AX=Sd!)
structure RG(m:Nat)(qs:a!)(ls:l?)(al:M!)(n:Int)(fi:E6!)(se:RF!):Prop where
 t1:Zx! (Cc al n 1) al 1 X3!
 t2:(fi.length<m/\Ns! 2/\Nt! 2/\se=[])\/(QX!/\Zx! (Cc al n 2) al 2 Mt!)
 f1:∀r∈fi,bp!
 f2:∀r∈Bx al n 1,bp!
 s2:QX!->∀b:Yc!,(∀h:Nat,h<m->OT!->Still qs al n fi se h)->K1! (GS m b (Jf fi))
theorem xZ{m:Nat}{fi:E6!}(pm:Nx! fi.map){h:Nat}(hh:h<m):∃r∈fi,r.1=i?/\Sd!=Aa!/\Jf fi h=Al!:=by have m1:i?∈b? fi.map:=pm.mem_iff.mpr (QW.mpr ah!);obtain⟨r0,bD,e0⟩:=ZN m1;cases e:fi.find? Kv! with | none =>have:=BI.mp e r0 bD;simp[e0] at this | some r =>refine⟨r,AY e,Qn!,?_,?_⟩;(.unfold Gb;rw[e];rfl);.unfold Jf;rw[e];rfl
universe S
variable {m:Nat}{qs qs':List (Addr×BM)}{ls OU:List LT}{al al':List LL}{n:Int}{fi:List (Int×Int×HS)}{se:List (Int×Int)}{i:Nat}{q:Addr}{G G':BM}
theorem RG.whole(x:Ku!)(e:QX!):Ns! 1/\Nt! 1/\Nx! fi.map:=by have l:=x.t1.length_eq;rw[ZE,ZE,ZA,ZA,Fv] at l;have e1:Ns! 1:=Rt!;have e2:Nt! 1:=Rt!;refine PP e1 e2;have t:=x.t1;rw[e1,e2] at t;exact t
theorem RG.lE(x:Ku!)(ha:gu! Cc ac!)(hb:gu! Bx mG!)(st:j6! qs):RG m qs OU al' n fi se:=by refine⟨o5! x.t1,o5! x.t2,x.f1,I! hb x.f2,λe b hs=>st _ (x.s2 e b hd!)⟩;have:=c0!;unfold Still at *;rw[ha,hb] at this;exact this
theorem RG.fQ(x:Ku!)(hi:Z?)(tk:Wf!)(md:Il!)(ha:gu! Cc ac!)(hb:gu! Bx mG!)(st:j6! BT!):RG m BT! OU al' n fi se:=by
 have fo:∀r,bp!->Iz BT! r:=λr h=>⟨λj q2 G2 e ej=>by rcases Dw e with⟨e1,e2,_⟩|⟨_,e⟩;(.have:=h.tk i q G hi (I? ej e1);rw[e2];exact en! (λz=>B!));.exact h.tk j q2 G2 e ej,h.so,λj q2 G2 e ej w9 hw=>by rcases Dw e with⟨e1,e2,_⟩|⟨_,e⟩;(.have:=h.nw i q G hi (Hn! ej e1) w9 hw;rw[e2];lia);.exact h.nw j q2 G2 e ej w9 hw⟩;refine⟨o5! x.t1,o5! x.t2,Bj! (fo r (x.f1 r hr)),Bj! (fo r (x.f2 r (F8! hb hr))),λe b hs=>st _ (x.s2 e b hd!)⟩;have:=c0!;unfold Still at *;rw[ha,hb] at this;rcases this with h1|h1|⟨h1,q2,G2,e2,e3⟩;.exact Jy!
 .exact AN! h1
 .rcases Dw e2 with⟨e4,e5,_⟩|⟨_,e4⟩;(.exfalso;obtain⟨r,hr,er,et,_⟩:=xZ (x.whole e).2.2 hh;have:=((x.f1 r hr).tk i q G hi (Hn! er e4)).1;rw[e5] at e3;lia);.exact cr ⟨h1,q2,G2,e4,e3⟩
theorem RG.asked(x:Ku!)(es:E8! (.ask s g n' u))(g0:Ek!)(hi:FM (qs[g.toNat]?))(et:tick=G.AX)(tl:M9 G S)(so:p6 g S)(nw:∀w9∈Hj!,w9.1.2<G.AQ):vU! (T?++[cc!]) fi:=by
 have A:∀n u2,Cc (ID! cc!) n u2=P8! u2:=λn u2=>by rw[Bt];show _++[]=_;rw[AH]
 have A0:∀u2,Cc al n u2=Cc a n u2++(e7! (n'=n) (u=u2) g++Cc b n u2):=λu2=>LI! es Bt Fj
 have B:∀u2,Bx (ID! cc!) n u2=Bx al n u2++e7! (n'=n) (u=u2) ZP!:=λu2=>by rw[Bm,Bm,es,Bm,Dh,Dh];show _++(e7! (n'=n) (u=u2) ZP!++[])=_;rw[AH];rfl
 have eG:∀(j:Nat) q2 G2,Db QP! q2 G2->g=A4!->G=G2:=λj q2 G2 e ej=>by (have:j=g.toNat:=B!);rw[this,hi] at e;exact ct! e
 have fo:Iz qs ZP!:=⟨λj q2 G2 e ej=>by rw[<-eG j q2 G2 e ej];exact A! (xL (tick<=G.AX)) (λ_=>tl),so,λj q2 G2 e ej w9 hw=>G? (eG j q2 G2 e ej) (nw w9 hw)⟩;have pmv:∀(P9 Q R T:A?)(y:Int),(P9++([y]++Q)++R++T).Perm (P9++Q++(R++[y])++T):=λP9 Q R T y=>by refine KC T ?_;have h1:(P9++([y]++Q)).Perm (y::(P9++Q)):=List.perm_middle;(have h2:(P9++Q++(R++[y])).Perm (y::(P9++Q++R)):=MX! (H_ (l₂:=[y])));exact(h1.append_right R).trans h2.symm
 have tok:∀u2 (T:A?),(Cc al n u2++Ps! al u2++T).Perm (rg m)->(Cc (ID! cc!) n u2++Ps! (T?++[cc!]) u2++T).Perm (rg m):=λu2 T h=>by rw[A,B,Bt,ZF];rw[A0] at h;by_cases c:n'=n/\u=u2;(.rw[v?] at h ⊢;exact(pmv _ _ _ _ g).symm.trans h);.rw[EQ] at h ⊢;simpa using h
 refine⟨tok 1 _ x.t1,?_,x.f1,Ht!,λe bb hs=>x.s2 e bb hd!⟩;.rcases x.t2 with⟨z1,z2,z3,z4⟩|⟨z1,z2⟩;(.rw[A0] at z2;(have nc:¬(n'=n/\u=2):=λc=>by rw[v?] at z2;simp at z2);rw[AB nc] at z2;refine H! ⟨z1,?_,?_,z4⟩;(.rw[A,Bt];simpa using z2);.rw[B,AB nc,z3];rfl);.exact No z1 (tok 2 _ z2)
 .rw[B] at hr;rcases Em! with hr|hr;(.exact x.f2 r hr);.by_cases c:n'=n/\u=1;(.rw[v?] at hr;(have:r=ZP!:=by simpa using hr);rw[this];exact fo);.rw[EQ] at hr;cases hr
 .have:=c0!;unfold Still at *;rcases this with h1|⟨r,hr,e1,e2⟩|⟨h1,h2⟩;(.exact Jy!);(.rw[B] at hr;rcases Em! with hr|hr;(.exact AN! (TI! r hr));.by_cases c:n'=n/\u=2;(.rw[v?] at hr;(have er:r=ZP!:=by simpa using hr);rw[er] at e1 e2;have e1:g=i?:=e1;have e2:tick=Sd!:=e2;(have eh:fm!:=B!);refine cr (IX! ?_ (I! eh hi) (Ou! e2 et));rw[A0,v?,<-e1];exact ZC _ (ZB _ (DO.mpr rfl)));.rw[EQ] at hr;cases hr);.rw[A,Bt] at h1;refine cr (Lu! h2);rw[A0];rcases ZI h1 with h1|h1;(.exact Os h1);.exact ZC _ (ZC _ h1)
universe E
universe S
def C5(m:Nat)(g n u:Int):M!:=SK! m (λi:Nat=>.ask g y! n u)
theorem Ic:Cc (C5 m g n u) n2 u2=TD (n=n2/\u=u2) (rg m) []:=by
 unfold Cc C5;rw[List.filterMap_map];by_cases c:n=n2/\u=u2;.rw[v?];(have:(kR n2 u2 ∘ λi:Nat=>LL.ask g y! n u)=λi:Nat=>w? y!:=by funext i;show u6! (n=n2) (u=u2) y!=_;rw[v?]);rw[this];unfold rg;exact congrFun List.filterMap_eq_map' _
 .rw[EQ];(have:(kR n2 u2 ∘ λi:Nat=>LL.ask g y! n u)=λ_:Nat=>none:=by funext i;show u6! (n=n2) (u=u2) y!=_;rw[EQ]);rw[this];simp
theorem Kr:Bx (C5 m g n u) n2 u2=[]:=by simp_all [Bx,C5,nZ]
theorem Jc4:JF (TX! u)=[]:=by simp_all [JF,C5,rS]
theorem Jk6(m:Nat):Dy! rg m:=by unfold rg List.Nodup;rw[DK];exact q6!
theorem Jru(m1:1<=m)(h1:∀u,Ns! u)(h2:∀u,Nt! u)(g:Int):RG m qs ls (al++TX! 1) n [] []:=by
 have A:∀u,Cc (al++TX! 1) n u=TD (u=1) (rg m) []:=λu=>by rw[Bt,h1,Ic];by_cases c:u=1;(.rw[AE (s? c.symm),v?];rfl);.rw[AB (λz=>c z.2.symm),EQ];rfl
 have B:∀u,Bx (al++TX! 1) n u=[]:=λu=>LI! Bm h2 Kr
 refine⟨?_,H! ⟨xL (0<m),?_,B 2,rfl⟩,Bj! (FP! hr),Ht!,XD!⟩;.rw[A,B,SL];simp
 .rw[A,J6!]
 .rw[B] at hr;cases hr
 .have:0=m:=e;lia
theorem RG.first(x:Ku!)(es:E8! (.JU s g n 1 tick S)) : fi.length<m/\s∉X3!/\(fi.length+1≠m->vU! Ad! (Mo!))/\(fi.length+1=m->Ur! Wg D N->∀g,vU! (T?++TX! 2) (Mo!)):=by
 have A:∀u,Cc al n u=P8! u:=λu=>by rw[es,Bt,Fj,Bt];rfl
 have B1:Bx al n 1=Bx a n 1++Ed!::Bx b n 1:=by rw[es,Bm,Dh];show sR! (J? 1=1);rw[Mz!];rfl
 have B2:Bx al n 2=S3! 2:=by rw[es,Bm,Dh,Bm];show sR! (J? 1=2);rw[AB (λz=>SP! z.2)];rfl
 have pm:Zx! k1! Ad! 1 (b? (Mo!).map):=by refine List.Perm.trans ?_ x.t1;rw[A,B1,Bm];simp only[ZF,AJ,GF];generalize k1!=P9;generalize Ps! a 1=Q;generalize Ps! b 1=R;generalize X3!=T;(have h1:(fQ!++(T++[s])).Perm (s::lA!):=MX! (H_ (l₂:=[s])));(have h2:(kI!++T).Perm (s::lA!):=by (have:(kI!).Perm (s::(fQ!)):=dn! AN AN List.perm_middle);exact this.append_right T);exact h1.trans h2.symm
 have nd:KA! Mo!:=by have h1:=(pm.nodup_iff).mpr (Jk6 m);exact hy! h1
 have sn:s∉X3!:=λz=>by rw[ZF] at nd;exact Zu! s z s vn! rfl
 have lt:fi.length<m:=by have:=pm.length_eq;rw[ZE,ZE,ZA,ZA,Fv,ZE] at this;have e:[(Ed!:hP!)].length=1:=rfl;lia
 have z2:Ns! 2/\Nt! 2/\se=[]:=by rcases x.t2 with⟨_,h⟩|⟨h,_⟩;(.exact h);.lia
 obtain⟨zp,zk,uZ⟩:=z2;have f1:∀r∈Mo!,bp!:=Bj! (by rcases Em! with h|h;(.exact x.f1 r h);.rw[D7!];exact x.f2 _ (q! B1 t9!))
 have f2:∀r∈S3! 1,bp!:=Bj! (x.f2 r (by rw[B1];rw[Bm] at hr;rcases Em! with h|h;(.exact EY!);.exact IS!));have ln:DD! Mo!=fi.length+1:=KM ZE
 refine⟨lt,sn,λne=>⟨pm,H! ⟨B!,G? A zp,G? B2 zk,uZ⟩,f1,f2,λe=>B!⟩,λee wg g2=>?_⟩;have A1:Cc (sv!) n 1=k1!:=by rw[Bt,Ic,AB (λz=>Co! z.2),AH]
 have A2:Cc (sv!) n 2=rg m:=by rw[Bt,Ic,Mz!,<-A,zp];rfl
 have C:∀u,Bx (sv!) n u=S3! u:=λu=>Qu! Bm Kr
 have C2:Bx (sv!) n 2=[]:=by rw[C,<-B2,zk]
 have pf:Nx! (Mo!).map:=by have l:=pm.length_eq;rw[ZE,ZE,ZA,ZA,Fv,ln] at l;have e1:k1!=[]:=Rt!;have e2:S3! 1=[]:=Rt!;have t:=pm;rw[e1,e2] at t;exact t
 refine⟨Ai! A1 C pm,No B! (by rw[A2,C2,uZ];simp),f1,I! C f2,λ_ bb hs=>wg.snap λh q G eq bh=>?_⟩;have hh:h<m:=Dp! wg.wl.len eq
 rcases c0! with⟨r,hr,_⟩|⟨r,hr,_⟩|⟨_,q2,G2,e2,e3⟩;.rw[uZ] at hr;cases hr
 .rw[C2] at hr;cases hr
 .rw[eq] at e2;have eG:G=G2:=ct! e2;obtain⟨r,hr,er,et,e4⟩:=xZ pf hh;rw[e4];exact((f1 r hr).tk h q G eq er).2 (by rw[<-et,<-e3,eG])
theorem RG.second(x:Ku!)(es:E8! (.JU s g n 2 tick S)) : QX!/\se.length<m/\s∉Mt!/\RG m qs ls Ad! n fi (se++[(s,tick)]):=by
 have A:∀u,Cc al n u=P8! u:=λu=>by rw[es,Bt,Fj,Bt];rfl
 have B2:Bx al n 2=Bx a n 2++Ed!::Bx b n 2:=by rw[es,Bm,Dh];show sR! (J? 2=2);rw[Mz!];rfl
 have B1:Bx al n 1=S3! 1:=by rw[es,Bm,Dh,Bm];show sR! (J? 2=1);rw[AB (λz=>SP! z.2)];rfl
 have t2:QX!/\Zx! (Cc al n 2) al 2 Mt!:=by rcases x.t2 with⟨_,_,h,_⟩|h;(.rw[B2] at h;simp at h);.exact h
 have pm:Zx! (P8! 2) Ad! 2 (b? (se++[(s,tick)]).map):=by refine List.Perm.trans ?_ t2.2;rw[A,B2,Bm];simp only[ZF,AJ,GF];generalize P8! 2=P9;generalize Ps! a 2=Q;generalize Ps! b 2=R;generalize Mt!=T;(have h1:(fQ!++(T++[s])).Perm (s::lA!):=MX! (H_ (l₂:=[s])));(have h2:(kI!++T).Perm (s::lA!):=by (have:(kI!).Perm (s::(fQ!)):=dn! AN AN List.perm_middle);exact this.append_right T);exact h1.trans h2.symm
 have nd:KA! (se++[(s,tick)]):=by have h1:=(pm.nodup_iff).mpr (Jk6 m);exact hy! h1
 have sn:s∉Mt!:=λz=>by rw[ZF] at nd;exact Zu! s z s vn! rfl
 have lt:se.length<m:=by have:=pm.length_eq;rw[ZE,ZE,ZA,ZA,Fv,ZE] at this;have e:[((s,tick):Int×Int)].length=1:=rfl;lia
 refine⟨t2.1,lt,sn,⟨dn! A B1 x.t1,No t2.1 pm,x.f1,G? B1 x.f2,λe bb hs=>x.s2 e bb hd!⟩⟩;rcases c0! with⟨r,hr,e1,e2⟩|⟨r,hr,e1,e2⟩|⟨h1,h2⟩;.rcases Em! with hr|hr;(.exact H! (TI! r hr));.have er:=ZK hr;rw[er] at e1 e2;exact AN! (TI! Ed! (Lc! B2))
 .refine AN! (TI! r ?_);rw[B2];rw[Bm] at hr;rcases Em! with h|h;(.exact EY!);.exact IS!
 .exact ix! (I! A h1) h2
theorem RG.done(x:Ku!)(e:QX!){c:EA!}(hc:∀h,h<m->∃r∈se,nu! (r.2=c h)):K1! (GS m (λh=>p? (Gb fi h=c h)) (Jf fi)) :=x.s2 e _ λh hh bh=>by obtain⟨r,hr,e1,e2⟩:=hc h hh;exact H! ⟨r,hr,e1,Gq! e2 (D2! BW bh)⟩
universe E
universe S
inductive Jbz(vs:C!)(H:Hp)(Q:VK)(E:XK):Prop
 | mk (p ta:Addr) (G:BM) (as:J!) (ts:D!) (_:jG! ta) (_:Q?) (_:nq!) (_:Ch ta IL!) (_:B7!) (_:E3! bn)
theorem Jgv(F:h! "lose" "House.lose" Qg)(T:Txt):Bt! HR! Jbz:=by
 refine f? iS;obtain⟨p,ta,G,as,ts,rfl,S,ke,et,th,k⟩:=h;refine X!;have hu:=a?;have lt:=NB!;refine Ct! (Af (wN! (Gu (pv 1)) (i9! iS.nd) (Se! (El (K6 hu W! g?)) (Ad (A6 oL!) (HU! oL!)))));refine Nz! ta Pk!;refine S7! ta Ep! (λi σ H2=>∃u2:wE,σ=[CZ!,d? ta,u2]/\Cy! H2 (An G (ts.take i))/\HZ! H2) (HQ! (gs! Rx S) (λb o e _ _=>e)) (eq! (ep! (DL.of (wR! fr et et et))));.rintro i x σ H2 hx ⟨u2,rfl,S2,MN⟩;rw[ZH] at hx;cases ea:ME! with | none=>rw[ea] at hx;cases hx | some a =>rw[ea] at hx;have hx:hD!:=ZO hx;subst hx;obtain⟨t,ht⟩:=qv!;have ha:=sM! ht;have dw:=sA! MN;obtain⟨JI,GY⟩:=S2.ob;obtain⟨o,g,eo⟩:=Nz (k:=An!) (f:=Dt!) (c? S2.dO) dw;have f1:=Fs (An!) G.AF ht;have f2:=Fs (FX!) G.holds ht;refine oh! JI GY T.nO (Da _) G.o o g;rw[eo];(have ks:AM! (An G (ts.take i)).holds.map hV!:=by show pm! j9! j9!;rw[Dk (FX!) G.holds (V6! hL!),qh! hL!,ke]);by_cases h:FB hV!;(.rw[RL!];obtain⟨v1,vV⟩:=tC! Q3! Dt! h;obtain⟨v2,vU⟩:=tC! Qv! eG! (q! ks h);refine Cy (rM! JI GY T.nO (Da _) G.o S2.dO S2.dO dw vV);rw[Ga (k:=An!) (f:=Dt!)];have S3:=S2.KD (HM! xN!);(have RT:HZ! q5!:=EF! (ea! (NE! h2) MN));have pH:=sA! RT;rw[FF! (HO.dT ((HM! (sK HA!)).map Eq!)=C4 (Fg! HM! HA!))];have S3:Cy! q5! pF!:=S3;generalize upd H2 G.o xp!=H3 at S3 RT pH;obtain⟨QN,RD⟩:=S3.ob;refine rM! QN RD T.nL (Ep _) G.l S3.dl S3.dl pH vU;have e3:Xu! (Dr ((pF!:BM).holds.map DF!) (tk t)) Jr! HA! DF! :=Ga (k:=FX!) (f:=eG!) _ t;rw[e3];have S4:=S3.ao (hl:=C2! Jr! HA!) FO;(have eG:nW! { fN! with AF:=fF! HM!,holds:=fF! Jr! }:=by unfold An;rw[f1,f2]);refine jv! S4 (EF! ?_);rw[Ac λz=>h2 (by rw[z];show g1!;simp[BL])];exact eE! RT e);.rw[X4!];have vB:hW! Q3!:=Ov! (Zj! V1!);have vA:hW! Qv!:=Ov! (h (G? ks (O4! q hq z)));(have eG:nW! fN!:=by (have a1:gP! HM! Q3!:=qj! vB);(have a2:gP! Jr! Qv!:=qj! vA);unfold An at a1 a2 ⊢;rw[f1,f2,a1,a2]);exact Cu (jv! S2 MN)
 .rintro σ H2 ⟨u2,rfl,S2,MN⟩;rw[ZA,lt,BQ] at S2;exact k H2 S2 MN
inductive yF(vs:C!)(H:Hp)(Q:VK)(E:XK):Prop
 | mk (p ta:Addr) (G:BM) (n:Nat) (rs:Y!) (ts:D!) (as:J!) (_:jG! ta) (_:Q?) (_:z?) (_:n<=62) (_:bE!) (_:b3!) (_:DT!) (_:FB!) (_:Ch ta IL!) (_:B7!) (_:Sm!) (_:∀(x:Addr)(as:J!)(H':Hp),(oH!)->eT! JD!->JC H' as (Bj bn rs)->KK! (HY (FU bn))->Zt!->I9!)
theorem Jn9:Y? HR! HR! Yh:={}
theorem Jjn(F:h! HY! up! Yh)(T:Txt)(Tx:t_)(ML:r7! fL dL)(MG:rn! fG dG) : Gi! HR! yF:=by
 have GL:Cw! fL dL HR! Jbz:=Jgv ML.fn T;have GG:Rw! fG dG yE:=Jcb MG.fn T Tx;refine f? Jn9;obtain⟨p,ta,G,n,rs,ts,as,rfl,S,ok,zn,gr,gq,pm,pw,et,th,eQ,k⟩:=h;refine X!;have hu:=a?;obtain⟨dx,hp⟩:=S.ob;refine Ie! (TK! T.cl ML.mt GL ML.bd ES!) (Ad L8! (BO! (Cq O? T.cl MG.mt GG hr MG.bd S! Ba)));refine⟨_,rfl,p,dx,_,rfl,hp,SZ,_,rfl,p,ta,G,as,ts,rfl,S,ok.ke,et,th,λH9 S9 wI=>?_⟩;obtain⟨dC,gz⟩:=S9.ob;refine PT! dC gz dC gz;rw[Bn];have fE:=S9.fld dC (An G ts).AQ ((An G ts).AX+1);have bc:HZ! (qd! { An G ts with AX:=(An G ts).AX+1 }):=EF! (xj! wI)
 have fE:Cy! (qd! { An G ts with AX:=(An G ts).AX+1 }) (HY bn):=fE;generalize upd H9 p (P9! dC { An G ts with AX:=(An G ts).AX+1 })=kX at fE bc;obtain⟨lR,lK⟩:=fE.ob;refine⟨_,rfl,p,lR,_,rfl,lK,B5 _ ZV,p,HY bn,n,rs,rfl,fE,eQ.HY,zn,gr,bH! gq,pm,pw,λx as qF hx ex ba xO lP=>?_⟩;have vS:oH!:=EF! (Ak (eE! bc e) hx);exact k x as qF vS ex ba xO (EF! (lP _ _ (bc _ _ e h1 h2) h1 λz=>h2 (Jr1 ts z)))
universe E
inductive QV(H:Hp)(t:Addr)(k:Int)(kind:Str)(s g n u:Int):Prop
 | mk a (_:is! [g! k,AY! kind,g! s,g! g,Aj!]) (_:KF! [PO!,g! u])
inductive YV(H:Hp)(t:Addr)(k s g:Int)(ts:D!):Prop
 | mk (a:Addr) (as:J!) (_:is! [g! k,AY! HY!,g! s,g! g,Aj!]) (_:Fd! IL!) (_:B7!)
theorem QV.keep(h:UD! k kind n)(kt:wS):QV H' t k kind s g n u:=let⟨a,e1,e2⟩:=h;Ho! a (Hw! kt.BE) kt.BE e2
theorem YV.keep(h:oZ! k)(kt:wS):YV H' t k s g ts:=let⟨a,as,e1,e2,th⟩:=h;⟨a,as,Hw! kt.BE,G! kt.BE e2,Fp! kt th⟩
structure ON(H:Hp)(c b n turn:Int)(L:j!)(m:Nat):Prop where
 BJ:ii! (List.range m).map pG!
 MV:Fw! (λ(y:Int×Addr)(i:Nat)=>QV H y.2 y.1 Bc! b y! n turn) L List.range m
theorem ON.len(x:ON H c b n turn L m):L.length=m:=ju! (R? x.MV)
universe S
theorem Jr5(x:Cj!):Ww! (QI! W.en) { W with FA:=l } (I3! (QI! W.en)):=by
 obtain⟨⟨a1,a2,a3,a4,a5,a6⟩,⟨b1,b2,b3,b4,b5⟩,⟨c1,c2,c3,c4⟩,⟨d1,d2,d3⟩,⟨g1,g2⟩⟩:=x.iL;have f:i2! (b≠W.en) (QI! W.en):=λb o e h=>nZ!
 refine rH! (v! f e (Ne.symm g1)) (Sb! x.hs g2) TM! (x.po.keep (Qq! a6) (Qq! b5)) (v! f x.iq c4) (v! f x.fi d3) Ab TM!;.rintro rfl;have h:=cj! W.en;exact cY!
 .rintro rfl;exact az!
theorem Jr7(x:Cj!):Ww! (QI! W.fi) { W with GW:=l } (I3! (QI! W.fi)):=by
 obtain⟨⟨a1,a2,a3,a4,a5,a6⟩,⟨b1,b2,b3,b4,b5⟩,⟨c1,c2,c3,c4⟩,⟨d1,d2,d3⟩,⟨g1,g2⟩⟩:=x.iL;have f:i2! (b≠W.fi) (QI! W.fi):=λb o e h=>nZ!
 refine rH! (v! f e (Ne.symm d1)) (Sb! x.hs d2) TM! (x.po.keep (Qq! a5) (Qq! b4)) (v! f x.iq c3) Ab (Sb! x.en d3) TM!;.rintro rfl;have h:=cj! W.fi;exact cY!
 .rintro rfl;exact az!
universe E
universe S
inductive Ha(vs:C!)(H:Hp)(Q:VK)(E:XK):Prop
 | mk (p:Addr) (b n turn:Int) (W:EF) (_:vs=[Go,g! b,PO!,g! turn]) (_:wT) (_:Xs!) (_:GF!) (_:∀(l:Addr)(L:j!)(H':Hp),Ff! (Xl! Ba!)->ON H' W.c b n turn L W.qs.length->Dv!->A5! l ee!->l≠W.hs->Xj p W H l->dt! l)
theorem Jdl:Y? MH! MH! Hg:={}
theorem Ja0(F:h! "ask_all" "World.ask_all" Hg)(T:Txt)(TW:Gd)(TP:M8)(M3:UG!) : Gi! MH! Ha:=by
 have G3:cq!:=cd!;refine f? Jdl;obtain⟨p,b,n,turn,W,rfl,S,z1,z2,k⟩:=h;refine X!;obtain⟨dx,hp⟩:=S.ob;refine FA! (wM! (Sv CP "put" (Gr) [] E0 (U3 K (B7 1) BH!) (Dz (WE! Bc!) (Dz (B7 2) (Dz (B7 0) (Dz (uG (Dz (B7 3) (Dz (B7 4) Nd))) Nd))))) [jg!,(uw!,1),("n",2),("turn",3)] (F1 rfl T.range (am p8!)) (AA! rfl rfl rfl trivial) (λy h=>Jra ci ci ci ci h) ⟨C0!,C0!,C0!,C0!,trivial⟩ gG! (Uw! (oc! (Aq z! rfl) (Aa Bi (Aa W! (U5! (SW! n?)))))));have e0:J? (F0! W.qs.map (WP q.1))=W.qs.length:=D?
 refine⟨_,rfl,p,CW,dx,_,_,rfl,hp,TW.cl,TW.nH,Ds W,W.hs,_,rfl,kb!,RH!,(ww e0),B!,B!,hZ!⟩;rw[CA];have s0:=Nn!;have S0:=Lj! s0;have S0':dl! C (wx! r) (fE! ai! (W.ls++[])):=Ai! (e9! (ai!=W.c)) AH S0
 refine Rz (lo:=0) (n:=W.qs.length) (tt:=bF!) (te:=Sv CP "put" (Gr) [] E0 (U3 K (B7 1) BH!) (Dz (WE! Bc!) (Dz (B7 2) (Dz (B7 0) (Dz (uG (Dz (B7 3) (Dz (B7 4) Nd))) Nd))))) (caps:=[jg!,(uw!,1),("n",2),("turn",3)]) (σ:=[CZ!,ut b,ut n,ut turn]) (λi ys H2=>I2! H2 r/\ys.length=i/\∃L,ys=ng!/\F1! (Xl! PL!)/\ON H2 W.c b n turn L i/\I3! H2) ⟨Ab,rfl,[],rfl,S0',s? S!,Qy! s0⟩ (λi ys H2 _ h=>h.1) ?_ ?_;.rintro i ys H2 N hi ⟨er,ly,L,wO,W2,l2,QJ⟩ hN;refine Cb!;have mC:r∉Bv p (Xl! PL!):=λm=>S.QC IW m;obtain⟨JI,GY⟩:=W2.ob;obtain⟨QN,cJ⟩:=W2.po.ob;refine tu! JI GY (Es _) QN cJ _ rfl _ rfl _ Ee! XW!;have s3:=Vd! (X? n) (X? turn) ha;have W3:=k9!;refine em! _ _ W3.po (eI! ZE l2.len) (λt H4 ht et S4 dB=>?_);obtain⟨W4,VT⟩:=W3.JO S4 dB;have aF:=HQ s3;have LB:=nt!;have aJ:I2! H4 r:=v! VT (d! s3 er) mC;refine Ho! aJ PQ! hN ⟨Ab,gv! ly,L++[(H2!,t)],Qx! wO,?_,?_,?_⟩;(·(have e1:eo! U?=PL!+1:=B!);rw[e1,<-AN];exact gE! W4.keep (Ny! mC));(·(have kq:BY H4 (upd H4 r (.BF (ys++[EQ! H2!]))):=pc aJ);have kk:=(aF.trans LB).trans kq;refine L? (by rw[ZF,l2.BJ,DZ,ZF];congr 1;show [H2!]=[XV+y!];congr 1;lia);rw[DZ];refine Gg ?_ (Ar (λ_ _ rr=>rr.keep kk) l2.MV);have ea:=G! LB.BE (show YM! (HK! a .BE [X? n,X? turn]) a [X? n,X? turn] from Ab);(have e2:ly!:=B!);rw[e2] at et;exact Ho! a (G! kq.BE et) kq.BE ea);.intro b' o' e' I_;(have pG:b'≠r:=λz=>by rw[z] at e';rw[IW] at e';cases e');rw[Ac pG];exact VT b' o' (d! s3 (e2! QJ)) I_
 .rintro ys H2 ⟨er,ly,L,wO,W2,l2,QJ⟩;exact k r L H2 W2 l2 QJ (F8! wO er) (λz=>by rw[z,S.hs] at IW;cases IW) λb o e _=>Ak e IW
universe E
structure Tells(G:BM)(hs:D!)(os:B6!)(rs:Y!):Prop where
 z1:G.hand.length<64
 z2:G.AF.length<64
 z3:G.AI.length<64
 pm:hs.Perm G.hand
 pw:iz!
 PM:al!
 pr:DT!
 wr:FB!
theorem Jrv{H:Hp}{x:Addr}{hs:D!}{os:B6!}{rs:Y!}(h:q8 H x hs os rs):aR K H x Hi!:=by obtain⟨y1,y2,y3,as,bs,ds,e,e1,t1,e2,t2,⟨ob,e3,_⟩,t3⟩:=h;refine⟨y1,y2,y3,as,bs,I0! ds.map,DL.of e,Pj!,t1,NE e2,Ar (λv r h9=>by obtain⟨a,t,hd,cs,e,e1,e2,e3,th⟩:=h9;exact⟨a,t,hd,cs,e,Pj!,e2,NE e3,th⟩) t2,HS! (A! ob e3),?_⟩;clear e e1 t1 e2 t2 e3;induction t3 with | nil=>exact S! | cons r _ ih =>obtain⟨ka,e1,e2⟩:=r;exact Ge! (EO! ka rfl Pj! e2)
universe S
inductive F3(vs:C!)(H:Hp)(Q:VK)(E:XK):Prop
 | mk (p t:Addr) (W:EF) (k s g n u:Int) (q:Addr) (G:BM) (hs:D!) (os:B6!) (rs:Y!) (_:GV!) (_:wT) (_:UD! k Bc! n) (_:SB!) (_:Tells G hs os rs) (_:GF!) (_:Wg! 900) (_:(∀e∈W.FA,e.1≠XV)) (_:∀(x t1 e xs:Addr)(H':Hp),Ff! (cI! Js!)->QV H' t1 Pe! Gw! g s n u->jy! e [g! G.AX,i! xs]->aR K H' xs Hi!->J7! Dv! (aZ! [T! (XV)]) QK! fZ!)
theorem cS:YX! [Bv!,VK!,"asked",dk!,Dd!] Hf:={}
theorem Y2(F:h! uq! ur! Hf)(T:Txt)(TW:Gd)(TP:M8)(M1:JG! "tick" uY! Yd f1 d1)(M2:rm! f2 d2)(G2:pw! sB Lq)(M3:UG!):T6! AW! F3:=by
 have G1:Rw! f1 d1 Je6:=Jji M1.fn T;have G3:cq!:=cd!;refine c1! cS;.obtain⟨p,t,W,k,s,g,n,u,q,G,hs,os,rs,rfl,_⟩:=h;rfl
 .obtain⟨p,t,W,k,s,g,n,u,q,G,hs,os,rs,rfl,S,⟨a,et,ea⟩,i,tl,z1,z2,ne,kk⟩:=h;have hu:=a?;have GC:lc:=W?;obtain⟨dx,hp⟩:=S.ob;refine Zr! cS.nd (kN! cS.nd (Z0! W!) (ZM! cS.nd (qo! M3.mt G3 M3.bd Ba (vR! W! Ix! Ix!)) (Vp! n? (Bp (AU! (Cq (pl:=_) E? T.cl M1.mt G1 GC M1.bd S! Ba) (Cq (pl:=_) E? T.cl M2.mt G2 hr M2.bd S! Ba)))) (Af (Ax (Dm (am n?))))));refine qb! 3 g;refine⟨_,rfl,p,CW,dx,_,_,rfl,hp,TW.cl,TW.nH,Ds W,_,rfl,W.hs,_,_,WP q,rfl,rfl,YV!,i.YG,?_⟩;obtain⟨bK,j7⟩:=S.po.ob;refine⟨_,rfl,p,CW,dx,_,_,rfl,hp,TW.cl,TW.nP,Es _,W.po,bK,_,rfl,j7,L9!,_,rfl,_,rfl,t,_,2,X? s,rfl,rfl,Pk!,rfl,_,rfl,t,_,4,PN!,rfl,rfl,Pk!,rfl,?_⟩;refine UB! S.po B! (λt1 H1 vg wV S1 LN=>?_);obtain⟨W1,HM⟩:=S.JO S1 LN;have QL:=N5!;have HA:=i.at (W:=fE! XV Js!) W1;obtain⟨eX,sj⟩:=HA.ob;refine⟨_,rfl,q,eX,_,rfl,sj,SZ,q,G,rfl,HA,?_⟩;refine⟨_,rfl,q,eX,_,rfl,sj,SZ,q,G,hs,os,rs,rfl,HA,tl.z1,tl.z2,tl.z3,tl.pm,tl.pw,tl.PM,tl.pr,tl.wr,λxs H2 s2 sx=>?_⟩;refine A! (d2! gp!) Mb!;have s3:=Vd! (X? G.AX) YC! he;have ee:YM! (HK! e .BE [X? G.AX,YC!]) e [X? G.AX,YC!]:=Ab;generalize H8! H2 e [X? G.AX,YC!]=H3 at s3 ee;have ji:=Aj s2 s3;have W3:=W1.same ji;obtain⟨a9,dm⟩:=W3.ob;refine⟨_,rfl,p,CW,a9,_,_,rfl,dm,TW.cl,TW.nE,Jev _,_,rfl,W.en,_,rfl,le! (Sum.inl (XV)) W3.en (Sh! (Wg! _)),?_⟩;have ek:qp! W.FA (ih! XV) e PH!:=Wm ne;show _;rw[show qp! (fE! XV Js!:EF).FA (ih! XV) e PH! from ek];obtain⟨W4,VT⟩:=Jr5 W3 (l:=PH!);have LB:=nt!;have d9:I3! dF!:=Gx! (L0! VT (d! ji kQ!));have ka:BY H dF!:=FW! S d9;have ek1:BY H1 dF!:=(HQ ji).trans LB;have W4:dl! C dF! (cI! Js!):=W4;show _;generalize dF!=H4 at W4 LB d9 ka ek1;refine HQ! (d2! (Be! 1)) CU!;have s5:=Ym! XI! hx;have k5:=HQ s5;refine kk x t1 e xs _ (W4.same s5) ⟨a,FU! k5.BE ek1.BE wV,FU! k5.BE ka.BE ea⟩ (CP! k5.BE LB.BE ee) (((((Jrv sx:aR K H2 xs Hi!).keep (HQ s3)).keep LB).keep k5)) (Gx! (G! s5 (d9 b o eb hb))) Ab jr! (Gx! (Ak (L0! d9 eb) hx));have:=W4.hs;rw[LJ! ((cI! Js!:EF).hs=W.hs),<-z,hx] at this;cases this
theorem Rt:∀b∈BL (HY (FU bn)),MW!:=j? (Jr1 ts hb)
inductive F2(vs:C!)(H:Hp)(Q:VK)(E:XK):Prop
 | mk (p t:Addr) (W:EF) (k s g:Int) (ts:D!) (q:Addr) (G:BM) (n:Nat) (rs:Y!) (_:GV!) (_:wT) (_:oZ! k) (_:SB!) (_:z?) (_:n<=62) (_:bE!) (_:b3!) (_:DT!) (_:FB!) (_:Sm!) (_:(Bj bn rs).length<=60) (_:GF!) (_:hY! (sN! (wD! (aa! lq!) (W.c+((Bj bn rs).length:Nat)) EG!) (uH H' W.c g L (Bj bn rs)) S0!))
theorem jX:YX! [Bv!,VK!,"h"] He:={}
theorem Y1(F:h! uu! uv! He)(T:Txt)(TW:Gd)(M1:v4! HY! up! Yh f1 d1)(G1:pv! HR! yF)(M2:sl! f2 d2)(G2:pw! P7! Pd):T6! AW! F2:=by
 refine c1! jX;.obtain⟨p,t,W,k,s,g,ts,q,G,n,rs,rfl,_⟩:=h;rfl
 .obtain⟨p,t,W,k,s,g,ts,q,G,n,rs,rfl,S,⟨a,as0,et,ea,th⟩,i,ok,zn,gr,gq,pm,pw,eQ,zb,zl,kk⟩:=h;obtain⟨dx,hp⟩:=S.ob;obtain⟨FH,hq⟩:=FD!;refine Zr! jX.nd (BO! (TK! TW.cl M2.mt G2 M2.bd (v3! (wV! (Z0! W!) Ba YP!))));refine qb! 3 g;refine⟨_,rfl,p,dx,_,rfl,hp,Lb!,_,rfl,_,rfl,p,CW,dx,_,_,rfl,hp,TW.cl,TW.nH,Ds W,_,rfl,W.hs,_,_,WP q,rfl,rfl,YV!,i.YG,q,FH,_,rfl,hq,SZ,_,rfl,t,_,4,PN!,rfl,rfl,Pk!,rfl,q,a,G,n,rs,ts,as0,rfl,Nc!,ok,zn,gr,gq,pm,pw,ea,th,eQ,λx as H1 nx ex bk S1 LN=>?_⟩;obtain⟨W1,HM⟩:=S.step i.2 S1 LN (j? (hr! Rt));have o6:=S.IS (b:=W.hs) (rX!) (ZP i.2);have jd:QK!:=λz=>nx _ _ S.hs o6.1 o6.2 z.symm;(have sub:∀b,Eh!->b∉Bv p (LM! (aa! lq!)):=λb hb m=>by rcases ZI m with m|m;(.exact hb Yu!);.obtain⟨z,hz,hm⟩:=DF.mp m;have hz:z∈aa! lq!:=hz;rcases PK hz with hz|rfl;(.exact sL! (Id! hm));.refine sL! (PP FO! (ZP i.2));exact hm.imp id λz=>Rt b z);refine⟨p,x,g,_,as,_,rfl,W1,ex,W1.YY ex jd,bk,zb,zl,λy L H2 W2 b2 QJ jc jb ey=>?_⟩;exact kk y L H2 W2 b2 (qX! QJ) jc (qX! jb) ey
universe E
universe E K64
universe N K64F
open PySem L2 FX K64
theorem E2(h:n<=20000):n<sizeLine:=VV! FY h
structure ja(H:Hp)(d:Addr)(L:Nk!):Prop where
 ob:Ec! (.dK (L.map λq=>(H! q.1,hp!)))
 st:∀q∈L,aR K H K? u?
universe S
theorem Gk(hd:GN! d l)(ht:Ex!):TN! (xw! (th∈l)):=HP! bA! Gy
theorem QB(hd:Vv! d l)(ht:Ex!)(f:eK! Hu!=some q):TN! (I6! K?):=Lx! bA! ca! f
def MA(H:Hp)(hl:HL):Prop:=DX! (fY! (Zf! K?) (IC! u?))
theorem MA.keep(k:wS)(h:MA H hl):MA H' hl:=UV (let⟨cs,e,th⟩:=A3! h;⟨cs,k.sq e,Ys! th⟩)
inductive Hb(vs:C!)(H:Hp)(Q:VK)(E:XK):Prop
 | mk (sa l:Addr) (as:J!) (ts:D!) (hl:HL) (n:Nat) (R:D!) (_:vs=d9! sa l) (_:Vu! sa) (_:B7!) (_:hE!) (_:aX! l) (_:vL! 900) (_:MA H hl) (_:(DX! (q.2.2.length<=900))) (_:qK! (ts.filter KH!)) (_:n<=6000) (_:Vl! (t? x->r?->jz! x R->I9!))
theorem gU:Y? ["starts",BF!,"found",Lf!,"ahead"] Gg! Fn:={}
theorem K7(F:h! Lg! Lg! Fn):Bt! Gg! Hb:=by
 refine f? gU;obtain⟨sa,l,as,ts,hl,n,R,rfl,es,th,zt,el,zl,hq,hz,eO,zn,k⟩:=h;refine X!;have hu:=a?;refine VP! gU.nd Eo (Yo! (Ki (te:=B7 0) (i:=4) (caps:=Kk!) gU.nd rfl rfl rfl rfl (KU! 0) rfl ZV rfl ZV rfl JX! Z2! Jd! ZV mS! L3!) (pO! (Yu n? (FG!)) (Z1! 3 gU.nd (Nm BN PySem.F.slot_list_pop PySem.F.type_list_pop Jg1 n?) (i4! E? W! (Ad (B9 hu W! E? Gf rfl) (HU! (F7 BN QI QG Tl n? (Aa (sx! Kk! (Gu (Cs hu z! E?)) Z2! mS!) Ae))))))) 2);intro fa eS;have s1:=SI! eS;have e1:lH! (Bl! fa .dT []) []:=Ab;generalize SM! H fa=H1 at s1 e1;have oE:AZ H1 as ts:=Ez! s1 th;refine Ve! sa (uZ! s1 es) (λaa eT=>?_);refine Kq (b:=KH!) (caps:=Kk!) eT E! (d! s1 es) oE (λH2 a t Q' sm ha ht q=>?_) λH2 bs sm ea tb=>?_;.obtain⟨o,g,eo⟩:=sJ! (CP! sm s1 el);refine r5!;rw[eo];exact Rm!
 have jv:t? aa:=by cases c:H aa with | none=>rfl | some o=>rw[G! s1 c] at eT;cases eT
 have ju:fa≠aa:=λz=>by rw[<-z,e1] at eT;cases eT
 refine PP (λm σ H'=>∃(ahead found:D!)(LO:J!)(u3:wE),σ=[d? sa,M3!,d? fa,u3,d? aa]/\r?/\jz! fa found/\v6! aa LO.map/\AZ H' LO ahead/\ME (OW hl) m ahead found R/\found.length+m<=6000/\du! EU!) ⟨n,_,[],bs,_,rfl,Aj s1 sm,Hw! sm,ea,tb,eO,by simpa using zn,V? nb!⟩;rintro m σ H' ⟨ahead,found,LO,u3,rfl,sh,ef,YO,gQ,rc,zm,hk⟩;refine KL! _ (H! (LW! (AC YO))) ?_;cases m with | zero =>obtain⟨e0,eR⟩:=rc;rw[e0] at gQ;have e2:LO=[]:=BS.mp (Paired.length gQ);rw[e2];refine Cu (m? (k fa H' eS sh ?_));rw[eR];exact ef | succ m =>have uY:=rc.len;obtain⟨a,t,iG,rc⟩:=rc;rw[iG] at gQ uY;obtain⟨KL,c,e2,uj,ec⟩:=Xu gQ;subst e2;(have em:I0! (KL++[c]).map=R6!++[RQ!]:=Qi!);rw[em] at YO ⊢;rw[show Ix (!(R6!++[RQ!]).isEmpty) by cases KL<;>rfl];refine Cy (Ct! (λEV H' h=>⟨m,KZ m,h⟩));refine⟨_,rfl,DC! YO,aa,_,_,rfl,rfl,YO,Jci _ _,?_⟩;rw[Os! ((R6!++[RQ!]).dropLast=KL.map V.ref)];(have s3:ap Gm!:=Kj! jv sh);(have aF:BY H' Gm!:=pc YO);(have bH:lH! Gm! found:=o! ju ef);have kH:pk! Gm!:=Ab;have bS:AZ Gm! KL a:=Fp! aF uj;have iE:=G! aF.BE ec;generalize upd H' aa (.BF (KL.map V.ref))=H3 at s3 aF bH kH bS iE;refine⟨_,rfl,_,rfl,fa,_,rfl,Gk bH iE,_,rfl,?_⟩;rcases rc with⟨hf,rc⟩|⟨hf,rc⟩;(.rw[AE hf];exact Cu ⟨a,found,KL,_,rfl,s3,bH,kH,bS,rc,B!,BG! rK!⟩);.rw[AB hf];refine Cy (lt! fa (VC! t bH iE (BM! E2)));rw[Ff,show Bu found t=C1! by unfold Bu;rw[AB hf]];(have s4:ap Gn!:=Kj! eS s3);(have LB:BY H3 Gn!:=pc bH);have iD:U! Gn! fa (Bg (C1!)):=Ab;(have iF:pk! Gn!:=o! ju.symm kH);have bR:AZ Gn! KL a:=Fp! LB bS;have pY:=G! LB.BE iE;rw[FF! (HO.dT ((C1!).map B9!)=Bg (C1!))];generalize A1! H3 fa Bg (C1!)=H4 at s4 LB iD iF bR pY;have ui:EU!:=hk t (q! iG ib!);obtain⟨ad,pO⟩:=Po ui;have mq:=AY pO;obtain⟨cs,q1,q2⟩:=hq _ mq;have q1:Zf! ad:=q1;have q2:IC! Je!:=q2;have q3:(CD hl t).length<=900:=hz _ mq;refine⟨_,rfl,DC! iF,_,rfl,_,rfl,l,_,rfl,QB (d! s4 el) pY pO,ad,rfl,e? ((HQ s4).sq q1),λpl VQ=>?_⟩;refine Z0 (K:=K) (b:=JO! Q1!) (caps:=Kk!) VQ E! ((HQ s4).sq q1) (AZ.keep (HQ s4) q2) (λH2 a' u Q' uk ha ow q=>?_) λH6 fA s6 tQ VU=>?_;(.obtain⟨o,g,eo⟩:=sJ! (uk l (Dy hl) (d! s4 el));refine r5!;rw[eo];exact Rm!);.have VU:AZ H6 fA (OW hl t):=VU;have zz:=rc.len;rw[ZE] at zz;have l1:=R? bR;have l2:=R? VU;refine⟨aa,pl,_,_,rfl,rfl,kt!,tQ,nh! E2,?_⟩;rw[<-ZF];(have ax:BY H6 (LU! H6 aa (KL++fA).map):=pc kt!);refine⟨a++OW hl t,C1!,KL++fA,_,rfl,Hr!,?_,Ab,AZ.keep ax (O8 (nE! bR) VU),rc,?_,Fq!⟩;(.rw[JC! jv];exact ld! s6);(.rw[Ac ju];exact G! s6 iD);(.rw[ZE];show found.length+1+m<=6000;lia);.rcases GO! with hu|hu;(.exact rK!);.have:=Jb! hu;simpa using this
universe E
theorem Zx(a:Y!)(t:T2):((Cf (a.map Eq!) (tk t)).getD (T! 0))=T! (Gc a t):=by rw[qP!];unfold Gc;cases C2! a.find? h? with | none=>rfl | some r=>rfl
theorem Jia(a:Y!)(q:Dc!):Cd! addW a q hG!:=by have lp:=Gi (a.map Eq!) (tk q.1) (T! (Gc a q.1+q.2));rw[E4,ZA,ZA] at lp;exact lp
theorem Uc:∀(l a:Y!),Cd! l.foldl addW a (a.length+l.length)
 | [],a=>ii
 | q::l,a=>by have h1:=Uc l (addW a q);have h2:=Jia a q;show(l.foldl addW (addW a q)).length<=_;simp only[BR];lia
abbrev GV(L:Nk!):D5!:=L.map Dg!
theorem Jr8{H:Hp}{d:Addr}{L:Nk!}{i:Nat}{k:Key}{v:V}(h:N7! ((L.map uD!)[i]?)):∃q,L[i]?=some q/\v=hp!:=by rw[ZH] at h;cases e:L[i]? with | none=>rw[e] at h;cases h | some q =>rw[e] at h;have h:((H! q.1:Key),do!)=(k,v):=ZO h;exact⟨q,rfl,(Prod.mk.inj h).2.symm⟩
universe S
theorem fK:Y? [Dx!,"weights",VD!,Lf!,d5!] JR! Hh:={}
inductive P3(vs:C!)(H:Hp)(Q:VK)(E:XK):Prop
 | mk (d:Addr) (L:Nk!) (_:vs=[EX!]) (_:ja H d L) (_:Eg! (GV L).flatMap Dg! 1200) (_:∀(r:Addr)(H':Hp),M2! RU! r? (Zd! r DR!) r)
theorem Y3{f:Addr}{fd:FuncData}(F:h! eD! eD! Hh):Bt! JR! P3:=by
 refine f? fK;obtain⟨d,L,rfl,S,zl,k⟩:=h;refine X!;have hu:=a?;refine OL! fK.nd Eo (Ad (Vh! (Th (Nm DH JD QH Nr O?)) 2 fK.nd (jJ! (Gu (Dh! W!)) (Nl rfl (Ck (I5! 3 fK.nd) (Ck (I5! 4 fK.nd) Kj))) (Af (B9 hu z! E? (Bc Ex (Ma hu z! E? Ag C0!) n?) rfl)))) (RF.bU (Af (Ax (pv 1)))));intro r bD;have s1:=SI! bD;have e1:re (Bl! r .dT []) r C4 []:=Ab;generalize SM! H r=H1 at s1 e1;have wo:=G! s1 S.ob;refine⟨_,rfl,R4! (s? (X1! wo)),d,_,rfl,rfl,wo,D0!⟩;have s2:=Ah (o:=Ja p d) hp;have e2:Nh! H1 Ic! Ic!:=Ab;generalize upd H1 p Ic!=H2 at s2 e2;have m7:=G! s2 wo;have gL:=Hw! s2;have gB:r≠d:=λz=>by rw[z,S.ob] at bD;cases bD
 refine⟨p,d,_,rfl,e2,m7,λo=>?_⟩;have kd:∀{H':Hp} {u:HO},A5! d u5!->BY H' (upd H' d u):=λ{H'} {u} e=>Q_ λo' e'=>by rw[e] at e';cases e';exact xz!
 refine Rq (d:=d) (ob:=o) (λi σ H'=>∃(u2 u3 u4:wE),σ=[YJ!,d? r,u2,u3,u4]/\ms!/\Zd! r ((Jq! Dg!).foldl addW [])/\BY H2 H'/\sD!) ⟨_,_,_,rfl,Ab,o! gB gL,kd m7,LE! (o! n (fJ! s2 s1))⟩ (λi σ H' _ h9=>by obtain⟨_,_,_,_,e,_⟩:=h9;exact e) ?_ ?_;.rintro i kk v σ H3 hi ⟨u2,u3,u4,rfl,ef,er,kt,fr⟩;obtain⟨q,eq,rfl⟩:=Jr8 (H:=H) (d:=d) hi;have mq:=ZP eq;have cL:=Bm! eq;have i8:=((S.st q mq).keep ((HQ s1).trans (HQ s2))).keep kt;obtain⟨y1,y2,y3,as,bs,ds,f0,f1,t1,f2,t2,f3,t3⟩:=i8;refine⟨_,rfl,K?,_,2,WP y3,rfl,rfl,f0,rfl,y3,rfl,e? f3,?_⟩;(have HY:L.take (U?)=L.take i++[q]:=XS! eq);(have lT:IN Jq! Dg!+q.2.2.2.2.length<=1200:=by (have e5:R0! (GV L) FS (GV (L.drop FS)):=Ou! ZF E_);rw[e5,BZ,ZE,HY] at zl;rw[show R0! (GV (L.take i++[q])) i [u?] by unfold GV;rw[ZF];rfl,BZ,ZE] at zl;simp only[CG,IV,AH] at zl;lia);refine S7! y3 ds (λj σ H'=>∃(w3 w4:wE),σ=[YJ!,d? r,d? K?,w3,w4]/\ms!/\Zd! r (((Jq! Dg!)++q.2.2.2.2.take j).foldl addW [])/\BY H2 H'/\BY H3 H'/\sD!) ⟨_,_,rfl,ef,gs! AH er,kt,X8!,fr⟩ (λj σ H' _ h9=>by obtain⟨_,_,_,_,_,_,k3,_⟩:=h9;exact k3.sq f3);(.rintro j v σ H4 hj ⟨w3,w4,rfl,iD,aJ,LB,vL,dB⟩;obtain⟨x,ex⟩:=bS! q.2.2.2.2 t3;obtain⟨a,t,rfl,g1,g2⟩:=(Av t3 j v x hj ex).keep vL;have dA:=Bm! ex;refine⟨a,_,rfl,g1,rfl,_,_,rfl,_,_,rfl,rfl,?_⟩;refine⟨_,rfl,r,rfl,L6! aJ,_,rfl,_,EL.t (k:=tk x.1) aJ g2,_,rfl,_,x.2,Zx _ _,rfl,_,rfl,_,rfl,r,_,rfl,HF.t (k:=tk x.1) aJ g2 (by rw[ZA];have:=Uc ((Jq! Dg!)++q.2.2.2.2.take j) [];rw[ZE,DG] at this;simp only[B_] at this;exact BM! E2),?_⟩;rw[E4];(have mO:∀u:HO,BY H4 (upd H4 r u):=λu=>pc aJ);refine⟨_,_,rfl,MV! gB iD,?_,LB.trans (mO _),vL.trans (mO _),LE! (eJ! bD (v! dB e n))⟩;(have e7:∀l:Y!,(l++[x]).foldl addW []=addW (l.foldl addW []) x:=λl=>KM List.foldl_append);(have e8:Jq! Dg!++q.2.2.2.2.take (j+1)=(Jq! Dg!++q.2.2.2.2.take j)++[x]:=by rw[CQ,ex,<-AN];rfl);rw[e8,e7];exact Ab);.rintro σ H4 ⟨w3,w4,rfl,iD,aJ,LB,vL,dB⟩;rw[R? t3,BQ] at aJ;refine⟨_,_,_,rfl,iD,?_,LB,dB⟩;rw[HY,show R0! (GV (L.take i++[q])) i [u?] by unfold GV;rw[ZF];rfl,BZ];simp only[CG,IV,AH];exact aJ
 .rintro σ H3 ⟨u2,u3,u4,rfl,ef,er,kt,fr⟩;rw[ZA,BQ] at er;refine PP (upd H3 d u5!) ⟨d,o,_,ef,λob v z=>?_,rfl⟩;(.have z:Ec! (.HK ob v):=z;rw[S.ob] at z;cases z);refine m? (k r _ bD (Ug! ?_) (o! gB er));by_cases hb:b=d;(.rw[hb,Ab];rw[hb,S.ob] at e;exact e);.rw[Du!];exact fr b ob e hb
universe E
structure bp(L:D5!):Prop where
 nd:k? bi!
 rz:Eg! rowsOf L 60
 hz:(L.flatMap (·.1)).length<=800
 oz:∀r∈Sp!,r.2.2.length<=60
 tz:Eg! L.flatMap Dg! 1200
def Cw(ws:Y!)(L:D5!):D!:=L.flatMap λS=>S.1++Iu! (S.2.1.filter (hK! ws)).map
theorem Ie(ws:Y!):∀L:D5!,Cd! Cw ws L ((L.flatMap (·.1)).length+IN rowsOf L)
 | []=>by simp[Cw]
 | S::L=>by have ih:=Ie ws L;have h:=AW (λr:T2×Int×List T2=>Lv! (fd! ws)) Hj!;unfold Cw rowsOf at *;simp only[CG,ZE,ZA] at *;lia
theorem PJ:t∈Cw ws L↔(∃S∈L,t∈S.1)\/∃r∈Sp!,r.1=t/\Aa!≠Gc ws r.1:=by
 unfold Cw rowsOf;simp only[C_,SA,AG,AD];constructor;.rintro⟨S,hS,(h|⟨r,⟨hr,c⟩,e⟩)⟩;(.exact H! ⟨S,hS,h⟩);.exact Ld! r ⟨S,hS,hr⟩ e O6!
 .rintro(⟨S,hS,h⟩|⟨r,⟨S,hS,hr⟩,e,c⟩);(.exact⟨S,hS,H?⟩);.exact⟨S,hS,L! ⟨r,A! hr O6!,e⟩⟩
def QU(hl:HL)(rows:B6!):Prop:=hl.map (Ci!)=rows.map λr=>(r.1,Al!)
theorem QU.keys(h:QU hl rows):AM! hl.map rows.map:=Lx! (congrArg (List.map Prod.fst) h) AK AK
theorem QU.get(h:QU hl rows)(nd:k? rows.map)(hr:r∈rows):CD hl r.1=Al!:=by
 have m:(r.1,Al!)∈hl.map Ci!:=I! h (Fj! r hr)
 obtain⟨q,hq,e⟩:=En!;have e1:=WS! e;have e2:=kw!;unfold CD;rw[<-e1,oG! (YI! h.keys)];exact e2
theorem Jj2(nd:k? bi!)(h:QU hl (rowsOf L))(rc:qK! ((Cw (Cg L) L).filter KH!)) : ∀t,FB bi!->(AZ!↔OF!):=by
 have start:∀t,t∈Cw (Cg L) L->OF!:=V? (by rcases PJ.mp ht with⟨S,hS,m⟩|⟨r,hr,e,c⟩;(.exact Im! hS m);.rw[<-e];exact .out hr c)
 have row:∀t,EU!->∃r∈Sp!,r.1=t:=V? (by rw[h.keys] at ht;obtain⟨r,hr,e⟩:=ZN ht;exact L5! e)
 have cl:∀t∈R,OF!:=ME.least (S:=λt=>OF!) (λt lt u hu=>by have ot:=AD.mp hu;by_cases c:EU!;(.obtain⟨r,hr,e⟩:=row t c;subst e;have hu1:=ot.1;rw[h.get nd hr] at hu1;exact In! hr hu1 lt);.exfalso;(have:C3! hl=[]:=LN! (cp! HA! c));rw[this] at ot;exact EW! ot.1 EJ) rc (AV! (Bg! ht)) (V? (start t (HE! ht)));have closed:=ME.closed rc (Mk!);have sub:=(ME.sub rc).2;have back:∀t,OF!->FB bi!->AZ!:=λt lt=>by induction lt with | hand hS m=>intro ht;exact sub _ (AD.mpr (A! (PJ.mpr (B? (WF hS m))) (by rw[h.keys];simpa using ht))) | out hr c=>intro ht;exact sub _ (AD.mpr (A! (PJ.mpr (N? (FQ! _ hr c))) (by rw[h.keys];simpa using ht))) | @step r u hr m _ ih =>intro ht;refine closed _ (ih (AG.mpr (LW! hr))) u (AD.mpr (A! (I! (h.get nd hr) m) (by rw[h.keys];simpa using ht)))
 exact V? (A! (λm=>cl t m) (λl=>back t l ht))
theorem Jfu(F:bp L)(h:QU hl (rowsOf L)):∃n R,n<=6000/\qK! ((Cw (Cg L) L).filter KH!):=by
 have lk:(hl.map (·.1)).length<=60:=Ai! h.keys ZA F.rz
 have ls:=Ie (Cg L) L;have l2:=AW (KH!) (Cw (Cg L) L);have sz:∀t,(OW hl t).length<=60:=λt=>by refine Sc! ?_;by_cases c:EU!;(.rw[h.keys] at c;obtain⟨r,hr,e⟩:=ZN c;rw[<-e,h.get F.nd hr];exact F.oz r hr);·(have:C3! hl=[]:=LN! (cp! HA! c));rw[this];simp
 have:=F.rz;have:=F.hz;obtain⟨n,R,h1,h2⟩:=ME.ex (nx:=OW hl) (keys:=vd!) (B:=60) (Jg0 hl) sz 6000 ((Cw (Cg L) L).filter KH!) [] (AV! nb!) (by have:Eg! (hl.map (·.1)).filter (EN! (t∉R8!)) 60:=Sc! lk;have:=FD (60+1) this;lia);exact⟨n,R,B!,h2⟩
universe S
theorem YQ:Y? [Dx!,"weights",BF!,"starts",VD!,Lf!,"out","held","kept"] JR! F4:={}
inductive OE(vs:C!)(H:Hp)(Q:VK)(E:XK):Prop
 | mk (d:Addr) (L:Nk!) (_:vs=[EX!]) (_:ja H d L) (_:bp (GV L)) (_:∀(x:Addr)(as:J!)(ts:D!)(H':Hp),J7! r? (eT! IL!) Tf! (Found (GV L) ts))
theorem QU.snoc(h:QU hl rows)(r:Mf!)(a:Addr):QU (hl++[(r.1,a,Al!)]) (rows++[r]):=by unfold QU at *;rw[ZF,ZF,h];rfl
theorem aA(F:h! eC! eC! F4)(T:Jpi)(MR:Bs! Lg! Fn Gg! fR dR)(MD:jX! eD! Hh fD dD):Gi! JR! OE:=by
 have GR:Cw! fR dR Gg! Hb:=K7 MR.fn;have GD:Cw! fD dD JR! P3:=Y3 MD.fn;refine f? YQ;obtain⟨d,L,rfl,S,fi,k⟩:=h;refine X!;have hu:=a?;have GC:lc:=W?;refine OL! YQ.nd (t6! GD GC MD.mg MD.fn.kp MD.bd (am O?)) (Ad (wl! YQ.nd Eo) (fL! YQ.nd ED! (Sx! (Th (Nm DH JD QH Nr O?)) YQ.nd (Ad (A6 (F7 BN QI QG Ja2 E? (am iO!))) (jJ! (Gu iO!) (sV! (I5! 5 YQ.nd) (I5! 6 YQ.nd) (I5! 7 YQ.nd)) (Ad (B9 hu W! AO! Ms! rfl) (Af (Bl (LQ! xb Hd! (Ma hu z! AO! Ag C0!)) (mT! E? AO!) Bb)))))) (RF.bU (Ad (Au (i:=8) YQ.nd rfl (Or.inr rfl) (t6! GR GC MR.mg MR.fn.kp MR.bd (AU! E? W!))) (BO! (b0! (Aa (sx! (h3! 8) (sp! RP! T.sorted Pi!) Z2! (wQ! Eh)) Ae)))))));refine⟨_,rfl,d,L,rfl,S,fi.tz,λws H1 hws s1 ew=>?_⟩;intro hd mX;have s2:=SI! mX;have e2:re (Lh! hd .dT []) hd Dy []:=Ab;generalize SM! H1 hd=H2 at s2 e2;refine xE! (λsl jD=>?_);have s3:=JJ! jD;have e3:if! (HK! sl .BF []) sl:=Ab;generalize TB! sl=H3 at s3 e3;have de:=r9!;have ew3:=i8! s3 ew;have eh3:=CY! e2;have sH:t? hd:=Cp s1 mX;have sC:t? sl:=Cp s1 (Cp s2 jD);have nwh:ws≠hd:=Ak ew mX;have r9:ws≠sl:=Ak (d! s2 ew) jD;have vD:hd≠sl:=Ak e2 jD;have jL:=G! de S.ob;have vF:hd≠d:=λz=>by rw[z,S.ob] at sH;cases sH
 have cy:sl≠d:=λz=>by rw[z,S.ob] at sC;cases sC
 have ndw:ws≠d:=λz=>by rw[z,S.ob] at hws;cases hws
 refine⟨_,rfl,R4! (s? (X1! jL)),d,_,rfl,rfl,jL,D0!⟩;have s4:=Ah (o:=Ja p d) hp;have e4:Nh! H3 Ic! Ic!:=Ab;generalize upd H3 p Ic!=H4 at s4 e4;have pX:=DI! jL;refine⟨p,d,_,rfl,e4,pX,λo=>?_⟩;have JEM:∀i,rowsOf (GV (L.take i))=Jq! Gz!:=λi=>rfl;have rX:∀{i:Nat} {q:Int×Addr×HS},L[i]?=some q->R0! (GV (L.take FS)) i [u?]:=λ{i q} eq=>by rw[CQ,eq];show List.map _ (L.take i++[q])=_;rw[ZF];rfl
 refine Rq (d:=d) (ob:=o) (λi σ H'=>∃(u4 u5 u6 u7:wE)(hl:HL)(as:J!),σ=[YJ!,d? ws,iD!,d? sl,u4,u5,u6,u7,none]/\ms!/\Zd! ws DR!/\re H' hd Dy hl/\QU hl (rowsOf eO!)/\MA H' hl/\mC! sl/\AZ H' as (Cw DR! eO!)/\BY H4 H'/\sD!) ⟨_,_,_,_,[],[],rfl,Ab,o! ndw (DI! ew3),o! vF (DI! eh3),rfl,(gz!),o! cy (DI! e3),S!,Q_ (λo' e'=>by rw[pX] at e';cases e';exact xz!),LE! (o! n (fJ! s4 de))⟩ (λi σ H' _ h9=>by obtain⟨_,_,_,_,_,_,_,e,_⟩:=h9;exact e) ?_ ?_;.rintro i kk v σ H5 hi ⟨u4,u5,u6,u7,hl,as,rfl,ef,ew5,pW,gF,vu,pT,cp,mO,bF⟩;obtain⟨q,eq,rfl⟩:=Jr8 (H:=H) (d:=d) hi;have mq:=ZP eq;have eJ:=((S.st q mq).keep ((HQ de).trans (HQ s4))).keep mO;obtain⟨y1,y2,y3,JA,bs,ds,f0,f1,t1,f2,t2,f3,t3⟩:=eJ;(have oH:rowsOf (GV L)=bW!++(q.2.2.2.1++rowsOf (GV (L.drop (U?)))):=by (have e5:R0! (GV L) FS (GV (L.drop FS)):=Ou! ZF E_);rw[e5,rX eq];unfold rowsOf;simp only[BZ,CG,IV,AH,AN]);(have yQ:b? (GV L).flatMap=b? Jq!++(q.2.2.1++b? (GV (L.drop FS)).flatMap):=by (have e5:R0! (GV L) FS (GV (L.drop FS)):=Ou! ZF E_);rw[e5,rX eq];simp only[BZ,CG,IV,AH,AN]);have zr:=fi.rz;have zh:=fi.hz;have ls:=Ie DR! eO!;have lth:=R? cp;have l1:=R? t1;rw[oH,ZE,ZE] at zr;rw[yQ,ZE,ZE] at zh;have nd:=fi.nd;rw[oH] at nd;refine⟨_,rfl,DC! pT,_,rfl,K?,_,0,RR!,rfl,rfl,f0,rfl,sl,y1,_,_,rfl,rfl,pT,f1,nh! E2,?_⟩;rw[<-ZF];(have c7:BY H5 (wf! H5 Rs!):=pc pT);(have hV:∀b ob,J0! H5->b≠sl->J0! (wf! H5 Rs!):=LE! jL!);have pS:NL! H5 sl Rs! sl Rs!:=Ab;have VU:AZ (wf! H5 Rs!) (as++JA) (Cw DR! eO!++q.2.2.1):=AZ.keep c7 (O8 cp t1);generalize NW! H5 sl Rs!=H6 at c7 hV pS VU;refine⟨_,rfl,K?,_,1,WP y2,rfl,rfl,c7.sq f0,rfl,y2,rfl,e? (c7.sq f2),?_⟩;refine S7! y2 bs (λj σ H'=>∃(w5 w6 w7:wE)(hl:HL)(as:J!),σ=[YJ!,d? ws,iD!,d? sl,d? K?,w5,w6,w7,none]/\ms!/\Zd! ws DR!/\re H' hd Dy hl/\QU hl (bW!++q.2.2.2.1.take j)/\MA H' hl/\mC! sl/\AZ H' as ((Cw DR! eO!++q.2.2.1)++b? ((Xc! j).filter (hK! DR!)).map)/\BY H6 H'/\sD!) ⟨_,_,_,hl,as++JA,rfl,H0! hV ef cy,v! hV ew5 r9,v! hV pW vD,gs! AH gF,vu.keep c7,pS,by rw[JX];simpa using VU,X8!,LE! (v! hV (bF _ _ e n) (Ak e sC))⟩ (λj σ H' _ h9=>by obtain⟨_,_,_,_,_,_,_,_,_,_,_,_,_,k3,_⟩:=h9;exact(c7.trans k3).sq f2);(.rintro j v σ H7 hj ⟨w5,w6,w7,aO,pq,rfl,my,wR,ml,bY,lN,wX,jf,oj,QZ⟩;obtain⟨r,er⟩:=bS! q.2.2.2.1 t2;obtain⟨a,t,ha,cs,rfl,g1,g2,g3,g4⟩:=(Av t2 j v r hj er).keep (c7.trans oj);have dA:=Bm! er;(have HY:Xc! (j+1)=q.2.2.2.1.take j++[r]:=XS! er);(have df:r.1∉b? aO.map:=by rw[bY.keys];intro z;have e9:q.2.2.2.1=Xc! (j+1)++q.2.2.2.1.drop (j+1):=(E_ _ _).symm;rw[e9,HY,<-AN,<-AN,<-AN,AN (bW!++q.2.2.2.1.take j++[r])] at nd;(have YD:k? (bW!++q.2.2.2.1.take j++[r]).map:=by rw[ZF] at nd;exact YB! nd);rw[ZF] at YD;exact kJ! r.1 z r.1 be rfl);(have lh:aO.length<=60:=by have:=DP! bY.keys;rw[ZA,ZA,ZE,DG] at this;lia);have lf:=AW (λr:T2×Int×List T2=>Lv! (fd! DR!)) (Xc! j);rw[DG] at lf;have la7:=R? jf;rw[ZE,ZE,ZA] at la7;refine tq! a g1;refine⟨_,rfl,_,rfl,_,rfl,hd,_,rfl,VC! r.1 ml g2 (BM! E2),?_⟩;rw[Ij (V.ref ha) (Ov! (Fi! df V1!))];rw[show(aO.map IF!)++[(tk r.1,WP ha)]=(E5!).map IF! by rw[ZF];rfl];(have QO:BY H7 (upd H7 hd (Dy (E5!))):=pc ml);(have gI:∀b ob,J0! H7->b≠hd->J0! (upd H7 hd (Dy (E5!))):=LE! jL!);have wj:U! (upd H7 hd (Dy (E5!))) hd (Dy (E5!)):=Ab;rw[FF! (HO.dT ((E5!).map IF!)=Dy (E5!))];generalize A1! H7 hd Dy (E5!)=H8 at QO gI wj;(have qW:MA H8 (E5!):=λq' YE=>by rcases ZI YE with YE|YE;(.exact(lN.keep QO) q' YE);.rw[ZK YE];exact⟨cs,QO.sq g3,Fp! QO g4⟩);(have qY:QU (E5!) (bW!++Xc! (j+1)):=ft! HY AN (bY.snoc r ha));have tN:=v! gI wR nwh;have tP:=H0! gI wX vD;have tS:=H0! gI my vF;have g28:=G! QO.BE g2;have oB:=Fp! QO jf;refine⟨_,rfl,_,rfl,ws,rfl,L6! tN,_,rfl,_,EL.t (k:=tk r.1) tN g28,?_⟩;rw[Zx];refine FQ! rfl _ ?_;refine J0 (λc=>?_) (λc=>?_);(·(have c:¬fd! DR!:=λz=>by rw[z] at c;simp at c);refine sG! (DC! tP) _ rfl sl tP (E2 (PU!)) ?_;(have sQ:Pm! H8 H8 sl (I0! pq.map) Mx!:=pc tP);refine⟨_,_,_,E5!,pq++[t],rfl,MV! cy tS,o! r9 tN,o! vD wj,qY,qW.keep sQ,b8!,?_,(oj.trans QO).trans sQ,LE! (eJ! sC (v! gI (QZ _ _ e n) (Ak e sH)))⟩;rw[HY,JL,ZF,<-AN];(have m6:([r].filter (hK! DR!))=[r]:=by simp[c]);rw[m6];exact Il (AZ.keep sQ oB) (d! sQ.BE g28));·(have c:fd! DR!:=O6!);refine⟨_,_,_,E5!,pq,rfl,tS,tN,wj,qY,qW,tP,?_,oj.trans QO,LE! (v! gI (QZ _ _ e n) (Ak e sH))⟩;rw[HY,JL];(have m6:([r].filter (hK! DR!))=[]:=by simp[c]);rw[m6,AH];exact oB);.rintro σ H7 ⟨w5,w6,w7,aO,pq,rfl,my,wR,ml,bY,lN,wX,jf,oj,QZ⟩;rw[R? t2,BQ] at bY jf;refine⟨_,_,_,_,aO,pq,rfl,my,wR,ml,?_,lN,wX,?_,(mO.trans c7).trans oj,QZ⟩;(.rw[rX eq];unfold rowsOf at bY ⊢;simp only[BZ,CG,IV,AH];exact bY);.rw[rX eq];unfold Cw at jf ⊢;simp only[BZ,CG,IV,AH];rw[AN] at jf;exact jf
 .rintro σ H5 ⟨u4,u5,u6,u7,hl,as,rfl,ef,ew5,pW,gF,vu,pT,cp,mO,bF⟩;rw[ZA,BQ] at gF cp;refine PP (upd H5 d u5!) ⟨d,o,_,ef,λob v z=>?_,rfl⟩;(.have z:Ec! (.HK ob v):=z;rw[S.ob] at z;cases z);(have s6:ap T5!:=Ug! (by by_cases hb:b=d;(.rw[hb,Ab];rw[hb,S.ob] at e;exact e);.rw[Du!];exact bF b ob e hb));(have sq6:∀{b:Addr} {xs:C!},DL K H5 b xs->DL K T5! b xs:=λ{b xs} z=>by rcases z with(z|⟨ob,z⟩)|z;(.exact Dm! (q! (Ac (λy=>by rw[y,ef] at z;cases z)) z));(.exact HS! (A! ob (VN! (λy=>by rw[y,ef] at z;cases z) z)));.exact JW!);have VU:∀{as:J!} {ts:D!},AZ H5 as ts->AZ T5! as ts:=λ{as ts} z=>Ar (λb t e=>WI! (λy=>by rw[y,ef] at e;cases e)) z;(have qX:MA T5! hl:=UV (by obtain⟨cs,e,t⟩:=A3! vu;exact⟨cs,sq6 e,VU t⟩));have qG:=VU cp;(have pS:O1! T5! sl as.map:=o! cy pT);(have wm:re T5! hd Dy hl:=o! vF pW);clear sq6 VU;generalize upd H5 d u5!=H6 at s6 qX qG pS wm;obtain⟨n,R,zn,rc⟩:=Jfu fi gF;have ls:=Ie DR! (GV L);have zr:=fi.rz;have zh:=fi.hz;(have lh:hl.length=(rowsOf (GV L)).length:=kZ! (DP! gF.keys) ZA);refine⟨_,rfl,_,rfl,sl,hd,as,_,hl,n,R,rfl,pS,qG,B!,wm,B!,qX,CV!,rc,zn,λx H7 hx s7 ex=>?_⟩;(·(have m:a0! (rowsOf (GV L)).map:=G? gF.keys (Zm! hq));(have e8:CD hl q.1=u?:=LN! (oG! (q! gF.keys fi.nd)));obtain⟨r,IW,e⟩:=En!;rw[<-e,gF.get fi.nd IW] at e8;rw[<-e8];exact Kb! (fi.oz r IW));have ml:=G! s7 wm;obtain⟨so,pm,pw⟩:=o1! FX.sorts (b? (rowsOf (GV L)).map) (q! IT fi.nd);(have pw:so.Pairwise HZ:=by simpa using pw);(have dr:Rd H7 hd (aj! (hl.map (I7! do!)).map):=by (have e:nf! hl.map (I7! do!) hl.map IF!:=D1!);rw[e];exact H! ml);refine⟨_,rfl,hd,_,so,rfl,dr,PU!,?_,pw,λr2 VX OK QK=>?_⟩;(.rw[AK];show so.Perm (hl.map pi);rw[gF.keys];exact pm);have s8:=IR! VX.map OK;have e8:NL! H7 r2 VX.map r2 VX.map:=Ab;have oB:=Ez! s8 QK;generalize NW! H7 r2 VX.map=H8 at s8 e8 oB;have ex8:=G! s8 ex;refine aD! r2 e8 (λp2 GY=>?_);(have lso:so.length<=60:=Ai! pm.length_eq ZA zr);refine Kq (b:=λt=>Lv! AZ!) (caps:=h3! 8) GY E! e8 oB (λH9 a t Q' sm ha ht q=>?_) λH9 bs sm ea tb=>?_;(.refine⟨_,rfl,_,rfl,x,_,rfl,Gk (d! sm ex8) ha,_,rfl,?_⟩;by_cases c:AZ!;(.rw[v?];rw[show bv (Lv! AZ!) by simp[c]] at q;exact q);.rw[EQ];rw[show Ix (Lv! AZ!) by simp[c]] at q;exact q);.refine no! p2 ea (λtt htt=>?_);have s9:=kO! bs.map htt;refine k tt bs _ _ (Aj s6 (Aj s7 (Aj s8 (Aj sm s9)))) Ab (AZ.keep (HQ s9) tb) (A! (pw.filter _) (λt=>?_));have li:=Jj2 fi.nd gF rc;rw[AD];constructor;(.rintro⟨h1,h2⟩;have m:=pm.mem_iff.mp h1;exact A! m (λz=>by rw[(li t m).mpr z |> decide_eq_true] at h2;simp at h2));.rintro⟨h1,h2⟩;exact A! (pm.mem_iff.mpr h1) (by have:t∉R:=FZ! h2 (li t h1).mp;simp[this])
universe E
universe E K64F
universe N FX
open PySem PySem.Spec PyProof.Rows L2
theorem Qo:∀{es:List DictEntry} {vs:List (Key×Value)} {ns:A?},Pairs V2! es vs->G7! vs.map ns.map Sum.inl->IntsAre (es.map On!) ns
 | _,_,ns,.nil,e=>by cases ns with | nil=>exact S! | cons n ns=>cases e
 | _,_,ns,.cons (e:=d) (kv:=kv) h _ t,e=>by cases ns with | nil=>cases e | cons n ns =>have e:kv.1::_=Y9!::ns.map Sum.inl:=e;obtain⟨e1,e2⟩:=List.cons.inj e;have ih:=Qo t e2;rcases Co (k:=kv.1) (v:=d.key) h with⟨i,tk,e3,e4⟩|⟨x,tk,e3,e4⟩;(.rw[e1] at e3;have:n=i:=Sum.inl.inj e3;rw[AJ,e4,<-this];exact C? n tk ih);.rw[e1] at e3;cases e3
theorem Jib{es:EB!}{acc:CS!}(ha:ItemsOf (rT!) acc es.size):ge! (es.toList.map On!):=by
 refine cf!;by_cases hj:f7!;·(have h1:j<acc.size:=I! ha.1 hj);obtain⟨e2,e3,e4⟩:=ha.2 j acc[j] (gg!);(have e5:es[j]?=some es[j]:=f8!);rw[e5] at e3;cases e3;(have h2:acc.toList[j]?=some acc[j]:=gg!);(have h3:es.toList[j]?=some es[j]:=f8!);rw[h2,ZH,h3,e4];rfl
 .rw[CY (Ai! DE ha.1 NP!),CY (Ai! ZA DE NP!)]
universe S
variable {X:Cx Kx}
inductive Le(xs:C!)(H:Hp)(Q:VK):Prop
 | mk (d:Addr) (kvs:Bx!) (ns:A?) (_:kY!) (_:Zv!) (_:G7! kvs.map ns.map Sum.inl) (_:ns.length<64) (_:∀(r:Addr)(ms:A?),RU!->ms.Perm ns->ms.Pairwise (·<=·)->Is r (CI! r (YE! ms.map)))
theorem M7(hc:Av!):au! Le:=by
 intro AA s σ H xs us Q I rv h;obtain⟨d,kvs,ns,rfl,hd,ek,cN,q⟩:=h;obtain⟨u,rfl,rx⟩:=vals1 rv;cases rx;obtain⟨z,lo,vs,rel,o,es,ep,g1,g2,g3,g4,g5,g6⟩:=Wd! l3! hd;have ev:∀{a:Bx!} {b:List (Key×Value)},KV a b->AM! b.map a.map:=λ{a b} r=>by induction r with | nil=>rfl | cons h _ ih=>rw[AJ,AJ,ih,h.1]
 have hI:IntsAre (es.toList.map On!) ns:=Qo g5 (I? (ev rel) ek);have hl:es.size=ns.length:=kZ! (IntsAre.length hI) DE
 refine tD! (by unfold Builtin.«sorted»;refine tR! (W.kdu_collect (Vq lo (es:=es) (ep:=ep)) (HF! _ (I.ok.hd hc)) ⟨o,g1,g2,g3⟩ (eI! hl DI) λh1 tk acc kp ha=>?_);rw[Jib ha];have I1:FN! { s with heap:=h1,toks:=tk }:=lU!;refine mw! (by rw[ZA,DE,hl,DI];lia);have e1:U! (h1.push (seqObj AH! (es.toList.map On!).toArray 0)).get? h1.objs.size (Nj! es.toList.map On! 0):=CN!;refine tH! e1 (list_sort_tree e1 hI (by rw[ZA,DE,hl];exact cN) λout ms a1 a2 a3=>Rb!);have hn:h8!:=SX!;obtain⟨c,ec⟩:=sortedHeap_at (out:=out) e1;(have old:∀b ob,J0! h1.get?->J0! (sortedHeap (h1.push (seqObj AH! (es.toList.map On!).toArray 0)) h1.objs.size (es.toList.map On!) out).get?:=λb ob hb=>by have JS:=AO hb;rw[sortedHeap_old (BK JS) (q! size_push' (Nat.lt_succ_of_lt JS))];exact ZT _ hb);refine pq! (I1.laid (a:=h1.objs.size) (o:=.BF (ms.map V.int)) (t':=tk) old Am! ⟨?_,out.toList,c,Su a1,by simpa using ec⟩) (q _ ms hn a2 a3);rw[ZA,a2.length_eq,DI];lia)
universe E
universe E FX
universe N K64F
open PySem L2 FX K64
def iN(os:DG!):C!:=os.map (Io! (X? Bz!))
theorem Joe(n:Nat):(rg n).map V.int=iN wg!:=by unfold rg iN;rw[AK];rfl
theorem Jdc{L:Nk!}{h:Int}(n:h∉ht!):Cf (L.map uD!) G9!=none:=by
 unfold Cf;rw[OP,BI.mpr];.rfl
 .intro q hq z;(have z:PR! q.1=B? h:=t4!);injection z with z;exact Fi! n V1!
theorem q1:Az! Fo! JP!:=ZV
theorem q2:Az! Fo! Hb!:=ZV
theorem q3:Az! Fo! Dx!:=ZV
theorem q4:Az! Dx! JP!:=ZV
theorem q5:Az! Dx! Hb!:=ZV
theorem q6:Az! Hb! JP!:=ZV
def Gj(m:Int)(sd fd cd:Addr):By!:=As JP! (V! cd) (As Hb! (V! fd) (dq! Dx! sd Fo! (GM m) []))
universe S
theorem Jcr:U! (Gj m sd fd cd).lookup (Fo!:Str) (GM m):=by unfold Gj;rw[Bf,AB q1,Bf,AB q2,Bf,AB q3,Bf,SL]
theorem Ud:U! (Gj m sd fd cd).lookup (Dx!:Str) (V! sd):=by unfold Gj;rw[Bf,AB q4,Bf,AB q5,Bf,SL]
theorem Mq:U! (Gj m sd fd cd).lookup (Hb!:Str) (V! fd):=by unfold Gj;rw[Bf,AB q6,Bf,SL]
theorem N4:U! (Gj m sd fd cd).lookup (JP!:Str) (V! cd):=by unfold Gj;rw[Bf,SL]
theorem cV{x:Str}(h1:¬x=JP!)(h2:¬x=Hb!)(h3:¬x=Dx!)(h4:¬x=Fo!):Ay! (Gj m sd fd cd).lookup x:=by unfold Gj;rw[Bf,AB h1,Bf,AB h2,Bf,AB h3,Bf,AB h4];rfl
universe E
structure Iq where
 m:Int
 sd:Addr
 fd:Addr
 cd:Addr
 ss:Bx!
 fs:Bx!
 cs:Bx!
structure FZ(H:Hp)(p:Addr)(I:Iq):Prop where
 ob:g0! tL!
 s:Iv! I.sd .dK I.ss
 f:Iv! I.fd .dK I.fs
 c:Iv! I.cd .dK I.cs
 sf:I.sd≠I.fd
 sc:I.sd≠I.cd
 fc:I.fd≠I.cd
theorem FZ.keep(x:UC!)(k:r8! (b=p) (∀o,Dj!->Fx!)):FZ H' p I :=⟨V8! (k p HJ! _ e),k _ (IQ! rfl) _ x.s,k _ (ax! rfl) _ x.f,k _ (e1! N? rfl) _ x.c,x.sf,x.sc,x.fc⟩
theorem FZ.same(x:UC!)(s:r?):FZ H' p I:=x.keep λb _ o e=>HX! s
universe S
inductive OY(vs:C!)(H:Hp)(Q:VK)(E:XK):Prop
 | mk (p dx:Addr) (n:Int) (_:jH!) (_:JV! (CE! CI dx [])) (_:∀(H':Hp)(I:Iq),Wt! H'->FZ H' p I->I.m=n->I.ss=[]->I.fs=[]->I.cs=[]->t? I.sd->t? I.fd->t? I.cd->PS!)
theorem Jqk:Y? Mw! Mw! Qh:={}
theorem Z_(F:iP! ui! Qh)(T:Xh):Bt! Mw! OY:=by
 refine f? Jqk;obtain⟨p,dx,n,rfl,hp,k⟩:=h;refine X!;refine J5! (Pr! z!) (LP! aN! aN! (ZL! Dl Fo rfl));have l1:=A4 Fo! d0! [];refine⟨_,rfl,_,rfl,p,CI,dx,[],rfl,hp,T.cl,T.nM,nS!,λd1 h1=>?_⟩;have cu:p≠d1:=Ak Ab h1;have l2:=λv=>A4 Dx! v (As Fo! d0! []);refine⟨_,rfl,p,CI,dx,_,rfl,kj! cu,T.cl,T.nS,(by simp only[B_] at l1;lia),λd2 h2=>?_⟩;have mF:p≠d2:=Ak Ab h2;have l3:=λv u=>A4 Hb! u (As Dx! v (As Fo! d0! []));refine⟨_,rfl,p,CI,dx,_,rfl,kj! mF,T.cl,T.nF,(by have:=l2 (DW! d1);simp only[B_] at l1;lia),λd3 h3=>?_⟩;have oS:p≠d3:=Ak Ab h3;refine lN! CI (kj! oS) T.nT (by have:=l2 (DW! d1);have:=l3 (V! d1) hm!;simp only[B_] at l1;lia);have g1:t? d1:=by rw[NQ!] at h1;exact h1
 have gm:d1≠d2:=λz=>by rw[<-z,NQ!,Ab] at h2;cases h2
 have g2:t? d2:=by rw[Y8!,dw! gm,Y8!] at h2;exact h2
 have jw:d2≠d3:=λz=>by rw[<-z,Y8!,Ab] at h3;cases h3
 have jx:d1≠d3:=λz=>by rw[<-z,NQ!,Ac gm,NQ!,Ab] at h3;cases h3
 have g3:t? d3:=by rw[jF!,dw! jw,jF!,dw! jx,jF!] at h3;exact h3
 refine k _ ⟨n,d1,d2,d3,[],[],[]⟩ (vO! ?_) ⟨HH! Ab,?_,?_,?_,gm,jx,jw⟩ rfl rfl rfl rfl g1 g2 g3;.have m1:=Ak e g1;have m2:=Ak e g2;have m3:=Ak e g3;rw[Du!,Ac m3,Du!,Ac m2,Du!,Ac m1,Du!];exact e
 .rw[NQ!,Ac jx,NQ!,Ac gm,NQ!];exact Ab
 .rw[Y8!,Ac jw,Y8!];exact Ab
 .rw[jF!];exact Ab
inductive cX(vs:C!)(H:Hp)(Q:VK)(E:XK):Prop
 | mk (p:Addr) (I:Iq) (h t:Int) (v:V) (_:vs=[Go,Cx!,g! t,v]) (_:UC!) (_:I.fs.length<=500) (_:I.ss.length<=500) (_:∀H',FZ H' p { I with ss:=putK I.ss G9! v,fs:=putK I.fs G9! (T! t) }->(MB! (b≠I.sd) (b≠I.fd) Fx!)->Q (bY! (a1! (J? (putK I.fs (.inl h) (.int t)).length) I.m)) H')
theorem uq:Y? Oe! Oe! Ly:={}
theorem fq(F:h! "first" uj! Ly)(T:Xh)(hl:ZJ!):Bt! Oe! cX:=by
 refine f? uq;obtain⟨p,I,h,t,v,rfl,S,zf,zs,k⟩:=h;refine X!;have hu:=a?;obtain⟨dx,hp⟩:=S.ob;refine I4! (qi! W!) (Ad (S6! E?) (BO! (mA! (ww! N9 hl g?) g?)));have npf:p≠I.fd:=λz=>by rw[z,S.f] at hp;cases hp
 have nps:p≠I.sd:=λz=>by rw[z,S.s] at hp;cases hp
 refine th! CI dx hp T.cl T.nF Mq I.fd (HF.k (k:=Sum.inl h) S.f (E2 (B!)));have IA:Ds! (Bl! I.fd .dK (VF! I.fs)) tL!:=o! npf hp
 have s1:Sj! I.fd I.fs I.sd I.ss:=o! S.sf S.s
 have c1:Sj! I.fd I.fs I.cd I.cs:=MV! S.fc S.c
 have f1:Sj! I.fd I.fs I.fd wh!:=Ab;have k1:MB! (b≠I.sd) (b≠I.fd) (AI! (Bl! I.fd .dK (VF! I.fs))):=λb o e _ n=>jL!
 generalize A1! H I.fd .dK wh!=H1 at IA s1 c1 f1 k1;refine th! CI dx IA T.cl T.nS Ud I.sd (HF.k (k:=Sum.inl h) s1 (E2 (B!)));have GY:Ds! c5! tL!:=o! nps IA
 have s2:eB! c5! I.sd xa!:=Ab;have c2:eB! c5! I.cd I.cs:=MV! S.sc c1
 have f2:eB! c5! I.fd wh!:=MV! S.sf f1
 have k2:MB! (b≠I.sd) (b≠I.fd) (AI! c5!):=λb o e n1 n2=>o! n1 (k1 b o e n1 n2)
 generalize A1! H1 I.sd .dK xa!=H2 at GY s2 c2 f2 k2;exact⟨_,rfl,p,CI,dx,_,_,rfl,GY,T.cl,T.nF,Mq,I.fd,_,rfl,f2,_,rfl,p,CI,dx,_,_,rfl,GY,T.cl,T.nM,Jcr,rfl,k H2 ⟨HH! GY,s2,f2,c2,S.sf,S.sc,S.fc⟩ k2⟩
inductive aq(vs:C!)(H:Hp)(Q:VK)(E:XK):Prop
 | mk (p:Addr) (I:Iq) (h t:Int) (_:fP! Cx! t) (_:UC!) (_:I.cs.length<=500) (_:∀H',FZ H' p { I with cs:=putK I.cs G9! (T! t) }->(S1! (b≠I.cd))->Q (bY! (a1! (J? (putK I.cs (.inl h) (.int t)).length) I.m)) H')
theorem l_:Y? Nl! Nl! Js:={}
theorem dX(F:h! "second" uk! Js)(T:Xh)(hl:ZJ!):Bt! Nl! aq:=by
 refine f? l_;obtain⟨p,I,h,t,rfl,S,zc,k⟩:=h;refine X!;have hu:=a?;obtain⟨dx,hp⟩:=S.ob;refine I4! (qi! W!) (BO! (mA! (ww! N9 hl g?) g?));have npc:p≠I.cd:=λz=>by rw[z,S.c] at hp;cases hp
 refine th! CI dx hp T.cl T.nT N4 I.cd (HF.k (k:=Sum.inl h) S.c (E2 (B!)));have IA:Ds! (Bl! I.cd .dK (VF! I.cs)) tL!:=o! npc hp
 have s1:Sj! I.cd I.cs I.sd I.ss:=o! S.sc S.s
 have c1:Sj! I.cd I.cs I.cd (VF! I.cs):=Ab;have f1:Sj! I.cd I.cs I.fd I.fs:=o! S.fc S.f
 have k1:i2! (b≠I.cd) (Bl! I.cd .dK (VF! I.cs)):=λb o e n=>jL!
 generalize A1! H I.cd .dK (VF! I.cs)=H1 at IA s1 c1 f1 k1;exact⟨_,rfl,p,CI,dx,_,_,rfl,IA,T.cl,T.nT,N4,I.cd,_,rfl,c1,_,rfl,p,CI,dx,_,_,rfl,IA,T.cl,T.nM,Jcr,rfl,k H1 ⟨HH! IA,s1,f1,c1,S.sf,S.sc,S.fc⟩ k1⟩
structure Full(I:Iq)(n:Nat)(f c:EA!)(a:J9!):Prop where
 ks:∃os:DG!,os.Perm (List.range n)/\G7! I.fs.map os.map (Io! (PR! Bz!))
 fs:∀k<n,Cf I.fs (c? Bz!)=some (T! (f k))
 cs:∀k<n,Cf I.cs (c? Bz!)=some (T! (c k))
 ss:∀k<n,Cf I.ss (c? Bz!)=some (DW! (a k))
def C9(n:Nat)(f c:EA!):DG!:=(List.range n).filter λk=>GJ! f k c k
theorem Jdj:∀{ms:A?} {n:Nat},ms.Perm (rg n)->ms.Pairwise (·<=·)->ms=rg n:=λ{ms n} pm pw=>by (have pr:(rg n).Pairwise (·<=·):=by unfold rg;rw[DK];exact q6!);exact pm.eq_of_pairwise (λa b _ _ h1 h2=>B!) pw pr
inductive ZQ(vs:C!)(H:Hp)(Q:VK)(E:XK):Prop
 | mk (p:Addr) (I:Iq) (n:Nat) (f c:EA!) (a:J9!) (_:GX!) (_:UC!) (_:n<=60) (_:Full I n f c a) (_:∀(l:Addr)(H':Hp),M2! Fy! r? (mt! iN (C9 n f c)) l)
theorem Jqa:aY! Lx:={}
def Jnv:TT:=Ky (YK i_ (dQ! Hb!) (dQ! JP!))
theorem fm(F:h! "still" ul! Lx)(T:Xh)(hso:jY!):SS! ZQ:=by
 refine f? Jqa;obtain⟨p,I,n,f,c,a,rfl,S,hz,fu,k⟩:=h;refine X!;have hu:=a?;obtain⟨dx,hp⟩:=S.ob;refine FA! (Fl (tt:=Jnv) (te:=B7 0) (caps:=Ky!) rfl (sp! (M7 rfl) hso YO!) rfl ZV rfl ZV rfl JX! Z2! Jd! ZV (dS! Cr cV! cV!) L3!);obtain⟨os,pm,ek⟩:=fu.ks;have lo:os.length=n:=I? pm.length_eq CF
 refine⟨_,rfl,p,CI,dx,_,_,rfl,hp,T.cl,T.nF,Mq,I.fd,I.fs,os.map (Io! Bz!),rfl,S.f,Db! ek AK,PU!,λr ms IW oO pw=>?_⟩;have em:ms=rg n:=Jdj (oO.trans (pm.map _)) pw;subst em;rw[Joe];have s1:=Ah (o:=.BF (iN wg!)) IW;have e1:re (Bl! r .BF we!) r .BF we!:=Ab;generalize Pl! H r we!=H1 at s1 e1;refine aD! r e1 Q0!;refine Ia (K:=K) (a:=r) (xs:=iN (List.range n)) (tt:=Jnv) (te:=B7 0) (caps:=Ky!) (λi ys H'=>I2! H' l/\CB H1 H'/\ys=iN (C9 i f c)) (CT! Ab (Ah hl)) (λi ys H' _ z=>gT! z.2.1 e1 z.1) ?_ ?_;.rintro i v ys H2 N hi ⟨el,s2,rfl⟩ hN;have cL:=Bm! hi;(have li:(iN (List.range n)).length=n:=by unfold iN;rw[ZA,CF]);rw[li] at cL;(have hi:X? y!=v:=by unfold iN at hi;rw[ZH,List.getElem?_range cL] at hi;exact ZO hi);subst hi;have jk:=Aj s1 s2;have S2:=Lj! jk;obtain⟨JI,GY⟩:=S2.ob;(have gf:EL H2 I.fd (GM y!) (some (T! (f i))):=jt! y! S2.f (fu.fs i cL));(have gc:EL H2 I.cd (GM y!) (some (T! (c i))):=jt! y! S2.c (fu.cs i cL));(have BF:(C9 i f c).length<=i:=ju! (AW (λk=>GJ! f k c k) (List.range i)));(have st1:C9 (U?) f c=C9 i f c++LZ! (f i=c i) [i] []:=by unfold C9;rw[DZ,JL];congr 1;by_cases z:f i=c i;(.rw[AE z];simp[z]);.rw[AB z];simp[z]);refine⟨_,rfl,p,CI,JI,_,_,rfl,GY,T.cl,T.nF,Mq,_,rfl,I.fd,_,rfl,gf,_,rfl,p,CI,JI,_,_,rfl,GY,T.cl,T.nT,N4,_,rfl,I.cd,_,rfl,gc,rfl,_,rfl,?_⟩;refine J0 (Dz!) (Dz!);(·(have z:f i=c i:=by have:=BW z;injection this);refine KL! el (E2 (by unfold iN;rw[ZA];lia)) (G! hN (PP Ab (Aw! (eJ! hl (HX! s2)))));rw[st1,AE z];unfold iN;rw[ZF];rfl);.have z:¬f i=c i:=λy=>z (Cl! y);refine G! hN (PP el s2);rw[st1,AB z,AH]
 .rintro ys H2 ⟨el,s2,rfl⟩;(have li:(iN (List.range n)).length=n:=by unfold iN;rw[ZA,CF]);rw[li] at el;exact k l H2 (Cp s1 hl) (Aj s1 s2) el
def LH(n:Nat)(f c:EA!)(a:J9!)(S:B2!):Nk!:=(C9 n f c).map (Io! (Bz!,a k,S k))
inductive VI(vs:C!)(H:Hp)(Q:VK)(E:XK):Prop
 | mk (p:Addr) (I:Iq) (n:Nat) (f c:EA!) (a:J9!) (S:B2!) (_:GX!) (_:UC!) (_:n<=60) (_:Full I n f c a) (_:(∀k<n,aR K H (a k) (S k))) (_:bp (GV (LH n f c a S))) (_:∀(x:Addr)(as:J!)(ts:D!)(H':Hp),J7! r? (eT! IL!) Tf! (Found (GV (LH n f c a S)) ts))
theorem fV:Vw! [Bv!,Dx!,"h"] Jt:={}
theorem Jij{a:J9!}{S:B2!}{ks:DG!}{k:Nat}(h:k∉ks):Cf ((ks.map (Io! (Bz!,a k,S k))).map uD!) (c? Bz!)=none:=by refine Jdc Md!;rw[AK] at m;obtain⟨j,hj,e⟩:=En!;have e:A4!=Bz!:=e;exact h (I! (FK! (k=j)) hj)
theorem Je5(n:Nat)(f c:EA!):(C9 n f c).Nodup:=List.nodup_range.filter _
theorem dY{f fS fU:Addr}{fd dS dU:FuncData}(F:h! "result" um! Jt)(T:Xh)(MS:Su! "still" ul! Lx fS dS)(GS:Rw! fS dS ZQ)(MU:jX! eC! F4 fU dU)(GU:EG 2 fU dU JR! (OE)):T6! sB VI:=by
 refine f? fV;obtain⟨p,I,n,f,c,a,Sf,rfl,S,hz,fu,st,fi,k⟩:=h;refine X!;have hu:=a?;have GC:lc:=W?;have OK:NI!:=W?;obtain⟨dx,hp⟩:=S.ob;refine OL! fV.nd Fo (Ad (Vh! (Ee (Cq (pl:=_) O? T.cl MS.mt GS GC MS.bd S! Ba)) 2 fV.nd (Af (B9 hu z! W! (Vo! W!) rfl))) (BO! (t6! GU OK MU.mg MU.fn.kp MU.bd ES!)));intro d hd;have s1:=jN! hd;have e1:kB! (Bl! d .dK []) d:=Ab;generalize Nb! H d=H1 at s1 e1;have S1:=Sl!;obtain⟨FH,IA⟩:=S1.ob;refine⟨_,rfl,p,FH,_,rfl,IA,sX! cV,p,I,n,f,c,a,rfl,S1,hz,fu,λl H2 hl s2 el=>?_⟩;refine aD! l el ?_;have mH:d≠l:=λz=>by rw[z] at e1;rw[e1] at hl;cases hl
 have ls:IN iN (C9 n f c)=(C9 n f c).length:=by unfold iN;rw[ZA]
 have lz:(C9 n f c).length<=n:=ju! (AW (λk=>GJ! f k c k) wg!)
 refine aM! l (iN (C9 n f c)) (λj σ H'=>∃u2,σ=[CZ!,YJ!,u2]/\r?/\mt! iN (C9 n f c)/\re H' d .dK (((C9 n f c).take j).map (Io! (Bz!,a k,Sf k)) |>.map uD!)) (KL! (Aj s1 s2) el (Hw! s2)) (λj σ H' _ h9=>by obtain⟨_,_,_,z,_⟩:=h9;exact AC z);.rintro j v σ H3 hj ⟨u2,rfl,s3,aK,jL⟩;have dA:=Bm! hj;rw[ls] at dA;obtain⟨kk,tR⟩:=Ao (xs:=C9 n f c) dA;(have hj:X? (J? kk)=v:=by unfold iN at hj;rw[ZH,tR] at hj;exact ZO hj);subst hj;have mk:=ZP tR;have hk:kk<n:=BB.mp (HE! mk);have S3:=Lj! s3;obtain⟨QN,RD⟩:=S3.ob;(have gs:EL H3 I.sd (GM (J? kk)) (some (DW! (a kk))):=jt! (J? kk) S3.s (fu.ss kk hk));(have df:kk∉(C9 n f c).take j:=λz=>by obtain⟨i,hi,e⟩:=List.mem_iff_getElem.mp z;rw[DG] at hi;rw[List.getElem_take] at e;have e3:=(ZJ tR).2;have:=(IU (Je5 n f c)).mp (e.trans e3.symm);lia);refine to! CI QN RD T.nS Ud I.sd gs rfl d _ rfl (HF.k (k:=H! (J? kk)) jL (E2 (by rw[ZA,ZA,DG];lia)));rw[Hk _ (Jij df)];refine KL! (Kj! hd s3) (MV! mH aK) ?_;rw[Ab,CQ,tR];simp only[Option.toList_some,ZF,AJ,GF]
 .rintro σ H3 ⟨u2,rfl,s3,aK,jL⟩;rw[ls,BQ] at jL;refine⟨_,rfl,d,LH n f c a Sf,rfl,A! jL CV!,fi,λx as ts H4 s4 ex th fo=>k x as ts H4 (Aj s3 s4) ex th fo⟩;obtain⟨j,hj,rfl⟩:=ZN hq;exact(st j (BB.mp (HE! hj))).keep (HQ s3)
universe E
universe E K64F
universe N K64
open PySem L2 FX
theorem Io:∀{R U:D!},R.Nodup->(∀t∈R,t∈U)->R.length<=U.length
 | [],U,_,_=>sw
 | a::R,U,nd,h=>by have OG:=BA!;have ha:=DQ! a;have ih:=Io (R:=R) (U:=U.erase a) OG.2 (V? ((List.mem_erase_of_ne (Vb! OG.1 ht)).mpr (h t (ZD _ ht))));rw[List.length_erase_of_mem ha] at ih;have:=KA ha;simp only[BR];lia
def xY(p:Addr)(W:EF)(io:Addr)(I:K64F.Iq):Prop:=r8! (b=io) Eh!
structure nQ(H:Hp)(c b:Int)(ts:D!)(L:j!)(m:Nat):Prop where
 BJ:ii! (List.range m).map pG!
 MV:Fw! (λ(y:Int×Addr)(i:Nat)=>YV H y.2 y.1 b y! (ts.filter iu!)) L List.range m
theorem nQ.len(x:nQ H c b ts L m):L.length=m:=ju! (R? x.MV)
universe S
inductive Nf(vs:C!)(H:Hp)(Q:VK)(E:XK):Prop
 | mk (p:Addr) (b n:Int) (W:EF) (io:Addr) (I:K64F.Iq) (m:Nat) (f c:EA!) (a:J9!) (S:B2!) (_:vs=[Go,g! b,PO!]) (_:wT) (_:Jv! (mI! W.MB n) io) (_:K64F.FZ H io I) (_:m<=60) (_:K64F.Full I m f c a) (_:(∀k<m,aR K H (a k) (S k))) (_:K64F.bp (K64F.GV q0!)) (_:Xs!) (_:GF!) (_:W.GW.length<=900) (_:(∀e∈W.GW,e.1≠n)) (_:∀(x xf:Addr)(as:J!)(ts:D!)(L:j!)(H':Hp),Found (K64F.GV q0!) ts->Ff! { W with c:=Ba!,ls:=EG!,GW:=Gf! }->nQ H' W.c b ts L W.qs.length->A5! xf IL!->Tf!->J7! Dv! S0! QK! fZ!)
theorem ag:Y? [Bv!,uw!,"n","found","went","h","there"] Ob! Jp:={}
def Jpz:TT:=Ky (YK i_ (YK Ss! (B7 0) Kr!) (B7 1))
theorem Jaz(F:h! ux! uy! Jp)(T:Txt)(TW:Gd)(TP:M8)(TI:Xh)(M1:Su! "result" um! Jt f1 d1)(G1:EG 3 f1 d1 sB (K64F.VI))(M3:UG!):EG 4 f fd Ob! (Nf):=by
 have G3:cq!:=cd!;refine f? ag;obtain⟨p,b,n,W,io,I,m,f,c,a,Sf,rfl,S,vi,SI,zm,fu,st,fi,z1,z2,z3,nf,k⟩:=h;refine X!;have hu:=a?;have GC:lc:=W?;obtain⟨dx,hp⟩:=S.ob;obtain⟨jN,mW⟩:=SI.ob;refine I4! (Uo! 3 ag.nd (dK! (Vo! W!) TI.cl Ba)) (Ad (Vp! W! E?) (ZM! ag.nd ED! (De PassesOwn.never rfl (F1 rfl T.range (am p8!)) (Bk (i:=5) ag.nd rfl (Or.inr rfl)) (Ad (Uo! 6 ag.nd (b0! (Aa (Fl (tt:=Jpz) (te:=B7 0) (caps:=[("h",5)]) rfl (Gu (pv 3)) rfl ZV rfl ZV rfl JX! Z2! Jd! ZV (dS! Cr iN! z!) L3!) Ae))) (wT! n? (Aa (Up! g? TP.cl M3.mt G3 GC M3.bd Ba (ko! AO! Hd!)) Ae)))) (Vm! 4)));have gi:EL H W.iq d0! (I6! io):=jt! n S.iq vi
 refine⟨_,rfl,p,CW,dx,_,_,rfl,hp,TW.cl,TW.nI,Ps W,_,rfl,W.iq,_,rfl,gi,io,jN,_,rfl,mW,sX! K64F.cV,io,I,m,f,c,a,Sf,rfl,SI,zm,fu,st,fi,λxf as ts H1 s1 bG th fo=>?_⟩;have W1:=Sl!;obtain⟨FH,IA⟩:=W1.ob;refine th! CW FH IA TW.cl TW.nF (Jeu W) W.fi (le! Y9! W1.fi PQ!);rw[Wm nf];obtain⟨W2,QJ⟩:=Jr7 W1 (l:=Gf!);have mP:=FW! W1 QJ;have d9:I3! (vm! H1 W.fi Gf!):=Gx! (L0! QJ (d! s1 eb));have lQ:=G! mP.BE bG;have QK:=Fp! mP th;generalize upd H1 W.fi (vJ! Gf!)=H2 at W2 mP d9 lQ QK;refine xE! hZ!;have s3:=Nn!;have e3:if! (HK! r .BF []) r:=Ab;have W3:=k9!;generalize TB! r=H3 at s3 e3 W3;have qM:∀W':EF,KG!=ER!->r∉KG!:=λW' e m=>by rw[e] at m;exact W2.QC IW m
 obtain⟨QN,RD⟩:=W3.ob;have e0:J? (F0! W.qs.map (WP q.1))=W.qs.length:=D?
 refine⟨_,rfl,p,CW,QN,_,_,rfl,RD,TW.cl,TW.nH,Ds _,W.hs,_,rfl,Lz! W3.hs,RH!,(by rw[<-e0]),B!,B!,?_⟩;rw[CA];have cH:as.length=ts.length:=R? QK;have JPr:ts.length<=60:=by have nd:ts.Nodup:=List.Pairwise.imp (λ{a b} (h:HZ a b) (z:a=b)=>o7!) fo.pw;have:=Io nd (V? ((fo.mem t).mp ht).1);rw[ZA] at this;exact A_ this fi.rz
 refine of! W.qs.length (λi σ H'=>∃(u5 u6:wE)(L:j!),σ=[CZ!,ut b,ut n,d? xf,d? r,u5,u6]/\A5! r ee!/\Ff! { W with c:=PL!,ls:=EG!,GW:=Gf! }/\nQ H' W.c b ts L i/\BY H3 H'/\Dv!) ⟨_,_,[],rfl,e3,by (have e:({ W with c:=ai!,ls:=W.ls++[],GW:=Gf! }:EF)={ W with GW:=Gf! }:=D?);rw[e];exact W3,s? S!,X8!,Gx! (CY! (d9 b o eb hb))⟩;.rintro i σ H4 hi ⟨u5,u6,L,rfl,er,W4,l4,k4,VT⟩;rw[LF! ly!];have qi:=FU! k4.BE s3 lQ;have l9:=AZ.keep k4 (AZ.keep (HQ s3) QK);refine Ve! xf (NE qi) CV!;refine Z0 (K:=K) (b:=iu!) (caps:=[("h",5)]) hq E! (DL.of qi) l9 (λH5 a5 t5 Q' sm ha ht qq=>?_) λH5 bs sm ep tb=>?_;(.refine⟨_,rfl,a5,_,0,X? t5.1,rfl,rfl,NE ha,rfl,_,rfl,rfl,_,rfl,?_⟩;rw[show DM! (e0! t5.1 y!) (t5.1=y!) by by_cases z:t5.1=y!;(.rw[z];simp);.rw[BR! z,BR! (λy=>z (by injection y))]];exact qq);refine no! q ep (λx6 hx6=>?_);have s6:=kO! bs.map hx6;have e6:U! (upd H5 x6 (PB! bs.map)) x6 (PB! bs.map):=Ab;have tb6:=Ez! s6 tb;have gV:=Aj sm s6;generalize upd H5 x6 (PB! bs.map)=H6 at s6 e6 tb6 gV;have W6:=W4.same gV;obtain⟨a9,dm⟩:=W6.ob;obtain⟨wz,hq7⟩:=W6.po.ob;have gJ:=G! gV er;refine⟨_,rfl,DC! gJ,_,rfl,p,CW,a9,_,_,rfl,dm,TW.cl,TW.nP,Es _,W.po,wz,_,rfl,hq7,L9!,_,rfl,_,rfl,_,rfl,?_⟩;refine em! _ _ W6.po (eI! ZE l4.len) (λt7 H7 ht7 wU S7 QZ=>?_);obtain⟨W7,lu⟩:=W6.JO S7 QZ;have ax:=FW! W6 lu;have er7:U! H7 r ee!:=v! lu gJ (qM _ rfl);refine nG! r er7 (LD! ZA l4.len);(have kq:qI! r ng! (EQ! H2!):=pc er7);have kk:=((HQ gV).trans ax).trans kq;refine⟨_,_,L++[(H2!,t7)],rfl,b8!,?_,H7!,k4.trans kk,?_⟩;(·(have e1:eo! U?=PL!+1:=B!);rw[e1,<-AN];exact gE! W7.keep (λz=>qM _ rfl (HI! hb)));(.rw[ZF,l4.BJ,DZ,ZF];congr 1;show [H2!]=[XV+y!];congr 1;lia);(.rw[DZ];exact Gg ⟨x6,bs,G! kq.BE wU,FU! kq.BE ax.BE e6,AZ.keep kq (AZ.keep ax tb6)⟩ (Ar (λ_ _ rr=>rr.keep kk) l4.MV));.intro b' o' e' I_;have pG:b'≠r:=Ak (d9 b' o' e' I_) IW;rw[Ac pG];exact lu b' o' (d! gV (e2! VT)) I_
 .rintro σ H4 ⟨u5,u6,L,rfl,er,W4,l4,k4,VT⟩;exact m? (k r xf as ts L H4 fo W4 l4 (CP! k4.BE s3 lQ) (AZ.keep k4 (AZ.keep (HQ s3) QK)) VT er (λz=>by have:=W2.hs;rw[LJ! (({ W with GW:=Gf! }:EF).hs=W.hs),<-z,IW] at this;cases this) (Gx! (Ak (L0! d9 eb) IW)))
universe E
def aS(p:Addr)(W:EF)(I:K64F.Iq)(H H':Hp):Prop:=KE (Dj!->Eh!->b≠I.sd->b≠I.fd->b≠I.cd->Fx!)
universe S
theorem aS.DY(x:wT)(y:K64F.FZ H io I)(f:bR!):wS:=by
 have ne:∀{b:Addr} {o:HO} {d:Addr} {kvs:Bx!},Dj!->(∀kvs,o≠.dK kvs)->Zv!->b≠d:=λ{b o d kvs} e n ed z=>by rw[z,ed] at e;injection e with e;exact n _ e.symm
 exact W4! (f a _ e (x.fg e) (UM! y.s) (UM! y.f) (UM! y.c)) (λa ob u e=>f a _ e (λm=>by obtain⟨o,e',_,h⟩:=jZ!;rw[e] at e';cases e';exact G! h rfl) (UM! y.s) (UM! y.f) (UM! y.c))
theorem AR.off(x:wT)(f:S1! gZ!):wo! H':=x.keep λb o m e=>Br! f m
theorem Jcu(nd:KA! nc!):mI! (nc!) k=some (V! e)/\Dr (kvsOf (nc!)) (c? k)=kvsOf (AT!):=A! (XR! (Zz nd)) (Z3 nd)
universe E
universe S
inductive P2(vs:C!)(H:Hp)(Q:VK)(E:XK):Prop
 | mk (p t:Addr) (W:EF) (k s g n u:Int) (e1 e2:j!) (e xs:Addr) (tick:Int) (io:Addr) (I:K64F.Iq) (_:GV!) (_:wT) (_:UD! k Gw! n) (_:W.FA=nc!) (_:k? W.FA.map) (_:O0! e [g! tick,i! xs]) (_:Jv! (mI! W.MB n) io) (_:K64F.FZ H io I) (_:xY p W io I) (_:I.fs.length<=500) (_:I.ss.length<=500) (_:I.cs.length<=500) (_:Xs!) (_:GF!) (_:((u=1/\(fW! I.fs≠I.m->Vl! (J7! (Ff! Xt!) (cR! { I with ss:=wP! I.ss,fs:=d8! I.fs }) bR! (aZ! [])))/\(hf! I.fs->hY! (Ff! { W with FA:=AT!,c:=Ba!,ls:=EG! }->ON H' W.c g n 2 L W.qs.length->cR! { I with ss:=wP! I.ss,fs:=d8! I.fs }->bR!->S0!->I9!)))\/(u≠1/\(fW! I.cs≠I.m->Vl! (J7! (Ff! Xt!) (cR! { I with cs:=d8! I.cs }) bR! (aZ! [])))/\(hf! I.cs->∃(m:Nat)(f c:EA!)(a:J9!)(S:B2!),m<=60/\K64F.Full { I with cs:=d8! I.cs } m f c a/\(∀k<m,aR K H (a k) (S k))/\K64F.bp (K64F.GV q0!)/\W.GW.length<=900/\(∀e∈W.GW,e.1≠n)/\∀(x xf:Addr)(as:J!)(ts:D!)(L:j!)(H':Hp),Found (K64F.GV q0!) ts->Ff! { W with FA:=AT!,c:=Ba!,ls:=EG!,GW:=Gf! }->nQ H' W.c g ts L W.qs.length->A5! xf IL!->J7! Tf! (cR! { I with cs:=d8! I.cs }) bR! S0!))))
theorem VF:YX! [Bv!,VK!,"sender",uw!,"n",Oy!,"last"] E3:={}
theorem Jjg(F:h! us! ut! E3)(T:Txt)(TW:Gd)(TI:Xh)(M1:CT K CI "first" uj! Ly Oe! f1 d1)(M2:CT K CI "second" uk! Js Nl! f2 d2)(M3:sm! f3 d3)(G3:EG 2 f3 d3 MH! (Ha))(M4:FR! ux! uy! Jp Ob! f4 d4)(G4:EG 4 f4 d4 Ob! (Nf)) : EG 5 f fd AW! (P2):=by
 have G1:Cw! f1 d1 Oe! K64F.cX:=K64F.fq M1.fn TI T.len;have G2:Cw! f2 d2 Nl! K64F.aq:=K64F.dX M2.fn TI T.len;refine c1! VF;.obtain⟨p,t,W,k,s,g,n,u,e1,e2,e,xs,tick,io,I,rfl,_⟩:=h;rfl
 .obtain⟨p,t,W,k,s,g,n,u,e1,e2,e,xs,tick,io,I,rfl,S,⟨a,et,ea⟩,ee,nde,he,vi,SI,off,zf,zs,zc,z1,z2,kk⟩:=h;have hu:=a?;have GC:lc:=W?;have OK:NI!:=W?;obtain⟨dx,hp⟩:=S.ob;refine Zr! VF.nd (kN! VF.nd Ix! (ZM! VF.nd Rn! (LR! 5 VF.nd (Yz g? Ix! C0!)) (LP! (i3! Rn! (Ad (Uo! 6 VF.nd (Uq! (Vo! n?) TI.cl M1.mt G1 GC M1.bd Ba (Fn! W! (Dh! AO!) (Dh! AO!)))) (BO! (Yy (F5 (pv 6)) (ve! TW.cl M3.mt G3 OK M3.bd (Fn! E? n? Ag)) ED!)))) (LR! 6 VF.nd (Uq! (Vo! n?) TI.cl M2.mt G2 GC M2.bd Ba (v3! (Dh! AO!)))) (BO! (Yy (F5 (pv 6)) (TK! TW.cl M4.mt G4 M4.bd (AU! E? n?)) ED!)))));have qQ:=nde;rw[ee] at qQ;obtain⟨ev,ed⟩:=Jcu qQ;refine qb! 2 s;refine qb! 3 g;refine⟨_,rfl,t,_,4,PN!,rfl,rfl,Pk!,rfl,a,_,0,X? n,rfl,rfl,NE ea,rfl,?_⟩;have wY:=S.en;rw[ee] at wY;refine⟨_,rfl,p,CW,dx,_,_,rfl,hp,TW.cl,TW.nE,Jev W,W.en,rfl,X1! (H! wY),_,rfl,t,_,0,X? k,rfl,rfl,Pk!,rfl,_,Sum.inl k,_,wY,rfl,ev,?_⟩;rw[ed];obtain⟨W1,HM⟩:=Jr5 S (l:=AT!);have QL:=N5!;have tX:K64F.FZ (CI! W.en (vJ! AT!)) io I:=SI.keep (cu! HM);generalize upd H W.en (vJ! AT!)=H1 at W1 HM QL tX;have wV:=G! QL.BE et;have ea1:=G! QL.BE ea;have v9:=G! QL.BE he;obtain⟨FH,IA⟩:=W1.ob;obtain⟨jN,mW⟩:=tX.ob;(have gi:EL H1 W.iq d0! (I6! io):=Lx! (EL.k (k:=H! n) W1.iq) (LJ! ((Xt!:EF).MB=W.MB)) vi);refine⟨_,rfl,t,_,4,PN!,rfl,rfl,NE wV,rfl,a,_,1,X? u,rfl,rfl,NE ea1,rfl,rfl,_,rfl,?_⟩;have yf:=off I.sd (IQ! rfl);have yg:=off I.fd (N? (IQ! rfl));have yh:=off I.cd (N? (N? (N? rfl)));rcases kk with⟨u1,k1,k2⟩|⟨u1,k1,k2⟩;(.subst u1;refine Cb!;refine⟨_,rfl,p,CW,FH,_,_,rfl,IA,TW.cl,TW.nI,Ps _,_,rfl,W.iq,_,rfl,gi,io,jN,_,rfl,mW,sX! K64F.cV,_,rfl,_,rfl,e,_,0,X? tick,rfl,rfl,NE v9,rfl,_,rfl,e,_,1,YC!,rfl,rfl,NE v9,rfl,?_⟩;refine⟨io,I,s,tick,i! xs,rfl,tX,zf,zs,λH2 nJ MN=>?_⟩;have W2:F1! Xt!:=AR.off W1 (Gx! (MN b o eb (Ny! yf) (Ny! yg)));have mf:aS p W I H H2:=UW! (MN b o kQ! n1 n2);obtain⟨JI,GY⟩:=W2.ob;refine m8!;by_cases c:hf! I.fs;(.rw[Ju! (ww c)];refine Cb!;refine q1! JI GY (Ct _ ZV) g n 2 _ W2 z1 z2 (λx L H3 W3 l3 cE ex _ _=>?_);refine k2 c x L H3 W3 l3 (nJ.keep (cu! cE)) (UW! (L0! cE ti!)) ex);.rw[GG! (λz=>c (by injection z))];refine Cu (A! l! CU!);have s3:=JJ! hx;exact k1 c x _ (W2.same s3) (nJ.same s3) (UW! (CY! ti!)) Ab);.rw[GG! (λz=>u1 (by injection z))];refine At!;refine⟨_,rfl,p,CW,FH,_,_,rfl,IA,TW.cl,TW.nI,Ps _,_,rfl,W.iq,_,rfl,gi,io,jN,_,rfl,mW,sX! K64F.cV,_,rfl,_,rfl,e,_,0,X? tick,rfl,rfl,NE v9,rfl,?_⟩;refine⟨io,I,s,tick,rfl,tX,zc,λH2 nJ MN=>?_⟩;have W2:F1! Xt!:=AR.off W1 (Gx! (MN b o eb (Ny! yh)));have mf:aS p W I H H2:=UW! (MN b o kQ! n3);obtain⟨JI,GY⟩:=W2.ob;refine m8!;by_cases c:hf! I.cs;(.rw[Ju! (ww c)];refine Cb!;obtain⟨m,f,cf,af,Sf,zm,fu,st,fi,z3,nf,k3⟩:=k2 c;have kt:=aS.DY S SI mf;refine⟨_,rfl,p,JI,_,rfl,GY,Ct _ ZV,_,rfl,_,rfl,p,g,n,_,io,_,m,f,cf,af,Sf,rfl,W2,vi,nJ,zm,fu,λj hj=>(st j hj).keep kt,fi,z1,z2,z3,nf,λx xf as ts L H3 fo W3 l3 bG th cE ex _ _=>?_⟩;exact k3 x xf as ts L H3 fo W3 l3 bG th (nJ.keep (cu! cE)) (UW! (L0! cE ti!)) ex);.rw[GG! (λz=>c (by injection z))];refine Cu (A! l! CU!);have s3:=JJ! hx;exact k1 c x _ (W2.same s3) (nJ.same s3) (UW! (CY! ti!)) Ab
inductive Ng(vs:C!)(H:Hp)(Q:VK)(E:XK):Prop
 | mk (p:Addr) (h:Int) (W:EF) (q:Addr) (G:BM) (_:ZC!) (_:wT) (_:BQ!) (_:Xs!) (_:GF!) (_:W.MB.length<=400) (_:(∀l∈W.MB,l.1≠Vz!)) (_:∀(io:Addr)(I:K64F.Iq)(L:j!)(H':Hp),Ff! { W with MB:=bb!,c:=Ba!,ls:=EG! }->ON H' W.c h (Vz!) 1 L W.qs.length->cR! I->xY p W io I->(r8! (b=io) x?)->I.m=RH!->I.ss=[]->I.fs=[]->I.cs=[]->Dv!->TA! (Vz!))
theorem fj:Y? [Bv!,"h","n"] CJ! uQ:={}
theorem Jjf(F:h! Bc! "World.ask" uQ)(T:Txt)(TW:Gd)(TI:Xh)(MH:Ih!)(p9:Mk K CI fI)(FI:M7! ui! Qh fI dI)(bI:Lr! dI Mw!)(M1:sm! f1 d1)(G1:pv! MH! Ha):Sf! CJ! Ng:=by
 have GH:K4!:=K6!;have GI:Op 1 fI dI Mw! K64F.OY:=Rp! K64F.Z_ FI TI;have G1':Op 2 f1 d1 MH! Ha:=QW! G1;refine Au! fj;obtain⟨p,h,W,q,G,rfl,S,i,z1,z2,z3,h1,k⟩:=h;refine X!;have hu:=a?;have GC:lc:=W?;obtain⟨dx,hp⟩:=S.ob;refine Ie! fh! (Ad (wl! fj.nd (Ry! (ww! N9 T.len g?))) (Yo! (Vp! W! (Pk p9 GI hr EL! TI.jB bI S! B0 (am p8!))) (TO! TW.cl M1.mt G1' hr M1.bd (Fn! z! W! Ag)) 2));refine xR! (Ld! q G i ?_);refine⟨_,rfl,p,CW,dx,_,_,rfl,hp,TW.cl,TW.nI,Ps W,W.iq,_,rfl,S.iq,_,_,rfl,rfl,?_⟩;rw[Mj];refine tJ! CW dx hp TW.cl TW.nH (Ds W) W.hs kb! (λio jN vC oX nex=>?_);refine⟨io,jN,_,rfl,Ab,λH1 I sS A1 im is vN ic n1 n2 n3=>GM!⟩;have s0:ap (upd (Bl! jN DV! io) io (CE! CI jN [])):=dL! vC oX
 have s1:ap H1:=cl! sS s0 vC;have FG:r8! (b=io) x?:=j? (by rcases hb with rfl|rfl|rfl|rfl;(.exact vC);(.exact Cp s0 n1);(.exact Cp s0 n2);.exact Cp s0 n3)
 have off:xY p W io I:=j? (S.QC (FG b hb));have S1:=Sl!;obtain⟨FH,IA⟩:=S1.ob;refine⟨_,rfl,p,CW,FH,_,_,rfl,IA,TW.cl,TW.nI,Ps W,_,rfl,W.iq,_,rfl,le! (Sum.inl (Vz!)) S1.iq PQ!,?_⟩;rw[Wm h1];obtain⟨W2,QJ⟩:=S1.zB (l:=bb!);have A2:K64F.FZ (vm! H1 W.iq bb!) io I:=A1.keep (cu! QJ);have d9:I3! (vm! H1 W.iq bb!):=Gx! (L0! QJ (d! s1 eb));generalize upd H1 W.iq (vJ! bb!)=H2 at W2 QJ A2 d9;obtain⟨JI,GY⟩:=W2.ob;refine q1! JI GY (Ct _ ZV) h Vz! 1 _ W2 z1 z2 (λx L H3 W3 l3 cE _ _ _=>?_);refine m? (k io I L H3 W3 l3 (A2.keep (cu! cE)) off FG ?_ is vN ic (Gx! (L0! cE (d9 b o eb hb))));rw[im];simp
universe E
universe S
inductive Ig(vs:C!)(H:Hp)(Q:VK)(E:XK):Prop
 | mk (p:Addr) (n:Int) (W:EF) (l1 l2:j!) (t:Addr) (m s g:Int) (kind:Str) (v:V) (_:jH!) (_:wT) (_:W.ls=l1++(n,t)::l2) (_:is! [g! m,AY! kind,g! s,g! g,v]) (_:∀H1,YZ! { W with ls:=G2! }->NM!->((kind=Ah!/\sY! Lp)\/(kind=Bc!/\sY! F3)\/(kind=Gw!/\sY! P2)\/(kind=HY!/\sY! F2)\/((Jl! Ah!/\Jl! Bc!/\Jl! Gw!/\Jl! HY!)/\G9 [Go,i! t] H1 (λ_ H2=>∀r,Ay! H2 r->Is r (HK! r .BF [])) E)))
theorem Jje(F:h! uc! "World.deliver" Kd)(TW:Gd)(TP:M8)(M1:CT K CP "taken" ub! Lw D8! f1 d1)(M2:Cc! ud! ue! Jo f2 d2)(G2:EG 3 f2 d2 AW! (G9))(M3:Cc! uf! ug! Qc f3 d3)(G3:EG 2 f3 d3 AW! (Lp))(M4:Cc! uq! ur! Hf f4 d4)(G4:EG 3 f4 d4 AW! (F3))(M5:Cc! us! ut! E3 f5 d5)(G5:EG 5 f5 d5 AW! (P2))(M6:Cc! uu! uv! He f6 d6)(G6:EG 3 f6 d6 AW! (F2)):Op 6 f fd D8! Ig:=by
 have G1:Op 1 f1 d1 D8! Ya:=Jdx M1.fn TP;have yM:Op 3 f2 d2 AW! G9:=QW! G2;have G3':Op 2 f3 d3 AW! Lp:=QW! G3;have G4':Op 3 f4 d4 AW! F3:=QW! G4;have G5':Op 5 f5 d5 AW! P2:=QW! G5;have G6':Op 3 f6 d6 AW! F2:=QW! G6;refine ok1 F PH (λvs H Q E h=>?_) (λED A outer s H vs Q E hr h=>?_);.obtain⟨p,n,W,l1,l2,t,m,s,g,kind,v,rfl,_⟩:=h;rfl
 .obtain⟨p,n,W,l1,l2,t,m,s,g,kind,v,rfl,S,el,et,k⟩:=h;have GC:lc:=W?;have OK:NI!:=W?;have c9:DM 3 _:=W?;obtain⟨dx,hp⟩:=S.ob;obtain⟨FH,hq⟩:=S.po.ob;refine kD! PH.nd (qo! M1.mt G1 M1.bd B0 ES!) PH.nd (Dh! W!) (qD! M3.mt G3' OK M3.bd) (MM! (qD! M4.mt G4' c9 M4.bd) (qD! M5.mt G5' hr M5.bd) (qD! M6.mt G6' c9 M6.bd) (TO! TW.cl M2.mt yM c9 M2.bd Pi!) (Af (Ax (Dm Ae))));refine tu! dx hp (Es W) FH hq W.po W.pd W.c W.ls n S.po ?_;refine H! ⟨l1,l2,t,el,Vk!⟩;obtain⟨W1,HM⟩:=S.JO S1 (EF! (Br! LN h2));have QL:=N5!;obtain⟨JI,GY⟩:=W1.ob;refine lw! _ (iJ! QL.BE et);have k2:=k H1 W1 HM;clear k;rcases k2 with⟨rfl,k⟩|⟨rfl,k⟩|⟨rfl,k⟩|⟨rfl,k⟩|⟨nk,k⟩;(.exact ny te!);(.exact cx (ny te!));(.exact cx (cx (ny te!)));(.exact cx (cx (cx (ny te!))));.refine cx (ne:=nk.1) (cx (ne:=nk.2.1) (cx (ne:=nk.2.2.1) (cx (ne:=nk.2.2.2) (p5! p JI _ GY (Ct _ ZV)))));obtain⟨p',t',W',n',s',g',rE,tb,wt,q,G,G',e1,h1,h2,h3,h4,h5,h6⟩:=k;exact⟨p',t',W',n',s',g',rE,tb,wt,q,G,G',e1,h1,h2,h3,h4,h5,λH2 a1 a2=>Hp! (h6 H2 a1 a2)⟩
universe E
def D4(qs:a!):Int:=(qs.map λq=>q.2.AQ).sum
theorem Nt:∀{l:a!} {i:Nat} {q r:Ox!},IJ!->D4 bK!=D4 l-q.2.AQ+r.2.AQ
 | [],i,q,r,h=>DZ!
 | a::l,0,q,r,h=>by (have e:a=q:=At);subst e;simp only[List.set_cons_zero,D4,AJ,DR];lia
 | a::l,i+1,q,r,h=>by have ih:=Nt (l:=l) (i:=i) (q:=q) (r:=r) (At);simp only[List.set_cons_succ,D4,AJ,DR] at *;lia
def YM(qs:a!)(h:Nat):Int:=(qs[h]?.map λq=>q.2.AQ).getD 0
theorem Ip:∀{qs:a!},(dz! Yq!)->Bn! (eR! qs.length (cF! qs))=D4 qs
 | [],_=>by simp[D4]
 | q::qs,nn=>by have ih:=Ip (qs:=qs) (Q5! nn);rw[BR,List.range_succ_eq_map];simp only[AJ,AK,DR];(have e1:((λh=>(YM (q::qs) h).toNat) ∘ Nat.succ)=cF! qs:=by funext h;simp[YM]);rw[e1];(have e2:YM (q::qs) 0=q.2.AQ:=by simp[YM]);have:=nn q (AJ!);rw[e2];show _=q.2.AQ+D4 qs;lia
def rT(m:Nat)(mx:Nat->Nat):D!:=(List.range m).flatMap (Io! ((List.range (mx k)).map λj:Nat=>((Bz!,A4!):T2)))
theorem Jbs(m:Nat)(mx:Nat->Nat):(rT m mx).length=N2! mx:=by simp_all [rT]
theorem Jbv{f:Nat->Nat}:∀{l:DG!} {x:Nat},x∈l->f x<=Xr! f
 | y::l,x,h=>by rw[AJ,DR];rcases ZM h with rfl|h;(.lia);.have:=Jbv (f:=f) h;lia
def L_(qs:a!)(t:T2):Prop:=∃(j:Nat)(q:Addr)(G:BM),Ph!/\Zn!/\0<=t.2/\t.2<G.AQ
theorem L_.set{qs:a!}{i:Nat}{q:Addr}{G G':BM}{t:T2}(hi:Z?)(md:Il!)(h:L_ qs t):L_ BT! t:=by
 obtain⟨j,r,M,e,h1,h2,h3⟩:=h;by_cases c:j=i;.subst c;rw[hi] at e;cases e;exact⟨j,q,G',XC! ET hi,h1,h2,B!⟩
 .exact⟨j,r,M,I! (ig! c) e,h1,h2,h3⟩
theorem Jx{qs:a!}{l:D!}(nd:l.Nodup)(h:∀t∈l,L_ qs t)(m0:dz! Yq!):J? l.length<=D4 qs:=by
 have:=Io (U:=rT qs.length (cF! qs)) nd (V? (by obtain⟨j,r,M,e,h1,h2,h3⟩:=C8! h;have jl:j<qs.length:=Bm! e;(have em:YM qs j=M.AQ:=by unfold YM;rw[e];rfl);refine C_.mpr ⟨j,BB.mpr jl,O4! gj! (BB.mpr (by show _<(YM qs j).toNat;rw[em];lia)) ?_⟩;exact Prod.ext h1.symm (QR! (Bn! gj!=t.2))))
 rw[Jbs] at this;have e:=Ip m0;lia
def PN(G:BM)(t:T2):Prop:=Cg!\/YN!
structure Mk(qs:a!)(ls:l?):Prop where
 has:Xp! (∀t,Ch!->L_ qs t)
 lt:CF! (L_ qs l.th)
theorem Mk.next{qs:a!}{ls OU:l?}{i:Nat}{q:Addr}{G G':BM}(x:Mk qs ls)(hi:Z?)(md:Il!)(h1:i7! (Ch!\/L_ BT! t))(h2:∀l∈OU,Gt!\/L_ qs l.th):nU! Mk :=A! (λj r M e t ht=>by rcases Dw e with⟨_,e2,_⟩|⟨_,e⟩;(.subst e2;rcases C8! h1 with h|h;(.exact(x.has i q G hi t h).set hi md);.exact h);.exact(x.has j r M e t ht).set hi md) (λl hl=>by rcases h2 l hl with h|h;(.exact(x.lt l h).set hi md);.exact h.set hi md)
theorem Ok.dn{qs:a!}{i:Nat}{q:Addr}{G:BM}{ls:l?}{n k:Nat}(ok:Ok G k)(x:Mk qs ls)(hi:Z?)(nu:ha!)(ob:GC! (0<=t.2))(m0:dz! Yq!)(h:D4 qs<=n):z?:=by have a1:=rP! ok.hn (x.has i q G hi t (B? (B? ht)));have a2:=rP! ok.on ⟨i,q,G,hi,I? (ok.new t ht).1 nu,C8! ob,(ok.new t ht).2⟩;have a3:=rP! ok.rn (x.has i q G hi t (AB! ht));rw[ZA] at a2 a3;refine⟨ok.hn,B!,ok.on,B!,ok.ke,ok.rn,B!,Bj! (L? (ok.ln r hr).1),ok.new,ok.hk,ok.lk,ok.rk⟩;have a4:=rP! (ok.ln r hr).1 (x.has i q G hi t (B? (N? kf!)));lia
def KI(H:Hp)(FA:j!)(y:qq!):Di! LL
 | .w l=>tM! H
 | .ask s g n u=>QV H y.2 y.1 Bc! s g n u
 | .JU s g n u tick S=>QV H y.2 y.1 Gw! s g n u/\∃e xs,(y.1,e)∈FA/\O0! e [g! tick,i! xs]/\aR K H xs S
 | .lt s g ts=>YV H y.2 y.1 s g ts
theorem KI.keep(h:oP!)(k:wS):KI H' FA y z:=by cases z with | w l=>exact KO.keep h k | ask s g n u=>exact QV.keep h k | JU s g n u tick S =>obtain⟨h1,e,xs,h2,h3,h4⟩:=h;exact⟨h1.keep k,e,xs,h2,jB!,h4.keep k⟩ | lt s g ts=>exact YV.keep h k
theorem KI.more(h:oP!)(sb:∀e,(y.1,e)∈FA->(y.1,e)∈zX):KI H zX y z:=by cases z with | w l=>exact h | ask s g n u=>exact h | JU s g n u tick S =>obtain⟨h1,e,xs,h2,h3,h4⟩:=h;exact⟨h1,e,xs,sb e h2,h3,h4⟩ | lt s g ts=>exact h
theorem Df(x:CH! (KI H FA) ys al)(k:wS):CH! (KI H' FA) ys al:=Ar (λ_ _ r=>r.keep k) x
structure Qy where
 n:Int
 io:Addr
 I:K64F.Iq
 fi:E6!
 se:RF!
def C7(y:Qy):J!:=[y.io,y.I.sd,y.I.fd,y.I.cd]
theorem FJ:b∈C7 y↔(b=y.io\/b=y.I.sd\/b=y.I.fd\/b=y.I.cd):=by simp[C7]
structure VD(H:Hp)(m:Nat)(y:Qy):Prop where
 at_:K64F.FZ H y.io y.I
 many:y.I.m=AC!
 fs:y.I.fs=y.fi.map (qQ! Aa!)
 cs:y.I.cs=y.se.map (qQ! r.2)
 ss:A6! (λ(kv:Key×V)(r:Int×Int×HS)=>s4!) y.I.ss y.fi
universe S
variable {H H':Hp}{m:Nat}{y:Qy}
theorem VD.has(x:VD H m y)(hb:b∈C7 y):∃o,Dj!/\(∀xs,o≠.BE xs)/\(∀xs,o≠.BF xs)/\(∀ob u,o≠.HK ob u):=by
 rcases FJ.mp hb with rfl|rfl|rfl|rfl;.obtain⟨dx,e⟩:=x.at_.ob;exact rg! e
 .exact rg! x.at_.s
 .exact rg! x.at_.f
 .exact rg! x.at_.c
theorem VD.keep(x:VD H m y)(k:aH! (b∈C7 y))(kt:wS):VD H' m y :=⟨x.at_.keep λb hb o e=>k b o (FJ.mpr hb) e,x.many,x.fs,x.cs,SD! (by obtain⟨a,e,s⟩:=h9;exact⟨a,e,s.keep kt⟩) x.ss⟩
universe E
def Kn(ns:A?):Di! LL
 | .ask _ _ n u=>n∈ns/\(u=1\/u=2)
 | .JU _ _ n u _ _=>n∈ns/\(u=1\/u=2)
 | _=>True
def bB(l:LT):Nat:=TD Fs! 5 (TD Xm! 1 2)
def f_(w:Nat):LL->Nat
 | .w l=>w*bB l
 | .ask _ _ _ u=>W2! 5 3
 | .JU _ _ _ u _ _=>W2! 4 2
 | .lt _ _ _=>1
def Fq(m:Nat)(y:Qy):Nat:=TD (y.fi.length<m) (3*y.fi.length) (if y.se.length<m then y.se.length else 0)
def E5(w:Nat)(al:M!):Nat:=(al.map (f_ w)).sum
def Ho(m:Nat)(ys:w!):Nat:=(ys.map (Fq m)).sum
def oN(w m:Nat)(qs:a!)(al:M!)(ys:w!):Nat:=E5 w al+Ho m ys+w*Hj qs
def PB(m A B:Nat)(qs:a!)(al:M!)(ys:w!):Prop:=A<=oN 0 m qs al ys/\oN 1 m qs al ys<=B
theorem Dp(w9:Nat)(a b:M!):E5 w9 (T?)=E5 w9 a+E5 w9 b:=by unfold E5;rw[ZF,MJ]
theorem Hq(w9:Nat)(a b:M!)(z:LL):E5 w9 (a++z::b)=E5 w9 (T?)+f_ w9 z:=fe! Dp Dp (E5 w9 a+(f_ w9 z+E5 w9 b)=_)
theorem x9(w9:Nat)(ls:l?):E5 w9 (ls.map .w)=w9*n1!:=by induction ls with | nil=>simp[E5] | cons l ls ih =>show w9*bB l+E5 w9 (ls.map .w)=w9*(bB l+n1!);rw[ih,Nat.mul_add]
theorem Yv:∀al:M!,al.length<=E5 1 al
 | []=>sw
 | z::al=>by have ih:=Yv al;(have h:1<=f_ 1 z:=by cases z with | w l=>show 1<=1*bB l;unfold bB;split<;>(try split)<;>decide | ask s g n u=>show 1<=W2! 5 3;split<;>decide | JU s g n u t S=>show 1<=W2! 4 2;split<;>decide | lt s g ts=>exact ZG 1);show al.length+1<=f_ 1 z+E5 1 al;lia
theorem Ji2{qs:a!}{i:Nat}{q:Addr}{G G':BM}(hi:Z?):Ip! (Hj BT!)=Xg! (Hj qs):=Yp (r:=Fb!) hi
theorem PB.next{m A B A' B':Nat}{qs:a!}{al al':M!}{ys:w!}{i:Nat}{q:Addr}{G G':BM}(x:PB m A B qs al ys)(hi:Z?)(h0:A'=0\/E5 0 al+A'<=E5 0 al'+A)(h1:Xg! (E5 1 al')+B<=Ip! (E5 1 al)+B'):PB m A' B' BT! al' ys:=by have h2:=Ji2 (G':=G') hi;obtain⟨x1,x2⟩:=x;unfold PB oN at *;refine Lu! B!;rcases h0 with h0|h0<;>lia
structure WI(H:Hp)(p:Addr)(W:EF)(D:y?)(m n d A B:Nat)(al:M!)(ys:w!):Prop where
 wa:wT
 wg:Wg D m n W.share W.qs Ey!
 md:S9!<=n
 ob:fj! (ja! (GC! (0<=t.2)))
 m1:1<=m
 m5:m<=12
 lw:w3! W.ls al
 en:k? W.FA.map
 ec:∀e∈W.FA,e.1<=W.c
 ez:W.FA.length<=d
 fz:W.GW.length<=d
 ma:Mk W.qs (JF al)
 pb:PB m A B W.qs al ys
 iz:ys.length<=n
 iq:W.MB=ys.map o0!
 jz:ys.map FH!=(List.range ys.length).map λ(j:Nat)=>J? j+1
 nd:Dy! ys.flatMap C7
 off:∀y∈ys,∀b∈C7 y,Eh!
 at_:∀y∈ys,VD H m y
 iv:∀y∈ys,RG m W.qs Ey! al y.n y.fi y.se
 kn:∀z∈al,Kn (ys.map FH!) z
 ff:∀e∈W.GW,∃y∈ys,y.n=e.1/\y.se.length=m
 lt:∀s g ts,Tg! g∈al->Ek!/\g<m/\∃F,QT W.qs Ey! F/\(∀t,F t->D t)/\cH! (F t) (t.1=g)
def R9(p:Addr)(W:EF)(ys:w!)(H H':Hp):Prop:=MB! Eh! (b∉TH!) Fx!
universe S
variable {p:Addr}{H H1:Hp}{W W':EF}{D:T2->Prop}{m n:Nat}{al al':List LL}{ys:List Qy}
theorem WI.same(x:k!)(s:ap H1):WI H1 p W D m n d A B al ys :={ x with wa:=x.wa.same s,lw:=Df x.lw (HQ s),at_:=Cn! ((x.at_ y hy).keep (λb o _ e=>ET! s) (HQ s)) }
theorem WI.len(x:k!):W.ls.length=al.length/\al.length<=B:=by have h1:=R? x.lw;have h2:=Yv al;have h3:=x.pb.2;unfold oN at h3;lia
theorem WI.RI(x:k!)(hB:Aq!):GF!:=by have:=x.len;lia
theorem WI.dn(x:tA! Bp! d A B al)(h:S9!<=n)(hy:ys.length<=n):k!:=by
 have m0:∀q∈W.qs,Yq!:=UV (fr! (CV.mp hq) (x.wg.wl.sd j q.1 q.2 hj).1.m0)
 refine{ x with wg:=⟨⟨x.wg.wl.len,x.wg.wl.oZ,λi q G e=>?_,x.wg.wl.ok,x.wg.wl.sum,x.wg.wl.sh⟩,x.wg.sD,x.wg.rc⟩,md:=h,iz:=hy };obtain⟨s,nu⟩:=x.wg.wl.sd i q G e;refine A! ⟨Ok.dn s.ok x.ma e nu (x.ob i q G e) m0 h,s.nn,s.ip,s.rk,s.ir,s.n0,s.n1,s.m0,?_⟩ nu;have e2:=Ip m0;have:(YM W.qs i).toNat<=eR! W.qs.length (cF! W.qs):=Jbv (f:=cF! W.qs) (BB.mpr (Bm! e));have em:YM W.qs i=G.AQ:=by unfold YM;rw[e];rfl
 rw[em] at this;lia
theorem Xn{i:Nat}{q:Addr}{G G':BM}{c:Int}{Ls:j!}(hi:RW!)(nw:OH!):∀b∈Bv p (fs! OZ!),b∈ER!\/x?:=j? (by rcases ZI hb with hb|hb;(.exact H! (ZB _ hb));.obtain⟨z,hz,hm⟩:=DF.mp hb;have hz:z∈OZ!:=hz;rcases PK hz with hz|rfl;(.exact H! (ny! (Id! hm)));.have mq:=ZP hi;rcases hm with hm|hm;(.exact H! (ny! ⟨FO!,mq,H! hm⟩));.rcases nw b hm with h|h;(.exact H! (ny! ⟨FO!,mq,AP!⟩));.exact AP!)
theorem HD.wi(f:NM!):R9 p W ys H H1:=λb o e h _=>Br! f h
theorem WI.cT(x:k!)(f:NM!)(hy:LG!):VD H1 m y:=(x.at_ y hy).keep (Ax! (Br! f (x.off y hy b hb))) (HD.DY x.wa f)
theorem WI.yW(x:k!)(sub:∀b∈KG!,b∈ER!\/x?):∀y∈ys,∀b∈C7 y,b∉KG!:=λy hy b hb m=>by rcases sub b m with h|h;(.exact x.off y hy b hb h);.obtain⟨o,e,_⟩:=ZA!;rw[e] at h;cases h
theorem WI.fQ(x:k!){j:Nat}{q:Addr}{G G':BM}{c:Int}{Ls:j!}(hi:FM Oo!)(W1:YZ! (fs! (fH! j)))(wf:NM!)(nw:OH!)(tk:Wf!)(md:Il!)(mk:hg!)(ou:n3!)(wg:oK! fz! (JF al'))(st:LC W.qs Ey! fz! (JF al'))(hA:∀n u,Cc al' n u=ac!)(hB:∀n u,Bx al' n u=mG!)(lw:CH! (KI H1 W.FA) Ls al')(mk':Mk fz! (JF al'))(pb':PB m A' B' fz! al' ys)(hc:W.c<=c)(sub:∀z∈al',Ua!\/∃l,z=.w l):WI H1 p (fs! (fH! j)) D m Bp! Jh! A' B' al' ys:=by
 have a1:=x.md;have a2:=x.ez;have a3:=x.fz;have a4:=x.iz;refine⟨W1,wg,?_,λj2 q2 G2 e2 t ht=>?_,x.m1,x.m5,lw,x.en,λe he=>Int.le_trans (x.ec e he) hc,xL (Wg! (d+1)),g4! (d+1),mk',pb',B!,x.iq,x.jz,x.nd,x.yW (Xn hi nw),Cn! (x.cT wf hy),Cn! ((x.iv y hy).fQ hi tk md (hA y.n) (hB y.n) st),Dr!,x.ff,Ub! ?_⟩;.show D4 (W.qs.set j Fb!)<=_;rw[Nt hi];show S9!-G.AQ+G'.AQ<=Bn! (n+1);lia
 .have e2:Db ((W.qs.set j (q,G'))[j2]?) q2 G2:=e2;rcases Dw e2 with⟨_,e3,_⟩|⟨_,e3⟩;(.rw[e3] at ht;rcases C8! ou with h|h;(.exact x.ob j q G hi t h);.exact h);.exact x.ob j2 q2 G2 e3 t ht
 .rcases Ag! sub with h|⟨l,rfl⟩;(.exact x.kn z h);.trivial
 .rcases sub _ hz with h|⟨l,h⟩;(.obtain⟨g0,g1,F,sF,fD,ht⟩:=nA!;exact⟨g0,g1,F,st F sF,fD,ht⟩);.cases h
universe E
theorem Do{as:N!}{bs:BU!}{cs:N!}{ds:BU!}(p:px!)(q:O9! cs ds):Paired R (as++cs) (bs++ds):=nq p q
theorem D0{α β γ:Type}{f:β->γ}{R:Uf α γ}{l:N!}{m:BU!}(p:A6! (λa b=>R a (f b)) l m):Fw! R l m.map f:=Jk8 (g:=f) (f0!) p
theorem Ug(h:BX!):Db Kc! t H1!:=by unfold Ai;cases e:mr! with | none =>obtain⟨q,hq,e2⟩:=B0!;have:=qf!;simp[e2] at this | some q =>have:=D_ e;have:h?:=BW this;rw[<-this];rfl
def nums(c:Int)(k:Nat):A?:=SK! k pG!
theorem Y7(c:Int):[c+1]=nums c 1:=by unfold nums;simp
theorem Jon(c:Int):[c+1,c+1+1]=nums c 2:=by unfold nums;simp[DZ]
structure Nv(W W':EF)(gn L:j!):Prop where
 ls:W'.ls=gn++L
 nu:ht!=nums W.c L.length
 c:W'.c=W.c+J? L.length
 sh:W'.share=W.share
structure Nw(W W':EF)(gn L:j!):Prop extends Nv W W' gn L where
 fi:Uc!
theorem Nv.zero{W W':EF}{gn:j!}(h:W'.ls=gn)(c:W'.c=W.c)(e:W'.share=W.share):Nv W W' gn []:=⟨I? h AH,rfl,Cl! c,e⟩
theorem Nv.one{W W':EF}{gn:j!}{t:Addr}(h:W'.ls=gn++NJ!)(c:W'.c=XV)(e:W'.share=W.share):Nv W W' gn NJ!:=⟨h,Y7 _,c,e⟩
def Fp(p:Addr)(W:EF)(ys:w!)(W':EF)(DN:w!)(H:Hp):Prop:=∀b,(b∈KG!\/b∈DN.flatMap C7)->b∈ER!\/b∈TH!\/x?
theorem xu{p:Addr}{W:EF}{ys:w!}{H:Hp}{i:Nat}{q:Addr}{G G':BM}{c:Int}{Ls:j!}(hi:RW!)(nw:OH!):Fp p W ys (fs! OZ!) ys H:=j? (by rcases hb with h|h;(.rcases Xn hi nw b h with h|h;(.exact H?);.exact cr h);.exact IG!)
theorem Xb{p:Addr}{W W':EF}{ys i1 i2:w!}{y y':Qy}{H:Hp}(ey:cG!)(qf:C7 y'=C7 y)(ew:KG!=ER!):Fp p W ys W' (Hv!) H:=j? (by rcases hb with h|h;(.exact SU! ew h);.refine AN! ?_;rw[ey,BZ,CG,<-qf];rw[BZ,CG] at h;exact h)
def KT(p:Addr)(K:W.Frag)(W:EF)(m n d A' B':Nat)(ys:w!)(H:Hp)(Q:VK)(R:V->EF->M!->U3! w!):Prop:=∀(v:V)(W':EF)(D':y?)(al':M!)(DN:w!)(H':Hp),R v W' al' DN H'->bd!->fc! Bp! Jh! A'->TY!->LH!->NO!
universe S
variable {p:Addr}{H H1:Hp}{W W':EF}{D:T2->Prop}{m n:Nat}{al:List LL}{ys:List Qy}{Q:VK}{E:XK}{h:Int}{q:Addr}{G G':BM}
theorem Jkb{a:Addr}(ha:M1!):xB! (BL (HY Vg!)):=j? (by rw[Jhn] at hb;rcases ZI hb with hb|hb;(.exact PJ!);.rw[ZK hb];exact L! ha)
theorem Ua(ta:T2)(l:D!):BL { G with AX:=Bo!,holds:=JB G.holds ta l }=BL G:=by unfold BL;show G.h::G.o::G.l::G.r::Wn! (JB G.holds ta l).map=_;rw[Jfd]
theorem xX(ok:z?):iZ!:=I! ok.ke ok.on
theorem Jhh{a:Addr}(h:PN (HY Vg!) t):Ch!\/Jo!:=by
 rcases h with(h|⟨r,hr,ht⟩)|h;.have h:XY!:=h;rcases ZI h with h|h;(.exact Yt!);.exact N? (At)
 .have hr:r∈IV!:=hr;rcases Em! with hr|hr;(.exact Dm! (AB! kf!));·(have e:r=(Ak!,a,[]):=by simpa using hr);rw[e] at ht;cases ht
 .exact Nm!
theorem Jhi(hb:wp)(h:PN lJ! t):Ch!:=by
 rcases h with(h|⟨r,hr,ht⟩)|h;.exact R3!
 .rcases Hr hr with⟨_,e⟩|hr;(.rw[e] at ht;rcases DO! with h|h;(.exact B? (Gm h));.rw[h];exact iw!);.exact HS! kf!
 .exact AP!
theorem Jhj(h:PN f2! t):Ch!:=by
 rcases h with(h|⟨r,hr,ht⟩)|h;.exact R3!
 .rcases Hr hr with⟨_,e⟩|hr;(.rw[e] at ht;exact B? (Gm OG!));.exact HS! kf!
 .exact AP!
theorem Zv{l:D!}(hl:∀t∈l,Ch!)(h:PN (HY { G with hand:=l }) t):Ch!:=by
 rcases h with(h|h)|h;.exact hl t h
 .exact Nm!
 .exact AP!
theorem Jco{v:Int}(hr:hC!)(h:PN (Jg G tb v) t):Ch!:=by
 rcases h with h|h;.exact H?
 .rcases vX! t h with h|h;(.rw[h];exact L! hr);.exact AP!
theorem Jed(h:PN (Fi G R) t):Ch!:=by
 rcases h with h|h;.exact H! (Zp h).1
 .exact G5! MD! h
theorem Jj9(h:PN WZ! t):Ch!:=by
 rcases h with h|h;.exact H! (Wi h).1
 .exact G5! MD! h
theorem Z8{X:BM}{rs:Y!}(pm:rs.Perm X.AI):(Bj X rs).length+(FU X).AI.length<=X.AI.length:=by have h1:(Bj X rs).length<=F0! rs.filter (! CJ X q.1):=NK!;have h2:=(pm.filter λq=>! CJ X q.1).length_eq;have h3:=Ms (Un! (CJ X q.1)) X.AI;show _+F0! X.AI.filter (CJ X q.1)<=_;lia
theorem Pr{f:Dc!->LT}(hf:∀r,(f r).kind=BC!):∀rs:Y!,d4! rs.map f bB=rs.length
 | []=>rfl
 | r::rs=>by have ih:=Pr hf rs;(have e:bB (f r)=1:=by unfold bB;rw[hf];rfl);show bB (f r)+d4! rs.map f bB=rs.length+1;lia
theorem Uv{G:BM}{rs bs:Y!}{f:Dc!->LT}(hf:∀r,(f r).th=r.1)(pm:DT!)(sub:∀z∈bs,z∈rs):∀l∈bs.map f,PN G l.th:=λl hl=>by obtain⟨r,hr,rfl⟩:=ZN hl;rw[hf];exact G5! BD (pm.mem_iff.mp (sub r hr))
theorem WI.ID(x:k!)(i:BQ!)(W1:YZ! (LM! PV!))(wf:NM!)(nw:OH!)(tk:Wf!)(md:Il!)(mk:hg!)(ou:n3!)(wg:oK! N3! Ey!)(hs:i7! (Ch!\/L_ N3! t))(rl:G'.AI=G.AI)(cA:Gy!)(cB:Iq!)(st:LC W.qs Ey! N3! Ey!)(k:Ck!)(v:V)(hr:∀W',QA! []->W'.qs=PV!->R v W' al ys H1):Q v H1 :=oR! v (LM! PV!) al H1 (hr (LM! PV!) (Rs (Nv.zero rfl rfl rfl)) rfl) (xu (c:=W.c) (Ls:=W.ls) i.2 nw) (x.fQ (c:=W.c) (Ls:=W.ls) i.2 W1 wf nw tk md mk ou wg st Wp! Wp! (Df x.lw (HD.DY x.wa wf)) (x.ma.next i.2 md hs λl hl=>H! hl) (x.pb.next i.2 (N? (B!)) (Fk! rl)) HG! (S? (H! hz)))
theorem Jki(x:k!)(hn:AD!)(hB:Aq!)(i:BQ!)(cA:Gy!)(cB:Iq!)(k:Ck!)(hR:∀t a W' H',A5! t (G4! Ak!)->QA! []->W'.qs=L4! Sg!->R JK! W' al ys H'):Sv! Pb:=by
 obtain⟨s,nu⟩:=IT!;have z1:=s.ok.hz;have z2:=s.ok.oz;have z3:=s.ok.RI;refine⟨p,h,W,rfl,x.wa,L! ⟨q,G,i,q,G,rfl,i.at x.wa,B!,B!,B!,s.ok.fresh.1,s.ok.fresh.2.1,s.ok.fresh.2.2,λt a H1 ht ha et S1 LN=>?_⟩⟩;have cG:=Jkb (G:=G) ha;obtain⟨W1,HM⟩:=dc! Sg!;refine x.ID i W1 HM cG vF! vE! HG! H6! (x.wg.make i.2 hn a) (AV! ((Jhh ht).imp id XD!)) rfl cA cB (Xz i.2 nu a) k _ λW' c e=>hR t a W' H1 et c e;rotate_left;.exact⟨h.toNat,q,Sg!,XC! ET i.2,MU! nu,MU! s.m0,QL! e (G.AQ<Do!)⟩
 have ht:t∈(G.AF++[((Ak!,0):Dc!)]).map (An!):=ht;rw[ZF] at ht;rcases H3! with h|h;.exact H?
 ·(have e:Jo!:=At);rw[e];exact L! s.m0
theorem Jkj(x:k!)(hn:AD!)(hB:Aq!)(i:BQ!)(ea:E7!)(eb:KB)(ha:AQ!)(hb:wp)(hh:D3!)(cA:Gy!)(cB:Iq!)(k:Ck!)(hR:rZ! (QE! Jd)):Tw! Pc:=by obtain⟨s,nu⟩:=IT!;obtain⟨ad,fd⟩:=s.ok.find ha hh;have z1:=(s.ok.get ta).2.1;refine TT! p h W x.wa (xc! (cr ⟨ha,hb,hh,ad,_,fd,B!,Vk!⟩));rw[Tc (Jc7 (i.at x.wa).nd) (xX s.ok) fd] at S1;have cG:xB! (BL (Jd G ta tb)):=j? (SU! (Ua (G:=G) ta (Bu K3! tb)) hb);obtain⟨W1,HM⟩:=dc! (QE! Jd);obtain⟨g1,g2⟩:=x.wg.hold i.2 (ta:=ta) hb;exact tY! (Uz! (Jhi hb ht))
theorem Jkl(x:k!)(hn:AD!)(hB:Aq!)(i:BQ!)(ea:E7!)(eb:KB)(ha:AQ!)(hb:Jp!)(hh:D3!)(cA:Gy!)(cB:Iq!)(k:Ck!)(hR:rZ! (QE! Hy)):Tw! Pf:=by obtain⟨s,nu⟩:=IT!;obtain⟨ad,fd⟩:=s.ok.find ha hh;refine TT! p h W x.wa (xc! (sF! hh (Yi! hb)));rw[Tc (Jc7 (i.at x.wa).nd) (xX s.ok) fd] at S1;have cG:xB! (BL (Hy G ta tb)):=j? (SU! (Ua (G:=G) ta (Hz K3! tb)) hb);obtain⟨W1,HM⟩:=dc! (QE! Hy);obtain⟨g1,g2⟩:=x.wg.drop i.2 ta tb;exact tY! (AV! (B? (Jhj ht)))
theorem Jkg(x:k!)(hn:AD!)(hB:Aq!)(i:BQ!)(ea:E7!)(eb:KB)(ha:AQ!)(hb:Jp!)(hh:D3!)(cA:Gy!)(cB:Iq!)(k:Ck!)(hR:rZ! (Ot G tb)):Tw! Pa:=by obtain⟨s,nu⟩:=IT!;obtain⟨ad,fd⟩:=s.ok.find ha hh;have z1:=s.ok.hz;refine TT! p h W x.wa (ts! (sF! hh (Yi! hb)));have cG:xK! (Ot G tb):=j? PJ!;obtain⟨W1,HM⟩:=dc! (Ot G tb);obtain⟨g1,g2⟩:=x.wg.take i.2 ha hb;exact tY! (Uz! (Zv (BG! ((CZ.mp hu).elim (λz=>Dm! z) λz=>Pf! (B? (Gm hb)))) ht))
theorem Jkk(x:k!)(hn:AD!)(hB:Aq!)(i:BQ!)(eb:KB)(hb:wp)(cA:Gy!)(cB:Iq!)(k:Ck!)(hR:rZ! (Ou G tb)):Pe [Go,Cx!,CK!] H Q E:=by refine⟨p,h,_,W,rfl,x.wa,L! ⟨q,G,i,q,b,G,tb,rfl,i.at x.wa,eb,Yi! hb⟩⟩;have cG:xK! (Ou G tb):=j? PJ!;obtain⟨W1,HM⟩:=dc! (Ou G tb);obtain⟨g1,g2⟩:=x.wg.free i.2 tb;exact tY! (Uz! (Zv (BG! (Dm! (HG.mp hu).1)) ht))
theorem WI.iR(x:k!)(i:BQ!){c:Int}{L:j!}{ls:l?}(W1:YZ! (Q9! EG!))(wf:NM!)(nw:OH!)(tk:Wf!)(md:Il!)(mk:hg!)(ou:n3!)(wg:oK! N3! (Ki!++ls))(st:LC W.qs Ey! N3! (Ki!++ls))(hs:i7! Ch!)(lm:CF! (PN G l.th))(cA:Gy!)(cB:Xg! n1!+B<=G.AI.length+B')(hc:W.c<=c)(nu:ht!=nums W.c L.length)(ec:c=W.c+J? L.length)(lw:A6! (λ(y:Int×Addr) (l:LT)=>tM! H1) L ls)(k:Ck!)(v:V)(hr:∀W',QA! L->W'.qs=PV!->R v W' (al++Kn!) ys H1):Q v H1:=by
 have e:JF (al++Kn!)=Ki!++ls:=I? C8 xp
 refine oR! v (Q9! EG!) (al++Kn!) H1 (hr (Q9! EG!) (Rs (Z7! nu ec)) rfl) (xu i.2 nw) (x.fQ (al':=al++Kn!) i.2 W1 wf nw tk md mk ou (WC! wg) (WC! st) (λn u=>Qu! Bt (Nq ls n u).1) (λn u=>Qu! Bm (Nq ls n u).2) (Do (Df x.lw (HD.DY x.wa wf)) (D0 (f:=LL.w) (R:=KI H1 W.FA) lw)) ?_ ?_ hc Dr!);.rw[e];refine x.ma.next i.2 md (jM! hs) Q0!;rcases ZI hl with h|h;(.exact H?);.exact N? (x.ma.has _ q G i.2 _ (lm l h))
 .refine x.pb.next i.2 (AB! ?_) ?_;(.rw[Dp];lia);.rw[Dp,x9];lia
 .rcases A8! with h|h;(.exact H?);.obtain⟨l,_,rfl⟩:=B0!;exact NF! l
def RB(sh h g:Int)(tb:T2)(G G':BM)(l:LT):Prop:=(Mg!/\G'=Sq G tb (I1! G.AF+sh)/\l=⟨AT,h,g,tb,sh⟩)\/(Ej!/\B5!=1/\G'=Jg G tb 0/\l=⟨Ah!,h,tb.1,tb,g⟩)\/(Ej!/\2<=B5!/\G'=Jg G tb (B5!-B5! / 2)/\l=⟨AT,h,g,tb,B5! / 2⟩)
theorem Jkh(x:k!)(hn:AD!)(hB:Aq!)(i:BQ!){g:Int}(g0:Ek!)(g1:g<m){b:Addr}{tb:T2}(eb:KB)(hb:wp)(cA:Gy!)(cB:B+5<=B')(k:Ck!)(hR:∀W' G' l t H',RB W.share h g tb G G' l->QA! NJ!->W'.qs=PV!->R (T! (XV)) W' (al++[.w l]) ys H')(kE:Ej!->B5!=0->HL! NW):Lo (Zg! Go) H Q E:=by
 obtain⟨s,nu⟩:=IT!;have z1:=s.ok.oz;have z2:=s.ok.rz;have z3:=Kf!;have hN:Bn! h.toNat=h:=BH i.1;have ig:∃q2 G2,LD W g q2 G2:=by obtain⟨y,hy⟩:=n6!;exact⟨y.1,y.2,g0,hy⟩
 refine⟨p,b,h,g,W,tb,q,G,rfl,x.wa,eb,i,ig,B!,B!,B!,?_⟩;by_cases near:Mg!;.have ho:=s.ok.hk tb hb near;refine AN! ⟨hb,near,_,Ug ho,BI.mpr Dr!,λt H1 W1 l1 HM=>?_⟩;(.have:=s.ok.rk z.1 (AG.mpr (CT! z hz));have:¬z.1=tb:=λe=>this (MU! near);simpa using this);obtain⟨wg,st⟩:=x.wg.VL i.2 hb near g0 g1;rw[hN] at wg st;exact tv! (Sq G tb (I1! G.AF+W.share)) ZO! (AV! (B? (by rcases Nf! with h|h;(.rw[h];exact ho);.exact h))) (λt h=>h) (λl hl=>I! (ZK hl) iw!) (Iz! (Ip! 2+B<=_)) (Y7 _) rfl (Gd! l1) (hR _ _ _ _ _ (c? (Eb! near rfl)) c e)
 .have hr:=s.rk tb M0! near;have nn:=J7 s.nn tb;refine cr ⟨hb,near,_,Ug hr,?_⟩;by_cases w0:B5!=0;(.exact CL! w0 (kE near w0));.by_cases w1:B5!=1;(.refine AN! (A! w1 (λt H1 W1 l1 HM=>?_));obtain⟨wg,st⟩:=x.wg.VJ i.2 hb near g0 g1 w1;rw[hN] at wg st;exact tv! (Jg G tb 0) ZO! w8! (λt=>Jco hr) (λl hl=>I! (ZK hl) iw!) (QL! (Mu hr) (Ip! 5+B<=_)) (Y7 _) rfl (Gd! l1) (hR _ _ _ _ _ (IQ! (tn! near w1)) c e));·(have w2:2<=B5!:=B!);refine ix! w2 (λt H1 W1 l1 HM=>?_);obtain⟨wg,st⟩:=x.wg.ZX i.2 hb near g0 g1 w2;rw[hN] at wg st;exact tv! (Jg G tb (B5!-B5! / 2)) ZO! w8! (λt=>Jco hr) (λl hl=>I! (ZK hl) iw!) (QL! (Mu hr) (Ip! 2+B<=_)) (Y7 _) rfl (Gd! l1) (hR _ _ _ _ _ (N? (N? (tn! near w2))) c e)
theorem Oo{p:T2->Bool}:∀{l:HL},p t=true->C3! (l.filter λq=>p q.1)=C3! l
 | [],_=>rfl
 | a::l,hp=>by have ih:=Oo (l:=l) hp;unfold CD at *;by_cases h:p a.1=true;(.rw[List.filter_cons_of_pos (At)];simp only[BX];by_cases e:a.1=t;(.simp[e]);.simp only[e,decide_false];exact ih);.rw[List.filter_cons_of_neg (At)];have e:¬a.1=t:=λz=>h (Pf! hp);simp only[BX,e,decide_false];exact ih
theorem Jhw(x:k!)(hn:AD!)(hB:Aq!)(i:BQ!)(cA:Gy!)(cB:Iq!)(k:Ck!)(hR:∀y W' kk R' (rs:Y!) H' L,ME (OW G.holds) kk (startT G) [] R'->DT!->FB!->QA! L->W'.qs=L4! (Fi G R')->pg!->k4! (al++rj! (keepR G R') h)):Sv! Jm:=by
 obtain⟨s,nu⟩:=IT!;have z3:=Kf!;have hN:Bn! h.toNat=h:=BH i.1;obtain⟨hs,os,rs,LF⟩:=hi! x.wg.wl.good i.2;obtain⟨kk,R,hk,rc⟩:=FX.ME.ofN s.ok (B!);have zb:(Bj AK! rs).length<=60:=by have h1:(Bj AK! rs).length<=F0! rs.filter aR!:=NK!;have h2:=AW (Un! aR!) rs;have h3:=LF.pr.length_eq;have h4:=s.ok.rz;lia
 refine⟨p,h,W,q,G,n,kk,rs,R,rfl,x.wa,i,s.ok,B!,V? (s.ip t (B? ht)).1,λz hz t ht=>(s.ip t (N? (Id! ht))).1,LF.pr,LF.wr,rc,hk,FX.Ok.clean s.ok rc,zb,B!,λy L H1 W1 bk HM jc jb ey=>?_⟩;obtain⟨wg,st⟩:=x.wg.clean i.2 rc LF.pr;rw[hN] at wg st;exact tv! (Fi G R) (Bu! (hr! Lc)) mo! (λt=>Jed) (Uv (FG!) LF.pr (S? (HE! (HE! hz)))) (by rw[Pr (FG!)];have:=Z8 (X:=bJ!) LF.pr;show _+(FU AK!).AI.length+B<=_;have e:(keepR G R).AI.length=G.AI.length:=rfl;lia) (Yy! iL! bk.BJ) (ww iL!) (D0 bk.MV) (hR _ _ kk R rs _ _ rc LF.pr LF.wr c e ey)
universe E
theorem X6{l1:j!}{al:M!}(h:O9! (l1++y::l2) al):∃(a:M!)(z:LL)(b:M!),Zh!/\O9! l1 a/\R y z/\O9! l2 b:=by induction l1 generalizing al with | nil=>(cases h with|cons r pr=>exact⟨[],_,_,rfl,S!,r,pr⟩) | cons x l1 ih=>cases h with | cons r pr =>obtain⟨a,z,b,e,p1,p2,p3⟩:=ih pr;subst e;exact⟨_::a,z,b,rfl,C? r p1,p2,p3⟩
universe S
theorem mN{l:a!}{j:Nat}{q:Addr}{G G':BM}(hi:FM (l[j]?))(e:QN!):D4 (l.set j Fb!)=D4 l:=QL! (Nt hi) (D4 l-G.AQ+G'.AQ=_)
theorem Ok.sz(ok:z?)(hn:AD!):Sz G:=by grind [Ok,Sz]
theorem WI.got(x:k!)(i:BQ!)(es:Zh!)(p1:T1!)(p3:T2!)(W1:YZ! (Q9! Ft!))(wf:NM!)(nw:OH!)(tk:Wf!)(md:Il!)(mk:hg!)(ou:n3!)(wg:oK! N3! (l4!++ls))(st:LC W.qs Ey! N3! (l4!++ls))(hc:W.c<=c)(nu:ht!=nums W.c L.length)(ec:c=W.c+J? L.length)(lw:A6! (λ(y:Int×Addr) (l:LT)=>tM! H1) L ls)(mu:∀n u,kR n u z=none/\nZ n u z=none)(hs:i7! (Ch!\/L_ W.qs t))(lm:CF! (L_ W.qs l.th))(z0:f_ 0 z<=1)(cw:Xg! n1!+1<=Ip! (f_ 1 z))(cA:Tq!)(cB:OV!)(k:Ck!)(v:V)(hr:∀W',m7!->W'.qs=PV!->R v W' (T?++Kn!) ys H1):Q v H1:=by
 have e:JF (T?++Kn!)=l4!++ls:=I? C8 xp
 have kt:=FW! x.wa wf;refine oR! v (Q9! Ft!) (T?++Kn!) H1 (hr (Q9! Ft!) (Rs (Z7! nu ec)) rfl) (xu i.2 nw) (x.fQ (al':=T?++Kn!) i.2 W1 wf nw tk md mk ou (WC! wg) (WC! st) (λn u=>?_) (λn u=>?_) (Do (Do (Df p1 kt) (Df p3 kt)) (D0 (f:=LL.w) (R:=KI H1 W.FA) lw)) ?_ ?_ hc Dr!);.rw[Bt,(Nq ls n u).1,AH,es,Bt,Bt,Fj,(mu n u).1];rfl
 .rw[Bm,(Nq ls n u).2,AH,es,Bm,Bm,Dh,(mu n u).2];rfl
 .rw[e];refine x.ma.next i.2 md (AV! ((hs t ht).imp id λh=>h.set i.2 md)) Q0!;rcases ZI hl with h|h;(.refine H! ?_;rw[es,C8];rw[C8] at h;rcases ZI h with h|h;(.exact EY!);.refine ZC _ ?_;show l∈(z::b).filterMap rS;rw[HC];cases rS z with | none=>exact h | some _=>exact ZD _ h);.exact L! (lm l h)
 .have e0:=Hq 0 a b z;have e1:=Hq 1 a b z;rw[<-es] at e0 e1;refine x.pb.next i.2 ?_ ?_;(.rw[Dp,x9];lia);.rw[Dp,x9];lia
 .rcases A8! with h|h;(.refine H! ?_;rw[es];rcases ZI h with h|h;(.exact EY!);.exact IS!);.obtain⟨l,_,rfl⟩:=B0!;exact NF! l
theorem Ux(es:E8! (LL.w l)):Ki!=JF a++l::JF b:=Db! es C8
theorem Jq2(ok:KP g0 l)(e:l.kind=kind)(np:kind≠Ah!):Jl! Ah!/\Jl! Bc!/\Jl! Gw!/\Jl! HY!:=by
 obtain⟨_,_,_,kk⟩:=ok;rw[e] at kk;rcases kk with⟨e,_⟩|⟨e,_⟩|⟨e,_⟩|⟨e,_⟩;.rw[e];exact⟨ZV,ZV,ZV,ZV⟩
 .rw[e];exact⟨ZV,ZV,ZV,ZV⟩
 .rw[e];exact⟨ZV,ZV,ZV,ZV⟩
 .exact IR e np
theorem Zu{FQ:Bool}{sh:Int}{P9:y?}(h:PN (Ey G th sh FQ) t)(k:P9 th):Ch!\/P9 t:=by
 rcases h with(h|h)|h;.have h:t∈aE G th FQ:=h;cases FQ with | true =>rcases X5! with h|h;(.exact Yt!);.rw[h];exact L! k | false=>exact Yt!
 .exact Dm! R9!
 .exact Nm!
theorem Wt.has(w9:Th! x)(h:PN G' t):Ch!\/De!:=by
 have hd:∀{M:BM},(t∈Bu M.hand tb->t∈M.hand\/De!):=λh=>X5!;rcases w9 with⟨_,⟨_,o,_,rfl⟩|⟨_,rfl⟩⟩|⟨_,rfl⟩|⟨_,rfl⟩;.rcases h with(h|h)|h;(.rcases hd h with h|h;(.exact Yt!);.exact AP!);(.exact Dm! R9!);.exact Nm!
 .rcases h with(h|h)|h;(.rcases hd h with h|h;(.exact Yt!);.exact AP!);(.exact Dm! R9!);.rcases vX! t h with h|h;(.exact AP!);.exact Nm!
 .rcases h with h|h;(.exact R3!);.rcases vX! t h with h|h;(.exact AP!);.exact Nm!
 .exact H?
theorem Wt.cost(w9:Th! x):(Xg! (([]:l?).map bB).sum+1:Nat)<=Ip! (f_ 1 (.w ⟨kind,s,g,tb,x⟩)):=by
 rcases w9 with⟨rfl,⟨_,o,_,rfl⟩|⟨_,rfl⟩⟩|⟨rfl,rfl⟩|⟨rfl,rfl⟩;.show nB! 0 2;lia
 .have:=Kh G.AI tb (Xq!);show 0+(Be G.AI tb (Xq!)).length+1<=Ip! (1*2);lia
 .have:=Kh G.AI tb (Xq!);show 0+(Be G.AI tb (Xq!)).length+1<=Ip! (1*2);lia
 .show nB! 0 1;lia
def nG(sh:Int)(l:LT)(G G':BM)(bs:l?):Prop:=(l.kind≠Ah!/\Wt l.kind G l.th l.x G'/\bs=[])\/(Fs!/\((l.x=l.th.1/\G'=Ey G l.th sh true/\bs=[VZ!])\/(l.x≠l.th.1/\G'=Ey G l.th sh false/\bs=[K0!,VZ!])))
theorem Ui(x:k!)(hn:AD!)(hB:Aq!)(el:OE!)(es:E8! (LL.w l))(p1:T1!)(p2:qU! (.w l))(p3:T2!)(cA:Tq!)(cB:OV!)(k:Ck!)(hR:∀y L (bs:l?) W' q G G' H',FM (W.qs[l.g.toNat]?)->oW! W.share->m7!->hh! l.g.toNat->pg!->k4! (T?++bs.map .w)):bq!:=by
 have z3:=Kf!;have ew:=Ux es;have hl:l∈Ki!:=Lc! ew
 have mK:=x.wg.wl.ok _ hl;obtain⟨kind,sn,g,th,xx⟩:=l;obtain⟨g0,g1,ib,kk⟩:=mK;have g0:Ek!:=g0;have g1:g<m:=g1;obtain⟨⟨q,G⟩,hi⟩:=n6!;have i:SB!:=A! g0 hi;obtain⟨s,nu⟩:=IT!;have bX:pd!:=sf!
 have p2:KO H t BJ kind sn g th xx:=p2;obtain⟨a0,b0,et,_⟩:=id p2;refine tp! sn kind;have QL:=kl!;have mu:∀n u,kR n u (.w ⟨kind,sn,g,th,xx⟩)=none/\nZ n u (.w ⟨kind,sn,g,th,xx⟩)=none:=λ_ _=>C9!;by_cases hp:kind=Ah!;.refine X2! hp;subst hp;(have gt:g=th.1:=by rcases kk with⟨e,_⟩|⟨e,_⟩|⟨e,_⟩|⟨_,e,_⟩;(.exact IR e.symm Dg);(.exact IR e.symm E9);(.exact IR e.symm Fa);.exact e);subst gt;obtain⟨mem,zx,zy⟩:=x.wg.pass ew rfl hi;have mem:th∈Iy!:=mem;rw[<-C8] at zx zy;refine⟨p,t,_,BJ,sn,th.1,xx,th,q,G,rfl,W1,nQ!,i,Ok.sz s.ok hn,mem,bX,?_⟩;by_cases same:xx=th.1;(.subst same;refine RJ! (λy t1 H2 W2 m1 QJ jc jb ey=>?_);obtain⟨wg,st⟩:=zx rfl;exact x.got i (ls:=[⟨wv,th.1,sn,th,W.share⟩]) es p1 p3 W2 (e4! m1!) ZO! vF! HG! vE! (ri! mem) wg st (Iz! (W.c<=XV)) (Y7 _) rfl (Gd! m1) mu (AV! (Zu ht (x.ma.lt _ hl))) (λl h=>Gq! D7! (HF! (L_ W.qs th) (x.ma.lt _ hl))) (Nat.le_of_ble_eq_true rfl) (Iz! (nB! 2 5)) cA cB k _ λ_ c e=>hR _ _ _ _ q G _ _ hi (AB! (s? (H! (HC! rfl rfl)))) c e ey);.refine No same (λy t1 t2 H2 W2 m1 m2 QJ jc jb ey=>?_);obtain⟨wg,st⟩:=zy same;rw[AN (JF Ad!)] at wg st;(have W2:F1! { W with qs:=qN! th.1.toNat th false,c:=Fz!,ls:=G2!++(vG!++[(Fz!,t2)]) }:=MX! W2);have lw:A6! (λ(y:Int×Addr)(l:LT)=>tM! H2) [(XV,t1),(Fz!,t2)] [⟨AT,th.1,xx,th,W.share⟩,⟨wv,th.1,sn,th,W.share⟩]:=Tt! C? m1 m2;exact x.got i (ls:=[lO! AT th.1 xx th]++[lO! wv th.1 sn th]) es p1 p3 W2 (e4! m1!) ZO! vF! HG! vE! (ri! mem) wg st (Iz! (W.c<=Fz!)) (Jon _) (Iz! (Fz!=eo! 2)) lw mu (AV! (Zu ht (x.ma.lt _ hl))) (λl h=>by have e:l.th=th:=by{ rcases ZM h with h|h;{ rw[h] };{ rw[D7!] } };rw[e];exact x.ma.lt _ hl) (Nat.le_of_ble_eq_true rfl) (Iz! (nB! 4 5)) cA cB k _ λ_ c e=>hR _ _ _ _ q G _ _ hi (AB! (s? (L! (Eb! same rfl)))) c e ey
 .obtain⟨G',wt,wg,st⟩:=x.wg.wt ew hp hi;rw[<-C8] at wg st;have wt:Wt kind G th xx G':=wt;refine cr (N? (N? ⟨Jq2 (x.wg.wl.ok _ hl) rfl hp,p,t,_,BJ,sn,g,kind,th,xx,q,G,G',rfl,W1,nQ!,i,wt,Ok.sz s.ok hn,λH2 W2 QJ r hr=>?_⟩));have s3:=JJ! hr;obtain⟨_,_,h3,_,h5,_,h6,_⟩:=wt.kY;(have W2:F1! { W with qs:=fH! g.toNat,c:=W.c,ls:=G2!++[] }:=Jk! W2);exact x.got i (ls:=[]) es p1 p3 (W2.same s3) (e4! (CY! (QJ b o (HM b o e hb) hb))) (Bu! (SU! wt.BL hb)) E! E! E! (jM! h6) (RY! wg) (RY! st) HG! rfl be S! mu (AV! ((wt.has ht).imp id λe=>MU! (x.ma.lt _ hl))) nT! (Iz! (0*_<=1)) wt.cost cA cB k _ λ_ c e=>hR r [] [] _ q G G' _ hi (c? (CT! hp wt)) c e Ab
theorem Jhv(x:k!)(hn:AD!)(hB:Aq!)(el:OE!)(es:E8! (Tg! g))(p1:T1!)(p2:qU! (.lt s g ts))(p3:T2!)(cA:Tq!)(cB:OV!)(k:Ck!)(hR:∀y L W' H' q G hs os rs,FM fx!->Ij!->m7!->W'.qs=aa! (Kt G ts)->pg!->k4! (T?++rj! bn g)):bq!:=by
 have z3:=Kf!;have ew:JF al=JF Ad!:=LI! es C8 C8
 obtain⟨g0,g1,F,sF,fD,ht⟩:=x.lt s g ts (q! es t9!);obtain⟨⟨q,G⟩,hi⟩:=n6!;have i:SB!:=A! g0 hi;obtain⟨sd,nu⟩:=IT!;have hN:Bn! g.toNat=g:=Ga!;have bX:pd!:=sf!
 have p2:oZ! BJ:=p2;obtain⟨a0,as0,et,_⟩:=id p2;refine tp! s HY!;have QL:=kl!;refine cr (IQ! GM!);obtain⟨hs,os,rs,LF⟩:=hi! x.wg.wl.good i.2;obtain⟨wg,st,r6⟩:=x.wg.yx i.2 sF fD (q! hN ht) LF.pr;rw[hN,ew] at wg st;have zb:(Bj bn rs).length<=60:=by have h1:(Bj bn rs).length<=F0! rs.filter aQ!:=NK!;have h2:=AW (Un! aQ!) rs;have h3:=LF.pr.length_eq;have h4:=sd.ok.rz;lia
 refine⟨p,t,_,BJ,s,g,ts,q,G,n,rs,rfl,W1,nQ!,i,sd.ok,B!,V? (sd.ip t (B? ht)).1,λz hz t ht=>(sd.ip t (N? (Id! ht))).1,LF.pr,LF.wr,r6,zb,bX,λy L H2 W2 bk QJ jc jb ey=>?_⟩;exact x.got (G':=Kt G ts) i es p1 p3 W2 (e4! m1!) (Bu! (hr! Rt)) vF! HG! vE! mo! wg (q! ew st) (Iz! (W.c<=W.c+_)) (Yy! iL! bk.BJ) (ww iL!) (D0 bk.MV) (λ_ _=>C9!) (AV! (B? (Jj9 ht))) (λl h=>x.ma.has _ q G i.2 _ (Uv (FG!) LF.pr (S? (HE! (HE! hz))) l h)) (ZG 1) (by rw[Pr (FG!)];have:=Z8 (X:=An G ts) LF.pr;show _+(FU bn).AI.length+1<=1+_;have e:(An G ts).AI.length=G.AI.length:=rfl;lia) cA cB k _ λ_ c e=>hR _ _ _ _ _ _ hs os rs i.2 LF c e ey
universe E
theorem yJ:∀{l:List (T2×α)},Yd!->∀{a b:T2×α},a∈l->b∈l->b5!->a=b
 | [],_,a,b,ha,_,_=>Bg! ha
 | c::l,nd,a,b,ha,hb,e=>by rw[AJ] at nd;obtain⟨n1,n2⟩:=BA!;rcases ZM ha with ha|ha;(.rcases Eo! with hb|hb;(.rw[ha,hb]);.exact mu! ⟨b,hb,XV! ha⟩);.rcases Eo! with hb|hb;(.exact mu! ⟨a,ha,XA! hb⟩);.exact yJ n2 ha hb e
universe S
variable {G:BM}{hs:List T2}{os:List (T2×Int×List T2)}{rs:List (T2×Int)}{n:Nat}
theorem Told.rA(t:Ij!)(ok:z?):M9 G Hi!:=by
 have kn:iZ!:=xX ok;refine⟨BG! (t.pm.mem_iff.mpr hu),Fq!,Bj! H7!,λr hr q hq e u hu=>?_,XX!,BG! (t.pm.mem_iff.mp hu),λr hr u hu=>?_⟩;.obtain⟨r,hr,e⟩:=ZN (t.PM.pm.mem_iff.mpr hu);exact L5! e
 .exact Fi! t.PM.pm.mem_iff.mp (L5! rfl)
 .unfold Ai;rw[(t.PM.at_ r hr).1];rfl
 .obtain⟨_,a,hl,f,_,pm,_⟩:=t.PM.at_ r hr;refine pm.mem_iff.mpr ?_;have f2:=D_ f;have m2:=AY f;(have:q=(r.1,a,hl):=by have h1:q.1=(r.1,a,hl).1:=e;exact yJ kn hq m2 h1);rw[this] at hu;exact hu
 .have nd:Ye!:=gD! t.pr.map ok.rn;show Je u rs=_;rw[Xx nd,Ro t.pr ok.rn]
 .obtain⟨_,a,hl,f,_,pm,_⟩:=t.PM.at_ r hr;unfold CD;rw[f];exact pm.mem_iff.mp hu
theorem Told.rZ(t:Ij!)(ok:z?)(hn:n<=60)(ob:GC! (0<=t.2)):p6 G.BJ Hi!/\∀w9∈os,w9.1.2<G.AQ:=by
 have h1:=t.pm.length_eq;have h2:=t.pr.length_eq;have z1:=ok.hz;have z2:=ok.rz;have key:∀w9∈os,XN! w9.1:=λw9 hw=>Fi! t.PM.pm.mem_iff.mp (CT! w9 hw);refine A! ⟨?_,xL (hs.length<=60),xL (rs.length<=60),λw9 hw=>PP (ok.new w9.1 (key w9 hw)).1 (ob _ (key w9 hw))⟩ (λw9 hw=>(ok.new w9.1 (key w9 hw)).2);.exact t.PM.pm.nodup_iff.mpr ok.on
 .obtain⟨_,a,hl,f,_,pm,_⟩:=t.PM.at_ w9 hw;have:=(ok.ln _ (AY f)).2;have:=pm.length_eq;(have e:hl.length<=n:=gQ!);lia
theorem Told.tells(t:Ij!)(ok:z?)(hn:n<=60):Tells G hs os rs:=by have z1:=ok.hz;have z2:=ok.rz;have z3:=ok.oz;exact⟨B!,B!,B!,t.pm,t.pw,t.PM,t.pr,t.wr⟩
universe E
theorem Jcq(kn:∀z∈al,Kn ns z)(h:n∉ns)(u:Int):Ns! u/\Nt! u:=by
 refine A! (EY.mpr Dr!) (EY.mpr Dr!);.have k:=Ag! kn;cases z with | ask s g n' u'=>exact AB λz=>h (G? z.1 k.1) | w l=>rfl | JU s g n' u' tk S=>rfl | lt s g ts=>rfl
 .have k:=Ag! kn;cases z with | JU s g n' u' tk S=>exact AB λz=>h (G? z.1 k.1) | w l=>rfl | ask s g n' u'=>rfl | lt s g ts=>rfl
universe S
theorem RG.zY(x:Ku!)(hu:u=1\/u=2)(h:g∈ac!):Ek!/\g<m:=by
 rcases hu with rfl|rfl;.exact QW.mp (x.t1.mem_iff.mp (ZB _ (ZB _ h)))
 .rcases x.t2 with⟨_,e,_⟩|⟨_,pm⟩;(.rw[e] at h;cases h);.exact QW.mp (pm.mem_iff.mp (ZB _ (ZB _ h)))
universe E
theorem Wg.up(x:AG!):Ur! Wg D Bp!:=⟨x.wl.up,x.sD,x.rc⟩
universe S
theorem PB.same{qs:a!}{ys DN:w!}(x:PB m A B qs al ys)(h0:A'=0\/E5 0 al+Ho m ys+A'<=E5 0 al'+Ho m DN+A)(h1:E5 1 al'+Ho m DN+B<=E5 1 al+Ho m ys+B'):PB m A' B' qs al' DN:=by obtain⟨x1,x2⟩:=x;unfold PB oN at *;refine Lu! B!;rcases h0 with h0|h0<;>lia
theorem Tg(w9 m:Nat)(g n u:Int):E5 w9 (C5 m g n u)=m*jl! 5 3:=by
 unfold E5 C5;rw[AK];have h:∀l:DG!,Xr! (λ_=>W2! 5 3)=l.length*jl! 5 3:=λl=>by induction l with | nil=>rw[B_,Nat.zero_mul];rfl | cons _ l ih=>rw[AJ,DR,ih,BR,Nat.succ_mul,Nat.add_comm]
 exact(h (List.range m)).trans (ww CF)
theorem L9(m:Nat)(a b:w!):Ho m (T?)=Ho m a+Ho m b:=by unfold Ho;rw[ZF,MJ]
theorem Z1(x:k!)(hn:AD!)(hB:Aq!)(hd:d<900)(el:OE!)(es:E8! (LL.ask s g n' u))(p1:T1!)(p2:qU! s6!)(p3:T2!)(cA:Tq!)(cB:OV!)(k:Ck!)(hR:∀y L W' H' q G hs os rs,FM fx!->Ij!->m7!->Op!->pg!->k4! (T?++[qV!])):bq!:=by
 have z3:=Kf!;have z4:=x.ez;have hz:LL.ask s g n' u∈al:=IM!
 obtain⟨k1,ku⟩:=x.kn _ hz;obtain⟨y0,sW,pP⟩:=ZN k1;have mg:g∈Cc al n' u:=JK.mpr (WF hz Mz!);obtain⟨g0,g1⟩:=P0! (x.iv y0 sW).zY ku pP mg;obtain⟨⟨q,G⟩,hi⟩:=n6!;have i:SB!:=A! g0 hi;obtain⟨sd,nu⟩:=IT!;have hN:Bn! g.toNat=g:=Ga!;have bX:pd!:=sf!
 have p2:UD! BJ Bc! n':=p2;obtain⟨a0,et,_⟩:=id p2;refine tp! s Bc!;have QL:=kl!;refine AN! GM!;obtain⟨hs,os,rs,LF⟩:=hi! x.wg.wl.good i.2;refine⟨p,t,_,BJ,s,g,n',u,q,G,hs,os,rs,rfl,W1,nQ!,i,LF.tells sd.ok (B!),bX,xL (Wg! 900),λe he=>by have:=x.ec e he;show e.1≠XV;lia,λy t1 e xs H2 W2 xK he st QJ eyl _ _=>?_⟩;have wf:I3! H2:=FJ! m1!;have kt:=FW! x.wa wf;have ew:JF (ID! qV!)=JF al:=by rw[es,C8,C8,C8];show _++_++[]=_;rw[AH];rfl
 have mo:∀{L:j!} {c:M!},w3! L c->CH! (KI H2 (PH!)) L c:=λpp=>Ar (λ_ _ r=>(r.keep kt).more λe he=>Os he) pp;have fN:∀z∈ID! (LL.JU g s n' u G.AX Hi!),Ua!\/z=LL.JU g s n' u G.AX Hi!:=S? (by rcases A8! with h|h;(.refine H! ?_;rw[es];rcases ZI h with h|h;(.exact EY!);.exact IS!);.exact G5! ZK h)
 obtain⟨rZ,nw⟩:=LF.rZ sd.ok E! (x.ob _ _ _ hi);rw[nu,hN] at rZ;have a1:=x.md;have a3:=x.fz;have a4:=x.iz;refine oR! (V! y) (cI! (G2!++vG!)) (T?++[qV!]) H2 (hR y vG! (cI! (G2!++vG!)) _ q G hs os rs hi LF (Rs (Nv.one rfl rfl rfl)) rfl eyl) (Bu! (qH! IG!)) ⟨W2,Qg! x.wg.up,xL (S9!<=_),x.ob,x.m1,x.m5,?_,?_,?_,?_,g4! (d+1),Qg! x.ma,?_,B!,x.iq,x.jz,x.nd,x.off,Cn! (x.cT wf hy),Jn!,Dr!,x.ff,Ub! ?_⟩;.exact Tt! Do (Do (mo p1) (mo p3)) ⟨xK,e,xs,Yg!,he,st⟩
 .show KA! PH!;rw[ZF];refine kv! x.en D? ?_;obtain⟨w9,hw,ew⟩:=ZN hu;have:=x.ec w9 hw;have hv:v=XV:=ZK hv;lia
 .intro w9 hw;have hw:w9∈PH!:=hw;show w9.1<=XV;rcases J4! with hw|hw;(.have:=x.ec w9 hw;lia);.rw[ZK hw];exact BS!
 .show(PH!).length<=d+1;rw[ZE];show W.FA.length+1<=d+1;lia
 .have e0:=Hq 0 a b s6!;have e1:=Hq 1 a b s6!;rw[<-es] at e0 e1;(have pa:∀w9,f_ w9 s6!=E5 w9 [qV!]+1:=λw9=>by show jl! 5 3=jl! 4 2+0+1;split<;>rfl);rw[pa] at e0 e1;refine x.pb.same ?_ ?_;(.rw[Dp];lia);.rw[Dp];lia
 .rw[ew];exact(x.iv y hy).asked es g0 hi rfl (LF.rA sd.ok) rZ nw
 .rcases Ag! fN with h|rfl;(.exact x.kn z h);.exact A! k1 ku
 .rcases fN _ hz with h|h;(.rw[ew];exact nA!);.cases h
theorem WI.lg(x:k!):∀y∈ys,1<=y.n/\y.n<=J? ys.length:=Cn! (by have:y.n∈ys.map FH!:=Fj! y hy;rw[x.jz] at this;obtain⟨j,hj,e⟩:=ZN this;have:=BB.mp hj;lia)
theorem Jhx(x:k!)(hn:AD!)(hB:Aq!)(hd:d<900)(i:BQ!)(cA:A'<=A+5*m)(cB:B+5*m<=B')(k:Ck!)(hR:∀W' L H' io I,QA! L->L.length=m->Op!->R (T! (DB!)) W' (he! h) (ys++ss! DB!) H'):Sv! Ng:=by
 have z3:=Kf!;have a1:=x.md;have a2:=x.ez;have a3:=x.fz;have a4:=x.iz;have a5:=x.m5;have iB:Ud!:=x.wg.wl.len;have mh:W.MB.length=ys.length:=XB! x.iq
 have df:DB!∉ys.map FH!:=λz=>by obtain⟨y,hy,e⟩:=ZN z;have:=x.lg y hy;lia
 refine⟨p,h,W,q,G,rfl,x.wa,i,B!,B!,B!,λl hl e=>?_,λio I L H1 W1 kJ fB iV FG im is vN ic wf=>?_⟩;.rw[mh] at e;rw[x.iq] at hl;obtain⟨y,hy,e2⟩:=ZN hl;rw[<-e2] at e;exact Fi! df ⟨y,hy,e⟩
 rw[iB] at kJ;rw[mh] at W1 kJ;have kt:=FW! x.wa wf;have ew:JF (he! h)=JF al:=Qu! C8 Jc4
 let y1:Qy:=⟨DB!,io,I,[],[]⟩;have fN:∀z∈he! h,Ua!\/∃g,z=LL.ask h g (DB!) 1:=S? (by rcases A8! with h|h;(.exact H?);.obtain⟨j,_,e⟩:=B0!;exact L! (e? e.symm))
 have atY:VD H1 m y1:=⟨fB,hN! (I.m=_) im,vN,ic,Um! (CH! _ I.ss []) is S!⟩;have ndY:Dy! C7 y1:=by obtain⟨dx,e⟩:=fB.ob;(have n1:io≠I.sd:=W9! fB.s);(have n2:io≠I.fd:=W9! fB.f);(have n3:io≠I.cd:=W9! fB.c);show [io,I.sd,I.fd,I.cd].Nodup;simp[n1,n2,n3,fB.sf,fB.sc,fB.fc]
 refine k _ { W with MB:=W.MB++[(DB!,io)],c:=Ba!,ls:=EG! } D (al++C5 m h (DB!) 1) (ys++[y1]) H1 (q! mh (hR { W with MB:=W.MB++[(DB!,io)],c:=Ba!,ls:=EG! } L _ io I (Rs (Z7! (Yy! kJ.len kJ.BJ) (hN! (Ba!=_) kJ.len))) kJ.len rfl)) (Bu! (qH! (by rw[BZ] at h;rcases ZI h with h|h;(.exact IG!);.exact cr (FG b (FJ.mp (At)))))) ⟨W1,Qg! x.wg.up,xL (S9!<=_),x.ob,x.m1,x.m5,?_,x.en,Mb!,xL (Wg! (d+1)),g4! (d+1),Qg! x.ma,?_,?_,?_,?_,?_,Jn!,Jn!,Jn!,Dr!,Mb!,Ub! ?_⟩ (HD.wi wf) rfl;.exact Do (Df x.lw kt) (D0 (f:=λi:Nat=>LL.ask h y! (DB!) 1) (R:=KI H1 W.FA) kJ.MV)
 .have:=x.ec e he;show e.1<=Ba!;lia
 ·(have q0:Ho m [y1]=0:=by show Fq m y1+0=0;unfold Fq;have:(y1.fi.length:Nat)=0:=rfl;split<;>(try split)<;>simp_all [y1]);have q1:∀w9,E5 w9 (C5 m h (DB!) 1)=m*5:=λw9=>Tg w9 m h _ 1;refine x.pb.same (N? ?_) ?_;(.rw[Dp,L9,q0,q1];lia);.rw[Dp,L9,q0,q1];lia
 .rw[ZE];show ys.length+1<=n+1;lia
 .show W.MB++_=_;rw[x.iq,ZF];rfl
 .rw[ZF,ZE,x.jz];show _++[DB!]=(List.range (ys.length+1)).map _;rw[DZ,ZF];rfl
 .rw[BZ];refine kv! x.nd (by simpa using ndY) ?_;obtain⟨y,hy,hb⟩:=C_.mp hu;obtain⟨o,e,_⟩:=ZA!;(have hv:v∈C7 y1:=by simpa using hv);have:=FG v (FJ.mp hv);rw[<-z,e] at this;cases this
 .rcases ZI hy with hy|hy;(.exact x.off y hy);.rw[ZK hy];exact j? (iV b (FJ.mp hb))
 .rcases ZI hy with hy|hy;(.exact x.cT wf hy);.rw[ZK hy];exact atY
 .rcases ZI hy with hy|hy;(.have ne:¬DB!=y.n:=V0! df ⟨y,hy,z.symm⟩;refine(x.iv y hy).lE (XX!) (XX!) (q! ew (LC.refl _ _));(.rw[Bt,Ic,AB (λz=>ne z.1),AH]);.rw[Bm,Kr,AH]);.rw[ZK hy];exact Jru x.m1 (λu=>(Jcq x.kn df u).1) (λu=>(Jcq x.kn df u).2) h
 .rcases Ag! fN with h|⟨g,rfl⟩;(.have kz:=x.kn z h;rw[ZF];cases z with | w l=>trivial | ask s g n' u=>exact A! (Os kz.1) kz.2 | JU s g n' u tk S=>exact A! (Os kz.1) kz.2 | lt s g ts=>trivial);.exact A! (Fj! y1 Yg!) Fv!
 .obtain⟨y,hy,e1,e2⟩:=x.ff e he;exact TI! y (Os hy)
 .rcases fN _ hz with h|⟨_,h⟩;(.rw[ew];exact nA!);.cases h
universe E
theorem Jaw{as:N!}{bs:BU!}(h:∀a∈as,∀b,R a b->S a b)(p:px!):CH! S as bs:=by revert h;induction p with | nil=>exact λ_=>S! | cons r _ ih=>exact λh=>C? (h _ LS! _ r) (ih λa ha=>h a (AL! ha))
universe S
variable {p:Addr}{H H2:Hp}{W:EF}{D D':T2->Prop}{m n:Nat}{al a b new:List LL}{ys i1 i2:List Qy}{y y':Qy}
theorem Jhr(ey:cG!)(nd:Dy! ys.flatMap C7):∀z,(z∈i1\/z∈i2)->∀b∈C7 z,b∉C7 y:=λz hz b hb wB=>by rw[ey,BZ,CG] at nd;obtain⟨_,n2,n3⟩:=AL.mp nd;rcases hz with hz|hz;(.exact n3 b (C_.mpr (Id! hb)) b (ZB _ wB) rfl);.exact(AL.mp n2).2.2 b wB b (C_.mpr (Id! hb)) rfl
theorem Vw(ey:cG!)(nd:Dy! ys.map FH!):∀z,(z∈i1\/z∈i2)->z.n≠y.n:=λz hz e=>by rw[ey,ZF,AJ] at nd;obtain⟨_,n2,n3⟩:=AL.mp nd;rcases hz with hz|hz;(.exact n3 z.n (AG.mpr (CT! z hz)) y.n (AJ!) e);.exact Fi! (AV.mp n2).1 (Id! e)
theorem WI.mG(x:k!):Dy! ys.map FH!:=by rw[x.jz];unfold List.Nodup;rw[DK];exact q6!
theorem WI.answer(x:k!){BJ s g u tick:Int}{S:HS}{t e:Addr}{l1 l2 L e1 e2 gH:j!}{c':Int}(el:OE!)(es:E8! (.JU s g y.n u tick S))(p1:T1!)(p3:T2!)(ey:cG!)(ee:W.FA=e1++(BJ,e)::e2)(W2:F1! { W with c:=c',ls:=Ft!,FA:=AT!,GW:=gH })(fr:qJ!)(en:y'.n=y.n)(eo:y'.io=y.io)(qf:C7 y'=C7 y)(at2:VD H2 m y')(hc:W.c<=c')(hw:Wg D' m n W.share W.qs Ey!)(hD:∀t,D t->D' t)(lw:CH! (KI H2 (AT!)) L new)(pn:∀w9,oS! (E5 w9 new) (f_ w9 (.JU s g y.n u tick S)))(cA:Tq!)(cB:OV!)(r9:JF new=[])(nkn:∀z∈new,Kn (ys.map FH!) z)(nas:∀k u,k≠y.n->Cc new k u=[])(nan:∀k u,Bx new k u=[])(nlt:∀s g ts,Tg! g∈new->Ek!/\g<m/\∃F,QT W.qs Ey! F/\(∀t,F t->D' t)/\cH! (F t) (t.1=g))(iv':RG m W.qs Ey! (Mp!) y'.n y'.fi y'.se)(ff':∀e∈gH,e∈W.GW\/(e.1=y.n/\y'.se.length=m))(fz':gH.length<=d+1)(se:y.se.length=m->y'.se.length=m) : WI H2 p { W with c:=c',ls:=Ft!,FA:=AT!,GW:=gH } D' m Bp! Jh! A' B' (Mp!) (Hv!)/\R9 p W ys H H2:=by
 have hy:LG!:=Lc! ey
 have kt:BY H H2:=aS.DY x.wa (x.at_ y hy).at_ fr;have ew:JF (Mp!)=JF al:=by rw[es,C8,C8,r9,C8,AH];rfl
 have em:∀{α:Type} (f:Qy->α),f y'=f y->(Hv!).map f=ys.map f:=λf ef=>by rw[ey,ZF,AJ,ZF,AJ,ef]
 have emn:=em FH! en;have mH:=x.wa.po.nd;rw[el,ZF,AJ] at mH;obtain⟨_,nl2,nl3⟩:=AL.mp mH;have jA:∀z∈l1,z.1≠BJ:=S? (nl3 z.1 (AG.mpr (CT! z hz)) BJ (AJ!));have YD:∀z∈l2,z.1≠BJ:=λz hz q=>Fi! (AV.mp nl2).1 (Id! q);have mo:∀{L:j!} {c:M!},(∀z∈L,z.1≠BJ)->w3! L c->CH! (KI H2 (AT!)) L c:=λc_ pp=>Jaw (λz hz r hr=>(hr.keep kt).more λe' he'=>by rw[ee] at he';rcases ZI he' with h|h;(.exact EY!);.rcases ZM h with h|h;(.exact IR (WS! h) (c_ z hz));.exact ZC _ h) pp;have mid:∀z∈Hv!,z=y'\/(z∈ys/\(z∈i1\/z∈i2)):=S? (by rcases A8! with h|h;(.exact No (I! ey EY!) H?);.rcases ZM h with h|h;(.exact H?);.exact No (I! ey IS!) AP!)
 have qR:∀z∈Mp!,Ua!\/z∈new:=S? (by rcases A8! with h|h;(.refine H! ?_;rw[es];rcases ZI h with h|h;(.exact EY!);.exact IS!);.exact AP!)
 have kf:(AT!).Sublist W.FA:=I! ee (List.Sublist.append_left (List.sublist_cons_self _ _) _)
 have a1:=x.md;have a2:=x.ez;have a4:=x.iz;have a5:=kf.length_le;have eqf:(Hv!).flatMap C7=ys.flatMap C7:=by rw[ey,BZ,CG,BZ,CG,qf]
 refine L? ⟨W2,Qg! hw.up,xL (S9!<=_),x.ob,x.m1,x.m5,Do (Do (mo jA p1) (mo YD p3)) lw,x.en.sublist (kf.map _),λe he=>Int.le_trans (x.ec e (kf.subset he)) hc,QR! ((AT!).length<=d+1),fz',Qg! x.ma,?_,?_,?_,?_,I! eqf x.nd,Dr!,Dr!,Dr!,Dr!,Mb!,Ub! ?_⟩;.have f0:=Hq 0 a b (.JU s g y.n u tick S);have f1:=Hq 1 a b (.JU s g y.n u tick S);rw[<-es] at f0 f1;have q0:=pn 0;have q1:=pn 1;(have qy:Ho m (Hv!)+Fq m y=Ho m ys+Fq m y':=by rw[ey,L9,L9];show Ho m i1+(Fq m y'+Ho m i2)+Fq m y=Ho m i1+(Fq m y+Ho m i2)+Fq m y';lia);refine x.pb.same ?_ ?_;(.rw[Dp];lia);.rw[Dp];lia
 ·(have:DD! Hv!=ys.length:=Cl! ey);lia
 .show W.MB=_;rw[x.iq];exact(em (o0!) (Hn! en eo)).symm
 ·(have:DD! Hv!=ys.length:=Cl! ey);rw[emn,x.jz,this]
 .rcases Ag! mid with rfl|⟨h,_⟩;(.rw[qf];exact x.off y hy);.exact x.off z h
 .rcases Ag! mid with rfl|⟨h,h2⟩;(.exact at2);.refine(x.at_ z h).keep (λb o hb eb=>?_) kt;have nb:=Jhr ey x.nd z h2 b hb;exact fr b o eb (x.off z h b hb) (Tb! nb (IQ! q)) (Tb! nb (ax! q)) (Tb! nb (e1! N? q))
 .rcases Ag! mid with rfl|⟨h,h2⟩;(.rw[ew];exact iv');.have ne:=Vw ey x.mG z h2;refine(x.iv z h).lE (λv=>?_) (λv=>?_) (q! ew (LC.refl _ _));(.rw[Bt,G! nas ne,AH,es,Bt,Bt,Fj];rfl);.rw[Bm,nan,AH,es,Bm,Bm,Dh];show _=_++(e7! (y.n=z.n) (u=v) Ed!++_);rw[AB λq=>ne q.1.symm];rfl
 .rw[emn];rcases Ag! qR with h|h;(.exact x.kn z h);.exact nkn z h
 .rcases ff' e he with h|⟨h1,h2⟩;(.obtain⟨z,hz,q1,q2⟩:=x.ff e h;rw[ey] at hz;rcases A8! with hz|hz;(.exact⟨z,Os hz,q1,q2⟩);.rcases ZM hz with rfl|hz;(.exact⟨y',t9!,I! en q1,se q2⟩);.exact⟨z,u8! hz,q1,q2⟩);.exact⟨y',t9!,I! en h1.symm,h2⟩
 .rw[ew];rcases qR _ hz with h|h;(.obtain⟨g0,g1,F,sF,fD,ht⟩:=nA!;exact⟨g0,g1,F,sF,λt ft=>hD t (fD t ft),ht⟩);.exact nlt s g ts h
 .intro b o eb h1 h2;have hq:b∉C7 y:=λq=>h2 (C_.mpr ⟨y,hy,q⟩);exact fr b o eb h1 (Tb! hq (IQ! q)) (Tb! hq (ax! q)) (Tb! hq (e1! N? q))
universe E
theorem Ru{α:Type}{f:HS->N!}{c:Nat}:∀{L:D5!},(∀S∈L,IN f S<=c)->Eg! L.flatMap f (L.length*c)
 | [],_=>D?
 | S::L,h=>by have ih:=Ru (f:=f) (c:=c) (L:=L) (Q5! h);have:=DQ! S;rw[CG,ZE,BR,Nat.succ_mul];lia
theorem Jb5:∀{ks:DG!},ks.Nodup->(∀k∈ks,p6 Bz! (S k))->k? (rowsOf (ks.map S)).map
 | [],_,_=>by simp[rowsOf]
 | k::ks,nd,h=>by obtain⟨n1,n2⟩:=BA!;have ih:=Jb5 (S:=S) n2 (Q5! h);have so:=DQ! k;(have e:rowsOf ((k::ks).map S)=(S k).2.1++rowsOf (ks.map S):=by unfold rowsOf;rw[AJ,CG]);rw[e,ZF];refine kv! so.nd ih ?_;obtain⟨r,hr,e1⟩:=ZN hu;obtain⟨r2,OK,e2⟩:=ZN hv;obtain⟨S2,hS,c9⟩:=HN.mp OK;obtain⟨k2,hk2,e3⟩:=ZN hS;have c1:=(so.oz r hr).1;subst e3;have c2:=((h k2 (ZD _ hk2)).oz r2 c9).1;(have:k=k2:=by rw[e1] at c1;rw[e2] at c2;rw[z] at c1;lia);rw[this] at n1;exact n1 hk2
theorem Jkc{ks:DG!}{S:B2!}{mx:Nat->Nat}{m:Nat}(nd:ks.Nodup)(kz:ks.length<=12)(km:∀k∈ks,k<m)(so:∀k∈ks,p6 Bz! (S k))(nw:∀k∈ks,∀w9∈(S k).2.1,w9.1.2<mx k)(sm:N2! mx<=60):K64F.bp (ks.map S):=by
 have gB:=Jb5 nd so;refine⟨gB,?_,?_,Ht!,?_⟩;·(have:=Io (U:=rT m mx) gB (V? (by obtain⟨r,hr,e⟩:=ZN ht;obtain⟨S2,hS,OK⟩:=HN.mp hr;obtain⟨k,hk,e2⟩:=ZN hS;subst e2;obtain⟨c1,c2,_⟩:=(so k hk).oz r OK;have c3:=nw k hk r OK;rw[e] at c1 c2 c3;refine C_.mpr ⟨k,BB.mpr (km k hk),O4! gj! ic! ?_⟩;exact Prod.ext c1.symm (QR! (Bn! gj!=t.2)))));rw[Jbs,ZA] at this;lia
 ·(have:=Ru (f:=λS=>S.1) (c:=60) (L:=ks.map S) (S? (by obtain⟨k,hk,e2⟩:=As!;subst e2;exact(so k hk).hz)));rw[ZA] at this;have:ks.length*60<=12*60:=FD 60 kz;lia
 .obtain⟨S2,hS,OK⟩:=HN.mp hr;obtain⟨k,hk,e2⟩:=ZN hS;subst e2;exact((so k hk).oz r OK).2.2
 ·(have:=Ru (f:=λS=>S.2.2) (c:=60) (L:=ks.map S) (S? (by obtain⟨k,hk,e2⟩:=As!;subst e2;exact(so k hk).rz)));rw[ZA] at this;have:ks.length*60<=12*60:=FD 60 kz;lia
theorem Ww{α:Type}{l:N!}{k:α->Int}{f:F2!}{n:Int}:pj! Cf l.map qR!=(l.find? (Mj! (k r=n))).map f:=by
 unfold Cf;rw[OP,Option.map_map];congr 1;congr 1;funext r;show DM! (p? ((Sum.inl (k r):Key)=Sum.inl n)) (k r=n);by_cases e:k r=n;.rw[e];simp
 .rw[Hz!,BR! (Po! Sum.inl.inj)]
theorem Jcl{α:Type}{l:N!}{k:α->Int}{f:F2!}{r:α}(h:k r∉l.map k):putK (Bq! qR!) (Sum.inl (k r)) (f r)=(l++[r]).map qR!:=by
 have e:Cf (l.map qR!) (Sum.inl (k r))=none:=by rw[Ww];(have:l.find? (λz=>GJ! k z k r)=none:=BI.mpr (S? (by have:k z≠k r:=λe=>h (VU! (BD hz));simpa using this)));rw[this];rfl
 rw[Hk _ e,ZF];rfl
theorem Jho{se:RF!}{h:Int}(m:h∈Mt!):∃r∈se,r.1=h/\se.find? (Mj! (r.1=h))=some r:=by cases e:se.find? (Mj! (r.1=h)) with | none =>obtain⟨r0,bD,e0⟩:=En!;have:=BI.mp e r0 bD;simp[e0] at this | some r=>exact⟨r,AY e,Qn!,rfl⟩
theorem Jl1{ss:Bx!}{fi:E6!}(p:A6! (λ(kv:Key×V) (r:Int×Int×HS)=>s4!) ss fi){h:Int}{r:hP!}(e:fi.find? (Mj! (r.1=h))=some r):∃a,Cf ss (Sum.inl h)=some SB/\aR K H a Al!:=by induction p with | nil=>simp at e | @cons kv r0 ss fi q pp ih =>obtain⟨a,ea,st⟩:=q;subst ea;unfold Cf;rw[BX] at e ⊢;by_cases c:r0.1=h;(.rw[SZ!] at e;have e:r0=r:=ZO e;rw[show p? (PR! r0.1=Sum.inl h)=true by rw[c];simp];exact Eb! a (VU! st));.rw[SO!] at e;rw[GG! (Cm! (¬PR! r0.1=Sum.inl h) (FZ! c Sum.inl.inj))];exact ih e
theorem Jio{ss:Bx!}{fi:E6!}(p:A6! (λ(kv:Key×V) (r:Int×Int×HS)=>s4!) ss fi):G7! ss.map fi.map (λr=>PR! r.1) :=(xo (by rintro kv r ⟨a,e,_⟩;rw[e]) p).symm
theorem Jl2(pp:A6! (λ(kv:Key×V) (r:Int×Int×HS)=>s4!) ss fi)(h:s∉X3!)(v:V):putK ss (Sum.inl s) v=ss++[(Sum.inl s,v)]:=by refine Hk _ ?_;unfold Cf;rw[BI.mpr λkv hkv=>?_];rfl;have:kv.1∈b? ss.map:=BD hkv;rw[Jio pp] at this;obtain⟨r,hr,e⟩:=ZN this;have ne:¬kv.1=Sum.inl s:=λz=>h (by rw[z] at e;rw[<-Sum.inl.inj e];exact BD hr);simpa using ne
theorem Pp{m:Nat}{fi:E6!}(pm:Nx! fi.map){h:Nat}(hh:h<m):∃r∈fi,r.1=i?/\fi.find? (Kv!)=some r/\Sd!=Aa!/\Jf fi h=Al!:=by have m1:i?∈b? fi.map:=pm.mem_iff.mpr (QW.mpr ah!);obtain⟨r0,bD,e0⟩:=ZN m1;cases e:fi.find? Kv! with | none =>have:=BI.mp e r0 bD;simp[e0] at this | some r =>refine⟨r,AY e,Qn!,rfl,?_,?_⟩;(.unfold Gb;rw[e];rfl);.unfold Jf;rw[e];rfl
def Oh(m:Nat)(g:Int)(ts:D!):M!:=SK! m (λi:Nat=>.lt g y! (ts.filter iu!))
theorem Tq:Cc (Oh m g ts) n u=[]:=kT! (by obtain⟨i,_,e⟩:=As!;rw[<-e];rfl)
theorem Tr:Bx (Oh m g ts) n u=[]:=kT! (by obtain⟨i,_,e⟩:=As!;rw[<-e];rfl)
theorem Jjy:JF (Oh m g ts)=[]:=kT! (by obtain⟨i,_,e⟩:=As!;rw[<-e];rfl)
theorem Jf8{l:A?}{m:Nat}(pm:l.Perm (rg m)):(l.map f3!).Perm (List.range m):=by
 have:=pm.map f3!;have e:(rg m).map f3!=List.range m:=by unfold rg;rw[AK];(have:((λx:Int=>x.toNat) ∘ Io! Bz!)=id:=by funext k;simp);rw[this,List.map_id]
 rw[e] at this;exact this
universe S
theorem Jdo(w9 m:Nat)(g:Int)(ts:D!):E5 w9 (Oh m g ts)=m:=by
 unfold E5 Oh;rw[AK];have h:∀l:DG!,Xr! (λ_=>1)=l.length:=λl=>by induction l with | nil=>rfl | cons _ l ih=>rw[AJ,DR,ih,BR,Nat.add_comm]
 exact(h (List.range m)).trans CF
theorem Jq7{y y':Qy}(h:y'.fi.length=Mq!)(l:Mq!<m):oS! 0 4:=by unfold Fq;rw[H9!,H9!];lia
theorem Jq6{y y':Qy}(h:y'.fi.length=m)(hs:y'.se.length=0)(m1:1<=m)(e:Mq!=m):oS! (m*3) 4:=by unfold Fq;rw[GR!,H9!,H9!,hs];lia
theorem Jq5{y y':Qy}(h:y'.fi.length=m)(h2:y.fi.length=m)(hs:y'.se.length=Jt!)(l:Jt!<m):oS! 0 2:=by unfold Fq;rw[GR!,H9!,GR!,H9!];lia
theorem Jq4{y y':Qy}(h:y'.fi.length=m)(h2:y.fi.length=m)(hs:y'.se.length=m)(l:Jt!=m):m+Fq m y'+1=2+Fq m y:=by unfold Fq;rw[GR!,GR!,GR!,H9!];lia
inductive uA(m:Nat)(W W':EF)(a b al':M!)(ys DN:w!)(H':Hp)(s g n u tick:Int)(S:HS):Prop
 | mk (y y':Qy) (i1 i2:w!) (new:M!) (e1:cG!) (e2:DN=Hv!) (e3:y.n=n) (e4:y'.n=n) (e5:al'=Mp!) (e6:(u=1/\y'.se=y.se/\y'.fi=fA!/\Uc!/\((new=[]/\Mq!≠m)\/(new=TX! 2/\Mq!=m)))\/(u=2/\y'.fi=y.fi/\y'.se=Hc!/\((new=[]/\Jt!≠m/\Uc!)\/(Jt!=m/\∃(ts:D!)(xf:Addr)(as:J!),new=Oh m g ts/\W'.GW=Gf!/\A5! xf IL!/\Tf!/\∃cf:EA!,(∀h:Nat,h<m->∃r∈y'.se,nu! (r.2=cf h))/\Found (Lb m (Qw!) bI!) ts))))
theorem Uj(x:k!)(hn:AD!)(hB:Aq!)(hd:d<900){BJ:Int}{l1 l2:j!}{t:Addr}{s g n' u tick:Int}{S:HS}(el:OE!)(es:E8! (LL.JU s g n' u tick S))(p1:T1!)(p2:qU! (.JU s g n' u tick S))(p3:T2!)(cA:Tq!)(cB:OV!)(k:Ck!)(hR:∀v L W' al' DN H',Op!->Nv W W' (G2!) L->A5! v xh!->uA m W W' a b al' ys DN H' s g n' u tick S->R Xx! W' al' DN H'):bq!:=by
 have z3:=Kf!;have z5:=x.fz;have iB:Ud!:=x.wg.wl.len;have m5:=x.m5;have hz:LL.JU s g n' u tick S∈al:=IM!
 obtain⟨k1,ku⟩:=x.kn _ hz;obtain⟨y,hy,pP⟩:=ZN k1;have pP:y.n=n':=pP;subst pP;obtain⟨i1,i2,ey⟩:=HP hy;obtain⟨pA,e,xs,me,he,st⟩:=p2;obtain⟨e1,e2,ee⟩:=HP me;have pA:UD! BJ Gw! y.n:=pA;have iv:=aB!;have YF:=x.at_ y hy;have lf:y.fi.length<=m:=by have:=iv.t1.length_eq;rw[ZE,ZE,ZA,ZA,Fv] at this;lia
 have lse:y.se.length<=m:=by rcases iv.t2 with⟨_,_,_,e⟩|⟨_,pm⟩;(.rw[e];exact sw);.have:=pm.length_eq;rw[ZE,ZE,ZA,ZA,Fv] at this;lia
 have lfs:y.I.fs.length=y.fi.length:=XB! YF.fs
 have lcs:y.I.cs.length=y.se.length:=XB! YF.cs
 have lss:y.I.ss.length=y.fi.length:=R? YF.ss;have bX:pd!:=sf!
 obtain⟨a0,et,_⟩:=id pA;refine tp! s Gw!;have QL:=kl!;have fB:=x.cT HM hy;have vi:Jv! (mI! W.MB y.n) y.io:=by (have e1:W.MB=(i1.map o0!)++(y.n,y.io)::i2.map o0!:=by rw[x.iq,ey,ZF,AJ]);(have nd:k? W.MB.map:=Ai! x.iq AK x.mG);rw[e1] at nd ⊢;exact(Jcu nd).1
 refine R4! GM!;refine⟨p,t,_,BJ,s,g,y.n,u,e1,e2,e,xs,tick,y.io,y.I,rfl,W1,pA.keep QL,ee,x.en,G! QL.BE he,vi,fB.at_,j? (x.off y hy b (FJ.mpr hb)),B!,B!,B!,xL Xs!,bX,?_⟩;have tL:∀{H2:Hp},aS p W y.I H1 H2->qJ!:=λfr b o eb hb n1 n2 n3=>fr b o kQ! hb n1 n2 n3;rcases ku with rfl|rfl;· obtain⟨lt,sn,ivA,ivB⟩:=iv.first (D:=D) (N:=n) (sh:=W.share) es;(have ef:xf!=(fA!).map (qQ! Aa!):=I! YF.fs (Jcl (k:=λr:Int×Int×HS=>r.1) (f:=hJ! Aa!) (r:=Ed!) sn));(have lef:fW! y.I.fs=J? y.fi.length+1:=LI! ef ZA ZE);(have pk:∀{H2:Hp},qJ!->K64F.FZ H2 y.io { y.I with ss:=wP! y.I.ss,fs:=xf! }->VD H2 m pJ!:=λfr at2=>by have kt:=aS.DY x.wa YF.at_ fr;refine⟨at2,YF.many,ef,YF.cs,?_⟩;show CH! _ (putK y.I.ss (c? s) (V! xs)) _;rw[Jl2 YF.ss sn];exact Tt! Do (Ar (λ_ _ h9=>by obtain⟨a,e,s⟩:=h9;exact⟨a,e,s.keep kt⟩) YF.ss) (Eb! xs (st.keep kt)));refine H! (HC! (λne v H2 W2 at2 MN kD=>?_) (λeq v L H2 W2 cH at2 MN kD=>?_));(.have ne':Mq!≠m:=λz=>ne (LD! lef YF.many);have fr:=tL MN;(have kM:F1! pK!:=Jk! W2);obtain⟨wi,uc⟩:=tx! [] D pJ! HG! x.wg (λ_ h=>h) S! (Jq7 (by show DD! fA!=_;rw[ZE];rfl) E!) rfl (S? Me!) vz! Wp! (λ_ _ _ hz=>Me!) (RY! (ivA ne')) (λe he=>H! he) E! (λh=>h);refine k _ _ D _ _ H2 ?_ ?_ wi uc rfl;(.exact tU! [] pK! (Nv.zero (AH _) rfl rfl) [] (H! (AA! rfl rfl rfl (RJ! ne'))));.exact qr!);·(have QM:Mq!=m:=by rw[lef,YF.many] at eq;lia);(have se0:y.se=[]:=by rcases iv.t2 with⟨_,_,_,e⟩|⟨e,_⟩;(.exact e);.lia);have fr:=tL MN;(have cH:ON H2 W.c g y.n 2 L m:=G? iB cH);have kM:F1! { W with c:=Ba!,ls:=Ft!,FA:=AT!,GW:=W.GW }:=W2;refine(λ(A:_/\_)=>k Xx! { W with c:=Ba!,ls:=Ft!,FA:=AT!,GW:=W.GW } D (T?++C5 m g y.n 2) (i1++pJ!::i2) H2 (tU! L { W with c:=Ba!,ls:=Ft!,FA:=AT!,GW:=W.GW } (Z7! (Yy! cH.len cH.BJ) (hN! (Ba!=_) cH.len)) _ (H! (AA! rfl rfl rfl (L! (s? QM))))) (MP! qr!) A.1 A.2 rfl) (tx! (C5 m g y.n 2) D pJ! E! x.wg (λ_ h=>h) (D0 (f:=λi:Nat=>LL.ask g y! y.n 2) (R:=KI H2 (AT!)) cH.MV) (I! Tg (Jq6 (by show DD! fA!=m;rw[ZE];exact QM) (by show y.se.length=0;rw[se0];rfl) x.m1 QM)) Jc4 gI! (λk u ne=>I? Ic (AB λz=>ne z.1.symm)) (λ_ _=>Kr) (Ub! ?_) (ivB QM x.wg g) (λe he=>H! he) E! (λh=>h));(.obtain⟨j,_,ez⟩:=As!;rw[<-ez];exact A! (Fj! y hy) X9!);.obtain⟨j,_,ez⟩:=As!;cases ez
 · obtain⟨fl,lt,sn,sV⟩:=iv.second es;have pf:=(iv.whole fl).2.2;(have ec:xg!=(Hc!).map (qQ! r.2):=I! YF.cs (Jcl (k:=λr:Int×Int=>r.1) (f:=hJ! r.2) (r:=(s,tick)) sn));(have lec:fW! y.I.cs=J? y.se.length+1:=LI! ec ZA ZE);(have lF:DD! Hc!=Jt!:=KM ZE);(have pk:∀{H2:Hp},qJ!->K64F.FZ H2 y.io { y.I with cs:=xg! }->VD H2 m pL!:=λfr at2=>by have kt:=aS.DY x.wa YF.at_ fr;exact⟨at2,YF.many,YF.fs,ec,SD! (by obtain⟨a,e,s⟩:=h9;exact⟨a,e,s.keep kt⟩) YF.ss⟩);refine L! ⟨l!,λne v H2 W2 at2 MN kD=>?_,λeq=>?_⟩;(.have ne':Jt!≠m:=λz=>ne (LD! lec YF.many);have fr:=tL MN;(have kM:F1! pK!:=Jk! W2);obtain⟨wi,uc⟩:=tx! [] D pL! HG! x.wg (λ_ h=>h) S! (Jq5 fl fl lF E!) rfl (S? Me!) vz! Wp! (λ_ _ _ hz=>Me!) (RY! sV) (λe he=>H! he) E! (λh=>B!);refine k _ _ D _ _ H2 ?_ ?_ wi uc rfl;(.exact tU! [] pK! (Nv.zero (AH _) rfl rfl) [] (L! (FQ! rfl rfl (H! (HC! ne' rfl)))));.exact qr!);·(have QM:DD! Hc!=m:=by rw[lec,YF.many] at eq;lia);(have ps:Nx! (Hc!).map:=by rcases sV.t2 with⟨h,_⟩|⟨_,pm⟩;(.lia);.have l:=pm.length_eq;rw[ZE,ZE,ZA,ZA,Fv] at l;have q1:Cc (T?) y.n 2=[]:=Rt!;have q2:Bx (T?) y.n 2=[]:=Rt!;rw[q1,q2] at pm;exact pm);(have pe:∀h:Nat,∃ah:Addr,h<m->Cf y.I.ss (c? i?)=some (V! ah)/\aR K H1 ah (Jf y.fi h):=λh=>by by_cases hh:h<m;(.obtain⟨r,_,_,ef,_,es2⟩:=Pp pf hh;obtain⟨ah,va,sa⟩:=Jl1 fB.ss ef;exact A! ah (λ_=>Qe! va es2 sa));.exact A! e (λz=>IR z hh));let cf:EA!:=λh=>(((Hc!).find? Kv!).map pu).getD 0;(have pE:∀h:Nat,h<m->∃r∈Hc!,r.1=i?/\(Hc!).find? (Kv!)=some r/\r.2=cf h:=λh hh=>by obtain⟨r,hr,er,ef⟩:=Jho (se:=Hc!) (h:=i?) (ps.mem_iff.mpr (QW.mpr ah!));exact⟨r,hr,er,ef,by show r.2=((((Hc!).find? Kv!).map pu).getD 0);rw[ef];rfl⟩);(have sF:=sV.done fl (c:=cf) λh hh=>by obtain⟨r,hr,er,_,ev⟩:=pE h hh;exact⟨r,hr,er,ev⟩);(have eL:K64F.GV (K64F.LH m (Gb y.fi) cf (λh=>Classical.choose (pe h)) bI!)=Lb m (λh=>xQ!) (Jf y.fi):=by show List.map _ (List.map _ _)=_;rw[AK];rfl);(have zU:K64F.bp (K64F.GV (K64F.LH m (Gb y.fi) cf (λh=>Classical.choose (pe h)) bI!)):=by rw[eL];have cI:∀k∈(List.range m).filter (Qw!),k<m:=λk hk=>BB.mp (HE! hk);(have nn:∀q∈W.qs,Yq!:=UV (fr! (CV.mp hq) (x.wg.BJ (q:=q.1) (G:=q.2) hj).1.m0));refine Jkc (mx:=λk=>(YM W.qs k).toNat) (m:=m) (List.nodup_range.filter _) ?_ cI (XT!) (λk hk w9 hw=>?_) ?_;(.have:=AW (Qw!) (List.range m);rw[CF] at this;lia);(.obtain⟨r,hr,er,_,_,e4⟩:=Pp pf (cI k hk);have:=(iv.f1 r hr).so;rw[er,<-e4] at this;exact this);(.obtain⟨r,hr,er,_,_,e4⟩:=Pp pf (cI k hk);obtain⟨⟨q,G⟩,hi⟩:=v7! k (Co! (cI k hk));rw[e4] at hw;have h1:=(iv.f1 r hr).nw k q G hi er w9 hw;(have h2:YM W.qs k=G.AQ:=by unfold YM;rw[hi];rfl);have h3:=(x.wg.BJ hi).1.m0;show w9.1.2<Bn! (YM W.qs k).toNat;rw[h2];lia);.have h1:=Ip nn;have h2:=x.md;rw[iB] at h1;lia);refine⟨m,Gb y.fi,cf,λh=>Classical.choose (pe h),Jf y.fi,B!,⟨PP ((y.fi.map pi).map f3!) (Jf8 pf),XT!,XT!,λk hk=>((Classical.choose_spec (pe k)) hk).1⟩,λk hk=>((Classical.choose_spec (pe k)) hk).2,zU,g4! 900,λe he z=>?_,λv xf as ts L H2 fo W2 cH bG th at2 MN kD=>?_⟩;(.show b? y.I.fs.map=_;rw[YF.fs,AK,AK,AK];refine BP Ht!;have:=QW.mp (pf.mem_iff.mp (AG.mpr (L5! rfl)));show PR! r.1=Sum.inl (Bn! r.1.toNat);rw[BH this.1]);(.show Cf y.I.fs _=_;obtain⟨r,_,_,ef,e3,_⟩:=Pp pf hk;rw[YF.fs,Ww (k:=λr:Int×Int×HS=>r.1) (f:=hJ! Aa!),ef,e3];rfl);(.show Cf (putK y.I.cs (c? s) (GM tick)) _=_;obtain⟨r,_,_,ef,e3⟩:=pE k hk;rw[ec,Ww (k:=λr:Int×Int=>r.1) (f:=hJ! r.2),ef,<-e3];rfl);(.obtain⟨y0,sW,q1,q2⟩:=x.ff e he;(have:y0=y:=by rw[ey] at sW;rcases ZI sW with h|h;(.exact BP! (I? q1 z) (Vw ey x.mG y0 G9!));.rcases ZM h with h|h;(.exact h);.exact BP! (I? q1 z) (Vw ey x.mG y0 R9!));rw[this] at q2;lia);.have fr:=tL MN;rw[eL] at fo;(have cH:nQ H2 W.c g ts L m:=G? iB cH);have kM:F1! { W with c:=Ba!,ls:=Ft!,FA:=AT!,GW:=W.GW++[(y.n,xf)] }:=W2;refine(λ(A:_/\_)=>k Xx! { W with c:=Ba!,ls:=Ft!,FA:=AT!,GW:=W.GW++[(y.n,xf)] } _ (T?++Oh m g ts) (i1++pL!::i2) H2 (tU! L { W with c:=Ba!,ls:=Ft!,FA:=AT!,GW:=W.GW++[(y.n,xf)] } (Z7! (Yy! cH.len cH.BJ) (hN! (Ba!=_) cH.len)) _ (L! (FQ! rfl rfl (L! ⟨G? lF QM,ts,xf,as,rfl,rfl,bG,th,cf,λh hh=>(let⟨r,hr,er,_,ev⟩:=pE h hh;⟨r,hr,er,ev⟩),fo⟩)))) (MP! qr!) A.1 A.2 rfl) (tx! (Oh m g ts) (λt=>D t\/GS m (Qw!) bI! t) pL! E! (x.wg.more sF) (λ_ h=>H?) (D0 (f:=λi:Nat=>LL.lt g y! (ts.filter iu!)) (R:=KI H2 (AT!)) cH.MV) (I! Jdo (Jq4 fl fl QM (G? lF QM))) Jjy gI! (λ_ _ _=>Tq) (λ_ _=>Tr) (λs0 g0 ts0 hz=>?_) (sV.lE (λu=>Qu! Bt Tq) (λu=>Qu! Bm Tr) (LC.refl _ _)) (Mb!) ?_ (λh=>B!));(.obtain⟨j,_,ez⟩:=As!;rw[<-ez];trivial);(.obtain⟨j,hj,ez⟩:=As!;injection ez with q1 q2 q3;have hj:=BB.mp hj;refine⟨B!,B!,_,sF,λt h=>AP!,λt=>?_⟩;rw[<-q3,<-q2,AD,fo.mem];constructor;(.rintro⟨h1,h2⟩;exact A! h1 (BW h2));.rintro⟨h1,h2⟩;exact A! h1 (EZ! h2));(.rcases ZI he with he|he;(.exact H! he);.rw[ZK he];exact L! (s? QM));.rw[ZE];show W.GW.length+1<=d+1;lia
universe E
universe E K64
universe N FX
open PySem PySem.Spec PyProof.Rows L2
universe S
universe E
universe E FX
universe N K64
open PySem L2 FX
theorem gSt(g:GG):EG 2 SQ UD sB Lq:=Jgq g.mSt.fn g.T g.mTo.fn g.mTo.bd g.mTo.mt
theorem Jrc(g:GG):GB 3 LQ LW CJ! P0:=Jdu g.mWSt.fn g.T g.TW g.mWH g.mSt (FX.EW.bC (gSt g))
theorem gCa(g:GG):EG 2 TU U_ FT! yD:=Jjs g.mCa.fn g.T g.mNe g.mAR
theorem gAd(g:GG):EG 2 TZ VC FT! Ve:=Jgz g.mAd.fn g.T g.mAR
theorem gWe(g:GG):EG 3 MY NO AW! G9:=Jay g.mWWe.fn g.T g.TW g.mCa (gCa g) g.mAd (gAd g) g.mGi
theorem Jrd(g:GG):EG 2 M_ NQ AW! Lp:=Jgk g.mWPa.fn g.T g.TW g.TP g.mPs g.mPP
theorem gPt(g:GG):GB 3 SU UH NH! yG:=Jjk g.mPa.fn g.T g.mNe g.mQH g.mPR g.mP1
theorem gSd(g:GG):GB 4 LR LX SN! Lo:=Jgj g.mWSe.fn g.T g.TW g.TP g.mWH g.mPa (gPt g) g.mSp g.mPP
theorem pK(g:GG):EG 2 NA NS sB P1:=Y0 g.mWLe.fn g.TW g.TP g.mPL
theorem gFr(g:GG):GB 2 TH UR Ll! Vb:=Jjp g.mFr.fn g.T g.mQH
theorem gHo(g:GG):GB 3 TB UP EP! Va:=Jjo g.mHo.fn g.T g.mNe g.mQH g.mQN
theorem gDr(g:GG):GB 4 TJ US EP! Vc:=Jjq g.mDr.fn g.T g.mNe g.mQH g.mQN g.mQG
theorem gTa(g:GG):GB 4 SO UC EP! U6:=Jjj g.mTa.fn g.T g.mNe g.mQH g.mQN g.mQG
theorem gMk(g:GG):GB 1 eW eY sB U9:=Rp! Jjl g.mM.fn g.T
theorem gCh(g:GG):EG 2 TR UZ sB Vd:=Jgx g.mCl.fn g.T g.Tx g.mR1 g.mLo g.mGb
theorem gWG(g:GG):EG 2 NF NX P7! Pd:=Jgn g.mWGb.fn g.TW g.TP g.mPP
theorem gWC(g:GG):EG 3 LV LZ CJ! Jm:=Jdw g.mWCl.fn g.T g.TW g.mWH g.mCl (gCh g) g.mWGb (gWG g)
theorem gAa(g:GG):EG 2 NN OA MH! Ha:=Ja0 g.mWAa.fn g.T g.TW g.TP g.mPP
theorem gAc(g:GG):EG 3 NM N' AW! F3:=Y2 g.mWAc.fn g.T g.TW g.TP g.mTi g.mSt (gSt g) g.mPP
theorem gLh(g:GG):EG 2 SX UL HR! yF:=Jjn g.mLH.fn g.T g.Tx g.mLo g.mGb
theorem gLc(g:GG):EG 3 NB NT AW! F2:=Y1 g.mWLc.fn g.T g.TW g.mLH (gLh g) g.mWGb (gWG g)
theorem gUn(g:GG):EG 2 SN UB JR! K64F.OE:=K64F.aA g.mUn.fn g.TF g.mR1 g.mRc
theorem gIL(g:GG):EG 1 S_ UN sB K64F.ZQ:=K64F.fm g.mIL.fn g.TI g.T.sorted
theorem gIR(g:GG):EG 3 SY UM sB K64F.VI:=K64F.dY g.mIR.fn g.TI g.mIL (gIL g) g.mUn (gUn g)
theorem gLa(g:GG):EG 4 NC NU Ob! Nf:=Jaz g.mWLa.fn g.T g.TW g.TP g.TI g.mIR (gIR g) g.mPP
theorem gAn(g:GG):EG 5 NK N_ AW! P2:=Jjg g.mWAn.fn g.T g.TW g.TI g.mIF g.mIS g.mWAa (gAa g) g.mWLa (gLa g)
theorem gAs(g:GG):GB 3 KQ KR CJ! Ng:=Jjf g.mWAs.fn g.T g.TW g.TI g.mWH g.lW g.uU g.xI g.mWAa (gAa g)
theorem gDl(g:GG):GB 6 LU LY D8! Ig:=Jje g.mWDe.fn g.TW g.TP g.mPT g.mWWe (gWe g) g.mWPa (Jrd g) g.mWAc (gAc g) g.mWAn (gAn g) g.mWLc (gLc g)
theorem Sx{l:a!}(h:∀z∈l,z.2.AI=[]/\z.2.AF=[]):Gq t l=0/\Hj l=0:=by induction l with | nil=>exact C9! | cons z l ih =>obtain⟨h1,h2⟩:=ih (Cn! (h y (AL! hy)));obtain⟨h3,h4⟩:=DQ! z;refine H7!;(.show V3! z.2 l=0;unfold MO;rw[h1,h3,h4];rfl);.show z.2.AI.length+Hj l=0;rw[h2,h3];rfl
theorem uJ{n mm tk:Int}{h o l r:Addr}{t:T2}(ht:SG ⟨n,mm,tk,h,o,l,r,[],[],[],[]⟩ t):False:=by
 rcases ht with ht|⟨q,hq,_⟩;.cases ht
 .cases hq
theorem Jfe{i m:Nat}{h o l r:Addr}(hi:i<m):Sd m (vZ! r) 0 :=⟨⟨CS,ii,CS,ii,rfl,CS,ii,To!,To!,To!,To!,To!⟩,To!,V? os!,V? os!,V? (FP! ht),QR! (dr!<=y!),QR! (y!<AC!),BS!,BS!⟩
theorem Ja6{l:a!}(h:∀z∈l,z.2.AQ=0):D4 l=0:=by induction l with | nil=>rfl | cons z l ih =>have ih:=ih (Cn! (h y (AL! hy)));have:=DQ! z;show z.2.AQ+D4 l=0;lia
universe S
variable {p:Addr}{H H1:Hp}{W:EF}{D:T2->Prop}{m n d A B:Nat}{ys:List Qy}
theorem WI.start(S:wo! H1)(e2:W.c=0)(e3:W.ls=[])(e4:W.MB=[])(e5:W.GW=[])(e6:W.FA=[])(e7:Ud!)(e8:pM! (W.qs[i]?))(m1:1<=m)(m5:m<=12)(sh:2<=W.share):WI H1 p W Wq! m 0 0 0 0 [] []:=by
 have ee:∀(i:Nat) q G,FM (W.qs[i]?)->∃h o l r,G=vZ! r:=λi q G hi=>by obtain⟨h,o,l,r,e⟩:=e8 i q G hi;exact⟨h,o,l,r,e⟩
 have em:∀z∈W.qs,z.2.AI=[]/\z.2.AF=[]/\z.2.AQ=0:=S? (by obtain⟨i,hi⟩:=CV.mp hz;obtain⟨_,_,_,_,e⟩:=ee i z.1 z.2 hi;rw[e];exact i6! rfl)
 have r0:=(Sx (t:=(0,0)) (S? (A! (em z hz).1 (em z hz).2.1))).2;refine⟨S,⟨⟨e7,B!,λi q G hi=>?_,λl hl=>FP! hl,λt _=>?_,sh⟩,⟨λ_ _ _ _ _ _ z=>z,λ_ _ _ z=>z,λ_ _ _ _ _ _ _ _ z=>z,λ_ _ _ _ _ z=>z.elim⟩,λj q G hj t ht _=>?_⟩,?_,λj q G hj t ht=>?_,m1,m5,I! e3 S!,I! e6 CS,Mb!,I! e6 ii,I! e5 ii,A! (λj q G hj t ht=>?_) (λl hl=>Bg! hl),L? sw,ii,e4,rfl,CS,Cn! (FP! hy),Cn! (FP! hy),Cn! (FP! hy),S? (FP! hz),Mb!,Ub! (FP! hz)⟩;·(have hl:i<m:=Dp! e7 hi);obtain⟨_,_,_,_,e⟩:=ee i q G hi;rw[e];exact Rs (Jfe hl)
 .rw[(Sx (t:=t) (S? (A! (em z hz).1 (em z hz).2.1))).1];rfl
 .obtain⟨_,_,_,_,e⟩:=ee j q G hj;rw[e] at ht;exact os!
 .rw[Ja6 (S? (em z hz).2.2)];exact BS!
 .obtain⟨_,_,_,_,e⟩:=ee j q G hj;rw[e] at ht;cases ht
 .rw[e6] at he;cases he
 .obtain⟨_,_,_,_,e⟩:=ee j q G hj;rw[e] at ht;rcases ht with ht|ht;(.exact os!);.cases ht
 .show 0+0+1*Hj W.qs<=0;rw[r0];exact ii
 .rw[e5] at he;cases he
universe E
universe S
variable {M G M' G':BM}
theorem O1(M G:BM)(x:wn):M.AX+1=Bo!:=ww x.AX
theorem Jmw(x:wn)(ta tb:T2):FC (Jd M ta tb) lJ!:=by have:=(x.JB ta (Bu (FX.CD M.holds ta) tb));rw[x.CD] at this;unfold Jd;rw[x.CD];exact tZ!
theorem Jmx(x:wn)(ta tb:T2):FC (Hy M ta tb) f2!:=by have:=(x.JB ta (Hz (FX.CD M.holds ta) tb));rw[x.CD] at this;unfold Hy;rw[x.CD];exact tZ!
theorem Jg7(x:wn){l l':D!}(e:l=l'):FC (HY { M with hand:=l }) (HY { G with hand:=l' }):=a6! e x.AF
theorem Joq(x:wn)(tb:T2)(v:Int):FC (Sq M tb v) (Sq G tb v):=a6! x.hand (by show Be M.AF tb v=lo!;rw[x.AF])
theorem Jlb(x:wn)(tb:T2)(v:Int):FC (Jg M tb v) (Jg G tb v):=vr! x.hand x.AF (by show Be M.AI tb v=lp!;rw[x.AI])
theorem mL(x:wn):Gl!:=eN! rfl x.hand x.AF x.AI x.holds
theorem Jg6(x:wn)(tb:T2)(sh:Int)(FQ:Bool):FC (Ey M tb sh FQ) (Ey G tb sh FQ):=by
 refine a6! ?_ ?_;.show aE M tb FQ=T7!;unfold aE;rw[x.hand]
 .show eP M tb sh FQ=eP G tb sh FQ;unfold eP;rw[x.AF]
theorem Ol(l:HL)(R:D!):qM! l.filter (q.1∉R) (MC l).filter (sK (q.1∉R)):=sk! JG
theorem Zk(x:Gl!)(ts:D!):IE (An M ts) bn:=by
 refine eN! rfl x.hand ?_ x.AI ?_;.show M.AF.filter _=G.AF.filter _;rw[show so! from x.AF]
 .show qM! M.holds.filter D4! MC (Fg! G.holds.filter D4!);rw[Ol,Ol,hB!]
theorem Jor(x:wn)(ts:D!):FC (Kt M ts) WZ!:=by have:=(Zk (mL x) ts).FU;exact tZ!
theorem Ji3(x:wn)(r1:ME (OW M.holds) k1 (startT M) [] Ra)(r2:ME (OW G.holds) k2 (startT G) [] Rb):∀t,t∈Ra↔t∈Rb:=by
 rw[(mL x).nx,(mL x).start] at r1;have c1:=r1.closed Mk!
 have c2:=r2.closed Mk!
 exact λt=>A! (λh=>r1.least (S:=(·∈Rb)) c2 nT! r2.sub.2 t h) (λh=>r2.least (S:=(·∈Ra)) c1 nT! r1.sub.2 t h)
theorem Tt(h:∀t,t∈Ra↔t∈Rb):keepR G Ra=keepR G Rb:=by
 unfold keepR;have e:∀t,DM! (p? (t∈Ra)) (t∈Rb):=λt=>decide_eq_decide.mpr (h t);congr 1;.exact EH λq _=>e q.1
 .exact EH λq _=>e q.1
theorem Jjx(x:wn)(h:∀t,t∈Ra↔t∈Rb):FC (Fi M Ra) (Fi G Rb):=by unfold Fi;rw[Tt (G:=M) h];have:=((mL x).keepR Rb).FU;exact tZ!
theorem Jcg(x:Gl!)(rs:Y!):Bj M rs=Bj G rs:=by unfold Bj;congr 1;exact EH λq _=>ww x.CJ
theorem Xd{α:Type}{f:BY!}{l m:N!}(h1:(l.map f).Pairwise HZ)(h2:(m.map f).Pairwise HZ)(h:∀x,x∈l↔x∈m):l=m:=by
 have p1:=DK.mp h1;have p2:=DK.mp h2;have n1:l.Nodup:=p1.imp (S:=λa b=>a≠b) λ{a b} h (e:a=b)=>by rw[e] at h;exact Mg _ h
 have n2:m.Nodup:=p2.imp (S:=λa b=>a≠b) λ{a b} h (e:a=b)=>by rw[e] at h;exact Mg _ h
 exact((List.perm_ext_iff_of_nodup n1 n2).mpr h).eq_of_pairwise (λa b _ _ h1 h2=>by rw[Dx] at h1 h2;lia) p1 p2
theorem Jfq{l1 l2 uv mB:Y!}(e:l1=l2)(p1:uv.Perm l1)(p2:mB.Perm l2)(w1:w5! uv.map)(w2:w5! mB.map):uv=mB:=Xd w1 w2 λx=>UF p1.mem_iff p2.mem_iff e
theorem Jmv{os:B6!}(x:wn)(R:al!):Rows M os:=by refine⟨I! x.AF R.pm,R.pw,CV!⟩;obtain⟨h1,a,hl,h2,h3⟩:=A3! R.at_;refine L? (I! x.AF h1);have e:=Rj M.holds q.1;rw[x.holds,Rj,h2] at e;cases f:M.holds.find? λz=>U9! z.1 q.1 with | none=>rw[f] at e;cases e | some r =>rw[f] at e;have e:(q.1,hl)=(r.1,Al!):=ZO e;obtain⟨e1,e2⟩:=Prod.mk.inj e;exact⟨Aa!,hl,I? e1 e2,h3⟩
theorem Yo(Ra:Rows G ux)(Rb:Rows G mE):∀q∈ux,q∈mE:=UV (by have k:a0! mE.map:=Rb.pm.mem_iff.mpr (Ra.pm.mem_iff.mp (BD hq));obtain⟨r,hr,e⟩:=ZN k;obtain⟨a1,_,_,a2,_,a3,a4⟩:=A3! Ra.at_;obtain⟨b1,_,_,b2,_,b3,b4⟩:=Rb.at_ r hr;rw[e] at b1 b2;rw[a1] at b1;rw[a2] at b2;have e2:=ct! b1;have e3:=eb! (ct! b2);(have e4:u?=Al!:=Nj a4 b4 λt=>UF a3.mem_iff b3.mem_iff e3);have:q=r:=Prod.ext e.symm (Prod.ext e2 e4);rw[this];exact hr)
theorem Jfr(Ra:Rows G ux)(Rb:Rows G mE):ux=mE:=Xd Ra.pw Rb.pw λq=>A! (Yo Ra Rb q) (Yo Rb Ra q)
theorem Xt{os cq:B6!}(x:wn)(a:Told M hs os rs)(b:Told G gy cq rs'):hs=gy/\os=cq/\rs=rs' :=⟨Nj a.pw b.pw λt=>UF a.pm.mem_iff b.pm.mem_iff x.hand,Jfr a.PM (Jmv x b.PM),Jfq x.AI a.pr b.pr a.wr b.wr⟩
theorem Jq3(x:wn)(a:Wt kind M tb wt M')(b:Th! wt):FC M' G':=by
 rcases a with⟨e,⟨n,o,f,rfl⟩|⟨n,rfl⟩⟩|⟨e,rfl⟩|⟨e,rfl⟩;.rcases b with⟨_,⟨_,o',f',rfl⟩|⟨n',_⟩⟩|⟨e',_⟩|⟨e',_⟩;(.rw[x.AF,f'] at f;have eo:o'=o:=ct! f;refine a6! ?_ ?_;(.show Bu M.hand tb=Fc!;rw[x.hand]);.show Be M.AF tb (o-wt)=Ln! (o'-wt);rw[x.AF,eo]);(.exact BP! (x.BJ▸n) n');(.rw[e] at e';exact KZ!);.rw[e] at e';exact KZ!
 .rcases b with⟨_,⟨n',_⟩|⟨_,rfl⟩⟩|⟨e',_⟩|⟨e',_⟩;(.exact BP! (x.BJ▸n') n);(.refine vr! ?_ x.AF ?_;(.show Bu M.hand tb=Fc!;rw[x.hand]);.show Be M.AI tb _=Be G.AI tb _;rw[x.AI]);(.rw[e] at e';exact KZ!);.rw[e] at e';exact KZ!
 .rcases b with⟨e',_⟩|⟨_,rfl⟩|⟨e',_⟩;(.rw[e] at e';exact KZ!);(.refine vr! x.hand x.AF ?_;show Be M.AI tb _=Be G.AI tb _;rw[x.AI]);.rw[e] at e';exact KZ!
 .rcases b with⟨e',_⟩|⟨e',_⟩|⟨_,rfl⟩;(.rw[e] at e';exact KZ!);(.rw[e] at e';exact KZ!);.refine a6! x.hand ?_;show YN M tb wt=qF!;unfold YN;rw[x.AF]
theorem Jop(x:wn)(a:nG sh l M M' bs)(b:nG sh l G G' KL):FC M' G'/\bs=KL:=by
 rcases a with⟨np,a,rfl⟩|⟨p,⟨s,rfl,rfl⟩|⟨s,rfl,rfl⟩⟩;.rcases b with⟨_,b,rfl⟩|⟨p,_⟩;(.exact Rs (Jq3 x a b));.exact absurd p np
 .rcases b with⟨np,_⟩|⟨_,⟨_,rfl,rfl⟩|⟨s',_⟩⟩;(.exact absurd p np);(.exact Rs (Jg6 x _ _ _));.exact IR s s'
 .rcases b with⟨np,_⟩|⟨_,⟨s',_⟩|⟨_,rfl,rfl⟩⟩;(.exact absurd p np);(.exact IR s' s);.exact Rs (Jg6 x _ _ _)
theorem Jjw(x:wn)(a:RB sh h g tb M M' l)(b:RB sh h g tb G G' l'):FC M' G'/\l=l':=by
 have er:I1! M.AI=B5!:=ww x.AI
 have eo:I1! M.AF=I1! G.AF:=ww x.AF
 rcases a with⟨n,rfl,rfl⟩|⟨n,w,rfl,rfl⟩|⟨n,w,rfl,rfl⟩;.rcases b with⟨_,rfl,rfl⟩|⟨n',_⟩|⟨n',_⟩;(.exact Rs (I! eo (Joq x _ _)));(.exact BP! (x.BJ▸n) n');.exact BP! (x.BJ▸n) n'
 .rcases b with⟨n',_⟩|⟨_,_,rfl,rfl⟩|⟨_,w',_⟩;(.exact BP! (x.BJ▸n') n);(.exact Rs (Jlb x _ _));.lia
 .rcases b with⟨n',_⟩|⟨_,w',_⟩|⟨_,_,rfl,rfl⟩;(.exact BP! (x.BJ▸n') n);(.lia);.exact Qf! (I! er (Jlb x _ _)) er
universe E
def Dv(m:Nat)(W W':EF)(a b al':M!)(ys DN:w!)(H':Hp):Di! LL
 | .w l=>DN=ys/\Uc!/\∃q G G' bs,FM (W.qs[l.g.toNat]?)/\oW! W.share/\hh! l.g.toNat/\al'=T?++(bs:l?).map .w
 | .lt _ g ts=>DN=ys/\Uc!/\∃q G hs os rs,FM fx!/\Ij!/\W'.qs=aa! (Kt G ts)/\al'=T?++rj! bn g
 | .ask s g n u=>DN=ys/\Uc!/\Op!/\∃q G hs os rs,FM fx!/\Ij!/\al'=ID! (.JU g s n u G.AX Hi!)
 | .JU s g n u tick S=>Op!/\uA m W W' a b al' ys DN H' s g n u tick S
inductive eE(m:Nat)(BJ:Int)(W W':EF)(al al':M!)(ys DN:w!)(H':Hp)(L:j!):Prop
 | mk (l1 l2:j!) (t:Addr) (a:M!) (z:LL) (b:M!) (el:OE!) (es:Zh!) (len:l1.length=a.length) (nv:Nv W W' (G2!) L) (dv:Dv m W W' a b al' ys DN H' z)
def qd(y:Qy):Int×E6!×RF!:=(y.n,y.fi,y.se)
structure Al(W V:EF)(al bl:M!)(ys zs:w!):Prop where
 qs:A6! (λ(x y:Addr×BM)=>FC x.2 y.2) W.qs V.qs
 al:al=bl
 nu:AM! W.ls.map V.ls.map
 c:W.c=V.c
 sh:W.share=V.share
 ys:ys.map qd=zs.map qd
theorem qB{R:IU!}{xs:N!}{ys:BU!}(p:Gj!):∀(i:Nat),R x y->O9! (xs.set i x) (ys.set i y):=by induction p with | nil=>exact λi _=>by simpa using Paired.nil | cons r p ih=>exact λi h=>match i with | 0=>C? h p | i+1=>C? r (ih i h)
theorem K3{α:Type}{x:α}{b d:N!}:∀{a c:N!},a++x::b=c++x::d->x∉a->x∉c->a=c/\b=d
 | [],[],h,_,_=>s? (List.cons.inj h).2
 | [],y::c,h,_,n=>BP! (I! (List.cons.inj h).1 AJ!) n
 | y::a,[],h,n,_=>BP! (I! (List.cons.inj h).1 AJ!) n
 | y::a,z::c,h,n1,n2=>by obtain⟨e,h⟩:=List.cons.inj h;obtain⟨e1,e2⟩:=K3 h (in! n1) (in! n2);exact A! (XA! e1) e2
theorem Nv.two{W W' V V':EF}{l0 k0 L J:j!}(a:Nv W W' l0 L)(b:Nv V V' k0 J)(c:W.c=V.c)(e0:AM! l0.map k0.map)(e:W'.ls.length=V'.ls.length):pl!/\W'.c=V'.c/\AM! W'.ls.map V'.ls.map:=by
 have h0:l0.length=k0.length:=by have:=DP! e0;rwa [ZA,ZA] at this
 have hl:L.length=J.length:=by rw[a.ls,b.ls,ZE,ZE] at e;lia
 have hm:pl!:=by rw[a.nu,b.nu,c,hl]
 exact⟨hm,by rw[a.c,b.c,c,hl],by rw[a.ls,b.ls,ZF,ZF,e0,hm]⟩
universe S
variable {H H' H1 eD:Hp}{p r:Addr}{W W' V V':EF}{D D' E E':T2->Prop}{m n n' n1 sP d d' d1 tU A A' B B' A1 uX B1 uW:Nat}{al al' bl dE:List LL}{ys DN zs b_:List Qy}{L J:List (Int×Addr)}{BJ:Int}
theorem Al.len(x:k!)(y:nN!)(e:al=bl):W.ls.length=V.ls.length:=UF x.len.1 y.len.1 e
theorem Al.at_{i:Nat}{q:Addr}{G:BM}(x:FE!)(h:RW!):∃q' G',Db (V.qs[i]?) q' G'/\FC G G':=by
 have hl:i<V.qs.length:=Dp! (R? x.qs) h
 obtain⟨⟨q',G'⟩,h'⟩:=Ao hl;exact⟨q',G',h',Av x.qs _ _ _ h h'⟩
theorem Al.RH{i:Nat}{q q':Addr}{G G':BM}(x:FE!)(h:RW!)(h':Db (V.qs[i]?) q' G'):FC G G':=Av x.qs _ _ _ h h'
theorem Jn5(x:k!)(hy:LG!):k? y.se.map:=by
 rcases(x.iv y hy).t2 with⟨_,_,_,e⟩|⟨_,pm⟩;.rw[e];exact CS
 ·(have:Dy! rg m:=by unfold rg List.Nodup;rw[DK];exact q6!);exact(AL.mp (pm.nodup_iff.mpr this)).2.1
theorem Jmb{se:RF!}(nd:k? se.map)(h:u∈se)(h':v∈se)(e:u.1=v.1):u=v:=by induction se with | nil=>cases h | cons x se ih =>obtain⟨n1,n2⟩:=BA!;have n1:x.1∉Mt!:=n1;rcases ZM h with e1|h1;(.rcases ZM h' with e2|h2;(.rw[e1,e2]);.exact mu! ⟨v,h2,XV! e1⟩);.rcases ZM h' with e2|h2;(.exact mu! ⟨u,h1,XA! e2⟩);.exact ih n2 h1 h2
theorem Jks{s g n0 u tick:Int}{S:HS}{a b:M!}(x:FE!)(wi:k!)(OT:rE!)(vi:nN!)(e1:uA m W W' a b al' ys DN H3 s g n0 u tick S)(e2:uA m V V' a b dE zs b_ H4 s g n0 u tick S):al'=dE/\DN.map qd=b_.map qd:=by
 obtain⟨y,y',i1,i2,new,h1,h2,h3,h4,h5,h6⟩:=e1;obtain⟨z,z',j1,j2,yp,k1,k2,k3,k4,k5,k6⟩:=e2;have jA:=wi.mG;have YD:=vi.mG;have en:ys.map FH!=zs.map FH!:=Lx! (congrArg (List.map pi) x.ys) AK AK
 rw[h1,ZF,AJ] at jA;rw[k1,ZF,AJ] at YD;rw[h1,k1,ZF,AJ,ZF,AJ,h3,k3] at en;rw[h3] at jA;rw[k3] at YD;obtain⟨en1,en2⟩:=K3 en (sg! (AL.mp jA).2.2) (sg! kJ!);have ll:IN i1.map qd=IN j1.map qd:=by have:=DP! en1;rw[ZA,ZA] at this ⊢;exact this
 have eq:=x.ys;rw[h1,k1,ZF,AJ,ZF,AJ] at eq;obtain⟨q1,q2⟩:=List.append_inj eq ll;obtain⟨q2,q3⟩:=List.cons.inj q2;have jK:y.fi=z.fi:=congrArg (λz=>z.2.1) q2;have pR:y.se=z.se:=congrArg (λz=>LX!) q2;suffices hh:new=yp/\y'.fi=z'.fi/\y'.se=z'.se by obtain⟨hh1,hh2,hh3⟩:=hh;refine L? (UF h5 k5 hh1);rw[h2,k2,ZF,AJ,ZF,AJ,q1,q3];congr 2;show(y'.n,y'.fi,y'.se)=(z'.n,z'.fi,z'.se);rw[h4,k4,hh2,hh3]
 rcases h6 with⟨u1,f1,f2,_,f3⟩|⟨u1,f1,f2,f3⟩;.rcases k6 with⟨_,g1,g2,_,g3⟩|⟨u2,_⟩;(.refine⟨?_,UF f2 g2 jK,UF f1 g1 pR⟩;rcases f3 with⟨f3,f4⟩|⟨f3,f4⟩;(.rcases g3 with⟨g3,g4⟩|⟨g3,g4⟩;(.rw[f3,g3]);.rw[jK] at f4;exact IR g4 f4);.rcases g3 with⟨g3,g4⟩|⟨g3,g4⟩;(.rw[jK] at f4;exact IR f4 g4);.rw[f3,g3]);.lia
 .rcases k6 with⟨u2,_⟩|⟨_,g1,g2,g3⟩;(.lia);.refine⟨?_,UF f1 g1 jK,UF f2 g2 pR⟩;rcases f3 with⟨f3,f4,_⟩|⟨f4,ts,xf,as,f3,_,_,_,cf,fc,ff⟩;(.rcases g3 with⟨g3,g4,_⟩|⟨g4,_⟩;(.rw[f3,g3]);.rw[pR] at f4;exact IR g4 f4);.rcases g3 with⟨g3,g4,_⟩|⟨g4,fy,xf',LO,g3,_,_,_,cg,gc,gf⟩;(.rw[pR] at f4;exact IR f4 g4);·(have mS:y'∈DN:=Lc! h2);have nd:=Jn5 OT mS;(have iA:y'.se=z'.se:=UF f2 g2 pR);(have ec:∀h:Nat,h<m->cf h=cg h:=λh hh=>by obtain⟨r1,a1,a2,a3⟩:=fc h hh;obtain⟨r2,b1,b2,b3⟩:=gc h hh;rw[<-iA] at b1;have:=Jmb nd a1 b1 (I? a2 b2);rw[<-a3,<-b3,this]);(have eL:Lb m (λh=>xQ!) (Jf y.fi)=Lb m (λh=>p? (Gb z.fi h=cg h)) (Jf z.fi):=by unfold Lb;rw[jK];congr 1;exact EH λh hh=>ww (ec h (BB.mp hh)));rw[eL] at ff;rw[f3,g3,ff.one gf]
theorem eE.one(x:FE!)(wi:k!)(OT:rE!)(vi:nN!)(gP:WI eD r V' E' m sP tU uX uW dE b_)(d1:eE m BJ W W' al al' ys DN H3 L)(d2:eE m BJ V V' bl dE zs b_ H4 J):Al W' V' al' dE DN b_/\pl!:=by
 obtain⟨l1,l2,t,a,z,b,el,es,len,nv,dv⟩:=d1;obtain⟨k1,k2,t',a',z',b',kl,ks,JPs,kv,sT⟩:=d2;have jA:=wi.wa.po.nd;have YD:=vi.wa.po.nd;have en:=x.nu;rw[el,ZF,AJ] at jA;rw[kl,ZF,AJ] at YD;rw[el,kl,ZF,AJ,ZF,AJ] at en;obtain⟨e1,e2⟩:=K3 en (sg! (AL.mp jA).2.2) (sg! kJ!);have ll:a.length=a'.length:=by have:=DP! e1;rw[ZA,ZA] at this;lia
 have ea:=x.al;rw[es,ks] at ea;obtain⟨q1,q2⟩:=List.append_inj ea ll;obtain⟨q2,q3⟩:=List.cons.inj q2;subst q1 q2 q3;have e0:AM! (G2!).map (k1++k2).map:=by rw[ZF,ZF,e1,e2]
 suffices hh:A6! (λ(x y:Addr×BM)=>FC x.2 y.2) W'.qs V'.qs/\al'=dE/\DN.map qd=b_.map qd by obtain⟨h1,h2,h3⟩:=hh;obtain⟨m1,m2,m3⟩:=nv.two kv x.c e0 (Al.len OT gP h2);exact A! ⟨h1,h2,m3,m2,UF nv.sh kv.sh x.sh,h3⟩ m1
 cases z with | w l =>obtain⟨y1,_,q,G,G',bs,hi,we,eq,YO⟩:=dv;obtain⟨y2,_,q2,M,M',fA,PU,we2,eq2,bJ⟩:=sT;have lk:=T8!;rw[<-x.sh] at we2;obtain⟨k1,k2⟩:=Jop lk we we2;exact nX! (cL! k1) (UF YO bJ k2) (Ai! y1 y2 x.ys) | ask s g n0 u =>obtain⟨y1,_,eq,q,G,hs,os,rs,hi,tl,YO⟩:=dv;obtain⟨y2,_,eq2,q2,M,SE,mE,mB,PU,uh,bJ⟩:=sT;have lk:=T8!;obtain⟨k1,k2,k3⟩:=Xt lk tl uh;exact nX! x.qs (by rw[YO,bJ,lk.AX,k1,k2,k3]) (Ai! y1 y2 x.ys) | JU s g n0 u tick S =>obtain⟨eq,an⟩:=dv;obtain⟨eq2,an2⟩:=sT;obtain⟨k1,k2⟩:=Jks x wi OT vi an an2;exact nX! x.qs k1 k2 | lt s g ts =>obtain⟨y1,_,q,G,hs,os,rs,hi,tl,eq,YO⟩:=dv;obtain⟨y2,_,q2,M,SE,mE,mB,PU,uh,eq2,bJ⟩:=sT;have lk:=T8!;obtain⟨k1,k2,k3⟩:=Xt lk tl uh;exact nX! (cL! (Jor lk ts)) (by rw[YO,bJ,k3,Jcg (Zk (mL lk) ts)]) (Ai! y1 y2 x.ys)
universe E
inductive DD
 | make (h:Nat)
 | hold (h:Nat) (a b:T2)
 | drop (h:Nat) (a b:T2)
 | take (h:Nat) (a b:T2)
 | free (h:Nat) (b:T2)
 | send (h g:Nat) (b:T2)
 | clean (h:Nat)
 | ask (h:Nat)
 | KN (n:Int)
def DD.at:DD->Nat
 | .make h|.hold h _ _|.drop h _ _|.take h _ _|.free h _|.send h _ _|.clean h|.ask h=>h
 | .KN _=>0
def bL(d:PyData):PyData:=Hm! [Yv!,d]
def jn(n:Nat):PyData:=Hm! [AY! "refused",g! n]
def Qq(L:j!):PyData:=Bf! ((L.map pi).map T!)
inductive Hs:DD->BM->X7! BM
 | make (h:Nat) (G:BM) (a:Addr):Hs (.make h) G (HY Vg!) (YB Ak!)
 | hold (h:Nat) (ta tb:T2) (G:BM) (ha:AQ!) (hb:wp) (hn:D3!):Hs (VX! .hold) G lJ! F?
 | drop (h:Nat) (ta tb:T2) (G:BM) (ha:AQ!) (hn:D3!) (hb:Jp!):Hs (VX! .drop) G f2! F?
 | take (h:Nat) (ta tb:T2) (G:BM) (ha:AQ!) (hn:D3!) (hb:Jp!):Hs (VX! .take) G (Ot G tb) F?
 | free (h:Nat) (tb:T2) (G:BM) (hb:wp):Hs (Jg! h tb) G (Ou G tb) F?
inductive Rf:DD->Uf BM Nat
 | rH (h:Nat) (ta tb:T2) (G:BM) (e:vA!\/Vf!):Ka! .hold 1
 | rG (h:Nat) (ta tb:T2) (G:BM) (ha:AQ!) (hb:wp) (hn:Xa!):Ka! .hold 2
 | rO (h:Nat) (ta tb:T2) (G:BM) (e:vA!):Ka! .drop 1
 | rN (h:Nat) (ta tb:T2) (G:BM) (ha:AQ!) (hn:Xa!):Ka! .drop 2
 | rM (h:Nat) (ta tb:T2) (G:BM) (ha:AQ!) (hn:D3!) (hb:tb∉vS!):Ka! .drop 3
 | take1 (h:Nat) (ta tb:T2) (G:BM) (e:vA!):Ka! .take 1
 | take2 (h:Nat) (ta tb:T2) (G:BM) (ha:AQ!) (hn:Xa!):Ka! .take 2
 | take3 (h:Nat) (ta tb:T2) (G:BM) (ha:AQ!) (hn:D3!) (hb:tb∉vS!):Ka! .take 3
 | rL (h:Nat) (tb:T2) (G:BM) (e:Vf!):Rf (Jg! h tb) G 1
 | jW (h g:Nat) (tb:T2) (G:BM) (e:Vf!):Rf oN! G 1
 | jV (h g:Nat) (tb:T2) (G:BM) (ha:wp) (hn:Ej!) (e:B5!=0):Rf oN! G 4
inductive Ef(m:Nat)(W W':EF)(al al':M!)(ys DN:w!)(H':Hp):X7! DD
 | ID (d:DD) (q:Addr) (G G':BM) (v:PyData) (hi:FM (W.qs[d.at]?)) (hs:Hs d G G' v) (e:hh! d.at) (nv:Zs! []) (ea:al'=al) (ey:DN=ys):QC! d (bL v)
 | no (d:DD) (q:Addr) (G:BM) (k:Nat) (hi:FM (W.qs[d.at]?)) (rf:Rf d G k) (e:W'=W) (ea:al'=al) (ey:DN=ys):QC! d (jn k)
 | send (h g:Nat) (tb:T2) (q:Addr) (G G':BM) (l:LT) (t:Addr) (hi:J3!) (hb:wp) (se:RB W.share i? (J? g) tb G G' l) (e:hh! h) (nv:Zs! NJ!) (ea:al'=al++[.w l]) (ey:DN=ys):QC! oN! (bL (T! Pe!))
 | clean (h:Nat) (q:Addr) (G:BM) (k:Nat) (R:D!) (rs:Y!) (L:j!) (hi:J3!) (rc:bc!) (pm:DT!) (pw:FB!) (e:W'.qs=W.qs.set h (q,Fi G R)) (nv:Zs! L) (ea:al'=al++rj! AK! i?) (ey:DN=ys):QC! (.clean h) (bL (Qq L))
 | ask (h:Nat) (io:Addr) (I:K64F.Iq) (L:j!) (e:Op!) (nv:Zs! L) (ea:al'=he! i?) (ey:DN=ys++ss! DB!):QC! (.ask h) (bL (T! (DB!)))
 | KN (BJ:Int) (L:j!) (dl:lS!):QC! (.KN BJ) (bL (Qq L))
universe S
variable {H H' H1 eD:Hp}{p r:Addr}{W W' V V':EF}{D D' E E':T2->Prop}{m n n' n1 sP d d' d1 tU A A' B B' A1 uX B1 uW:Nat}{al al' bl dE:List LL}{ys DN zs b_:List Qy}{dd:DD}{v v':PyData}{M G M' G':BM}
theorem Hs.one(x:wn)(a:Hs dd M M' v)(b:Hs dd G G' v'):FC M' G'/\v=v':=by cases a with | make h _ a=>(cases b with|make _ _ b=>exact A! (x.mk2 a b) (I? x.BJ x.AQ)) | hold h ta tb=>cases b;exact Rs (Jmw x ta tb) | drop h ta tb=>cases b;exact Rs (Jmx x ta tb) | take h ta tb=>cases b;exact Rs (Jg7 x (ww x.hand)) | free h tb=>cases b;exact Rs (Jg7 x (ww x.hand))
theorem Rf.one(x:wn)(a:Rf dd M k)(b:Rf dd G k'):k=k':=by have eh:=x.hand;have en:=x.BJ;have er:=x.AI;have eg:=x.CD;cases a<;>cases b<;>grind
theorem Hs.rf(x:wn)(a:Hs dd M M' v)(b:Rf dd G k'):False:=by have eh:=x.hand;have en:=x.BJ;have er:=x.AI;have eg:=x.CD;cases a<;>cases b<;>grind
theorem RB.rf{h g:Nat}{tb:T2}{l:LT}(x:wn)(hb:tb∈M.hand)(a:RB sh i? (J? g) tb M M' l)(b:Rf oN! G k'):False:=by have eh:=x.hand;have en:=x.BJ;have er:=x.AI;cases b with | jW _ _ _ _ e=>rw[<-eh] at e;exact e hb | jV _ _ _ _ ha hn e =>rw[<-en] at hn;rw[<-er] at e;rcases a with⟨n,_⟩|⟨_,w,_⟩|⟨_,w,_⟩;(.exact hn n);(.lia);.lia
theorem Al.symm(x:FE!):Al V W bl al zs ys:=⟨by have:=x.qs;generalize W.qs=a at this;generalize V.qs=b at this;induction this with | nil=>exact S! | cons r _ ih=>exact Ge! ⟨r.BJ.symm,r.AQ.symm,r.AX.symm,r.hand.symm,r.AF.symm,r.AI.symm,r.holds.symm⟩,x.al.symm,x.nu.symm,x.c.symm,x.sh.symm,x.ys.symm⟩
theorem Al.next{L J:j!}(x:FE!)(OT:rE!)(gP:WI eD r V' E' m sP tU uX uW dE b_)(nv:Zs! L)(kv:Nv V V' V.ls J)(h1:A6! (λ(x y:Addr×BM)=>FC x.2 y.2) W'.qs V'.qs)(h2:al'=dE)(h3:DN.map qd=b_.map qd):Al W' V' al' dE DN b_/\pl!:=by obtain⟨m1,m2,m3⟩:=nv.two kv x.c x.nu (Al.len OT gP h2);exact A! ⟨h1,h2,m3,m2,UF nv.sh kv.sh x.sh,h3⟩ m1
theorem Ef.one(x:FE!)(wi:k!)(OT:rE!)(vi:nN!)(gP:WI eD r V' E' m sP tU uX uW dE b_)(a:Ef m W W' al al' ys DN H3 dd v)(b:Ef m V V' bl dE zs b_ H4 dd v'):Al W' V' al' dE DN b_/\v=v':=by cases a with | ID _ q G G' u hi hs e nv ea ey =>(cases b with | ID _ q2 M M' u2 PU SE e2 jq bJ h_ =>have lk:=T8!;obtain⟨h1,h2⟩:=Hs.one lk hs SE;exact Qf! (x.next OT gP nv jq (qL! (cL! h1)) (Pu! ea bJ x.al) (Pu! ey h_ x.ys)).1 h2 | no _ q2 M k PU rf=>exact(Hs.rf (x.RH hi PU) hs rf).elim | send=>cases hs | clean=>cases hs | ask=>cases hs | KN=>cases hs) | no _ q G k hi rf e ea ey =>(cases b with | ID _ q2 M M' u2 PU SE=>exact(Hs.rf (x.symm.RH PU hi) SE rf).elim | no _ q2 M k2 PU gX e2 bJ h_ =>have:=Rf.one (x.RH hi PU) rf gX;subst e e2 ea bJ ey h_;exact Qf! x this | send h g tb q2 M M' l t PU hb se=>exact(RB.rf (x.symm.RH PU hi) hb se rf).elim | clean=>cases rf | ask=>cases rf | KN=>cases rf) | send h g tb q G G' l t hi hb se e nv ea ey =>(cases b with | ID _ q2 M M' u2 PU SE=>cases SE | no _ q2 M k2 PU gX=>exact(RB.rf (x.RH hi PU) hb se gX).elim | send _ _ _ q2 M M' l2 t2 PU wB se2 e2 jq bJ h_ =>have lk:=T8!;rw[<-x.sh] at se2;obtain⟨h1,h2⟩:=Jjw lk se se2;exact Qf! (x.next OT gP nv jq (qL! (cL! h1)) (by rw[ea,bJ,x.al,h2]) (Pu! ey h_ x.ys)).1 x.c) | clean h q G k R rs L hi rc pm pw e nv ea ey =>(cases b with | ID _ q2 M M' u2 PU SE=>cases SE | no _ q2 M k2 PU gX=>cases gX | clean _ q2 M k2 R' mB J PU rc2 oO pw2 e2 jq bJ h_ =>have lk:=T8!;have hm:=Ji3 lk rc rc2;have er:=Jfq lk.AI pm oO pw pw2;obtain⟨h1,h2⟩:=x.next OT gP nv jq (qL! (cL! (Jjx lk hm))) (by rw[ea,bJ,x.al,er,Tt (G:=G) hm,Jcg ((mL lk).keepR R')]) (Pu! ey h_ x.ys);exact A! h1 (by unfold Qq;rw[h2])) | ask h io I L e nv ea ey =>(cases b with | ID _ q2 M M' u2 PU SE=>cases SE | no _ q2 M k2 PU gX=>cases gX | ask _ io2 I2 J e2 jq bJ h_ =>(have el:ys.length=zs.length:=by have:=DP! x.ys;rwa [ZA,ZA] at this);exact Qf! (x.next OT gP nv jq (qL! x.qs) (by rw[ea,bJ,x.al,el]) (by rw[ey,h_,ZF,ZF,x.ys];congr 1;show [(_,_,_)]=[(_,_,_)];rw[el])).1 el) | KN BJ L dl =>cases b with | ID _ q2 M M' u2 PU SE=>cases SE | no _ q2 M k2 PU gX=>cases gX | KN _ J dl2 =>obtain⟨h1,h2⟩:=dl.one x wi OT vi gP dl2;exact A! h1 (by unfold Qq;rw[h2])
universe E
theorem uE{A B:TS}{D:Ends}{σ:L2.St}{H:Hp}(R:M9!)(h1:∀nx,(∀EV H',R EV H'->nx EV H')->A { D with nx:=nx } σ H)(h2:∀EV H',R EV H'->B D EV H'):Jn0 A B D σ H:=h1 _ h2
theorem jJ(g:GG):EG 1 TV U' cB! Jfa:=Jjr g.mC1.fn g.T.len
theorem YI:Y? [VQ!,JN!,"_law_xs","_law_number","_law_k"] ow! Vm:={}
inductive Je7(vs:C!)(H:Hp)(Q:VK)(E:XK):Prop
 | mk (c:Int) (m:Nat) (_:vs=Sa! c m) (_:m<=20) (_:∀(l:Addr)(xs:A?)(H':Hp),M2! r? (A5! l (YE! xs.map)) (xs.length=m) l)
theorem gSm(g:GG):EG 1 SR UE ow! Je7:=by
 refine EM! g.mSm.fn.JH YI;obtain⟨c,m,rfl,hm,k⟩:=h;refine X!;refine kD! YI.nd ED! YI.nd (NG! O?) (Sx! (F1 rfl g.T.range ES!) YI.nd (Af (Bl (t7! (Cf! O?) Ag) (Ad (A6 (F7 BN CO CN Cv W! (am (Bc Cj E? (Bc xy Ag Ag))))) (jI! YI.nd (Bc Fy E? (Bc xy Ag Ag)))) (kN! YI.nd (Cf! (Ry! (KE! E?))) (mT! W! (Cf! (KE! E?))))))) (Vm! 2);refine xE! Q0!;refine TT! _ rfl rfl Kg! ?_;refine⟨_,rfl,AC!,rfl,B!,B!,?_⟩;rw[CA];refine of! m (λi σ H2=>∃(xs:A?)(z:Int)(u:wE),σ=[ut c,ut m,M3!,ut z,u]/\L2!/\Mr! l (YE! xs.map)/\xs.length=i) ⟨[],_,_,rfl,Ah hl,Ab,rfl⟩;.rintro i σ H2 hi ⟨xs,z,u,rfl,s2,e2,len⟩;have put:∀y:Int,ap (d1! H2 l (xs.map V.int) (X? y))/\U! (d1! H2 l (xs.map V.int) (X? y)) l (YE! (xs++[y]).map)/\DD! (xs++[y])=U?:=λy=>⟨Aw! (eJ! hl (HX! s2)),b8!,gv! len⟩;refine p5! _ _ rfl (DA! 2) rfl;by_cases c1:EQ! (c % 2)=V.int 1;(.rw[EZ! c1];refine Cy (oX! e2 _ rfl ⟨l!,l!,l!⟩ _ _ rfl rfl (DA! (10 ^ 4)) l _ _ rfl rfl e2 Si! ?_);refine⟨_,rfl,_,_,rfl,rfl,⟨l!,l!,l!⟩,_,_,rfl,rfl,Kg!,?_⟩;obtain⟨p1,p2,p3⟩:=put (z % J? 10 ^ gm! 4);exact⟨_,_,_,rfl,p1,p2,p3⟩);.rw[BR! c1];refine Cu ⟨_,rfl,_,_,rfl,rfl,Kp!,_,_,rfl,rfl,_,_,rfl,rfl,DA! 2147483647,?_⟩;generalize (z*48271+12345) % 2147483647=y;refine oX! e2 _ rfl Kp! _ _ rfl rfl js! l _ _ rfl rfl e2 Si! ?_;obtain⟨p1,p2,p3⟩:=put (y*69621 % 2147483629);exact⟨_,_,_,rfl,p1,p2,p3⟩
 .rintro σ H2 ⟨xs,z,u,rfl,s2,e2,len⟩;exact m? (k l xs H2 s2 e2 len)
theorem qJ:Y? cC! cC! yB:={}
inductive Jl4(vs:C!)(H:Hp)(Q:VK)(E:XK):Prop
 | mk (z c:Int) (_:vs=Sa! z c) (_:∀(t:Addr)(x y:Int)(H':Hp),r?->jy! t (Sa! x y)->iy!)
theorem gNx(g:GG):EG 1 SV UJ cC! Jl4:=by
 refine EM! g.mNx.fn.JH qJ;obtain⟨z,c,rfl,k⟩:=h;refine X!;refine J5! (kx! (Cf! z!) (AU! (Cf! O?) (NG! O?))) (Z1! 0 qJ.nd (Cf! (Ry! (KE! O?))) (Ax (Bp (AU! (Cf! (KE! O?)) O?))));refine p5! _ _ rfl (DA! 2) rfl;by_cases c1:EQ! (c % 2)=V.int 1;.rw[EZ! c1];refine Cy ⟨_,rfl,_,_,rfl,rfl,DA! 1000,_,rfl,_,_,rfl,rfl,Kg!,Ee!,V? (k t _ _ _ Zo! Ab)⟩
 .rw[BR! c1];refine Cu ⟨_,rfl,_,_,rfl,rfl,Kp!,_,_,rfl,rfl,_,_,rfl,rfl,DA! 2147483647,?_⟩;generalize (z*48271+12345) % 2147483647=y;exact⟨_,rfl,_,_,rfl,rfl,Kp!,_,_,rfl,rfl,js!,_,rfl,Ee!,V? (k t _ _ _ Zo! Ab)⟩
theorem Jna{l:JU!}{cl:CW!}{y:Str}(h:l.all (λp=>p.2 != Gp!&&p.2 != Jg!)=true)(h2:Kx! l.lookup l.lookup):OU!:=by
 have key:∀k,U! l.lookup y k->Ix (k != Gp!&&k != Jg!):=λk e=>q4! (List.all_eq_true.mp h (y,k) (lookup_mem e)) this
 rcases h2 with e|e;.exact SP! (key _ e)
 .exact SP! (key _ e)
def kI(n:Nat):List Bool:=[n==0,n==1,n==2,n==3,n==4,n==5,n==6,n==7]
inductive Jb1(ex:Addr)(vs:C!)(H:Hp)(Q:VK):Prop
 | mk (cls:Addr) (n:Nat) (_:vs=[i! ex]) (_:Ch ex (ni ex cls)) (_:nC cls n) (_:∀H',r?->TA! n)
theorem ZZ:Y? ["_law_e","_law_some"] XH! Vo:={}
theorem Jgy{f:Addr}{fd:FuncData}(F:h! u1! u1! Vo)(g:GG):uL P w K mg base 1 f fd XH! Jb1:=by
 obtain⟨oc,od,kV,doc,pm,an,ED,ct,gA,rfl,lk,RE⟩:=F.ex;refine Jnb lk RE ZZ (λex vs H Q h=>?_) λex A outer s H vs Q hr h=>?_;.obtain⟨cls,n,rfl,_⟩:=h;rfl
 .obtain⟨cls,n,rfl,he,xf,k⟩:=h;refine OL! ZZ.nd (Dm (un! (LA! NH g.TW.cNH.mg) (LA! LG g.T.qt.mg) (LA! MQ g.T.qr.mg) (LA! MI g.T.cMI.mg))) (ZN! 1 ZZ.nd (Bc Jgh z! (Dm (un! (LA! NW g.T.cNW.mg) (LA! NL g.TP.cNL.mg) (LA! NI g.cNI.mg) (LA! NR g.cNR.mg)))) (vH! (tq (xc (Vr (F5 (Ut! Ek g.T.aG CM (U5! (Jjc (v:=.ty Ir!) EL! g.ua Jko rfl))))) (x_ (LQ! xb (Ut! Bo g.T.len CC (Aa (Jgc (te:=B7 0) (caps:=[]) rfl (Jf7 (pv 1)) rfl ZV rfl ZV rfl trivial (λy h=>Jna rfl h) trivial ZV (Uw! (Ed (F5 O?))) L3!) Ae)) Ag)))) (Joi Jlo Ag)) (F7 BN PySem.F.slot_list_index PySem.F.type_list_index Jd1 z! (am Gf)));have aG:∀{D:Addr} {b:Bool} {H':Hp} {Q':VK},r?->EK! W.kitOne (V! cls) (V! D) b->Q' (.bl b) H'->Sb K (d9! ex D) H' Q':=λ{D b H' Q'} s' kk q=>⟨ex,cls,i! D,i! D,b,rfl,rfl,G! s' he,xf.isX,kk,q⟩;refine wd! X6! xf.k0 X6! xf.k1 (wd! X6! xf.k2 X6! xf.k3 (Qd! (λa1 h1=>?_)));have s1:=Ym! [KC! 0,KC! 1,KC! 2,KC! 3] h1;refine fU! _ (aG s1 xf.k4 (m? (aG s1 xf.k5 (wd! s1 xf.k6 s1 xf.k7 (Qd! (λa2 h2=>?_))))));have s2:=Ym! [KC! 4,KC! 5,KC! 6,KC! 7] h2;refine⟨a1,a2,_,_,rfl,rfl,Hx! s2,Ab,gH! 8,λa3 h3=>?_⟩;have s3:=Ah (o:=.BF (dU!++dV!)) h3;have de:=r9!;have e3:U! (upd (BJ! (Bl! a1 .BF dU!) a2 .BF dV!) a3 (.BF (dU!++dV!))) a3 (.BF ((kI n).map V.bl)):=Ab;generalize Pl! (BJ! (Bl! a1 .BF dU!) a2 .BF dV!) a3 (dU!++dV!)=H3 at de e3 ⊢;refine m? ⟨ex,cls,.ty Ir!,Iw! Ir!,true,rfl,rfl,G! de he,xf.isX,xf.kV,true,rfl,?_⟩;refine At!;refine Ve! a3 (AC e3) (λp4 h4=>?_);refine Jbg (C:=cls) (ex:=ex) (xs:=(kI n).map V.bl) (tt:=tB (B7 0)) (te:=B7 0) (caps:=[]) (σ:=[YK!,d? a3]) (λi ys H4=>CB H3 H4/\I2! H4 p4/\ys=(((kI n).take i).filter id).map V.bl) (CT! (Ah h4) Ab) (λi ys H4 _ h=>⟨uZ! h.1 e3,h.2.1,FU! h.1 de he⟩) ?_ ?_;(.rintro i x ys H4 N hi ⟨s4,e4,rfl⟩ hN;rw[ZH] at hi;obtain⟨b,hb,rfl⟩:=Option.map_eq_some_iff.mp hi;have hlen:IN ((kI n).take i).filter id<sizeLine:=FY (AW ..) (FY (List.length_take_le' ..) (Is! (8<sizeLine)));refine fU! b ?_;cases b with | false =>refine Cu (d! hN (PP s4 e4));rw[CQ,hb];simp | true =>refine Cy (KL! e4 (Ef! hlen) (G! hN (PP (λb' o e=>?_) Ab)));(.rw[JC! h4];exact ET! s4);.rw[CQ,hb];simp);.rintro ys H4 ⟨s4,e4,rfl⟩;rw[ZA,BQ] at e4;(have l1:IN (kI n).filter id=1:=by have:=xf.lt;match n,this with | 0,_|1,_|2,_|3,_|4,_|5,_|6,_|7,_=>rfl);(have l2:(kI n).idxOf true=n:=by have:=xf.lt;match n,this with | 0,_|1,_|2,_|3,_|4,_|5,_|6,_|7,_=>rfl);refine⟨p4,_,rfl,Lz! e4,?_⟩;rw[ZA,l1];refine⟨rfl,false,D?,At!⟩;exact⟨_,rfl,DC! (d! s4 e3),a3,kI n,n,rfl,rfl,DI! e3,l2,xf.lt,k _ (Aj de s4)⟩
theorem gCs(g:GG):uL P w K mg base 1 TM UW XH! Jb1:=Jgy g.mCs.fn g
inductive Jqt(K:W.Frag)(x:V)(y:V)(H:Hp)(Q:VK):Prop
 | mk d e (_:aZ K H x d) (_:aZ K H y e) (_:a_ d) (_:a_ e) (_:KW! (! PyData.eqv d e))
theorem Jml{X:F!}(hu:KT!):lk! .NotEq Jqt:=by intro AA s σ H x y v u Q I rx ry h;obtain⟨d,e,r1,r2,o1,o2,q⟩:=h;obtain⟨as,g1⟩:=kV! rx;obtain⟨bs,g2⟩:=kW! ry;exact PySem.SeqAt.compareNe_reads g1 g2 o1.1 o2.1 (Co! o1.2) (TF! (.bl _))
theorem WI.upn(x:k!)(cA:Gy!)(cB:Iq!):tA! Bp! Jh! A' B' al:=by have a1:=x.md;have a2:=x.ez;have a3:=x.fz;have a4:=x.iz;exact{ x with wg:=x.wg.up,md:=B!,ez:=B!,fz:=B!,iz:=B!,pb:=A! (A_ cA x.pb.1) (A_ x.pb.2 cB) }
def RO(H:Hp)(x:Addr):Di! DD
 | .make h=>Fh! [AY! JF!,Cx!]
 | .hold h ta tb=>∃a b,Ty! AT/\E7!/\KB
 | .drop h ta tb=>∃a b,Ty! HV!/\E7!/\KB
 | .take h ta tb=>∃a b,Ty! HW!/\E7!/\KB
 | .free h tb=>∃b,Fh! [AY! HT!,Cx!,CK!]/\KB
 | .send h g tb=>∃b,Fh! (Zg! (AY! VH!))/\KB
 | .clean h=>Fh! [AY! JH!,Cx!]
 | .ask h=>Fh! [AY! Bc!,Cx!]
 | .KN n=>Fh! [AY! "come",g! n]
theorem RO.keep(k:wS)(h:RO H x dd):RO H' x dd:=by cases dd with | make h'=>exact jA! | hold h' ta tb=>obtain⟨a,b,h1,h2,h3⟩:=h;exact⟨a,b,Y1!,Y2!,jB!⟩ | drop h' ta tb=>obtain⟨a,b,h1,h2,h3⟩:=h;exact⟨a,b,Y1!,Y2!,jB!⟩ | take h' ta tb=>obtain⟨a,b,h1,h2,h3⟩:=h;exact⟨a,b,Y1!,Y2!,jB!⟩ | free h' tb=>obtain⟨b,h1,h2⟩:=h;exact⟨b,Y1!,Y2!⟩ | send h' g tb=>obtain⟨b,h1,h2⟩:=h;exact⟨b,Y1!,Y2!⟩ | clean h'=>exact jA! | ask h'=>exact jA! | KN n=>exact jA!
def kO(W:EF)(m:Nat):Di! DD
 | .send h g _=>h<m/\g<m
 | .KN n=>∃l1 l2 t,W.ls=l1++(n,t)::l2
 | d=>d.at<m
theorem Jkw{W V:EF}(x:FE!)(h:Tj!):kO V m dd:=by cases dd with | KN n =>obtain⟨l1,l2,t,e⟩:=h;(have:n∈b? V.ls.map:=by rw[<-x.nu,e];simp);obtain⟨⟨n',t'⟩,hz,rfl⟩:=ZN this;obtain⟨k1,k2,e2⟩:=HP hz;exact⟨k1,k2,t',e2⟩ | make h'=>exact h | hold h' ta tb=>exact h | drop h' ta tb=>exact h | take h' ta tb=>exact h | free h' tb=>exact h | send h' g tb=>exact h | clean h'=>exact h | ask h'=>exact h
def DoS(p:Addr)(H:Hp)(Q:VK)(E:XK)(x:Addr):Di! DD
 | .make h=>Sv! Pb
 | .hold h _ _=>∀a b,Ty! AT->Tw! Pc
 | .drop h _ _=>∀a b,Ty! HV!->Tw! Pf
 | .take h _ _=>∀a b,Ty! HW!->Tw! Pa
 | .free h _=>∀b,Fh! [AY! HT!,Cx!,CK!]->Pe [Go,Cx!,CK!] H Q E
 | .send h g _=>∀b,Fh! (Zg! (AY! VH!))->Lo (Zg! Go) H Q E
 | .clean h=>Sv! Jm
 | .ask h=>Sv! Ng
 | .KN n=>Ig [Go,PO!] H Q E
structure Uw(H:Hp)(v:V)(d:PyData):Prop where
 rep:aG! v
 ok:vs! 5
theorem Y6{H:Hp}:∀L:j!,Fw! (IP K H) (L.map λz=>X? z.1) (L.map pi).map T!
 | []=>S!
 | z::L=>C? (T! _) (Y6 L)
theorem Gz{H:Hp}{y:Addr}{L:j!}(e:Ch y xh!):Uw H (V! y) (Qq L):=by
 refine L? (cS! e Y6 L);obtain⟨h1,h2⟩:=xU (n:=1) (ds:=(L.map pi).map PyData.int) λd hd=>by obtain⟨i,_,rfl⟩:=ZN hd;exact s? (by simp[PyData.depth])
 unfold Qq;exact A! (by simp only[PyData.canLay0,h1]) (by simp only[PyData.depth];lia)
universe S
variable {H:Hp}{p xa:Addr}{W:EF}{D:T2->Prop}{m n d B B':Nat}{al:List LL}{ys:List Qy}{dd:DD}{Q:VK}{E:XK}
theorem Jnc(g:GG)(x:iV!)(hn:AD!)(hB:Aq!)(hd:d<900)(m4:m<=4)(cB:B+20<=B')(ok:Tj!)(hx:RO H xa dd)(k:∀(v:V) (dv:PyData) (W':EF) (D':y?) (al':M!) (DN:w!) (H':Hp),Uw H' v dv->k6! (bL dv)->fc! Bp! Jh! 0->TY!->bd!->LH!->NO!)(kE:∀cls i,nC cls i->Ef m W W al al ys ys H dd (jn i)->HL! cls):DoS p H Q E xa dd:=by
 have kk:KT p K W m n d 0 B' ys H Q (λv W' al' DN H'=>∃dv,Uw H' v dv/\k6! (bL dv)):=λv W' D' al' DN H' r fp wi fr mj=>by obtain⟨dv,h1,h2⟩:=r;exact k v dv W' D' al' DN H' h1 h2 wi fr fp mj
 have gu:∀{h:Nat},h<m->∃q G,J3!/\LD W i? q G:=λ{h} hh=>by obtain⟨⟨q,G⟩,e⟩:=mp! h x.wg.wl.len hh;exact⟨q,G,e,OR _,e⟩
 have tn:∀H',Uw H' .FG F?:=λH'=>Eb! (.one .FG) l!;have ti:∀H' i,Uw H' (GM i) (T! i):=λH' i=>Eb! (.one (T! i)) (by simp[PyData.depth]);cases dd with | make h =>obtain⟨q,G,hi,i⟩:=gu ok;exact(Jki x hn hB i C6! E! kk λt a W' H' et nw e=>WF ⟨.one (Pw et),(Jl _).1,Kb! (Jl _).2⟩ (.ID _ q G _ _ hi (.make h G a) e nw.toNv rfl rfl)) | hold h ta tb =>obtain⟨q,G,hi,i⟩:=gu ok;intro a b ex;obtain⟨a0,b0,cP,ea,eb⟩:=hx;rw[ex] at cP;cases cP;by_cases c1:AQ!/\wp;(.obtain⟨ha,hb⟩:=c1;by_cases c2:D3!;(.exact be! Jkj i ea eb ha hb c2 (pN! (.hold h ta tb G ha hb c2)));.exact bB! (AN! ⟨ha,hb,c2,eY! g.X2 2 (.rG h ta tb G ha hb c2)⟩));.exact bB! (oT! c1 .rH ta (Classical.not_and_iff_not_or_not.mp c1)) | drop h ta tb =>obtain⟨q,G,hi,i⟩:=gu ok;intro a b ex;obtain⟨a0,b0,cP,ea,eb⟩:=hx;rw[ex] at cP;cases cP;by_cases ha:AQ!;(.by_cases c2:D3!;(.by_cases hb:Jp!;(.exact be! Jkl i ea eb ha hb c2 (pN! (qx! .drop)));.obtain⟨ad,fd⟩:=(x.wg.BJ i.2).1.ok.find ha c2;exact bB! (sF! c2 (v5! hb g.X3 3 (qx! .rM))));.exact bB! (AN! ⟨ha,c2,eY! g.X2 2 (.rN h ta tb G ha c2)⟩));.exact bB! (oT! ha .rO ta ha) | take h ta tb =>obtain⟨q,G,hi,i⟩:=gu ok;intro a b ex;obtain⟨a0,b0,cP,ea,eb⟩:=hx;rw[ex] at cP;cases cP;have z1:=(x.wg.BJ i.2).1.ok.hz;by_cases ha:AQ!;(.by_cases c2:D3!;(.by_cases hb:Jp!;(.exact be! Jkg i ea eb ha hb c2 (pN! (qx! .take)));.obtain⟨ad,fd⟩:=(x.wg.BJ i.2).1.ok.find ha c2;exact vx! (ts! (sF! c2 (v5! hb g.X3 3 (qx! .take3)))));.exact vx! (ts! (AN! ⟨ha,c2,eY! g.X2 2 (.take2 h ta tb G ha c2)⟩)));.exact vx! (ts! (oT! ha .take1 ta ha)) | free h tb =>obtain⟨q,G,hi,i⟩:=gu ok;intro b ex;obtain⟨b0,cP,eb⟩:=hx;rw[ex] at cP;cases cP;by_cases hb:wp;(.exact Jkk x hn hB i eb hb C6! E! kk (pN! (Jg! h tb G hb)));.exact⟨p,_,_,W,rfl,x.wa,L! ⟨q,G,i,q,b,G,tb,rfl,i.at x.wa,eb,v5! hb g.X1 1 (.rL h tb G hb)⟩⟩ | send h g' tb =>obtain⟨o1,o2⟩:=ok;obtain⟨q,G,hi,i⟩:=gu o1;intro b ex;obtain⟨b0,cP,eb⟩:=hx;rw[ex] at cP;cases cP;by_cases hb:wp;(.exact Jkh x hn hB i (OR _) E! eb hb C6! E! kk (λW' G' l t H' se nw e=>WF (ti _ _) (.send h g' tb q G G' l t hi hb se e nw.toNv rfl rfl)) λc2 w0=>eY! g.X4 4 (.jV h g' tb G hb c2 w0));.have z1:=(x.wg.BJ i.2).1.ok.oz;have z2:=(x.wg.BJ i.2).1.ok.rz;have z3:=Kf!;obtain⟨q2,G2,_,i2⟩:=gu o2;exact⟨p,b,_,_,W,tb,q,G,rfl,x.wa,eb,i,⟨q2,G2,i2⟩,B!,B!,B!,oT! hb .jW g' hb⟩ | clean h =>obtain⟨q,G,hi,i⟩:=gu ok;exact(Jhw x hn hB i C6! E! kk λy W' k9 R' rs H' L rc pm pw nw e ey=>WF (Gz ey) (.clean h q G k9 R' rs L hi rc pm pw e nw.toNv rfl rfl)) | ask h =>obtain⟨q,G,hi,i⟩:=gu ok;exact(Jhx x hn hB hd i C6! E! kk λW' L H' io I nw el e=>WF (ti _ _) (.ask h io I L e nw.toNv rfl rfl)) | KN BJ =>obtain⟨l1,l2,t,el⟩:=ok;have lw:=x.lw;rw[el] at lw;obtain⟨a,z,b,es,p1,p2,p3⟩:=X6 lw;have ll:=R? p1;cases z with | w l=>exact tk! Ui E! (λy L bs W' q G G' H' hi we nw e ey=>sU! ⟨l1,l2,t,a,_,b,el,es,ll,nw.toNv,rfl,nw.fi,q,G,G',bs,hi,we,e,rfl⟩) | ask s g n' u=>exact be! Z1 hd el es p1 p2 p3 (hT! (sU! ⟨l1,l2,t,a,_,b,el,es,ll,nw.toNv,rfl,nw.fi,e,q,G,hs,os,rs,hi,tl,rfl⟩)) | JU s g n' u tk S=>exact be! Uj hd el es p1 p2 p3 (λv L W' al' DN H' e nv ey an=>sU! ⟨l1,l2,t,a,_,b,el,es,ll,nv,e,an⟩) | lt s g ts=>exact tk! Jhv E! (hT! (sU! ⟨l1,l2,t,a,_,b,el,es,ll,nw.toNv,rfl,nw.fi,q,G,hs,os,rs,hi,tl,e,rfl⟩))
universe E
theorem MM(k:tb D σ H)(ex:Ch x (.BE (AY! wd::r)))(hv:RB! (I6! x):=by rfl)(ne:¬wd=c:=by decide +kernel):tj! (YK Ss! (B7 i) Kr!) :=⟨_,hv,x,_,0,_,rfl,rfl,U6!,rc!,rfl,_,rfl,I! (GG! (Cm! (¬V.str wd=V.str c) (FZ! ne V.str.inj))) (Cu k)⟩
theorem Xl(k:ta D σ H)(ex:Ch x (.BE (AY! c::r)))(hv:RB! (I6! x):=by rfl):tj! (YK Ss! (B7 i) Kr!) :=⟨_,hv,x,_,0,_,rfl,rfl,U6!,rc!,rfl,_,rfl,I! (EZ! rfl) (Cy k)⟩
theorem Ez(W:EF)(n:Str)(h:([JF!,AT,HV!,HW!,HT!,VH!,JH!,Bc!,uc!]:P?).contains n=true):Ay! (Fc W).lookup n:=by simp only[OQ,List.contains_nil,Bool.or_false,Bool.or_eq_true,KU] at h;rcases h with h|h|h|h|h|h|h|h|h<;>(rw[h];exact Lb!)
theorem Jre(g:GG):GB 6 SM UA CJ! Pb:=dW! Jgl g.mWM.fn g.mM gMk
theorem Jo5(g:GG):GB 6 ND NV Ea! Pc:=dW! Jgm g.mWHo.fn g.mHo gHo
theorem Jo7(g:GG):GB 6 NJ NZ Ea! Pf:=dW! Jgp g.mWDr.fn g.mDr gDr
theorem Jo2(g:GG):GB 6 MZ NP Ea! Pa:=dW! Jgi g.mWTa.fn g.mTa gTa
theorem Jo6(g:GG):GB 6 NG NY R2! Pe:=dW! Jgo g.mWFr.fn g.mFr gFr
theorem Jo3(g:GG):GB 6 LR LX SN! Lo:=dp! (gSd g).mono
theorem Jo9(g:GG):GB 6 LV LZ CJ! Jm:=dp! (FX.EW.bC (gWC g)).mono
theorem Jpa(g:GG):GB 6 KQ KR CJ! Ng:=dp! (gAs g).mono
theorem Jo8(g:GG):GB 6 LU LY D8! Ig:=gDl g
theorem QR:iK! [eF!,VT!,"_law_told","_law_e"] VT! xk:={}
inductive Jl6(vs:C!)(H:Hp)(Q:VK)(E:XK):Prop
 | mk (p xa:Addr) (W:EF) (D:y?) (m n d B B':Nat) (al:M!) (ys:w!) (dd:DD) (_:jG! xa) (_:iV!) (_:AD!) (_:Aq!) (_:d<900) (_:m<=4) (_:B+20<=B') (_:Tj!) (_:RO H xa dd)
   (_:∀(t:Addr)(dv:PyData)(W':EF)(D':y?)(al':M!)(DN:w!)(H0 H':Hp),aZ K H' JK! dv->a_ dv->Ef m W W' al al' ys DN H0 dd dv->fc! Bp! Jh! 0->TY!->bd!->LH!->iy!)
theorem Jkm(h:dv.canLay0=true/\dv.depth<=5):a_ (bL dv):=by
 obtain⟨h1,h2⟩:=h;refine H7!;.unfold bL;simp only[PyData.canLay0,PyData.canLayAll0,h1,QF,QE];decide +kernel
 .unfold bL;simp only[PyData.depth,PyData.depthAll];lia
theorem Jof(n:Nat):a_ (jn n):=by
 refine H7!;.unfold jn;simp only[PyData.canLay0,PyData.canLayAll0,QF,QE];decide +kernel
 .unfold jn;simp only[PyData.depth,PyData.depthAll];lia
theorem Jfs(k:r?)(r:aG! v):Rep K H' v d:=by cases r with | one r=>exact .one (r.keep (HQ k)) | BF h p=>exact .BF (by rcases h with(e|⟨o,e⟩)|z;{ exact Dm! (d! k e) };{ exact HS! (CO! (ET! k)) };{ exact JW! }) (Ar (λ_ _ r=>r.keep (HQ k)) p)
theorem Fp.back{p:Addr}{W W':EF}{ys DN:w!}(f:Fp p W ys W' DN H1)(s:ap H1):bd!:=j? (by rcases B4! f with h|h|h;(.exact H?);(.exact IG!);.refine cr ?_;cases e:H b with | none=>rfl | some o=>rw[ET! s] at h;cases h)
theorem gDn(g:GG):EG 7 TK UT (uV! VT!) Jl6:=by
 refine EM! g.mDn.fn.JH QR;obtain⟨p,xa,W,D,m,n,d,nB,nB',al,ys,dd,rfl,wi,hn,hB,hd,m4,cB,ok,hx,k⟩:=h;refine X!;have GC:lc:=W?;refine VP! QR.nd (vP! Jmg) (Ad (Jf1 (i:=3) rfl rfl rfl QR.nd rfl rfl rfl g.cHE (λAA E ES hJ=>fk! g.mWM.mt Jre g.mWM.bd YP! g.mWHo.mt Jo5 g.mWHo.bd rp! (fk! g.mWDr.mt Jo7 g.mWDr.bd rp! g.mWTa.mt Jo2 g.mWTa.bd rp! (fk! g.mWFr.mt Jo6 g.mWFr.bd (AU! Ix! Ix!) g.mWSe.mt Jo3 g.mWSe.bd rp! (fk! g.mWCl.mt Jo9 g.mWCl.bd YP! g.mWAs.mt Jpa g.mWAs.bd YP! (xH! QR.nd (vP! (E6 (pl:=_) O? g.TW.cl g.mWDe.mt (Jo8 g) hr g.mWDe.bd hJ YP!))))))) (λex=>Af (wl! QR.nd (vP! (Jgd (gCs g) GC EL! g.mCs.mg g.mCs.fn.kp g.mCs.bd (am E?)))))) (Af (Ax (pv 2))));refine x0! (λt1 h1=>?_);have s1:=Vd! Yv! .FG h1;generalize H8! H t1 [Yv!,.FG]=H1 at s1;have VO:=wi.same s1;have ay:=hx.keep (HQ s1);obtain⟨dx,hp⟩:=VO.wa.ob;have fin:∀(v:V)(dv:PyData)(W':EF)(D':y?)(al':M!)(DN:w!)(H':Hp)(t:Addr),Uw H' v dv->k6! (bL dv)->WI H' p W' D' m Bp! Jh! 0 nB' al' DN->R9 p W ys H1 H'->Fp p W ys W' DN H1->LH!->RM! t->Is t (BJ! H' t .BE [Yv!,v]):=λv dv W' D' al' DN H' t tl ef OT fr fp eh ht=>by have s2:=PC! [Yv!,v] ht;exact k t (bL dv) W' D' al' DN H' _ (pc! .BE Ab (.one (AR! _)) (Jfs s2 tl.rep)) (Jkm tl.ok) ef (OT.same s2) (λb o e n1 n2=>G! s2 (fr b o (d! s1 e) n1 n2)) (fp.back s1) eh
 have YS:∀(i:Nat)(H2:Hp)(t:Addr),Ef m W W al al ys ys H1 dd (jn i)->CB H1 H2->Ay! H2 t->Is t (HK! t .BE [AY! "refused",g! i]):=λi H2 t ef s2 ht=>by have s3:=PC! [AY! "refused",g! i] ht;have cF:=r9!;exact k t (jn i) W D al ys H1 _ (pc! .BE Ab (.one (AR! _)) (.one (T! _))) (Jof i) ef ((wi.same cF).upn Am! E!) (λb o e _ _=>ET! cF) (Bu! (qH! IG!)) rfl
 have run:=λ(Q:VK)(E:XK)=>Jnc (Q:=Q) (E:=E) g VO hn hB hd m4 cB ok ay;cases dd with | make h =>have ex:=ay;dsimp only [RO] at ex;refine Xl (tt!) ex;exact rd! | hold h ta tb =>obtain⟨a,b,ex,_⟩:=id ay;refine MM (Xl (ty!) ex) ex;exact c3! a b ex | drop h ta tb =>obtain⟨a,b,ex,_⟩:=id ay;refine wU! (Xl (ty!) ex);exact c3! a b ex | take h ta tb =>obtain⟨a,b,ex,_⟩:=id ay;refine mU! (Xl (ty!) ex);exact c3! a b ex | free h tb =>obtain⟨b,ex,_⟩:=id ay;refine wU! (kL! ⟨_,rfl,p,dx,_,rfl,hp,Ez W _ ZV,_,rfl,xa,_,_,_,rfl,rfl,U6!,rfl,_,rfl,xa,_,_,_,rfl,rfl,U6!,rfl,?_⟩);exact c3! b ex | send h g9 tb =>obtain⟨b,ex,_⟩:=id ay;refine mU! (kL! ty!);exact c3! b ex | clean h =>have ex:=ay;dsimp only [RO] at ex;refine wU! (u4! (kL! tt!));exact rd! | ask h =>have ex:=ay;dsimp only [RO] at ex;refine mU! (u4! (kL! tt!));exact rd! | KN BJ =>have ex:=ay;dsimp only [RO] at ex;refine mU! (u4! (u4! (MM (tt!) ex)));exact rd!
def n5(n:Int)(kind:Str)(s g:Int)(th:T2)(x:Int):PyData:=Hm! (nK! kind (Hm! [YB th,g! x]))
def kQ(n:Int)(kind:Str)(s g k u:Int):PyData:=Hm! (nK! kind (Hm! (Sa! k u)))
def mJ(n s g:Int)(ts:D!):PyData:=Hm! (nK! HY! (Oq! (ts.map YB)))
theorem Jjz{H:Hp}{t:Addr}{n:Int}{kind:Str}{s g:Int}{tb:T2}{x:Int}(h:KO H t n kind s g tb x):DK! JK! (n5 n kind s g tb x):=by obtain⟨a,b,e1,e2,e3⟩:=h;exact pQ! e1 (C? DJ! (C? (AR! _) (C? DJ! (C? DJ! (C? (pc! .tupP e2 (Pw e3) DJ!) S!)))))
theorem Jc5{H:Hp}{t:Addr}{n:Int}{kind:Str}{s g k u:Int}(h:UD! n kind k):DK! JK! (kQ n kind s g k u):=by obtain⟨a,e1,e2⟩:=h;exact pQ! e1 (C? DJ! (C? (AR! _) (C? DJ! (C? DJ! (C? (pc! .tupP e2 DJ! DJ!) S!)))))
theorem Jms{H:Hp}{t:Addr}{n s g:Int}{ts:D!}(h:oZ! n):DK! JK! (mJ n s g ts):=by obtain⟨a,as,e1,e2,th⟩:=h;exact pQ! e1 (C? DJ! (C? (AR! _) (C? DJ! (C? DJ! (C? (.tupP (DL.of e2) (Kb th)) S!)))))
theorem Jj0{n:Int}{kind:Str}{s g:Int}{th:T2}{x:Int}(hk:hX!\/kind=wv\/kind=BC!\/kind=Ah!):(n5 n kind s g th x).canLay0=true/\(n5 n kind s g th x).depth<=20:=by
 have t1:(YB th).canLay0=true:=(U1 th).1;refine H7!;.rcases hk with rfl|rfl|rfl|rfl;all_goals unfold n5;simp only[PyData.canLay0,PyData.canLayAll0,t1,QF,QE];decide +kernel
 .unfold n5;simp[PyData.depth,PyData.depthAll,YB]
theorem Jc6{n:Int}{kind:Str}{s g k u:Int}(hk:kind=Bc!\/kind=Gw!):(kQ n kind s g k u).canLay0=true/\(kQ n kind s g k u).depth<=20:=by
 refine H7!;.rcases hk with rfl|rfl;all_goals unfold kQ;simp only[PyData.canLay0,PyData.canLayAll0,QF,QE];decide +kernel
 .unfold kQ;simp[PyData.depth,PyData.depthAll]
theorem U0(ts:D!):∀d∈ts.map YB,a7!:=λd hd=>by obtain⟨t,_,rfl⟩:=ZN hd;exact A! (Jl t).1 (Kb! (Jl t).2)
theorem Jik(ts:D!):∀d∈ts.map YB,vs! 5:=λd hd=>by obtain⟨t,_,rfl⟩:=ZN hd;exact A! (Jl t).1 (by unfold YB;simp[PyData.depth,PyData.depthAll])
theorem Jmt{n s g:Int}{ts:D!}:(mJ n s g ts).canLay0=true/\(mJ n s g ts).depth<=20:=by
 obtain⟨h1,h2⟩:=xU (Jik ts);refine H7!;.unfold mJ;simp only[PyData.canLay0,PyData.canLayAll0,h1,QF,QE];decide +kernel
 .unfold mJ;simp only[PyData.depth,PyData.depthAll];lia
theorem KP.kd{m:Nat}{l:LT}(h:IO!):l.kind=AT\/l.kind=wv\/Xm!\/Fs!:=by
 rcases h.2.2.2 with⟨h,_⟩|⟨h,_⟩|⟨h,_⟩|⟨h,_⟩;.exact H?
 .exact IG!
 .exact cr G9!
 .exact cr R9!
def llD(n:Int):LL->PyData
 | .w l=>n5 n l.kind l.s l.g l.th l.x
 | .ask s g k u=>kQ n Bc! s g k u
 | .JU s g k u _ _=>kQ n Gw! s g k u
 | .lt s g ts=>mJ n s g ts
def Zl:A?->M!->Jx!
 | n::ns,l::ls=>llD n l::Zl ns ls
 | _,_=>[]
theorem Jmu{H:Hp}{FA:j!}{y:qq!}{z:LL}(h:oP!):DK! (V! y.2) (llD y.1 z):=by cases z with | w l=>exact Jjz h | ask s g k u=>exact Jc5 h | JU s g k u t S=>exact Jc5 h.1 | lt s g ts=>exact Jms h
theorem Mh{H:Hp}{FA:j!}{ys:j!}{ls:M!}(p:CH! (KI H FA) ys ls):Ro! IP (ys.map λy=>WP y.2) (Zl (Iu! ys.map) ls):=gR! p S! (C? (Jmu h) ih)
theorem Jy{m:Nat}:∀{ns:A?} {ls:M!},(∀l∈JF ls,IO!)->∀d∈Zl ns ls,a7!
 | [],_,_,d,h=>JS!
 | _::_,[],_,d,h=>JS!
 | n::ns,l::ls,k,d,h=>by rcases ZM h with rfl|h;(.cases l with | w l=>exact Jj0 (k l LS!).kd | ask s g k u=>exact Jc6 (B? rfl) | JU s g k u t S=>exact Jc6 (N? rfl) | lt s g ts=>exact Jmt);.refine Jy (S? (k z ?_)) d h;cases l with | w l=>exact ZD _ hz | ask s g k u=>exact hz | JU s g k u t S=>exact hz | lt s g ts=>exact hz
theorem Tp{R:Uf qq! LL}{ys:j!}{ls:M!}(p:O9! ys ls)(ne:ys≠[]):o? (Zl (Iu! ys.map) ls).isEmpty:=by cases p with | nil=>exact GS! ne | cons _ _=>rfl
theorem Nu{ls:M!}:(Zl (Iu! ([]:j!).map) ls).isEmpty=true:=by cases ls<;>rfl
theorem KI.BE{H:Hp}{FA:j!}{y:qq!}{z:LL}(h:oP!):∃xs,Ch y.2 (.BE (g! y.1::xs)):=by cases z with | w l=>obtain⟨a,b,e,_⟩:=h;exact Af! | ask s g k u=>obtain⟨a,e,_⟩:=h;exact Af! | JU s g k u t S=>obtain⟨⟨a,e,_⟩,_⟩:=h;exact Af! | lt s g ts=>obtain⟨a,as,e,_⟩:=h;exact Af!
theorem J9(ds:Jx!):PyData.eqv (Bf! ds) (Bf! [])=ds.isEmpty:=by cases ds<;>rfl
theorem Vx:a_ (Bf! []):=E7 λd hd=>Bg! hd
inductive Jqv(K:W.Frag)(x:V)(y:V)(H:Hp)(Q:VK):Prop
 | mk (p xs i v) (_:x=Go) (_:y=JM!) (_:mO!\/Ze! xs) (_:bx!) (_:Q v H)
theorem Jm6{X:F!}:uR X (Jqv Kx):=by
 intro value slice AA s σ H x y v u Q I rx ry h hs;obtain⟨p,xs,i,z,e1,e2,hq|hq,he,q⟩:=h;.exact Bq value slice AA s σ H x y v u Q I rx ry ⟨p,xs,i,z,e1,e2,hq,he,q⟩ hs
 .exact Az value slice AA s σ H x y v u Q I rx ry ⟨p,xs,i,z,e1,e2,hq,he,q⟩ hs
theorem Jqd:Y? cm! cm! xn:={}
inductive Jl3(vs:C!)(H:Hp)(Q:VK)(E:XK):Prop
 | mk (s:Addr) (x:Int) (v:V) (as:J!) (_:vs=[i! s,g! x,v]) (_:DS K H s Yw!\/DL K H s Yw!) (_:Q v H) (_:∀a∈as,Is a H)
theorem tK(g:GG):EG 1 SS UG cm! Jl3:=by
 refine EM! g.mPk.fn.JH Jqd;obtain⟨s,x,v,as,rfl,sq,k0,k1⟩:=h;refine s? (λED A outer s' hr=>?_);refine J5! (i3! (Nw! O?) (Vm! 2)) (BO! (Ay Jm6 O? (Bc Cj z! (Nw! O?))));refine⟨_,rfl,s,_,rfl,sq,rfl,_,rfl,?_⟩;refine J0 (λ_=>m? k0) (λcc=>?_);have aX:Uy! bO!:=by (have:¬a1! bO! 0:=by simpa using cc);have h2:bO!≠0:=λz=>this (ww z);lia
 have j0:=a3! x bO!;have j1:=DW x aX;obtain⟨a,ha⟩:=O2! as (CQ! (x % bO!)) (by rw[ZA] at j0 j1 ⊢;lia);exact⟨_,rfl,_,rfl,_,rfl,s,_,rfl,sq,_,_,rfl,rfl,aX,s,_,_,_,rfl,rfl,sq,pR! j0 ha,k1 a (ZP ha)⟩
theorem iT:Y? ["_law_state","_law_a","_law_thing","_law_out","_law_holds"] ox! Vn:={}
inductive Je9(vs:C!)(H:Hp)(Q:VK)(E:XK):Prop
 | mk (x y1 y2 y3 a:Addr) (bs:C!) (os:B6!) (ta:T2) (_:vs=[i! x,Aj!]) (_:Fh! (cg! y1 y2 y3)) (_:O0! y2 bs) (_:n0! H os) (_:E7!) (_:∀(hd:Addr)(cs:J!)(H':Hp),r?->A5! hd (PB! cs.map)->(∀c∈cs,∃t,A5! c (G4! t))->dt! hd)
theorem Xv(h:IC! hl):∀c∈cs,∃t,ds! c t:=λc hc=>by obtain⟨j,hj⟩:=CV.mp hc;obtain⟨t,ht⟩:=O2! hl j (Dp! (Paired.length h) hj);exact A! t (Av h j c t hj ht)
theorem gHb(g:GG):EG 1 TC UQ ox! Je9:=by
 refine EM! g.mHb.fn.JH iT;obtain⟨x,y1,y2,y3,a,bs,os,ta,rfl,ex,e2,rows,ea,k⟩:=h;refine X!;refine I4! (wN! (Gu iN!) (sV! (i9! iT.nd) (I5! 3 iT.nd) (I5! 4 iT.nd)) (Se! (Yr! Qp W! z!) (Vm! 4))) (VY! Ae);refine⟨_,rfl,x,_,_,_,rfl,rfl,U6!,rfl,y2,rfl,e? (NE e2),?_⟩;refine Iv (K:=K) (a:=y2) (xs:=bs) (λj σ H2=>H2=H/\(∃u1 u2 u3,σ=[iC!,He!,u1,u2,u3])) ⟨rfl,_,_,_,rfl⟩ (λj σ H2 _ h=>I! h.1 (NE e2)) ?_ (λσ H2 h=>?_);.rintro j v σ H2 hj ⟨rfl,u1,u2,u3,rfl⟩;obtain⟨r,IW⟩:=bS! os rows;obtain⟨a',t,hd,cs,rfl,e3,e4,e5,e6⟩:=Av rows j v r hj IW;refine tq! a' (NE e3);refine⟨_,rfl,_,rfl,YB r.1,YB ta,.one (Pw e4),.one (Pw ea),U1 r.1,U1 ta,_,rfl,?_⟩;refine J0 (λ_=>m? (k hd cs _ X6! e5 (Xv e6))) (λ_=>⟨rfl,_,_,_,rfl⟩)
 .obtain⟨rfl,u1,u2,u3,rfl⟩:=h;exact Hp! (V? (k t [] _ Zo! Ab nT!))
theorem qK:iK! [eF!,VR!,"_law_lying"] VR! xi:={}
inductive Jl8(vs:C!)(H:Hp)(Q:VK)(E:XK):Prop
 | mk (p:Addr) (x:Int) (W:EF) (D:y?) (m n d A B:Nat) (al:M!) (ys:w!) (_:vs=[Go,g! x]) (_:k!) (_:∀(t:Addr)(dd:DD)(H':Hp),M2! r? (RO H' t dd) Tj! t)
theorem gCo(g:GG):EG 3 TN UX (uV! VR!) Jl8:=by
 refine EM! g.mCo.fn.JH qK;obtain⟨p,x,W,D,m,n,d,nA,nB,al,ys,rfl,wi,k⟩:=h;refine X!;have OK:NI!:=W?;refine VP! qK.nd tX! (Ad (Bl (Yr! Qp W! ED!) (VY! (YF! Ag)) Bb) (Af (Ax (Bp (YF! (Dh! (Ay Bq W! (Ay Bq (Dm (Fn! Ag (Bc Vu (Nw! W!) Ag) (Bc Cj (NG! z!) (Nw! W!)))) (Cf! z!)))))))));obtain⟨dx,hp⟩:=wi.wa.ob;refine qs! dx hp Lb! W wi.wa (λl H2 hl el s2=>?_);have aB:=wi.same s2;refine HQ! sw (λr IW=>⟨_,_,tS! el aB.lw,qa!,E7 (Jy aB.wg.wl.ok),Vx,_,rfl,?_⟩);have s3:=Nn!;generalize TB! r=H3 at s3;have cF:=Aj s2 s3;have aK:=CY! el;by_cases e0:W.ls=[];.rw[J9,e0,Nu];exact Cy (A! tz! (V? (k t (.make 0) _ (Aj cF (Ah ht)) Ab wi.m1)))
 .rw[J9,Tp aB.lw e0];refine At!;(have aX:Uy! N1!:=by rw[ZA];have:=TQ!;lia);have x0:=DQ x (Xj! (J? 3));have x1:=DW x (wq! 3);have z0:=DQ (x / 3) (LF! (N1!≠0));have z1:=DW (x / 3) aX;(obtain⟨j,ej,hj⟩:∃j:Nat,YG [X? 0,EQ! (N1!-1),EQ! (x / 3 % N1!)] (x % 3)=some (GM A4!)/\j<W.ls.length:=by have hl:=ZA (as:=W.ls) (f:=d7!);rcases(FK! (x % 3=0\/x % 3=1\/x % 3=2)) with e|e|e;(.exact⟨0,KM e,TQ!⟩);(.exact⟨W.ls.length-1,by rw[e];show Cr! V.int _=_;congr 2;rw[hl];have:=TQ!;lia,Co! TQ!⟩);.exact⟨CQ! (x / 3 % N1!),by rw[e];show Cr! V.int _=_;congr 2;lia,by rw[hl] at z0 z1 ⊢;lia⟩);obtain⟨⟨BJ,t2⟩,hy⟩:=Ao hj;have jH:Jv! (YG (W.ls.map d7!) A4!) t2:=Gw (B!) (LI! ZH CA hy);obtain⟨lt,JS⟩:=O2! al j (G? (R? wi.lw) hj);obtain⟨a1,kF⟩:=KI.BE (Av aB.lw _ _ _ hy JS);have kF:Mr! t2 (.BE (X? BJ::a1)):=kF;obtain⟨l1,l2,wW⟩:=HP (ZP hy);refine⟨_,rfl,_,rfl,l,_,rfl,Lz! aK,_,_,rfl,rfl,_,rfl,_,_,rfl,rfl,Kg!,_,rfl,l,_,rfl,Lz! aK,_,_,rfl,rfl,aX,xy! 3,g6!⟩;have s4:=Ym! [X? 0,EQ! (N1!-1),EQ! (x / 3 % N1!)] hc;exact⟨_,rfl,_,_,rfl,rfl,DA! 3,c,_,_,_,rfl,rfl,AC Ab,ej,l,_,_,_,rfl,rfl,uZ! s4 aK,jH,t2,_,0,_,rfl,rfl,NE (CP! s4 s3 kF),rc!,Ee!,V? (k t (.KN BJ) _ (Aj cF (Aj s4 Zo!)) Ab ⟨l1,l2,t2,wW⟩)⟩
theorem bV:Y? [eF!,"_law_xs",JN!,eH!,"_law_state","_law_near","_law_a","_law_b","_law_way"] rU! xj:={}
def Jnw:TT:=Ky (YK i_ (YK Ss! (B7 0) Kr!) (B7 1))
inductive Jl7(vs:C!)(H:Hp)(Q:VK)(E:XK):Prop
 | mk (p l:Addr) (W:EF) (D:y?) (m n d A B:Nat) (al:M!) (ys:w!) (x0 x1 x2 x3 x4 x5 x6:Int) (_:fP! (i! l) AC!) (_:uo! l [g! x0,g! x1,g! x2,g! x3,g! x4,g! x5,g! x6]) (_:k!) (_:AD!) (_:Aq!) (_:∀(t:Addr)(dd:DD)(H':Hp),M2! r? (RO H' t dd) Tj! t)
theorem Jlf(g:GG):EG 3 LQ LW CJ! (pD! P0):=FX.EW.no (Jrc g)
theorem gDe(g:GG):EG 4 TL UU rU! Jl7:=by
 refine EM! g.mDe.fn.JH bV;obtain⟨p,l,W,D,m,n,d,nA,nB,al,ys,x0,x1,x2,x3,x4,x5,x6,rfl,el,wi,hn,hB,k⟩:=h;refine X!;have GC:lc:=W?;have OK:NI!:=W?;have c9:DM 3 _:=W?;refine I4! (Au (i:=3) bV.nd rfl (Or.inr rfl) (Bc Cj Gb! W!)) (Ad (Uo! 4 bV.nd (ve! g.TW.cl g.mWSt.mt (Jlf g) c9 g.mWSt.bd (am E?))) (LP! (Ki (i:=5) (tt:=Jnw) (te:=B7 0) (caps:=[(eH!,3)]) bV.nd rfl rfl rfl rfl (Gu iO!) rfl ZV rfl ZV rfl JX! Kd! Jd! ZV (dS! Cr iN! z!) L3!) (LR! 6 bV.nd (sq! (Fn! AO! Gb! (SW! (Cf! Gb!))))) (t8! 7 bV.nd (sq! (Fn! iO! Gb! (Bp (AU! (Bc Cj Gb! W!) Ag)))) (LR! 8 bV.nd (Cf! Gb!)) (MM! (vH! (tq (Jmd (wG! (pv 8)) (Ji8 (Yr! Jmm tX! ED!)))) (JA! gCo c9 g.mCo.mg g.mCo.fn.kp g.mCo.bd (U5! Gb!))) (ky! (YF! E?)) (ky! (kp! Hd! Ms!)) (kx! (pv 8) (kp! Hd! (sq! (Aa (sI! gHb GC g.mHb.mg g.mHb.fn.kp g.mHb.bd (YG! Hd!)) (AU! Gb! Ms!))))) (MM! (kx! (pv 8) (kp! Hd! (sq! (Aa (sI! gHb GC g.mHb.mg g.mHb.fn.kp g.mHb.bd (YG! Hd!)) (AU! Gb! Ms!))))) (ky! (Fn! Bi E? Ms!)) (ky! (kp! (Bc Cj Gb! W!) Ms!)) (Bl (tq (xc (t7! (pv 8) Ag) (x_ (LQ! uK (Ut! Bo g.T.len CC (Aa (Cq (pl:=_) O? g.TW.cl g.mWLe.mt (pK g) OK g.mWLe.bd S! Ba) Ae)) Ag)))) (VY! (YF! E?)) Bb) (VY! (YF! E?)))))));have fM:Uy! AC!:=by have:=wi.m1;lia
 refine⟨_,rfl,l,_,_,_,rfl,rfl,AC el,rfl,_,rfl,_,_,rfl,rfl,fM,?_⟩;have h0:=a3! x1 AC!;have h1:=DW x1 fM;obtain⟨h,eh,hm⟩:∃h:Nat,x1 % AC!=i?/\h<m:=bg! (CQ! (x1 % AC!));rw[eh];clear h0 h1 eh;obtain⟨⟨q,G⟩,hq⟩:=mp! h wi.wg.wl.len hm;have i:LD W i? q G:=A! (OR _) hq;have gd:=Jz! wi.wg.wl.good hq;obtain⟨hs,os,rs,LF⟩:=gd.told;obtain⟨dx,hp⟩:=wi.wa.ob;refine xJ! i? wi.wa (L! ⟨q,G,i,q,G,hs,os,rs,rfl,i.at wi.wa,gd.h2,gd.o2,gd.r2,LF.pm,LF.pw,LF.PM,LF.pr,LF.wr,λx H1 s1 st=>?_⟩);obtain⟨y1,y2,y3,as,bs,ds,ex,e1,t1,e2,r2,_,_⟩:=st;have las:as.length=hs.length:=R? t1;have lhs:=LF.pm.length_eq;have zhd:=gd.h2;refine⟨_,rfl,x,_,_,_,rfl,rfl,U6!,rfl,y1,rfl,e? Pj!,λnr hnr=>?_⟩;have s4:=JJ! hnr;refine Z5 (K:=K) (a:=y1) (xs:=Ep!) (tt:=Jnw) (te:=B7 0) (caps:=[(eH!,3)]) (λj ys Hc=>CB H1 Hc/\I2! Hc nr/\∃zs:J!,ys=I0! zs.map/\zs.length<=j/\∀z∈zs,∃t,hl! H1 z) ⟨s4,Ab,[],rfl,ii,S? Me!⟩ (λj ys Hc _ hc=>A! (iJ! hc.1 e1) hc.2.1) ?_ ?_;.rintro j x' ys Hc N hj ⟨sc,en,zs,rfl,zl,al⟩ kC;rw[ZH] at hj;cases tF:as[j]? with | none=>rw[tF] at hj;cases hj | some aj =>rw[tF] at hj;cases hj;have pC:=Bm! tF;obtain⟨tj,ox⟩:=O2! hs j (G? las pC);have ej:U! H1 aj (G4! tj):=Av t1 _ _ _ tF ox;refine⟨_,rfl,aj,_,_,_,rfl,rfl,iJ! sc ej,rfl,_,rfl,rfl,_,rfl,?_⟩;refine J0 (λcc=>?_) (λcc=>?_);(.refine KL! en Si! (G! kC ⟨Hr!,Ab,zs++[aj],Qi!,LD! ZE EI,Dr!⟩);(.rw[JC! hnr];exact HX! sc);.rcases A8! with hz|hz;(.exact Ag! al);.rw[ZK hz];exact A! tj ej);.exact G! kC ⟨sc,en,zs,rfl,B!,al⟩
 rintro DN H2 ⟨ri,enr,zs,rfl,_,azs⟩;have s2:=Aj s1 ri;dsimp only [uO];refine uE (λEV H'=>∃a ta,EV=[CZ!,M3!,KI!,ut i?,iC!,d? nr,He!,none,none]/\CB H2 H'/\Cu! H' (G4! ta)) (λnx jE=>?_) ?_;.refine⟨_,rfl,_,rfl,l,_,_,_,rfl,rfl,KX! s2,rfl,_,rfl,_,rfl,l,_,_,_,rfl,rfl,KX! s2,rfl,_,_,rfl,rfl,DA! 3,tz!,g6!⟩;have s3:=Vd! (g! i?) (T! (x2 % 3)) hc;refine⟨nr,x2,_,zs,rfl,Lz! (d! s3 enr),nj! c (i?,x2 % 3) s3 Ab,XW!⟩;obtain⟨t,et⟩:=azs a ha;exact nj! a t s3 (FU! s3 ri et)
 rintro dZ H3 ⟨a,ta,rfl,ji,ea⟩;have s3:=Aj s2 ji;have cF:=Aj ri ji;refine uE (λEV H'=>∃b tb,EV=[CZ!,M3!,KI!,ut i?,iC!,d? nr,He!,d? b,none]/\CB H3 H'/\PD! (G4! tb)) (λnx jE=>?_) ?_;.refine⟨_,rfl,x,_,_,_,rfl,rfl,iJ! cF ex,rfl,_,rfl,l,_,_,_,rfl,rfl,KX! s3,rfl,_,rfl,l,_,_,_,rfl,rfl,KX! s3,rfl,_,rfl,_,_,rfl,rfl,fM,tz!,g6!⟩;have s4:=PC! [T! (x3 % AC!),g! 0] hc;refine⟨y1,x3,_,as,rfl,G5! DL.of (CP! s4 cF e1),nj! c (x3 % AC!,0) s4 Ab,JQ!⟩;obtain⟨t,et⟩:=Xv t1 b hb;exact nj! b t s4 (FU! s4 cF et)
 rintro σ4 H4 ⟨b,tb,rfl,jh,eb⟩;have s4:=Aj s3 jh;have oM:=Aj cF jh;have ea:=G! jh ea;have el:=DI! el;have ex:=G! oM ex;have e2:=G! oM e2;have r2:n0! H4 os:=ao! oM r2;have cn:=wi.same s4;clear s3 cF jh ji ri s2 s1 azs enr t1 e1;refine⟨_,rfl,l,_,_,_,rfl,rfl,AC el,rfl,_,_,rfl,rfl,DA! 20,?_⟩;generalize x0 % 20=wy;have go:∀(t:Addr)(dd:DD)(H5:Hp)(xs:C!),CB H4 H5->Ay! H5 t->RO (BJ! H5 t .BE xs) t dd->Tj!->Is t (BJ! H5 t .BE xs):=λt dd H5 xs s5 ht at' gZ=>k t dd _ (Aj s4 (Aj s5 Zo!)) at' gZ;have x4b:∃g9:Nat,x4 % AC!=J? g9/\g9<m:=⟨CQ! (x4 % AC!),Co! (a3! x4 AC!),by have:=DW x4 fM;have:=a3! x4 AC!;lia⟩;obtain⟨bK,g7⟩:=cn.wa.ob;dsimp only [uO];refine uE (λEV H'=>EV=[CZ!,M3!,KI!,ut i?,iC!,d? nr,He!,d? b,ut wy]/\CB H4 H') (λnx jE=>?_) ?_;.refine d6! _ rfl rfl _ rfl ?_;by_cases c6:wy<6;(.rw[EZ! c6];refine Cy (qs! bK g7 Lb! W cn.wa (λl5 H5 hl5 wZ s5=>?_));have fx:=cn.same s5;refine Hp! (λr IW=>⟨_,_,tS! wZ fx.lw,qa!,E7 (Jy fx.wg.wl.ok),Vx,_,rfl,?_⟩);have s6:=Nn!;generalize ed! H5 r=H6 at s6;have gV:=Aj s5 s6;refine J0 (Vi!) (λ_=>G! jE (s? gV));exact⟨_,rfl,_,rfl,l,_,_,_,rfl,rfl,KX! gV,rfl,p,x4,W,D,m,n,d,nA,nB,al,ys,rfl,fx.same s6,λt dd H7 s67 at7 r8=>k t dd H7 (Aj s4 (Aj gV s67)) at7 r8⟩);.rw[BR! c6];exact Cu (Cu (d! jE (s? (CB.refl _))))
 rintro rR H5 ⟨rfl,OJ⟩;refine qz! (ar! (rl! .make H5 OJ));refine qz! (ar! ⟨_,rfl,_,rfl,_,rfl,xO!,e8! (VX! .hold) H5 OJ ⟨a,b,Ab,kg! ea,kg! eb⟩⟩);refine c4! (ar! (d6! rfl _ rfl _ rfl ⟨x,y1,y2,y3,a,bs,os,ta,rfl,G! OJ ex,G! OJ e2,ao! OJ r2,G! OJ ea,λhd cs H6 aD wb each=>⟨_,rfl,l,_,_,_,rfl,rfl,AC (CP! aD OJ el),rfl,_,rfl,hd,x4,_,cs,rfl,G5! DL.of wb,Qd! (e8! (VX! .drop) H6 m0! ⟨a,b,Ab,m2!,xi! eb⟩),λc hc=>Qd! (V? ((each c hc).elim λtc ec=>go t (.drop h ta tc) H6 _ m0! ht ⟨a,c,Ab,m2!,Ah ht _ _ ec⟩ hm))⟩⟩));refine c4! (ar! (d6! rfl _ rfl _ rfl ⟨x,y1,y2,y3,a,bs,os,ta,rfl,G! OJ ex,G! OJ e2,ao! OJ r2,G! OJ ea,λhd cs H6 aD wb each=>⟨_,rfl,l,_,_,_,rfl,rfl,AC (CP! aD OJ el),rfl,_,rfl,hd,x4,_,cs,rfl,G5! DL.of wb,Qd! (e8! (VX! .take) H6 m0! ⟨a,b,Ab,m2!,xi! eb⟩),λc hc=>Qd! (V? ((each c hc).elim λtc ec=>go t (.take h ta tc) H6 _ m0! ht ⟨a,c,Ab,m2!,Ah ht _ _ ec⟩ hm))⟩⟩));refine qz! (ar! ⟨_,rfl,_,rfl,xy! 3,e8! (Jg! h tb) H5 OJ ⟨b,Ab,kg! eb⟩⟩);refine qz! (J0 (Vi!) (Vi!));.obtain⟨g9,eg,hg⟩:=x4b;refine⟨_,rfl,_,rfl,l,_,_,_,rfl,rfl,KX! OJ,rfl,_,rfl,_,_,rfl,rfl,fM,_,rfl,xO!,GD!⟩;rw[eg];exact go t (.send h g9 tb) H5 _ OJ ht ⟨b,Ab,kg! eb⟩ (A! hm hg)
 have fx:=cn.same OJ;obtain⟨eX,dq⟩:=fx.wa.ob;refine c4! ?_;by_cases c18:a1! wy 18;.rw[EZ! c18];exact Cy (Cy (rl! .clean H5 OJ))
 .rw[BR! c18];refine Cu (qs! eX dq Lb! W fx.wa (λl6 H6 hl6 pV s6=>⟨l6,_,rfl,Lz! pV,_,_,rfl,rfl,_,rfl,J0 (λ_=>rl! .clean H6 (Aj OJ s6)) (λ_=>rl! .ask H6 (Aj OJ s6))⟩))
structure Mv(p:Addr)(W:EF)(ys:w!)(W':EF)(DN:w!)(H H':Hp):Prop where
 fr:TY!
 fp:bd!
theorem Mv.refl{p:Addr}{W:EF}{ys:w!}(s:r?):Mv p W ys W ys H H':=A! (λb o e _ _=>ET! s) (j? (qH! IG!))
theorem Mv.trans{p:Addr}{W W' W2:EF}{ys DN n_:w!}(a:wO! H1)(b:Mv p W' DN W2 n_ H1 H2):Mv p W ys W2 n_ H H2:=by
 have key:∀c o,Ch c o->c∉ER!->c∉TH!->U! H1 c o/\c∉KG!/\c∉DN.flatMap C7:=λc o e n1 n2=>by (have no:¬(c∈KG!\/c∈DN.flatMap C7):=λz=>by rcases a.fp c z with h|h|h;(.exact n1 h);(.exact n2 h);.rw[e] at h;cases h);exact⟨a.fr c o e n1 n2,FZ! no B?,FZ! no N?⟩
 refine A! (λc o e n1 n2=>?_) g6!;.obtain⟨e1,n3,n4⟩:=key c o e n1 n2;exact b.fr c o e1 n3 n4
 .rcases b.fp c hc with h|h|h;(.exact a.fp c G9!);(.exact a.fp c (N? h));.cases e:H c with | none=>exact cr rfl | some o =>by_cases n1:c∈ER!;(.exact H! n1);.by_cases n2:c∈TH!;(.exact AN! n2);.have:=a.fr c o e n1 n2;rw[h] at this;cases this
theorem Mv.post{p:Addr}{W W':EF}{ys DN:w!}(b:wO! H1)(s:CB H1 H2):wO! H2:=b.trans (Mv.refl s)
theorem Jes(h:oW! sh):QN!:=by
 rcases h with⟨_,w,_⟩|⟨_,⟨_,rfl,_⟩|⟨_,rfl,_⟩⟩;.exact w.kY.2.2.1
 .rfl
 .rfl
theorem eE.len(h:lS!):DN.length=ys.length/\D4 W'.qs=D4 W.qs:=by obtain⟨l1,l2,t,a,z,b,_,_,_,_,h⟩:=h;cases z with | w l =>obtain⟨e,_,q,G,G',bs,hi,w,e2,_⟩:=h;exact Qe! O7! e2 (mN hi (Jes w)) | lt s g ts =>obtain⟨e,_,q,G,hs,os,rs,hi,_,e2,_⟩:=h;exact Qe! O7! e2 (mN hi rfl) | ask s g n u=>exact Qf! (ww h.1) h.2.2.1 | JU s g n u tk S =>obtain⟨e,y,y',i1,i2,new,e1,e2,_⟩:=h;exact A! (by rw[e1,e2,ZE,ZE];rfl) O7!
theorem Jnd{H:Hp}{p:Addr}{W:EF}{D:y?}{m n d B B':Nat}{al:M!}{ys:w!}{BJ:Int}{l1 l2:j!}{t:Addr}{Q:VK}{E:XK}(x:iV!)(hn:AD!)(hB:Aq!)(hd:d<900)(cB:OV!)(el:OE!)(k:∀(v:V) (W':EF) (D':y?) (al':M!) (DN:w!) (H':Hp) (L:j!),lS!->fc! n Jh! 0->mR!->LH!->NO!):bq!:=by
 have kk:KT p K W m n d 0 B' ys H Q (λ_ W' al' DN H'=>∃L,lS!):=λv W' D' al' DN H' r fp wi fr mj=>by obtain⟨L,r⟩:=r;obtain⟨h1,h2⟩:=r.len;exact k v W' D' al' DN H' L r (wi.dn (I! h2 x.md) (q! h1 x.iz)) (A! fr fp) mj
 have lw:=x.lw;rw[el] at lw;obtain⟨a,z,b,es,p1,p2,p3⟩:=X6 lw;have ll:=R? p1;cases z with | w l=>exact tk! Ui cB (λy L bs W' q G G' H' hi we nw e ey=>⟨L,l1,l2,t,a,_,b,el,es,ll,nw.toNv,rfl,nw.fi,q,G,G',bs,hi,we,e,rfl⟩) | ask s g n' u=>exact Z1 x hn hB hd el es p1 p2 p3 C6! cB kk (hT! ⟨L,l1,l2,t,a,_,b,el,es,ll,nw.toNv,rfl,nw.fi,e,q,G,hs,os,rs,hi,tl,rfl⟩) | JU s g n' u tk S=>exact Uj x hn hB hd el es p1 p2 p3 C6! cB kk λv L W' al' DN H' e nv ey an=>⟨L,l1,l2,t,a,_,b,el,es,ll,nv,e,an⟩ | lt s g ts=>exact tk! Jhv cB (hT! ⟨L,l1,l2,t,a,_,b,el,es,ll,nw.toNv,rfl,nw.fi,q,G,hs,os,rs,hi,tl,e,rfl⟩)
theorem WI.more{H:Hp}{p:Addr}{W:EF}{D:y?}{m n d d' A B B':Nat}{al:M!}{ys:w!}(x:k!)(h:d<=d')(hB:Iq!):tA! n d' A B' al:=by have a2:=x.ez;have a3:=x.fz;exact{ x with ez:=B!,fz:=B!,pb:=A! x.pb.1 (A_ x.pb.2 hB) }
theorem bW:iK! [eF!,VQ!,"_law_number",JN!,"_law_lying",VR!] VQ! Qk:={}
inductive Jdi(vs:C!)(H:Hp)(Q:VK)(E:XK):Prop
 | mk (p0:Addr) (c:Int) (W:EF) (D:y?) (m n d B:Nat) (al:M!) (ys:w!) (J:EF->Uf M! w!) (_:vs=[i! p0,g! c]) (_:sO! H n d B) (_:AD!) (_:Aq!) (_:d+B<900) (_:J W al ys)
   (_:∀(H1 eD:Hp)(W:EF)(D:y?)(d B:Nat)(al:M!)(ys:w!)(W':EF)(al':M!)(DN:w!)(BJ:Int)(L:j!),sO! H1 n d B->J W al ys->lT!->J W' al' DN)
   (_:∀(H':Hp)(W':EF)(D':y?)(DN:w!),WI H' p0 W' D' m n (d+B) 0 B [] DN->J W' [] DN->Mv p0 W ys W' DN H H'->LH!->qO!)
theorem gAl(g:GG):EG 8 TY VB (uV! VQ!) Jdi:=by
 refine EM! g.mAl.fn.JH bW;obtain⟨p0,c,W,D,m,n,d,nB,al,ys,J,rfl,wi,hn,hB,hd,j0,js,k⟩:=h;refine X!;have GC:lc:=W?;have OK:NI!:=W?;have hr6:DM 6 _:=W?;refine kD! bW.nd (NG! z!) bW.nd Ag (pO! (wG! E?) (ZM! bW.nd tX! (kc! (Yr! Qp n? ED!)) (LP! (Jf2 (JA! gNx GC g.mNx.mg g.mNx.fn.kp g.mNx.bd (v3! z!)) (Nl rfl (Ck (I5! 5 bW.nd) (Ck (i9! bW.nd) Kj)))) (vf! g.TW.cl g.mWDe.mt (FX.EW.no (gDl g)) hr6 g.mWDe.bd Ba (am (Dh! (Ay Bq n? (Bc Cj AO! (Nw! n?)))))) (jI! bW.nd (Ry! E?))))) (BO! Gf);refine TT! _ rfl rfl Kg! ?_;refine PP (λμ σ Hc=>∃(i:Nat)(W':EF)(D':y?)(al':M!)(DN:w!)(z:Int)(u4 u5:wE),μ=1500-i/\σ=[d? p0,ut c,ut z,ut y!,u4,u5]/\i<=nB/\WI Hc p0 W' D' m n (d+i) 0 (nB-i) al' DN/\J W' al' DN/\Mv p0 W ys W' DN H Hc/\LH!) ⟨1500,0,W,D,al,ys,_,none,none,rfl,rfl,sw,wi,j0,Mv.refl (CB.refl _),rfl⟩;rintro μ σ Hc ⟨i,W1,D1,tW,YJ,z,u4,u5,rfl,rfl,PU,VO,j1,mv,mj⟩;refine d6! _ rfl rfl _ rfl ?_;rw[Ju! (LF! (y!<1500))];refine Cy (Ct! f0!);obtain⟨dx,hp⟩:=VO.wa.ob;refine⟨_,rfl,p0,dx,_,rfl,hp,Ct W1 ZV,p0,W1,rfl,VO.wa,λl H2 hl el s2=>?_⟩;have aB:=VO.same s2;refine HQ! sw (λr IW=>⟨_,_,tS! el aB.lw,qa!,E7 (Jy aB.wg.wl.ok),Vx,_,rfl,?_⟩);have s3:=Nn!;generalize TB! r=H3 at s3;have i7:=aB.same s3;have cF:=Aj s2 s3;have aK:=CY! el;by_cases e0:W1.ls=[];.rw[J9,e0,Nu];(have ea:tW=[]:=by have:=R? VO.lw;rw[e0] at this;exact BS.mp this.symm);subst ea;exact Cy (k H3 W1 D1 YJ (i7.more E! E!) j1 (mv.post cF) mj)
 .rw[J9,Tp VO.lw e0];(have z1:1<=nB-i:=by have h1:=VO.len;have h2:=TQ!;lia);refine Cu ⟨_,rfl,_,rfl,z,c,rfl,λt x y H4 s4 et=>?_⟩;have cn:=i7.same s4;have a7:=DI! aK;have oM:=Aj cF s4;refine⟨t,_,rfl,Pk!,rfl,_,_,rfl,_,_,rfl,rfl,?_⟩;(have aX:Uy! aA!:=by rw[ZA];have:=TQ!;lia);have j0:=a3! x aA!;have j1':=DW x aX;obtain⟨⟨BJ,t2⟩,hy⟩:=O2! W1.ls (CQ! (x % aA!)) (by rw[ZA] at j0 j1' ⊢;lia);have jH:Jv! (YG (W1.ls.map d7!) (x % aA!)) t2:=pR! j0 hy;obtain⟨lt,JS⟩:=eW! tW (CQ! (x % aA!)) VO.lw hy;obtain⟨a1,kF⟩:=KI.BE (Av cn.lw _ _ _ hy JS);have kF:U! H4 t2 (.BE (X? BJ::a1)):=kF;obtain⟨l1,l2,wW⟩:=HP (ZP hy);obtain⟨bK,g7⟩:=cn.wa.ob;refine⟨_,rfl,p0,bK,_,rfl,g7,Ct W1 ZV,_,rfl,_,rfl,_,rfl,l,_,rfl,Lz! a7,_,_,rfl,rfl,aX,l,_,_,_,rfl,rfl,AC a7,jH,t2,_,0,_,rfl,rfl,NE kF,rc!,?_⟩;refine Jnd (B':=nB-FS) cn hn E! E! E! wW λv W5 D5 al5 zu H5 L5 dl fx mv5 pW=>?_;exact⟨_,rfl,_,_,rfl,rfl,1500-FS,B!,U?,W5,D5,al5,zu,_,_,_,rfl,rfl,B!,fx,js H4 H5 W1 D1 _ _ tW YJ W5 al5 zu BJ L5 cn j1 dl,(mv.post oM).trans mv5,pW.trans mj⟩
inductive Rh(qs:a!):y?
 | hand {j:Nat} {q:Addr} {G:BM} {t:T2} (h:Ph!) (m:A0!):Zc!
 | step {j:Nat} {q:Addr} {G:BM} {t u:T2} (h:Ph!) (o:Ao!) (m:g9!) (l:Zc!):Rh qs u
theorem Zi{l:HL}{t u:T2}(h:u∈C3! l):∃q∈l,h?/\u∈u?:=by unfold CD at h;cases e:mr! with | none=>rw[e] at h;cases h | some q =>rw[e] at h;exact⟨q,AY e,Qn!,h⟩
universe S
variable {D:T2->Prop}{m n:Nat}{sh:Int}{qs:List (Addr×BM)}{b:Nat->Bool}{S1:Nat->HS}
theorem Wg.lY(x:Wg D m n sh qs [])(ha:∀h,h<m->OT!)(hs:pH! lE!){h:Nat}{q:Addr}{G:BM}{t:T2}(eq:RX!)(o1:Ao!):Dn!=Gc (Cg (Lb m b S1)) t:=by
 have lm:=x.wl.len;have hm:h<m:=TU!
 obtain⟨s,nu⟩:=x.BJ eq;have t1:t.1=i?:=mf! o1
 have eR:∀k,k<m->∃q G,FM (qs[k]?)/\YL t qs k=AX!/\qg! k:=λk hk=>by obtain⟨⟨q,G⟩,eq⟩:=Zk! k;exact⟨q,G,eq,by unfold YL;rw[eq];rfl,hc!⟩
 have eA:qS! (Lb m b S1).map=N2! hb!:=by unfold Lb;rw[AK,EU.mpr λk hk=>ha k (BB.mp hk)];congr 1;refine BP XT!;obtain⟨q',G',QM,e3,_⟩:=eR k (BB.mp hk);show Je t (S1 k).2.2=YL t qs k;rw[e3,(hs k q' G' QM).AI t]
 have sO:N2! (λk=>YC t qs k)=mx!:=U4 hm λk nk=>by by_cases hk:k<m;(.obtain⟨q',G',QM,_,e4⟩:=eR k hk;rw[e4];exact x.wl.lD (r:=(q',G')) QM (Fk! t1));.unfold YC;rw[BM! CY];rfl
 have oh:qg! h:=hc!
 have sm:=hz! (AB! (IX! h eq o1));rw[K2,lm,sO,oh] at sm;rw[T7,eA];have sm:N2! hb!-Dn!+0=0:=sm;lia
theorem Wg.led(x:Wg D m n sh qs [])(ha:∀h,h<m->OT!)(hs:pH! lE!){t:T2}:Led oJ! t↔Zc!:=by
 have lm:=x.wl.len;have at_:∀S∈Lb m b S1,∃(h:Nat)(q:Addr)(G:BM),RX!/\M9 G S:=λS hS=>by obtain⟨h,hm,_,e⟩:=OZ.mp hS;obtain⟨⟨q,G⟩,eq⟩:=Zk! h;exact IX! h eq (e▸hs h q G eq)
 have in_:pH! (S1 h∈Lb m b S1):=λh q G eq=>by (have hm:h<m:=TU!);exact OZ.mpr ⟨h,hm,ha h hm,rfl⟩
 constructor;.intro l;induction l with | hand h m =>obtain⟨j,q,G,eq,T⟩:=at_ _ h;exact Im! eq (T.rK _ m) | @out r h ne =>obtain⟨S,hS,hr⟩:=HN.mp h;obtain⟨j,q,G,eq,T⟩:=at_ _ hS;obtain⟨o1,o2⟩:=T.iU r hr;exact I8! o2.trans (x.lY ha hs eq o1) ne | @step r u h mu _ ih =>obtain⟨S,hS,hr⟩:=HN.mp h;obtain⟨j,q,G,eq,T⟩:=at_ _ hS;exact In! eq (T.iU r hr).1 (T.rC r hr u mu) ih
 .intro l;induction l with | hand h m=>exact Im! (v! in_ _ h) ((hs _ _ _ h).hand _ m) | @step j q G t u h o mu _ ih =>obtain⟨r,hr,e⟩:=(hs _ _ _ h).row t o;obtain⟨z,hz,e2,hu⟩:=Zi mu;exact In! (r:=r) (HN.mpr (WF (v! in_ _ h) hr)) ((hs _ _ _ h).qL r hr z hz (e2.trans e.symm) u hu) (e▸ih)
theorem Wg.gs(x:Wg D m n sh qs [])(ha:∀h,h<m->OT!)(hs:pH! lE!){t:T2}:sy!↔(IK!/\¬Zc!):=by
 have lm:=x.wl.len;unfold GS;rw[x.led ha hs];refine and_congr (A! (λh=>?_) (λh=>?_)) Iff.rfl;.obtain⟨r,hr,e⟩:=B0!;obtain⟨S,hS,hr⟩:=HN.mp hr;obtain⟨j,hm,_,e2⟩:=OZ.mp hS;obtain⟨⟨q,G⟩,eq⟩:=Zk! j;exact IX! j eq (e▸((hs j q G eq).iU r (e2▸hr)).1)
 .obtain⟨j,q,G,eq,o⟩:=h;(have hm:j<m:=TU!);obtain⟨r,hr,e⟩:=(hs j q G eq).row t o;exact Y7! r (HN.mpr (WF (OZ.mpr ⟨j,hm,ha j hm,rfl⟩) hr))
universe E
universe S
variable {D:T2->Prop}{m n:Nat}{sh:Int}{qs:List (Addr×BM)}{ls:List LT}{t:T2}
theorem Wg.nn(x:AG!)(na:¬IK!){j:Nat}{r:Ox!}(e:QP!=some r):MO t r.2=BK! r.2.AI/\il!:=by have h1:BK! r.2.AF=0:=Eu λz=>na ⟨j,r.1,r.2,e,z⟩;have h2:=J7 (x.wl.sd j r.1 r.2 e).1.nn t;unfold MO;rw[h1];exact ah!
theorem Wg.zZ(x:AG!)(nD:Hq!){l:LT}(hl:Gt!)(e:DY!):IK!:=by refine QV! (λna=>?_);have h1:=Px x.wl.ok hl;rw[e] at h1;have h2:=O9 (t:=t) (l:=qs) λj r ej=>(x.nn na ej).2;have h3:=hz! (c? nD);lia
theorem Wg.qx(x:AG!)(nD:Hq!){j:Nat}{q:Addr}{G:BM}(hj:Ph!)(h:Cg!):IK!:=by
 obtain⟨s,nu⟩:=x.BJ hj;by_cases c:Zn!;.refine⟨j,q,G,hj,?_⟩;rcases h with h|⟨r,hr,h⟩;(.exact s.ok.hk t h (W6! c));.exact s.ok.lk r hr t h (W6! c)
 rcases x.rc j q G hj t h c with h1|⟨l,hl,e,_⟩;.refine QV! (λna=>?_);have h2:=U5 (t:=t) hj λi r ei _=>(x.nn na ei).2;have h4:=(x.nn na hj).1;have h4:MO t G=AX!:=h4;have h5:=Ln (t:=t) x.wl.ok;have h3:=hz! (c? nD);have h2:MO t G<=Gq t qs:=h2;lia
 .exact x.zZ nD hl e
theorem Wg.aV(x:AG!){j:Nat}{q:Addr}{G:BM}(hj:Ph!)(h:Ao!):t.1=A4!/\t.2<G.AQ:=by obtain⟨s,nu⟩:=x.BJ hj;have:=s.ok.new t h;rw[nu] at this;exact this
universe E
structure uC(G G':BM):Prop where
 BJ:WU!
 AQ:QN!
 AF:fO! Ao!
 holds:fO! (C3! G'.holds=Pn!)
theorem Zm(G:BM)(ts:D!):uC G WZ! :=⟨rfl,rfl,V? (MD! ht),V? (by obtain⟨q,hq,e⟩:=ZN ht;have hq:q∈C2! G.AF.filter D4!:=hq;have m:=Jb! hq;rw[e] at m;exact Oo (p:=EN! Od!) (l:=G.holds) m)⟩
theorem Jld:M8! BC!:=ZV
theorem Jle:YU! BC!:=ZV
theorem Jov:Az! BC! wv:=ZV
theorem Xm(we:oW! sh)(hb:Xm!):bs=[]/\(GC! (FB G'.AF.map))/\G'.hand=G.hand/\uC G G':=by
 rcases we with⟨_,w,rfl⟩|⟨e,_⟩;.rcases w with⟨e,_⟩|⟨e,_⟩|⟨_,rfl⟩;(.exact ZI! hb.symm.trans Jle);(.exact ZI! hb.symm.trans Jov);·(have ek:AM! (YN G l.th l.x).map G.AF.map:=by unfold YN;by_cases c:Mm!;(.rw[v?,Fg,v?]);.rw[EQ]);exact⟨rfl,V? (Um! (FB (YN G l.th l.x).map) ek ht),rfl,rfl,rfl,V? (G? ek ht),Uk!⟩
 .exact ZI! hb.symm.trans Jld
def nY(JN:a!)(h tick:Int):Prop:=∀q G,FM (JN[h.toNat]?)->tick=G.AX
def Xs(JN:a!)(t:T2):Prop:=VS JN t/\¬Rh JN t
structure C1(m:Nat)(JN:a!)(N:Int)(W:EF)(al:M!)(ys:w!):Prop where
 qs:W.qs=JN
 al:∀z∈al,(∃s g u,z=.ask s g N u)\/∃s g u tick S,z=.JU s g N u tick S/\nY JN s tick
 y:∃y∈ys,y.n=N/\y.se.length<m/\(∀r∈y.fi,nY JN r.1 Aa!)/\∀r∈y.se,nY JN r.1 r.2
structure C2h(JN:a!)(al:M!)(j:Nat)(G G0:BM):Prop where
 hand:G.hand=G0.hand
 less:GC! (FB G0.AF.map/\Pn!=C3! G0.holds)
 keep:JE! G0.AF.map (Rh JN t->Ao!)
 end_:(∀s ts,Tg! A4!∉al)->GC! (Rh JN t)
structure C2(JN:a!)(N:Int)(W:EF)(al:M!):Prop where
 fin:∃l∈W.GW,l.1=N
 av:∀z∈al,(∃s g ts,z=.lt s g ts/\cH! (Xs JN t) (t.1=g))\/∃l,z=.w l/\Xm!
 len:W.qs.length=JN.length
 ho:fj! (ja! (∃q0 G0,Db (JN[j]?) q0 G0/\C2h JN al j G G0))
universe S
variable {p:Addr}{H eD:Hp}{BJ:Int}{L:List (Int×Addr)}{W W':EF}{D:T2->Prop}{m n:Nat}{al al':List LL}{ys DN:List Qy}{JN:List (Addr×BM)}{N:Int}
theorem WI.one(x:k!){y y':Qy}(h:LG!)(h':y'∈ys)(e:y.n=y'.n):y=y':=by
 have go:∀{y:Qy},LG!->∃j:Nat,Ue!=some y/\y.n=J? j+1:=λ{y} h=>by obtain⟨j,hj⟩:=CV.mp h;have jl:j<ys.length:=Bm! hj;(have e1:(ys.map FH!)[j]?=some y.n:=PG! hj);rw[x.jz,ZH,List.getElem?_range jl] at e1;exact⟨j,hj,D2! ZO e1⟩
 obtain⟨j,hj,e1⟩:=go h;obtain⟨k,hk,e2⟩:=go h';have:j=k:=B!
 rw[this,hk] at hj;cases hj;rfl
theorem C1.ws(c:sw!):Ki!=[]:=kT! (by rcases Ag! c.al with⟨_,_,_,rfl⟩|⟨_,_,_,_,_,rfl,_⟩<;>rfl)
theorem Jjv{al:M!}{s g n u:Int}(h:LL.ask s g n u∈al):g∈ac!:=JK.mpr (WF h (by show u6! (n=n) (u=u) g=some g;rw[Mz!]))
theorem Jcf{al:M!}{s g n u tick:Int}{S:HS}(h:LL.JU s g n u tick S∈al):Ed!∈mG!:=JK.mpr (WF h (by show u6! (n=n) (u=u) Ed!=some Ed!;rw[Mz!]))
theorem C1.last(x:k!)(c:sw!){y:Qy}(hy:LG!)(yn:y.n=N){a b:M!}{s g tick:Int}{S:HS}(es:E8! (.JU s g N 2 tick S))(le:Jt!=m):T?=[]/\Nx! y.fi.map:=by
 have iv:=aB!;rw[yn] at iv;have z2:Ed!∈Bx al N 2:=Jcf (IM!);rcases iv.t2 with⟨_,_,e,_⟩|⟨fl,oO⟩;.rw[e] at z2;cases z2
 have l1:=iv.t1.length_eq;have l2:=oO.length_eq;rw[Fv,ZE,ZE,ZA,ZA] at l1 l2;have k2:n9! al 2=n9! Ad! 2+1:=by rw[es,Bm,Bm,Dh,ZE,ZE,ZE];show _+((if N=N/\J? 2=2 then some Ed! else none).toList.length+_)=_;rw[Mz!];show _+(1+_)=_;lia
 have k3:∀u,(Cc al N u).length=(Cc Ad! N u).length:=λu=>by rw[es,Bt,Bt,Fj,ZE,ZE,ZE];show _+(0+_)=_;lia
 have k4:(Bx Ad! N 1).length<=n9! al 1:=by rw[es,Bm,Bm,Dh,ZE,ZE,ZE];lia
 have q1:=k3 1;have q2:=k3 2;refine L? (List.eq_nil_iff_forall_not_mem.mpr Qr!);·(have hw':w∈al:=by rw[es];rcases J4! with h|h;(.exact EY!);.exact IS!);have kn:=x.kn w hw';rcases c.al w hw' with⟨s',g',u',rfl⟩|⟨s',g',u',tk',S',rfl,_⟩;(.have mm:=KA (Jjv hw);obtain⟨_,h|h⟩:=kn<;>rw[h] at mm<;>lia);.have mm:=KA (Jcf hw);obtain⟨_,h|h⟩:=kn<;>rw[h] at mm<;>lia
 .have t1:=iv.t1;rw[BS.mp (LF! ((Cc al N 1).length=0)),BS.mp (LF! (n9! al 1=0))] at t1;exact t1
theorem C1.found(x:k!)(c:sw!){y:Qy}(hy:LG!)(yn:y.n=N)(fi:∀r∈y.fi,nY JN r.1 Aa!)(pm:Nx! y.fi.map){cf:EA!}(hc:∀h:Nat,h<m->nY JN i? (cf h)){t:T2}:GS m (Qw!) bI! t↔Xs JN t:=by
 have wg:=x.wg;rw[c.ws] at wg;have lm:=wg.wl.len;have iv:=aB!;have at_:∀h:Nat,h<m->∃q G,J3!/\Gb y.fi h=G.AX/\M9 G (Jf y.fi h):=λh hh=>by obtain⟨⟨q,G⟩,eq⟩:=VG! W.qs h;obtain⟨r,hr,e1,e2,e3⟩:=xZ pm hh;have e4:Aa!=G.AX:=fi r hr q G (by rw[e1,CA,<-c.qs];exact eq);exact⟨q,G,eq,e2.trans e4,e3▸((iv.f1 r hr).tk h q G eq e1).2 e4⟩
 have:=wg.gs (b:=Qw!) (S1:=Jf y.fi) (t:=t) (λh hh=>by obtain⟨q,G,eq,e,_⟩:=at_ h hh;exact decide_eq_true (e.trans (hc h hh q G (ft! CA c.qs eq)).symm)) λh q G eq=>by (have hm:h<m:=TU!);obtain⟨q',G',QM,_,e⟩:=at_ h hm;rw[eq] at QM;cases QM;exact e
 rw[this,c.qs];exact Iff.rfl
theorem Jph(x:k!)(c:sw!)(af:lT!):C1 m JN N W' al' DN\/C2 JN N W' al':=by
 obtain⟨l1,l2,t0,a,z,b,el,es,ll,nv,ef⟩:=af;have sub:∀w∈T?,w∈al:=λw hw=>by rw[es];rcases J4! with h|h;(.exact EY!);.exact IS!
 have hz:Ua!:=IM!
 rcases Ag! c.al with⟨s,g,u,rfl⟩|⟨s,g,u,tick,S,rfl,tk⟩;.obtain⟨ey,_,eq,q,G,hs,os,rs,hq,_,ea⟩:=ef;refine H! (MS! (eq.trans c.qs) Qr! ey c.y);rw[ea] at hw;rcases J4! with h|h;(.exact cy! c.al h);.rw[D7!];refine L! ⟨g,s,u,_,Hi!,rfl,λq' G' e=>?_⟩;rw[<-c.qs,hq] at e;cases e;rfl
 .obtain⟨eq,y,y',i1,i2,new,e1,e2,e3,e4,e5,e6⟩:=ef;obtain⟨y1,om,n1,se1,f1,s1⟩:=c.y;(have hy:LG!:=Lc! e1);(have mS:y'∈DN:=Lc! e2);have ey:y1=y:=x.one om hy (n1.trans e3.symm);subst ey;rcases e6 with⟨u1,se,fi,_,nw⟩|⟨u2,fi,se,nw⟩;(.refine H! ⟨eq.trans c.qs,Qr!,y',mS,e4,I! se se1,Ht!,I! se s1⟩;(.rw[e5] at hw;rcases J4! with h|h;(.exact cy! c.al h);.rcases nw with⟨rfl,_⟩|⟨rfl,_⟩;(.cases h);.obtain⟨i,_,rfl⟩:=B0!;exact H! (Dl! _ _ rfl));.rw[fi] at hr;rcases Em! with h|h;(.exact f1 r h);.rw[D7!];exact tk);·(have s2:∀r∈y'.se,nY JN r.1 r.2:=Bj! (by rw[se] at hr;rcases Em! with h|h;(.exact s1 r h);.rw[D7!];exact tk));rcases nw with⟨rfl,ne,_⟩|⟨le,ts,xf,as,rfl,GW,_,_,cf,pE,hfo⟩;(.refine H! ⟨eq.trans c.qs,Qr!,y',mS,e4,fe! se ZE (y1.se.length+1<m),I! fi f1,s2⟩;rw[e5,AH] at hw;exact cy! c.al hw);.subst u2;obtain⟨ab,pm⟩:=c.last x hy n1 es le;rw[ab,List.nil_append] at e5;have gx:∀t,t∈ts↔Xs JN t:=λt=>(hfo.mem t).trans (c.found x hy n1 f1 pm λh hh=>by obtain⟨r,hr,h1,h2⟩:=pE h hh;have:=s2 r hr;rw[h1,h2] at this;exact this);have lm:=x.wg.wl.len;refine Ld! (LW! (I! GW Yg!)) Qr! (I? eq c.qs) (λj q G hj=>?_);(.rw[e5] at hw;obtain⟨i,_,rfl⟩:=ZN hw;exact H! (AA! _ _ _ (λt=>UF AD gx decide_eq_true_iff)));.rw[eq] at hj;(have jm:j<m:=Dp! lm hj);refine⟨q,G,G? c.qs hj,rfl,V? (Rs ht),λt ht _=>ht,λno=>IR ?_ (no g (ts.filter (EN! Zn!)))⟩;rw[e5];exact Fj! j (BB.mpr jm)
theorem Jpg(x:k!)(c:C2 JN N W al)(af:lT!):C2 JN N W' al':=by
 obtain⟨l1,l2,t0,a,z,b,el,es,ll,nv,ef⟩:=af;have sub:∀w∈T?,w∈al:=λw hw=>by rw[es];rcases J4! with h|h;(.exact EY!);.exact IS!
 have hz:Ua!:=IM!
 have oH:∀w∈al,w=z\/w∈T?:=λw hw=>by rw[es] at hw;rcases J4! with h|h;(.exact L! (ZB _ h));.rcases ZM h with h|h;(.exact H?);.exact L! (ZC _ h)
 rcases Ag! c.av with⟨s,g,ts,rfl,ht⟩|⟨l,rfl,hb⟩;.obtain⟨_,fs,q,G,hs,os,rs,hq,_,eq,ea⟩:=ef;obtain⟨g0,g1,_⟩:=x.lt s g ts hz;refine⟨I! fs c.fin,Qr!,v1! MK c.len,λj q' G' hj=>?_⟩;(.rw[ea] at hw;rcases J4! with h|h;(.exact cy! c.av h);.obtain⟨l,hl,rfl⟩:=B0!;obtain⟨r,_,rfl⟩:=ZN hl;exact L! (m? rfl));.rw[eq] at hj;rcases Dw hj with⟨ej,rfl,rfl⟩|⟨nj,hj⟩;(.subst ej;obtain⟨q0,G0,h0,h⟩:=c.ho _ q' G hq;have ls:=Zm G ts;(have nt:∀t,FB (Kt G ts).AF.map->Od!:=λt h1 h2=>by obtain⟨r,hr,e⟩:=ZN h1;have hr:r∈C2! G.AF.filter D4!:=hr;have:=BW (Jb! hr);exact this (e▸h2));refine⟨q0,G0,h0,h.hand,λt h1=>A! (h.less t (ls.AF t h1)).1 ((ls.holds t h1).trans (h.less t (ls.AF t h1)).2),λt h1 h2=>?_,λ_ t h1=>?_⟩;(.obtain⟨r,hr,e⟩:=ZN (h.keep t h1 h2);have OK:r∈C2! G.AF.filter D4!:=F5! hr (EZ! (λz=>((ht _).mp z).1.2 (e▸h2)));exact Y7! r OK);.refine QV! (λnr=>nt t h1 ((ht t).mpr (L? (A! (EO! q0 G0 h0 (h.less t (ls.AF t h1)).1) nr))));have:=(x.wg.aV hq (ls.AF t h1)).1;rw[this];exact Ga!);.obtain⟨q0,G0,h0,h⟩:=c.ho j q' G' hj;refine⟨q0,G0,h0,h.hand,h.less,h.keep,λno=>h.end_ λs' fy hm=>?_⟩;rcases oH _ hm with e|hm;(.cases e;exact nj (ww CA));.exact no s' fy (I! ea (Os hm))
 .obtain⟨_,fs,q,G,G',bs,hq,we,eq,ea⟩:=ef;obtain⟨ebs,ky,hh,ls⟩:=Xm we hb;rw[ebs,GF,AH] at ea;refine⟨I! fs c.fin,λw hw=>cy! c.av (ea▸hw),v1! MK c.len,λj q' G2 hj=>?_⟩;(have oV:(∀s ts,Tg! A4!∉al')->∀s ts,Tg! A4!∉al:=λno s ts hm=>by rcases oH _ hm with e|hm;(.cases e);.exact no s ts (ea▸hm));rw[eq] at hj;rcases Dw hj with⟨ej,rfl,rfl⟩|⟨nj,hj⟩;(.subst ej;obtain⟨q0,G0,h0,h⟩:=c.ho _ q' G hq;exact⟨q0,G0,h0,hh.trans h.hand,λt h1=>A! (h.less t (ls.AF t h1)).1 ((ls.holds t h1).trans (h.less t (ls.AF t h1)).2),λt h1 h2=>ky t (h.keep t h1 h2),λno t h1=>h.end_ (oV no) t (ls.AF t h1)⟩);.obtain⟨q0,G0,h0,h⟩:=c.ho j q' G2 hj;exact⟨q0,G0,h0,h.hand,h.less,h.keep,λno=>h.end_ (oV no)⟩
theorem Jh4(x:wk! A [])(c:C1 m JN N W [] ys\/C2 JN N W []):(∃l∈W.GW,l.1=N)/\bl! W.qs W.qs:=by
 rcases c with c|c;.obtain⟨y,hy,yn,le,_⟩:=c.y;have iv:=aB!;have l1:=iv.t1.length_eq;rw[Fv,ZE,ZE,ZA,ZA] at l1;have l1:0+0+y.fi.length=m:=l1;rcases iv.t2 with⟨h,_⟩|⟨_,pm⟩;(.lia);.have l2:=pm.length_eq;rw[Fv,ZE,ZE,ZA,ZA] at l2;have l2:0+0+y.se.length=m:=l2;lia
 .refine A! c.fin (λt h=>?_);(have up:∀t,Rh JN t->Rh W.qs t:=λt h=>by (have at_:∀(j:Nat) q0 G0,Db (JN[j]?) q0 G0->∃q G,FM Oo!/\C2h JN [] j G G0:=λj q0 G0 e=>by obtain⟨⟨q,G⟩,eq⟩:=v7! j (XC! c.len e);obtain⟨q1,G1,h1,h⟩:=kz! eq;rw[e] at h1;cases h1;exact⟨q,G,eq,h⟩);induction h with | hand h m =>obtain⟨q,G,eq,h2⟩:=v! at_ _ h;exact Im! eq (h2.hand▸m) | step h o mu l ih =>obtain⟨q,G,eq,h2⟩:=v! at_ _ h;have o2:=h2.keep _ o l;exact In! eq o2 ((h2.less _ o2).2▸mu) ih);obtain⟨j,q,G,eq,o⟩:=h;obtain⟨q0,G0,h0,h⟩:=kz! eq;exact up t (h.end_ (λ_ _ z=>Bg! z) t o)
universe E
def Cz(h:Nat)(t:T2):Di! LL
 | .w l=>DY!/\((l.kind=AT/\l.g=i?)\/(Fs!/\l.x=i?))
 | _=>False
def VR(al:M!)(h:Nat)(t:T2):Prop:=∃z∈al,Oj!
def Hn(qs:a!)(h:Nat)(t:T2):Prop:=∃q G,RX!/\A0!
theorem Pq:VR (T?) h t↔DL! a\/DL! b:=by unfold VR;simp only[SA,or_and_right,exists_or]
theorem Jc1:VR (a++z::b) h t↔VR (T?) h t\/Oj!:=by
 rw[Pq,Pq];have:VR (z::b) h t↔Oj!\/DL! b:=by unfold VR;simp only[CK,or_and_right,exists_or,exists_eq_left]
 rw[this];constructor;.rintro(h|h|h);(.exact R3!);(.exact AP!);.exact Nm!
 .rintro((h|h)|h);(.exact H?);(.exact cr h);.exact IG!
theorem R0{al:M!}(h':∀z∈al,¬Oj!):¬DL! al:=λ⟨z,hz,c⟩=>h' z hz c
structure Cm(JN:a!)(jP:M!)(W:EF)(al:M!):Prop where
 len:W.qs.length=JN.length
 hc:∀h t,(wv!\/DL! al)↔(Hn JN h t\/DL! jP)
 ho:fj! (ja! (∃q0 G0,Db (JN[j]?) q0 G0/\GC! (FB G0.AF.map/\Pn!=C3! G0.holds)))
theorem Cm.refl(W:EF)(al:M!):Cm W.qs al W al:=HC! (λ_ _=>Iff.rfl) (λj q G e=>⟨q,G,e,V? (Rs ht)⟩)
theorem Jm8{qs:a!}{i:Nat}(hi:Z?):Hn BT! h t↔LZ! (h=i) (t∈G'.hand) (Hn qs h t):=by
 have hl:=Bm! hi;by_cases c:h=i;.rw[v?,c];constructor;(.rintro⟨q1,G1,e,m⟩;rw[ET hl] at e;cases e;exact m);.exact λm=>⟨q,G',ET hl,m⟩
 .rw[EQ];unfold Hn;rw[IJ (ZZ!)]
theorem Rl{qs:a!}{i:Nat}(hi:Z?):Hn qs i t↔A0!:=A! (λ⟨_,_,e,m⟩=>by rw[hi] at e;cases e;exact m) (λm=>⟨q,G,hi,m⟩)
universe S
variable {p:Addr}{H eD:Hp}{BJ:Int}{L:List (Int×Addr)}{W W':EF}{D:T2->Prop}{m n d A B:Nat}{al al' jP:List LL}{ys DN:List Qy}{JN:List (Addr×BM)}
theorem Cm.next{i:Nat}{q:Addr}{G G':BM}{a b new:M!}{z:LL}(c:T0! W al)(hi:RW!)(es:Zh!)(eq:W'.qs=OZ!)(ea:al'=Mp!)(ls:uC G G')(hh:∀h t,(LZ! (h=i) (t∈G'.hand) wv!\/DL! new)↔(wv!\/Oj!)):T0! W' al':=by
 refine⟨v1! MK c.len,λh t=>?_,λj q2 G2 hj=>?_⟩;.rw[<-c.hc h t,eq,Jm8 hi,es,ea,Jc1,Pq];have:=hh h t;constructor;(.rintro(h1|h1|h1);(.exact r4! this.mp B?);(.exact AN! h1);.exact r4! this.mp N?);.rintro(h1|h1|h1);(.exact r4! this.mpr B?);(.exact AN! h1);.exact r4! this.mpr N?
 .rw[eq] at hj;rcases Dw hj with⟨ej,rfl,rfl⟩|⟨nj,hj⟩;(.subst ej;obtain⟨q0,G0,h0,h⟩:=c.ho _ q2 G hi;exact⟨q0,G0,h0,V? (A! (h t (ls.AF t ht)).1 ((ls.holds t ht).trans (h t (ls.AF t ht)).2))⟩);.exact c.ho j q2 G2 hj
theorem Cm.OX{a b new:M!}{z:LL}(c:T0! W al)(es:Zh!)(eq:Op!)(ea:al'=Mp!)(hh:∀h t,DL! new↔Oj!):T0! W' al':=by refine MS! (I! eq c.len) (λh t=>?_) eq c.ho;rw[<-c.hc h t,eq,es,ea,Jc1,Pq,hh]
theorem Ji9{l:Y!}(h:BX!)(v:Int):AM! MQ! l.map:=I? Fg Ar!
theorem Jc0{l:LT}(kp:Fs!):s2!↔(DY!/\l.x=i?):=by
 constructor;.rintro⟨e,⟨e2,_⟩|⟨_,e2⟩⟩;(.rw[kp] at e2;exact PP! e2);.exact A! e e2
 .rintro⟨e,e2⟩;exact A! e (No kp e2)
theorem Jb9{l:LT}{a b:M!}(x:k!)(es:E8! (LL.w l))(kp:Fs!)(hi:FM (W.qs[l.g.toNat]?)):Xn!/\Mm!:=by
 have hl:l∈Ki!:=Lc! (Ux es)
 obtain⟨_,_,_,kk⟩:=x.wg.wl.ok _ hl;have gt:Xn!:=by rcases kk with⟨e,_⟩|⟨e,_⟩|⟨e,_⟩|⟨_,e,_⟩;(.rw[kp] at e;exact PP! e);(.rw[kp] at e;exact PP! e);(.rw[kp] at e;exact PP! e);.exact e
 rw[gt] at hi;exact A! gt (x.wg.pass (Ux es) kp hi).1
theorem Cm.dlv(x:k!)(c:T0! W al)(dl:lT!):T0! W' al':=by obtain⟨l1,l2,t0,a,z,b,el,es,ll,nv,ef⟩:=dl;cases z with | w l =>obtain⟨_,_,q,G,G',bs,hi,we,eq,ea⟩:=ef;(have hl:l∈Ki!:=Lc! (Ux es));obtain⟨g0,g1,ib,kk⟩:=x.wg.wl.ok _ hl;have gN:Bn! l.g.toNat=l.g:=Ga!;rcases we with⟨np,w,rfl⟩|⟨kp,⟨same,rfl,rfl⟩|⟨JEN,rfl,rfl⟩⟩;(· (have PY:∀h t,¬DL! (([]:l?).map LL.w):=λh t=>R0 (S? Me!));rcases w with⟨kh,w⟩|⟨km,rfl⟩|⟨kb,rfl⟩;(·(have eh:G'.hand=Bu G.hand l.th/\uC G G':=by rcases w with⟨near,o,f,rfl⟩|⟨wN,rfl⟩;(.have mem:Mm!:=oj! (AY f);exact⟨rfl,rfl,rfl,V? (G? (Ji9 mem (o-l.x)) ht),Uk!⟩);.exact⟨rfl,rfl,rfl,Wa!,Uk!⟩);refine UU! eh.2;rw[eh.1];(have cz:s2!↔(DY!/\Ul!):=by constructor;(.rintro⟨e,⟨_,e2⟩|⟨e2,_⟩⟩;(.exact A! e B!);.exact IR e2 np);.rintro⟨e,e2⟩;exact A! e (CL! kh (I? e2 gN)));rw[cz];by_cases ch:Ul!;(.rw[AE ch,ch,Rl hi,CZ];constructor;(.rintro((h1|h1)|h1);(.exact Jy!);(.exact NF! h1.symm);.exact(PY _ _ h1).elim);.rintro(h1|⟨h1,_⟩);(.exact Dm! h1);.exact HS! h1.symm);.rw[AB ch];constructor;(.rintro(h1|h1);(.exact Jy!);.exact(PY _ _ h1).elim);.rintro(h1|⟨_,h1⟩);(.exact Jy!);.exact IR h1 ch);(.refine UU! ⟨rfl,rfl,Wa!,Uk!⟩;(have cz:¬s2!:=by rintro⟨_,⟨e2,_⟩|⟨e2,_⟩⟩;(.rw[km] at e2;exact PP! e2);.exact IR e2 np);(have e1:ba! A0!:=sh! Ul!);have e1:ba! (t∈(Q4! (Be G.AI l.th (N3 G.AI l.th+l.x)):BM).hand):=e1;rw[e1];exact rC! (PY _ _) cz);.obtain⟨_,_,_,ls⟩:=Xm (sh:=W.share) (bs:=[]) (c? (CT! np (cr (Rs kb)))) kb;refine UU! ls;(have cz:¬s2!:=by rintro⟨_,⟨e2,_⟩|⟨e2,_⟩⟩;(.rw[kb] at e2;exact PP! e2);.exact IR e2 np);(have e1:ba! A0!:=sh! Ul!);have e1:ba! (t∈(Xh! (YN G l.th l.x):BM).hand):=e1;rw[e1];exact rC! (PY _ _) cz);(.obtain⟨gt,mem⟩:=Jb9 x es kp hi;(have eh:(Ey G l.th W.share true).hand=Bu G.hand l.th:=by show aE G l.th true=_;unfold aE;rw[SL]);refine UU! ⟨rfl,rfl,V? (Hm mem t ht),Uk!⟩;(have PY:¬DL! ([lO! wv l.th.1 l.s l.th].map LL.w):=R0 (S? (by rw[ZK hz];rintro⟨_,⟨e2,_⟩|⟨e2,_⟩⟩;(.exact bP! (YU! wv));.exact bP! (M8! wv))));rw[eh,Jc0 kp];by_cases ch:Ul!;(.rw[AE ch,ch,Rl hi,CZ];constructor;(.rintro((h1|h1)|h1);(.exact Jy!);(.exact No h1.symm (UF gN gt same));.exact(PY (ch▸h1)).elim);.rintro(h1|⟨h1,_⟩);(.exact Dm! h1);.exact HS! h1.symm);.rw[AB ch];constructor;(.rintro(h1|h1);(.exact Jy!);.exact(PY h1).elim);.rintro(h1|⟨_,h1⟩);(.exact Jy!);.exact BP! (by rw[gt,<-same,h1];rfl) ch);(.obtain⟨gt,mem⟩:=Jb9 x es kp hi;(have eh:(Ey G l.th W.share false).hand=G.hand:=by show aE G l.th false=_;unfold aE;rw[J6!]);refine UU! ⟨rfl,rfl,V? (Hm mem t ht),Uk!⟩;(have com:DL! ([lO! AT l.th.1 l.x l.th,⟨wv,l.th.1,l.s,l.th,W.share⟩].map LL.w)↔(DY!/\l.x=i?):=by constructor;(.rintro⟨z,hz,cz⟩;rcases ZM hz with rfl|hz;(.obtain⟨e1,⟨_,e2⟩|⟨e2,_⟩⟩:=cz;(.exact A! e1 e2);.exact bP! (M8! AT));.rw[ZK hz] at cz;obtain⟨_,⟨e2,_⟩|⟨e2,_⟩⟩:=cz;(.exact bP! (YU! wv));.exact bP! (M8! wv));.rintro⟨e1,e2⟩;exact Dl! AJ! e1 (RJ! e2));(have e1:ba! A0!:=sh! Ul!);rw[eh,e1,com,Jc0 kp]) | lt s g ts =>obtain⟨_,_,q,G,hs,os,rs,hi,_,eq,ea⟩:=ef;refine UU! (Zm G ts);(have PY:¬DL! (((Bj bn rs).map λr=>(⟨BC!,g,r.1.1,r.1,r.2⟩:LT)).map LL.w):=R0 (S? (by obtain⟨l,hl,rfl⟩:=As!;obtain⟨r,_,rfl⟩:=ZN hl;rintro⟨_,⟨e2,_⟩|⟨e2,_⟩⟩;(.exact IR e2 Jle);.exact IR e2 Jld)));(have e1:xZ! fm! A0!:=sh! fm!);have e1:xZ! fm! (t∈(Kt G ts).hand):=e1;rw[e1];exact rC! PY Go! | ask s g n0 u =>obtain⟨_,_,eq,q,G,hs,os,rs,hi,_,ea⟩:=ef;exact c.OX es eq ea λh t=>A! (λ⟨z,hz,cz⟩=>by rw[ZK hz] at cz;exact cz) (λz=>z.elim) | JU s g n0 u tick S =>obtain⟨eq,y,y',i1,i2,new,e1,e2,e3,e4,e5,e6⟩:=ef;refine c.OX es eq e5 λh t=>A! (λ⟨z,hz,cz⟩=>?_) (λz=>z.elim);(have:∀z∈new,¬Oj!:=S? (by rcases e6 with⟨_,_,_,_,⟨rfl,_⟩|⟨rfl,_⟩⟩|⟨_,_,_,⟨rfl,_⟩|⟨_,ts,xf,as,rfl,_⟩⟩;(.cases hz);(.obtain⟨i,_,rfl⟩:=As!;exact Go!);(.cases hz);.obtain⟨i,_,rfl⟩:=As!;exact Go!));exact this z hz cz
universe E
theorem Vp{qs:a!}(x:AG!)(h:Zc!):Hq!/\IK!:=by induction h with | hand h m =>have nD:=x.sD.hand _ _ _ h _ m;exact A! nD (x.qx nD h (B? m)) | step h o m l ih =>obtain⟨r,hr,e,hu⟩:=Zi m;have nD:=λdu=>ih.1 (e▸x.sD.hold _ _ _ h r hr _ hu du);exact A! nD (x.qx nD h (N? (L5! hu)))
inductive Rb(qs:a!)(al:M!):y?
 | hand {h:Nat} {t:T2} (e:Hn qs h t\/DL! al):Rb qs al t
 | step {j:Nat} {q:Addr} {G:BM} {t u:T2} (h:Ph!) (o:Ao!) (m:g9!) (l:Rb qs al t):Rb qs al u
universe S
variable {H H1 H2 H3:Hp}{p r:Addr}{W V W1 V1:EF}{D E D1 E1:T2->Prop}{m n d A B n1 d1 A1 B1 n2 d2 A2 B2 n3 d3 A3 B3:Nat}{al bl:List LL}{ys zs YJ zs1:List Qy}
theorem Jh9(x:k!)(h:VS W.qs t):∃(j:Nat)(q:Addr)(G:BM),FM Oo!/\Ao!/\Zn!:=by obtain⟨j,q,G,e,o⟩:=h;exact⟨j,q,G,e,o,(x.wg.aV e o).1⟩
theorem Jk5(x:k!)(x1:WI H1 p W1 D1 m n1 d1 A1 B1 [] YJ)(c:Cm W.qs al W1 []):Rh W1.qs t↔Rb W.qs al t:=by
 constructor;.intro h;induction h with | @hand j q G t h m=>exact Im! ((c.hc j t).mp (c? ⟨q,G,h,m⟩)) | @step j q G t u h o m l ih =>obtain⟨q0,G0,h0,k⟩:=kz! h;obtain⟨o0,e0⟩:=k t o;exact In! h0 o0 (e0▸m) ih
 .intro h;induction h with | @hand h t e =>rcases(c.hc h t).mpr e with⟨q,G,h1,m⟩|⟨z,hz,_⟩;(.exact Im! h1 m);.cases hz | @step j q G t u h o m l ih =>obtain⟨j1,q1,G1,h1,o1,e1⟩:=Jh9 x1 (Vp x1.wg ih).2;have e2:=(x.wg.aV h o).1;(have ej:j=j1:=B!);subst ej;obtain⟨q0,G0,h0,k⟩:=c.ho j q1 G1 h1;rw[h] at h0;cases h0;exact In! h1 o1 ((k t o1).2▸m) ih
theorem Ji4(x:FE!)(h:Rb W.qs al t):Rb V.qs bl t:=by induction h with | @hand h t e =>refine Im! (h:=h) ?_;rcases e with⟨q,G,h1,m⟩|h1;(.obtain⟨q',G',h2,lk⟩:=x.at_ h1;exact H! ⟨q',G',h2,lk.hand▸m⟩);.exact N? (x.al▸h1) | @step j q G t u h o m l ih =>obtain⟨q',G',h2,lk⟩:=x.at_ h;exact In! h2 (lk.AF▸o) (G? lk.CD m) ih
structure nV(W V:EF):Prop where
 len:W.qs.length=V.qs.length
 hand:∀(h:Nat) q G q' G',J3!->n2!->∀t,A0!->t∈G'.hand
 AF:∀(h:Nat) q G q' G',J3!->n2!->GC! (FB G'.AF.map/\Pn!=C3! G'.holds)
theorem Jhp(x:k!)(x1:WI H1 p W1 D1 m n1 d1 A1 B1 [] YJ)(c:Cm W.qs al W1 [])(y:WI H2 r V E m n2 d2 A2 B2 bl zs)(y1:WI H3 r V1 E1 m n3 d3 A3 B3 [] zs1)(k:Cm V.qs bl V1 [])(a:FE!)(RC:bl! W1.qs W1.qs):nV W1 V1:=by
 refine⟨I? x1.wg.wl.len y1.wg.wl.len,λh q G q' G' h1 h2 t ht=>?_,λh q G q' G' h1 h2 t ht=>?_⟩;.have e1:=(c.hc h t).mp (B? ⟨q,G,h1,ht⟩);(have e2:Hn V.qs h t\/DL! bl:=by rcases e1 with⟨q0,G0,h0,m0⟩|e1;(.obtain⟨q3,G3,h3,lk⟩:=a.at_ h0;exact H! ⟨q3,G3,h3,lk.hand▸m0⟩);.exact N? (a.al▸e1));rcases(k.hc h t).mpr e2 with e3|⟨z,hz,_⟩;(.exact(Rl h2).mp e3);.cases hz
 .have r1:=(Jk5 y y1 k).mpr (Ji4 a ((Jk5 x x1 c).mp (RC t (IX! h h1 ht))));obtain⟨j,q4,G4,h4,o4,e4⟩:=Jh9 y1 (Vp y1.wg r1).2;have e5:=(x1.wg.aV h1 ht).1;(have:j=h:=B!);subst this;rw[h2] at h4;cases h4;refine L? o4;obtain⟨q0,G0,h0,c0⟩:=kz! h1;obtain⟨q5,G5,h5,k5⟩:=k.ho j q' G' h2;have lk:=a.RH h0 h5;rw[(c0 t ht).2,(k5 t o4).2,lk.CD]
theorem Jez{os cq:B6!}(f:nV W V)(f':nV V W){h:Nat}{q q':Addr}{G G':BM}(h1:J3!)(h2:n2!)(a:Ij!)(b:Told G' gy cq rs'):hs=gy/\os.map (E0!)=cq.map (E0!):=by
 refine L? (Nj a.pw b.pw λt=>?_);.rw[a.pm.mem_iff,b.pm.mem_iff];exact A! (f.hand h q G q' G' h1 h2 t) (f'.hand h q' G' q G h2 h1 t)
 ·(have sub:∀{W V:EF} {q q':Addr} {G G':BM} {os cq:B6!},nV W V->J3!->n2!->al!->Rows G' cq->∀z∈os.map (E0!),z∈cq.map (E0!):=λ{W V q q' G G' os cq} f h1 h2 R R' z hz=>by obtain⟨r,hr,rfl⟩:=As!;have k1:XN! r.1:=R.pm.mem_iff.mp (BD hr);obtain⟨k2,k3⟩:=f.AF h q G q' G' h1 h2 r.1 k1;obtain⟨r',IW,e⟩:=ZN (R'.pm.mem_iff.mpr k2);obtain⟨_,_,hl,a2,_,a3,a4⟩:=R.at_ r hr;obtain⟨_,_,aP,b2,_,b3,b4⟩:=R'.at_ r' IW;(have g1:u0! r.1=hl:=LN! a2);(have g2:CD G'.holds r.1=aP:=by unfold CD;rw[<-e,b2];rfl);(have:Al!=r'.2.2:=Nj a4 b4 λt=>by rw[a3.mem_iff,b3.mem_iff,<-g1,<-g2,k3]);exact O4! r' IW (Prod.ext e this.symm));(have m1:AM! (os.map (E0!)).map os.map:=D1!);(have m2:AM! (cq.map (E0!)).map cq.map:=D1!);exact Xd (f:=λz:T2×List T2=>z.1) (q! m1 a.PM.pw) (q! m2 b.PM.pw) λz=>A! (sub f h1 h2 a.PM b.PM z) (sub f' h2 h1 b.PM a.PM z)
universe E
universe S
variable {H:Hp}{p:Addr}{W:EF}{D:T2->Prop}{m n d A B:Nat}{ys:List Qy}
theorem WI.quiet(x:wk! A []):Ho m ys=0:=by
 have:∀{l:w!},(∀y∈l,Fq m y=0)->Ho m l=0:=λ{l} h=>by induction l with | nil=>rfl | cons y l ih =>show Fq m y+Ho m l=0;rw[DQ! y,ih (S? (h z (AL! hz)))]
 refine this Jn!;have iv:=aB!;have l1:=iv.t1.length_eq;rw[Fv,ZE,ZE,ZA,ZA] at l1;have l1:0+0+y.fi.length=m:=l1;rcases iv.t2 with⟨h,_⟩|⟨_,pm⟩;.lia
 .have l2:=pm.length_eq;rw[Fv,ZE,ZE,ZA,ZA] at l2;have l2:0+0+y.se.length=m:=l2;unfold Fq;rw[GR!,GR!]
theorem WI.reset(x:wk! A []):tA! n d 0 (Hj W.qs) [] :={ x with pb:=Hp! (by show 0+Ho m ys+1*Hj W.qs<=_;rw[x.quiet];lia) }
theorem Jb6:∀{l:a!},(∀z∈l,z.2.AI.length<=n)->Hj l<=l.length*n
 | [],_=>sw
 | z::l,h=>by have ih:=Jb6 (l:=l) (Cn! (h y (AL! hy)));have:=DQ! z;show z.2.AI.length+Hj l<=(hA!)*n;rw[Nat.succ_mul];lia
theorem WI.AI(x:k!)(m4:m<=4):Hj W.qs<=4*n:=by
 have h1:=Jb6 (n:=n) (l:=W.qs) (S? (fr! (CV.mp hz) (x.wg.BJ (G:=z.2) (q:=z.1) hj).1.ok.rz))
 rw[x.wg.wl.len] at h1;exact A_ h1 (FD n m4)
universe E
theorem Jqm:Y? dH! dH! xh:={}
inductive Jl9(vs:C!)(H:Hp)(Q:VK)(E:XK):Prop
 | mk (p:Addr) (c o:Int) (h:Nat) (W:EF) (D:y?) (m n d B:Nat) (al:M!) (ys:w!) (_:vs=[Go,g! c,g! i?,g! o]) (_:iV!) (_:n<=40) (_:Aq!) (_:d<=40) (_:m<=4) (_:h<m)
   (_:∀(H':Hp)(W':EF)(D':y?)(d' B':Nat)(DN:w!),WI H' p W' D' m Bp! d' 0 B' [] DN->B'<=480->ls! []->(bl! W'.qs W'.qs)->mR!->LH!->qO!)
theorem Jrh(g:GG):EG 3 KQ KR CJ! (pD! Ng):=FX.EW.no (gAs g)
theorem gCm(g:GG):EG 9 TQ UY dH! Jl9:=by
 refine EM! g.mCm.fn.JH Jqm;obtain⟨p,c,o,h,W,D,m,n,d,nB,al,ys,rfl,wi,hn,hB,hd,m4,hm,k⟩:=h;refine X!;have OK:NI!:=W?;have c9:DM 3 _:=W?;refine Ct! (Ad (kc! (Vr (F5 (JA! gAl hr g.mAl.mg g.mAl.fn.kp g.mAl.bd (U5! z!))))) (Ad (vf! g.TW.cl g.mWAs.mt (Jrh g) c9 g.mWAs.bd Ba Pi!) (BO! (Jge (JA! gAl hr g.mAl.mg g.mAl.fn.kp g.mAl.bd (U5! E?)) (Jf9 (Ik (Pq! Qp) tX! ED! (A9 _)))))));refine⟨_,rfl,_,rfl,p,c,W,D,m,n,d,nB,al,ys,(λW' al' _=>ls! al'),rfl,wi,B!,hB,B!,Cm.refl W al,λH1 eD W1 D1 d1 B1 tW YJ W2 xK n_ BJ L x j dl=>j.dlv x dl,λH1 W1 D1 YJ VO xE mv1 j6=>?_⟩;refine Zb! At!;have VO:=VO.reset;have rb:=VO.AI m4;obtain⟨dx,hp⟩:=VO.wa.ob;obtain⟨⟨q,G⟩,hq⟩:=tV! W1.qs h (q! VO.wg.wl.len hm);have i:LD W1 i? q G:=A! (OR _) hq;refine p5! p dx _ hp (Ct W1 ZV);refine Jhx (A':=0) (B':=Hj W1.qs+20) (R:=λ_ W' al' DN _=>W'.qs=W1.qs/\al'=C5 m i? (er!) 1/\∃io I,DN=YJ++ss! er!) VO E! E! E! i C6! E! (λv W2 D2 xK n_ H2 r fp aB fr SE=>?_) λW' L H' io I nw el e=>⟨e,rfl,io,I,rfl⟩;obtain⟨eq2,rfl,io,I,rfl⟩:=r;have mv2:=mv1.trans (A! fr fp);have cm2:Cm W.qs al W2 (C5 m i? Ws! 1):=MS! (I! eq2 xE.len) (λh' t=>by rw[<-xE.hc h' t,eq2];(have n1:¬VR (C5 m i? Ws! 1) h' t:=R0 (S? (by obtain⟨i,_,rfl⟩:=As!;exact Go!)));(have n2:¬VR [] h' t:=R0 (S? Me!));exact rC! n1 n2) eq2 xE.ho;have c1:C1 m W1.qs Ws! W2 (C5 m i? Ws! 1) (YJ++ss! er!):=⟨eq2,S? (by obtain⟨i,_,rfl⟩:=As!;exact H! (Dl! _ _ rfl)),_,Yg!,rfl,by have:=wi.m1;show 0<m;lia,Bj! (FP! hr),Bj! (FP! hr)⟩;refine⟨_,rfl,_,rfl,p,o,W2,D2,m,n+1,d+nB+1,Hj W1.qs+20,_,_,(λW' al' DN=>ls! al'/\(C1 m W1.qs Ws! W' al' DN\/C2 W1.qs (er!) W' al')),rfl,aB,B!,B!,B!,A! cm2 (H! c1),λH3 H3' W3 D3 d3 B3 al3 zv W4 al4 ys4 BJ L x j dl=>L? (j.1.dlv x dl),λH3 W3 D3 zv i7 j3 mv3 gw=>?_⟩;.rcases j.2 with j|j;(.exact Jph x j dl);.exact L! (Jpg x j dl)
 refine Zb! Cb!;obtain⟨QN,RD⟩:=i7.wa.ob;refine qs! QN RD (Ct W3 ZV) W3 i7.wa (λl H4 hl el s4=>?_);have cn:=i7.same s4;refine Hp! (λr IW=>⟨_,_,tS! el cn.lw,qa!,E7 (Jy cn.wg.wl.ok),Vx,?_⟩);have e0:W3.ls=[]:=BS.mp (KM i7.len.1);rw[J9,e0,Nu];have s5:=Nn!;exact k _ W3 D3 _ _ zv (cn.same s5) E! j3.1 (Jh4 i7 j3.2).2 ((mv2.trans mv3).post (Aj s4 s5)) (gw.trans (SE.trans j6))
theorem WI.DY{H H':Hp}{p:Addr}{W:EF}{D:y?}{m n d A B:Nat}{al:M!}{ys:w!}(x:k!)(f:TY!):wS:=by
 have no:KE (Dj!->((∃xs,o=.BE xs)\/∃ob u,o=.HK ob u)->Eh!/\b∉TH!):=λb o e c=>by refine A! Dz! Dz!;(.obtain⟨o',e',h1,h2⟩:=x.wa.some_at z;rw[e] at e';cases e';rcases c with⟨xs,c⟩|⟨ob,u,c⟩;(.exact h1 _ c);.exact G! h2 c);.obtain⟨y,hy,hb⟩:=C_.mp z;obtain⟨o',e',h1,_,h2⟩:=ZA!;rw[e] at e';cases e';rcases c with⟨xs,c⟩|⟨ob,u,c⟩;(.exact h1 _ c);.exact G! h2 c
 exact W4! (f a _ e (no a _ e (c? (Rs xs))).1 (no a _ e (c? (Rs xs))).2) (λa o u e=>f a _ e (no a _ e (AB! (A2! u rfl))).1 (no a _ e (AB! (A2! u rfl))).2)
def LsK(hs:Addr)(H H':Hp):Prop:=∀b xs,eV! b->b≠hs->PD! (.BF xs)
theorem WI.lists{H H':Hp}{p:Addr}{W:EF}{D:y?}{m n d A B:Nat}{al:M!}{ys:w!}(x:k!)(f:TY!):LsK W.hs H H':=λb xs e ne=>f b _ e (x.wa.YY e ne) λz=>by obtain⟨y,hy,hb⟩:=C_.mp z;obtain⟨o,e2,_,h,_⟩:=ZA!;rw[e] at e2;cases e2;exact h _ rfl
def Ft(p:Addr)(W:EF)(ys:w!)(b:Addr):Prop:=b∈ER!\/b∈TH!
universe S
variable {H H':Hp}{p r:Addr}{W W' V V':EF}{D D' E:T2->Prop}{m n d A B n1 d1 A1 B1:Nat}{al bl:List LL}{ys DN zs b_:List Qy}
theorem WI.jZ(x:k!)(k:aH! (Ft p W ys b))(kt:wS):WI H' p W D m n d A B al ys :={ x with wa:=x.wa.keep (Px! k M0!),lw:=Df x.lw kt,at_:=Cn! ((x.at_ y hy).keep (Px! k (N? (C_.mpr ⟨y,hy,hb⟩))) kt) }
theorem WI.lies(x:k!)(h:Ft p W ys b):∃o,Dj!:=by
 rcases h with h|h;.obtain⟨o,e,_⟩:=x.wa.some_at h;exact ZF!
 .obtain⟨y,hy,hb⟩:=C_.mp h;obtain⟨o,e,_⟩:=ZA!;exact ZF!
def jT(p:Addr)(W:EF)(ys:w!)(r:Addr)(V:EF)(zs:w!):Prop:=∀b,Ft p W ys b->¬Ft r V zs b
theorem jT.symm(a:jT p W ys r V zs):jT r V zs p W ys:=λb h1 h2=>a b h2 h1
theorem jT.mv(a:jT p W ys r V zs)(x:k!)(y:xt! H)(mv:mR!):xt! H'/\jT p W' DN r V zs:=by
 refine A! (y.jZ (Ax! (mv.fr b o e (λz=>a b (c? z) hb) (λz=>a b (AB! z) hb))) (x.DY mv.fr)) (λb h1 h2=>?_);rcases mv.fp b h1 with h|h|h;.exact a b G9! h2
 .exact a b R9! h2
 .obtain⟨o,e⟩:=y.lies h2;rw[h] at e;cases e
universe E
structure dQ(H:Hp)(x la da:Addr)(hs:bV!)(L:List (T2×D!)):Prop where
 ob:Fh! Tz!
 li:∃as:J!,Vu! la/\mv! (DL K H a ey!) (IC! ts) hs
 di:∃hl:HL,aX! da/\K64F.MA H hl/\hl.map (Ci!)=L
theorem dQ.keep(h:dQ H x la da hs L)(k:wS)(k1:∀o,Ch la o->A5! la o)(k2:∀o,Ch da o->A5! da o):dQ H' x la da hs L:=by obtain⟨ob,⟨as,e1,p⟩,hl,e2,h2,e3⟩:=h;exact⟨O3! ob,⟨as,k1 _ e1,SD! (by obtain⟨cs,h1,h2⟩:=h9;exact⟨cs,k.sq h1,Ys! h2⟩) p⟩,hl,k2 _ e2,h2.keep k,e3⟩
def Et(S:B2!)(m:Nat):bV!:=SK! m (λj=>(S j).1)
def Du(S:B2!)(m:Nat):List (T2×D!):=(List.range m).flatMap λj=>(S j).2.1.map E0!
theorem W9:Et S (U?)=Et S i++[(S i).1]:=by unfold Et;rw[DZ,ZF];rfl
theorem Om:Du S (U?)=Du S i++(S i).2.1.map E0!:=by unfold Du;rw[DZ,BZ];simp
def F0(qs:a!)(S:B2!):Prop:=fj! (FM QP!->Told G (S j).1 (S j).2.1 (S j).2.2)
theorem WA:iK! [eF!,JN!,"_law_hands","_law_held",eH!,"_law_hand","_law_things","_law_records","_law_thing","_law_out","_law_holds"] JN! xm:={}
inductive Jl5(vs:C!)(H:Hp)(Q:VK)(E:XK):Prop
 | mk (p:Addr) (W:EF) (D:y?) (m n d A B:Nat) (al:M!) (ys:w!) (_:vs=[Go,g! AC!]) (_:k!) (_:AD!) (_:m<=4)
   (_:∀(x la da:Addr)(S:B2!)(H':Hp),r?->t? la->t? da->OP!->dQ H' x la da (Et S m) (Du S m)->I9!)
theorem gLf(g:GG):EG 4 SW UK (uV! JN!) Jl5:=by
 refine EM! g.mLf.fn.JH WA;obtain⟨p,W,D,m,n,d,nA,nB,al,ys,rfl,wi,hn,m4,k⟩:=h;refine X!;have hu:=a?;have c9:DM 3 _:=W?;refine kD! WA.nd ED! WA.nd Eo (Sx! (F1 rfl g.T.range ES!) WA.nd (LP! (Jf2 (Up! O? g.TW.cl g.mWSt.mt (Jlf g) c9 g.mWSt.bd Ba (am n?)) (sV! (SE! 5) (SE! 6) (SE! 7))) (A6 (F7 BN CO CN Cv W! (am AO!))) (jJ! (Gu (pv 6)) (sV! (SE! 8) (SE! 9) (SE! 10)) (Af (B9 hu E? (pv 8) (pv 10) rfl))))) (VY! l7!);have JPn:Ud!:=wi.wg.wl.len;have ch:∀j:Nat,∃S:HS,∀q G,ja! (Told G S.1 Hj! S.2.2):=λj=>by cases e:Oo! with | none=>exact A! ([],[],[]) (λq G h=>JS!) | some r =>obtain⟨q,G⟩:=r;obtain⟨hs,os,rs,LF⟩:=hi! wi.wg.wl.good e;exact A! Hi! (λq' G' h=>by cases h;exact LF)
 obtain⟨S1,pJ⟩:=Classical.axiomOfChoice ch;refine Hp! (λla g_=>?_);have s1:=JJ! g_;have e1:if! (wx! la) la:=Ab;generalize ed! H la=H0 at s1 e1;intro da jG;have ur:=SI! jG;have e2:re (BJ! H0 da .dT []) da Dy []:=Ab;have nld:la≠da:=Ak e1 jG;have qa:t? da:=Cp s1 jG;generalize SM! H0 da=H1 at ur e2;have e1:=Hw! ur;have s1:=Aj s1 ur;refine⟨_,rfl,AC!,rfl,B!,B!,?_⟩;refine of! m (λi σ H'=>∃(u4 u5 u6 u7 u8 u9 ud:wE)(as:J!)(hl:HL),σ=[CZ!,KI!,M5!,M4!,u4,u5,u6,u7,u8,u9,ud]/\r?/\mC! la/\mv! (DL K H' a ey!) (AZ H' cs ts) (Et S1 i)/\re H' da Dy hl/\K64F.MA H' hl/\hl.map (Ci!)=Du S1 i/\(DX! (q.1.1<y!))/\vL! (64*i)/\as.length=i) ⟨_,_,_,_,_,_,_,[],[],rfl,s1,e1,S!,e2,(gz!),rfl,(gz!),sw,rfl⟩;.rintro i σ H2 hi ⟨u4,u5,u6,u7,u8,u9,ud,as,hl,rfl,s2,iC,mD,m7,oy,mn,HZ,ll2,gp⟩;rw[LF! ly!];have aB:=wi.same s2;obtain⟨⟨q,G⟩,hq⟩:=Zl! W.qs;have iw:LD W y! q G:=en! (I! CA hq);have gd:=Jz! wi.wg.wl.good hq;have LF:=pJ i q G hq;obtain⟨dx,hp⟩:=aB.wa.ob;refine xJ! y! aB.wa (L! ⟨q,G,iw,q,G,(S1 i).1,eM!,(S1 i).2.2,rfl,iw.at aB.wa,gd.h2,gd.o2,gd.r2,LF.pm,LF.pw,LF.PM,LF.pr,LF.wr,λx H3 s3 st=>?_⟩);obtain⟨y1,y2,y3,JA,bs,ds,f0,f1,t1,f2,t2,f3,t3⟩:=st;have t2:n0! H3 eM!:=t2;refine tq! x (NE f0);have sh3:=Aj s2 s3;obtain⟨sd,nu⟩:=wi.wg.BJ hq;(have ol:(S1 i).2.1.length<64:=by have:=LF.PM.pm.length_eq;rw[ZA,ZA] at this;have:=gd.o2;lia);have zo:∀z∈eM!,XN! z.1:=λz mz=>Fi! LF.PM.pm.mem_iff.mp (CT! z mz);have sJ:k? (S1 i).2.1.map:=LF.PM.pm.nodup_iff.mpr sd.ok.on;have aK:=CY! iC;refine sG! (DC! aK) _ rfl la aK Si! ?_;(have LB:Pm! H3 H3 la Ep! RR!:=pc aK);(have s4:ap (d1! H3 la Ep! RR!):=Kj! g_ sh3);(have a7:O1! (d1! H3 la Ep! RR!) la (as++[y1]).map:=b8!);(have pX:re (d1! H3 la Ep! RR!) da Dy hl:=o! nld.symm (CY! m7));generalize Pl! H3 la (Ep!++[RR!])=H4 at LB s4 a7 pX;have lH:=(HQ s3).trans LB;(have pa4:A6! (λa ts=>fY! (DL K H4 a ey!) (AZ H4 cs ts)) (as++[y1]) (Et S1 FS):=I! W9 (Tt! nq (Ar (λ_ _ h9=>by obtain⟨cs,h1,h2⟩:=h9;exact⟨cs,lH.sq h1,Fp! lH h2⟩) mD) ⟨JA,LB.sq (DL.of f1),Fp! LB t1⟩));refine Nz! y2 (LB.sq (DL.of f2));refine S7! y2 bs (λj σ H'=>∃(w8 w9 je:wE)(L:HL),σ=[CZ!,KI!,M5!,M4!,ut y!,d? y1,d? y2,d? y3,w8,w9,je]/\r?/\BY H4 H'/\v6! la (as++[y1]).map/\A5! da (Dy (hl++L))/\K64F.MA H' (hl++L)/\L.map (Ci!)=((S1 i).2.1.take j).map E0!) ⟨_,_,_,[],rfl,s4,X8!,a7,Jk! pX,Jk! (oy.keep lH),rfl⟩ (λj σ H' _ h=>by obtain⟨_,_,_,_,_,_,kt,_⟩:=h;exact(LB.trans kt).sq (DL.of f2));(.rintro j v σ H6 hj ⟨w8,w9,je,L,rfl,s6,k6,pV,tT,vZ,eL⟩;obtain⟨z,ez⟩:=bS! eM! t2;obtain⟨a,t,hd,cs',rfl,g1,g2,g3,g4⟩:=(Av t2 j v z hj ez).keep (LB.trans k6);have mz:=ZP ez;have jl:j<(S1 i).2.1.length:=Bm! ez;(have lL:L.length=j:=by have:=DP! eL;rw[ZA,ZA,DG] at this;lia);(have kL:ii! ((S1 i).2.1.map (·.1)).take j:=by have:=congrArg (List.map Prod.fst) eL;rw[AK,AK] at this;rw[<-List.map_take];exact this);(have df:∀q∈hl++L,q.1≠z.1:=λq YE e=>by rcases ZI YE with h|h;(.have:=HZ q h;rw[e,(wi.wg.aV hq (zo z mz)).1] at this;lia);.have h1:a0! L.map:=Zm! h;rw[kL,e] at h1;obtain⟨l',aP,e3⟩:=List.mem_iff_getElem.mp h1;rw[DG,ZA] at aP;rw[List.getElem_take] at e3;(have a2:((S1 i).2.1.map (·.1))[j]?=some z.1:=PG! ez);obtain⟨p2,b2⟩:=ZJ a2;have:=(IU sJ).mp (e3.trans b2.symm);lia);refine tq! a (NE g1);refine⟨_,rfl,_,rfl,_,rfl,da,_,rfl,HF.t (k:=tk z.1) tT g2 (Pu! ZA ZE PQ!),?_⟩;rw[Ij (V.ref hd) df];rw[show(((hl++L).map DF!)++[(tk z.1,WP hd)])=(hl++(L++[(z.1,hd,LX!)])).map DF! by rw[<-AN];symm;rw[ZF];rfl];(have QO:∀o,BY H6 (upd H6 da o):=λo=>pc tT);refine⟨_,_,_,L++[(z.1,hd,LX!)],rfl,Kj! qa s6,k6.trans (QO _),o! nld pV,Ab,?_,?_⟩;(.rw[<-AN];intro q YE;rcases ZI YE with h|h;(.exact vZ.keep (QO _) q h);.rw[D7!];exact⟨cs',(QO _).sq (DL.of g3),AZ.keep (QO _) g4⟩);.rw[ZF,eL,CQ,ez,ZF];rfl);.rintro σ H6 ⟨w8,w9,je,L,rfl,s6,k6,pV,tT,vZ,eL⟩;rw[show(S1 i).2.1.take bs.length=eM! by rw[R? t2,BQ]] at eL;(have lL:L.length=(S1 i).2.1.length:=kZ! (DP! eL) ZA);refine⟨_,_,_,_,_,_,_,as++[y1],hl++L,rfl,s6,pV,SD! (by obtain⟨cs,h1,h2⟩:=h9;exact⟨cs,k6.sq h1,Fp! k6 h2⟩) pa4,tT,vZ,by rw[ZF,mn,eL,Om],λq' YE=>?_,LC! ZE,gv! gp⟩;rcases ZI YE with h|h;(.have:=HZ q' h;lia);.have h1:(q'.1,q'.2.2)∈L.map (Ci!):=Fj! q' h;rw[eL] at h1;obtain⟨z,hz,e3⟩:=ZN h1;have e4:z.1=q'.1:=U8! Prod.fst e3;rw[<-e4,(wi.wg.aV hq (zo z hz)).1];lia
 .rintro σ H2 ⟨u4,u5,u6,u7,u8,u9,ud,as,hl,rfl,s2,iC,mD,m7,oy,mn,HZ,ll2,gp⟩;refine⟨_,rfl,_,rfl,tz!,CU!⟩;have s3:=PC! Tz! hx;exact k x la da S1 _ (Aj s2 s3) g_ qa pJ (dQ.keep (H:=H8! H2 x Tz!) ⟨Ab,⟨as,CY! iC,Ar (λ_ _ ⟨cs,h1,h2⟩=>⟨cs,(HQ s3).sq h1,Ez! s3 h2⟩) mD⟩,hl,CY! m7,oy.keep (HQ s3),mn⟩ (BY.refl _) (λ_ e=>e) (λ_ e=>e))
universe E K64
universe N FX
open PySem L2
theorem Jmk{P:Program}{w:World}{A:Around}{E:M?}{s:Shared}{nm:String}{a b:Addr}{xs ys:CX!}{Q:YR!}(na:P3!)(nb:bv (b==sysModules))(da:bo! s.heap.DictOfH)(db:s.heap.DictOfH vV! b ys)(hl:f1!)(hu:UX!)(hit:∀x∈xs,∃(j:Nat) (p:P4!),Db Ue! x.1 p/\mN! A x.2.2 p.2)(h:Q true s):wm! P (Builtin.Dict.samePairs nm a b):=by
 obtain⟨oa,es,ep,sk,_,jG,hea,hia,hna⟩:=da;obtain⟨ob,fs,eq,j8,_,bE,v8,vt,hnb⟩:=db;have la:=GZ hea;have lb:=GZ v8;unfold Builtin.Dict.samePairs Builtin.Dict.showsAll;rw[AB (ew! na),AB (ew! nb)];refine U2! (co! (BV sk jG ?_));dsimp only;refine GT! BV j8 bE;rw[AB (by rw[la,lb,hl];simp)];refine ZR (EC sk jG Sr!);rw[IM];simp only[Std.Legacy.Range.size,Nat.sub_zero,Nat.add_sub_cancel,Nat.div_one];refine tb! (λrest q s'=>s'=s/\q=(none,())/\∃i,rest=List.range' i (es.size-i)/\i<=es.size) ⟨rfl,rfl,0,D?,sw⟩;.rintro x rest q s' ⟨rfl,rfl,i,hr,hi⟩;(have lt:f6!:=by rcases Nat.lt_or_ge i es.size with z|z;(.exact z);.rw[VM z] at hr;cases hr);(obtain⟨rfl,er⟩:x=i/\rest=List.range' (U?) (es.size-FS):=by rw[FK! (es.size-i=(es.size-FS)+1),K_] at hr;injection hr with h1 h2;exact aP!);obtain⟨⟨k,c,v⟩,hx⟩:=O2! xs x (G? la lt);have mx:=ZP hx;obtain⟨j,p,hj,he⟩:=hit _ mx;(have hex:es[x]?=some (entryOfKey (tupleKind V2!) (k,c,v)):=Db! (entry_at hea x) hx);(have hfj:fs[j]?=some (entryOfKey (tupleKind V2!) (k,p)):=Db! (entry_at v8 j) hj);refine GT! BV sk jG;rw[hex];show k5! (holding [_,_] _);refine L1! (ZR (wpAny_dictFind_heap (knd:=tupleKind (Bh P w)) (k:=k) (a:=c) hu (hia _ mx) j8 bE v8 vt hnb (λno=>IR hj (no j p)) λj' p' dA=>?_));obtain rfl:=idxH_unique hnb hj dA;rw[hj] at dA;cases dA;refine GT! BV j8 bE;rw[hfj];refine DA (he P w _ _ ?_);show QB! (QS! (Ix (!true)) _ _);rw[J6!];refine GT! EC sk jG;rw[Ca!];exact ZS ⟨rfl,rfl,x+1,er,lt⟩
 .rintro q s' ⟨rfl,rfl,i,hr,hi⟩;exact ZS h
theorem Jfv{A:Around}{s:Shared}{a b:Addr}{xs ys:CX!}(na:P3!)(nb:bv (b==sysModules))(da:∀(P:Program) (w:World),bo! s.heap.DictOfH)(db:∀(P:Program) (w:World),s.heap.DictOfH vV! b ys)(hl:f1!)(hu:IZ!)(hit:∀x∈xs,∃(j:Nat) (p:P4!),Db Ue! x.1 p/\mN! A.in1 x.2.2 p.2):SeqAt.RcAt A s SB Fm! true:=λP w E Q h=>by have ta:=(da P w).typeIs;have tb:=(db P w).typeIs;refine wpAny_richCompare_same_room (op:=.Eq) ta tb PySem.F.slot_dict_eq (CU PySem.F.slot_dict_eq ta PySem.F.entry_dict_eq ?_ (PySem.F.args_dict_eq_2 _ _)) E!;show Nq! (Builtin.Dict.dictSlotArgs "__eq__" (FV! [Aj!,CK!]));refine H5!;unfold Builtin.Dict.dictSlotArgs;refine No! GO ta;show Li! (pure (uC!,Value.ref b));refine ZS (ZR (OC (T:=Da!) tb PySem.F.sub_dict_dict ?_));simp only[Bool.not_true,CL,EZ];refine U2! (co! (Jmk na nb (da P w) (db P w) hl ?_ hit ?_));(.exact hu);.exact ZS (HQ! (λx=>nomatch x) At)
universe E FX
universe N K64
open PySem L2 FX
inductive Jqy(K:W.Frag)(x:V)(y:V)(H:Hp)(Q:VK):Prop
 | mk (a b la da lb db:Addr) (u:PyData) (hl aP:HL) (_:Ap!) (_:XE!) (_:KF! Tz!) (_:O0! b (d9! lb db)) (_:Rep K H (V! la) u) (_:Rep K H (V! lb) u) (_:a_ u) (_:aX! da) (_:Vv! db aP)
   (_:DX! (fY! (Zf! K?) (IC! u?))) (_:∀q∈aP,fY! (Zf! K?) (IC! u?)) (_:hl.map (Ci!)=aP.map (Ci!)) (_:da≠db) (_:KW! true)
theorem kt_at{H:Hp}{l:HL}{xs:CX!}{i:Nat}{z:Cv!×P4!}(r:L2.KT H (Bq! DF!) xs)(hx:xs[i]?=some z):∃q,IJ!/\z.1=tk q.1/\LX!=DW! K?:=by
 have hi:t3!:=by have h1:=YY!;rw[ZA] at h1;rw[h1];exact Bm! hx
 obtain⟨q,hq⟩:=Ao hi;have:=Av r i x1! z (QZ! hq) hx;exact⟨q,hq,this.1.symm,this.2.2⟩
theorem Jot{H:Hp}{l:HL}{xs:CX!}{i:Nat}{q:T2×vW!}(r:L2.KT H (Bq! DF!) xs)(hq:IJ!):∃c,xs[i]?=some (LO!,c,hp!):=by
 have hi:OA!:=by have h1:=YY!;rw[ZA] at h1;rw[<-h1];exact Bm! hq
 obtain⟨⟨k,c,v⟩,hx⟩:=Ao hi;obtain⟨q',YE,e1,e2⟩:=kt_at r hx;rw[hq] at YE;cases YE;have e1:k=LO!:=e1;have e2:v=hp!:=e2;exact A! c (UF hx e1 e2)
theorem Jlc{H:Hp}{l:HL}{xs:CX!}(r:L2.KT H (Bq! DF!) xs):∀x∈xs,∃t:T2,x.1=tk t:=λx hx=>by obtain⟨i,hi⟩:=CV.mp hx;obtain⟨q,_,e,_⟩:=kt_at r hi;exact A! q.1 e
theorem Jd8{P P':Program}{w w':World}{ks:Cv!}{vs:Z!}(h:ItemsAre V2! ks vs):ItemsAre (Bh P' w') ks vs:=gR! h S! (C? h ih)
theorem Jhy{P P':Program}{w w':World}{h:Heap}{a:Addr}{xs:CX!}(d:bo! h.DictOfH)(ik:∀x∈xs,∃t:T2,x.1=tk t):h.DictOfH (tupleKind (Bh P' w')) a xs:=by
 obtain⟨o,es,ep,h1,h2,h3,h4,h5,h6⟩:=d;refine⟨o,es,ep,h1,h2,h3,h4.trans (BP CU!),CU!,h6⟩;.obtain⟨t,e⟩:=ik x hx;unfold entryOfKey;rw[e];rfl
 .obtain⟨o,its,n,g1,g2,g3,g4⟩:=h5 x hx;exact⟨o,its,n,g1,g2,g3,Jd8 g4⟩
theorem Jmn{X:F!}(hu:KT!):lk! .Eq Jqy:=by
 intro AA s σ H x y v w Q I rx ry h;obtain⟨a,b,la,da,lb,db,u,hl,aP,rfl,rfl,ea,eb,r1,r2,ok,ed,ed',ht,sZ,em,ne,q⟩:=h;cases rx;cases ry;obtain⟨its,v1,t1,_⟩:=Sy! ea;obtain⟨sU,v2,t2,_⟩:=Sy! eb;have i1:its=Tz!:=Ka (ds:=[la,da]) v1;have i2:sU=d9! lb db:=Ka (ds:=[lb,db]) v2;subst i1 i2;obtain⟨JA,g1⟩:=kV! rfl;obtain⟨VX,g2⟩:=kW! rfl;have o2:=ok.2;have el:mN! X.A.in1 (V! la) (V! lb):=HP! (SeqAt.eqAt_reads u u X.A.in1 s _ _ _ _ g1 g2 ok.1 ok.1 (ip! (X.A.units+1+_))) (Mt ok)
 obtain⟨_,n1,xs,k1,d1⟩:=Ov I.DP ed;obtain⟨_,n2,ys,k2,d2⟩:=Ov I.DP ed';have ll:hl.length=aP.length:=by have:=DP! em;rwa [ZA,ZA] at this
 have e1:mN! X.A.in1 (V! da) (V! db):=SeqAt.EqAt.of_refs ne (Jfv (xs:=xs) (ys:=ys) n1 n2 (λP w=>Jhy d1 (Jlc k1)) (λP w=>Jhy d2 (Jlc k2)) (by have h1:=R? k1;have h2:=R? k2;rw[ZA] at h1 h2;lia) (ip! h9!) (S? (by obtain⟨i,hi⟩:=CV.mp hz;obtain⟨q1,dk,e1,e2⟩:=kt_at k1 hi;obtain⟨q2,cJ⟩:=O2! aP i (Dp! ll dk);(have e3:(q1.1,q1.2.2)=(q2.1,q2.2.2):=by (have a1:Db ((hl.map (Ci!))[i]?) q1.1 q1.2.2:=PG! dk);(have a2:Db ((aP.map (Ci!))[i]?) q2.1 q2.2.2:=PG! cJ);rw[em,a2] at a1;exact D2! ZO a1);obtain⟨c,hc⟩:=Jot k2 cJ;refine⟨i,Ha! c q2.2.1,UF hc e1 (WS! e3),?_⟩;rw[e2];obtain⟨cs1,f1,f2⟩:=ht q1 (ZP dk);obtain⟨cs2,f3,f4⟩:=sZ q2 (ZP cJ);have e4:q1.2.2=q2.2.2:=eb! e3;rw[<-e4] at f4;obtain⟨bs1,w1⟩:=(IP.tupP f1 (Kb f2)).reads I _ rfl;obtain⟨fA,w2⟩:=(IP.tupP f3 (Kb f4)).reads I _ rfl;have rq:=Jdt (U0 q1.2.2);have o3:=rq.2;have:=SeqAt.eqAt_reads _ _ X.A.in1.in1 s _ _ _ _ w1 w2 rq.1 rq.1 (ip! (h9!+_));rw[Mt rq] at this;exact this)));refine SeqAt.eq_tupleAt (e:=λ_=>true) t1 t2 E! (λj h1 h2=>?_) (AA! (.bl _) H I ?_);.rcases j with _|_|j;(.exact el);(.exact e1);.exact EW! h1 (xL (¬j+1+1<2))
 .exact q
theorem aU:Y? ["_law_hands","_law_held","_law_reached","_law_hand","_law_thing","_law_at","_law_one"] oy! xg:={}
inductive Jma(vs:C!)(H:Hp)(Q:VK)(E:XK):Prop
 | mk (la da:Addr) (as:J!) (hs:bV!) (hl:HL) (_:vs=Tz!) (_:Vu! la) (_:mv! (DL K H a ey!) (IC! ts) hs) (_:aX! da) (_:K64F.MA H hl)
   (_:di! (∀t∈ts,EU!)) (_:DX! (Xb! Q1!)) (_:k? hl.map) (_:Xi!)
   (_:∀R:D!,(di! Xe!)->(DX! (Bw!->Xb! (u∈R)))->DX! Bw!) (_:∀H',r?->qO!)
theorem Jiq{R:D!}(nd:R.Nodup)(n:t∉R):GA! (R++[t]):=kv! nd D? (n (dn! (ZK hv) z hu))
theorem gAr(g:GG):EG 1 TX VA oy! Jma:=by
 refine EM! g.mAr.fn.JH aU;obtain⟨la,da,as,hs,hl,rfl,el,pa,ed,ht,hk,cl,nd,z64,all,k⟩:=h;refine X!;have hu:=a?;refine VP! aU.nd ED! (LP! (Vh! (KU! 0) 3 aU.nd (jJ! (Gu (pv 3)) (I5! 4 aU.nd) (Se! (A5 (Pq! Jb) n? W! rfl) (mT! W! n?)))) (Sx! (KU! 2) aU.nd (Se! (El (Eh hu n? z!)) (BO! Gf))) (ZN! 5 aU.nd Ag (pO! (LQ! Mb AO! (Nw! W!)) (Ad (Vh! (Gu (Ma hu z! (Ay Bq W! AO!) (Bp Ae) C0!)) 6 aU.nd (Se! (A5 (Pq! Jb) Hd! W! rfl) (mT! W! Hd!))) (Af (Uo! 5 aU.nd (Ry! AO!))))) (Ik (Pq! Qp) (jd! (N6 rfl) g.T.sorted W!) (Ut! RP! g.T.sorted DB ES!) (A9 _))));have lim:∀{R:D!},R.Nodup->(Xd!)->R.length<=hl.length:=λ{R} n h=>Wh! (FX.fk n h) ZA
 refine Hp! (λra hra=>?_);have s1:=JJ! hra;have e1:if! (wx! ra) ra:=Ab;generalize ed! H ra=H1 at s1 e1;have grow:∀{H2:Hp} {bs:J!} {R:D!} {t:Addr} {th:T2},L2!->an! ra->AZ H2 bs R->R.Nodup->(Xd!)->Mr! t (G4! th)->th∈vd!->th∉R->IN bs.map V.ref<sizeLine/\ap (d1! H2 ra IB! Mx!)/\Pm! H2 H2 ra IB! Mx!/\O1! (d1! H2 ra IB! Mx!) ra (bs++[t]).map/\AZ (d1! H2 ra IB! Mx!) (bs++[t]) (R++[th])/\GA! (R++[th])/\(∀t∈R++[th],EU!):=λ{H2 bs R t th} s2 er QK n2 sub et hk' df=>by (have kt:Pm! H2 H2 ra IB! Mx!:=pc er);refine⟨A8 ?_,Kj! hra s2,kt,b8!,Tt! nq (AZ.keep kt QK) (d! kt.BE et),Jiq n2 df,Fq!⟩;(.have:=lim n2 sub;rw[ZA,R? QK];lia);.rcases GO! with h|h;(.exact sub u h);.rw[D7!];exact hk'
 refine Nz! la (KX! s1);refine aM! la Ep! (λi σ H2=>∃(u3 u4:wE)(bs:J!)(R:D!),σ=[M5!,M4!,YL!,u3,u4,none,none]/\L2!/\an! ra/\AZ H2 bs R/\R.Nodup/\(Xd!)/\∀ts∈hs.take i,Xe!) ⟨none,none,[],[],rfl,s1,e1,S!,CS,AV! (Bg! ht),λts j5=>Bg! j5⟩ (eq! (by obtain⟨_,_,_,_,_,sm,_⟩:=h;exact KX! sm));.rintro i v σ H2 hi ⟨u3,u4,bs,R,rfl,s2,gL,QK,YD,iQ,all2⟩;rw[ZH] at hi;cases cM:ME! with | none=>rw[cM] at hi;cases hi | some ai =>rw[cM] at hi;cases hi;obtain⟨ts,j5⟩:=eW! hs i pa cM;obtain⟨cs,f1,f2⟩:=Av pa i ai ts cM j5;have mts:=ZP j5;refine Nz! ai ((HQ s2).sq f1);refine S7! ai (I0! cs.map) (λj σ H3=>∃(u4:wE)(bs:J!)(R:D!),σ=[M5!,M4!,YL!,d? ai,u4,none,none]/\ap H3/\es! H3 ra/\AZ H3 bs R/\R.Nodup/\(Xd!)/\(∀ts∈hs.take i,Xe!)/\∀t∈ts.take j,AZ!) ⟨_,bs,R,rfl,s2,gL,QK,YD,iQ,all2,Mk!⟩ (λj σ H3 _ h=>by obtain⟨_,_,_,_,sm,_⟩:=h;exact(HQ sm).sq f1);(.rintro j v σ H3 hj ⟨v4,pj,R3,rfl,s3,gK,oC,sN,iP,ij,oJ⟩;rw[ZH] at hj;cases hG:cs[j]? with | none=>rw[hG] at hj;cases hj | some cj =>rw[hG] at hj;cases hj;obtain⟨t,ox⟩:=xX! ts f2 hG;have et:hl! H3 cj:=CY! (Av f2 j cj t hG ox);have mt:=ZP ox;(have HY:ts.take (j+1)=ts.take j++[t]:=XS! ox);refine⟨_,rfl,_,rfl,cj,ra,t,pj,R3,rfl,rfl,et,gK,oC,_,rfl,?_⟩;by_cases c:t∈R3;(.rw[SZ!];refine Cu ⟨_,pj,R3,rfl,s3,gK,oC,sN,iP,ij,Fq!⟩;rw[HY] at hu;rcases GO! with h|h;(.exact oJ u h);.rw[D7!];exact c);.rw[SO!];obtain⟨g0,g1,g2,g3,g4,g5,g6⟩:=grow s3 gK oC sN iP et (hk ts mts t mt) c;refine Cy (oX! gK ra _ rfl gK g0 _ (pj++[cj]) (R3++[t]) rfl g1 g3 g4 g5 g6 (λfy h1 u h2=>Os (ij fy h1 u h2)) Fq!);rw[HY] at hu;rcases GO! with h|h;(.exact Os (oJ u h));.exact ZC _ h);.rintro σ H3 ⟨v4,pj,R3,rfl,s3,gK,oC,sN,iP,ij,oJ⟩;rw[show ts.take (IN cs.map V.ref)=ts by rw[ZA,R? f2,BQ]] at oJ;refine⟨_,_,pj,R3,rfl,s3,gK,oC,sN,iP,λfy h1 u h2=>?_⟩;rw[CQ,j5] at h1;rcases ZI h1 with h|h;(.exact ij fy h u h2);·(have:fy=ts:=At);subst this;exact oJ u h2
 rintro σ H2 ⟨u3,u4,bs,R,rfl,s2,gL,QK,YD,iQ,all2⟩;rw[show hs.take (IN as.map V.ref)=hs by rw[ZA,R? pa,BQ]] at all2;refine Nz! ra (AC gL);refine aM! ra IB! (λi σ H3=>∃u4:wE,H3=H2/\σ=[M5!,M4!,YL!,u3,u4,none,none]) (m? rfl) (λi σ H3 _ h=>by obtain⟨_,rfl,_⟩:=h;exact AC gL);.rintro i v σ H3 hi ⟨v4,rfl,rfl⟩;rw[ZH] at hi;cases s_:bs[i]? with | none=>rw[s_] at hi;cases hi | some bi =>rw[s_] at hi;cases hi;obtain⟨t,hti⟩:=eW! R i QK s_;have et:hl! H3 bi:=Av QK i bi t s_ hti;obtain⟨q,hq,e⟩:=ZN (iQ t (ZP hti));(have fd:ij! hl.find?=some q:=HP! (oG! nd) e);exact⟨_,rfl,_,rfl,da,_,rfl,K64F.QB (d! s2 ed) et fd,_,rfl,Cu (m? rfl)⟩
 rintro σ H3 ⟨v4,rfl,rfl⟩;refine PP (λμ σ H4=>∃(at_:Nat)(u3 u4 u6:wE)(bs:J!)(R:D!),μ=hl.length-at_/\σ=[M5!,M4!,YL!,u3,u4,ut Xz!,u6]/\ap H4/\es! H4 ra/\AZ H4 bs R/\R.Nodup/\(Xd!)/\(di! Xe!)/\at_<=R.length/\∀t∈R.take at_,DX! (h?->Xb! (u∈R))) ⟨_,0,_,_,_,bs,R,rfl,rfl,s2,gL,QK,YD,iQ,all2,sw,Mk!⟩;rintro μ σ H4 ⟨at_,w3,w4,w6,m9,R4,rfl,rfl,s4,aJ,l9,vH,iO,qz,la4,xF⟩;have lb4:=R? l9;have lz4:=lim vH iO;refine tT! ra (Lz! aJ) _ rfl _ rfl ?_;by_cases c:at_<R4.length;.rw[Ju! (show Xz!<xW! m9.map by rw[ZA];lia)];refine Cy ⟨λσ H'=>_,f0!,?_⟩;obtain⟨t,vf⟩:=tV! R4 at_ c;obtain⟨bt,hbt⟩:=VG! m9 at_;have et:hl! H4 bt:=Av l9 at_ bt t hbt vf;obtain⟨q,hq,e⟩:=ZN (iO t (ZP vf));(have fd:ij! hl.find?=some q:=HP! (oG! nd) e);have jH:Jv! (YG (m9.map V.ref) Xz!) bt:=Gw (B!) (LI! ZH CA hbt);refine⟨_,rfl,da,rfl,L6! (d! s4 ed),_,rfl,_,rfl,ra,_,_,_,rfl,rfl,AC aJ,jH,sw,λe0 he0=>?_⟩;have s5:=Ah (o:=.BE []) he0;generalize A1! H4 e0 .BE []=H5 at s5;obtain⟨cs,f1,f2⟩:=A3! (ht.keep (HQ (Aj s4 s5)));refine⟨_,K64F.QB (CP! s5 s4 ed) (d! s5 et) fd,K?,rfl,e? f1,?_⟩;refine S7! K? (I0! cs.map) (λj σ H6=>∃(u6:wE)(bs:J!)(Y:D!),σ=[M5!,M4!,YL!,w3,w4,ut Xz!,u6]/\ap H6/\BY H5 H6/\es! H6 ra/\AZ H6 bs (R4++Y)/\GA! (R4++Y)/\(∀t∈R4++Y,EU!)/\∀u∈q.2.2.take j,u∈R4++Y) ⟨_,m9,[],rfl,Aj s4 s5,X8!,G! s5 aJ,Jk! (Ez! s5 l9),Jk! vH,Jk! iO,BG! (Bg! hu)⟩ (λj σ H6 _ h=>by obtain⟨_,_,_,_,_,kt,_⟩:=h;exact kt.sq f1);(.rintro j v σ H6 hj ⟨v6,ph,Y,rfl,s6,k6,gJ,VU,sM,iM,oI⟩;rw[ZH] at hj;cases hG:cs[j]? with | none=>rw[hG] at hj;cases hj | some cj =>rw[hG] at hj;cases hj;obtain⟨u,vX⟩:=xX! u? f2 hG;have eu:U! H6 cj (G4! u):=G! k6.BE (Av f2 j cj u hG vX);have mu:=ZP vX;(have HY:q.2.2.take (j+1)=q.2.2.take j++[u]:=XS! vX);refine⟨_,rfl,_,rfl,cj,ra,u,ph,R4++Y,rfl,rfl,eu,gJ,VU,_,rfl,?_⟩;by_cases c:u∈R4++Y;(.rw[SZ!];refine Cu ⟨_,ph,Y,rfl,s6,k6,gJ,VU,sM,iM,CU!⟩;rw[HY] at hx;rcases ZI hx with h|h;(.exact oI x h);.rw[D7!];exact c);.rw[SO!];obtain⟨g0,g1,g2,g3,g4,g5,g6⟩:=grow s6 gJ VU sM iM eu (cl q hq u mu) c;refine Cy (oX! gJ ra _ rfl gJ g0 _ (ph++[cj]) (Y++[u]) rfl g1 (k6.trans g2) g3 (MX! g4) (MX! g5) (MX! g6) CU!);rw[HY] at hx;rw[<-AN];rcases ZI hx with h|h;(.exact Os (oI x h));.exact ZC _ h);.rintro σ H6 ⟨v6,ph,Y,rfl,s6,k6,gJ,VU,sM,iM,oI⟩;rw[show q.2.2.take (IN cs.map V.ref)=u? by rw[ZA,R? f2,BQ]] at oI;refine⟨_,rfl,_,_,rfl,rfl,hl.length-(at_+1),B!,at_+1,_,_,_,ph,R4++Y,rfl,rfl,s6,gJ,VU,sM,iM,λts h1 u h2=>Os (qz ts h1 u h2),LC! ZE,λx hx r IW er' y hy=>?_⟩;rw[BM! List.take_append_of_le_length,CQ,vf] at hx;rcases ZI hx with h|h;(.exact Os (xF x h r IW er' y hy));·(have ex:x=t:=At);have:r=q:=yJ nd IW hq (UF er' ex e);subst this;exact oI y hy
 .rw[GG! (show ¬Xz!<xW! m9.map by rw[ZA];lia)];refine At!;rw[BM! List.take_of_length_le] at xF;have full:=all R4 qz λq hq h u hu=>xF q.1 h q hq rfl u hu;have pm4:R4.Perm (hl.map pi):=(List.perm_ext_iff_of_nodup vH nd).mpr λt=>A! (iO t) (λh=>by obtain⟨q,hq,rfl⟩:=B0!;exact A3! full);obtain⟨so,pm,pw⟩:=o1! FX.sorts vd! (YI! IT);(have pw:so.Pairwise HZ:=by simpa using pw);refine⟨_,rfl,ra,m9,R4,so,rfl,aJ,l9,B!,pm.trans pm4.symm,pw,λr1 JA GC oE=>?_⟩;have s5:=IR! JA.map GC;have e5:NL! H4 r1 JA.map r1 JA.map:=Ab;have cp:=Ez! s5 oE;generalize NW! H4 r1 JA.map=H5 at s5 e5 cp;(have dr:Rd H5 da (aj! (hl.map (I7! do!)).map):=by (have e:nf! hl.map (I7! do!) hl.map IF!:=D1!);rw[e];exact H! (CP! s5 s4 ed));refine⟨_,rfl,da,_,so,rfl,dr,PU!,I! AK pm,pw,λr2 VX OK yO=>?_⟩;have s6:=IR! VX.map OK;refine⟨Bf! (so.map YB),Bf! (so.map YB),cS! (d! s6 e5) Kb (nE! cp),cS! Ab Kb (nE! yO),E7 (U0 _),E7 (U0 _),?_⟩;rw[Mt (E7 (U0 _))];exact k _ (Aj s4 (Aj s5 s6))
inductive X7(vs:C!)(H:Hp)(Q:VK)(E:XK):Prop
 | mk (p dx:Addr) (L0:J!) (m sh:Int) (_:fP! (g! m) sh) (_:JV! (CE! CW dx [])) (_:0<=m) (_:m<=12) (_:GA! (p::L0)) (_:∀b∈L0,∃o,Dj!) (_:∀(W:EF)(H':Hp),wo! H'->W.share=sh->W.c=0->W.ls=[]->W.MB=[]->W.GW=[]->W.FA=[]->W.qs.length=m.toNat->(pM! (W.qs[i]?))->Wt! H'->(∀b∈ER!,b∉L0)->PS!)
theorem Jfg:Y? Tr! Tr! Vi:={}
theorem Jdv(F:iP! "World.__init__" Vi)(T:Txt)(TW:Gd)(TP:M8)(MmH:GL! C fI)(FI:M7! uE! Yi fI dI)(bI:Lr! dI Mv!)(MmP:GL! CP fP)(FP:M7! uF! Qf fP dP)(bP:Lr! dP sB):T6! Tr! X7:=by
 have GI:Cw! fI dI Mv! OY:=Z_ FI T;have GP:Rw! fP dP Jby:=Jgs FP TP;refine f? Jfg;obtain⟨p,dx,L0,m,sh,rfl,hp,m0,m1,n0,l0,k⟩:=h;refine X!;refine J5! (Pr! W!) (MM! (Dl O? (wM! (uN C (OY) [] E0 (Dz (B7 0) Nd)) [] (F1 rfl T.range ES!) trivial (λy h=>Jq9 h) trivial gG! (Uw! (Pk MmH GI hr EL! T.jB bI S! Ba (am O?)))) rfl) (Dl O? (Jga MmP GP hr EL! TP.jB bP S! Ba) rfl) aN! aN! (ZL! Dl Fo rfl));refine⟨_,rfl,_,rfl,p,CW,dx,[],rfl,hp,TW.cl,TW.nS,nS!,?_⟩;have h1:Ds! (Lm! rw!) rw!:=Ab;have k1:Kp p H (Lm! rw!):=nU;generalize upd H p rw!=H1 at h1 k1;have mm:J? m.toNat=m:=BH m0;refine⟨_,rfl,m,rfl,B!,B!,hZ!⟩;have li0:Lies (Lh! r .BF []) (r::p::L0):=(Lies.mk (L:=p::L0) n0 (Bu! (by rcases Eo! with rfl|hb;(.exact e? h1);.obtain⟨o,e⟩:=B4! l0;exact CO! (Br! k1 (Ny! (AV.mp n0).1))))).new IW RS! (qk! IW);refine Rz (lo:=0) (n:=m.toNat) (tt:=bF!) (te:=uN C (OY) [] E0 (Dz (B7 0) Nd)) (caps:=[]) (σ:=[CZ!,ut m,i0!]) (λi ys H2=>I2! H2 r/\CB H1 H2/\∃qs:a!,ys=qs.map (W0!)/\qs.length=i/\(∀j q G,FM QP!->qD G j)/\(dz! (AU C H2 q.1 q.2))/\Lies H2 (Hf!++Pv!)) ⟨Ab,Ah IW,[],rfl,rfl,λj q G e=>f5!,UV (by simp at hq),li0⟩ (λi ys H2 _ h=>h.1) ?_ ?_;.rintro i ys H2 N hi ⟨er,s2,qs,rfl,ql,em,ho,li⟩ hN;refine Cb!;refine m? (λx wx nx oX nex=>⟨x,wx,_,rfl,Ab,λh o l r' H3 fh fo fl fr S3 sR=>GM!⟩);(have jk:CB H2 (upd (HK! wx DV! x) x (CE! C wx [])):=dL! nx oX);have s3:CB H2 H3:=cl! sR jk nx;have gK:=CY! er;(have e0:ly!:=B!);rw[e0] at S3;refine Ho! gK Si! hN ⟨Ab,Hr!,qs++[(x,OC!)],Qi!,gv! ql,λj q G e=>?_,CV!,?_⟩;(.rw[Ac (W9! IW)];exact fJ! s3 s2);(.by_cases z:j<qs.length;(.rw[PL z] at e;exact em j q G e);.rw[BM! List.getElem?_append_right] at e;(have zj:j-qs.length=0:=by rcases Nat.eq_zero_or_pos (j-qs.length) with h|h;(.exact h);.rw[CY (WY!)] at e;cases e);rw[zj] at e;(have e:(x,(OC!:BM))=FO!:=FI!);(have ej:j=i:=B!);rw[ej,<-kw!];exact EO! _ _ _ rfl);(·(have all:∀q∈qs++[(x,(OC!:BM))],AU C H3 q.1 q.2:=UV (by rcases ZI hq with hq|hq;(.exact(ho q hq).same s3);.rw[ZK hq];exact S3));have hq3:=A3! all;have ne:=hq3.YZ gK;exact gE! hq3.keep (λz=>by rw[z] at hb;exact hb.elim ne.1 ne.2));·(have a1:Lies H3 ((x::BL OC!)++(Hf!++Pv!)):=by refine li.add (AV.mpr (A! (λm=>S3.SJ m rfl) S3.nd)) (Bu! ?_) (JQ!) (Aw! (CO! (HX! s3)));(.rcases Eo! with rfl|hb;(.exact nx);.simp only[BL,GF,CK,EJ,OO] at hb;rcases hb with rfl|rfl|rfl|rfl;(.exact Cp jk fh);(.exact Cp jk fo);(.exact Cp jk fl);.exact Cp jk fr);.rcases Eo! with rfl|hb;(.obtain⟨d,e⟩:=S3.ob;exact Af!);.obtain⟨kv,e⟩:=S3.OI hb;exact Af!);(have a2:Bw (qs++[(x,(OC!:BM))])++Pv!=(Hf!++(x::BL OC!))++Pv!:=by rw[Hv];show(Hf!++((x::BL OC!)++[]))++Pv!=_;rw[AH]);rw[a2];refine((a1.perm ?_).keep Hr!);(.rw[<-AN];exact KC _ H_);.by_cases z:b=r;(.rw[z];exact RS!);.exact CO! (dy! z)
 .rintro ys H2 ⟨er,s2,qs,rfl,ql,em,ho,li⟩;have GY:=G! s2 h1;have l1:=A4 Cq! (GM sh) [];refine dD! GY TW.nH;have l2:=S2! EJ! r Cq! (GM sh) [];have k3:Zw! H2 H2 jT!:=nU;have RD:Nh! H2 jT! jT!:=Ab;generalize upd H2 p jT!=H3 at k3 RD;have li3:=li.keep (k3.ex (e? RD));intro po pZ oQ yq JPp;refine⟨po,pZ,rfl,Ab,λpd H4 o7 P4 kp4=>GM!⟩;(have jh:CB H3 (upd (BJ! H3 pZ DV! po) po (CE! CP pZ [])):=dL! oQ yq);have s4:CB H3 H4:=cl! kp4 jh oQ;have g7:=DI! RD;(have li4:Lies H4 (pd::po::wi!):=by have a:=li3.new (b:=po) (H':=upd (BJ! H3 pZ DV! po) po (CE! CP pZ [])) oQ RS! (Aw! (CO! (HX! jh)));refine a.new o7 (e? P4.dc) Hr!;by_cases z:b=po;(.rw[z];obtain⟨d,e2⟩:=P4.ob;exact e? e2);.exact CO! (Br! kp4 z));refine dD! g7 TW.nP;have l3:=A4 BH! (V! po) wp!;have k5:Zw! H4 H4 rx!:=nU;have dq:Nh! H4 rx! rx!:=Ab;generalize upd H4 p rx!=H5 at k5 dq;have li5:=li4.keep (k5.ex (e? dq));intro iq vq;have li6:=li5.new (H':=Nb! H5 iq) vq RS! (qk! vq);have mh:kB! (BJ! H5 iq .dK []) iq:=Ab;have s6:=jN! vq;generalize Nb! H5 iq=H6 at li6 mh s6;refine dD! (G! s6 dq) TW.nI;have l4:=S2! Df! iq BH! (V! po) wp!;have k7:Zw! H6 H6 jU!:=nU;have o8:Nh! H6 jU! jU!:=Ab;generalize upd H6 p jU!=H7 at k7 o8;have li7:=li6.keep (k7.ex (e? o8));intro fi vy;have li8:=li7.new (H':=Nb! H7 fi) vy RS! (qk! vy);have jK:kB! (BJ! H7 fi .dK []) fi:=Ab;have s8:=jN! vy;generalize Nb! H7 fi=H8 at li8 jK s8;refine dD! (G! s8 o8) TW.nF;have l5:=A4 LL! (V! fi) (dq! Df! iq BH! (V! po) wp!);have k9:Zw! H8 H8 ry!:=nU;have gz:Nh! H8 ry! ry!:=Ab;generalize upd H8 p ry!=H9 at k9 gz;have li9:=li8.keep (k9.ex (e? gz));intro en vz;have qS:=li9.new (H':=Nb! H9 en) vz RS! (qk! vz);have een:kB! (BJ! H9 en .dK []) en:=Ab;have jj:=jN! vz;generalize Nb! H9 en=HA at qS een jj;refine dD! (G! jj gz) TW.nE;have kB:Zw! HA HA tF!:=nU;have hpB:Nh! HA tF! tF!:=Ab;generalize upd HA p tF!=HB at kB hpB;have nd:=qS.nd;(have pm:(en::fi::iq::pd::po::wi!).Perm (([p,r,po,pd,iq,fi,en]++Hf!)++L0):=by (have a:(Bw qs++(r::p::L0)).Perm ([r,p]++(Hf!++L0)):=ft! (e9! (Hf!++Pv!=(Hf!++[r,p])++L0)) AN (KC _ H_));have b:(en::fi::iq::pd::po::wi!).Perm ([en,fi,iq,pd,po,r,p]++(Hf!++L0)):=((((a.cons po).cons pd).cons iq).cons fi).cons en;rw[AN];exact b.trans (KC _ (List.reverse_perm [p,r,po,pd,iq,fi,en])));have YD:=pm.nodup_iff.mp nd;have OG:=YB! YD;have kA9:Kp p H9 HB:=Kp.trans (Qy! jj) kB;have kA7:Kp p H7 HB:=Kp.trans (Kp.trans (Qy! s8) k9) kA9;have kA5:Kp p H5 HB:=Kp.trans (Kp.trans (Qy! s6) k7) kA7;have vJ:Kp p H4 HB:=k5.trans kA5;have vK:Kp p H2 HB:=(k3.trans (Qy! s4)).trans vJ;have tn:=YB! OG;simp only[AV,CK,EJ,OO,not_or,CS,and_true,not_false_eq_true] at tn;obtain⟨⟨a1,a2,a3,a4,a5,a6⟩,_⟩:=tn;have mV:∀b∈Hf!,FL!:=λb hb z=>(AL.mp OG).2.2 p be b hb z.symm;refine k ⟨sh,r,po,iq,fi,en,pd,0,[],qs,[],[],[]⟩ HB ⟨HH! (by rw[hpB,<-Jln]),H0! vK er a1,UV ((ho q hq).keep (Ax! (Br! vK (mV b (DF.mpr (LV! hb)))))),P4.keep (λo e=>H0! vJ e a2) (λo e=>H0! vJ e a3),H0! (k7.trans kA7) mh a4,H0! (k9.trans kA9) jK a5,H0! kB een a6,OG⟩ rfl rfl rfl rfl rfl rfl ql em (vO! (vK b u (s2 b u (k1 b u e hb)) hb)) λb hb hl=>kJ! b hb b hl rfl
universe S
variable {H H' H1:Hp}{p r b:Addr}{W W' V V':EF}{D E:T2->Prop}{m n d A B n1 d1 A1 B1:Nat}{al bl:List LL}{ys DN zs:List Qy}{S:Nat->HS}
theorem Mv.off{o:HO}(mv:mR!)(e:Dj!)(n:¬Ft p W ys b):Fx!/\¬Ft p W' DN b:=by
 refine A! (mv.fr b o e (FZ! n B?) (FZ! n N?)) Dz!;rcases mv.fp b z with h|h|h;.exact n (B? h)
 .exact n (N? h)
 .rw[e] at h;cases h
theorem WI.new(x:k!)(h:x?):¬Ft p W ys b:=λz=>by obtain⟨o,e⟩:=x.lies z;rw[h] at e;cases e
def p7(d:PyData):Prop:=∀es,d=Hm! es->∀e∈es,∀ds,e=Bf! ds->∀x∈ds,∃n,x=PO!
theorem Jf6{v:PyData}(h:∀ds,v=Bf! ds->∀x∈ds,∃n,x=PyData.int n):p7 (bL v):=λes e1 e he ds e2=>by cases e1;rcases ZM he with h1|h1;(.rw[h1] at e2;cases e2);.rw[ZK h1] at e2;exact h ds e2
theorem Yw(L:j!):p7 (bL (Qq L)):=Jf6 λds e x hx=>by cases e;obtain⟨n,_,rfl⟩:=ZN hx;exact Rs n
theorem K5{v:PyData}(h:∀ds,v≠Bf! ds):p7 (bL v):=Jf6 λds e=>M6! e h ds
theorem Ef.pln{dv:PyData}(h:k6! dv):p7 dv:=by cases h with | ID _ q G G' v hi hs =>(cases hs with | make=>exact OS! | hold=>exact OS! | drop=>exact OS! | take=>exact OS! | free=>exact OS!) | no _ q G k =>intro es e1 e he ds e2;cases e1;rcases ZM he with h1|h1;(.rw[h1] at e2;cases e2);.rw[ZK h1] at e2;cases e2 | send=>exact OS! | clean=>exact Yw _ | ask=>exact OS! | KN=>exact Yw _
theorem Ji1{v:L2.V}{e:PyData}(y:WI H r V E m n d A B bl zs)(fr:R9 r V zs H H')(h:Rep K H v e)(pl:∀ds,e=Bf! ds->∀x∈ds,∃n,x=PyData.int n):Rep K H' v e:=by have kt:=y.DY fr;cases h with | one h=>exact .one (h.keep kt) | @BF a xs ds h p =>refine .BF ?_ (Ar (λ_ _ r=>r.keep kt) p);rcases h with(e|⟨o,e⟩)|z;(.refine Dm! (y.lists fr a xs e Dz!);rw[z,y.wa.hs] at e;have e:V.qs.map (λq=>L2.V.ref q.1)=xs:=HO.BF.inj (ZO e);obtain⟨q,hq⟩:=tV! V.qs 0 (q! y.wg.wl.len y.m1);(have hx:xs[0]?=some (L2.V.ref q.1):=by rw[<-e,ZH,hq];rfl);obtain⟨d0,sy⟩:=eW! ds 0 p hx;have rp:=Av p 0 _ _ hx sy;obtain⟨k,rfl⟩:=pl ds rfl d0 (ZP sy);cases rp);(.exact HS! (CO! (v! kt.HK _ e)));.exact JW!
theorem Jft{v:L2.V}{e:PyData}(y:WI H r V E m n d A B bl zs)(fr:R9 r V zs H H')(h:aZ K H v e)(pl:p7 e):aZ K H' v e:=by cases h with | @BE a xs ds h p =>refine .BE ((y.DY fr).sq h) (Dt (Paired.length p) λj x d0 hx hd=>Ji1 y fr (Av p j x d0 hx hd) (pl ds rfl d0 (ZP hd)))
theorem Al.start(w0:W.ls=[])(v0:V.ls=[])(wc:W.c=0)(vc:V.c=0)(sh:W.share=V.share)(wl:Ud!)(vl:V.qs.length=m)(we:pM! (W.qs[i]?))(ve:pM! (V.qs[i]?)):Al W V [] [] [] []:=by refine⟨Dt (I? wl vl) λj x y hx hy=>?_,rfl,I? w0 v0,I? wc vc,sh,rfl⟩;obtain⟨h,o,l,r',e⟩:=we j x.1 x.2 hx;obtain⟨h2,o2,l2,r2,e2⟩:=ve j y.1 y.2 hy;rw[e,e2];exact⟨rfl,rfl,rfl,rfl,rfl,rfl,rfl⟩
theorem ar{t:T2}{l:D!}:(t,l)∈Du S m↔∃j,j<m/\∃z∈(S j).2.1,z.1=t/\LX!=l:=by
 unfold Du;rw[C_];constructor;.rintro⟨j,hj,h⟩;obtain⟨z,hz,e⟩:=B0!;exact⟨j,BB.mp hj,z,hz,WS! e,kw!⟩
 .rintro⟨j,hj,z,hz,rfl,rfl⟩;exact⟨j,BB.mpr hj,Fj! z hz⟩
theorem Jcn{j:Nat}{q:Addr}{G:BM}{t:T2}(x:k!)(tl:OP!)(h:FM Oo!)(o:Ao!):∃l,(t,l)∈Du S m/\∀u,u∈l↔g9!:=by
 have T:=tl j q G h;obtain⟨z,hz,rfl⟩:=ZN (T.PM.pm.mem_iff.mpr o);have jl:j<m:=Dp! x.wg.wl.len h
 refine⟨LX!,ar.mpr ⟨j,jl,z,hz,rfl,rfl⟩,XX!⟩;obtain⟨_,_,hl,a2,_,a3,a4⟩:=Ag! T.PM.at_;have g1:u0! z.1=hl:=LN! a2
 rw[a3.mem_iff,g1]
theorem Jcd(x:k!)(tl:OP!){l:D!}(h:(t,l)∈Du S m):∃(j:Nat)(q:Addr)(G:BM),FM Oo!/\Ao!/\∀u,u∈l↔g9!:=by
 obtain⟨j,jl,z,hz,rfl,rfl⟩:=ar.mp h;obtain⟨⟨q,G⟩,hq⟩:=mp! j x.wg.wl.len jl;have T:=tl j q G hq;refine⟨j,q,G,hq,T.PM.pm.mem_iff.mp (BD hz),XX!⟩;obtain⟨_,_,hl,a2,_,a3,a4⟩:=Ag! T.PM.at_;have g1:u0! z.1=hl:=LN! a2
 rw[a3.mem_iff,g1]
theorem Wz(x:k!)(tl:OP!):∀i,i<=m->k? (Du S i).map/\JE! (Du S i).map (t.1<y!)
 | 0,_=>A! CS Mk!
 | i+1,hi=>by obtain⟨ih1,ih2⟩:=Wz x tl i E!;obtain⟨⟨q,G⟩,hq⟩:=v7! i (LC! x.wg.wl.len);have T:=tl i q G hq;(have e:AM! ((S i).2.1.map E0!).map (S i).2.1.map:=D1!);have own:JE! (S i).2.1.map wE!:=V? (x.wg.aV hq (T.PM.pm.mem_iff.mp ht)).1;rw[Om,ZF,e];refine A! (AL.mpr ⟨ih1,T.PM.pm.nodup_iff.mpr (x.wg.BJ hq).1.ok.on,λt ht u hu z=>?_⟩) GD!;(.have h1:=C8! ih2;rw[z,own u hu] at h1;lia);.rcases H3! with h|h;(.have:=ih2 t h;lia);.rw[own t h];lia
theorem Jhg(x:k!)(tl:OP!):(Du S m).length<=n:=by have h1:=Jx (qs:=W.qs) (Wz x tl m Am!).1 (AV! (by obtain⟨⟨t',l⟩,hz,rfl⟩:=ZN ht;obtain⟨j,q,G,hq,o,_⟩:=Jcd x tl hz;obtain⟨a1,a2⟩:=x.wg.aV hq o;exact⟨j,q,G,hq,a1,x.ob j q G hq _ o,a2⟩)) (S? (fr! (CV.mp hz) (x.wg.BJ (q:=z.1) (G:=z.2) hj).1.m0));rw[ZA] at h1;have:=x.md;lia
structure Jnl(hs:bV!)(hl:HL):Prop where
 hk:di! (∀t∈ts,EU!)
 cl:DX! (Xb! Q1!)
 nd:k? hl.map
 all:∀R:D!,(di! Xe!)->(DX! (Bw!->Xb! (u∈R)))->DX! Bw!
theorem Jj1{hl:HL}(x:k!)(tl:OP!)(eO:bl! W.qs W.qs)(e:hl.map (Ci!)=Du S m):Jnl (Et S m) hl/\hl.length<=n:=by
 have ek:AM! hl.map (Du S m).map:=by rw[<-e,AK];rfl
 have key:∀t,VS W.qs t->EU!:=λt ⟨j,q,G,hq,o⟩=>by obtain⟨l,h,_⟩:=Jcn x tl hq o;rw[ek];exact oj! h
 have at_:DX! (∃(j:Nat)(a:Addr)(G:BM),Db Oo! a G/\XN! q.1/\∀u,u∈u?↔u∈CD G.holds q.1):=UV (Jcd x tl (VU! (Zm! hq)));refine L? ⟨λts j5 t ht=>?_,λq hq u hu=>?_,Gq! ek (Wz x tl m Am!).1,λR h1 h2 q hq=>?_⟩;.obtain⟨j,hj,rfl⟩:=ZN j5;obtain⟨⟨a,G⟩,ha⟩:=mp! j x.wg.wl.len (BB.mp hj);exact key t (Vp x.wg (Im! ha ((tl j a G ha).pm.mem_iff.mp ht))).2
 .obtain⟨j,a,G,ha,o,ow⟩:=A3! at_;exact key u (Vp x.wg (In! ha o ((ow u).mp hu) (eO q.1 ⟨j,a,G,ha,o⟩))).2
 .obtain⟨j,a,G,ha,o,_⟩:=A3! at_;(have:∀t,Rh W.qs t->AZ!:=V? (by induction ht with | @hand j a G t h m' =>(have jl:j<m:=Dp! x.wg.wl.len h);exact h1 _ (AG.mpr (CT! j (BB.mpr jl))) t ((tl j a G h).pm.mem_iff.mpr m') | @step j a G t u h o m' l ih =>obtain⟨l',aP,ow⟩:=Jcn x tl h o;rw[<-e] at aP;obtain⟨q2,cJ,e2⟩:=ZN aP;have e3:q2.1=t:=WS! e2;have e4:q2.2.2=l':=eb! e2;exact h2 q2 cJ (q! e3 ih) u (Gq! e4 ((ow u).mpr m'))));exact this q.1 (eO q.1 ⟨j,a,G,ha,o⟩)
 .have h1:=Jhg x tl;have h2:=congrArg List.length e;rw[ZA] at h2;lia
theorem Je0{S':B2!}(f:nV W V)(f':nV V W)(wl:Ud!)(vl:V.qs.length=m)(a:OP!)(b:F0 V.qs S'):Et S m=Et S' m/\Du S m=Du S' m:=by
 have each:∀j,j<m->(S j).1=(S' j).1/\(S j).2.1.map (E0!)=(S' j).2.1.map (E0!):=λj hj=>by obtain⟨⟨q,G⟩,h1⟩:=VG! W.qs j;obtain⟨⟨q',G'⟩,h2⟩:=VG! V.qs j;exact Jez f f' h1 h2 (a j q G h1) (b j q' G' h2)
 refine L? (BP λj hj=>(each j (BB.mp hj)).1);unfold Du;rw[List.flatMap_def,List.flatMap_def];exact congrArg _ (BP λj hj=>(each j (BB.mp hj)).2)
universe E
theorem Jo4(g:GG):EG 3 QS RM Tr! X7:=Jdv g.uS g.T g.TW g.TP g.p9 g.FI g.bI g.lV g.uT g.xH
theorem V_:Y? [eA!,JN!,"_law_share","_law_worlds","_law_k",VT!,"_law_left_here",eH!] Jm! kT:={}
structure xT(H:Hp)(p0 p1 wl:Addr)(m n d B:Nat)(W V:EF)(D E:y?)(al bl:M!)(ys zs:w!):Prop where
 w:sO! H n d B
 v:WI H p1 V E m n d 0 B bl zs
 a:FE!
 x:jT p0 W ys p1 V zs
 l:uo! wl cU!
 nw:¬Ft p0 W ys wl
 nv:bz! wl
structure xR(H:Hp)(p x la da:Addr)(m n:Nat)(W:EF)(al:M!)(W':EF)(S:B2!):Prop where
 wi:∃H1 D' d' B' DN,WI H1 p W' D' m Bp! d' 0 B' [] DN
 cm:ls! []
 eO:bl! W'.qs W'.qs
 tl:F0 W'.qs S
 lf:dQ H x la da (Et S m) (Du S m)
theorem Jos{xs:A?}(h:xs.length=7):∃x0 x1 x2 x3 x4 x5 x6,xs=[x0,x1,x2,x3,x4,x5,x6]:=by match xs,h with | [x0,x1,x2,x3,x4,x5,x6],_=>exact⟨_,_,_,_,_,_,_,rfl⟩
theorem gW(g:GG):EG 12 cO cQ Jm! St!:=by
 refine EM! g.FW.JH V_;obtain⟨a,ns,rfl,hS,hlen,k⟩:=h;refine X!;have hu:=a?;have GC:lc:=W?;have si:DM 4 _:=W?;have hr7:DM 7 _:=W?;have hr9:DM 9 _:=W?;refine OL! V_.nd (TL! (Cf! bC!)) (t8! 2 V_.nd (TL! (Cf! bC!)) (i3! (Cf! (NG! bC!)) (xH! V_.nd (TL! (Bc Cj (NG! bC!) (Bc xy Ag Ag))))) (fL! V_.nd (Dm (AU! (Pk g.iy (Jo4 g) si EL! g.TW.jB g.tV S! Ba Te!) (Pk g.iy (Jo4 g) si EL! g.TW.jB g.tV S! Ba Te!))) (Sx! (Jdq rfl g.y1 (iA! (Ut! (Jek rfl) g.y7 PyProof.Rows.boot_max (iA! (Ut! (Jej rfl) g.ub PyProof.Rows.boot_min (iA! (Nw! O?))))))) V_.nd (Z1! 5 V_.nd (JA! gDe si g.mDe.mg g.mDe.fn.kp g.mDe.bd (Fn! (Ay Bq E? Ag) (JA! gSm GC g.mSm.mg g.mSm.fn.kp g.mSm.bd (AU! (vy! n?) Ag)) z!)) (kc! (Yr! Jml (JA! gDn hr7 g.mDn.mg g.mDn.fn.kp g.mDn.bd (AU! (Ay Bq E? Ag) AO!)) (JA! gDn hr7 g.mDn.mg g.mDn.fn.kp g.mDn.bd (AU! (Ay Bq E? Ag) AO!)))))) (ZN! 6 V_.nd ED! (Sx! (F1 rfl g.y1 (am Ag)) V_.nd (t8! 7 V_.nd (Bc Cj (Bc Fy bC! (TL! (Bc F8 Ag n?))) z!) (kc! (Vr (F5 (JA! gCm hr9 g.mCm.mg g.mCm.fn.kp g.mCm.bd (un! (Ay Bq E? n?) (vy! (TL! n?)) Ms! (vy! (TL! n?))))))) (wT! Hd! (Aa (sI! gLf si g.mLf.mg g.mLf.fn.kp g.mLf.bd (AU! (Ay Bq E? n?) z!)) Ae)))) (Jge (Ik (Pq! Jmn) j0! j0! (A9 _)) (Jf9 (sI! gAr GC g.mAr.mg g.mAr.fn.kp g.mAr.bd (AU! (Dh! j0!) (Dh! j0!))))))));refine oe! 0 (λv0=>⟨_,_,rfl,rfl,DA! 4,_,_,rfl,rfl,?_⟩);have h00:=DQ v0 (Xj! (J? 4));have h01:=DW v0 (wq! 4);refine oe! 1 (λv1=>⟨_,_,rfl,rfl,DA! 2,_,_,rfl,rfl,?_⟩);have h10:=DQ v1 (Xj! (J? 2));dsimp only [uO];refine uE (λEV H'=>H'=H/\∃(m:Nat)(sh:Int),EV=[He!,KI!,i0!,none,none,none,none,none]/\1<=m/\m<=4/\2<=sh) ?_ ?_;.intro nx hx;refine oe! 1 (λv2=>⟨_,_,rfl,rfl,Kg!,_,_,rfl,rfl,DA! 4,rfl,_,rfl,?_⟩);by_cases c:L2.V.int (v2 / 2 % 4)=L2.V.int 1;(.rw[SZ!];refine Cy (oe! 1 (λv3=>⟨_,_,rfl,rfl,Kg!,_,_,rfl,rfl,⟨l!,l!,l!⟩,_,_,rfl,rfl,DA! (10 ^ 59),_,_,rfl,rfl,?_⟩));have e:=DQ (v3 / 8) (Xj! (J? 10 ^ gm! 59));exact G! hx ⟨rfl,CQ! (1+v0 % 4),_,KM (BM! BH),B!,B!,B!⟩);.rw[SO!];exact Cu (d! hx ⟨rfl,CQ! (1+v0 % 4),_,KM (BM! BH),B!,B!,B!⟩)
 rintro EV H' ⟨rfl,m,sh,rfl,m1,m4,sh2⟩;refine m8!;intro p0 w_ u_ qP yo;refine⟨p0,w_,[],AC!,sh,rfl,Ab,B!,B!,D?,Bu! (Bg! hb),λW H2 S1 e1 e2 e3 e4 e5 e6 e7 e8 sS _=>GM!⟩;have s01:CB H' (upd (BJ! H' w_ DV! p0) p0 (CE! CW w_ [])):=dL! u_ qP
 have s2:CB H' H2:=cl! sS s01 u_;clear s01 sS u_ qP yo;rw[CA] at e7;have W0:WI H2 p0 W Wq! m 0 0 0 0 [] []:=WI.start S1 e2 e3 e4 e5 e6 e7 e8 E! E! (q! e1 sh2);refine m8!;intro p1 FH cu qO ym;have de:CB H2 (upd (HK! FH DV! p1) p1 (CE! CW FH [])):=dL! cu qO
 have iV:p1∉Bv p0 W:=λz=>W0.new cu (c? z);refine⟨p1,FH,Bv p0 W,AC!,sh,rfl,Ab,B!,B!,AV.mpr (A! iV S1.nd),Bu! (by obtain⟨o,e,_⟩:=S1.some_at hb;exact CO! (ET! de)),λV H3 S3 f1 f2 f3 f4 f5 f6 f7 f8 sR apart=>GM!⟩;have s3:CB H2 H3:=cl! sR de cu;clear de sR cu qO ym iV;rw[CA] at f7;have V0:WI H3 p1 V Wq! m 0 0 0 0 [] []:=WI.start S3 f2 f3 f4 f5 f6 f7 f8 E! E! (q! f1 sh2);have A0:Al W V [] [] [] []:=Al.start e3 f3 e2 f2 (Hn! e1 f1) e7 f7 e8 f8;have X0:jT p0 W [] p1 V []:=λb h1 h2=>by rcases h1 with h1|h1;(.rcases h2 with h2|h2;(.exact apart b h2 h1);.cases h2);.cases h1
 have W3:=W0.same s3;refine x0! (λwl jC=>?_);have s4:=Ym! cU! jC;have T0:xT (BJ! H3 wl .BF cU!) p0 p1 wl m 0 0 0 W V Wq! Wq! [] [] [] []:=⟨W3.same s4,V0.same s4,A0,X0,Ab,W3.new jC,V0.new jC⟩;have tH:=hS.keep (HQ (Aj s2 (Aj s3 s4)));generalize Pl! H3 wl cU!=H4 at T0 tH s4;clear W0 V0 A0 X0 W3 S1 S3 e1 e2 e3 e4 e5 e6 e7 e8 f1 f2 f3 f4 f5 f6 f7 f8 apart s2 s3 s4 jC;obtain⟨N,eN,N1⟩:∃N:Nat,J? (if(if(cT!)<29 then cT! else 29) > 13 then(if(cT!)<29 then cT! else 29) else 13)=5+J? N/\N<=24:=by generalize cT!=z;by_cases c1:z<29;(.rw[AE c1];by_cases c2:z > 13;(.rw[AE c2];exact bg! (CQ! (z-5)));.rw[AB c2];exact bg! 8);.rw[AB c1,dp! AE];exact bg! 24
 refine⟨_,rfl,a,_,rfl,H! tH.sq,_,_,rfl,_,_,rfl,5,5+J? N,by rw[<-eN],⟨l!,l!,B!,B!⟩,?_⟩;rw[LF! (CQ! (5+J? N-5)=N)];clear eN;refine Hx (lo:=5) (n:=N) (λi σ Hc=>∃(u4 u5:Cs! L2.V)(W V:EF)(D E:y?)(al bl:M!)(ys zs:w!),σ=[He!,KI!,i0!,d? wl,u4,u5,none,none]/\xT Hc p0 p1 wl m i i (20*i) W V D E al bl ys zs/\fC K Hc a (ns.map L2.V.int)) ⟨none,none,W,V,_,_,[],[],[],[],rfl,T0,tH⟩ ?_ ?_;.clear T0;rintro i σ Hc hi ⟨u4,u5,W,V,D,E',al,bl,ys,zs,rfl,T,tG⟩;refine⟨_,rfl,wl,_,_,_,rfl,rfl,AC T.l,rfl,_,rfl,_,rfl,a,ns,5+y!,rfl,tG.sq,hlen,B!,B!,λv=>⟨v,7,rfl,l!,λl xs H5 s5 el xl=>Rb!⟩⟩;obtain⟨x0,x1,x2,x3,x4,x5,x6,rfl⟩:=Jos xl;have fx:=T.w.same s5;refine⟨p0,l,W,D,m,i,i,0,20*i,al,ys,x0,x1,x2,x3,x4,x5,x6,rfl,el,fx,B!,B!,λt dd H6 s6 jH ok=>?_⟩;have aD:=Aj s5 s6;have fw:=T.w.same aD;have vi6:=T.v.same aD;have pI:=tG.keep (HQ aD);have l6:=G! aD T.l;refine⟨_,rfl,wl,_,_,_,rfl,rfl,AC l6,rfl,_,rfl,p0,t,W,D,m,i,i,20*i,20*FS,al,ys,dd,rfl,fw,B!,B!,B!,m4,B!,ok,jH,λt7 d7 W7 D7 al7 zq H07 H7 rp7 r8 my z_ QZ fp7 hs7=>?_⟩;have mv7:Mv p0 W ys W7 zq H6 H7:=A! QZ fp7;obtain⟨oA,x7⟩:=T.x.mv fw vi6 mv7;obtain⟨l7,nw7⟩:=mv7.off l6 T.nw;have ax:=fw.DY QZ;refine⟨_,rfl,wl,_,_,_,rfl,rfl,AC l7,rfl,_,rfl,p1,t,V,E',m,i,i,20*i,20*FS,bl,zs,dd,rfl,oA,B!,B!,B!,m4,B!,Jkw T.a ok,jH.keep ax,λt8 d8 V8 E8 bl8 za H08 H8 rp8 ok8 tS vi8 gI fp8 hs8=>?_⟩;have mv8:Mv p1 V zs V8 za H7 H8:=A! gI fp8;obtain⟨wi8,x8⟩:=x7.symm.mv oA z_ mv8;obtain⟨l8,nv8⟩:=mv8.off l7 T.nv;have QO:=oA.DY gI;obtain⟨a8,ed⟩:=Ef.one T.a fw z_ oA vi8 my tS;subst ed;refine⟨d7,d7,Jft oA gI rp7 my.pln,rp8,r8,ok8,_,rfl,?_⟩;rw[Mt r8];exact Cu ⟨_,_,W7,V8,D7,E8,al7,bl8,zq,za,rfl,⟨wi8,vi8,a8,x8.symm,l8,nw7,nv8⟩,(pI.keep ax).keep QO⟩
 clear T0 tH;rintro σ Hc ⟨u4,u5,W,V,D,E',al,bl,ys,zs,rfl,T,tG⟩;refine Hp! (λlh su=>?_);have s5:=JJ! su;have e5:U! (BJ! Hc lh .BF []) lh (.BF (([]:List Addr).map L2.V.ref)):=Ab;have nlw:wl≠lh:=Ak T.l su;generalize ed! Hc lh=H5 at s5 e5;have hS5:=tG.keep (HQ s5);have w5:=T.w.same s5;have v5:=T.v.same s5;have l5:=G! s5 T.l;refine⟨2,rfl,l!,l!,?_⟩;refine of! 2 (λi σ Hd=>∃(u4 u5 u7:Cs! L2.V)(xs:J!),σ=[He!,KI!,i0!,d? wl,u4,u5,d? lh,u7]/\fC K Hd a (ns.map L2.V.int)/\re Hd wl .BF cU!/\U! Hd lh (.BF (xs.map L2.V.ref)) /\ ((i=0/\xs=[]/\sO! Hd N N (20*N)/\WI Hd p1 V E' m N N 0 (20*N) bl zs/\¬Ft p0 W ys lh/\bz! lh) \/ (i=1/\WI Hd p1 V E' m N N 0 (20*N) bl zs/\bz! lh/\∃x la da W' S,xs=[x]/\xR Hd p0 x la da m N W al W' S/\bz! la/\bz! da/\la≠lh/\da≠lh) \/ (i=2/\∃x la da W' S x2 gp jO V' S2,xs=[x,x2]/\xR Hd p0 x la da m N W al W' S/\xR Hd p1 x2 gp jO m N V bl V' S2/\da≠jO))) ⟨_,_,_,[],rfl,hS5,l5,e5,H! ⟨rfl,rfl,w5,v5,T.w.new su,T.v.new su⟩⟩;.rintro i σ Hd hi ⟨w4,w5',w7,xs,rfl,jI,ld,ed,h⟩;obtain⟨q,hq0,hqi⟩:∃q:Nat,L2.V.int (dr!+y!)=L2.V.int (J? q)/\q=i:=CT! i (ww Int.zero_add);rw[hq0];(have q1:q<=1:=B!);(have md:Uy! AC!:=B!);refine⟨_,rfl,a,ns,4,rfl,jI.sq,hlen,l!,l!,λv4=>⟨_,rfl,_,_,rfl,rfl,CL! l! l!,_,_,rfl,rfl,_,_,rfl,rfl,ah!,_,rfl,_,_,rfl,rfl,md,?_⟩⟩;have g0:=DQ (ra!) (LF! (AC!≠0));have g1:=DW (ra!) md;obtain⟨hh,eh,hm⟩:∃hh:Nat,ra! % AC!=J? hh/\hh<m:=bg! (CQ! (ra! % AC!));rw[eh];clear g0 g1 eh;rcases h with⟨rfl,rfl,wd,vd,nl0,sG⟩|⟨rfl,vd,sG,x,la,da,W',S,rfl,en,na,nb,sE,gk⟩|⟨rfl,_⟩;(· subst hqi;refine⟨_,rfl,_,rfl,wl,_,_,_,rfl,rfl,AC ld,rfl,_,rfl,_,rfl,_,_,rfl,rfl,a,ns,30,rfl,jI.sq,hlen,l!,l!,λc1=>⟨_,rfl,_,rfl,_,rfl,_,_,rfl,rfl,a,ns,32,rfl,jI.sq,hlen,l!,l!,λc2=>?_⟩⟩;refine⟨p0,c1,c2,hh,W,D,m,N,N,20*N,al,ys,rfl,wd,B!,B!,B!,m4,hm,λH6 W6 D6 d6 B6 n9 fw hB6 xD lB gD hs6=>Zb! At!⟩;obtain⟨v6,x6⟩:=T.x.mv wd vd gD;have c7:=wd.DY gD.fr;obtain⟨l6,nw6⟩:=gD.off ld T.nw;obtain⟨e6,nl6⟩:=gD.off ed nl0;have pI:=jI.keep c7;refine⟨_,rfl,DC! e6,_,rfl,_,rfl,wl,_,_,_,rfl,rfl,AC l6,rfl,_,rfl,p0,W6,D6,m,N+1,d6,0,B6,[],n9,rfl,fw,B!,m4,λx la da S H7 s7 fl fd tl lf=>?_⟩;have e7:=G! s7 e6;have v7:=v6.same s7;have sE:la≠lh:=o4! fl;have gk:da≠lh:=o4! fd;refine⟨lh,_,_,rfl,rfl,e7,Is! (0<sizeLine),?_⟩;(have QO:qI! lh (([]:List Addr).map L2.V.ref) (L2.V.ref x):=pc e7);exact⟨_,_,_,[x],rfl,(pI.keep (HQ s7)).keep QO,o! nlw (G! s7 l6),Ab,AN! ⟨rfl,v7.jZ (Ax! (WI! (Ny! sG))) QO,sG,x,la,da,W6,S,rfl,⟨⟨H6,D6,d6,B6,n9,fw⟩,xD,lB,tl,lf.keep QO (Qp! sE) (Qp! gk)⟩,v6.new fl,v6.new fd,sE,gk⟩⟩);(· subst hqi;refine⟨_,rfl,_,rfl,wl,_,_,_,rfl,rfl,AC ld,rfl,_,rfl,_,rfl,_,_,rfl,rfl,a,ns,31,rfl,jI.sq,hlen,l!,l!,λc1=>⟨_,rfl,_,rfl,_,rfl,_,_,rfl,rfl,a,ns,33,rfl,jI.sq,hlen,l!,l!,λc2=>?_⟩⟩;refine⟨p1,c1,c2,hh,V,E',m,N,N,20*N,bl,zs,rfl,vd,B!,B!,B!,m4,hm,λH6 W6 D6 d6 B6 n9 fw hB6 xD lB gD hs6=>Zb! At!⟩;have c7:=vd.DY gD.fr;obtain⟨l6,nw6⟩:=gD.off ld T.nv;obtain⟨e6,nl6⟩:=gD.off ed sG;have pI:=jI.keep c7;have lf6:=en.lf.keep c7 (λo e=>(gD.off e na).1) (λo e=>(gD.off e nb).1);refine⟨_,rfl,DC! e6,_,rfl,_,rfl,wl,_,_,_,rfl,rfl,AC l6,rfl,_,rfl,p1,W6,D6,m,N+1,d6,0,B6,[],n9,rfl,fw,B!,m4,λx2 gp jO S2 H7 s7 fl fd tl lf=>?_⟩;have e7:=G! s7 e6;have yl:gp≠lh:=o4! fl;have yr:jO≠lh:=o4! fd;(have sL:da≠jO:=by obtain⟨_,_,hl0,h0,_⟩:=lf6;exact Ak h0 fd);refine⟨lh,_,_,rfl,rfl,e7,Is! (1<sizeLine),?_⟩;(have QO:qI! lh ([x].map L2.V.ref) (L2.V.ref x2):=pc e7);have lf7:=lf6.keep (HQ s7) (λo e=>ET! s7) (λo e=>ET! s7);exact⟨_,_,_,[x,x2],rfl,(pI.keep (HQ s7)).keep QO,o! nlw (G! s7 l6),Ab,cr ⟨rfl,x,la,da,W',S,x2,gp,jO,W6,S2,rfl,⟨en.wi,en.cm,en.eO,en.tl,lf7.keep QO (Qp! sE) (Qp! gk)⟩,⟨⟨H6,D6,d6,B6,n9,fw⟩,xD,lB,tl,lf.keep QO (Qp! yl) (Qp! yr)⟩,sL⟩⟩);.lia
 rintro σ Hd ⟨w4,w5',w7,xs,rfl,jI,ld,ed,h⟩;rcases h with⟨h,_⟩|⟨h,_⟩|⟨_,x,la,da,W',S,x2,gp,jO,V',S2,rfl,e1,e2,sL⟩;.cases h
 .cases h
 obtain⟨H1,D1,d1,B1,YJ,VO⟩:=e1.wi;obtain⟨H2,D2,d2,B2,n_,aB⟩:=e2.wi;have a':Al V W bl al zs ys:=T.a.symm;have f1:=Jhp T.w VO e1.cm T.v aB e2.cm T.a e1.eO;have f2:=Jhp T.v aB e2.cm T.w VO e1.cm a' e2.eO;obtain⟨q1,q2⟩:=Je0 f1 f2 VO.wg.wl.len aB.wg.wl.len e1.tl e2.tl;obtain⟨uy,⟨JA,g1,pa1⟩,sv,g2,vg,g3⟩:=e1.lf;obtain⟨oP,⟨VX,k1,mD⟩,vp,k2,oy,k3⟩:=e2.lf;rw[<-q1] at mD;rw[<-q2] at k3;have rep:∀{as:J!} {hs:bV!},mv! (DL K Hd a (cs.map L2.V.ref)) (AZ Hd cs ts) hs->Fw! (IP K Hd) (as.map L2.V.ref) hs.map (λts=>PyData.tuple (ts.map YB)):=λ{as hs} p=>by induction p with | nil=>exact S! | cons h _ ih =>obtain⟨cs,h1,h2⟩:=h;exact Ge! (.tupP h1 (Kb h2))
 have okl:a_ (Bf! ((Et S m).map λts=>PyData.tuple (ts.map YB))):=E7 λd0 sy=>by obtain⟨ts,_,rfl⟩:=ZN sy;obtain⟨z1,z2⟩:=Jlp Jl ts;exact A! z1 B!
 obtain⟨mK,ll⟩:=Jj1 VO e1.tl e1.eO g3;refine⟨_,rfl,lh,_,_,_,rfl,rfl,AC ed,rfl,_,rfl,lh,_,_,_,rfl,rfl,AC ed,rfl,?_⟩;refine⟨x,x2,la,da,gp,jO,_,sv,vp,rfl,rfl,uy,oP,cS! g1 rep pa1,cS! k1 rep mD,okl,g2,k2,vg,oy,I? g3 k3,sL,?_⟩;refine Zb! Cb!;refine⟨_,rfl,lh,_,_,_,rfl,rfl,AC ed,rfl,x,_,_,_,rfl,rfl,NE uy,rfl,_,rfl,lh,_,_,_,rfl,rfl,AC ed,rfl,x,_,_,_,rfl,rfl,NE uy,rfl,?_⟩;exact⟨la,da,JA,Et S m,sv,rfl,g1,pa1,g2,vg,mK.hk,mK.cl,mK.nd,B!,mK.all,λH9 _=>k H9⟩
universe E K64
universe N K64
open PySem L2 FX
theorem goal_of{P:Program}{w:World}{K:W.Frag}{mg:q?}{C CW CP CI HE NH LG MQ MI NW NL NI NR d_ RK QS eW TH SU TU TZ WY WN TR SQ WD WU WG WL WQ W_ WV WZ TB TJ SO WK WM WE WR WS WO SM NG LR LV LU LQ NA WC MY M_ NF ND NJ MZ WT WJ TV RL WX WW S_ SY SX KQ NM NK NB NN NC SN WH SR TM SS TC TN TL TK SV TY TQ SW TX cO:Addr}{eZ UI RM eY UR UH U_ VC XY XM UZ UD XC XT XE XI XO X_ XU XZ UP US UC XH XJ XD XQ XR XN UA NY LX LZ LY LW NS XB NO NQ NX NV NZ NP XS XG U' UO XX XW UN UM UL KR N' N_ NT OA NU UB XF UE UW UG UQ UX UU UT UJ VB UY UK VA cQ:FuncData}:Gl (∀base:Heap,tE! aL 12 cO cQ Jm! St!) K mg C CW CP CI HE NH LG MQ MI NW NL NI NR d_ RK QS eW TH SU TU TZ WY WN TR SQ WD WU WG WL WQ W_ WV WZ TB TJ SO WK WM WE WR WS WO SM NG LR LV LU LQ NA WC MY M_ NF ND NJ MZ WT WJ TV RL WX WW S_ SY SX KQ NM NK NB NN NC SN WH SR TM SS TC TN TL TK SV TY TQ SW TX cO eZ UI RM eY UR UH U_ VC XY XM UZ UD XC XT XE XI XO X_ XU XZ UP US UC XH XJ XD XQ XR XN UA NY LX LZ LY LW NS XB NO NQ NX NV NZ NP XS XG U' UO XX XW UN UM UL KR N' N_ NT OA NU UB XF UE UW UG UQ UX UU UT UJ VB UY UK VA cQ:=λ_ X G aC aCW aCP aCI aHE aNH aNHd aNNr aMI aNW aNL aNI aNR q3 q4 xNH xNHd xNNr xMI xNW xNL xNI xNR xHE sNHd qaNHd qbNHd qcNHd qdNHd qeNHd tNHdNH tNHdNNr tNHdMI tNHdNW tNHdNL tNHdNI tNHdNR tNHdV sNNr qaNNr qbNNr qcNNr qdNNr qeNNr tNNrNH tNNrNHd tNNrMI tNNrNW tNNrNL tNNrNI tNNrNR tNNrV sMI qaMI qbMI qcMI qdMI qeMI tMINH tMINHd tMINNr tMINW tMINL tMINI tMINR tMIV sNW qaNW qbNW qcNW qdNW qeNW tNWNH tNWNHd tNWNNr tNWMI tNWNL tNWNI tNWNR tNWV hI hPI hWI mM mFr mPa mCa mAd mGi mPs mCl mSt mTo mNe mSp mQH mPR mAR mLo mGb mHo mDr mTa mQN mQG mTi mPP mPL mPT mWM mWFr mWSe mWCl mWDe mWSt mWLe mWH mWWe mWPa mWGb mWHo mWDr mWTa mP1 mR1 mC1 hII mIF mIS mIL mIR mLH mWAs mWAc mWAn mWLc mWAa mWLa mUn mRc mSm mCs mPk mHb mCo mDe mDn mNx mAl mCm mLf mAr hW cC nC0 nC1 nC2 nC3 nC4 nC5 nC6 cCW nCW0 nCW1 nCW2 nCW3 nCW4 nCW5 cCP nCP0 nCP1 cCI nCI0 nCI1 nCI2 nCI3 z0 z1 z2 z3 z4 z5 z6 z7 z8 z9 z10 z11 base=>(Jhk (Jo1 gW) (P,w,K,mg,base,C,CW,CP,CI,HE,NH,LG,MQ,MI,NW,NL,NI,NR,Cz! [d_,RK,QS,eW,TH,SU,TU,TZ,WY,WN,TR,SQ,WD,WU,WG,WL,WQ,W_,WV,WZ,TB,TJ,SO,WK,WM,WE,WR,WS,WO,SM,NG,LR,LV,LU,LQ,NA,WC,MY,M_,NF,ND,NJ,MZ,WT,WJ,TV,RL,WX,WW,S_,SY,SX,KQ,NM,NK,NB,NN,NC,SN,WH,SR,TM,SS,TC,TN,TL,TK,SV,TY,TQ,SW,TX,cO].getD 0,Cz! [eZ,UI,RM,eY,UR,UH,U_,VC,XY,XM,UZ,UD,XC,XT,XE,XI,XO,X_,XU,XZ,UP,US,UC,XH,XJ,XD,XQ,XR,XN,UA,NY,LX,LZ,LY,LW,NS,XB,NO,NQ,NX,NV,NZ,NP,XS,XG,U',UO,XX,XW,UN,UM,UL,KR,N',N_,NT,OA,NU,UB,XF,UE,UW,UG,UQ,UX,UU,UT,UJ,VB,UY,UK,VA,cQ].getD default):xS P w K mg base C CW CP CI HE NH LG MQ MI NW NL NI NR d_ RK QS eW TH SU TU TZ WY WN TR SQ WD WU WG WL WQ W_ WV WZ TB TJ SO WK WM WE WR WS WO SM NG LR LV LU LQ NA WC MY M_ NF ND NJ MZ WT WJ TV RL WX WW S_ SY SX KQ NM NK NB NN NC SN WH SR TM SS TC TN TL TK SV TY TQ SW TX cO eZ UI RM eY UR UH U_ VC XY XM UZ UD XC XT XE XI XO X_ XU XZ UP US UC XH XJ XD XQ XR XN UA NY LX LZ LY LW NS XB NO NQ NX NV NZ NP XS XG U' UO XX XW UN UM UL KR N' N_ NT OA NU UB XF UE UW UG UQ UX UU UT UJ VB UY UK VA cQ) X G aC aCW aCP aCI aHE aNH aNHd aNNr aMI aNW aNL aNI aNR q3 q4 xNH xNHd xNNr xMI xNW xNL xNI xNR xHE sNHd qaNHd qbNHd qcNHd qdNHd qeNHd tNHdNH tNHdNNr tNHdMI tNHdNW tNHdNL tNHdNI tNHdNR tNHdV sNNr qaNNr qbNNr qcNNr qdNNr qeNNr tNNrNH tNNrNHd tNNrMI tNNrNW tNNrNL tNNrNI tNNrNR tNNrV sMI qaMI qbMI qcMI qdMI qeMI tMINH tMINHd tMINNr tMINW tMINL tMINI tMINR tMIV sNW qaNW qbNW qcNW qdNW qeNW tNWNH tNWNHd tNWNNr tNWMI tNWNL tNWNI tNWNR tNWV hI hPI hWI mM mFr mPa mCa mAd mGi mPs mCl mSt mTo mNe mSp mQH mPR mAR mLo mGb mHo mDr mTa mQN mQG mTi mPP mPL mPT mWM mWFr mWSe mWCl mWDe mWSt mWLe mWH mWWe mWPa mWGb mWHo mWDr mWTa mP1 mR1 mC1 hII mIF mIS mIL mIR mLH mWAs mWAc mWAn mWLc mWAa mWLa mUn mRc mSm mCs mPk mHb mCo mDe mDn mNx mAl mCm mLf mAr hW cC nC0 nC1 nC2 nC3 nC4 nC5 nC6 cCW nCW0 nCW1 nCW2 nCW3 nCW4 nCW5 cCP nCP0 nCP1 cCI nCI0 nCI1 nCI2 nCI3 z0 z1 z2 z3 z4 z5 z6 z7 z8 z9 z10 z11
theorem all_mk{P:Program}{w:World}{K:W.Frag}{h:Heap}{mg:q?}{fa f:Addr}{d:FuncData}(X:K.In h)(G:MF! h.Ns)(eS:lf! "law")(hW:GI K "law" kT f d)(A:∀base:Heap,tE! aL 12 f d Jm! St!) : ∃fd:FuncData,(∀(s:Shared)(v:Value),mQ! [v] [(eA!,v)])/\s1! (K.In base) P K aL 12 Jm! St!:=by have e:=eS.symm.trans (JJ X G hW.a);cases e;have z:=hW.fn;obtain⟨⟨oc,od,kV,doc,pm,an,ED,ct,gA,rfl,lk,cd⟩,kp⟩:=z;exact⟨WR! "law" "law" (My kT) (Gp kT) (Am kT) F?,λs v=>.of_eq rfl,λbase _ _=>A base⟩
theorem walk{l:W.OpenLaw}{q:Program}{loose:P?}{XP:Py! Wr!}{YP:Py! World}{d:DefRec}{K:Params->W.Frag}(hn:gt! 63)(pD:d.params.defaults=[])(hY:∀(w:World) (h:Heap),YP w h->hv!)(F:∀(w:World) (mg:q?) (fa:Addr) (h:Heap),hv!->MF! h.Ns->lf! d.name -> ∃fd:FuncData,(∀(s:Shared) (u:Value),mQ! [u] [(eA!,u)])/\s1! ((K w.params).In base) l.prog vj! aL 12 Jm! (Oe (K w.params))) : W.WalkO q loose XP YP l.row.toRowW d [] (λf vs=>PySem.call f vs) :=L2.i0 (n:=63) (k:=12) (x:=eA!) (CX:=λw=>aL) (sp:=λw=>Oe (K w.params)) hn (l!) pD (HC! l! l!) hY F (λ_ H a ns hl hO hS=>⟨a,ns,rfl,fC.of hO hS,hl,FG!⟩) λ_ _ _ _ _ z=>z
end
end K64
open PySem PySem.W PyProof.Rows
set_option maxRecDepth 100000 in
set_option maxHeartbeats 0 in
theorem PySem.Challenge.cw_farhold_k64_whole_two_orders_holds : PySem.Challenge.rw_farhold_k64_whole_two_orders.Holds := by
 w_on;o_law;k_head;(case hw=>w_witness2)
 k_fill
 refine K64.walk (l:=PySem.Challenge.rw_farhold_k64_whole_two_orders) rfl rfl (fun w h Y=>W.kIn_of Y) ?F
 case F =>
  intro w mg fa h KX G hmg
  refine' K64.all_mk KX G hmg ?hW (K64.goal_of KX G ?aC ?aCW ?aCP ?aCI ?aHE ?aNH ?aNHd ?aNNr ?aMI ?aNW ?aNL ?aNI ?aNR ?q3 ?q4 ?xNH ?xNHd ?xNNr ?xMI ?xNW ?xNL ?xNI ?xNR ?xHE ?sNHd ?qaNHd ?qbNHd ?qcNHd ?qdNHd ?qeNHd ?tNHdNH ?tNHdNNr ?tNHdMI ?tNHdNW ?tNHdNL ?tNHdNI ?tNHdNR ?tNHdV ?sNNr ?qaNNr ?qbNNr ?qcNNr ?qdNNr ?qeNNr ?tNNrNH ?tNNrNHd ?tNNrMI ?tNNrNW ?tNNrNL ?tNNrNI ?tNNrNR ?tNNrV ?sMI ?qaMI ?qbMI ?qcMI ?qdMI ?qeMI ?tMINH ?tMINHd ?tMINNr ?tMINW ?tMINL ?tMINI ?tMINR ?tMIV ?sNW ?qaNW ?qbNW ?qcNW ?qdNW ?qeNW ?tNWNH ?tNWNHd ?tNWNNr ?tNWMI ?tNWNL ?tNWNI ?tNWNR ?tNWV ?hI ?hPI ?hWI ?mM ?mFr ?mPa ?mCa ?mAd ?mGi ?mPs ?mCl ?mSt ?mTo ?mNe ?mSp ?mQH ?mPR ?mAR ?mLo ?mGb ?mHo ?mDr ?mTa ?mQN ?mQG ?mTi ?mPP ?mPL ?mPT ?mWM ?mWFr ?mWSe ?mWCl ?mWDe ?mWSt ?mWLe ?mWH ?mWWe ?mWPa ?mWGb ?mWHo ?mWDr ?mWTa ?mP1 ?mR1 ?mC1 ?hII ?mIF ?mIS ?mIL ?mIR ?mLH ?mWAs ?mWAc ?mWAn ?mWLc ?mWAa ?mWLa ?mUn ?mRc ?mSm ?mCs ?mPk ?mHb ?mCo ?mDe ?mDn ?mNx ?mAl ?mCm ?mLf ?mAr ?hW ?cC ?nC0 ?nC1 ?nC2 ?nC3 ?nC4 ?nC5 ?nC6 ?cCW ?nCW0 ?nCW1 ?nCW2 ?nCW3 ?nCW4 ?nCW5 ?cCP ?nCP0 ?nCP1 ?cCI ?nCI0 ?nCI1 ?nCI2 ?nCI3 ?z0 ?z1 ?z2 ?z3 ?z4 ?z5 ?z6 ?z7 ?z8 ?z9 ?z10 ?z11)
  case aC|aCW|aCP|aCI|aHE|aNH|aNHd|aNNr|aMI|aNW|aNL|aNI|aNR=>k_is
  case q3|q4|sNHd|qaNHd|qbNHd|qcNHd|qdNHd|qeNHd|sNNr|qaNNr|qbNNr|qcNNr|qdNNr|qeNNr|sMI|qaMI|qbMI|qcMI|qdMI|qeMI|sNW|qaNW|qbNW|qcNW|qdNW|qeNW|nC0|nC1|nC2|nC3|nC4|nC5|nC6|nCW0|nCW1|nCW2|nCW3|nCW4|nCW5|nCP0|nCP1|nCI0|nCI1|nCI2|nCI3|z0|z1|z2|z3|z4|z5|z6|z7|z8|z9|z10|z11=>k_is
  case xNH|xNHd|xNNr|xMI|xNW|xNL|xNI|xNR|xHE=>k_exc
  case tNHdNH|tNHdNNr|tNHdMI|tNHdNW|tNHdNL|tNHdNI|tNHdNR|tNHdV|tNNrNH|tNNrNHd|tNNrMI|tNNrNW|tNNrNL|tNNrNI|tNNrNR|tNNrV|tMINH|tMINHd|tMINNr|tMINW|tMINL|tMINI|tMINR|tMIV|tNWNH|tNWNHd|tNWNNr|tNWMI|tNWNL|tNWNI|tNWNR|tNWV=>kit_is
  case hI|hPI|hWI|hII=>exact⟨by k_is,by k_is,⟨⟨_,_,_,_,_,_,_,_,_,rfl,by k_is,by k_is⟩,by k_is⟩⟩
  case mM|mFr|mPa|mCa|mAd|mGi|mPs|mCl|mSt|mTo|mNe|mSp|mQH|mPR|mAR|mLo|mGb|mHo|mDr|mTa|mQN|mQG|mTi|mPP|mPL|mPT|mWM|mWFr|mWSe|mWCl|mWDe|mWSt|mWLe|mWH|mWWe|mWPa|mWGb|mWHo|mWDr|mWTa|mIF|mIS|mIL|mIR|mLH|mWAs|mWAc|mWAn|mWLc|mWAa|mWLa=>exact K64.MeI.mth ⟨by k_is,by k_is,⟨⟨_,_,_,_,_,_,_,_,_,rfl,by k_is,by k_is⟩,by k_is⟩⟩
  case mP1|mR1|mC1|mUn|mRc|mSm|mCs|mPk|mHb|mCo|mDe|mDn|mNx|mAl|mCm|mLf|mAr=>exact K64.GI.gdi ⟨by k_is,⟨⟨_,_,_,_,_,_,_,_,_,rfl,by k_is,by k_is⟩,by k_is⟩⟩
  case hW=>exact⟨by k_is,⟨⟨_,_,_,_,_,_,_,_,_,rfl,by k_is,by k_is⟩,by k_is⟩⟩
  case cC|cCW|cCP|cCI=>constructor<;>k_is
