import PyProof.Rows.All
import Wide.All
import OpenK.AllK
import Wide.FinOn
import Lean
import PyProof.EqAt
import PyProof.EqKinds
import PyProof.TupleCall
import PySem.Challenge.RW_farhold_k45_asks
set_option linter.all false
def AB:=@if_neg
def AD:=@List.mem_filter
def AE:=@List.append_nil
def AF:=@if_pos
def AH:=@List.mem_map
def AI:=@List.map_cons
def AK:=@List.append_assoc
def AM:=@List.nodup_append
def AN:=@List.map_map
def AO:=@List.length_filter_le
def AR:=@Bool.false_ne_true
def AV:=@Nat.le_trans
def AW:=@List.mem_of_find?_eq_some
def AX:=@List.nodup_cons
def AZ:=@List.size_toArray
def A_:=@PySem.Heap.lt_size
def BE:=@List.mem_map_of_mem
def BF:=@Int.le_refl
def BG:=@List.mem_flatMap
def BH:=@List.find?_eq_none
def BK:=@Nat.zero_le
def BL:=@List.take_length
def BM:=@List.length_cons
def BN:=@List.mem_range
def BO:=@Int.toNat_of_nonneg
def BP:=@List.find?_cons
def BR:=@List.length_eq_zero_iff
def BS:=@List.length_nil
def BU:=@of_decide_eq_true
def BV:=@Nat.ne_of_lt
def BW:=@List.length_range
def BX:=@Nat.lt_of_lt_of_le
def BY:=@List.flatMap_append
def B_:=@List.flatMap_cons
def CB:=@List.mem_cons
def CC:=@PySem.boot_len
def CD:=@List.length_take
def CF:=@Int.emod_lt_of_pos
def CG:=@PySem.F.plainAttrs_list
def CK:=@PySem.wpAny_dictEntries
def CL:=@List.map_congr_left
def CM:=@Array.length_toList
def CN:=@Int.emod_nonneg
def CO:=@List.take_add_one
def CQ:=@Int.toNat_natCast
def CS:=@List.mem_singleton
def CT:=@List.mem_filterMap
def CU:=@List.filter_append
def CV:=@List.sum_cons
def CY:=@Bool.false_eq_true
def CZ:=@PySem.wpAny_newObj_type
def C_:=@List.perm_append_comm
def DA:=@List.mem_iff_getElem?
def DD:=@List.not_mem_nil
def DE:=@PySem.F.plainAttrs_dict
def DF:=@PyProof.Rows.boot_tuple
def DG:=@PySem.wpAny_call_entry
def DH:=@Nat.le_of_lt
def DI:=@List.length_pos_of_mem
def DL:=@List.nodup_nil
def DM:=@List.range_succ
def DN:=@Nat.lt_irrefl
def DO:=@PySem.Heap.get?_update_other
def DP:=@List.getElem?_eq_none
def DR:=@PySem.sizeLine_eq
def DT:=@List.pairwise_cons
def DV:=@List.find?_some
def DW:=@List.map_nil
def DX:=@List.filter_cons
def DZ:=@beq_eq_false_iff_ne
def EA:=@List.pairwise_map
def EB:=@List.take_append_drop
def EC:=@List.length_singleton
def ED:=@PyProof.Rows.boot_sorted
def EG:=@List.filter_cons_of_pos
def EH:=@List.filter_cons_of_neg
def ER:=@if_false
def ET:=@List.length_pos_iff
def EU:=@List.filter_sublist
def EW:=@Nat.le_succ
def EY:=@PySem.wpAny_holding
def EZ:=@PySem.wpAny_mono
def E':=@Nat.le_add_right
def FA:=@PySem.wpAny_dictEpoch
def FD:=@PySem.tupleKind_room_in1
def FG:=@List.filter_eq_self
def FH:=@Nat.ne_of_gt
def FJ:=@List.getElem?_set_self
def FN:=@List.getElem_inj
def FU:=@List.getElem?_append_right
def FY:=@PySem.F.slot_dict_get
def F_:=@PySem.Calls.callWith_builtin
def F':=@PySem.F.plain_extend_loop
def GA:=@List.filterMap_eq_nil_iff
def GC:=@List.filter_nil
def GF:=@PySem.wpAny_setField_rec
def GJ:=@Nat.lt_succ_of_le
def GK:=@Nat.le_succ_of_le
def GN:=@List.filter_congr
def GO:=@Nat.mul_le_mul_right
def GQ:=@PySem.Heap.get?_update_self
def GW:=@PySem.F.type_list_append
def GX:=@PySem.F.slot_list_append
def G_:=@List.filterMap_cons
def HG:=@PySem.W.mg_none_of
def HH:=@List.flatMap_nil
def HI:=@Bool.and_eq_true
def HJ:=@PySem.Obj.data_mapDictKeys
def HK:=@PySem.Calls.evalArgs_plain
def HU:=@if_true
def HV:=@List.append_of_mem
def HX:=@PySem.wpAny_callSpecial?_slot
def HY:=@PySem.wpAny_typeNameOfWhole_itemiter
def HZ:=@Bool.true_and
def H_:=@Bool.and_true
def IC:=@PySem.wpAny_typeNameOfWhole_keyiter
def ID:=@PySem.F.slot_dict_itemiterator_next
def IF:=@PySem.codeAny_mono
def IG:=@PySem.wpAny_Call_Name_kw
def IH:=@PySem.Calls.spliced_cons
def II:=@Nat.not_lt
def IJ:=@PySem.wpAny_passesOwn
def IK:=@List.take_zero
def IL:=@List.getD_eq_getElem?_getD
def IM:=@PySem.F.slot_dict_keyiterator_next
def IS:=@Nat.lt_succ_self
def IT:=@List.any_eq_true
def IU:=@PySem.wpAny_notOrdered_dict
def IW:=@PySem.mem_of_lookup
def JA:=@or_false
def JB:=@PySem.F.type_list_extend
def JC:=@PySem.F.slot_list_extend
def JD:=@PySem.F.slot_dict_values
def JH:=@List.filter_map
def JK:=@Nat.lt_of_le_of_lt
def JN:=@List.Perm.flatMap_right
def JT:=@List.map_id'
def JU:=@List.take_succ
def JV:=@PySem.wpAny_typeNameOf_keyiter
def JW:=@PySem.F.entry_dict_get
def JX:=@PyProof.Rows.boot_list
def J':=@PySem.size_of_entries
def KI:=@PySem.wpAny_field
def KJ:=@PySem.F.slot_dict_pop
def KQ:=@Array.isEmpty_iff_size_eq_zero
def KU:=@List.any_cons
def LA:=@PySem.W.hideAll_none
def LB:=@PySem.wpAny_truthy_bool
def LC:=@PySem.Calls.spliced_nil
def LD:=@List.getElem?_set_ne
def LW:=@PyProof.Rows.get?_update_seq
def LX:=@List.sum_append
def LY:=@List.mem_append
def NV:=@PySem.W.mg_of
def OE:=@beq_iff_eq
def OF:=@List.contains_cons
def OG:=@PySem.Around.under_plainId
def OH:=@Array.getElem?_eq_some_iff
def OY:=@PySem.wpAny_execs_nil
def PD:=@List.mem_or_eq_of_mem_set
def PF:=@List.getElem?_append_left
def PJ:=@PySem.Obj.isFreed_of_dict
def PK:=@Nat.le_of_lt_succ
def PL:=@List.ext_getElem?
def PZ:=@PySem.W.KasT.kasWp_bind
def P_:=@PySem.F.type_dict_values
def QI:=@PySem.Obj.data_mapFields
def QJ:=@List.range'_succ
def QK:=@List.perm_middle
def QL:=@List.lookup_cons
def RA:=@Nat.lt_trans
def RB:=@List.pairwise_lt_range
def RC:=@List.Perm.append_right
def RD:=@PySem.Calls.call_function_entry
def RM:=@PySem.wpAny_Call_method
def RN:=@List.nil_append
def RO:=@Bool.eq_iff_iff
def VB:=@List.filterMap_append
def VC:=@Array.getElem?_toList
def XR:=@PySem.wpAny_forIn_list
def XS:=@Std.Legacy.Range.forIn_eq_forIn_range'
def YN:=@PySem.call_meetsIn
def YU:=@PySem.wpAny_isOneOf_itemiter
def Y':=@PySem.codeAny_builtin
local macro_rules(kind:=Lean.Parser.Command.mutual)|s=>do
 let c:=s[1].getArgs
 if c[0]![1][1][0].getId != `Z then Lean.Macro.throwUnsupported
 let q:=fun(m:Lean.NameMap (Array Lean.Name×Lean.Syntax))(x:Lean.Syntax)=>x.rewriteBottomUp fun y=>if y.isIdent then match m.find? y.getId with|some (#[],b)=>b|_=>y else if y.isOfKind `Lean.Parser.Term.app then match m.find? y[0].getId with|some (p,b)=>if p.isEmpty then y else b.rewriteBottomUp fun z=>if z.isIdent then match p.findIdx? (·==z.getId) with|some i=>y[1][i]|_=>z else z|_=>y else y
 let e:=c[0]![1][3][1][1].getSepArgs
 let n<-`(noncomputable def a:=1)
 let mut m:={}
 for i in [0:e.size/2] do
  let h:=e[2*i]!
  let b:=q m e[2*i+1]!
  m:=if h.isIdent then m.insert h.getId (#[],b) else m.insert h[0].getId (h[1].getArgs.map (·.getId),b)
 let o<-(c.extract 1 c.size).mapM fun c=>do
  if c.isOfKind `Lean.Parser.Command.universe then
   let a:=c[1].getArgs
   if a[0]!.getId==`T then
    return Lean.mkNullNode ((a.extract 1 a.size).map fun i=>n.raw.rewriteBottomUp fun z=>if z.isIdent then Lean.mkIdent (.str `PySem.W.Fast s!"tw{i.getId.toString.foldl (fun n c=>n*52+if c.toNat<91 then c.toNat-65 else c.toNat-71) 0}") else z)
   else if a[0]!.getId==`S then `(section)
   else if a[0]!.getId==`N then `(namespace $(⟨a[1]!⟩))
   else if a.size==1 then `(end)
   else `(end $(⟨a[1]!⟩))
  else
   let c:=(q m c).rewriteBottomUp (·.setInfo .none)
   if [`Lean.Parser.Command.definition,`Lean.Parser.Command.abbrev,`Lean.Parser.Command.instance].contains c[1].getKind&&c[0].getArgs.all (·.isNone) then return c.setArg 0 n.raw[0] else return c
 return Lean.mkNullNode o
noncomputable section
mutual
def Z:=#[CB!,Type _,
Qb!,as[i]?,
q? a b c d e f,a (b:=c) (d:=e) f,
Z!,.inl,
J?,.inr,
a!,.int,
CC!,.str,
Md!,by grind,
r? a,a=false,
WB!,(nomatch e),
K?,.cons,
L!,.nil,
v6 a b c,if a then b else c,
Dz!,xs.length<=sizeLine,
Qt! a b,{ cls:=a,data:=b },
GX!,.type,
SB,"list",
D0!,.seq,
WI!,kvs.length<=sizeLine,
CD!,(·.1),
Cb!,.own,
DK!,"range",
l?,.none,
As!,.ref,
Qu!,λ_ _ q=>q,
H! a b,by rw[a];exact b,
ec! a b,by subst z;rw[a] at mu;exact b,
xL a,∀b o,a,
DL! a,by rw[a];simp,
Qw!,λz=>z,
Qx!,.local,
Aa!,.cell,
Jt!,.free,
BB!,X.calm=true,
Mf!,X.env::X.outer,
Ju!,b≠X.env.locals,
Wg!,X.pn++AA,
Ab! a,λb o e=>a,
Wk!,s.heap.objs.size<=a,
N? a,λb hb=>a,
Wn! a,by rw[a];decide,
z! a b,by rw[a,b],
Q0!,{ s with heap:=h',toks:=t' },
x!,by simp,
eq!,(nomatch z),
es!,λ_ _ e=>e,
Bh!,by simpa using hb,
be a,by rw[a];rfl,
Gd! a b,by rw[a];exact b,
Ix,{ s with heap:=h' },
S? a b,by rw[<-a];exact b,
Wp!,λ_ _=>False,
e5!,λ_ _ x=>x,
Ez!,.Name,
Wq!,.Constant,
fE! a,λ_ _ _ H _ I h=>a,
bi,.bool,
Mg!,.NotIn,
w?,by decide,
Wr!,.BoolOp,
Q1!,b::rest,
Ws! a,by intro AA s σ H Q I h;exact a,
AJ!,"tuple",
Ge! a,by simpa using a,
Mk! a,λD σ H=>a,
Q4!,λ_ _ _=>False,
db,(·.2),
Gf! a,∀b∈fp,a,
Iq!,"dict_itemiterator",
Lm! a b c,if a then b else c,
Q5! a,λi h st b hb=>a,
Wv!,by simpa using hu,
CE! a,λb o hb e=>a,
fR!,by simp;lia,
Ww!,b=s1.heap.objs.size,
B!,by lia,
Ln!,i<=xs.length,
Q6!,xs.length-i,
Wx!,i<xs.length,
fS!,i=xs.length,
Wy!,false=true,
Lo!,kvs.length=vs.length,
D3!,.builtin,
Gh! a,by rw[a];lia,
fU!,"__init__",
Ou! a,{ s with heap:=a },
D4! a,show a from rfl,
Ce!,by simp at h,
UF,by simpa using h,
Cf! a b,show a from b,
At! a,a<=sizeLine,
W2! a b,by rw[a,b];lia,
Ov!,λ_=>none,
D5! a,λe he=>a,
Cg!,λ_=>rfl,
Ch! a,λy hy=>a,
W4!,.Attribute,
Ow!,A.handled=none,
Ox!,us++ds,
fW!,us.length=ps.length,
Tw!,vs[i]?,
W8!,by simpa using h2,
fa!,i<vs.length,
W9!,by simp[e],
fb!,kvs.length<sizeLine,
D6! a,by have:=a;lia,
Oz!,.Subscript,
Is!,"dict",
fd!,λ_ _=>rfl,
XZ! a,λw' s3 I3 QM=>a,
ff!,kvs.length+more.length,
bn a,by show a;lia,
YX!,A.units<cLine,
U7!,xs[j]?,
U8!,j<xs.length,
BE! a,λu hu=>a,
AL! a,(by cases a),
aW! a,show a by simp,
U9!,by simp only[AZ]<;>lia,
fk!,its.toArray.size+QW.toArray.size,
ga a b c,by rw[a,b];exact c,
fl!,ns.length<=n,
D8!,.list,
D9!,.tuple,
EA!,by simpa using e,
fx!,by simp at e,
E1! a,λb o e hb=>a,
f5! a b c,by have:=a;rw[b] at this;exact c,
VC!,"dict_keyiterator",
O2!,"StopIteration",
c9!,by size_fits,
Gl!,(·.2.1),
hM!,j<es.size,
dA! a,by have:=a;simpa using this,
hQ!,by simp[hj],
DM! a b,by rw[a,b];rfl,
dB!,λc w' _ q=>q,
VE!,i<kvs.length,
VF!,by simp[hi],
VG! a,λb ob e=>a,
hz!,by assumption,
iQ! a,acc.toList=a,
iW!,by simp[h1],
jC!,{ s with heap:=hh },
Ls! a,show a by lia,
O3!,"sorted",
kA!,j<L.length,
dI!,i<as.length,
Iy! a b c,by rw[a,b,c];rfl,
Bi!,T2×Int,
Dy!,"number",
Ci!,"made",
DN!,"ticks",
Bj!,"hand",
BF!,"outs",
BG!,"holds",
Bk!,"records",
dJ! a,by show a;decide,
No a,λq hq=>a,
O5! a,∀q∈G.holds,a,
Gm!,b≠p,
EB!,by simp[BQ],
dK!,by simpa using hq,
Iz!,.tupP,
VH!,"dict_items",
dL!,env::outer,
Lt!,by simpa using z,
Lu! a,show a from rfl,
od!,{ s with heap:=h2 },
O8!,{ s with heap:=h1 },
O9! a b,by rw[<-a,b],
qV! a b c,by show a;rw[b];exact c,
VJ! a b c,by rw[a,b,c];lia,
qk! b,λj a q e1 e2=>b,
PA! a,λq:T2×Int=>a,
AM! a,by rw[a],
ii a,λr hr=>a,
E2!,t∈l,
dM!,λq:T2=>q,
PB! a,λq hq z=>a,
DO!,t=tb,
dN!,tb∈ts,
VK! a,show a by simp,
Lv!,"latest",
PC!,"waiting",
dO!,Int×Addr,
CF! a,∀l∈ls,a,
EC! a,λl hl=>a,
I0!,l1++l2,
VI!,Addr×BZ,
ED!,"houses",
DP!,"share",
CG!,"post",
EE!,"inquiries",
Lw!,"finds",
O7!,"enclosed",
se! a,∀q∈W.qs,a,
sk!,by simp[C7],
PD! a,{ W with qs:=a },
dR!,"house",
Cm!,(·.2.2),
VL! a,by unfold De;rw[a];rfl,
PF! a,∀t∈G.hand,a,
dS!,by simpa using ht,
s2! a b c,by rw[<-a,<-b];exact c,
I7!,t∈G.hand,
s3! a,{ G with AG:=a },
VP!,j<RI.size,
dV! a b c d,by rw[a,b,c];exact d,
Cp!,t∈R,
dY! a,∀t∈ahead,a,
dc! a,{ G with AJ:=a },
VT!,i<=kvs.length,
de! a,∀q∈qs,a,
L3!,by simpa using c,
sB a,λt ht=>a,
PX! a,us.length=a,
tA!,"House.__init__",
tB!,"Post.__init__",
FG!,"make",
tC!,"House.make",
Bu!,"self",
FH!,"free",
tD!,"House.free",
tE!,"House.part",
tF!,"House.came",
dn!,"weight",
tG!,"House.added",
tH!,"House.given",
tI!,"House.passed",
FJ!,"clean",
tJ!,"House.clean",
G8!,"state",
do!,"House.state",
Vc!,"told",
tL!,"House.told",
MC!,"thing",
tN!,"is_spent",
tO!,"House.is_spent",
tP!,"part_record",
tQ!,"House.part_record",
Z?,"hold",
tR!,"House.hold",
Da!,"drop",
tS!,"House.drop",
Db!,"take",
tT!,"House.take",
JP!,"tick",
dp!,"House.tick",
Pg!,"letters",
tU!,"Post.letters",
tV!,"Post.taken",
tW!,"World.make",
tX!,"World.free",
Ph!,"send",
tY!,"World.send",
tZ!,"World.clean",
HE!,"deliver",
ta!,"World.deliver",
tb!,"weight_came",
tc!,"World.weight_came",
VA!,"letter",
td!,"pass_came",
te!,"World.pass_came",
tf!,"World.hold",
tg!,"World.drop",
th!,"World.take",
Vg!,"parted",
MF!,"reached",
ti!,"_law_cell",
Pk!,"_law_script",
tj!,"_law_spun",
Pl!,"_law_cell_here",
Vj!,"_law_free",
tl!,"_law_holding",
dr!,"_law_things",
Cy!,"_law_world",
MH!,"_law_many",
tn!,"_law_do",
to!,"Inquiry.__init__",
FL!,"first",
tp!,"Inquiry.first",
JS!,"second",
tq!,"Inquiry.second",
ts!,"Inquiry.still",
tt!,"Inquiry.result",
Cz!,"let",
tu!,"House.let",
Rs,"ask",
tv!,"World.ask",
tw!,"ask_came",
tx!,"World.ask_came",
tz!,"answer_came",
t0!,"World.answer_came",
t1!,"let_came",
t2!,"World.let_came",
t4!,"beginner",
t7!,"let_all",
uA!,"World.let_all",
dt!,"unreached",
Dj!,"states",
dv!,"recorded",
JT!,"_law_n",
uC!,"_law_went",
Vm!,"_law_h",
uD!,"_law_one",
dx!,"_law_letter_here",
uE!,"_law_asked",
FP!,"many",
HJ!,"first_ticks",
JV!,"second_ticks",
FS!,ta∈G.hand,
BA!,tb∈G.hand,
d7! a,{ G with hand:=a },
Vw! a,show a by decide,
QD! a,∀(x:Addr)(H':Hp),a,
AT a,λz hz=>a,
eO! a,∀(t:Addr)(H':Hp),a,
eR! a,by unfold dX;rw[a],
eZ! a,let⟨_,_,_,fr⟩:=h;a,
Cc! a,λb o e h1 h2=>a,
Bg!,"back",
Me!,KL++bs,
BC! a,kind=a,
Cd!,"more",
wE,"pass",
Qz!,x≠W.hs,
Wo! a b,by rw[a];show b;lia,
ey! a b,{ W with c:=a,ls:=b },
D1!,W.ls++L,
e9!,G'.num=G.num,
fA!,G'.AY=G.AY,
fB! a,∀t∈G'.hand,a,
LI!,λt _ h=>h,
La!,l.th=t,
m?,a++b,
Io!,l∈ls,
Q2!,b∈G.hand,
Q3! a,by show a;lia,
Mz!,t=l.th,
NG!,λ_ h=>h,
Ip!,G.AY<=G'.AY,
Wt! a,λr hr t ht=>a,
Gg! a,λk:Nat=>a,
Ot!,fi.length=m,
Wz!,G.AU<G'.AU,
D2!,.ask,
fV!,L.length=m,
W0!,ys.length=i,
W1! a,W.EF.length<=a,
BD!,"answer",
Gi! a,λb o eb hb=>a,
W3! a,∀(r:Addr)(H':Hp),a,
Lp! a,λb ob e n=>a,
SX! a,λr:T2×Int×List T2=>a,
Oy!,(·.key),
Ir! a,show a by lia,
AK!,e1++e2,
U5! a,λb o eb hb n1 n2 n3=>a,
fe! a,by unfold RR;rw[a];rfl,
It! a,a+G.AJ.length,
Xz! a,a+G'.AJ.length,
E0!,(·.n),
O0! a,∀y∈ys,a,
X2!,y.se.length=m,
fg! a,{ W with qs:=a,c:=c,ls:=Ls },
U6! a,λs g ts hz=>a,
Iu!,W'.FK=W.FK,
fh!,W'.hs=W.hs,
D7!,A'<=A,
Iv!,B<=B',
ZV! a b,by unfold nums;rw[a];exact b,
Iw!,W'.qs=W.qs,
O1!,W.qs.length=m,
fm!,(·.toNat),
bg!,y.fi.length=m,
Gj!,EN=ys,
cq!,"_law_holds",
VB!,"_law_kind",
fn!,"_law_hand",
fo!,"_law_records",
fp!,"_law_letters",
Lq!,"count",
Gk!,"done",
c8! a,∀r∈O.fl,a,
VD!,(·.h),
hG!,by simp[Do],
hI!,λr:FR=>r.h,
Ix!,(·.S),
dC!,"_law_goal",
dD!,"_law_about",
dE!,O'.fd=O.fd,
dF!,O'.sd=O.sd,
dG!,"_law_held",
Lr! a,k.kind=a,
dH! a,λv W' al' EN H'=>a,
O4! a,λb u hb e=>a,
O6!,b≠ad,
A! a,some a,
Bl! a,List a,
L? a b c,a b=A! c,
Y! a,(As! a),
Ac! a,List (a),
c? a,(a:Int),
F? a,As! a,
w! a,decide (a),
Cj! a c,L? a b c,
J! a,Z! a,
E! a b,a _ _ b,
C? a,a CD!,
a?,(pv 0),
I! a,J? a,
FM a b,a b=none,
bv a b c d,L? a b (c d),
AN! a b,a->b->Prop,
O? a,V.int a,
CH! a b c d,(upd a b (c d)),
Q? a,V.ref a,
D!,Bl! T2,
C!,Bl! V,
xz a b,Inv X AA σ a b,
jp a b,⟨_,a,b⟩,
Ad! a,Cj! a o,
x? a,⟨rfl,a⟩,
Op a,(a! a),
d!,(pv 1),
X! a b,(a _ _ b),
D? a,⟨_,a⟩,
F!,(B!),
T! a,a! a,
i! a b,H! (Ad a) b,
h? a,FM H a,
I1! a,xz H a,
Gn! a,(a CD!),
o! a b c,a _ _ b c,
At a,λq=>w! a,
l!,c? i,
PE! a b c d e f g,wpAny (model a b) c d e f g,
R!,(pv 2),
i? a,A! (Y! a),
q! a b,(H! a b),
K!,I1! s,
ca a,(Aa a Ae),
I2! a,(AL! a),
Go! a,Option a,
d? a,CA.of a,
AA! a,Aj a t,
E?,q.2.1,
G!,Cx Kx,
AO! a b,PE X a b,
SC,W.c+1,
y?,F? p,
M!,Bl! Addr,
W?,(Aq a? rfl),
dP! a b c,AQ CW a CP b p c,
I3! a b c,bv H a b c,
Au! a b c,⟨a,b,rfl,c⟩,
Ae! a,jp a ?_,
Ck! a b,(Aa a (Aa b Ae)),
dQ! a b c d,Av (i:=a) b rfl c d,
AP! a b c,CH! H a b c,
A? a b c,Ap a b (Ak c),
U!,Bl! α,
E3!,(q,G),
EF! a,GX! a,
I4! a,AN! a Hp,
y! a,Paired.length a,
E4! a b c,Paired a b c,
Af! a,(Az Ay a Ah),
N! a,(e.2.2.2.2.2.2.2.2.2.2.2.2.2.2.2.1 a),
O! a,(e0.2.2.2.2.2.2.2.2.2.2.2.2.2.2.2.1 a),
P! a,(e.2.2.2.2.2.2.2.2.2.2.2.2.2.2.2.2 a),
Q! a,(e0.2.2.2.2.2.2.2.2.2.2.2.2.2.2.2.2 a),
KB a b,¬((a:Str)=b),
AB! a,t∈C? a,
BH! a b,Q (Y! a) b,
S!,Bl! LL,
Os,F? a,
Lx! a b c d e f g h,(Ao (pl:=_) a b c d e f L! g h),
UV,[Bu!],
g!,Bl! Value,
V!,Ac! Bi!,
h! a b c,FF K a b c f fd,
W!,x? (λD_ A outer s hr=>?_),
DQ!,(by rfl),
Cl! a,a=A! E3!,
AC! a,AN! a Shared,
E5! a b c d e f,CJ K CW a b c d e f,
Ag! a,(sB a),
b? a b c d e,FO a b c d (e),
j!,Bl! Int,
Cn! a,a (B!),
E6!,(q,G'),
BI! a,a->Prop,
Ah!,(G.num,G.AY),
KE,(i+1),
wP a b c d,upd a b (c d),
k!,Ac! dO!,
ol,(Al G ts),
X? a b,λz=>a (b),
Av! a b,w! (a=b),
BJ!,[Bu!,"h"],
o? a,(a (·.1)).Nodup,
AD! a,(Z! a),
E7! a b,L? a x b,
PG! a b c,bv a b .BJ c,
FS,q.2.2,
Ai!,ZL ..,
PH! a b c,L? H a (.BB (b c)),
s? a,c? (a:Nat),
I5! a,Sum.inl a,
P?,(pv 3),
Gp!,[Bu!,MC!],
z?,D? rfl,
SL,r.2.2,
I6! a b,J? (a b),
SZ a b,(a b).length,
CI! a b,a b λvs H Q E h=>?_,
v!,Ac! (Addr×Obj),
wS a b,I! ⟨a,b⟩,
s1!,Q? E?,
DR! a b c d,⟨a,b,c,rfl,d⟩,
G?,J! h,
BK! a b,absurd a b,
GE,q.1=t,
BL!,BQ G,
CJ! a b c,(dQ! a b (Or.inl rfl) c),
PI! a,a (w?),
VM!,tk q.1,
AQ!,(keepR G R),
Ch a,⟨a,?_⟩,
B?,Ac! VI!,
VN! a b c,(Aw a b c (A4 _)),
E8! a,DY.of a,
Db,(x!),
wT a,(Af (Ar a)),
PJ!,O? q.2,
Aj! a,(ZD _ a),
CK! a,(ZJ a).1,
Co! a b c d,DQ 1 a b c (d),
AE! a,r? (a),
GM a b,⟨a,b,?_⟩,
Gq! a,(dJ! a),
Bm!,G.AU+1,
o0 a,ZB _ a,
Bn! a b c,E! a (X! b c),
PK! a b c,CH! a b .BJ c,
Gr!,Ad! H,
Aw!,Au! rfl rfl rfl,
Go a,A! (Op a),
H?,Bl! Qy,
AR!,c? m,
t?,h? b,
I?,Cs hr,
VO! a,(λ_ _ _ _ _=>a),
E9!,‹_›,
I8! a b,a (At b),
EG!,Bl! Key,
T?,Bl! LT,
M?,PI! hr.mono,
BM!,(n+1),
I9! b c,L? b a c,
PL!,(a! _),
KF a,jp rfl a,
Gs! a,BH! a H',
PM! a b,PG! a b ys,
Bo! a,V.int (a),
PN!,c? 0,
u?,r.2.1,
Gt!,T2×Int×D!,
AC,ZG _,
AS!,[Bu!,VA!],
s4! a,a AA s σ H _ I h,
R?,AS C H p G,
Ax! a,decide_eq_false a,
FA! a,(bn a),
dT! a,λt=>w! a,
U?,Bl! Str,
JA! a,Cj! a u,
EH!,C? G.AG.map,
V?,AC! Value,
dU! a b,PH! a tv b,
VQ! a b c,a b m c sh qs ls,
Gu! a b c,((a b).map c),
Ay! a,FM a b,
Gv!,Af! d!,
Y? a,CI! F.IV a,
JB! a b,(Bg (i:=a) b rfl (Or.inl rfl)),
w4! a,WI a p W D m n d A B al ys,
Gw!,O.cnt+1,
v?,Str->Go! Value,
e?,AF rfl,
Az!,AA! G.AJ,
f?,Cl! (qs[i]?),
g?,w4! H,
VR! a,(Ne.symm a),
pc a b c,a=A! (b,c),
j?,(pv 4),
k?,Ac! (Key×V),
EI! a,(I5! a:Key),
Ly! a b c,(upd a b (.BJ (c V.ref))),
VS! a b c,Qt! (EF! a) (b c),
Ak! a,CC! a,
Lz!,q.1≠t,
BN!,c? h,
n?,BI! T2,
A0! a b,AS C a p b,
Sc,Cw G ZV,
BO! a b,⟨rfl,a,b⟩,
Uf,F? b,
ci,(ZG _),
s5! a,dP! C a W,
p?,BD H H',
JC! a,(qs.set i (q,a)),
JD! a,HD p W H a,
EJ!,[Bu!,"a","b"],
AT! a,(a)=true,
s6! a b,λσ H Q=>a σ H b,
dW! a,vs=[y?,a],
EK!,G.AY+1,
TD a,(J? a),
EL! a b,absurd (a) b,
Al! a b,J! ⟨a,b⟩,
BP!,x? rfl,
dX! a b c d,E4! (IA a b) c d,
KM,Bu H H',
L0!,Cb p W,
FB!,[Bu!,"b",dn!],
wn,BK _,
DS!,Ad! s.heap.get?,
PO! a b,(EM (s4! a) b),
vn! a,Gq! (At! a),
pi,JF W h q G,
s7!,(as.map Value.ref),
Tk a b,a b=true,
A1! a b c d,⟨_,a,b,c,d⟩,
Gx! a,(l.map a),
EQ,Ac! Gt!,
Am! a,E! a e,
BQ! a,Bu H a,
JE!,AA! G.AG,
L1! a b,Ae! (Ac (a) b),
PP! a b c d e f g h,⟨_,rfl,a,b,c,d,e,f,g,rfl,h⟩,
FB,Ok G n,
pt,a! h,
IN,AF c,
FC! a,(AD.mp a).1,
Bp! a b,Ag (o:=.BB a) b,
vo! a b c d e f,Lx! a? a b c d e Cf (ca f),
JF! a b,λz=>a (b z),
IR,s5! H,
PQ! a b c d e f,(Bw a b DQ! c d e L! A7 f),
WF a b c d e,OU K mg a b c d e,
dZ! a b,PE! X.prog X.w X.A a b X.xe s,
JG!,found++[t],
DT!,Y! C,
NE,AB c,
da! a b c d e,CJ K C a b c Gp! d e,
Cq! a b c d,(a b c).length<=d,
db! a,Ad (Ne.symm a),
L2! a,⟨q,hq,a⟩,
Gy!,(Ai!),
Bq! a b,⟨o,a,b⟩,
An!,PA! q.1,
JH! a,a (i+1),
dd! a,a::Ed σ caps,
PP,Cj! H (.BB (tv tb)),
PR! a b,KS qs ls a b,
re a,BD.upd λo' e=>by rw[a] at e;cases e;exact⟨λ_ z=>I2! z,λ_ _ z=>I2! z⟩,
EM! a,decide_eq_true a,
FD! a b,HD.DJ a b,
T0,Y! a,
Cr!,(Z! rfl),
Br! a c,a b o e c,
VU! a b,(Bj a (wT b) A5),
EN!,Cr W ZV,
Cs! a,(a b o e),
Ao! a,PE! prog w A a Q E s,
DU! a b,(Cf! a b),
WP,(pv 5),
XV,AB e,
VV! a,i! a e,
CL! a b,a σ H1 b,
DV! a b c d e,E5! a b c BJ! d e,
df! a,Z! (Z! a),
am a,inClass (top 14) a,
VW! a b c,AH.mpr ⟨a,b,c⟩,
ap,Cn 1 _,
PS! a,(J? (Z! a)),
CM!,ZU _ rfl,
JI!,(Bs os ts),
EO! a,D9! a,
AU! a,(a).length,
vp! a b,(by rw[a,b] at e;cases e),
FE! a b,A! (a b),
CN! a,a=A! v,
VX!,F? d,
Gz!,(BF _),
dg!,Op n,
AV!,i? p,
cr a b c d e,QT K a b c d e,
AW!,I4! St,
L4! a,(some (As! a)),
DW!,Gs! x,
G0! a b,a (At b),
G1! a,⟨dx,a⟩,
sK,n<60,
PT!,Q? a,
sw,AF e,
ut,Go! Int,
G2! a b,I3! a .BB b,
VY! a,Ag! (J! a),
v4 a,inClass (top 23) a,
Bs! a,I6! Z! a,
Ap! a,I6! J? a,
dh!,(ys++[v]),
PU! a b c d,DU X.prog X.w a b c d,
L5! a b c,(Co hu a b c rfl),
di!,(BI ED! (Y! r) (BI DP! (Op sh) [])),
BR! a,a V.ref,
DX!,λq:T2×Addr×List T2=>q.1,
s8! a b c,a (S? b c),
AF!,c? k,
PV!,F? t,
L6!,Cn! A6,
wp a,a X Gn,
PW! a,a I.DK e,
DY! a,EM (a) ?_,
dj! a b c,putK a b (a! c),
vq! a b c d,L1! (dQ! a b (Or.inl rfl) c) d,
VZ! a b,dX! H W.EF a b,
wv,Ac! (EG!×V),
Bt! a b,Co! f fd a b,
ww a,a (Cu I q (x!)),
G3! a,λz=>vp! z a,
dk! a,show PN!<a by decide,
AG!,Ac! (κ×V),
BS!,c? j,
BT!,Ad hb,
BU!,BF _,
EP! a,jp a rfl,
JJ!,x? trivial,
AH!,D? e,
PY! a b c d,(Aa a (Aa b (Ck! c d))),
L7! a b,E4! R a b,
Va! a,E7! a c,
L8! a,λz=>a z.symm,
s9!,Aj G.AJ b,
JK!,AN! Hp VK,
EQ!,[Bu!,"h","a","b"],
dl! a,E (Y! a) none H,
JL!,⟨Aw!,trivial⟩,
AI! a,Ho F a λvs H Q E h=>?_,
FF! a,S.same a,
PZ! a b,IntsAre a b,
AX!,λz=>?_,
G4!,s.heap.objs.size+1,
AY!,No ?_,
ER!,AT ?_,
L9!,(Al G (ts.take i)).AG.filter,
Pa! a b c,L? a b (Y! c),
AZ!,J? h,
CO! a,FM mg a,
CP!,[Bu!,"n"],
dm! a b c d,L? a b (.BB (c d)),
Vb! a b,a b (w?),
vr! a,q! ZA a,
ES! a b c,L? a b (.BJ (c V.ref)),
Pb! a,D.nx σ a,
ET!,(qs.set i E6!),
G5!,ZT _ e,
Pc! a b c,a p=some (.ins b dx c),
Ct! a,(N? a),
Pd!,(e::es),
CQ! a b,(a b).Nodup,
CR!,b∉L0!,
Aq!,Bl! β,
MA!,Y! f,
Pe! a,Cj! H' a,
G6! a b c d,Paired a b (c d),
Ar!,Go! V,
G7!,I4! C!,
Cu!,c? ys.length+1,
Pf! a,Bi al n a,
FI! a,Ag (o:=.BJ []) a,
tK! a,(.ins CW dx a),
JM!,Ct G.hand tb,
MB! a,(Eb a? a rfl),
tM!,(x::Jf caps),
A2! a b c,⟨a,b,c,?_⟩,
JN! a,⟨a,rfl⟩,
Vd! a,S? z a,
A3!,x=Os,
A4!,B<=480,
A5! a b,a (EI b),
w5!,Ac! (Str×NameKind),
DZ!,c? n,
A6!,AF h,
Cv!,d? et,
JO! a b c d e,CJ K C a b c UV d e,
A7!,ZI hz,
G9!,AB! G.AG.map,
HA! a,dP! C H' a,
Cw! a b c,wP a b .BB c,
Ve! a b c d,DR! (F? a) b c d,
FK!,o0 h,
HB! b,I9! h.get? b,
A8!,RelV y u,
Cx! a,L? H d a,
A9!,BC H as ts,
MD!,λq=>((J! q.1:Key),s1!),
BV!,(m?),
Dc!,λq=>PJ!,
Dd! a,⟨o,a⟩,
HC!,[Os],
HD! a b,by rw[<-a];exact CK! b,
BW!,Ac! (Str×V),
BX!,Ac! (Str×Addr),
ME! a b c,absurd (a b) c,
BY!,AB h,
HF!,[Bu!,"things"],
De!,Ad! h.get?,
Pi!,h? p,
BZ!,ZN hz,
Ba!,Ck ?_,
JQ!,Cj! H u,
EU! a c,Cj! H (a c),
Df! a,(Af (Bf a)),
Vf!,ZC _ Gy!,
JR! a b c d,BD a (PK! b c d),
vs!,Value.ref a,
Dg!,Array Value,
Bb!,W.c+(W.qs.length:Nat),
HG!,JD! H',
Bc!,vn! 2,
Bd!,AX.mp nd,
Be!,VQ! Wg D n,
Bf!,Sd m G n,
Vh! a b c d,FZ.t (k:=tk a) b c (vr! d),
Dh!,λx=>Q? x.2,
Pj!,W.EF++[(SC,e)],
Vi! a,(putK a (Z! h) (Op t)),
dq! a,dj! a (AD! s) tick,
Di! a,Sd m a (n+1),
MG!,(hs,os,rs),
tk! a b,(K? a (K? b L!)),
tm!,[Bu!,"kind","sender","goal","about"],
Bv! a,(dk! a),
Bw! a b c d,⟨a,b,c,d,?_⟩,
MI!,λy=>O? y.1,
Bx! a b,(a b).symm,
tr! a b,if a then A! b else none,
By!,Bl! Env,
Bz!,Bl! HS,
B0!,(pv 6),
MJ!,F? x,
EV! a b c,C? a=b c,
B1!,A_ e,
EW!,i? a,
HH! a b,CA K H a b,
B2! a b,FL K H a b,
B3!,Cc ?_,
B4!,AB! l.map,
ty! a,Z! (J? a),
B5!,α->T2,
t3!,W.c+(i:Nat),
Vk!,(a,NameKind.local),
Vl!,(b,NameKind.local),
ds! a b,s6! a (λx H1=>b),
t5! a b,W.qs.set a (q,b),
t6! a b,PR! (JC! a) b,
t8! a b,(I! a,F? b),
B6!,Ac! (Int×Int×HS),
t9! a,VN! C6 a Be,
Pm!,(h.lt F!),
B7!,VQ! Wl C n,
vt! a b,OJ m qs ls a n b se,
uB! a c d,∀b u,a->c->JA! d,
B8! a b,BC.keep (EI a) b,
B9!,λq=>(tk q,V.bl true),
du! a,hR _ _ _ _ _ a,
dw!,λz=>O? z.1,
FM! a b c d e,(Ac a (Ac b (Ac c (Ac d e)))),
CA!,KT p K W m n d A' B' ys H Q R,
Pn!,(JG!),
Po! a,(a b hb).1,
Pp! a b,H! (Ad (a)) b,
Pq! a b,f5! a b this,
CS! a,DM! ZH a,
HI! a b,a (AH.mpr b),
FN!,Y! b,
JU!,Y! t,
FO!,Y! it,
CT!,Ac! (Int×Int),
CU!,J! k,
Vn!,J! hb,
Pr! a,Ad (Am e a),
dy!,AF BP!,
Ps!,AB! hl.map,
CV! a b c d e,E5! a b c AS! d e,
CW! a,Cy (Ne.symm a),
uF! a b c d e f,Lx! a? a b c d e A7 (ca f),
Pt! a,(upd H a o),
vu! a,dU! t a,
CX!,PH G t,
Pu!,Q .EO H',
vv! a,I3! a .dK kvs,
Pv! a b,VW! a b rfl,
CY! a,a z hz,
vw!,Va! X.env.cells.lookup,
FQ! a b,(Ac a (Af b)),
dz! a b,a _ _ b h1 h2,
CZ!,dP! CH H W,
Ca!,KV kvs vs,
Vo! a b,C? (Bi a n b).map,
Vp! a,wpAny _ _ a _ _ s,
FR! a,aD p G H a,
vx! a b,(backTo a (starEach b X.env)),
uG! a b c d e f,⟨_,rfl,p,a,dx,_,rfl,b,c,d,e,f⟩,
JW! a b c,⟨_,rfl,a,rfl,D? b,c⟩,
Vq! a,OB a d es ep,
Pw! a b c d,⟨_,rfl,p,C,a,_,_,rfl,b,T.cl,T.nT,Dc _,_,_,rfl,rfl,c,_,d,Ex _,?_⟩,
JX!,(w?),
Px! a b,congrArg a b,
JY! a b,BC.keep a b,
d0!,λq=>s1!,
uH! a b c,Heap.SameBut a b c,
C0!,u=vs!,
C1! a b,⟨a,b,rfl⟩,
HK!,x.2.1,
JZ! a,λu=>w! a,
d1! a b c,((a b).map c).sum,
Py!,m?++new,
HL!,y.se++[(s,tick)],
C2!,Bl! Nat,
HM! a b,L? H a b,
C3!,(pv 7),
HN! a,E! kt.BB a,
MK!,[Bu!,"b"],
d2! a,xz H' a,
ML!,T! n,
Pz!,T! i,
HO! a b c d,a b (H! c d),
C4! a b c,Paired (a) b c,
C5!,h? r,
C6!,AB (x!),
uI! a,E7! a Qx!,
C7!,Nat->Int,
P0!,Cb p W',
C8! a b,CJ! a LR.nd b,
Vr!,VO! (pv 0),
d3! a,I8! l.find? a,
C9!,Array DictEntry,
DA!,RelV v u,
DB! a,(Bh C8 a Ah),
HP! a b,⟨_,rfl,a,b⟩,
MM!,Ay! H',
DC!,VH G t,
DD! a,a b hb,
vy! a b c d e f h,PQ! (a g) b c d e (Ck! f h),
DE!,DC.mp ht,
d4! a b,ZR (a (ZR b)),
DF!,Gb fi h,
HQ!,(Dh (GB L)),
DG!,NU P w H h,
DH!,Q H2,
DI! a b c d e,bv (CH! a b .BB c) d .BB e,
w6! a b c,⟨_,rfl,p,dx,_,rfl,hp,EN!,_,rfl,p,a,W,rfl,b,c⟩,
DJ!,(Df a? Ah Ew),
P1! a,.fields a,
Dk! a,(Gh! a),
MN! a,(by exact a),
Ja! a,⟨?_,a⟩,
Dl!,Ab! ?_,
Jb!,[Dj!],
Jc! a,[Q? a],
Dm!,p.1=k,
Jd!,(L.map (·.1)).getD,
Je!,(as.map Value.ref).toArray,
Dn!,AL! h,
MO! a,λr=>w! a,
Vs!,q.1=tb,
Do!,0<=g,
Dp! a,decide_eq_false (a),
Jf! a b,K!->a->b,
Jg!,c? c,
uJ! a b,Inv X AA a H' b,
Jh!,h? l,
Ji! a b c,(Aa a (Ck! b c)),
P2! a,q! e a,
Dq! a b c d,AO! (a b c pos) d,
Jj! c d e f g,CJ K C c d e EJ! f g,
Jk! a c d e f,CJ K C a c d FB! e f,
Jl!,I4! Bool,
Dr!,ZN m,
Jm! a b,Bn! a b e,
uK! a,PM! a r,
Jn!,BQ! H2,
uL! a,W.qs.set a E6!,
Vt! a b c,Bp! [a,b] c,
Ds!,Vals xs us,
Jo! a,⟨r,hr,a⟩,
Dt!,(.FQ o u),
vz!,VY! ht,
P3! a,Bp G.AG tb (a),
Jp!,(λy h=>FX.JS z? h),
P4! a,PZ! a ns,
v0! a b c,(Bv a DQ! b CC (ca c)),
Du!,Told G hs os rs,
Jq! a b c,Rd H a (b c),
Dv!,vt! al fi,
uM! a b c,PE! X.prog X.w X.A a b X.xe c,
MP! a,a=Az!-JE!+Dg t ls,
Dw!,G0 G ts,
MQ! a b,Binds K a b [],
v1!,(t (sk!)),
MR! a,PE! X.prog X.w A a Q E s,
d5!,(GB (L.take i)),
Dx!,(VJ O.sl O.fl).map,
d6!,(BI EE! (Y! iq) (BI CG! (Y! po) di!)),
Vu! a b c,(v6 a b c),
EX! a b,(S? a b),
P5! a,∀x c,vw!->a,
P6!,N? ?_,
MS!,l.1=n,
EY!,[Pk!],
EZ!,λx hx=>?_,
P7! a b,(a b).toArray,
Vv!,AL! z,
Ea! a b c,by have:=a;rw[b,c] at this;exact this,
MT! a,decide_eq_true (a),
Eb!,Bl! PyData,
Ec!,c? 1,
P8!,F? l,
Ed!,J! rfl,
Ee! a,E! s4 a,
Ef! a,E! sm a,
uN!,(I.tok _),
HR! a b c,CH! H2 a b c,
d8!,Q? b,
MU! a,X! s3 a,
Eg!,t3!+1,
Eh!,ZI hr,
Ei!,AB (B!),
d9! a b c,L? H a (.BJ (b c)),
MV! a c,a b o c hb,
v2!,Cl! (qs[j]?),
uO! a,ZC _ (Aj! a),
v3! a,L? cl.lookup y a,
uP!,FA! (G.AY<=EK!),
uQ!,FA! (G.AU<Bm!),
uR! a b c,((a/\dl! b)\/c),
eA! a,(Br hu W? a),
MW!,Cz qs,
uS!,[(SC,t1)],
uT! a,s6! t a,
eB! a b,DY.of (E! a b),
Ej!,λq=>(VM!,PJ!),
P9!,Aj G.AG tb,
MX! a b c d e,(Ac (CJ! a b c) (Ac d e)),
Ek! a b,AD.mpr ⟨a,b⟩,
MY! a b,C? a=C? b,
uU! a b c,PU! a s.heap b c,
El!,(ax P w),
eC!,(Ct G.hand tb),
QA!,s9! / 2,
QB! a b,(Ce (Ck! a b)),
Em!,EL! (show Wy! from hs) AR,
En!,AO! a ta,
Eo! a,dZ! a (EP X AA σ Q),
uV! a b c,tr! (a/\b) c,
Ep!,o! k Cr! e,
Eq! a,h a (Ai!),
Er!,vu! th,
uW! a b,Ve! s.heap.objs.size _ a b,
QC! a b c d e f,C4 (pl:=_) a b c d e f L! A7,
Es!,rs.Perm G.AJ,
MZ!,(JL al),
Et!,AE! (x==("__debug__":Str)),
v4! a,∀b∈a,b∈BL!\/t?,
v5! a b,w6! a S b,
Eu! a,Done p G H a (Q .EO),
v6! b,G.holds++[(b,a,[])],
Ma!,RelV x v,
uX!,eval e X.env,
v7! a b c,PP! a _ _ _ rfl rfl b c,
Ev!,(i.at S).ob,
Ew!,Pm p n,
Vx!,C7 p W,
QE! a b,DR! a H I b,
QF!,⟨Cd!,l.th.1,l.s,l.th,sh⟩,
eD! a b c,(Et PassesOwn.never rfl a b c),
Ex!,hf it (x!),
Ey! a,J! (BO! _ (E8! a)),
Mb!,o! Eh ZV ZV,
w7! a b,DV! dR! "World.house" Ep a b,
QG!,Z_++[(r.1,ha,SL)],
QH!,⟨fd,sd,[],[],0,.EO⟩,
v8!,(λ_ _ _ _ _=>Ff),
QI! a b,(i! a b),
FT! a b,⟨a,rfl,b⟩,
Jr!,S.2.1,
uY! a,H! es a,
FU! a,H! ZA a,
FV!,λp hp=>?_,
FW!,Ch! ?_,
QJ!,b∉BL!,
v9! a b c,{ G with holds:=a G.holds b c },
wA! a c,λb H4 =>v6 (b=true) a c,
Vy!,G.hand++[(G.num,G.AY)],
FX!,tb∈EH!,
Vz!,λH1 S1 LH=>?_,
FY! c,al=a++c::b,
FZ!,I0!++L,
Fa! a b,L? a b o,
Fb!,Ac! (K×Addr×Value),
eE! a b c,bv a b .dK c,
Fc!,Ad! H',
Fd!,SC+1,
Fe!,AB (w?),
QK! a b c,L? H a (.dK (b c)),
Ff! a,dP! C H2 a,
Fg!,Cn! AF,
QL! a b c,AM.mpr ⟨a,b,c⟩,
QM! a,(AD.mp a).2,
Fh! a,BK! rfl a,
Fi!,α->V,
Fj!,Ch ?_,
wB! a b c,VN! (a (Hr hr)) b c,
Fk!,Go AR!,
Fl!,c? dF.length+1,
Fm!,ZM hb,
V0! a,(Af (Ar (pv a))),
wC! a c,xL (a->c->Ad! h'.get?),
Fn!,dW! PV!,
V1! a,JF! e a,
Fo! a,Bq! e a,
eF!,df! ht,
QN!,(tk t),
Fp! a,EL K C a,
eG! a b,L5! W? a b,
QO!,bs.map .w,
Fq!,PM! H2 p,
eH! a b c,vq! 2 a b c,
Fr! c,m?++[c],
Fs!,X.A.units+1<cLine,
Ft!,Bn ol q.1,
wD! a,L? H' a (.BJ (L.map dw!)),
wE!,(.FQ o (.dK kvs)),
wF! a b c,Vh! tb a b c,
QP!,(s,tick,S),
QQ! a c d,xL (Gr!->a->c->d),
Mc!,(De hl t),
QR! a,a mainGlobals mg,
wG!,λ_ H Q=>Q true H,
QS!,NT (dL!),
QT! a,I! (D? (J! a)),
QU!,(g i j),
uZ!,(tC (a! 0)),
eI! a b c d e f,vy! a b c d e a? f,
eJ! a b c,aX a it d b c ep,
QV!,(List.filter_sublist.map _).subset,
Fu! a b,W.nsIn K mainGlobals a=A! (L4! b),
QW! a b c d e,uF! g.TW.cl a (b g) c d e,
QX! a b c,x.next hi a rfl b (λt _=>?_) c,
wH!,(BI Ci! (Op 0) (BI Dy! dg! [])),
eK!,(relabel sc X.env).names.lookup,
QY!,[Bu!,t4!,"n","turn"],
Fv!,Bo H p W D m n d A B al ys ad As,
wI! a,(K? (CC! _) (K? PL! (K? PL! (K? a L!)))),
eL! a,I.turned (t':=s.toks) (a) f0 f1 f3 f4 f5,
HS! a,Ne.symm a,
Fw! a,(show a from r),
eM! a,(show a from ry),
QZ! a,(λi ys H2=>a),
Qa!,(SC),
Fx!,(d+1),
Fy! a,a->Bool,
eN! a,⟨w?,a⟩,
V2! a,⟨B!,a⟩,
Fz!,Ab! G5!,
F0!,be AN,
ua! a,{ s with toks:=s.toks+a },
F1!,ii ?_,
Qc! a b,∀t∈C? a,b,
F2!,d7! JM!,
F3!,W.ls.length<=480,
V3! a,W.c+s? a,
F4!,y.se.length+1,
F5!,{ O with cnt:=Gw! },
ub!,(D7 _ _ _).2.2,
F6! a,a (j+1),
V4! a,a (G4!),
F7! a,E! s3 a,
F8!,Ad b3,
Qd!,I! (L2! ht),
V5!,Ad! h'.get?,
eP! a b,i! a (dz! b e),
wJ!,At Lz!,
F9!,decide_eq_false e,
Qe!,d? e1,
GA! a b,I3! a Bm b,
V6! a b,A? a UV b,
GB!,I4! L2.St,
GC!,y! rel,
GD!,Cn! BR.mp,
V7! a b,PG! a x b,
GE!,Nat->HS,
V8! a b,λz=>a (AH.mpr b),
V9!,c? W.LG.length+1,
WA! b,I9! b o,
GF! a,(J? (J? a)),
Qf! a b,q? Au xs a j b F!,
GG!,Ax! c,
Qg! a,ZR (ZR a),
Qh! a,L? a d o,
Qi!,ZT _ q,
GH!,vals1 r,
eQ! a b,q? Au xs a j i (b),
WC!,L2! z,
WD! a,xL (DS!->a),
GI!,CA K H a xs,
GJ! a,W.findIn K DT! a=A! none,
GK!,vs=[y?],
GL! a b,wP a b .dK [],
GM! a,NV X Gn a,
GN! a,HG X Gn a,
GO! a,Vb! AV a,
Qj! c,C3 (m?) n c,
Qk! a b c,s.heap.push (VS! a b c),
Ql! a b,[O? a,O? b],
Qm!,[Bu!,"h",Bk!],
Qn! a,a K C=true,
Qo!,Nw W W' W.ls L,
GP!,i.at S,
HT!,(Heap.SameBut.update ..),
eS!,AP! p .BJ [],
GQ!,AN! α β,
GR! a b c d,(Ac (dQ! a b (Or.inl rfl) c) d),
Qp! a b,(.ins C a (C0 b)),
Qq! a b,v0! Bt a b,
WE! a b,R v W' a ys b,
GS!,W.FK++[(n,xf)],
WF! a b,Av! (O? a) (O? b),
eT! a,uH! a s.heap h',
GT! a,∀p,Pi!->BH! p a,
uc! a b,Ci a (K? b L!),
Qr!,(ns.map V.int),
GU!,Gl X x,
Qs!,sp vs H Q E,
ud! a,⟨l!,0,0,h,o,l,a,[],[],[],[]⟩,
eU! a b c,⟨x.step hi a b st c,st⟩,
GV!,["starts",BG!],
GW!,(I.ok.hd hc),
WG!,(cX G a),
eV! a,Au! r a ht,
WH! a b,OT t a+Ib t b,
WJ! a b,(upd a o (.dK (LQ b))),
GY! a,W.nsIn K mainGlobals a=A! none,
ue! a b c d e,bv (CH! a b .dK c) d .dK e,
eW! a b c,(a hi (b) λt ht ne=>c),
GZ! a b,DQ 2 f fd a (b),
eX!,IB items.size 0 lo,
Ga!,KT H kvs xs,
Gb!,Ly! H' aa KW.map,
Gc!,w7! fH dH,
WK! a b,BA x q st a b,
eY! a b c d e,⟨W.po,W.pd,a,b,_,_,_,_,rfl,c,d,e⟩,
HU! a b,(z! a b),
uf!,(Wp!),
WL!,p.1.map,
HV! a b c,⟨a,b,E! hN c⟩,
HW!,o.data=.dict es ep,
HX! a,H! e a,
HY! a,H! ew a,
HZ! a b,(a,F? b),
Ha! a,! w! a,
WM! a c,CE! (a b o c e),
Hb!,Gh! ZA,
ea! a,W2! ZA a,
eb! a b c,a++Vo! b c,
WN! a,Addr×Addr×a,
WO! a,let⟨dx,e⟩:=x.ob;G1! a,
ug! a,if GE then a else q,
WP!,t∈FS,
WQ!,t.1=G.num,
Hc!,λ(q:T2×Addr×List T2)=>(VM!,s1!),
Hd!,q.1∉ts,
He!,q.1=th,
Hf!,λr E_=>?_,
Hg!,i1++y'::i2,
Hh!,Y! y,
Hi!,Ac! (Str×Value),
Hj!,Ac! (Str×Nat),
Hk!,C? fi.map,
WR!,.refl _,
Hl! a,I! (PS! a),
Hm! a,FM H1 a,
Hn!,x? ?_,
uh!,(CS.mpr rfl),
ed! a b,i! (Am e a) b,
Ho! a b c,o! a b (VR! c),
WS!,ca a?,
Hp!,AA! l,
Hq! a b,Rep K H a b,
Hr! a b,X_ K H a b,
Hs!,ZI hl,
Ht!,Af! a?,
Hu!,Af! R!,
Hv!,AC! Unit,
Hw! c d e f g,E5! c d e EQ! f g,
Qv!,(G0 G ts),
Hx!,Ag! ?_,
WT! a,Z! (DY.of a),
Hy! a,o? (a).map,
WU! a b c,DR! a rfl b c,
Hz!,I.list hq,
WV! a,(some (V.int a)),
H0!,RelV x u,
WW!,dT! (t∉ts),
H1! a,(Bh Dv a Ah),
H2! a,JB! 2 a,
H3! a,(Dz (pv a)),
H4!,EI! n,
H5! a,Ag (o:=.dK []) a,
ui! a b,L? H' a (.BJ (b V.ref)),
H6! a,(.ins C dx a),
WX! a,AN! Hp (a),
H7!,FC! hr,
ee!,FC! hq,
H8!,[Cy!,"_law_deed_here"],
H9!,xs[i]?=A! x,
IA!,EM! c,
WY! a,(eval a X.env),
IB!,C3 al n u,
IC!,I.DK.fresh (ZG _),
ID!,x.num hi,
IE!,DY K H a xs,
Js!,(Cg P w),
ef! a,Bp G.AJ tb (a),
IF!,FF! s1,
IG! a,Fg w9 a,
IH!,X.A.units+64<cLine,
II!,Bn AQ! q.1,
IJ! c,Bi (m?) n c,
IK!,(by rw[e] at z;cases z),
IL!,dU! a ta,
WZ! a b c,E4! (RecAt a) b c,
IM!,KN m l,
IN!,b∉ys.flatMap C1,
eg! a b c,PE! prog w A a b E c,
IO!,Vq! s.heap,
IP!,x.wg.num i.2,
Wa! a b,d1! List.range a b,
IQ! a,(ZS (ZR a)),
IR!,d2! s',
IS!,d3! GE,
IT! a b c d,⟨_,rfl,a,_,b,c,d⟩,
Wb!,uK! H2,
uj!,uL! h.toNat,
uk! a b,(Iz! (CA.of a) (tk! b PL!)),
Wc! a b,Lz a P w K mg base N qual scope f b A outer s H E,
IU!,AO! o td,
wK! a,v4! (BQ a),
wL! a,v5! h a,
IV!,v6! Ah!,
ul!,uJ! EV s',
Wd! a,(BX (A_ e) a),
We! a b,a it d i b ep,
um! a,Fp p W ys W' a H,
IW!,(Cg X.prog X.w),
IX!,λi=>as.getD i 0,
Qy! a,(upd H a (.dK (kvsOf l))),
IY!,(rs.map (·.1)).Pairwise IY,
IZ!,(Jx p d),
un! a b,GM a ⟨b,x!,wn,h0⟩,
Wf!,vo! TW.cl MH.mt GH HC MH.bd d!,
Ia! a,⟨z,hz,a⟩,
Ib!,∃z,v3! z,
Ic!,B<=B'+1,
Id!,A'<=A-1,
uo!,(K w.params),
Wh! a,Int->Int->a,
Ie!,Ac! (EG!×Addr×Value),
If!,AO! b tb,
Ig! a,Ae! (Af (Ar (a))),
Ih! a b,Ae! (Ac (Bf a) b),
up! a,h! x a st,
Wi! a,⟨_,a,λ_ z=>I2! z,λ_ _ z=>I2! z⟩,
Ii!,L7! xs ys,
Wj!,b∈QD As,
uq! a b,Wg D m BM! sh a b,
ur! a b,∃W:Nat->Nat->G7!,(∃m,W 0 m [] a)/\b,
Ij! b,DU P w H h a b,
Wl! a,v7! x (d? ex) a,
us! a b,a g s b u G.AU MG!,
Wm!,Ee (w?) rfl,
Ik!,EX H o O,
Il!,b? 1 fH dH BJ! Er,
ut! a b,W.excIn K a b "ValueError.__new__"=true,
eh! a,∃z,L? cl.lookup a z,
wM! a b,da! "is_near" "House.is_near" Kd a b,
Im!,En MH.fn T TW,
In! a,(E (Y! a) none H),
ei! a,(a b' o' e' IX),
wN! a,EJ X.prog X.w Kx X.mg X.base a k f fd ps sp,
ej! b c d e f g h,b (K:=K) (a:=c) (xs:=d) (e) f (g) ?_ h,
uu! a b,a (PO! b ?_),
ek! a,(E1! a),
el! a,(λi ys H2 _ h=>a),
Jv! a b c d e f g,a->b /\ ((c i H2/\d)\/(e i H2/\∀x H3,f i H2 x H3->g)),
Jw! a b c,⟨σ,a,b,c⟩,
wO! a b,r? (C? (backTo a (starEach b X.env)).any),
Jx! a,H! z a,
Jy! a,¬BC! a,
em! a,∀p∈Wg!,a,
uv! a,N? (Po! a),
Jz!,λm=>?_,
J0!,BE! ?_,
J1! a,by exact a E9!,
en! a b c,(uV! a b c).toList,
J2!,tb.1≠G.num,
J3!,t=Ah!,
J4!,q.1∈R,
J5!,sB ?_,
J6!,(GB (L.take i)).flatMap,
J7!,(Al G (ts.take i)).holds.filter,
eo! a b d e,{ W with qs:=t5! a b,c:=d,ls:=e },
J8!,W.ls++uS!,
J9!,l.kind=wE,
ep!,y.fi++[(s,tick,S)],
KA!,W5.c+1,
KB!,Bl! Expr,
KC! a b,L? h'.get? a b,
KD!,(pv 8),
KE!,Y! D,
KF! a b,a (B!) b,
uw! a,Cj! h'.get? a,
KG! a,Cj! a ob,
KH! a,E! hx a,
er!,C? l.map,
KI!,C? se.map,
KJ! a,AN! a Heap,
KK!,AF d.symm,
KL!,h? s.heap.objs.size,
KM!,I1! Ix,
KN! a b c,absurd a (b c),
KO!,i? ad,
KP!,Go! Addr,
KQ! a b,L2.Mk K a b,
et! a b,I3! a Dt b,
KR!,ZI hb,
KS!,ZI ht,
KT! a b,Ae! (Ac a b),
ux!,EF! AJ!,
KU! a,(Sum.inr a:Key),
KV!,y! th,
KW!,ZR ?_,
KX! a b c d e,a->b->c->d->Gs! e,
KY! a b,X? a (Vd! b),
eu! a,Av! a (cf h),
uy! a b,PH! a b V.ref,
ev!,I5! n,
KZ!,Nat->Addr,
Ka! a,BK! a (DN _),
Kb!,I.tuple hq,
Kc! a,Pf! a=[],
ew!,AE! (a==sysModules),
Kd!,Cn 2 _,
ex! a,I8! a Lz!,
Ke!,Array Nat,
Kf!,dT! Ps!,
Kg!,AO _ _,
Kh! a,JB! 4 a,
Ki!,Aj G.AJ tb,
Kj! a b,VS! a .fields b,
Kk! c,(m?++[c]),
ez! a b,dZ! a (b),
Kl! a b c,A8 a (Y! b) c,
Km!,(some v),
Kn!,λq=>(VM!,q.2),
Ko!,λq=>(VM!,s1!),
Kp!,0<q.2,
Kq!,(Ca 0),
Kr! a b,EO! [a,T! b],
e0! a b c,b? 1 a b Gp! c,
Ks!,C3 al n 2,
Kt! b,G2! a b,
Ku!,ls.map .w,
e1! a,eval a X.env,
Kv! a b,s8! a e b,
Kw!,PW! Ni,
Kx! a b c,vq! 1 a b c,
uz! a b,Pc! a CW b,
Ky!,[(Bu!,0)],
Kz! a b c d,upd a b (.dK (c d)),
K0!,FI! E_,
wP! a,L? H' a (.BJ (L.map MI!)),
K1!,λq=>! Bn G q.1,
u0! a b c,(upd a b (.dK (kvsOf (c)))),
K2!,Nw W W' (I0!) L,
K3! b c d,b a=some (seqObj SB c d),
e2! a b c d,JR! a b c (ys++d),
K4!,BO g0,
K5! a,Q (a! a) H,
K6! a,K? a ih,
e3! a,Pp! a e,
K7! a,Bi a n u,
K8!,Pt! a,
u1! a b c,A0! (AP! a Bm b) c,
wQ! a b,Iz! (CA.of a) (wI! b),
e4!,P9++(Q++R),
K9!,[(BG!,1)],
LA! a b,Ag (o:=.BJ (a V.ref)) b,
LB!,Bn ol t,
e6! a,VU! (t9! R!) a,
e7!,(model prog w),
LC!,uO! h,
u2! a b,uW! a (q _ b),
e8!,Al G (ts.take i),
LD!,(Br hu a? Be),
LE!,wD! y,
LF!,A.units+1<cLine,
fC! a,c? (putK a (Z! s) (Op tick)).length,
LG!,Led L t,
fD!,(p.getD i 0),
LH!,AB (L8! d),
fF! a,(ZC _ (DB.mpr a)),
LJ! a b,(Bj a (Af b) A5),
LK! a,wpAny M A a Q E s,
LL!,Num W',
wR! a,d.canLay0=true/\d.depth<=a,
LM!,λq=>Q? q.1,
u3! a,AT (a z (Aj! hz)),
fG! a b,k _ a λb' o e h1 h2=>b,
u4! a,J! (Z! (a h)),
LN! a b,eZ a (b O),
fH! a,Bn! kq.BB LF.BB a,
fI!,Yo p W H x,
LO! a b,Wl C m BM! sh a b,
LP! a,uB! JQ! Gm! a,
wS! a c d,tt (dd! (A! x)) a (wA! c d),
LQ!,BC H' as ts,
LR!,λr=>Av! r.1 BN!,
LS! a,wF! a hb L6!,
LT!,LL.HQ s g n u t S,
wT! a b,DU! (uU! H d a) b,
LU!,(λt h=>G?),
u5! a b c d e f,a (s:=Ix) b c d e f,
LV!,{ O with cnt:=Gw!,dv:=MJ! },
LW!,(E2 Ae),
LX! a b,.BJ (DY.of a) b,
LY! a b c,Ai a (Ai b c),
LZ! a,EX H' o a,
fJ!,AT! (Value.ref d==Value.none),
Lb!,([]++[Bo! SC]),
fK! a b c,0<(a al b c).length,
Lc!,VZ! l1 a,
Ld!,VZ! l2 b,
wU!,IB items.size items.size hi,
u6! a b c,AO! (.Call a b [] pos) c,
Le! a,QG qs ls a,
Lf!,λq=>(tk (k q),f q),
u7! a b c d e f g,Dm (te:=a) (caps:=b) rfl c rfl ZV rfl ZV rfl d e f ZV v8! (VO! g),
u8! a,DS.t (k:=tk th) a ht,
Lg! a b,L? (a:w5!).lookup y Aa!\/L? (b:w5!).lookup y Jt!,
u9!,G.AG++[(Ah!,PN!)],
Lh!,(De G.holds ta),
Li! a,(qs.set l.th.1.toNat (q,G7 G l.th sh a)),
fL! a b c d,VO! (Dq (Aw a b c d)),
wV! a b,da! "need_in_hand" "House.need_in_hand" Hn a b,
fM! b,b a=some (.ins C dx fs),
Lj!,CH! H3 fa Bm Pn!,
Lk!,starEach (e::es) X.env=(false,uX!)::starEach es X.env,
fN! a b c,Lx! a T.cl M1.mt G1 hr M1.bd b c,
fO! a b,(envOfC qual a s.heap.objs.size f b),
Ll!,Pw! FC HM FC HM,
wW! a b,CJ K CP "put" "Post.put" Li tm! a b,
fP! a,uR! (jH W h) NH (∃q G,pi/\a),
fQ! a b,EP X AA σ Q a b,
Mh! a,Paired a,
Mi!,(vs++RJ),
Mj!,(Py!),
vA! a b,v6 (u=1) a b,
Ml! a b,B4 (kvsOf a) b=none,
Mm! a,(l.map a).Nodup,
Mn!,λ_=>V.bl true,
vB! a b,⟨vn! a,b⟩,
Mo! a b c,⟨eB! a b,c⟩,
Mp! a b,⟨a,λz=>b⟩,
Mq! a b,H! (db! a) b,
Mr!,b∈BL!,
Ms!,λe=>?_,
Mt! a,S? a z,
Mu!,x=Pz!,
Mv!,[dn!],
Mw! a b,Cf! (¬a) b,
Mx!,D5! ?_,
My!,b∉P0!,
vC!,(us.map (·.1)).take,
vD! a,DM! ZE a,
M0! a,DM! CO a,
wX! a,O5! (∀t∈FS,a),
M1!,G.AJ.length<=500,
M2!,λt ht e=>?_,
M3!,a++z::b,
M4!,G.AG.length<=500,
M5!,λl h=>FK!,
M6!,fi++[(s,tick,S)],
M7!,y.fi.length+1,
M8! a b,(a MA! b),
M9! b c,b=A! (c,a,hl),
NA! a b,L? h.get? a b,
NB!,Ac! (T2×Addr×D!),
NC!,F? q,
ND!,I! z,
NE!,[Bu!,Dy!],
NF!,[Bu!,FP!],
vE! a b c,xz (upd H a b) c,
vF! a,D? (E8! a),
NH!,h? a,
NI!,I1! s',
vG! a b c d e,CJ K C a b c HF! d e,
NJ! a b c d,FF K fU! a b c d,
NK!,(j6 g),
NL!,BI! Hp,
NM!,BI! g!,
NN! a,X? a (by rw[z];simp[BQ]),
NO!,o? G.holds.map,
vH! a b,s? (SZ a b),
Wu! a,(Prod.mk.inj a).2,
NP! a,BK! h a,
NQ!,α->β,
NR! a b,HT.lexLt a b=true,
NS!,JF W g q G,
NT!,[Bu!,"h","b"],
NU!,Ax! ZV,
vI! a,dT! (t∉a),
NV! a,ZR (EY a),
vJ!,JA! h.get?,
NW! a,(Bh Gu a Ah),
NX!,[Bu!,"b",DP!],
NY! a,JB! a LU.nd,
NZ!,JD! H1,
Na!,Q v H',
vK! a b,q? Au xs W.qs j a (b),
Nb! a b,CA.of (E! a b),
Nc!,db! ij,
Nd!,[Bu!,"h","g","b"],
Ne! a,D0! a n,
Nf!,X.N[i]?=A! x,
Ng!,⟨us,[]⟩,
Nh!,⟨HC!,[]⟩,
vL! a b,Ao! (a (As! b)),
Ni! a,Ad (G3! a),
Nj!,VV! n,
Nk!,Vals vs us,
Nl!,Ac! (Int×Addr×HS),
Nm!,Bs! h,
Nn!,PW! Nh,
No!,(λy h=>JS z? h),
vM!,G.AJ.length+_<=_,
Np!,ub! t ht,
Nq! a b,bv H' a .BB b,
Nr!,MB! Ei,
vN!,(VM!,PJ!),
Ns!,[Bu!,"h",JP!],
Nt!,(.FQ o (.dT kvs)),
Nu!,l[i]?=A! q,
Nv! a,Px! List.length a,
Nw!,AO! e te,
Nx! a b c,Au! a _ (Al! (E8! b) c),
vO! a b c,HG!->a->b->c->DW!,
Ny! a,(K? a L!),
Nz! a,(JI (JI a)),
N0! a b,ZR (a b ?_),
vP! a c,Vt! d8! a c,
N1! a b,QS X (compareOp a) b,
N2!,K.In s.heap,
N3! a,xL (Gr!->a->Ad! H'),
N4!,eA! d!,
vQ! a b,F6 X (D3! a) b,
vR!,(AM.mp nd).2.2,
N5!,(W.qs.set h.toNat E6!),
N6!,V->C!->JK!,
N7! a b c d,eD! (a b) c d,
N8!,uY! Vf!,
N9!,W.ls=l1++(num,t)::l2,
wY! a b,q? Au xs a j j (HD! b hj),
OA!,FD! S HP,
OB!,x.RT hB,
OC!,ua! 1,
OD!,PA X Pd! t,
OE!,CL λq _=>?_,
vS! a b,(Iz! (CA.of a) (Fw b)),
OF!,x.sd i q G hi,
OG!,ud! r',
OH! a,(El rfl g.T.range (ca a)),
vT! a,a X.env.scope x,
OI!,(HE.mp ht).1,
OJ! a,C3 a n u,
OK! a b c,upd a b (.BJ (c V.ref)),
OL! a b c,QS X (compareOp a) (b c),
OM!,wK! G',
ON!,wL! ?_,
OO!,Binds Kx fd ps ds,
OP!,wN! CX,
vU! a,∀b u,a->JA! h'.get?,
vV!,λkv=>w! (kv.1=k),
OQ!,λq=>(([q.1.1,q.1.2]:j!),q.2),
OR!,wS w? w?,
vW! a,VO! (Dq (Es a)),
OS! a b c d,ZR (a b c (ZR d)),
OT!,C? G.holds.map=EH!,
vX! a,dm! H' a as.map V.ref,
OU!,[Bu!,"b",DP!,"mine"],
OV!,λt=>Av! t.1 l!,
OW! a,λvs H Q _=>a vs H Q E0,
OX!,G.AG++[(Ah!,0)],
OY!,(M8 ry),
OZ! a b,Found (a b) ts,
Oa! a,Ok a (n+1),
Ob!,[Bu!,t4!,"n"],
Oc!,(a! i t),
Od!,Vals RJ ds,
Oe!,(bY H tb),
Of!,[Bu!,"h",JP!,G8!],
Og!,⟨Z?,l.th.1,l.x,l.th,sh⟩,
Oh!,W i m ys H2,
vY! a,d9! a as.map V.ref,
vZ!,λv H5=>PM! H5 p/\ys.length<sizeLine/\∃m',m'<m/\W KE m' dh! (PK! H5 p dh!),
va! a b c d,a _ _ b (S.tup_ne c).1 (S.tup_ne d).2,
Oi! a b c d,⟨_,_,a,b,c,d,_,rfl,?_⟩,
vb! a,putK a (AD! s) (Y! xs),
wZ! a b,uc! (An (λ_ _ h=>a) pr) b,
Oj! a b c,ue! a b [] c [],
Ok!,I3! l .BJ xs,
vc! a b,pc (I8! a Vs!) tb b,
wa!,[⟨Ez! x px,iter,ifs,0⟩],
Ol!,wM! f1 g7,
Om! a,Lw (λp hp hk=>a) h,
On!,Jv CX X E,
Oo!,Eo hs (Bs os ts),
vd!,(start N vs),
Op!,(putK I.ss (Z! h) v),
ve! a,(ls++(Cd a rs).map (Jg l!)),
fT!,(putK kvs k v),
wb! a,du! ⟨rfl,a,_,c⟩,
vf! a b c d,PP! p a _ rfl b c _ d,
Oq! a,cE p H Q E a,
Or! a b c d,(a i H/\Pb! H)\/(b i H/\∃N:c,(∀EV H',N EV H'->∃m',m'<m/\W KE m' EV H')/\∀x H',d i H x H'->g x σ H' λQA H2=>tb { D with nx:=N,ct:=N,bk:=D.nx } QA H2),
vg! a b,⟨a,I.os,I.bare,I.base,I.loc,I.cell,I.free,I.JG,b,I.DK,I.len⟩,
Os!,Lk al n fi se O,
vh! a b c d e f g h i,⟨_,rfl,_,rfl,p,a,b,_,_,rfl,c,d,e,f,g,h,rfl,i,_,rfl,?_⟩,
wc!,(RP (Tv K) (Ca 0) uZ!),
vi! a b c d e f,W.fnOf a b c d e f kV doc pm an D_ ct,
Q7! a,Value.type a,
Q8! a,FX.EJ.aS a,
Q9! a,W i m σ H -> a,
RA! a b c,uq! a b/\c,
RB! a,(Jo a n u).2,
RC! b c,⟨λa xs e=>b,c⟩,
RD! a,⟨fz,a⟩,
RE! a,H! a q,
RF!,b∈Vx!,
RG!,λb o e n hb hx=>?_,
RH!,be ZF,
RI! a,∃EV H',ul!/\a,
RJ! a,λi j=>a! (a),
RK! a b,Mk! (a σ H b),
RL!,Gf! MM!,
RM! a,λo e=>o! f e a,
RN! a,λh' eb=>x? a,
RO! a b,∀i σ H,a->Pv i σ H->b,
RP!,λv hv=>?_,
RQ! a,by simp[Ls! a],
RR!,(as.map Value.ref).getD,
RS! a b,ga a AE b,
RT!,(Al G (ts.take i)).holds,
RU! a,DM! a ZF,
RV! a,λb o e _=>a b o e,
RW!,EC! ?_,
RX!,tb.1=G.num,
RY!,ta.1=G.num,
RZ! a,s3! (P3! a),
Ra! a,λr=>Q? a,
Rb!,(Al G (ts.take i)).AG,
Rc! a,W.c+c? a,
Rd!,λb' o' e' IX=>?_,
Re!,wt / 2,
Rf!,Aj G.AJ l.th+l.x,
Rg!,vs[i]' F!,
Rh! a,{ W with qs:=uj!,c:=c,ls:=a },
Ri!,λr:Int×Int=>r.1,
Rj! a b,L? s.heap.get? a b,
Rk! a b,K45F.PR (a b),
Rl!,(pv 10),
Rm!,c? W.qs.length,
Rn!,F? ka,
Ro! a,J! (eV! a),
Rp! a,E! kq.BB a,
Rq!,C? O.sl.map,
Rr!,Sum.inl h,
Rs!,decide_eq_true h,
Rt!,D? Ab,
Ru!,i? t,
Rv!,i? o,
Rw!,i? d,
Rx!,i? l,
Ry! a,q! a L6!,
Rz!,d? ev,
R0! a c d e f,CJ K C a c d MK! e f,
R1! a b,I3! a Cb! b,
R2! a b c d,BC.keep a (b c d),
R3!,Af! Gv!,
R4! a,KB Dy! a,
R5! a,KB Ci! a,
R6! a,KB DN! a,
R7! a,KB Bj! a,
R8! a,KB BF! a,
R9! a,KB BG! a,
SA! a,KB Bk! a,
SB!,Cl! (W.qs[i]?),
SC! a b c,FX.EJ.aS (a b c),
SD!,AD! h,
SE! a,SZ a i,
SF!,Nat->Bool,
SG! a,wS a rfl,
SH!,ZC _ uh!,
SI!,α->Bool,
SJ! a b c,Co! a b UV c,
SK!,bi true,
SL!,0<=q.2.AY,
SM!,BG.mp z,
SN!,KF q,
SO! a,L? eK! y a,
SP!,dT! (t∉R),
SQ! a,(Bh E7 a Ah),
SR!,(as.map V.ref),
SS!,Ay! H1,
ST! a,(Gq (pv a)),
SU! a c d,xL (Ad! a->c->Ad! d),
W5! a b,Ly! a b KL.map,
SV! a b,An (λ_ _ r=>a) b,
SW! a b,An (λ_ _ h=>a) b,
SY!,dW! pt,
SZ!,dW! ML!,
Sa! a b,Al! a (hd σ H b),
Sb! a b,o! k (TD a) b,
Sc!,([]:D!),
Sd!,Pv 0 σ H,
Se!,II.mp E9!,
Sf!,(Ca 1),
Sg!,VV! hb,
wd!,VV! np.symm,
Sh! a,AP! l .BJ a,
Si! a,VN! C6 a Ah,
Sj! a,EL K CW a,
Sk!,x.hl q hq,
Sl! a b,s8! Z! a b,
Sm! a,B4 (kvsOf a) (Sum.inl k:Key),
Sn! a,Bt! UV a,
So! a b,ZR (a (ZS b)),
we!,PO! ho ?_,
Sp! a b,Jr (k:=a) (f:=b),
Sq! a,AV (AO _ _) a,
Sr! a b,b? 3 f fd a b,
Ss! a b c,a (VS! b .fields c),
St! a b,o! f a (VR! b),
Su! a b c,a S=some (seqObj SB b c),
Sv! a b,(List.range a).map b,
Sw!,l1++(n,t)::l2,
wf!,dq! y.I.fs,
wg!,dq! y.I.cs,
Sx! a,A6 (bn a),
Sy! a,HH! p a,
Sz!,ty! h,
S0! a,ty! ⟨ob,a⟩,
S1! a,ds! ta a,
S2!,vv! a,
S3!,vv! d,
S4! a,(a d kvs o),
S5! a b c,JW! a (E8! b) c,
S6!,(c,k1),
S7!,uI! sc.names.lookup,
S8!,Cn k A,
S9!,Cn k X.A,
TA!,Ok ol n,
TB! a b,Ag (o:=.BB (a V.ref)) b,
TC!,P1! vs,
TD!,xs=[y?],
TE!,E! k.BB e2,
wh!,P2! True.intro,
TF! a b,QS X (binaryOp a) b,
TG!,(Bp G.AJ tb _),
TH!,P4! vs,
TI! a,(a (·.1)).Perm (rg m),
TJ! a b,Vu! a b [],
TK!,2 ^ 62,
TL! a b c d e,CJ K CI a b c UV d e,
TM! a,CL! ty (λy H2=>a),
TN! a,(Bh Dv Ah a),
TO! a,W.findIn K (Y! CW) a=A! none,
TP! a b,PY! Be d! a b,
W6!,(Ej kvs k),
TQ! a b c d,eE! (AP! a .dK (Vi! b)) c d,
TR! a,eG! d! a,
TS! a b,eH! a Gv! b,
TT! a,λr=>(EI! r.1,a),
TU!,(I.DK.fresh (ZG _)),
TV! a,eL! (λb ob hb e=>a),
TW!,AllBare s'.gens,
TX!,eN! w?,
TY!,(Oy K),
wi!,jp hz dy!,
wj! a,eP! h1 a,
wk! a b,eQ! a (D6! (CK! b)),
TZ!,Nv W W' (I0!) L,
Ta! a,Up lt p a,
Tb!,eT! d,
Tc! a b c d e,(x.of a rfl rfl (Ag! eF!) (λq hq t ht=>b) c d e).tk,
Td! a b,⟨_,rfl,_,rfl,a,_,rfl,b,?_⟩,
Te!,Dk W.qs,
Tf! a,by rw[A9,a,AE],
Tg!,ug! (q.1,v),
Th! a,Q (a! a) H',
W7! a,(Bp G.AG tb a),
Ti! a,ui! a as.map,
Tj!,Ai s1 s2,
Tk!,Br! f ?_,
Tl! a,DS H d JU! a,
Tm!,um! EN,
Tn!,up! qual,
To! a,jE a g e cls,
Tp!,Pv i ys H2,
wl! a,us! .HQ a,
Tq! a,ut! a [EF! "ValueError",EF! "Exception",EF! "BaseException",EF! "object"],
Tr!,(d,k2),
Ts! a b c,L? a d (.dK (b c)),
Tt! a b,Pv (i+1) a b,
Tu!,Au! _ CM! rfl,
Tv!,Vals xs its,
Tx!,wP! x,
wm! a b c,wQ! a (uk! b c),
Ty! a,Bp a tb v,
wn! a b c,uG! C a T.cl b c ?_,
Tz! a,eJ! a i n,
wo! a b c d,eU! a vz! (eW! b c d),
T0!,wR! 20,
T1! a,(.bl (decide (a))),
fX! a b,wT! a (I.DK d _ b),
T2! a,Cp m g n a,
T3!,Pr p W ys H H',
T4!,(show False from r).elim,
T5! a,o! kp v1! a,
T6! a b,An (λ_ _ e=>Am! a) b,
fY!,(iN (List.range n)),
fZ!,(U6 X AA E),
T7! a,ur! eS! (∀i m ys H2,a),
T8!,wO! pos es,
wp! a,(Gr hu W? a Aw!),
T9! a,Bd x q st a,
wq! a,te (dd! (A! x)) H4 a,
UA! a b,∃W:Nat->Nat->a,(∃m,W 0 m σ H)/\∀i m σ H,b,
UB! a b c d,a hi b (c) (Wt! d) Gz!,
UC!,(F8 hs JI! rs).map,
wr! a,eI! j7 HC g.mC1.mg g.mC1.fn.kp g.mC1.bd a,
UD! a b c,⟨a,λi H x H'=>H'=H/\b,c⟩,
UE! a,λ_ _ _ _ _ st h=>a st h,
UF!,wU!-eX!,
UG! a,∀σ H,Pv a σ H->Pb! H,
UH!,No (I2! hq),
UI! a,λr=>(r.h,a,r.S),
UJ!,Aj G.AG b+sh,
UK! a,(eval a env),
UL!,xz H1 s1,
UM!,[Bu!,FP!,DP!],
UN!,W.qs.set i E6!,
UO! a b c,AO! (.Call (W4! o a apos) b [] HR) c,
UP! a b,(BC.keep (EI a) b),
UQ! a b,PE! prog w A a b E s,
UR!,Cj! H (.BB (k.map kV)),
US! a b,ZR (GF a Db b),
UT!,t8! FL! O.fd,
UU!,t8! JS! O.sd,
UV! a b c,PE! prog w A a (b) uf! c,
UW!,∃t,u=Value.int i t,
ws! a,g a σ H λQA H2=>tb { D with nx:=JH! Pv,ct:=JH! Pv,bk:=D.nx } QA H2,
UX! a b,DQ 3 f fd a (b),
UY!,eM! (u=Value.ref b),
UZ! a b c,(putK (a b) (tk Ah!) c),
Ua! a b d,eY! W.c W.ls a b d,
Ub! a,a (λz=>Av! z.1 q.1),
Uc!,FV H p I,
Ud! a b c,un! (λi m σ H=>m=a/\b/\Pv i σ H) c,
Ue! a,wS! H3 a (∃m',m'<m/\W KE m' ys H4),
Uf!,wV! f2 gz,
Ug!,wW! f3 d3,
Uh! a b c d e f,⟨_,rfl,p,C,a,_,_,rfl,b,T.cl,c,d,_,rfl,e,_,rfl,f,?_⟩,
Ui!,rowsOf (GB (L.take i)),
Uj!,[Ak! kind,T! s',T! g',Os],
wt!,c? 10 ^ (59:Int).toNat,
wu! d,[Vk!,Vl!,(c,d)],
Uk!,λe'=>h2 (by rw[e'];simp[BQ]),
Ul!,TE->TE->TE,
Um! a,(EM (ha pos AA s σ H _ I h) a),
wv! a b,da! "need_near" "House.need_near" Kc a b,
Un! a,(ne e (λ_ z=>Vv!) a),
Uo! a,F.ok a (λvs H Q E h=>?_) (λD_ A outer s H vs Q E hr h=>?_),
Up! a c d,(ls++[⟨a,l!,c,b,d⟩]),
Uq!,(Ad λz=>by rw[z,e] at q;cases q),
Ur!,r? (behindInMarks op b),
Us! a,PE! X.prog X.w X.A a Q E s,
ww! a,NZ (RF G.holds) a (startT G) [] R,
Ut!,#[a! lo t,a! hi u,a! 1 v],
Uu! a b c,∀C s1 H1 fp AA,a (Y_ X sc cl C tM! s1 H1 fp AA) b c,
Uv! a,(Iw rfl rfl a Jk),
Uw! a b c d e f g h j k,I! ⟨q,G,i,q,a,b,c,d,e,f,g,h,j,k⟩,
Ux! a b,a b' o' b (λz=>IX (ZB _ (by rw[z];simp[C7]))) λz=>IX (ZB _ (by rw[z];simp[C7])),
Uy!,(upd H5 d (.dK (L.map MD!))),
Uz!,OC cmp lt n s,
U0!,Cp m h N 1,
U1! a,(⟨Bg!,a,r.1.1,r.1,r.2⟩:LT),
U2! a b,I! ⟨a,JH! Pv,λEV H' p'=>⟨b,B!,rfl,KH,p'⟩,λx H' y=>?_⟩,
U3! a b c d,(Cv (tC (CC! a)) (Cv b (Cv c (Cv d Ia)))),
fc!,(Ht (ns.map V.int) (some 2) (some 17)),
U4! a b,Turn P w K tg a [it] it (λi h=>b),
XA! a,a Gl!,
XB! a b,a (MO! b),
XC! a b,(W2! a b),
XD!,(fd!),
XE! a,(At a),
XF!,(v?),
XG!,(QG!),
XH! a,K!->a,
XI! a,l.kind≠Bg!->a,
XJ! a b c,dP! CH a b/\c,
XK!,v=Os,
XL! a b,v6 (c=true) a b,
XM! a,(a b o e).1,
XN! a c,⟨λb v e n=>a,c⟩,
XO! a,⟨a,hi⟩,
XP!,λb u e=>?_,
XQ! a,H! e1 a,
XR!,b∈L0!,
XS!,x≠"__name__",
XT! a,S? e a,
XU!,x=VX!,
XV!,x=P8!,
XW!,y=T! j,
XX!,o.cls=ux!,
XY!,Ge! (DV e),
Xa!,[Bo! SC],
Xb! a,Gf! (Ub X AA a b),
Xc! a,(λv z=>by rw[a] at z;cases z),
Xd! a b,λσ H R=>a σ H λx H1=>b,
Xe!,Gh! CD,
Xf!,sc.kind=.function,
Xg!,v+DZ!,
Xh!,q.2.2.2.1.take,
Xi!,#[VX!],
Xj! a,DM! Jq a,
Xk!,λk hk=>?_,
Xl!,k q≠t,
Xm!,t∈Vy!,
Xn! a,∀t∈EH!,a,
Xo!,G.hand.length<=500,
Xp! a,{ G with AU:=Bm!,AJ:=a },
Xq!,λc=>?_,
Xr!,P9!-wt,
Xs! a,ey! a D1!,
Xt!,Aj G.AG l.th-l.x,
Xu! a,∀(j:Nat)(q:Addr)(G:BZ),v2!->a,
Xv!,Pp G.AJ tb+x,
Xw! a,(l.map a).sum,
Xx!,W.qs.length<=12,
Xy!,{ W with EF:=AK! },
X0!,λr:Int×Int×HS=>r.1,
X1!,λr:Int×Addr×KC=>r.1,
X3!,Bl! FR,
X4!,Y! v,
X5!,Y! x,
X6!,Ac! (Addr×C!),
X7! a b,List.Pairwise.imp (a) b,
X8!,J! ht,
X9! a,J! (x? a),
YA! a,J! (D? a),
YB!,decide_eq_false h,
YC!,DC.mp h,
YD!,BD.refl _,
YE!,I! rfl,
YF! a,(AM.mp a).1,
YG! a,i! a x.dr,
YH!,decide_eq_true e,
YI! a,q! AE a,
YJ!,d? ea,
YK! a,Ck! R! a,
YL! a b,A? a AS! b,
YM! a,KB O7! a,
YN! a,BH! s.heap.objs.size a,
YO!,Cl! (W.qs[g.toNat]?),
YP! a b c d e,E5! a b c CP! d e,
YQ! a,dP! C H1 a,
YR!,knd.draws k,
YS!,Cn! BN.mpr,
YT!,o? l.map,
YU!,o? rs.map,
YV! a,E7! X.mg a,
YW! a,inClass (top 19) a,
YY!,(u9!).map,
YZ! a,wS a k,
Ya! a,wS a Vz!,
Yb! a b,CJ! 3 a b,
Yc! a b,VN! O7 a b,
Yd! a b,VN! Zv a b,
Ye!,E8! S.hs,
Yf!,CK! hj,
Yg!,AE! (d==sysModules),
Yh! a,(some (D3! a)),
Yi! a,I8! G.holds.find? a,
Yj! b,I9! h'.get? b,
Yk! a,JB! 3 a,
Yl! a b,EM (a AA s1 σ H1 _ I1 q1) b,
Ym! a b,(Bj (Es a) b A5),
Yn!,(ZB _ m),
Yo! a,Ag (o:=.dT []) a,
Yp!,[(SC,t)],
Yq! a,PN t l+Dg t a,
Yr! a b c,dX! a b L c,
Ys! a,(a++[QF!]),
Yt! a b,PO! a (λv s1 ⟨x,H1,I1,r1,q1⟩=>b),
Yu! a,JF! c a,
Yv! a b c,Cq! a b r c,
Yw!,db! mC,
Yx!,GJ E9!,
Yy!,[Cy!,JT!],
Yz!,[Cy!,uC!],
Y0!,U7!=A! x,
Y1!,EM! rfl,
Y2!,Jt G.hand tb,
Y3! a b c d e f g,(Ac a (Ac b (FM! c d e f g))),
Y4! a b c,(Ac a (Ac b (V0! c))),
Y5!,df! h,
Y6!,PS! rfl,
Y7!,CN! (B4 kvs k),
Y8!,C3 al n 1,
Y9! a,G0! l.find? a,
ZA! a,G2! t a,
ZB!,I1.DK.fresh (ZG _),
ZC!,I2.DK.fresh (ZG _),
ZD!,BR! as.map,
ZE!,EP! e,
ZF! a b,wP a b .BJ [],
ZG! a b,wP a b .dT [],
ZH!,L8! c,
ZI!,CO! "len",
ZJ!,PO! he ?_,
ZK! a b,Pc! H a b,
ZL! a b c d e f g,⟨_,rfl,a,b,c,_,rfl,rfl,d,e,f,g⟩,
ZM!,Ct! Vn!,
ZN! a b,bv H' a Dt b,
ZO! a b,b? 2 f fd a b,
ZP!,JN! t,
ZQ!,(l+r) / 2,
ZR!,i.at x.wa,
ZS!,dU! a t,
ZT! a,ds! td a,
ZU!,(g,tick,S),
ZW!,JE WG!,
ZX! a,HI! h a,
ZY!,(Ez! x pos),
ZZ! a,Vp! (a >>= _),
Za! a b c,Iz! (CA.of a) (K? b c),
Zb! a,JY! kt a,
Zc! a b c,I! ⟨a,b,e,c⟩,
Zd! a b c,Kp p a (upd b p (tK! c)),
Ze!,hb (ZB _ (sk!)),
Zf! a,MN! (a E9!),
Zg!,Bn AQ! t,
Zh! a,I.DK p _ a,
Zi! a b c d,(eb! a b c++d).Perm (rg m),
Zj! a b c,uM! a (b) c,
Zk! a b,MP! (Az!-a+Dg t b),
Zl! a b,MR! (call (D3! a) b),
Zm! a b,Pa! (Fs W).lookup (a:Str) b,
Zn!,P5! (c≠b),
Zo! a,xL (a->Gr!->Ad! H'),
Zp! a b,F6 X (GX! a) b,
Zq! a,QB! P? a,
fi!,(B4 kvs k),
fj!,(W.qs.set j E6!),
Zr!,V->V->JK!,
Zs!,(G.AG.map (·.1)).filter,
Zt! a b,a (t':=s1.toks) b,
Zu!,JL (m?),
Zv! a b c d,B4 (a b) c=A! (Y! d),
Zw! a b c,B4 (kvsOf a) b=A! (Y! c),
Zx!,V1! h1.trans,
Zy!,(I1.DK.fresh (ZG _)),
Zz!,BN.mp hj,
Z0!,PN!+l!=l!,
Z1!,V2! B!,
Z2!,V3! 0,
Z3!,EG (L3!),
Z4!,EH (L3!),
Z5!,V4! Value.ref,
Z6!,keepR G R,
Z7!,I.pin p hp,
Z8! a,V6! UV a,
Z9! a,V7! H' a,
aA!,WA! H,
aB! a b c,DS H2 a (Op b) c,
aC!,ZR (ZS ?_),
aD! a b,upd a p (tK! b),
aE!,I3! a .dT kvs,
aF!,WD! V5!,
aG! a b c,G6! (FL K a) ys b c,
aH!,cF Kx C,
aI! a,WF! goal a,
aJ! a,(Az Ec W? a),
aK! a,q.Perm (List.range a),
aL!,E! NS.BB hb,
aM!,ef! (Pp G.AJ tb+wt),
aN! a b,eg! a Q b,
aO! a b c,a i q G hi t b c,
aP!,pc (kvs[i]?) k v,
aQ! a b c,vo! T.cl a b hr c d!,
aR! a b,d4! ZS (CK a b ?_),
aS!,eh! c,
aT! a,uu! a ha,
aU! a b c d e,(QC! P? a b c d e),
aV!,(.dK kvs),
aX! a,(.BJ (a V.ref)),
aY!,X! s2 (ei! HP),
aZ! a,uy! a as.map,
vj! a,PK! H2 a [],
aa! a b c,uz! (upd a p (tK! b)) c,
ab! a b,u1! G.h a b,
ac!,bS t qs k,
ad! a,u2! a hn,
ae!,u3! h,
af!,u4! Z!,
ag! b c d e f,ej! Km b c d e f ?_,
ah! a b c d e f g,u7! a b c d (λy h=>e) f g,
ai! a b,OD H t a b s g n u,
aj!,u8! hd,
ak!,(PF! (au t)),
al!,⟨AC,E' ..⟩,
am! a,No (a q ee!),
an! a b,o! fr a (gh b),
ao!,(l.set i r),
ap!,absurd rfl h,
aq!,DY! (s4! hl),
ar!,(ts.take i).filter,
as!,EU! .BB xs,
at! a,Q (.bl (a)) H,
au!,QE! (.bl _) ?_,
av! a b,wY! a (y! b),
aw!,aB p W I H H',
ax! a b c d e,⟨_,rfl,a,b,rfl,c,d,e⟩,
ay! a,PI X tg l a,
az! a,⟨a,H,I.tok _,z?,q⟩,
a0!,WH! x.2 l,
a1!,D9! (ts.map NY),
a2! a,dg a it es as,
a3!,W.LG++[(V9!,io)],
a4! a b,[a,Ak! kind,T! s,T! g,b],
a5! a,a b o e n hb hx,
a6!,as.map Value.ref,
a7! a c,Ab! (ed! a (Am! c)),
a8!,[Pk!,"_law_k"],
a9! a,show c? a≠0 by decide,
bA!,(sb.2 b hb).trans e,
bB! a,A? BJ! BJ! a,
bC! a b,(Kw C6 a b (A4 _)),
bD! a,SZ keys.filter (JZ! a),
bE! a,[(a,o,QH!)],
bF! a b,((a b).map db).getD 0,
bG!,dU! ka q.1,
bH!,b∉QD As,
bI!,FE! .bl fr,
bJ!,Jw qs r,
bK!,(JI (L4 ?_)),
bL!,(Gc hs JI! rs),
bM!,PT X a tA,
bN! a,Cn k (A.deeper a),
bO!,I.cell x c e,
bP!,DS H a y o,
bQ!,NO X sc cl caps,
bR! a,u6! (Ez! x p) Pd! a,
bS! a,Wt kind G tb a G',
bT!,JJ X.env.cells cl,
bU!,Value->Value->Sem Value,
bV!,IA H EF y z,
bW! a,wpAny _ _ a _ _ _,
bX! a,kR λi j=>w! a,
bY! a b,∀h',a->b->Q () Ix,
bZ! a,r.1=BN!/\r.2=a,
ba!,NZ nx n ahead found R,
bb! b c d,I.laid (a:=s.heap.objs.size) (o:=b) (t':=s.toks) (c) ci d,
bc! a b c d e f,⟨_,rfl,p,a,_,rfl,b,Cr c ZV,p,d,rfl,e,f⟩,
bd!,I.bA hH,
be! a b,a λ_ _ _ _ _ _ _ q=>b q,
bf!,(wX! (au t)),
bh!,a.1=b.1,
bi! a,⟨H,I.tok _,a⟩,
bj!,∃sl,uw! { o with slots:=sl },
bk! a,λz=>ME! k.symm.trans z a,
bl!,s9!-QA!,
bm!,Gw!<2*AR!,
bn! a b,∀w' s',a->b->Q w' s',
bo! a,λh=>(RR a h).toNat,
bp!,ys=i1++y::i2,
bq! a,{ W with c:=SC,ls:=a,EF:=Pj! },
br!,λ_ _ _ c=>wb! ⟨[],(AE _).symm⟩,
bs! a,q.Pairwise (λi j=>a=true),
bt! a,Cn (k+1) a,
bu! a b,CH! a b .dK [],
bv!,(model X.prog X.w),
bw!,AO! i ty,
bx!,Jj fi h,
by! a,A? Gp! Gp! a,
bz! a b,aA (D8! (a b)),
b0! a b,Dg t a+PN t b,
b1! a,K45F.FV H' io a,
b2!,(Br hu (Aq d! rfl) a?),
b3! a,DH (a (ea! ZA)),
b4! a b,C? (Bp a b v).map,
b5! a b c,JO! a b c f1 d1,
b6! a,BC a as ts,
b7!,MQ! fd ps,
b8!,hb.elim h.1 h.2,
b9! a,P7! q.map (λi=>a i l?),
cA! a,IA H W.EF (num,t) a,
cB!,(BI DP! (Op sh) []),
cC! a b c d,a (EM (b AA s σ H c I h) d),
cD! b,DS H2 a y b,
cE!,dt G tb GY,
cF!,Ez (k:=DX!) (f:=d0!),
cG! a b,Rd H d (.dT (a b)),
cH! a b,Cq! Cd a rs (SZ rs.filter (λq=>! b)),
cI!,K1 M3.fn TP,
cJ! a,W.plainGet K C a=true,
cK! a,a/\(u=1\/u=2),
cL! a b,Inv a b σ H s,
cM!,VS! SB D0! vs.toArray,
cN! a,x.IQ (b:=a) (sk!) hq,
wx!,(tupleKind (Cg P w)),
cO!,(.ListComp elt wa! sc pos),
cP! a b,wZ! (h.keep (a ku)) b,
cQ! a,Fu (G1:=a) (EB!) rfl rfl S1 k,
cR! a b,BH.mpr (No (by have:a:=V8! b WC!;simpa using this)),
cS! a b c d e,WI a p W' D' m b c A' B' d e,
cT! a,(Bv (Dl rfl) DQ! T.sorted ED (ca a)),
cU!,Co! f3 d3 tm! Hm,
cV! a c d e f g,⟨s1.heap.objs.size,[s1.heap.objs.size],_,a,c,rfl,d,e,f,P6!,g⟩,
cW!,.HQ g s n' u tick S,
cX!,[Cy!,MH!,Pl!,"_law_asks_here",Vj!],
cY! a,λi j=>.bl (decide (a)),
cZ!,tb∈De G.holds ta,
ca! a,λo' e'=>by rw[a] at e';cases e';exact⟨λ_ z=>I2! z,λ_ _ z=>I2! z⟩,
cb! a,λb hb o eb=>a b o eb (off b hb),
cc!,∀v W' H',Nw W W' W.ls []->WE! al H',
cd!,(Kl I.DK eb),
ce! a b,(Cv a (Cv b Ia)),
cf!,(BI CG! (Y! po) di!),
cg! a b c,f _ _ a (VR! b) (VR! c),
ch!,hs h hh bh,
ci! a,K _ _ a Pm! _ ?_,
wy! a,(backToKw a (keywordEach [] X.env)),
cj! a,W.findIn K DT! a=A! (L4! f),
ck! a b,uG! CW a TW.cl b (by simp only[BS] at l1;lia) ?_,
cl! a b,a hu I2 g ry b,
cm! a b,Un fs ex H a h b,
cn!,[Vm!,MH!,JT!,"_law_turn"],
co! a b,HT.lexLt (a i []) (b j []),
cp!,u0! H3 W.en Pj!,
cr! a b c,⟨a,_,_,rfl,rfl,b,A6 (c),?_⟩,
cs!,(Y_ X sc cl s3.heap.objs.size tM! s3 H3 fp AA),
ct! a,(Ui (V5 K (Ca 1) a) (Ca 0)),
cu! a b,(C5 Di DQ! a DF (Aa (b) Ae)),
cv!,Cp m h (Cu!) 1,
cw! a b c d e f g h,a x hn hB b c d e f g cs.1 cs.2 k h,
cx! a b c d,K6 (k:=a) (f:=b) (r:=c) d,
cy! a b,a AA s1 σ H1 b I1 q1,
cz!,Dk W'.qs=Dk W.qs,
c0! b,o_ h λa _ h=>b (P:=λv=>P (a::v)) h (k a),
c1!,⟨Z?,l!,g,b,sh⟩,
c2! a,IP a H p d c ls,
c3! a b,(Mn hu W? d! a b (λ_ _ _=>rfl)),
c4! a,J6 (RP a wc! (Ca 1)),
c5! a d f g h,u5! U9 e c a JX! ⟨d,H,I1,f,g,h,uv! hf⟩,
c6! a,x.wa.step i.2 (G':=a) S1 LH bU,
c7! a b,λ_ _ _ _ _ _ us hl=>a (P:=λus=>WK! b us) (us:=us) hl h _ _ _ _ _ _,
fq! a b,(a _).nodup_iff.mpr b,
fr!,(ER!),
fs! a,(Vd! a),
wz! a,(if a then FE! V.bl true else none),
ft! a,(a (At WP!))=true,
fu! a b,Wg D m BM! sh (JC! a) ls/\b,
fv! a b,a/\(b key).Pairwise IY,
fw! a b,ex! a=b,
fy! a b,⟨a,Wm!,b⟩,
fz! a b,v6 a b 0,
f0!,λc q=>?_,
f1! a,H! a h,
f2!,λc xs q=>?_,
f3!,DL! q,
f4! a b,(by have:=a;rw[b] at this;cases this),
f6!,be AK,
f7! a b,Gd! a (CK! b),
f8! a,S? AK a,
f9! a,S? ey a,
gA! a b c,S? a (Pv! b c),
gB! a,by cases op<;>first|rfl|exact a,
gC!,[uD!],
gD!,v.1.toNat,
gE!,v.2.toNat,
gF!,xs.length-KE,
gG!,λy=>(y.n,y.io),
gH! a b c,Ou! (Qk! a b c),
gI!,At! 2,
gJ!,(as.map Value.ref).any,
gK! a,∀y∈sc.names,y.2≠a,
gL!,b∉Do o O,
gM!,(rel.val k).KP,
gN!,λ_ _ q=>Qi!,
gO! a,bn (W.FK.length<=a),
gP!,(rel.val k).getD,
gQ!,Int×Int×HS,
gR! a,l.most=A! a,
gS!,λh=>eu! (Gb y.fi h),
gT! a,DM! a AN,
gU! a,λt=>by unfold PN;rw[a],
gV! a,λt=>(a,V.bl true),
gW!,λt=>[t.1,t.2],
gX! a b,No (i! a b),
gY!,G.l∈BL!,
gZ! a c,by obtain⟨⟨a1,a2,a3⟩,⟨b1,b2⟩,c1,d1⟩:=x.cW;have np:=x.RS (b:=a) (EB!);obtain⟨dx,e⟩:=x.ob;exact c,
ga! a,∀l:U!,a,
gb! a,O9! e a,
gc!,λa ha=>?_,
gd!,t∈r0.2.2,
ge!,r∈rowsOf L,
gf! a,∀t∈SL,a,
gg!,b.1≠G.num,
gh!,t.1≠G.num,
gi!,u∈C? hl.map,
gj!,tb∈C? G.AJ.map,
gk!,PT!=x,
gl!,ts.length<=900,
gm! a,∀{n:Nat} {ahead found R:D!},a,
gn!,a.length+1,
go!,u∉JG!,
gp!,λr=>O? r.2,
gq!,t∉er!,
gr! a b,by show a;rw[b,br],
gs!,ns.length<=63,
gt! a b,{ G with AU:=Bm!,hand:=a,AG:=b },
gu! a,{ G with AU:=Bm!,AG:=a },
gv!,hl.length<64,
gw!,{ G with AY:=EK! },
gx!,λ(q:T2×Int)=>vN!,
gy!,λ(q:T2)=>(tk q,V.bl true),
gz!,ls=a++l::b,
g0!,λo v z=>?_,
g1! a,[AV!,a,u2],
g2!,(Al G (ts.take i)).AG.map,
g3! a,∀q∈a,Lz!,
g4! a,Wo! ZE a,
g5! a,∀(x:Addr)(L:k!)(H':Hp),a,
g6!,l.kind=Bg!,
g7!,l.kind=Cd!,
g8!,G.num=l!,
g9!,l.th∈EH!,
hA!,λh hh bh=>?_,
hB!,fi.length+1,
hC! a,fC! a=I.m,
hD!,G'.AY<=EK!,
hE!,L.length<=900,
hF!,λb' o e=>?_,
hH! a,(a vV!),
hJ! a,σ[i]?=A! a,
hK!,Bl! Stmt,
hL! a b c d,L? a b (.FQ ob (c d)),
hN!,Y! sl,
hO!,Ac! (κ×Value),
hP!,Ac! (Key×Value),
hR!,F? s.heap.objs.size,
hS! a,J! (a b hb),
hT! a,J! (Ch a),
hU!,C? us.map,
hV!,(Classical.propDecidable _),
hW!,False.elim h,
hX!,(K w.params).In h,
hY! a,Ad (G3! a),
hZ! a,AN! M! a,
ha!,O? u?,
hb! a,[("kept",a)],
hc!,Ad! h1.get?,
hd!,T! QU!,
he! a,i! hb a,
hf!,At GE,
hg!,i? r,
hh!,i? hd,
hi! a,q! hlen a,
hj! a,q! jv a,
hk! a,q! a hb,
hl! a,q! a Vf!,
hm!,Go! Value,
hn!,AA! G'.AJ,
ho! a b,I3! a Fq b,
hp!,Ae! rfl,
hq! a,(Sum.inl (a):Key),
hr! a,AB (H! a AR),
hs!,I4! V,
ht!,I4! It,
hu!,y! pn,
hv!,y! bk.MA,
hw!,Cj! H v,
hx! a,KB Lw! a,
hy!,AB! G.AJ.map,
h0! a b,h! fU! a b,
h1!,AC! Bool,
h2! a b,Ag (o:=.BJ a) b,
h3!,Cn! decide_eq_true,
h4! a,X? a (z▸m),
h5! a b c,L? a b (.BJ (L.map c)),
h6!,AD! hb,
h7! a,E7! a Jt!,
h8!,s? 0,
h9!,s? (IB n 0 lo),
iA! a,inClass (top 21) a,
iB!,Nat->AW!,
iC! a,wS ob a,
iD! a,wS a (λx H3 y=>?_),
iE! a,BK! h.symm a,
iF! a b,CJ! 5 a b,
iG!,ZC _ Db,
iH!,Aj! hy,
iI! a c,xL (De!->a->c),
iJ! a b,Bn! a s2 b,
iK! a b,Bn! a s3 b,
iL!,Go n,
iM! a,a (List.filter_sublist.map _),
iN!,KF (ZS h),
iO! a b,(Bg (i:=a) b rfl (Or.inr rfl)),
iP!,Bo! (wt-Jd wt),
iR! a,(J? (BG.mpr a)),
iS!,Str->Go! NameKind,
iT! a b c,(Af (L5! a b c)),
iU!,Ax! ne,
iV!,FA! vM!,
iX!,dT! Cp!,
iY! a b c d,EM (a AA b σ H2 _ c q2) d,
iZ! a c,xL (Gr!->a->Ad! c),
ia! a b c,upd a b (.BB (c V.ref)),
ib!,EI! y.n,
ic! a,(Br hu d! a),
id! a,BO! rfl a,
ie! a b,An (λ_ _ h9=>a) b,
if! a b,L? H' l (.BJ (a b)),
ig! a c,JC! (a G b (c)),
ih!,AT! (apos.endLine==HR.line),
ii! a,dW! (F? a),
ij! a,EL! a Db,
ik! a,o! k v1! a,
il!,vn! 4,
im! a b c d e f,bv (CH! a b c d) e Bm f,
in! a,Cc (KF a),
io! a,JF! no a,
ip! a b c d,WF a b Jb! c d,
iq!,db! oI,
ir!,vC! i,
is!,hs.Pairwise IY,
it!,[Cy!,dx!],
iu!,[Cy!,uE!],
iv! a,PR! ET! a,
iw!,re ar,
ix!,0<JE!,
iy! a b c,VU! (wB! Gs a b) c,
iz! a,DU! a ?_,
i0!,df! hb,
i1! a b,VW! q a b,
i2!,PS! q,
i3! a b c d e,PQ! (a g) d_ b c d e,
i4! a b c d e f h i j,PQ! (a g) b c d e (PY! f h i j),
i5! a b c d,EO! [Ak! a,T! b,T! c,d],
i6!,AU! I0!,
i7! a,FE! CC! a,
i8!,x.some_at m,
i9! a,VY! (a t ht),
jA! a b,Ap! ⟨a,b⟩,
jB! a b,a [y?,b] H Q E,
jD! a b,s8! h a b,
jE!,[(s1,tick)],
jF! a,DY! (a AA s1 σ H1 _ I1 q1),
jG! a,∀t,PH G' t->a,
jH!,EP! CM!,
jI!,Nat->Nat->Bool,
jJ!,dl! NW,
jK! a,Vb! absurd a,
jL! a b,ES! H2 a b,
jM! a b,(a o ne.symm).trans b,
jN! a,CQ! more.map a,
jO! a b,bv H' a Bm b,
jP!,[(Cy!,0)],
jQ!,Pf! 1,
jR!,(Ct hl tb),
jS! a b c d,vo! TW.cl a b c d Gv!,
jT! a b,b? 4 f fd a b,
jU!,MB! Fh,
jV! a b,Cw! H a b,
jW!,HB! o,
jX!,EL! (show Wy! from fx) AR,
jY! a b c,a b=some (seqObj SB c 0),
jZ!,(Bu!,0),
ja!,((0,0),0),
jb! a b,ME! AH.mpr a b,
jc!,AO! o ta,
jd! a,dZ! a (TP X AA σ Q),
vk!,Vi! I.fs,
je! a,Di! (a G tb v),
jf! a b,EV! a b WW!,
jg! a,t5! g.toNat a,
jh! a b,t6! a (ve! b),
ji! a c,uB! a c h'.get?,
jj! a b c,Pq! (DS.k (k:=J! a) b) c,
jk! a,Pq! a BW,
jl!,q.1∉ts.take i,
jm! a b,FQ! (Bf a) b,
jn! a,Vp! (Lm! a _ _),
jo! a,BH.mpr (EC! a),
jp! a,∃t,u=a b t,
jq!,P9++(Q++s::R),
jr! a,HM! a (.FQ o v),
js! a b,CH! H3 a .BB b,
jt!,AO! e ty,
ju! a b c,KM->a->b->c->DW!,
jv! a b,HP! (H! eG a) b,
jw! a b c,FZ.k (k:=Sum.inl (a)) b c,
jx!,AP! r .BJ [],
jy! a,hb (fF! a),
jz!,mem_mid hz,
j0!,xs=[VX!],
j1! a,Jf! (t σ H Q) a,
j2!,E! k.BB e1,
j3! a,Jm! s5 a,
j4! a b,G7 G a W.share b,
j5!,Jo! ht,
j6!,(HP b o eb hb),
j7! a,ZR (m:=Builtin.Tuple.tupleExact _) a,
j8! a b,Pa! (C0 G).lookup (a:Str) b,
j9! a b c d,w! (a=b c)=w! d,
kB!,X! s1 e,
kC! a b,AP! a .dT (F7 b more),
kD! a,ta σ H λx H1=>a,
kE! a,uT! (λc H1=>a),
kF! a,uT! (λvs H1=>a),
kG! a b c d,MX! 3 a b c d,
kH! a,CL! tb (λy H2=>a),
kI! a,W.findIn K (Y! CI) a=A! none,
kJ! a b,PY! Be R! a b,
kK! a b c d e,dm! (upd a b (.BB (c V.ref))) d e V.ref,
kL! a,DS.k (k:=ev!) a,
kM! a,QI! a Ab,
kN! a,(X? a (by simp[z])),
kO!,(hi-lo).toNat,
kP!,W.ls=l1++(n,t)::l2,
kQ! a b,QK! a kvsOf b,
kR! a b,q? Au xs a j j (S? b jy),
kS!,FD! x.wa HP,
kT! a,a u (ZB _ hu),
kU! a b,a->Pv i σ H->ws! b,
kV! a,pure (ForInStep.yield a),
kW!,E! s6 hU,
kX! a b c d e,Lx! a? TW.cl a b c d A7 e,
kY! a,Qf! a i,
kZ! a,ZR (ZS (ZR (ZR a))),
ka! a b,Qg! (a b (ZS ?_)),
kb!,Qh! s.heap.get?,
kc!,Nv W W' VE L,
kd!,I3! d .dT kvs,
ke! a b c,G6! (FL K H) a b c,
kf!,Qj! 1,
kg!,Qn! W.hasDictIn,
kh!,(W4! o m apos),
ki! a b c d e,(x.of a rfl rfl b (λq hq t ht=>Qd!) c d e).tk,
kj! a,WJ! H a,
kk!,W2.same s3,
kl!,(e4!++T),
km! a,(AM.mp a).2.1,
kn! a,WM! eb a,
ko! a,a (List.range n),
kp!,h _ uN!,
kq!,WT! S.hs,
kr! a b c,A1! rfl a b (E! hN c),
ks! a b c,(C5 a DQ! b DF (ca c)),
kt! a b c,(C5 a DQ! b JX (ca c)),
ku! a b,a b Db o e,
kv! a,t6! (a G tb) ls,
kw! a,t6! (a G ta tb) ls,
kx! a,Wa! m a,
ky! a,We! s.heap.IsKeyIter a,
kz! a b c,vo! T.cl a b HC c d!,
k0! a b,d4! ZS (FA a b ?_),
k1!,Wh! V,
k2!,Wi! e,
k3! a,Cq! Cd a rs 60,
k4! a,Wl! (JI (JI a)),
k5!,em! (p.1≠b),
k6! a b d,eo! h.toNat a b d,
k7!,λq=>(q.1,PJ!),
k8! a,et! d a,
k9! a,Ae! (Af (Ar a)),
lA! a b,wP a x .BJ b,
lB! a,lt a fD!=true,
lC!,(Jt hl tb),
lD! a c,∀b,b=ad\/Wj!->a/\c,
lE! a b,ez! (WY! a) b,
lF!,wC! (b≠a) DS!,
lG!,wC! (b≠it) DS!,
lH!,ZR (IC tI (ZS ?_)),
lI!,ZR (JV tI (ZS ?_)),
lJ!,(upd H1 d wE!),
lK! a,fH! (MU! a),
lL! a,h'.DictOfH knd d a,
lM!,JE (HN ol),
lN!,JE (HN AQ!),
lO!,DY K H p xs,
lP!,DY K H p ys,
lQ!,[O? G.AU,Q? x],
lR!,[O? G.AU,Q? xs],
lS!,fM! H,
lT! a,fQ! a s,
lU!,⟨h1,h2⟩,
lV! a,vB! 0 a,
lW!,⟨F? C::us,kw⟩,
lX! a b c d,vR! a b c d rfl,
lY!,vD! ez,
lZ! a b,∀{l:U!},a->b,
la!,ts[i]?=A! t,
lb! a b c,HA! a->b->vO! Qz! fI! c,
lc! a b,bv a fa Bm b,
ld!,E7! sc.names.lookup Aa!,
le! a b c d,GM a ⟨b,ob,_,c,d,rfl⟩,
lf!,vI! (ts.take i),
lg! a,xL (Ad! X.base.get?->a),
lh! a,Pa! mg a fa,
li! a,vQ! O3! a,
lj!,GB (L.take KE),
lk!,Ql! n u,
ll! a b c,vS! (X! a b) c,
lm!,vT! Loc,
ln!,Jq! a .dK kvs,
lo!,vU! vJ!,
lp!,vX! x,
lq!,(lay H ps),
lr!,vY! l,
ls! a b c,vg! (a b) c,
lt! a b,.one (Iz! (CA.of a) (tk! (.bl _) b)),
lu!,L.Perm L',
lv!,p2.keep NS,
lw! a,(∃xs,a/\k=!xs.isEmpty),
vl! a,(Wc! CX a),
lx! a,s.TypeIs a Is!,
ly!,WQ!->G9!,
lz! a c,a->Pe! (.BB c),
l0! a,w! (a≠k)=true,
l1! a b c,⟨a,rfl,vF! b,c⟩,
l2! a,⟨a,WR!,x!⟩,
l3! c,∀a b,R a b->c,
l4!,t.1≠BS!,
l5!,(DO _ _ (VR! hb)).trans,
l6! a,λi H=>Cx! wE!/\a,
l7!,∀vs H Q E,Qs!->vs.length=ps.length,
l8!,QS!++[e,T],
l9!,(Jj y.fi),
mA! b,WI!/\ew!/\b,
mB!,(xs.eraseIdx j).map,
mC! a b,K!->Ma!->a->b,
vm!,(MW!++[r,p]),
mD!,AB! (rowsOf L).map,
mE! b,PH! a b kV,
mF! a,Q (bi a) s,
mG! a,B4 (l.map a) QN!,
mH!,DY K H a Qr!,
mI! a,(s.ok.new t a).1,
mJ!,(List.range m).filter,
mK!,W.isFn K MA!=true,
mL! a b,E4! (LV a) b os,
mM!,cV t qs h,
mN!,MT! (AM! c),
mO!,MV! QB (HP b o e hb),
mP! a,v9! J9 ad a,
mQ! a b,QL! a b (λu hu v hv z=>?_),
mR! a b,(Ar (Ce (Ck! a b))),
mS! a,Aj (G.AJ.filter λq=>a) t,
mT! a,KY H3 aV (a L_),
mU! a,WZ! a as rs,
mV!,wl! n',
mW! a b c,e2! a b r (Jc! c),
mX! a b,wm! a b PL!,
mY! a b,wn! a b ?_,
w0!,(h1.push (seqObj SB Je! 0)),
mZ! a,Ey G.AJ (λt=>a) t,
ma! a,fK! Bi y.n a,
mb!,aT O.sl BN!,
mc!,! Av! u? (Hs HQ! r.1),
md! a b,It! a+1<=It! (1*b),
me!,wp! R!,
mf!,wq! vZ!,
mg!,wr! Ah,
mh!,(p.getD (a-1) 0),
mi!,Ag! (Z! (QV! ht)),
mj!,kM o H H',
mk! a b,BindsTo s fd ⟨a,[]⟩ b,
ml!,∀k,z=.w k->False,
mm! a b c,PW X (Wr! a (b) pos) c,
mn!,S.step i.2 S1 LH (N? Vn!),
mo! a,IJ hp (EM (a) ?_),
mp!,wu! k,
mq! a b c,fG! (a b G.AY (Bm!)) (wj! c),
mr!,ww! k,
ms!,ys.map E0!,
mt!,W1.same s2,
mu!,WL! Sum.inl,
mv!,O.fl.map VD!,
mw!,(AT (AL! hz)),
mx! a,a ET! OI,
my! a,St->WX! a,
mz! a,⟨xs,a,AC⟩,
m0!,⟨q,hq⟩,
m1! a b,H! (Ad (n a)) b,
m2!,H! (Ad h) e,
m3!,dA! (QM! ht),
m4!,λl=>w! MS!,
m5!,e1++(k,e)::e2,
m6! a,(W.instObj C a),
m7! a,L? a y.1 Qx!,
m8! a b,a (λ_ _ r=>b) p,
m9! a,I! ⟨r,a,h⟩,
nA!,X! k.BB e2,
nB!,i! (Am q hn) q,
nC!,AO! value tv,
nD!,¬(l!<0),
nE! a b c,(upd H a (.BJ (b c))),
nF!,AB (show ¬(fJ!) from AR),
nG!,SZ as.map Value.ref,
nH!,BK! k np,
nI! a b,(some (Ez! a b)),
nJ! a b c d e,MeI K a fU! b c d e,
nK! a,Cc (E! hN a),
nL!,FD! W3 VI,
nM! a,IsTup h a its,
nN!,Br! I.base.there hx,
nO! a c d,a (λb u _ e=>c) (EI d),
nP! a b c,F6 X (GX! a) (b c),
nQ! a b,A0! (AP! G.o Dt a) b,
nR!,Pv! y hy,
nS! a b c,PS X (.Assign a b pos) c,
nT! a,v9! La ta a,
nU! a b c d e,QX! (a b ib c) d e,
nV! a b,QZ! (Wb!/\a/\b),
nW!,(ls.map aZ).sum,
nX! a b c d,a b g.T g.TW g.mWH c d,
nY! a b,HT.IB a 0 (some b),
w1!,fO! scope cd,
nZ! a,[T! a,F? xs],
na!,vH! W5.ls.map Dh!,
nb!,vs=[y?,Uf,T! wt],
nc! a,vP! (O? W.share) a,
nd! a b c d e,Bo a p W' D' m b c A' B' al' d ad e,
ne! a c,JP p b ts H a ys c,
nf!,q=(Ah!,a,[]),
ng!,(.done (.ret l?)),
nh!,⟨_,_,_,rfl⟩,
ni! a b c,ZR (a (s:=b) c WQ ?_),
nj!,A8 Dy! dg! [],
nk! a,Au! _ _ (I! ⟨ZV,a,λ_ _ _ _ _ z=>z⟩),
nl!,QQ! Gm! QJ! (b≠x),
nm! a b c d f g,⟨G1! wd!,i! a x.dh,i! b x.dO,c,d,f,g⟩,
nn!,Qc! G'.AG.map (G9!\/0<=t.2),
no!,x.lt s g ts h,
np!,WU! _ _ ?_,
nq! a,a [y?,PV!] H1 Q E,
nr! a b,Wg D m BM! W.share a b,
ns! a b,(Bj (Es a) (Af b) A5),
nt!,nums W.c L.length,
nu!,λq=>Na w q.1,
nv!,CN! (RK xs i),
nw!,λr=>(EI! r.h,Q? r.x),
nx! a b c,Un (NT a) b H H' s.heap c,
ny! a b c d e f g,k a b D c ys d e f g (HD.wi wf) rfl,
nz! a b,a+Gy m y'+1=b+Gy m y,
n0! a b c,Et PassesOwn.never rfl a b (Af c),
n1!,BI f v ((k,x)::r),
n2! a b c d e f,vh! a dx hp b c d e _ f,
n3!,LL.lt s g ts,
n4! a,λx y H Q=>a K x y H Q,
n5! a,⟨_,rfl,AR!,rfl,B!,B!,a⟩,
n6! a b c e f g,a (d:=b) (ob:=c) (λi σ H'=>e) f (g) ?_ ?_,
n7!,vf! IZ GV (Cr _ ZV) k,
n8! a b,Ao (pl:=_) a TP.cl M3.mt G3 hr M3.bd L! A7 b,
n9! a,EJ P w K mg base a (k+1) f fd ps sp,
oA! b c,⟨_,rfl,a,ns,b,rfl,hS.sq,hlen,w?,w?,c⟩,
oB! a b c d e,Dm (tt:=a) (te:=Ca 0) (caps:=b) rfl c rfl ZV rfl ZV rfl JJ! Jp! JL! ZV (fL! C6 d e (A4 _)) Vr!,
oC!,⟨ok.mod,ok.kind,ok.glob,ok.blt,ok.above,ok.inj,ok.has,ok.hX,ok.hd,ok.frames,ok.iV,ok.aq,ok.bs,ok.cu,ok.YE,ok.YH,ok.OA,ok.eO⟩,
oD! a,AD.mpr (Ch a),
oE!,knd.room A,
oF! a c,a (CE! (e3! c)),
oG! a,(λk _=>AM! a),
oH!,L2.St->XK,
oI!,Tk X.fn x\/uI! X.env.scope.names.lookup,
oJ! a,Al G (ts.take KE)=a,
oK!,λq=>O? q.2.AU,
oL! a b,λq=>a (FE.mpr (J? b)),
oM!,show HB! _ from x,
oN!,q.1≠Ah!,
oO!,Gw!≠AR!,
oP!,S? hl st,
oQ! a b,AA! (Bp G.AJ a b)-JE!,
oR!,[tb.1,tb.2],
oS!,[Pl!,Vj!],
oT!,[dr!,"_law_a"],
oU!,[V.str Rs,V.str BD!],
oV! a,λkv=>if kv.1=k then a else kv,
oW! a,ga ha hb a,
oX! a,λh=>a (z▸h),
oY!,{ cls:=EF! SB,dict:=none,data:=D0! ([]:g!).toArray },
oZ!,by rw[Fj,z] at h;lia,
oa! c d,[Vk!,Vl!,c,d],
ob! a b,∀t,t∈ts↔(a/\b),
oc! a,sB (by rw[e] at ht;exact a),
oe!,{ e8! with AG:=G0! L9! Lz! },
of!,λ(i:Nat)=>c+1+l!,
og! a b,∀(j:Nat) q G,v2!->a->b,
oh!,{ y with I:={ y.I with ss:=vb! y.I.ss,fs:=wf! },fi:=ep! },
oi!,{ W with c:=W.c,ls:=I0!++[],EF:=AK!,FK:=W.FK },
oj!,{ y with I:={ y.I with cs:=wg! },se:=HL! },
ok! a b,∃dz,dz<m'/\W KE dz a b,
ol! a,(IA.keep p2 a),
om! a,(a s.heap I.big),
on! a,id (show a from p2),
oo! a,reduceHash (Builtin.Tuple.tupleHashOf a),
op! a,a (L9! wJ!),
oq! a b c,setField FO! a (b c),
or!,[(Cy!,j)],
os! a b,Rt a b (by intro z;cases z),
ot! a,a base (dL!),
ou!,Rows G os,
ov! a b c d,a (A! x::Ed σ b) c d,
ow! a b d e f g h i,HA! a->KD H' b Qa! d e f tb g->h->i,
ox! a b c d,PE! prog w a b c d s,
oy!,(b∈X.ex\/X.IE.heap.objs.size<=b),
oz! c,A? EJ! EJ! c,
o0! a,A? FB! FB! a,
o1! a b,E4! (FL K H) a b,
o2!,(I0!).length<=480,
o3! a b,.ok (.ret (a b)),
o4! a b,W.mroIn K a b=A! true,
o5! a b c,(BI Bj! (Y! a) (BI DN! b c)),
o6!,GM t1 t2,
o7!,Gq! (0<1000),
o8!,h AA s σ H _ I hw,
w2! a,Ly! a r2 Z'.map,
o9! a b,KS W.qs MZ! a b,
pA! a b c d e,a->b->c->A0! H' d->FR! H'->e,
pB! a,DT.mpr ⟨ER!,a⟩,
pC!,(1+Jg! / 42),
pD! a c,DS H a FN! (WV! c),
pE! a b,DQ 2 f1 d1 a (b),
pF! a b,DQ 2 f2 d2 a (b),
pG!,L7! as bs,
pH! a,ES! a aa KW.map,
pI! a,(hs.2 b (BV (Wd! a))).trans e1,
pJ!,AV E9! E9!,
pK! a,JN! (a rfl rfl),
pL!,λr=>((Sum.inl (k r):Key),f r),
pM!,Mt M2.fn T,
pN! a b,a b l! n u,
pO!,(qs.set l.g.toNat E6!),
pP!,∃t,u=Value.str x t,
pQ!,vs=[y?,Os,Uf],
pR! a b c d,VU! (t9! P?) (vo! TW.cl a b c d R!),
pS! a,uM! (f v u) Q a,
pT! a,Lz a P w K mg base N qual (Ak st) f D_ A outer s H E,
pU! a,hb.elim Z! λh=>a,
pV! a,a b (Z! hb),
pW! a b,MY! (G.holds.filter (At a)).map (G.AG.filter (At b)).map,
pX!,λq=>(tk (key q),val q),
pY!,(upd H p (.ins CP dx (Ft (c+1) d))),
pZ! a b c d,⟨_,rfl,_,rfl,a,b,c,d⟩,
pa!,aB p W y.I H H2,
pb!,(RP r ta tb),
pc! a b c,K8 I wh! a b c,
pd!,(tX ht).elim,
pe!,pure (ps.zip us),
pf!,(Em hu d! W?),
pg!,dX G tb wt,
ph!,Ez (k:=An!) (f:=Dc!),
pi!,Qq! T.len W?,
pj! a,KY H' r (a L_),
pk! a,Jd! i []=a,
pl! a b,a (Cu I q (congrArg not b)),
pm!,(q.1::BQ q.2),
pn! a,ek! (a b o (HP b o e hb) (sub b hb)),
po! a b c d,Px rfl a b F! c d,
pp! a,Ae! (Af (Bf (fN! Wf! Cf a))),
pq!,A8 Ci! (Op 0) (BI Dy! dg! []),
pr!,A8 DN! (Op 0) wH!,
ps!,HT.IB xs.length 0 lo,
pt!,HT.IB xs.length xs.length hi,
pu!,BH.mp e q hq,
pv!,BH.mp e r0 ZZ,
pw!,(Bp l t v).map,
px!,s.heap.DictOfH knd d xs,
py!,(putK kvs p.1 p.2),
pz!,vA! 5 3,
p0!,[Cy!,uD!,dx!],
p1! a,vE! d a s,
p2! a,S.PV (a G.hand tb),
p3!,vL! pyNext it,
p4!,(I! Lq!,T! O.cnt),
p5! a,(upd H9 p (Qp! cp a)),
p6! a,BC H2 bs (a b),
p7!,vW! (Lp hu a? d!),
p8! a,Ea (An!) G.AG (a),
p9!,vc! G.AG.find? o,
qA! a,⟨_,_,_,_,e1,λH' q k e=>a⟩,
qB! a b c,(Jm rfl (Bk a (Bk b (Bk c Gd)))),
qC!,cE p H Q E (.deliver num),
qD! a,FG.mpr (No (Ge! (a q hq))),
qE! a c d e,xL (Gr!->CR!->a->c->d->e),
qF! a b c,codeAny e7! A a b c,
qG! a,Ab! (Dd! (Ag a b o e)),
qH! a b c,[F? a,F? b,F? c],
qI! a b,a b c (KR.look e),
qJ! a b c d e,Lx! W? TP.cl a b HC c d e,
qK! a b c d,VU! (cv (O0 a (Kh (wB! Gs b c)))) d,
qL! a b c d,putK (kvsOf a) b (V.ref c)=kvsOf (d),
qM!,wk! ts ea,
qN! a b c d,O.tr _ _ _ a Pm! b c d,
qO! a,UW H t a s g ts,
qP!,wv! f3 oy,
qQ!,(K45F.KZ m f c a S),
qR! a b c d e f g h i j k,⟨_,rfl,p,a,_,rfl,b,c,_,rfl,_,rfl,p,d,e,f,g,rfl,h,i,j,k⟩,
qS!,PL λj=>?_,
qT! a b c d e f g h i j,(Fx (a:=b) (c:=d) (caps:=e) f rfl rfl rfl rfl g rfl ZV rfl ZV rfl JJ! h JL! ZV i j),
qU!,⟨HN! (x.st r hr).1,(x.st r hr).2.keep kt⟩,
qW! a c d,Ab! (a b o (Cs! c) (Am e d)),
qX!,[uD!,dx!,MH!],
qY! a,Inv a AA σ H s,
qZ!,(BI Lw! (Y! fi) d6!),
qa!,o! h uN! ?_,
qb!,AP! G.h Bm eC!,
qc! a b c d e,a p=some (.ins b c (d e)),
qd!,xL (Gr!->∃o',Pe! o'),
qe!,knd.is s.heap k a,
qf!,e0! f2 gz Md,
qg!,t∈Dr G.hand G.holds,
qh!,vK! g.toNat (Gh! x.wg.wl.len),
qi! a b c,YN FY dd.typeIs JW a b c,
qj! a b,swapsWith a b pos.line X.env=pure false,
ql! a c d f g h i j,⟨⟨WO! a,c,No ((x.ho q hq).keep (CE! d)),f,g,h,i,x.nd⟩,E1! j⟩,
qm!,(Cv (Ca 0) Ia),
qn! a,_++(en! (n=n) a QP!++_)=_,
qo!,HO! hk u bt (o0 hu),
qp! b c d e f g h i j,⟨_,rfl,p,C,b,_,_,rfl,c,T.cl,d,e,f,rfl,QT! g,_,rfl,_,tk t,_,a,h,rfl,i,j,?_⟩,
qq!,(mW b o eb hb n1 n2 n3),
qr!,P7 J5 J2.ok,
qs! a,⟨xs,xs[i],a,by simp[KH]⟩,
qt! a b,Mx a (Ag! b) m0,
qu! a b,a b x.1 HK! x.2.2,
qv! a,(Prod.mk.inj (ZO a)).2,
qw!,(k,x)::BI f v r,
qx! a,∀l,Jh!->BH! l a,
qy!,λi v=>∃e,es[i]?=A! e/\v=e.key,
qz!,Ls! (RI.size-j=(RI.size-(j+1))+1),
q0! a b c d,λzs H'=>∃m',m'<a/\(m'=b/\c/\d),
q1!,if E?=a then(q.1,a,h) else q,
q2!,∃z,L? cl.lookup d z,
q3! a,dc! (G0! G.AJ.filter (q.1∉a)),
q4! a,(a F! i.2).told,
q5!,(DI (CT.mpr (jp hm dy!))),
q6!,DI (CT.mpr wi!),
q7!,(BI DN! (Op 0) wH!),
q8!,A? N ps st,
q9! a b c d,Lx! a? T.cl a b hr c d (Ck! d! R!),
w3! a,(A.under (D3! "type.__call__" a)),
rA! a,A1! a (λ_ z=>I2! z) (λ_ z=>I2! z) (λ_ _ z=>I2! z),
rB!,(rh b o e hx),
rC! a b c d,AP! a .dK (putK (b c) (Sum.inl g) d),
rD! a b,JO! "give_back" "House.give_back" Us a b,
rE! a,a/\(∃bs:T?,al'=al++QO!)/\∃L,Qo!,
rF! c d,Jj! "need_holding" "House.need_holding" Kt c d,
rG! a c,Jk! "add_to_record" "House.add_to_record" Ut a c,
rH! a,ZD _ (Aj! (ZD _ (ZD _ a))),
rI!,[V.str BD!,O? g0,O? s0,PT!],
rJ! a,F_ rfl (HK (IH (EM (he AA s1 σ H1 _ I1 q1) a))),
rK!,λv H5=>PM! H5 p/\ys.length<sizeLine/\N (ys++[v]) (PK! H5 p dh!),
rL! a b,a/\k=(c? b != 0),
rM! a,NU X.prog X.w H' a,
rN!,(σ.set i (some v)),
rO! a,NZ (RF hl) n a [] R,
rP!,⟨_,rfl,_,rfl,l,o,rfl,g,?_⟩,
rQ!,[Cy!,MH!,Pl!,Vj!],
rR!,[V.str Cz!,O? g0,O? l!,Q? x8],
rS!,[V.str Bg!,O? g0,O? r.1.1,Q? av],
rT! a b,fP! (a b H (λ_ H'=>Pu!) E),
rU! a b,vG! "lose" "House.lose" Q6 a b,
rV!,Ly! H5 sl (as++KL).map,
rW! a b,Df! (Lj CG GX GW Gg a b),
rX! a,va! a ha ha ha,
rY!,Yd ey rfl rfl,
rZ!,∀b ob,Cj! H ob->b≠d->Pe! ob,
ra! a b c,I.laid (t':=a) kp ci (show PU! _ h' _ b from c),
rb! a,Of (k:=DX!) (f:=d0!) (AD! a) ha,
rc!,tR I hg hd,
rd! a,bJ a x dx C mA,
re! a b,Ca 0 (dd! a) H4 b,
rf! b,Ax th i a t ea b,
rg!,(D2! s g n' u),
rh! a,attributeBase o a X.env (eval o X.env)=e1! o,
ri!,[Q? y1,Q? jU,Q? sy],
rj! a b c,e6! (Lx! a? TW.cl a b i5 c Cf (Ji! Gv! Gv! Gv!)),
rk! a,bK P w K mg base a outer s H,
rl! a b,q? tG v v o a b,
rm! a,∃t,a/\t { nx:=λ_ H'=>Pu!,rt:=Q } vd! H,
rn! a,a ZV ZV ZV ZV,
ro! a b c d f,⟨a,AM! e,AM! e,AM! e,AM! e,b,c,d,f⟩,
rp! a c,Ab! (ga (Pr! a) (Pr! c) e),
rq! a c d,Ab! (by by_cases hb:a;(.subst hb;rw[c] at e;rw[Ab];exact e);.rw[BT!];exact d),
rr!,∃a,kv=(I5! r.1,PT!)/\X_ K H a SL,
rs!,((s.heap.update a (Obj.mapSeq λ_=>(#[]:Dg!))).push (seqObj AJ! vs.toArray 0)).push,
rt! a b,step (o:=.dT []) Ab a b,
ru! a,#[VX!,a! 0 0,a! a 0,a! ep 0],
rv!,λzs H' pz=>A1! B! rfl KH pz,
rw!,[Pk!,Cy!,MH!,uE!],
rx!,[Cy!,uE!,dx!,MH!],
ry!,[O? 2,O? 2,O? 3,Bo! (2+v / 4 % wt!)],
rz! a b c d,(MeI.mth (ps:=a) ⟨b,c,d⟩).bd,
r0!,by rw[el,ZE,BM] at z3;rw[ZE];lia,
r1! a b,KI (x:=a) e1 rfl rfl b,
r2! a b,E5! "give_back" "World.give_back" Nx Qm! a b,
r3! a b,E5! "ask_all" "World.ask_all" Ip QY! a b,
r4! a,Ag! (Z! (Mo a t ht)),
r5!,L? H' d (.FQ o (.dK (L.map MD!))),
r6! a c,∀b,(a\/b=I.sd\/b=I.fd\/b=I.cd)->c,
r7!,m?++Cp m g2 n 2,
r8! a b,PP! t _ a (O? b) rfl rfl Cv! ?_,
r9!,[V.str Rs,V.int h,Bo! (0+l!),PT!],
sA! a,[⟨a,io,I,[],[]⟩],
sB! a,Co hu W? d! a rfl,
sC! a b c d,Dm (te:=Ca 0) (caps:=a) rfl b rfl ZV rfl ZV rfl JJ! c JL! ZV d Vr!,
sD! a,QW! g.mWTi.mt jG JR g.mWTi.bd a,
sE! a b c,I.iH (its':=a) hH e b c ?_,
sF! a b c d e f g,∀base:Heap,a->QR! base.Ns->EJ b w c mg base d e fa fd f g,
sG!,Hk pf (ZY k hk),
sH! a b c d e f g h i,⟨_,rfl,p,a,b,_,_,rfl,c,d,e,f,g,_,rfl,h,i⟩,
sI!,⟨Bg!,g0,r.1.1,r.1,r.2⟩,
sJ! a b,a ha hb I h λv u s2 x y H2 I2 rx ry q=>b,
sK! a,Dn H W m y a,
sL! a b c,ZR (wpAny_attempt (HX (name:=Str.ofString "__next__") a b c)),
sM! a b c d e f g,a AA s2 σ H2 x b v c d I2 e f g,
sN! a,vi! x a (Nj st) (Hl st) (Ak st) l?,
sO! a b,⟨_,rfl,a,_,1,_,rfl,rfl,b,rfl,rfl,_,rfl,?_⟩,
sP! a b,Ef m W al a b W' al' ys EN H' dd,
sQ!,⟨hp,g,d,tk,os⟩,
sR! c,∀(H2:Hp) (a:Addr) (t:T2) (Q':Jl!),Jn!->dm! H2 a tv t->c->Q' (b t) H2->tt (dd! EW!) H2 Q',
sS! a b c,Hu (l:=a) (k:=λq=>q.1) (f:=b) c,
sT!,(Hg I.m I.sd I.fd I.cd),
sU!,(upd H2 G.o (Dt (L9! wJ!))),
sV!,(BI O7! (Y! en) (BI Lw! (Y! fi) d6!)),
sW! a b c d e f,EJ P w K mg base a b c d e f,
sX! a,EJ P w K mg base a k f fd ps sp,
sY!,envOfC qual scope s.heap.objs.size f cd,
sZ! a,KD a y.2 y.1 l.kind l.s l.g l.th l.x,
sa! a c d e f,⟨_,rfl,a,c,_,rfl,d,Cw _ ZV,_,rfl,e,b,_,tb,rfl,S1,f,_,rfl,?_⟩,
sb! a b,RM m.base m.ox m.line DE a b we!,
sc!,[Wq! (CC! msg) j p1],
sd! a b,a kindOf ((p,w)::P.zip vs) m b=_,
sf! a,su p W ys ad As H a,
sg! a b c d e f g h,fin (dV! f4 g1 g2 (a (v:=b) (c))) d (e) f g rp h,
sh!,Ao (pl:=_) d! g.TW.cl g.mWTi.mt (jG g) JR g.mWTi.bd L! A7 WS!,
si! b c d e f g h i,Fa (K:=K) (a:=b) (xs:=c) (tt:=wG!) (te:=d) (caps:=e) (σ:=f) g h i ?_ ?_,
sj! a,x.aM i W1 HP bU uQ! Gz! uP! vz! g1 a rfl cA cB g2 k _ λ_ c=>o! hR _ c,
sl! a b c,a AA s1 σ H1 b c Q I1 r1 q1,
sm! a,wo! (x.wl.same hi a rfl rfl rfl) x.rc.less (λl h=>h) (Ja! BU!),
sn! a b c d e,hR v a b _ _ _ rfl c j_ ⟨y,_,i1,i2,d,ey,rfl,rfl,rfl,rfl,e⟩,
so! a b c d e f g h i j,⟨_,rfl,_,rfl,p,a,b,_,_,rfl,c,d,e,f,_,rfl,g,_,rfl,FZ.k (k:=h) i j,?_⟩,
sp! a b c d e f,Ju (lo:=0) (n:=a) (tt:=wG!) (te:=b) (caps:=c) (σ:=d) e f (el! h.1) ?_ ?_,
sq! a b c d e f g h i j k l,⟨_,rfl,p,CW,a,_,_,rfl,b,TW.cl,TW.nP,c,W.po,d,_,rfl,e,Mb!,_,rfl,f,g,h,i,j,rfl,k,l⟩,
sr! a b c,⟨_,rfl,p,dx,_,rfl,hp,Sc,_,rfl,p,a,G,b,rfl,S,c,?_⟩,
ss! a b c d e f g h i j k l,⟨_,rfl,p,a,b,_,_,rfl,c,T.cl,d,e,_,rfl,f,_,rfl,g,_,rfl,_,h,i,j,k,l,?_⟩,
st!,⟨_,rfl,t,_,_,_,rfl,rfl,Qe!,rfl,a,_,_,_,rfl,rfl,d? e2,rfl,?_⟩,
su! a b,⟨p,num,W,l1,l2,t,num,a,g,b,_,rfl,x.wa,el,et,λH1 W1 HP=>?_⟩,
sv! a b,⟨a,_,rfl,b,rfl,_,_,rfl,_,_,rfl,_,_,rfl,rfl,?_⟩,
sw! a b c d e,J! ⟨a,_,rfl,p,dx,_,rfl,hp,Sc,_,rfl,p,b,G,c,rfl,S,d,e⟩,
sx! a b d e f g h j l,x.iD (G':=a) i W1 HP b uQ! Gz! uP! d wg st e f cA g F! h j l k _ λ_ c=>du! c,
sy!,⟨_,rfl,p,dx,_,rfl,hp,fl _ ZV,_,rfl,x,_,_,_,rfl,rfl,d? ex,rfl,k⟩,
sz! a b c d e f g h i j k l m n o p q,x.answer (new:=a) (D':=b) (y':=c) el es p1 p3 ey ee kL fr rfl rfl rfl (pG fr at2) d e (f) g (λw9=>h) cA cB i j k l (m) n o p q,
s0!,⟨_,rfl,p,dx,_,rfl,hp,fl _ ZV,_,rfl,x,_,_,_,rfl,rfl,d? ex,rfl,_,rfl,x,_,_,_,rfl,rfl,d? ex,rfl,_,rfl,x,_,_,_,rfl,rfl,d? ex,rfl,k⟩]
theorem ZV{p:Prop}(h:p:=by decide +kernel):p:=h
open PySem PySem.Spec PyProof.Rows in def ZR:=@wpAny_bind
open PySem PySem.Spec PyProof.Rows in def ZS:=@wpAny_pure
open PySem PySem.Spec PyProof.Rows in def ZT:=@Heap.get?_push_of_some
open PySem PySem.Spec PyProof.Rows in def ZU:=@Heap.get?_push_size
universe T LZbtHBvqHUj rDqTgEMEUyu GwBxHtvZsbA BTKPkkwSixHn BBrzEglXhtRO nXYvvnskFwd BGkqLfCqiKaZ BwdRYggkDFNH BydpoerbqFOH uNDVRwieqAr BfECAocfPbOK XxnenEgjYnt CAaqhjpYcMQO CWTQlEAfInnO occQhpzhYAm fhogwvTHUyM BLpYKoUtzWfl iPTxYCqHRfU CXeLljIencjc BTFiBcdhhOyT wNbDHEwqzNx NgDYWYqeyho BmRZgUgQaGKq BXRriltcgDjY BRtXVGihrDmS CPLLJlyGoFqQ CCRZzwZuyPbd BFacRijtqlDI BbpYvormAZWD BjMvCytEykwa nhgLpvOHPAx BnWzAIWdLjmC RAQGwrEIGGB BsWABYxcPprv CJPfaIKxciGi BcNUbmNiVQLb HNcWyOfBWbM BEkRdNEhtYZl CEHlQlGdyPdm CVpbtXiokJJO CChCqmMAYRMe BuomBdwLBsGo BeRpTjLZdFmc FuXIJPTZzDe BtzFrMXjkdUy yoobFDcBNMs nPDsHmBuBtc kgEJuDRxMTK BTYJfeexLNPs BefHQNpjxSbB SbmwCpyIIqD BXCtfEzLgsOH huXnoCqpBUX BrdLhTsBUUlu BUKyExjvhxXz BaNxrPLUQWEL VckzvuBjrUt HuyYUXdFGcw cFcfSofnxHp wafoDXhbzLK BYeEkneDIABL aPXqKLnIhNt BrSrdVCGAVwZ CTHoielUABhy BOyTwTcKqimG BlPjEnkjELhY CKRCkJGwYwEU xkBVlhUCHDx BXbXmcXYthkd BZcjidVuEXnu yXBECiCIKMQ BIofJAzpqyHR VqUYGhkFYdE BdNVNIKZACtI BPLKptLbeCND QzrqOWKbgpA WOkSfJYKQYk BzOxoyeFgRCi BBPpoFyJWJjE kpnVsbNyzzp CMkpiYTBucde BzMbFSSOuCfY CWamVNxpJMK CETpqHKHiEvS BUIumcVYzTAk qMPjmXdrOGp CFdwpDOjcsim BQCToVyZRGgN vHbwpjUkjha aXbKMKpfItA CDGfRTPlUmbP CFmaVdJODDFQ nbzyxsCvEir oYxGLtFftMr CSUpNXgvXjhP dkuOlPScRRS BQrYNlLEMcMD CHWJkdWbVHCV matjClZUsmS BOfyDzCmvSOe BZQKvLPgisyO BYWoNdIaFgVG BaFSzVHABrLl BKSImBYcltKB DlDGqvWxPGw xlRMdSAPudq CWolzlUNYJTd UzFexHceTjN CNObUDdZOJPF BTkrOfqOcrzz BbCOVubFUTfH BeQkQmVdeQhL BtakqhqoYhTp BRrUvusAoDkX SjTCdZBDPRe xHxSJhmRZDL igAVKcQQuEA BoCsZtNPsGGb RIRBGbKyaOL BpFqohcvcXZf BVgpKMXBLXgy CKmoCgxYzPU BxIlsrEAenyn mbTfzPIirGl lTZyxaajCTd BlTUVlFOVGor xNQNanVNbrK mUcAbBKATWQ pqdaJgDDEah JsEZrZkpEXH CVhiXEkEVwEr CSPxKNHTmxRC ZnLFYUdrLAY CVEmVQuIumRQ COIUMvyILmek BEMfjeKzhjuL gWyoYRCMeNg OKhBXoQTUHx oIVFMZNxREL BjTTpyEHpkhf gUkgTHUwnkw CRnZWBtOHWEV OmoKyOwtQnI SMhuSaYQjER BArWdZtLRqSp BQDSbKDcspqj BLCZbVtdmeXD BLFPEaGGAGmN ByHaSzkqyHPS RmmmdkGisLY BunSrjBZoRHA BseIXlezNuwW WxEItOcraAm xGbfjBwieco BanRVwySaRel BnwSWESHcrYN ByqPcRxnzZSI BLhFYNUUUnkf ciWRNwnSppg BSahxKPZHqNd mivfzcjHIKa CEPuAXitYMSL ewVGvRjmPtu rYJUnJWHeLx hVjSRfqHpte BwNQoCGeBTxQ TJwPjknbYkC CPRyCASSqSrW LKVHgkqaiew BogFUCJMVLlp BmbfpSrvbLBx eCSbszVtKco BfJNmMtUurAe BuARRavnPRlU mEamExtUjvk LOeeqilqPoi xUVNWgiXXKs POJqWggasZs BdRqNMTjTPTb MbZBvLMrqUJ orPQYpGzNpd BwAcRuSNyyoG qTYBYvtJYsx iILHtPFmUdQ CPlTzhZavMDZ wschuWktaTI BIeHAgTgjeCe chBMrxQKgQh gbKCqmMggrf BNokSHtXpdRY BcEYnOhdZCUI YYjKgzQeZxI CAuntfhBVMfr ZCymTXEtHpf SkzHkqyldqI NoBpTfyIDzf BhxexiQYylkB ezmhwtdlNDp CUCRfGSxZwkG BkSYPEAuPRWe CAcGpaXrREVA BZnWNXqRkKbK BLSagyhILVsW CCPpwylQNzpg MFjTiruRgjq BuPYqUtlHucl CAdptBJkOwct bZptRqNLhAZ bTdFKUjOQXL JnmOZUgWUvm ePutyAjCPxc BsZyDpkitnHT EcYbVvMRJHW xDuggngblhR BGXOvuFuelXH CFvzrHtggFjF BDxDugumIqYC CJYesklJXShu CSfonwuImkrT JtrzWMRQzSp bFllpSsDzJL OsuKsiMYGVn CJNsmavydJXP oDBZbvgSHFx JYsxycBqdkj BoNwHDuodzis BfJEPkahzPfE CTLZSNexrVuX gqYFvwLXWmh CELrgFOSsjlo BqeQeCoZIdhS CDtLHiszEbbT BiEwkFiHeMhR jYvvtoKfwQd BxmhXccxZHGF KpSTZJnGLGT DwSyAwpsLPU OTbZbfOazQF BBObkPOaMvcL BFUPeIrIxItu BrpovhfYzrZk CDjTlVHhpes BSwXdGURYvBd UJtSotnnFgf lrJrbCXFyzb IdjmDxUYGqO CTWNqahGZgMe BBhXaLUSCaNN fytoFIuVoqe CMKjLMNdIpFX BuKdwMaBOkqs BkLnKZFtmFsm CDQiwcZAiqJT ojMqbjuDoRg CGxpJEkGpHdv CEOEToAwlEFR BRFJrqhwJaar HuplPagBqZJ SFMNjkBlnqg BDhpELITgoQC BHSxtvMNAdBl BKsPMzemNqCK wHbOnHObQry BsjphjyTyTPk BPgMtIhIeUoG BDXigfcjsvYQ CMfanYmgSvFB BOGreaxCDhaO CFKunaRYVWmC BVGSoaOllvIs BBcoBHfKMXPe VcOrLgKEHrx qCcQRjIGKfx CNDdJDdOfePf GblSxcBCXsz BYzvUwDglDPq BQmatMJCGAZd BVEJoSJbVdil WRCKpDgQsZk BFCBJMHLbdmz FzjscgrMWVL BScqibGliQaD haDNllKSnSH BxgQWrQOqDyC BJDUOobFhoML BkVhIgGptizf BZDWxtqCrdcG BNasaxMPxezL kXafoVYDoa QawIjbqnpmD BKozlGCTRbHR BpLPqQtZcyfl BpoPyNWXwpVJ BphCOwguuNbc BEiBOfYptuor BXMXzjtTjUdY BPProRuTuDSt BDgfatjqHhsv IygxtKmSoLj zPPaissgGND CXUlTuAJTKOe ufvVAtzPHfb CSRhhgzJXiJi BQOaGKsBpplJ BLcgdIiCvnHq HSgoYxEswDP BwdorihLcGbi BZRLlGBaQGZm BhSdhILfeWJj BgxQWTVnVATh oTYmnWDMsiy BhvZMaobnbKf IbVFeYQcXLo wJZBGpgKQOK BDFCHMLcHmvH MFXEqVecMeN CHZqoxluSHf FiGLuRFFYFG BwJuPBXaJLxt BNUSEMQDIppW CFSmmuwUmoVY izxZGqHJNmJ BeEBCCiSFYfa BPVmSIKaYBci vAknXIdHGdG ZOndoExHrjm CXMcqHwiOCwE UCPuAgXhUKj CxxsDTaAvui ePRuGWQHUZZ MLadZBciEQJ BSEGdyRsgrmK BCQsvNTsxLrN NTiVdbsZzKm dWUubavjSgL ivATgUOWejv BSVrsXQAJHLB CJdvbexRFLtV rNeeHeMAnHt FsxSLbslzpc CHsZvkiytHiK CRCBXAlWMuRZ BWrQfpPNMxRv ByaAZhfjrlqO CqonaqWhAJx CWYIfkQoXnCG KOjqdEzmukk BtKMTYyOBOgW BfulPXtPjXpn BShusHSeSycR BZXUiMtlmYBA BRJlOgFzUSQZ BnIlNHdLJKqt ByRltjfEcKqK wHhsmJsqUUn CTOOEpORtQfb CQtJukQgegyu CJMSnFAtvros BlkbwKZwqaYs BMarDWakExTG CJNbpdQOzWDO CFzMoyBvinvj prfEVADUJQo CMXPXIFgpqVs CIPKOGaDGQfQ MvXgDLWrLHB KqiXZxRJrhG CJvmqrExXcij BMcuOMCslTqr jBUHqTsSZC BAAdVFjjIkff BaxsGsyWXxj BNJpPzUiEPgs CXJVSyTyYymo BZgtUVCSZYlU qYkcVwczUqs SNIKCApWQRu BUupAcqsjuyB BehpOrVWnNPG BuUsjsNMXErS BhXWXQQwxJLq BIIggpOcfOpS BddFKeFCndsX BUrfCWsccAQV BQgEynbGHIZO BbMbwKfFZixo FbjnNrjFHGx CDCiQhDkHamG BmJMdOmHXoXN zFuTsfMEssR ZPEDSGwwiEm xHVqHQOqXGl GcYstzjRirr BvhuXOBLNgNJ BPuRgjXzJHXx BonAuZqLbVnf bCyUaWZLPco BdvmgkwyEXrW CRsRTZkoANhw BCBRkmijDREn CGrwJmGDEOHv BIGbbMqdUXJh FDddLILOqAX BTDCYZubrXIg BESVqOrfaGtT CHCIzErxhTpS BgECqOVgNRjh BunpGfMBOHSu CHyzxHMxcTZl yxWOZnUpcMO BZptkMmThtyx BREHEdjiLHrN IuSwtMNQeyL BfAxNAuKcHUv BhtQCiPsZfds gZbDTfouUVO ctYLhwkthlF BakpkTojhuzP BoCqVxvYLTne BqwgCYvSLqcm FxDWegdhGCI CQHyyddBibrk BLpLwHEIdKVX CVtmcMflCokR BUQoopxUJiTS CHCAZGUTTdPO BWzisbXlaWsq BlKsaObmxMuV PlRLHSIuyWR BxWrUPUrXexA CJwikYcqepaw yVyFhnwIUkG BYvlSHNTLmVV ByMYrvDaAATr tEfGozHBfIl BsiMUmeXffla BOjZtYKhnxYc BCceUyfPLTAG BxsCNucppqpt BlssvTJEgvUI BHyIpvwDxJaJ pKiiuVHUPFs SOdDroDgAuU BRWsVTFFiZHI
theorem ZA {α β : CB!} {as : U!} (f : α -> β) : SZ as.map f = as.length := List.length_map f
theorem ZB {α : CB!} {a : α} {as : U!} (bs : U!) (h : a ∈ as) : a ∈ as ++ bs := List.mem_append_left bs h
theorem ZC {α : CB!} {b : α} {bs : U!} (as : U!) (h : b ∈ bs) : b ∈ as ++ bs := List.mem_append_right as h
theorem ZD {α : CB!} (y : α) {a : α} {l : U!} (h : a ∈ l) : a ∈ y :: l := List.mem_cons_of_mem y h
theorem ZE {α : CB!} {as bs : U!} : AU! (as ++ bs) = as.length + bs.length := List.length_append
theorem ZF {α β : CB!} {f : α -> β} {as bs : U!} : (as ++ bs).map f = as.map f ++ bs.map f := List.map_append
theorem ZG (n : Nat) : n <= n := Nat.le_refl n
theorem ZH {α β : CB!} {f : α -> β} {as : U!} {i : Nat} : (as.map f)[i]? = as[i]?.map f := List.getElem?_map
theorem ZI {α : CB!} {a : α} {s t : U!} : a ∈ s ++ t -> a ∈ s \/ a ∈ t := LY.mp
theorem ZJ {α : CB!} {l : U!} {i : Nat} {a : α} : l[i]? = A! a -> ∃ h : i < l.length, l[i] = a := List.getElem?_eq_some_iff.mp
theorem ZK {α : CB!} {a b : α} : a ∈ [b] -> a = b := CS.mp
theorem ZL {α : CB!} {a : α} {l : U!} : a ∈ a :: l := List.mem_cons_self
theorem ZM {α : CB!} {a b : α} {l : U!} : a ∈ b :: l -> a = b \/ a ∈ l := CB.mp
theorem ZN {α β : CB!} {b : β} {f : α -> β} {l : U!} : b ∈ l.map f -> ∃ a, a ∈ l /\ f a = b := AH.mp
theorem ZO {α : CB!} {a b : α} : A! a = A! b -> a = b := Option.some.inj
theorem ZP {α : CB!} {l : U!} {i : Nat} {a : α} : l[i]? = A! a -> a ∈ l := List.mem_of_getElem?
set_option autoImplicit true
set_option Elab.async false
set_option maxRecDepth 100000
set_option maxHeartbeats 4000000
set_option linter.all false
universe N L2
open PySem PySem.Spec PyProof.Rows
abbrev Key:=Sum Int Str
def Sl:Key->Value->Bool
 | .inl k,v=>Value.isInt k v
 | .inr x,v=>Value.isStrOf x v
def Jot(w:World):Key->Int
 | .inl k=>hashInt k
 | .inr x=>hashStr w x
theorem C9:∀{k:Key} {v:Value},Sl k v=true->(∃i t,k=I5! i/\v=Value.int i t)\/(∃x t,k=Sum.inr x/\v=Value.str x t)
 | .inl i,v,h=>by obtain⟨t,e⟩:=q? Value.isInt_shape k i v v h;exact J! (Au! i t e)
 | .inr x,v,h=>by obtain⟨t,e⟩:=q? Value.isStrOf_shape x x v v h;exact I! (Au! x t e)
theorem Jew(i:Int)(t:Tok):Sl (Z! i) Oc!=true:=by simp[Sl,Value.isInt]
theorem Jev(x:Str)(t:Tok):Sl (J? x) (CC! x t)=true:=by simp[Sl,Value.isStrOf]
theorem Jmy(a b:Int):w! (EI! a=Sum.inl b)=(a==b):=Md!
theorem Jmv(a b:Str):j9! (Sum.inr a:Key) Sum.inr b (a=b):=Md!
theorem Jmx(a:Int)(b:Str):r? (w! (EI! a=Sum.inr b)):=Dp! (λq=>nomatch q)
theorem Jmw(a:Str)(b:Int):r? (w! ((Sum.inr a:Key)=Sum.inl b)):=Dp! (λq=>nomatch q)
def Cg(prog:Program)(w:World):PySem.KeyKind prog w Key where
 is:=Sl
 hash:=Jot w
 inj:=λv a b ha hb=>by
  rcases C9 ha with⟨i,t,rfl,rfl⟩|⟨x,t,rfl,rfl⟩
  .rcases C9 hb with⟨j,u,rfl,e⟩|⟨y,u,rfl,e⟩
   .injection e with e1 _;rw[e1]
   .exact WB!
  .rcases C9 hb with⟨j,u,rfl,e⟩|⟨y,u,rfl,e⟩
   .exact WB!
   .injection e with e1 _;rw[e1]
 byValue:=λk v h=>by
  rcases C9 h with⟨i,t,rfl,rfl⟩|⟨x,t,rfl,rfl⟩<;>rfl
 pyHash:=λhv h=>by
  rcases C9 hv with⟨i,t,rfl,rfl⟩|⟨x,t,rfl,rfl⟩
  .exact wpAny_pyHash_int h
  .exact wpAny_pyHash_str h
 eqBool:=λhu hv h=>by
  rcases C9 hu with⟨i,t,rfl,rfl⟩|⟨x,t,rfl,rfl⟩
  .rcases C9 hv with⟨j,u,rfl,rfl⟩|⟨y,u,rfl,rfl⟩
   .rw[Jmy] at h;exact wpAny_eqBool_int h
   .rw[Jmx] at h;exact SeqAt.EqAt.int_str i t y u _ _ _ _ h
  .rcases C9 hv with⟨j,u,rfl,rfl⟩|⟨y,u,rfl,rfl⟩
   .rw[Jmw] at h;exact SeqAt.EqAt.str_int x t j u _ _ _ _ h
   .rw[Jmv] at h;exact wpAny_eqBool_str h
 «strs»:=λk x t v h=>by
  rcases C9 h with⟨i,u,rfl,e⟩|⟨y,u,rfl,e⟩
  .exact WB!
  .injection e with e1 _
   subst e1
   cases v<;>rfl
theorem Jae(prog:Program)(w:World)(i:Int)(t:Tok):(Cg prog w).is (Z! i) Oc!=true:=Jew i t
theorem Jad(prog:Program)(w:World)(x:Str)(t:Tok):(Cg prog w).is (J? x) (CC! x t)=true:=Jev x t
inductive V where
 | EO|bl (b:Bool)|int (i:Int)|str (x:Str)|bw (b:Array UInt8)|sR (b:UInt64)|ref (a:Addr)|ty (n:String)
 deriving DecidableEq
def RelV:AN! V Value
 | .EO,u=>u=Value.none
 | .bl b,u=>u=Value.bool b
 | .int i,u=>UW!
 | .str x,u=>pP!
 | .bw b,u=>jp! Value.bytes
 | .sR b,u=>jp! Value.float
 | .ref a,u=>C0!
 | .ty n,u=>u=Value.type n
abbrev Vals:AN! C! g!:=Mh! RelV
theorem Vals.length(r:Ds!):xs.length=us.length:=y! r
theorem Vals.get{xs:C!}{us:g!}{i:Nat}{x:V}(p:Ds!):H9!->∃u,us[i]?=A! u/\H0!:=by induction p generalizing i with | nil=>intro e;simp at e | cons r _ ih =>intro e;cases i with | zero=>cases e;exact KF r | succ i=>exact ih e
theorem Vals.append{xs ys:C!}{us ws:g!}(p:Ds!)(q:Vals ys ws):Vals (xs++ys) (us++ws):=by induction p with | nil=>exact q | cons h _ ih=>exact K? h ih
theorem Vals.take{xs:C!}{us:g!}(n:Nat)(p:Ds!):Vals (xs.take n) (us.take n):=by induction p generalizing n with | nil=>cases n<;>exact L! | cons r _ ih =>cases n with | zero=>exact L! | succ n=>exact K? r (ih n)
theorem Vals.drop:∀{xs:C!} {us:g!} (n:Nat),Ds!->Vals (xs.drop n) (us.drop n)
 | _,_,0,r=>r
 | _,_,_+1,.nil=>L!
 | _,_,n+1,.cons _ t=>Vals.drop n t
def Q_:AN! Ar! hm!
 | some v,some u=>DA!
 | none,none=>True
 | _,_=>False
def KV{κ:Type}:AN! AG! hO!:=Mh! (λ(p:κ×V)(q:κ×Value)=>p.1=q.1/\RelV p.2 q.2)
def kV:Key->V
 | .inl i=>Pz!
 | .inr x=>Ak! x
inductive HO where
 | BJ (xs:C!)
 | BB (xs:C!)
 | dK (kvs:k?)|dT (kvs:wv)
 | set (S:Fy! Int) (n:Nat)
 | ins (C dx:Addr) (fs:BW!)
 | own (x:Addr)
 | xd (fs:BW!)
 | met (f x:Addr)
 | rP (lo hi:Int)
 | FQ (o:Obj) (u:HO)
 | gX (ps:Dg!)
 | ext (φ:BI! Heap)
abbrev Hp:=Addr->Go! HO
def upd(H:Hp)(a:Addr)(o:HO):Hp:=λb=>v6 (b=a) (A! o) (H b)
theorem Ab{H:Hp}{a:Addr}{o:HO}:upd H a o a=A! o:=by unfold upd;rw[e?]
theorem Ad(h:b≠a):upd H a o b=H b:=by unfold upd;rw[BY!]
theorem V0:upd K8! a u=upd H a u:=by funext b;unfold upd;split<;>rfl
theorem Rt{H:Hp}{a b:Addr}{o u:HO}(h:aA!)(h':JQ!)(d:o≠u):a≠b:=by intro e;subst e;rw[h] at h';exact d (ZO h')
theorem Am{H:Hp}{a b:Addr}{o:HO}(h:aA!)(h':t?):a≠b:=by intro e;subst e;rw[h] at h';cases h'
universe S
variable (P:Program)(w:World)
def DU(H:Hp)(h:Heap)(a:Addr):BI! HO
 | .BJ xs=>Dz!/\∃(its:g!)(n:Nat),Tv!/\HB! (Qt! (EF! SB) (Ne! its.toArray))
 | .BB xs=>Dz!/\∃its:g!,Tv!/\IsTup h a its.toArray
 | .dK kvs=>mA! (∃vs,Ca!/\h.DictOf Js! a vs)
 | .dT kvs=>mA! (∃xs:Ie!,
  C4! (λ(p:List Key×V)(q:List Key×Addr×Value)=>p.1=q.1/\PH! E? WL! kV/\RelV p.2 FS) kvs xs /\
  ∃o es ep,jW!/\o.ExactDict/\HW!/\es.toList=xs.map (entryOfKey (tupleKind Js!))/\o? xs.map)
 | .set S n=>h.SetOf (intKind P w) a S n
 | .ins C dx fs=>R1! dx a/\fs.length<=1000/\dx≠a/\HB! (m6! dx) /\
  ∃mA,h.Ns1 dx mA/\(∀f,Q_ (fs.lookup f) (mA f))/\PySem.Within mA (Gn! fs.map)
 | .own _=>∃o,jW!
 | .xd fs=>∃mA,h.Ns1 a mA/\∀f,Q_ (fs.lookup f) (mA f)
 | .rP lo hi=>∃t u v,HB! (Kj! DK! Ut!)
 | .FQ o u=>jW!/\DU H h a u
 | .gX ps=>HB! (Qt! l? (P1! ps))
 | .met f x=>HB! (M8! W.methodObj X5!)
 | .ext φ=>φ h/\(∃o,jW!)/\∀h1 h2:Heap,φ h1->(∀o,WA! h1.get?->WA! h2.get?)->φ h2
def NU(H:Hp)(h:Heap):Prop:=∀a o,aA!->Ij! o
universe E
universe S
variable {P:Program}{w:World}{H H':Hp}{h h':Heap}{a:Addr}{o:HO}
theorem DU.lt(x:Ij! o):a<h.objs.size:=by cases o with | BJ xs=>obtain⟨_,_,_,_,e⟩:=x;exact B1! | BB xs=>obtain⟨_,_,_,p⟩:=x;exact p.lt | dK kvs=>obtain⟨_,_,_,_,o,_,_,e,_⟩:=x;exact B1! | dT kvs=>obtain⟨_,_,_,_,o,_,_,e,_⟩:=x;exact B1! | set S n=>obtain⟨o,_,_,_,e,_⟩:=x;exact B1! | ins C dx fs=>obtain⟨_,_,_,e,_⟩:=x;exact B1! | own y=>obtain⟨_,e⟩:=x;exact B1! | xd fs=>obtain⟨_,⟨_,_,_,e,_⟩,_⟩:=x;exact B1! | rP lo hi=>obtain⟨_,_,_,e⟩:=x;exact B1! | FQ ob u=>obtain⟨e,_⟩:=x;exact B1! | gX ps=>exact A_ (oM!) | met f y=>exact A_ (oM!) | ext φ=>obtain⟨_,⟨_,e⟩,_⟩:=x;exact B1!
theorem Jol{R:GQ!}{S:AN! γ δ}{f:α->γ}{g:β->δ}(h:l3! (S (f a) (g b))){xs:U!}{ys:Aq!}(p:Ii!):G6! S (xs.map f) ys.map g:=by induction p with | nil=>exact L! | cons r _ ih=>exact K6! (X! h r)
theorem Jld{R:GQ!}{S:AN! α δ}{g:β->δ}(h:l3! (S a (g b))){xs:U!}{ys:Aq!}(p:Ii!):G6! S xs ys.map g:=by induction p with | nil=>exact L! | cons r _ ih=>exact K6! (X! h r)
theorem xc{R:GQ!}{f:α->γ}{g:β->γ}(h:l3! (g b=f a)){xs:U!}{ys:Aq!}(p:Ii!):ys.map g=xs.map f:=by induction p with | nil=>rfl | cons r _ ih=>rw[AI,AI,ih,E! h r]
theorem tO{R:GQ!}{as cs:U!}{bs ds:Aq!}(p:pG!)(q:L7! cs ds):Paired R (as++cs) (bs++ds):=by induction p with | nil=>exact q | cons h _ ih=>exact K? h ih
theorem Jmb{R:GQ!}{xs:U!}{ys:Aq!}(p:Ii!):∀j,G6! R (xs.eraseIdx j) ys.eraseIdx j:=by induction p with | nil=>exact λ_=>L! | cons r t ih =>intro j;cases j with | zero=>exact t | succ j=>exact K? r (ih j)
theorem Jr7{F G:GQ!}{YF:U!}{l₂:Aq!}(p:E4! F YF l₂)(f:∀a b,F a b->G a b):E4! G YF l₂:=by induction p with | nil=>exact L! | cons r _ ih=>exact K6! (X! f r)
theorem DU.N_(x:Ij! o)(k:ji! (b=a\/EU! Cb! a) vJ!)(ho:∀b,EU! Cb! a->Pe! (Cb! a))(ht:∀b xs,lz! as! xs):DU P w H' h' a o:=by induction o with | BJ xs=>obtain⟨z,its,n,r,e⟩:=x;exact⟨z,its,n,r,Ep!⟩ | BB xs=>obtain⟨z,its,r,ob,e,c⟩:=x;exact⟨z,its,r,ob,Ep!,c⟩ | dK kvs=>obtain⟨z,y,vs,r,ob,es,ep,e,c⟩:=x;exact⟨z,y,vs,r,ob,es,ep,Ep!,c⟩ | dT kvs =>obtain⟨z,y,xs,r,ob,es,ep,e,c⟩:=x;exact⟨z,y,xs,Jr7 r λp q z=>⟨z.1,E! ht z.2.1,z.2.2⟩,ob,es,ep,Ep!,c⟩ | set S n=>obtain⟨ob,es,ep,t,e,c⟩:=x;exact⟨ob,es,ep,t,Ep!,c⟩ | ins C dx fs =>obtain⟨d,z,ne,e,mA,⟨od,es,ep,e2,c⟩,r⟩:=x;exact⟨ho _ d,z,ne,Ep!,mA,⟨od,es,ep,Sb! d e2,c⟩,r⟩ | own y=>obtain⟨ob,e⟩:=x;exact⟨ob,Ep!⟩ | xd fs=>obtain⟨mA,⟨od,es,ep,e,c⟩,r⟩:=x;exact⟨mA,⟨od,es,ep,Ep!,c⟩,r⟩ | rP lo hi=>obtain⟨t,u,v,e⟩:=x;exact⟨t,u,v,Ep!⟩ | FQ ob u ih=>obtain⟨e,q⟩:=x;exact⟨Ep!,ih q⟩ | gX ps =>have e:HB! (Qt! l? (P1! ps)):=x;show Yj! (Qt! l? (P1! ps));exact k a _ Cr! e | met f y =>have e:HB! (M8! W.methodObj Hh!):=x;show Yj! (M8! W.methodObj Hh!);exact k a _ Cr! e | ext φ=>obtain⟨p,⟨o,e⟩,st⟩:=x;exact⟨o! st p (λo q=>o! k Cr! q),Dd! Ep!,st⟩
theorem NU.lt(x:DG!)(e:aA!):a<h.objs.size:=(x a o e).lt
theorem NU.fresh(x:DG!)(e:h.objs.size<=a):NH!:=by cases q:H a with | none=>rfl | some u=>exact Ka! (BX (x.lt q) e)
theorem NU.kept(x:DG!)(k:lo!):NU P w H h':=λa o e =>(x a o e).N_ (λb u _ q=>k b u q) (λ_ q=>q) Qu!
theorem NU.laid(x:DG!)(k:lo!)(hp:h.objs.size<=a)(new:DU P w K8! h' a o):NU P w K8! h':=λb u e=>by have hn:=x.fresh hp;by_cases hb:b=a;(.subst hb;rw[Ab] at e;cases e;exact new);.rw[BT!] at e;exact(x b u e).N_ (λc v _ q=>k c v q) (λc q=>nB!) λc xs q=>nB!
universe E
def Rd(H:Hp)(a:Addr)(u:HO):Prop:=I9! H u\/∃o,I9! H Dt!
theorem Rd.ok(r:Rd H a u)(x:DG!):Ij! u:=by
 rcases r with r|⟨o,r⟩;.exact x a u r
 .obtain⟨_,q⟩:=x a _ r;exact q
def pL:BI! (Go! HO)
 | some (.BJ _)=>True
 | some (.dK _)=>True
 | some (.dT _)=>True
 | some (.set _ _)=>True
 | some (.ins _ _ _)=>True
 | some (.ext _)=>True
 | _=>False
universe S
variable {P:Program}{w:World}{H:Hp}{h h':Heap}{x e:Addr}{o':HO}
theorem NU.write(ok:DG!)(mu:pL (H x))(he:e=x\/R1! e x)(k:ji! (b≠e) vJ!)(mQ:∃u,KC! e u)(new:DU P w (upd H x o') h' x o'):NU P w (upd H x o') h':=λb u q=>by (have p8:∀c y,R1! c y->c≠x:=λc y r z=>ec! r mu);(have yw:∀c xs,G2! c xs->c≠x:=λc xs r z=>ec! r mu);by_cases hb:b=x;(.subst hb;rw[Ab] at q;cases q;exact new);.rw[BT!] at q;by_cases jz:b=e;(·(have q':EU! Cb! x:=by rcases he with z|z;(.exact ME! jz.trans z hb);.rw[jz];exact z);rw[q] at q';cases q';obtain⟨v,hv⟩:=mQ;exact⟨v,H! jz hv⟩);·(refine(ok b u q).N_ (λc v hc r=>k c v ?_ r) (λc r=>H! (Ad (p8 c b r)) r) λc xs r=>H! (Ad (yw c xs r)) r);rcases hc with rfl|hc;(.exact jz);.rintro rfl;rcases he with z|z;(.exact p8 c b hc z);.rw[hc] at z;cases z;exact hb rfl
universe E
structure Un(fs ex:M!)(H H':Hp)(h h':Heap):Prop where
 keep:xL (De!->t?->b∉fs->b∉ex->V5!)
 slot:xL (De!->t?->b∈fs->b∉ex->bj!)
 free:xL (De!->t?->b∉ex->MM!)
 there:iI! (b∉ex) (∃o',uw! o')
 QU:∀b xs,lz! as! xs
 OV:∀b o u,Cj! H Dt!->Pe! Dt!
 QV:∀b ps,EU! .gX ps->∃more,Pe! (.gX (ps++more))
universe S
variable {fs gQ ex wH:List Addr}{H H1 H2:Hp}{h h1 h2 h':Heap}{a x e:Addr}{o:HO}
theorem Un.any(u:cm! H1 h1)(q:KG! h.get?)(n:t?)(hx:b∉ex):∃sl,Cj! h1.get? { ob with slots:=sl }:=by
 by_cases hb:b∈fs;.exact u.slot b ob q n hb hx
 .exact⟨ob.slots,u.keep b ob q n hb hx⟩
theorem Un.kept(k:lo!):cm! H h' :=⟨λb ob q _ _ _=>k b ob q,λb ob q _ _ _=>⟨ob.slots,k b ob q⟩,λ_ _ _ n _=>n,λb ob q _=>⟨ob,k b ob q⟩,Qu!,λ_ _ _ q=>q,λ_ ps q=>⟨#[],f3!⟩⟩
theorem Un.refl:cm! H h:=Un.kept Qu!
theorem Un.laid(k:lo!)(hp:h.objs.size<=a)(hn:NH!):cm! K8! h' where
 keep:=λb u q _ _ _=>k b u q
 slot:=λb u q _ _ _=>⟨u.slots,k b u q⟩
 free:=λb u q n _=>H! (Ad (BV (BX (A_ q) hp))) n
 there:=λb u q _=>⟨u,k b u q⟩
 QU:=λb xs q=>nB!
 OV:=λb u xs q=>nB!
 QV:=λb ps q=>⟨#[],by rw[Ad (Am q hn),q];simp⟩
theorem Un.write(mu:pL (H x))(he:e=x\/R1! e x)(k:ji! (b≠e) vJ!)(mQ:∃u,KC! e u):cm! (Pt! x) h':=by
 have hx:∀b,t?->b≠x:=λb n z=>ec! n mu
 have hb:∀b,t?->b≠e:=λb n z=>by subst z;rcases he with r|r;(.exact hx b n r);.rw[n] at r;cases r
 have hm:∀b u,JQ!->¬pL (some u)->b≠x:=λb u q nm z=>ec! q (nm mu)
 refine⟨λb u q n _ _=>k b u (hb b n) q,λb u q n _ _=>⟨u.slots,k b u (hb b n) q⟩,λb u q n _=>i! (hx b n) n,λb u q _=>?_,λb xs q=>Pp! (hm b _ q Qw!) q,λb u xs q=>Pp! (hm b _ q Qw!) q,λb ps q=>⟨#[],by rw[Ad (hm b _ q Qw!),q];simp⟩⟩;by_cases jz:b=e;.subst jz;exact mQ
 .exact⟨u,k b u jz q⟩
universe E
def rE(h:Heap)(H:Hp):M!:=(List.range h.objs.size).filter λa=>(H a).isSome
def Yb(h:Heap)(H:Hp):Heap:=W.hideAll h (rE h H)
theorem Je2(h:Heap)(H:Hp):(Yb h H).objs.size=h.objs.size:=W.hideAll_size _ _
theorem Jht(e:De!)(n:t?):Ad! (Yb h H).get? :=W.hideAll_get _ e λhm=>by have q:(H b).isSome=true:=QM! hm;rw[n] at q;simp at q
theorem Jj4(e:Ad! (Yb h H).get?):De!/\t?:=by have e':De!:=W.of_hideAll (rE h H) e;refine Ch e';cases q:H b with | none=>rfl | some x =>have hm:b∈rE h H:=Ek! (BN.mpr (A_ e')) (by simp[q]);have z:Ay! (Yb h H).get?:=LA (rE h H) hm;rw[z] at e;cases e
def Jk0(g h:Heap)(L:Addr):v!:=(List.range h.objs.size).filterMap λa=>if a=L\/(g.get? a).isSome=true then none else(h.get? a).map λo=>(a,o)
def rest(g h:Heap)(L d:Addr):v!:=(Jk0 g h L).filter λp=>w! (p.1≠d)
structure Mod(K:W.Frag)(mg:v?)(base:Heap):Prop where
 ZY:K.In base
 glob:QR! base.Ns
 blt:∃mb,base.Ns builtinsNs mb/\∀x:Str,XS!->mb x=bootBuiltins x
 nolimit:base.NoLimit
structure Cx(K:W.Frag) where
 prog:Program
 w:World
 mg:v?
 base:Heap
 A:Around
 N:U?
 IE:Shared
 UX:Hp
 env:Env
 outer:By!
 stack:By!
 ex:M!
 fn:Fy! Str
 calm:Bool
 pn:v!
 xe:V?
def NT(l:By!):M!:=l.filterMap (·.frame)
abbrev Cx.fs(X:G!):M!:=NT X.outer
def xG(sc:Scope)(x:Str):Prop:=S7!\/ld!\/h7! sc.names.lookup
def Loc(sc:Scope)(x:Str):Prop:=S7!\/ld!
def Look(env:Env)(h:Heap)(m:v?)(x:Str)(u:Value):Prop :=
 (uI! env.kindOf/\E7! m u)\/((E7! env.kindOf Aa!\/h7! env.kindOf)/\∃c,Va! env.cells.lookup/\h.IsCell c (some u))
structure Cx.Ok(X:G!):Prop where
 mod:Mod Kx X.mg X.base
 kind:X.env.scope.kind=.function
 glob:X.env.globals=mainGlobals
 blt:X.env.builtins=builtinsNs
 above:X.IE.heap.objs.size<=X.env.locals
 inj:∀x y c,vw!->L? X.env.cells.lookup y c->x=y
 has:∀x,(E7! X.env.kindOf Aa!\/h7! X.env.kindOf)->∃c,vw!
 hX:∀x c,Tk X.fn x->vw!->X.IE.heap.objs.size<=c
 hd:BB!->X.A.handled=none
 frames:X.A.frames=A! X.stack
 iV:X.stack=X.outer\/(X.stack=Mf!/\X.env.frame=A! X.env.locals)
 aq:∀b∈X.ex,Ju!/\Zn!
 bs:lg! (Ad! X.IE.heap.get?/\Ay! X.UX)
 cu:X.base.objs.size<=X.IE.heap.objs.size
 YE:lg! (b∉X.ex)
 YH:∀b∈X.ex,b∉X.fs
 OA:X.IE.heap.FunFrames X.base X.outer
 eO:∀b∈X.fs,Ay! X.UX
structure Inv(X:G!)(AA:v!)(σ:Bl! (Option V))(H:Hp)(s:Shared):Prop where
 ok:X.Ok
 os:s.os=X.IE.os
 bare:AllBare s.gens
 base:Un X.fs X.ex X.UX H X.IE.heap s.heap
 loc:∃m,s.heap.Ns X.env.locals m/\∀(i:Nat)(x:Str)(v:V),Nf!->hJ! Km!->vT! xG->∃u,DA!/\Look X.env s.heap m x u
 cell:P5! (∃v,s.heap.IsCell c v)
 free:h? X.env.locals
 JG:P5! (h? c)
 pin:em! (Rj! p.1 p.2/\h? p.1/\p.1≠X.env.locals/\p.1∉X.fs/\∀v,p.2.data≠Aa! v)
 DK:NU X.prog X.w H s.heap
 len:σ.length=X.N.length
universe S
variable {X:Cx Kx}{AA:List (Addr×Obj)}{σ:List (Option V)}{H H':Hp}{s:Shared}{h':Heap}
theorem Cx.Ok.yz(ok:X.Ok){b:Addr}{o:Obj}(e:Ad! X.base.get?):b∉X.fs:=λhb=>f4! (ok.OA.mem hb).1 e
theorem Inv.bs(I:K!):lg! (DS!/\t?):=λb o e =>⟨I.base.keep b o (XM! I.ok.bs) (I.ok.bs b o e).2 (I.ok.yz e) (Cs! I.ok.YE),I.base.free b o (XM! I.ok.bs) (I.ok.bs b o e).2 (Cs! I.ok.YE)⟩
theorem Inv.bk(I:K!):lg! DS!:=Ab! (XM! I.bs)
theorem Inv.mod{X:G!}(I:K!):Mod Kx X.mg X.base:=I.ok.mod
theorem Inv.YX{X:G!}(I:K!):Kx.In s.heap:=I.ok.mod.ZY.keeps I.bk
theorem Inv.lt(I:K!):X.env.locals<s.heap.objs.size:=let⟨_,hn,_⟩:=I.loc;hn.lt
theorem Inv.sz(I:K!):X.IE.heap.objs.size<=s.heap.objs.size:=AV I.ok.above (DH I.lt)
theorem Inv.yy(I:K!)(h:Wk!):a∉X.fs:=λhb=>by obtain⟨_,o,ho,_⟩:=I.ok.OA.mem hb;exact Ka! (BX (A_ ho) (AV I.sz h))
theorem Inv.kG(I:K!):P5! (c≠X.env.locals):=λx c e z=>by obtain⟨v,o,ho,hd⟩:=bO!;obtain⟨m,⟨o',es,ep,gu,RG,_⟩,_⟩:=I.loc;rw[z,gu] at ho;cases ho;rw[RG] at hd;cases hd
theorem Inv.OA(I:K!):s.heap.FunFrames X.base X.outer:=by
 have all:∀(l:By!),(∀b∈NT l,b∈X.fs)->X.IE.heap.FunFrames X.base l->s.heap.FunFrames X.base l:=by intro l;induction l with | nil=>intro _ _;trivial | cons env r ih =>intro hs hl;obtain⟨hk,⟨L,o,hf,hn,ho,hd⟩,hr⟩:=hl;have hL:L∈X.fs:=hs L (by unfold NT;rw[G_,hf];exact ZL);obtain⟨sl,e⟩:=I.base.slot L o ho (I.ok.eO L hL) hL λz=>I.ok.YH L z hL;exact⟨hk,⟨L,_,hf,hn,e,hd⟩,ih (N? (hs b (by unfold NT;rw[G_,hf];exact ZD _ hb))) hr⟩
 exact all X.outer (λ_ hb=>hb) I.ok.OA
theorem Inv.stack(I:K!):s.heap.FunFrames X.base X.stack:=by
 rcases I.ok.iV with e|⟨e,hf⟩;.rw[e];exact I.OA
 .rw[e];obtain⟨m,hn,_⟩:=I.loc;refine K? (Wn! I.ok.kind) hf hn ?_ I.OA;exact Heap.get?_none_of_le (AV I.ok.cu I.ok.above)
theorem Inv.YK(I:K!):∀b∈NT X.stack,b∈X.env.locals::X.fs:=N? (by rcases I.ok.iV with e|⟨e,hf⟩;(.rw[e] at hb;exact ZD _ hb);.rw[e] at hb;unfold NT at hb;rw[G_,hf] at hb;exact hb)
theorem Inv.RL(I:K!):∀b∈NT X.stack,t?:=N? (by rcases ZM (I.YK b hb) with e|hb;(.rw[e];exact I.free);.obtain⟨_,o,ho,_⟩:=I.ok.OA.mem hb;exact I.base.free b o ho (I.ok.eO b hb) λz=>I.ok.YH b z hb)
theorem Inv.step{g':Array GenState}{t':Nat}{d':Drawn}{ch:M!}(I:K!)(gO:∀b∈ch,oy!/\Ju!/\(Zn!)/\k5!)(keep:xL (Ju!->b∉X.fs->b∉ch->DS!->t?->V5!))(slot:xL (Ju!->b∈X.fs->b∉ch->DS!->t?->bj!))(free:xL (b∉ch->DS!->t?->MM!))(there:xL (b∉ch->DS!->∃o',uw! o'))(QU:∀b xs,lz! as! xs)(OV:∀b o u,Cj! H Dt!->Pe! Dt!)(QV:∀b ps,EU! .gX ps->∃more,Pe! (.gX (ps++more)))(ns:∀m,s.heap.Ns X.env.locals m->h'.Ns X.env.locals m)(DK:rM! h')(hg:AllBare g') : d2! { s with heap:=h',gens:=g',drawn:=d',toks:=t' }:=by
 have neL:xL (Ad! X.IE.heap.get?->Ju!):=Ab! (BV (Wd! I.ok.above));have rh:xL (Ad! X.IE.heap.get?->b∉X.ex->b∉ch):=λb o e hx hb=>by rcases Po! gO with z|z;(.exact hx z);.exact Ka! (Wd! z)
 have cellK:P5! (∀v,s.heap.IsCell c v->h'.IsCell c v):=λx c e v ⟨o,ho,hd⟩=>by have oO:c∉ch:=λz=>(gO c z).2.2.1 x c e rfl;by_cases hc:c∈X.fs;(.obtain⟨sl,q⟩:=slot c o (I.kG x c e) hc oO ho (I.JG x c e);exact jp q hd);.exact Bq! (keep c o (I.kG x c e) hc oO ho (I.JG x c e)) hd
 refine⟨I.ok,I.os,hg,⟨RG!,RG!,λb o e n hx=>?_,λb o e hx=>?_,λb xs e=>QU b xs (I.base.QU b xs e),λb o xs e=>OV b o xs (I.base.OV b o xs e),λb ps e=>?_⟩,?_,λx c e=>?_,?_,λx c e=>?_,FV!,DK,I.len⟩;.exact keep b o (Cs! neL) hb rB! (I.base.keep b o e n hb hx) (I.base.free b o e n hx)
 .obtain⟨sl,e1⟩:=a5! I.base.slot;obtain⟨rL,e2⟩:=slot b _ (Cs! neL) hb rB! e1 (I.base.free b o e n hx);exact⟨rL,e2⟩
 .obtain⟨o',e1⟩:=nN!;exact free b o' rB! e1 (I.base.free b o e n hx)
 .obtain⟨o',e1⟩:=nN!;exact there b o' rB! e1
 .obtain⟨m1,e1⟩:=I.base.QV b ps e;obtain⟨m2,e2⟩:=QV b _ e1;exact⟨m1++m2,z! e2 Array.append_assoc⟩
 .obtain⟨m,hn,hl⟩:=I.loc;refine⟨m,ns m hn,λi x v e1 e2 e3=>?_⟩;obtain⟨u,r,l⟩:=hl i x v e1 e2 e3;refine GM u r;rcases l with l|⟨k,c,e,z⟩;(.exact J! l);.exact Zc! k c (cellK x c e _ z)
 .obtain⟨v,z⟩:=bO!;exact⟨v,cellK x c e v z⟩
 .obtain⟨m,⟨o,_,_,ho,_⟩,_⟩:=I.loc;exact free _ o (λz=>(gO _ z).2.1 rfl) ho I.free
 .obtain⟨v,o,ho,hd⟩:=bO!;exact free c o (λz=>(gO c z).2.2.1 x c e rfl) ho (I.JG x c e)
 .obtain⟨e,n,ne,nf,d⟩:=Z7!;have oO:p.1∉ch:=λz=>(gO p.1 z).2.2.2 p hp rfl;exact⟨keep p.1 p.2 ne nf oO e n,free p.1 p.2 oO e n,ne,nf,d⟩
theorem Inv.un(I:K!)(u:Un X.fs [] H H' s.heap h')(DK:rM! h'):d2! Q0!:=by obtain⟨m,⟨o,es,ep,ho,r⟩,_⟩:=id I.loc;obtain⟨sl,hL⟩:=u.any ho I.free (x!);exact I.step (g':=s.gens) (d':=s.drawn) (ch:=[]) (λ_ z=>eq!) (λb o _ hb _ e n=>u.keep b o e n hb Db) (λb o _ hb _ e n=>u.slot b o e n hb Db) (λb o _ e n=>u.free b o e n (x!)) (λb o _ e=>Br! u.there Db) u.QU u.OV u.QV (λm' hm=>by obtain⟨o',j',kC,gu,r'⟩:=hm;rw[ho] at gu;cases gu;exact A1! j' kC hL r') DK I.bare
theorem Inv.call(I:K!)(u:nx! X.stack ch h')(DK:rM! h')(hg:AllBare g')(gO:∀b∈ch,oy!/\Ju!/\(Zn!)/\k5!) : d2! { s with heap:=h',gens:=g',drawn:=d',toks:=t' }:=by obtain⟨m,⟨o,es,ep,ho,r⟩,_⟩:=id I.loc;obtain⟨sl,hL⟩:=u.any ho I.free λz=>(gO _ z).2.1 rfl;exact I.step (ch:=ch) gO (λb o hL hb hc e n=>u.keep b o e n (λz=>(ZM (I.YK b z)).elim hL hb) hc) (λb o _ _ hc e n=>u.any e n hc) (λb o hc e n=>u.free b o e n hc) (λb o hc e=>Br! u.there hc) u.QU u.OV u.QV (λm' hm=>by obtain⟨o',j',kC,gu,r'⟩:=hm;rw[ho] at gu;cases gu;exact A1! j' kC hL r') DK hg
theorem Inv.turned{t':Nat}{it:Addr}(I:K!)(k:lG!)(hn:h? it)(hL:it≠X.env.locals)(h1:it∈X.ex\/X.IE.heap.objs.size<=it)(h2:P5! (c≠it))(h3:em! (p.1≠it)):I1! Q0!:=by
 have nit:∀b u,JQ!->b≠it:=λb u e z=>vp! z hn
 refine I.step (g':=s.gens) (d':=s.drawn) (ch:=[it]) (Ct! ?_) (λb o _ _ hc e _=>k b o (kN! hc) e) (λb o _ _ hc e _=>⟨o.slots,k b o (kN! hc) e⟩) (λ_ _ _ _ n=>n) (λb o hc e=>Dd! (k b o (kN! hc) e)) (es!) (λ_ _ _ e=>e) (λb ps e=>⟨#[],DL! e⟩) (λm hm=>?_) (XP!) I.bare;·(have e:b=it:=Bh!);subst e;exact⟨h1,hL,h2,h3⟩
 .obtain⟨o,es,ep,ho,r⟩:=hm;exact⟨o,es,ep,k _ o (VR! hL) ho,r⟩
 .refine(I.DK b u e).N_ (λc v hc q=>k c v ?_ q) (λ_ q=>q) Qu!;rcases hc with z|z;(.rw[z];exact nit b u e);.exact nit c _ z
theorem Inv.tok(I:K!)(t:Nat):I1! { s with toks:=t }:=I.un (h':=s.heap) (t':=t) Un.refl I.DK
theorem Inv.kept(I:K!)(k:vU! (JA! s.heap.get?)):I1! Q0!:=I.un (Un.kept k) (I.DK.kept k)
theorem Inv.laid{a:Addr}{o:HO}{t':Nat}(I:K!)(k:vU! (JA! s.heap.get?))(hp:Wk!)(new:PU! K8! h' a o) : xz K8! Q0!:=I.un (Un.laid k hp (I.DK.fresh hp)) (I.DK.laid k hp new)
theorem Inv.write{x e:Addr}{o:HO}{t':Nat}(I:K!)(mu:pL (H x))(he:e=x\/R1! e x)(k:ji! (b≠e) (JA! s.heap.get?))(mQ:∃u,KC! e u)(new:PU! (Pt! x) h' x o):xz (Pt! x) Q0!:=I.un (Un.write mu he k mQ) (I.DK.write mu he k mQ new)
theorem Inv.cR(I:K!)(h:∀p∈aL,Rj! p.1 p.2/\h? p.1/\p.1≠X.env.locals/\p.1∉X.fs/\∀v,p.2.data≠Aa! v):cL! X aL :=vg! I.ok (λp hp=>(ZI hp).elim (λz=>I.pin p (ZB _ z)) (h p))
theorem Z5{N:U?}(hN:N.Nodup){i j:Nat}{x:Str}(a:N[i]?=A! x)(b:N[j]?=A! x):i=j:=by obtain⟨h1,e1⟩:=ZJ a;obtain⟨h2,e2⟩:=ZJ b;exact(FN hN).mp (e1.trans e2.symm)
theorem Ul{M:Model}{A:Around}{E:V?}{i:Nat}{x:Str}{v:V}{u:Value}{Q:Hv!}(I:K!)(hN:X.N.Nodup)(hi:Nf!)(hx:lm!)(r:DA!)(h:∀s',Inv X AA rN! H s'->(∃a,uH! a s.heap s'.heap/\(a=X.env.locals\/E7! X.env.cells.lookup a))->Q () s')(hf:oI!:=by first|exact Ed!|exact YE!|assumption):LK! (storeName X.env x u):=by
 obtain⟨m,hn,hl⟩:=id I.loc;have fE:AE! (X.env.scope.kind == .class || (X.env.scope.kind == .module&&X.env.locals != X.env.globals)):=be I.ok.kind
 have qD:i<σ.length:=f7! I.len hi
 have kG:=I.kG;have tracked:∀{a:Addr} {h':Heap},(∃o,WA! s.heap.get?/\NH!)->eT! a->NU X.prog X.w H h':=λ{a h'} ha hs b ob e=>by obtain⟨_,_,QN⟩:=ha;refine(I.DK b ob e).N_ (λc w' hc q=>(hs.2 c ?_).trans q) (λ_ q=>q) Qu!;rintro rfl;rcases hc with rfl|hc;(.rw[QN] at e;cases e);.rw[QN] at hc;cases hc
 rcases hx with hk|hk;.refine wpAny_storeName_local hk hn (λh' vd hs=>?_) fE;obtain⟨oL,_,_,hoL,_⟩:=id hn;refine h _ ⟨I.ok,I.os,I.bare,⟨RG!,RG!,I.base.free,λb o e hx=>?_,I.base.QU,I.base.OV,I.base.QV⟩,jp vd (λj y v' e1 e2 e3=>?_),λy c e=>?_,I.free,I.JG,FV!,tracked ⟨oL,hoL,I.free⟩ hs,by simpa using I.len⟩ (jp hs Ed!);(.exact(hs.2 b (BV (Wd! I.ok.above))).trans (a5! I.base.keep));(.obtain⟨sl,e1⟩:=a5! I.base.slot;exact⟨sl,pI! I.ok.above⟩);(.obtain⟨o',e1⟩:=nN!;exact⟨o',pI! I.ok.above⟩);(.by_cases hj:j=i;(.subst hj;rw[hi] at e1;cases e1;rw[FJ qD] at e2;cases e2;exact⟨u,r,Al! hk x!⟩);.rw[LD (Ne.symm hj)] at e2;obtain⟨u',r',q⟩:=hl j y v' e1 e2 e3;refine GM u' r';rcases q with⟨k,e⟩|⟨k,c,e,z⟩;(.refine hT! k;have:y≠x:=λe=>hj (Z5 hN e1 (e▸hi));simp[this,e]);.exact Zc! k c (z.sameBut hs (kG y c e)));(.obtain⟨w',z⟩:=I.cell y c e;exact⟨w',z.sameBut hs (kG y c e)⟩);.obtain⟨e,n,ne,nf,d⟩:=Z7!;exact⟨(hs.2 p.1 ne).trans e,n,ne,nf,d⟩
 ·(have vm:Tk X.fn x:=by rcases hf with z|z;(.exact z);.rw[z] at hk;cases hk);obtain⟨c,hc⟩:=I.ok.has x (Z! hk);obtain⟨w',z⟩:=I.cell x c hc;refine wpAny_storeName_cell I.ok.kind hk hc z (λh' vt hs=>?_);obtain⟨oc,mK,zY⟩:=id z;refine h Ix ⟨I.ok,I.os,I.bare,⟨RG!,RG!,I.base.free,λb o e hx=>?_,I.base.QU,I.base.OV,I.base.QV⟩,⟨m,hn.sameBut hs (Ne.symm (kG x c hc)),λj y v' e1 e2 e3=>?_⟩,λy c' e=>?_,I.free,I.JG,FV!,tracked ⟨oc,mK,I.JG x c hc⟩ hs,by simpa using I.len⟩ ⟨c,hs,I! hc⟩;(.exact(hs.2 b (BV (Wd! (I.ok.hX x c vm hc)))).trans (a5! I.base.keep));(.obtain⟨sl,e1⟩:=a5! I.base.slot;exact⟨sl,pI! (I.ok.hX x c vm hc)⟩);(.obtain⟨o',e1⟩:=nN!;exact⟨o',pI! (I.ok.hX x c vm hc)⟩);(.by_cases hj:j=i;(.subst hj;rw[hi] at e1;cases e1;rw[FJ qD] at e2;cases e2;exact⟨u,r,I! ⟨J! hk,c,hc,vt⟩⟩);.rw[LD (Ne.symm hj)] at e2;obtain⟨u',r',q⟩:=hl j y v' e1 e2 e3;refine GM u' r';rcases q with q|⟨k,c',e,z'⟩;(.exact J! q);.refine Zc! k c' (z'.sameBut hs ?_);rintro rfl;exact hj (Z5 hN e1 (I.ok.inj _ _ _ e hc▸hi)));(.by_cases hcc:c'=c;(.subst hcc;exact D? vt);.obtain⟨w2,z2⟩:=I.cell y c' e;exact⟨w2,z2.sameBut hs hcc⟩);.obtain⟨e,n,ne,nf,d⟩:=Z7!;refine⟨(hs.2 p.1 ?_).trans e,n,ne,nf,d⟩;intro q;rw[q,mK] at e;have q':oc=p.2:=ZO e;exact d w' (S? q' zY)
theorem Y1{M:Model}{A:Around}{E:V?}{i:Nat}{x:Str}{v:V}{u:Value}{Q:Hv!}(I:K!)(hN:X.N.Nodup)(hi:Nf!)(hx:lm!)(r:DA!)(h:∀s',Inv X AA rN! H s'->Q () s')(hf:oI!:=by first|exact Ed!|exact YE!|assumption):LK! (storeName X.env x u) :=Ul I hN hi hx r (λs' I' _=>h s' I') hf
theorem Inv.cN{s':Shared}{ch:M!}(I:K!)(ho:s'.os=s.os)(u:nx! X.stack ch s'.heap)(DK:rM! s'.heap)(hg:TW!)(gO:∀b∈ch,oy!/\Ju!/\(Zn!)/\k5!):IR!:=by obtain⟨h',g',d',t',o'⟩:=s';have e:o'=s.os:=ho;subst e;exact I.call (g':=g') (t':=t') (d':=d') u DK hg gO
universe E
abbrev XK:=Value->I4! KP!
abbrev St:=Bl! (Option V)
abbrev VK:=hs!
abbrev TE:=St->JK!
abbrev TT:=my! Jl!
abbrev TA:=my! G7!
structure Ends where
 nx:AW!
 rt:VK
 bk:AW!:=Wp!
 ct:AW!:=Wp!
abbrev TS:=Ends->AW!
inductive EP(X:G!)(AA:v!)(σ:St)(Q:VK)(u:Value)(s':Shared):Prop
 | mk v H' (_:IR!) (_:DA!) (_:Na!)
inductive TP(X:G!)(AA:v!)(σ:St)(Q:Jl!)(b:Bool)(s':Shared):Prop
 | mk H' (_:IR!) (_:Q b H')
inductive AP(X:G!)(AA:v!)(σ:St)(Q:G7!)(us:g!)(s':Shared):Prop
 | mk vs H' (_:IR!) (_:Nk!) (_:Q vs H')
def SP(X:G!)(AA:v!)(D:Ends)(f:Flow)(s':Shared):Prop :=
 match f with
 | .next=>RI! (D.nx EV H')
 | .brk=>RI! (D.bk EV H')
 | .cont=>RI! (D.ct EV H')
 | .ret u=>∃v EV H',ul!/\DA!/\D.rt v H'
def PE(X:G!)(e:Expr)(t:TE):Prop :=
 ∀(AA:v!)(s:Shared)(σ:St)(H:Hp)(Q:VK),j1! (Eo! (eval e X.env))
def PT(X:G!)(e:Expr)(t:TT):Prop :=
 ∀(AA:v!)(s:Shared)(σ:St)(H:Hp)(Q:Jl!),j1! (jd! (isTrue e X.env (eval e X.env)))
def PW(X:G!)(e:Expr)(t:TT):Prop :=
 ∀(whole:Sem Value)(AA:v!)(s:Shared)(σ:St)(H:Hp)(Q:Jl!),j1! (jd! (isTrue e X.env whole))
theorem cv(h:PW X e t):PT X e t:=h _
def PA(X:G!)(es:KB!)(t:TA):Prop :=
 ∀(pos:Pos)(AA:v!)(s:Shared)(σ:St)(H:Hp)(Q:G7!),j1! (dZ! (spliced (vx! pos es)) (AP X AA σ Q))
def PS(X:G!)(st:Stmt)(t:TS):Prop :=
 ∀(AA:v!)(s:Shared)(σ:St)(H:Hp)(D:Ends),Jf! (t D σ H) (dZ! (exec st X.env) (SP X AA D))
def QE(X:G!)(st:hK!)(t:TS):Prop :=
 ∀(AA:v!)(s:Shared)(σ:St)(H:Hp)(D:Ends),Jf! (t D σ H) (dZ! (execs st X.env) (SP X AA D))
theorem EM(h:LK! t)(hQ:∀a s,Q a s->Q' a s):wpAny M A t Q' E s:=EZ h hQ e5!
universe S
variable {X:Cx Kx}
theorem bin{a b:Expr}{ta tb:TE}(ha:En!)(hb:If!){AA:v!}{s:Shared}{σ:St}{H:Hp}{R:V->hs!}(I:K!)(h:kD! (kH! (R x y H2))){α:Type}{Q:AC! α}{f:Value->Value->Sem α}(hf:∀v u s2 x y H2,xz H2 s2->Ma!->A8!->R x y H2->pS! s2) : lE! a (λv EK=>Zj! (eval b X.env) (λu VP=>pS! VP) EK):=by refine DY! (s4! ha);rintro v s1 ⟨x,H1,I1,r1,q1⟩;refine jF! hb;rintro u s2 ⟨y,H2,I2,r2,q2⟩;exact hf v u s2 x y H2 I2 r1 r2 q2
inductive Jpg(i:Nat)(σ:St)(H:Hp)(Q:VK):Prop
 | mk (v) (e0:hJ! Km!) (e1:Q v H)
def Ca(i:Nat):TE:=λσ H Q=>Jpg i σ H Q
def tC(v:V):TE:=λ_ H Q=>Q v H
theorem Jmc(hN:Nf!)(hv:vT! xG)(hd:Et!:=by decide)(cZ:AE! (x==("__classdict__":Str)):=by decide):PE X ZY! (Ca i):=by
 intro AA s σ H Q I h;obtain⟨v,e,h⟩:=h;obtain⟨m,hn,hl⟩:=I.loc;obtain⟨u,r,l⟩:=hl i x v hN e hv;have fin:lT! u:=⟨v,H,I,r,h⟩;rcases l with⟨hk,hm⟩|⟨hk,c,hc,QO⟩;.exact wpAny_Name (wpAny_loadName_local I.ok.kind hk hn hm fin) hd
 .rcases hk with hk|hk;(.exact wpAny_Name (wpAny_loadName_cell I.ok.kind hk hc QO fin) hd);.exact wpAny_Name (wpAny_loadName_free I.ok.kind hk hc QO fin cZ) hd
theorem Ah:Dq! Wq! (Op i) j (tC (a! i)):=fE! (wpAny_Constant_int ⟨Pz!,H,I.tok _,z?,h⟩)
theorem E1:Dq! Wq! (bi b) j (tC (.bl b)):=fE! (Constant_bool (QE! (.bl b) h))
theorem N3:PE X (Wq! l? j pos) (tC .EO):=fE! (Constant_none (QE! .EO h))
theorem Be:Dq! Wq! (CC! x) j (tC (CC! x)):=fE! (Calls.Constant_str ⟨Ak! x,H,I.tok _,z?,h⟩)
def Gl(X:G!)(x:Str):Prop:=E7! X.env.kindOf .globalImplicit
theorem K5{E:V?}{AA:v!}{s:Shared}{σ:St}{H:Hp}{x:Str}{u:Value}{pos:Pos}{Q:V?}(I:K!)(hg:GU!)(hm:YV! u)(h:Q u s)(hd:Et!:=by decide):Us! (WY! ZY!) :=Calls.Name_function_global I.ok.kind hg (Calls.loadGlobal_global (q! I.ok.glob (I.mod.glob.keeps I.bk)) hm h) hd
theorem yM(I:K!)(hg:GU!)(hm:FM X.mg x)(hv:E7! bootBuiltins u)(h:Q u s)(hn:XS!:=by decide)(hd:Et!:=by decide):Us! (WY! ZY!):=by obtain⟨mb,h1,h2⟩:=I.mod.blt;exact Calls.Name_function_global I.ok.kind hg (Calls.loadGlobal_builtin (q! I.ok.glob (I.mod.glob.keeps I.bk)) hm (q! I.ok.blt (h1.keeps I.bk)) ((h2 x hn).trans hv) h) hd
def t2I(ta tb:TE)(k:Int->I4! Int):AW!:=λσ H=>kD! (kH! (∃i j,Mu!/\XW!/\k i j H2))
variable {a b:Expr}{ta tb:TE}{pos:Pos}
def PC(X:G!)(op:CmpOp)(a b:Expr)(t:TE):Prop :=
 ∀(AA:v!)(s:Shared)(σ:St)(H:Hp)(Q:VK),XH! (t σ H Q ->
  lE! a (λv EK=>Zj! (eval b X.env) (λu VP=>uM! (compareOp op v u) (EP X AA σ Q) VP) EK))
theorem Z6(b:Expr)(h:op≠.In)(h2:op≠Mg!):Ur!:=by
 have e1:AE! (op==CmpOp.In):=gB! ap!
 have e2:AE! (op==CmpOp.NotIn):=gB! (Fh! h2)
 cases b<;>simp[behindInMarks,e1,e2]
def kR(p:Wh! Bool)(ta tb:TE):TE:=λσ H Q=>t2I ta tb (λi j H2=>Q (.bl (p i j)) H2) σ H
abbrev tLt:Ul!:=bX! (i<j)
abbrev tLe:Ul!:=bX! (i<=j)
abbrev tGt:Ul!:=bX! (j<i)
abbrev tGe:Ul!:=bX! (j<=i)
abbrev Jpv:Ul!:=bX! (i=j)
abbrev Jrl:Ul!:=kR λi j=>Ha! (i=j)
theorem Jmg{op:CmpOp}{p:Wh! Bool}(ha:En!)(hb:If!)(rule:∀(i j:Int) (t u:Tok) (Q:V?) (s:Shared),mF! (p i j)->dZ! (compareOp op Oc! (a! j u)) Q):PC X op a b (kR p ta tb):=by intro AA s σ H Q I h;refine sJ! bin ?_;obtain⟨i,j,rfl,rfl,q⟩:=q;obtain⟨t,rfl⟩:=rx;obtain⟨t',rfl⟩:=ry;exact rule i j t t' _ s2 (DR! (.bl _) H2 I2 q)
theorem Jmh(ha:En!)(hb:If!):PC X .Eq a b (Jpv ta tb):=Jmg ha hb λ_ _ _ _ _ _ h=>eq_int (f1! Bool.beq_eq_decide_eq)
inductive ItB  (x:V) (H1:Hp) (Q:Jl!):Prop
 | mk (c) (e0:x=.bl c) (e1:Q c H1)
def tB(t:TE):TT:=ds! t (ItB  x H1 Q)
theorem Jme(h:PC X op a b t)(h1:Ur!:=by first|exact Z6 _ JX! JX!|rfl):AO! (.Compare a [op] [b] pos) t:=λAA s σ H Q I hw=>wpAny_Compare1 (h AA s σ H Q I hw) h1
theorem Es(h:PC X op a b t)(h1:Ur!:=by first|exact Z6 _ JX! JX!|rfl):PT X (.Compare a [op] [b] pos) (tB t):=by intro AA s σ H Q I hw;refine wpAny_isTrue_Compare1 (EM (o8!) λv s1 h1=>EM h1 λu s2 h2=>EM h2 λc s3 ⟨x,H1,I1,r1,q1⟩=>?_) h1;obtain⟨d,rfl,q⟩:=q1;cases r1;exact LB ⟨H1,I1,q⟩
theorem Jl(h:AO! e t)(he:∀whole,isTrue e X.env whole=(do let v <-whole;standAt e.pos;holding [v] (truthy v)):=by intro _;rfl):PT X e (tB t):=by
 intro AA s σ H Q I hw
 refine isTrue_plain (EM (o8!) λv s1 ⟨x,H1,I1,r1,q1⟩=>?_) (he _)
 obtain⟨d,rfl,q⟩:=q1
 cases r1
 exact LB ⟨H1,I1,q⟩
variable {tA rG:TT}{rest:List Expr}
def Jpy(t u:TT):TT:=kE! (XL! (CL! u Q) (Q false H1))
def tOr(t u:TT):TT:=kE! (XL! (Q true H1) (CL! u Q))
def Jpt(t:TT):TT:=kE! (Q (!c) H1)
theorem Mm(ha:bM!):PW X (Wr! .And [a] pos) tA:=by intro wh AA s σ H Q I h;refine cC! isTrue_and ha Q (λc s1 e=>?_);cases c with | true=>exact isTrue_and_nil e | false=>exact e
theorem Kh(ha:bM!):PW X (Wr! .Or [a] pos) tA:=by intro wh AA s σ H Q I h;refine cC! isTrue_or ha Q (λc s1 e=>?_);cases c with | false=>exact isTrue_or_nil e | true=>exact e
theorem N2(ha:bM!)(hb:mm! .And Q1! rG):mm! .And (a::Q1!) (Jpy tA rG):=by intro wh AA s σ H Q I h;refine aT! isTrue_and;rintro c s1 ⟨H1,I1,q1⟩;cases c with | true=>exact hb wh AA s1 σ H1 Q I1 q1 | false=>exact⟨H1,I1,q1⟩
theorem O0(ha:bM!)(hb:mm! .Or Q1! rG):mm! .Or (a::Q1!) (tOr tA rG):=by intro wh AA s σ H Q I h;refine aT! isTrue_or;rintro c s1 ⟨H1,I1,q1⟩;cases c with | true=>exact⟨H1,I1,q1⟩ | false=>exact hb wh AA s1 σ H1 Q I1 q1
theorem Jgm(ha:bM!):PT X (.UnaryOp .Not a pos) (Jpt tA):=Ws! (cC! isTrue_not ha (λc H1=>Q (!c) H1) (λc s1 ⟨H1,I1,q1⟩=>⟨H1,I1,q1⟩))
def Jn5(ta tb:TE):TE:=S1! (∃c,x=.bl c/\XL! (CL! tb Q) (Q (.bl false) H1))
theorem Jmd(h:AO! a t):Dq! Wr! op [a] t:=λAA s σ H Q I hw=>BoolOp_one (h AA s σ H Q I hw)
theorem Jmf(ha:En!)(hb:Dq! Wr! .And (Q1!) tb):Dq! Wr! .And (a::Q1!) (Jn5 ta tb):=by intro AA s σ H Q I h;refine aT! BoolOp_and;rintro v s1 ⟨x,H1,I1,r1,q1⟩;obtain⟨c,rfl,q1⟩:=q1;cases r1;refine LB ?_;cases c with | true=>exact cy! hb Q | false=>exact DR! (.bl false) H1 I1 q1
def tIf(t:TT)(ta tb:TE):TE:=kE! (XL! (CL! ta Q) (CL! tb Q))
theorem Zt(hc:PT X c tA)(ha:En!)(hb:If!):AO! (.IfExp c a b pos) (tIf tA ta tb):=by intro AA s σ H Q I h;refine uu! wpAny_IfExp hc;rintro d s1 ⟨H1,I1,q1⟩;cases d with | true=>exact cy! ha Q | false=>exact cy! hb Q
universe E
def DY(K:W.Frag)(H:Hp)(a:Addr)(xs:C!):Prop :=
 Jq! a .BJ xs \/
  ∃(o:Obj)(its:Dg!)(n:Nat),WA! K.lookup/\o.cls=EF! SB/\o.dict=none/\o.data=Ne! its/\its.size<=sizeLine/\Vals xs its.toList
def CA(K:W.Frag)(H:Hp)(a:Addr)(xs:C!):Prop :=
 Jq! a .BB xs \/
  ∃(o:Obj)(its:Dg!)(n:Nat),WA! K.lookup/\XX!/\o.data=Ne! its/\its.size<=sizeLine/\Vals xs its.toList
def Jrd:Value->Go! V
 | .none=>A! .EO
 | .bool b=>FE! .bl b
 | .int i _=>Go i
 | .str x _=>i7! x
 | .bytes b _=>FE! .bw b
 | .float b _=>FE! .sR b
 | .ref a=>EW!
 | .type n=>FE! .ty n
 | _=>none
theorem RelV.abs(r:H0!):L? Jrd u x:=by cases x with | EO=>cases r;rfl | bl _=>cases r;rfl | int _=>obtain⟨t,rfl⟩:=r;rfl | str _=>obtain⟨t,rfl⟩:=r;rfl | bw _=>obtain⟨t,rfl⟩:=r;rfl | sR _=>obtain⟨t,rfl⟩:=r;rfl | ref _=>cases r;rfl | ty _=>cases r;rfl
theorem RelV.inj(r:H0!)(q:A8!):x=y:=ZO (r.abs.symm.trans q.abs)
theorem Vals.inj{xs:C!}{us:g!}(p:Ds!):∀{ys:C!},Vals ys us->xs=ys:=by induction p with | nil=>intro ys q;cases q;rfl | cons r t ih=>intro ys q;cases q with|cons r' t'=>rw[r.inj r',ih t']
universe S
variable {X:Cx Kx}{AA:List (Addr×Obj)}{σ:St}{H:Hp}{s:Shared}{a:Addr}{xs ys:List V}
theorem DY.of{K:W.Frag}(h:I3! a .BJ xs):IE!:=Y5!
theorem CA.of{K:W.Frag}(h:Kt! xs):GI!:=Y5!
theorem Inv.list{X:G!}(I:K!)(h:DY Kx H a xs):∃its:g!,Tv!/\PlainL s.heap a its.toArray/\Dz!:=by
 rcases h with h|⟨o,its,n,hk,hc,hd,hs,hz,r⟩;.obtain⟨z,its,n,r,e⟩:=h.ok I.DK;exact⟨its,r,⟨_,n,e,rfl,rfl,rfl⟩,z⟩
 .refine A2! its.toList r ⟨o,n,I.YX a o hk,hc,hd,by simpa using hs⟩;have e:=r.length;simp only[CM] at e;lia
theorem Inv.tuple{X:G!}(I:K!)(h:CA Kx H a xs):∃its:g!,Tv!/\IsTup s.heap a its.toArray/\Dz!:=by
 rcases h with h|⟨o,its,n,hk,hc,hs,hz,r⟩;.obtain⟨z,its,r,p⟩:=h.ok I.DK;exact⟨its,r,p,z⟩
 .refine A2! its.toList r ⟨o,I.YX a o hk,hc,n,by simpa using hs⟩;have e:=r.length;simp only[CM] at e;lia
theorem Inv.fq{X:G!}(I:K!)(h:DY Kx H a xs)(h':DY Kx H a ys):xs=ys:=by
 obtain⟨its,r,⟨o,n,e,_,_,d⟩,_⟩:=I.list h;obtain⟨its',r',⟨o',n',e',_,_,d'⟩,_⟩:=I.list h';rw[e] at e';cases e';rw[d] at d';injection d' with d1 _;have:its=its':=Ge! (Px! Array.toList d1)
 subst this;exact r.inj r'
theorem Inv.dB{X:G!}(I:K!)(h:CA Kx H a xs)(h':CA Kx H a ys):xs=ys:=by
 obtain⟨its,r,⟨o,e,_,n,d⟩,_⟩:=I.tuple h;obtain⟨its',r',⟨o',e',_,n',d'⟩,_⟩:=I.tuple h';rw[e] at e';cases e';rw[d] at d';injection d' with d1 _;have:its=its':=Ge! (Px! Array.toList d1)
 subst this;exact r.inj r'
universe E
abbrev Cx.VO(X:G!)(E:V?):G!:={ X with xe:=E }
abbrev Cx.oJ(X:G!):G!:=X.VO Wp!
theorem Cx.Ok.VO{X:G!}(ok:X.Ok)(E:V?):(X.VO E).Ok :=oC!
theorem Cx.Ok.NN{X:G!}{E:V?}(ok:(X.VO E).Ok):X.Ok :=oC!
universe S
variable {X:Cx Kx}{AA:List (Addr×Obj)}{σ:St}{H:Hp}{s:Shared}{E:Value->Shared->Prop}
theorem Inv.VO(I:K!)(E:V?):qY! (X.VO E):=ls! I.ok.VO E I.pin
theorem Inv.NN(I:qY! (X.VO E)):K!:=vg! I.ok.NN I.pin
theorem SP.NN(h:SP (X.VO E) AA D f s'):SP X AA D f s':=by cases f with | next=>obtain⟨EV,H',I,q⟩:=h;exact⟨EV,H',I.NN,q⟩ | brk=>obtain⟨EV,H',I,q⟩:=h;exact⟨EV,H',I.NN,q⟩ | cont=>obtain⟨EV,H',I,q⟩:=h;exact⟨EV,H',I.NN,q⟩ | ret u=>obtain⟨v,EV,H',I,r,q⟩:=h;exact⟨v,EV,H',I.NN,r,q⟩
theorem QE.oJ{st:hK!}{t:TS}(h:QE X.oJ st t):QE X st t:=λAA s σ H D I hw =>EZ (h AA s σ H D (I.VO _) hw) (λ_ _ q=>q.NN) λ_ _ z=>False.elim z
universe E
universe S
variable {X:Cx Kx}{st:Stmt}{rest:List Stmt}{t u:TS}{e:Expr}{te:TE}{pos:Pos}
def tW:TS:=Mk! (Pb! H)
def Jnz(t u:TS):TS:=Mk! (t { D with nx:=u D } σ H)
theorem A5:QE X [] tW:=λ_ _ σ H _ I h=>OY (Jw! H I h)
theorem Ac(h1:PS X st t)(h2:QE X rest u):QE X (st::rest) (Jnz t u):=by intro AA s σ H D I h;refine cC! wpAny_execs_cons h1 { D with nx:=u D } (λf s1 q=>?_);cases f with | next =>obtain⟨EV,H',I',q⟩:=q;exact h2 AA s1 EV H' D I' q | ret v=>exact q | brk=>exact q | cont=>exact q
theorem Af(h1:PS X st t):QE X [st] t:=by intro AA s σ H D I h;refine cC! wpAny_execs_cons h1 D (λf s1 q=>?_);cases f with | next=>exact OY q | ret v=>exact q | brk=>exact q | cont=>exact q
theorem Inv.quiet(I:K!):r? (interactive X.env):=by simp[interactive,I.ok.kind]
def Jn2(te:TE):TS:=RK! te (λ_ H1=>Pb! H1)
theorem Bf(he:Nw!)(hs:qj! e none:=by rfl):PS X (.Expr e pos) (Jn2 te):=by intro AA s σ H D I h;exact wpAny_Expr_any (Yt! he (Jw! H1 I1 q1)) I.quiet hs
def Jn0(te:TE):TS:=RK! te D.rt
theorem Ar(he:Nw!):PS X (.Return (some e) pos) (Jn0 te):=by intro AA s σ H D I h;exact wpAny_Return_some (Yt! he ⟨x,σ,H1,I1,r1,q1⟩)
def xU(c:TT)(t u:TS):TS:=RK! c (λb H1=>v6 (b=true) (t D σ H1) (u D σ H1))
theorem Bj(hc:PT X c tc)(ha:QE X a t)(hb:QE X b u):PS X (.If c a b pos) (xU tc t u):=by intro AA s σ H D I h;refine uu! wpAny_If hc;rintro d s1 ⟨H1,I1,q1⟩;cases d with | true=>exact cy! ha D | false=>exact cy! hb D
def Jlr:TS:=Q4!
theorem Jej:QE X GB Jlr:=λ_ _ _ _ _ _ h=>h.elim
universe E
abbrev TG:=V->St->WX! AW!
abbrev jF:=C!->St->WX! AW!
def PG(X:G!)(target:Expr)(t:TG):Prop :=
 ∀(AA:v!)(s:Shared)(σ:St)(H:Hp)(v:V)(u:Value)(Q:AW!),Jf! DA! (t v σ H Q ->
  ez! (assign target X.env u) (λ_ s'=>RI! (Q EV H')))
def s_(X:G!)(ts:KB!)(t:jF):Prop :=
 ∀(AA:v!)(s:Shared)(σ:St)(H:Hp)(vs:C!)(us:g!)(Q:AW!),Jf! Nk! (t vs σ H Q ->
  ez! (assignInOrder ((assignEach ts X.env).map db) us) (λ_ s'=>RI! (Q EV H')))
abbrev Jrm:=V->V->V->WX! NL!
abbrev TIp:=Zr!
universe S
variable {X:Cx Kx}{pos:Pos}
def Jlh(i:Nat):TG:=λv σ H Q=>Q rN! H
theorem Bg{i:Nat}{x:Str}(hN:X.N.Nodup)(hi:Nf!)(hx:lm!)(hf:oI!:=by first|exact Ed!|exact YE!|assumption):PG X ZY! (Jlh i):=by intro AA s σ H v u Q I r h;exact wpAny_assign_Name (Y1 I hN hi hx r (λs' I'=>⟨_,H,I',h⟩) hf)
def Jq9:jF:=λvs σ H Q=>vs=[]/\Q σ H
inductive Jnj(t:TG)(u:jF)(vs:C!)(σ:St)(H:Hp)(Q:AW!):Prop
 | mk (v r) (e0:vs=v::r) (e1:t v σ H λEV H'=>u r EV H' Q)
def Jo3(t:TG)(u:jF):jF:=λvs σ H Q=>Jnj t u vs σ H Q
theorem Gd:s_ X [] Jq9:=by intro AA s σ H vs us Q I r h;obtain⟨e,h⟩:=h;subst e;cases r;exact assignInOrder_nil (Jw! H I h)
theorem Bk(h1:PG X e t)(h2:s_ X es u)(hs:(assignEach (e::es) X.env).map db=assign e X.env::(assignEach es X.env).map db:=by rfl):s_ X Pd! (Jo3 t u):=by intro AA s σ H vs us Q I r h;obtain⟨v,vr,e1,h⟩:=h;subst e1;cases r with | cons r rr =>rw[hs];refine assignInOrder_cons (EM (h1 AA s σ H _ _ _ I r h) ?_);rintro _ s1 ⟨bQ,H1,I1,q1⟩;exact h2 AA s1 bQ H1 _ _ Q I1 rr q1
inductive Jpq(K:W.Frag)(n:Nat)(t:jF)(v:V)(σ:St)(H:Hp)(Q:AW!):Prop
 | mk (a xs) (e0:XK!) (e1:GI!) (e2:xs.length=n) (e3:t xs σ H Q)
def Jq8(K:W.Frag)(n:Nat)(t:jF):TG:=λv σ H Q=>Jpq K n t v σ H Q
theorem Jm{X:G!}{es:KB!}{k:Nat}{t:jF}{n:Nat}(hc:BB!)(h:s_ X es t)(hn:(assignEach es X.env).length=n:=by rfl)(vT:C? (assignEach es X.env).findIdx?=none:=by rfl):PG X (.Tuple es k pos) (Jq8 Kx n t):=by intro AA s σ H v u Q I r hw;obtain⟨a,xs,e1,hq,hl,hw⟩:=hw;subst e1;cases r;obtain⟨its,rv,ht,hz⟩:=Kb!;refine assign_Tuple_tuple (I.ok.hd hc) ht (by simp[hn,<-hl,rv.length]) vT λh' hx=>?_;have I1:KM!:=I.kept (t':=s.toks) (Ab! (hx b o (BV (A_ e)) e));exact h AA _ σ H xs _ Q I1 (by simpa using rv) hw
def Jn4(te:TE)(g:TG):TS:=Mk! (te σ H λx H1=>g x σ H1 D.nx)
theorem Ri(he:Nw!)(hg:PG X tg g)(hs:swapsWithSole [tg] e pos.line X.env=pure false:=by rfl)(hw:swappedStores [tg] e X.env=pure none:=by rfl)(h1:(assignEach [tg] X.env).map db=[assign tg X.env]:=by rfl):nS! [tg] e (Jn4 te g):=by intro AA s σ H D I h;refine wpAny_Assign_stores ZJ! hs hw;rintro v s1 ⟨x,H1,I1,r1,q1⟩;rw[h1];exact EM (hg AA s1 σ H1 x v _ I1 r1 q1) λ_ s2 q=>q
theorem Av{i:Nat}{x:Str}{e:Expr}{te:TE}{pos':Pos}(hN:X.N.Nodup)(hi:Nf!)(hx:lm!)(he:Nw!)(hs:qj! e (nI! x pos'):=by rfl)(hf:oI!:=by first|exact Ed!|exact YE!|assumption) : nS! [Ez! x pos'] e (Jn4 te (Jlh i)):=by intro AA s σ H D I h;refine wpAny_Assign_Name ZJ! hs;rintro v s1 ⟨y,H1,I1,r1,q1⟩;exact Y1 I1 hN hi hx r1 (λs2 I2=>⟨_,H1,I2,q1⟩) hf
inductive Jlq(c:TT)(tb:TS)(D:Ends)(σ:L2.St)(H:Hp):Prop
 | mk (W:iB!) (_:(∃m,W m σ H)) (_:∀m σ H,W m σ H->c σ H λb H1=>v6 (b=true) (∃N:AW!,(∀EV H',N EV H'->∃m',m'<m/\W m' EV H')/\tb { D with nx:=N,ct:=N,bk:=D.nx } σ H1) (Pb! H1))
theorem Rh(hp:PassesOwn bv! X.A X.env X.xe)(hc:PT X c tc)(hb:QE X body tb):PS X (.While c body [] pos) (Jlq tc tb):=by intro AA s σ H D I h;obtain⟨W,⟨m0,w0⟩,turn⟩:=h;refine wpAny_While (codeAny_whileLoop (λn s'=>RI! (W n EV H')) ?_ m0 (Jw! H I w0));rintro n s1 ⟨bQ,H1,I1,w1⟩;refine mo! (hc AA s1 bQ H1 _ I1 (turn n bQ H1 w1));rintro b s2 ⟨H2,I2,q2⟩;cases b with | true =>obtain⟨N,hN,q2⟩:=q2;rw[e?];refine IJ hp (EM (hb AA s2 bQ H2 _ I2 q2) λf s3 q3=>?_);(cases f with | next =>obtain⟨dm,H3,I3,n3⟩:=q3;obtain⟨m',hm,w3⟩:=hN dm H3 n3;exact⟨m',hm,dm,H3,I3,w3⟩ | cont =>obtain⟨dm,H3,I3,n3⟩:=q3;obtain⟨m',hm,w3⟩:=hN dm H3 n3;exact⟨m',hm,dm,H3,I3,w3⟩ | brk=>exact q3 | ret v=>exact q3) | false =>rw[AB AR];exact OY ⟨bQ,H2,I2,q2⟩
universe E
structure It where
 go:I4! Nat
 ZQ:Nat->Hp->hs!
 stop:I4! Nat
def Ub(X:G!)(AA:v!)(H:Hp)(b:Addr):Prop :=
 t?/\Ju!/\b∉X.fs/\oy!/\(Zn!)/\k5!
theorem Inv.bG(I:K!)(hb:s.heap.objs.size<=b)(hn:MM!):Ub X AA H' b:=by
 refine⟨hn,FH (BX I.lt hb),I.yy hb,I! (AV I.sz hb),λx c e z=>?_,λp hp z=>?_⟩;.obtain⟨v,q⟩:=bO!;exact Ka! (BX q.lt (hk! z))
 .exact Ka! (BX (A_ (I.pin p hp).1) (hk! z))
structure Turn(P:Program)(w:World)(K:W.Frag)(tg:Expr)(J:It)(fp:M!)(it:Addr)(tn:KJ! Nat):Prop where
 mem:it∈fp
 obj:∀i h,tn i h->Gf! (∃o,De!/\∀v,o.data≠Aa! v)
 keep:∀i h h',tn i h->(Gf! (∀o,De!->V5!))->tn i h'
 item:∀(X:Cx K),X.prog=P->X.w=w->BB!->∀(i:Nat)(AA:v!)(s:Shared)(σ:St)(H:Hp)(E:V?),K!->(Gf! (Ub X AA H b))->tn i s.heap->J.go i H ->
  PE! P w X.A (pyNext (As! it)) (λr s1=>∃u,r=A! u /\
   PE! P w X.A (letOwnedTupleGo tg FO! u) (λ_ s2=>∃x H',d2! s2/\H0!/\J.ZQ i H x H'/\tn (i+1) s2.heap/\RL!) E s1) E s
 done:∀(X:Cx K),X.prog=P->X.w=w->BB!->∀(i:Nat)(AA:v!)(s:Shared)(σ:St)(H:Hp)(E:V?),K!->(Gf! (Ub X AA H b))->tn i s.heap->J.stop i H ->
  PE! P w X.A (pyNext (As! it)) (λr s1=>r=none/\I1! s1) E s
 self:∀(A:Around)(i:Nat)(s:Shared)(Q:V?)(E:V?),tn i s.heap->BH! it s->PE! P w A (pyIter (As! it)) Q E s
abbrev TI:=my! ht!
inductive PIE(X:G!)(AA:v!)(σ:St)(tg:Expr)(R:ht!)(vE:Value)(s2:Shared):Prop
 | mk (it:Addr) (fp:M!) (tn:KJ! Nat) (J:It) (H':Hp) (_:vE=F? it) (_:d2! s2) (_:Turn X.prog X.w Kx tg J fp it tn) (_:tn 0 s2.heap) (_:(Xb! H')) (_:R J H')
def PI(X:G!)(tg iter:Expr)(wi:TI):Prop :=
 ∀(AA:v!)(s:Shared)(σ:St)(H:Hp)(R:ht!),XH! (wi σ H R ->
  lE! iter (λv s1=>uM! (pyIter v) (PIE X AA σ tg R) s1))
theorem U9{M:Model}{A:Around}{E:V?}{s:Shared}{tg:Expr}{it:Addr}{u:Value}{o:Obj}{n:String}{vs:Dg!}{Q:Hv!}(ho:Fa! s.heap.get? it)(hc:o.cls=EF! n)(hd:o.data=TC!)(hn:r? (["enumerate","zip",Iq!,"dict_reverseitemiterator","odict_iterator","itertools.zip_longest","itertools.pairwise"].contains n))(hQ:Q () s):LK! (letOwnedTupleGo tg FO! u):=by unfold letOwnedTupleGo;cases tg<;>first | exact ZS hQ | (cases u<;>first | exact ZS hQ | (refine N0! wpAny_load ho;rw[hc,hd];show LK! (Lm! (AT! (["enumerate","zip",Iq!,"dict_reverseitemiterator","odict_iterator","itertools.zip_longest","itertools.pairwise"].contains n&&vs[0]?==A! (rawInt _))) _ _);rw[AB (by intro h;rw[hn,Bool.false_and] at h;cases h)];exact ZS hQ))
def bz(K:W.Frag)(a:Addr):It :=
 UD! (λi H=>∃xs x,IE!/\H9!) (∀xs,IE!->H9!) (λi H=>∃xs,IE!/\xs.length<=i)
def e_(K:W.Frag)(a:Addr):It :=
 UD! (λi H=>∃xs x,GI!/\H9!) (∀xs,GI!->H9!) (λi H=>∃xs,GI!/\xs.length<=i)
def di(lo:Int)(n:Nat):It:=UD! (λi _=>i<n) (x=a! (lo+i)) (λi _=>n<=i)
theorem Jd6{P:Program}{w:World}{K:W.Frag}{tg:Expr}(a it:Addr):U4! (bz K a) (h.IsListIter it a i) where
 mem:=x!
 obj:=Q5! (by
  have e:b=it:=Bh!
  subst e
  obtain⟨o,e,c,d⟩:=st
  exact Fo! (Xc! d))
 keep:=λi h h' st k=>st.at λo e=>ku! k it
 item:=by
  intro X hP hw hc i AA s σ H E I hf st hg
  subst hP hw
  obtain⟨xs,x,hq,hx⟩:=hg
  obtain⟨its,rv,p,hz⟩:=Hz!
  obtain⟨u,hu,ru⟩:=rv.get hx
  obtain⟨f0,f1,f2,f3,f4,f5⟩:=Ex!
  refine wpAny_pyNext_list_item st p.isList (x:=u) (Wv!) λh' QQ sb=>?_
  have I1:KM!:=eL! (CE! bA!)
  obtain⟨o,e,c,d⟩:=id QQ
  exact FT! u (c5! d x ru (x? (λys hy=>H! (I.fq hy hq) hx)) QQ)
 done:=by
  intro X hP hw hc i AA s σ H E I hf st hg
  subst hP hw
  obtain⟨xs,hq,hx⟩:=hg
  obtain⟨its,rv,p,hz⟩:=Hz!
  obtain⟨f0,f1,f2,f3,f4,f5⟩:=Ex!
  have hl:=rv.length
  exact wpAny_pyNext_list_end GW! st p.isList (fR!) (RN! (eL! (kn! hb)))
 self:=UE! wpAny_pyIter_listiter
theorem Ja7{P:Program}{w:World}{K:W.Frag}{tg:Expr}(a it:Addr):U4! (e_ K a) (h.IsTupleIter it a i) where
 mem:=x!
 obj:=Q5! (by
  have e:b=it:=Bh!
  subst e
  obtain⟨o,e,c,d⟩:=st
  exact Fo! (Xc! d))
 keep:=λi h h' st k=>st.at λo e=>ku! k it
 item:=by
  intro X hP hw hc i AA s σ H E I hf st hg
  subst hP hw
  obtain⟨xs,x,hq,hx⟩:=hg
  obtain⟨its,rv,p,hz⟩:=Kb!
  obtain⟨u,hu,ru⟩:=rv.get hx
  obtain⟨f0,f1,f2,f3,f4,f5⟩:=Ex!
  refine wpAny_pyNext_tuple_item st (show s.heap.IsTuple a its.toArray from p) (x:=u) (Wv!) λh' QQ sb=>?_
  have I1:KM!:=eL! (CE! bA!)
  obtain⟨o,e,c,d⟩:=id QQ
  exact FT! u (c5! d x ru (x? (λys hy=>H! (I.dB hy hq) hx)) QQ)
 done:=by
  intro X hP hw hc i AA s σ H E I hf st hg
  subst hP hw
  obtain⟨xs,hq,hx⟩:=hg
  obtain⟨its,rv,p,hz⟩:=Kb!
  obtain⟨f0,f1,f2,f3,f4,f5⟩:=Ex!
  have hl:=rv.length
  exact wpAny_pyNext_tuple_end GW! st (show s.heap.IsTuple a its.toArray from p) (fR!) (RN! (eL! (kn! hb)))
 self:=UE! wpAny_pyIter_tupleiter
theorem Ja8{P:Program}{w:World}{K:W.Frag}{tg:Expr}(it:Addr)(lo:Int)(n:Nat):U4! (di lo n) (IsRangeIter h it (lo+(i:Nat)*1) (DZ!-(i:Nat)) 1) where
 mem:=x!
 obj:=Q5! (by
  have e:b=it:=Bh!
  subst e
  exact jp st (λv z=>by
   have z':Data.fields _=Data.cell v:=z
   cases z'))
 keep:=λi h h' st k=>k it Db _ st
 item:=by
  intro X hP hw hc i AA s σ H E I hf st hg
  subst hP hw
  obtain⟨f0,f1,f2,f3,f4,f5⟩:=Ex!
  have W:=Walks.range (prog:=X.prog) (w:=X.w) GW! it lo 1 n
  refine W.item i s _ _ hg st λv h' tk hv QQ kk=>?_
  obtain⟨t,rfl⟩:=hv
  have I1:I1! { s with heap:=h',toks:=tk }:=I.turned (WM! kk (Bh!)) f0 f1 f3 f4 f5
  refine KF (U9 (s:={ s with heap:=h',toks:=tk }) (n:="range_iterator") QQ rfl rfl JX! ⟨a! (lo+i),H,I1,Ch t,BP!,QQ,uv! hf⟩)
  rw[Int.mul_one]
 done:=by
  intro X hP hw hc i AA s σ H E I hf st hg
  subst hP hw
  obtain⟨f0,f1,f2,f3,f4,f5⟩:=Ex!
  exact wpAny_pyNext_range_end GW! st (by have:n<=i:=hg;lia) (RN! (eL! (kn! hb)))
 self:=UE! wpAny_pyIter_rangeiter
universe S
variable {X:Cx Kx}{tg:Expr}
def Jow(K:W.Frag)(tl:TE):TI:=Xd! tl (∃a,A3!/\(∃xs,DY K H1 a xs)/\R (bz K a) H1)
def Jq2(K:W.Frag)(tl:TE):TI:=Xd! tl (∃a,A3!/\(∃xs,CA K H1 a xs)/\R (e_ K a) H1)
theorem Dz{X:G!}{l:Expr}{tl:TE}(hl:AO! l tl):ay! (Jow Kx tl):=by
 intro AA s σ H R I h;refine aq!;rintro v s1 ⟨x,H1,I1,r1,q1⟩;obtain⟨a,e,⟨xs,hq⟩,q⟩:=q1;subst e;cases r1;obtain⟨its,rv,p,hz⟩:=I1.list hq;refine wpAny_pyIter_list p.isList ?_;refine cV! _ H1 (Zt! I1.kept Fz!) (Jd6 a _) Tu! q;have e:Ww!:=Bh!
 subst e;exact I1.bG (ZG _) Zy!
theorem Gq{X:G!}{l:Expr}{tl:TE}(hl:AO! l tl):ay! (Jq2 Kx tl):=by
 intro AA s σ H R I h;refine aq!;rintro v s1 ⟨x,H1,I1,r1,q1⟩;obtain⟨a,e,⟨xs,hq⟩,q⟩:=q1;subst e;cases r1;obtain⟨its,rv,p,hz⟩:=I1.tuple hq;refine wpAny_pyIter_tuple (show s1.heap.IsTuple a its.toArray from p) ?_;refine cV! _ H1 (Zt! I1.kept Fz!) (Ja7 a _) Tu! q;have e:Ww!:=Bh!
 subst e;exact I1.bG (ZG _) Zy!
theorem Jgj{AA:v!}{σ:St}{H:Hp}{s:Shared}{R:ht!}{E:V?}{lo hi:Int}{t u v:Tok}{tk:Nat}(I:K!)(h1:-(TK!)<=lo)(h2:lo<TK!)(h3:-(TK!)<=hi)(h4:hi<TK!)(q:R (di lo kO!) H):PE! X.prog X.w X.A (pyIter (As! s.heap.objs.size)) (PIE X AA σ tg R) E { s with heap:=Qk! DK! .fields Ut!,toks:=tk }:=by
 refine wpAny_pyIter_range (IsRange.new ..) (small_one h1 h2 h3 h4) ?_;have I1:I1! { s with heap:=Qk! DK! .fields Ut!,toks:=tk }:=I.kept Fz!;refine⟨(s.heap.push (Kj! DK! Ut!)).objs.size,[(s.heap.push (Kj! DK! Ut!)).objs.size],_,_,H,rfl,I1.kept (t':=tk) Fz!,Ja8 _ lo kO!,?_,P6!,q⟩;·(have e1:lo+h8!*1=lo:=x!);(have e2:s? kO!-h8!=Builtin.Range.rangeSize lo hi 1:=by rw[rangeSize_one];split<;>lia);show IsRangeIter _ _ (lo+h8!*1) (s? kO!-h8!) 1;rw[e1,e2];exact CM!
 ·(have e:b=(s.heap.push (Kj! DK! Ut!)).objs.size:=Bh!);subst e;exact I1.bG (ZG _) Zy!
def Jov(ta:TA):TI:=λσ H R=>ta σ H λvs H1=>∃j:Int,vs=[T! j]/\-(TK!)<=j/\j<TK!/\R (di 0 j.toNat) H1
theorem El{a:Expr}{ta:TA}{p pos:Pos}(hg:Gl X DK!)(hm:FM X.mg DK!)(ha:PA X [a] ta)(hs:starEach [a] X.env=[(false,eval a X.env)]:=by rfl):PI X tg (.Call (Ez! DK! p) [a] [] pos) (Jov ta):=by intro AA s σ H R I h;refine Call_ (yM I hg hm boot_range (PyProof.Rows.callWith_type1 (Um! (λus s1 ⟨vs,H1,I1,r1,q1⟩=>?_)) hs rfl));obtain⟨j,e,q1,q2,q⟩:=q1;subst e;cases r1 with | cons r rr =>cases rr;obtain⟨t,rfl⟩:=r;exact call_range_1 (Jgj I1 F! F! q1 q2 (by simpa using q))
def Jpu(wi:TI)(g:TG)(tb:TS):TS:=RK! wi (λJ H1=>∃W:Nat->Nat->AW!,(∃m,W 0 m σ H1)/\∀i m σ H,W i m σ H ->
 Or! J.stop J.go AW! J.ZQ)
def Rk(fp:M!)(h:Heap):v!:=fp.filterMap λb=>(h.get? b).map λo=>(b,o)
theorem Jp(hb:b∈fp)(e:De!):(b,o)∈Rk fp h:=CT.mpr ⟨b,hb,be e⟩
theorem Jes(hp:p∈Rk fp h):p.1∈fp/\NA! p.1 p.2:=by obtain⟨b,hb,e⟩:=CT.mp hp;cases q:h.get? b with | none=>rw[q] at e;cases e | some o =>rw[q] at e;have e':(b,o)=p:=ZO e;subst e';exact⟨hb,q⟩
theorem Inv.pinned(I:K!)(hf:Gf! (Ub X AA H b))(ho:Gf! (∃o,DS!/\∀v,o.data≠Aa! v)):cL! X (AA++Rk fp s.heap) :=I.cR λp hp=>(ZI hp).elim (λz=>I.pin p (ZC _ z)) λz=>by obtain⟨hb,e⟩:=Jes z;obtain⟨f0,f1,f2,_⟩:=hf p.1 hb;obtain⟨o,e',d⟩:=ho p.1 hb;rw[e] at e';cases e';exact⟨e,f0,f1,f2,d⟩
theorem Inv.NP(I:cL! X (AA++pl)):K!:=I.cR λp hp=>I.pin p (ZC _ (ZB _ hp))
theorem Et(hp:PassesOwn bv! X.A X.env X.xe)(hc:BB!)(hi:PI X tg iter wi)(hg:PG X tg g)(hb:QE X body tb)(hs:∀x,foldedSetIterable iter X.env x=pure x:=by intro _;rfl):PS X (.For tg iter body [] pos) (Jpu wi g tb):=by
 intro AA s σ H D I h;refine wpAny_For (PO! hi (λv s1 h1=>EM h1 λvE s2 h2=>?_)) hs;obtain⟨it,fp,tn,J,H2,e,I2,T,gA,f2,W,⟨m0,w0⟩,turn⟩:=h2;subst e;have a9:∀{H':Hp},(RL!)->Xb! H':=λhn b hb=>⟨DD! hn,(f2 b hb).2⟩;refine codeAny_forLoop_any (λn s'=>∃i EV H',ul!/\tn i s'.heap/\(RL!)/\W i n EV H') ?_ m0 ⟨0,σ,H2,I2,gA,uv! f2,w0⟩;rintro n s3 ⟨i,dm,H3,I3,lq,RH,w3⟩;rcases turn i n dm H3 w3 with⟨stop,qn⟩|⟨go,N,hN,step⟩;.refine mo! (T.done X rfl rfl hc i AA s3 dm H3 X.xe I3 (a9 RH) lq stop);rintro r s4 ⟨hr,I4⟩;subst hr;exact OY ⟨dm,H3,I4,qn⟩
 .refine mo! (T.item X rfl rfl hc i AA s3 dm H3 X.xe I3 (a9 RH) lq go);rintro r s4 ⟨u,hr,h4⟩;subst hr;refine IJ hp (EM h4 ?_);rintro _ s5 ⟨x,H5,I5,r5,y5,iW,dZ⟩;have I5':=I5.pinned (a9 dZ) (X! T.obj iW);refine mo! (hg _ s5 dm H5 x u _ I5' r5 (step x H5 y5));rintro _ s6 ⟨σ6,H6,I6,q6⟩;refine IJ hp (EM (hb _ s6 σ6 H6 _ I6 q6) λf s7 q7=>?_);(have again:∀{dk:St} {H7:Hp},Inv X (AA++Rk fp s5.heap) dk H7 s7->N dk H7->∃m,m<n/\∃i EV H',uJ! EV s7/\tn i s7.heap/\(RL!)/\W i m EV H':=λ{dk H7} I7 n7=>by obtain⟨m',hm,w7⟩:=hN dk H7 n7;refine⟨m',hm,i+1,dk,H7,I7.NP,T.keep _ _ _ iW λb hb o e=>(I7.pin (b,o) (ZC _ (ZC _ (Jp hb e)))).1,P6!,w7⟩;obtain⟨o,e,d⟩:=T.obj _ _ iW b hb;exact(I7.pin (b,o) (ZC _ (ZC _ (Jp hb e)))).2.1);cases f with | next=>obtain⟨dk,H7,I7,n7⟩:=q7;exact again I7 n7 | cont=>obtain⟨dk,H7,I7,n7⟩:=q7;exact again I7 n7 | brk=>obtain⟨dk,H7,I7,q7⟩:=q7;exact⟨dk,H7,I7.NP,q7⟩ | ret v=>obtain⟨x7,dk,H7,I7,r7,q7⟩:=q7;exact⟨x7,dk,H7,I7.NP,r7,q7⟩
universe E
theorem Km{K:W.Frag}{a:Addr}{xs:C!}{g:TG}{tb:TS}{D:Ends}{σ:St}{H:Hp}(Pv:iB!)(h0:Sd!)(hl:RO! Ln! IE!)(hs:∀i x σ H,kU! H9! x)(hd:UG! xs.length) : UA! AW! (Q9! (Or! (bz K a).stop (bz K a).go AW! (bz K a).ZQ)):=by
 refine Ud! Q6! Ln! xs.length;rintro i m σ H ⟨rfl,hi,p⟩;have q:=hl i σ H hi p;by_cases KH:Wx!;.refine U2! (qs! q) gF!;obtain⟨e,y⟩:=y;subst e;exact hs i x σ _ (y xs q) p
 ·(have e:fS!:=B!);subst e;exact Sa! (mz! q) p
theorem Qa{K:W.Frag}{a:Addr}{xs:C!}{g:TG}{tb:TS}{D:Ends}{σ:St}{H:Hp}(Pv:iB!)(h0:Sd!)(hl:RO! Ln! GI!)(hs:∀i x σ H,kU! H9! x)(hd:UG! xs.length) : UA! AW! (Q9! (Or! (e_ K a).stop (e_ K a).go AW! (e_ K a).ZQ)):=by
 refine Ud! Q6! Ln! xs.length;rintro i m σ H ⟨rfl,hi,p⟩;have q:=hl i σ H hi p;by_cases KH:Wx!;.refine U2! (qs! q) gF!;obtain⟨e,y⟩:=y;subst e;exact hs i x σ _ (y xs q) p
 ·(have e:fS!:=B!);subst e;exact Sa! (mz! q) p
theorem Oj{lo:Int}{n:Nat}{g:TG}{tb:TS}{D:Ends}{σ:St}{H:Hp}(Pv:iB!)(h0:Sd!)(hs:RO! (i<n) (ws! (Op (lo+i))))(hd:UG! n) : UA! AW! (Q9! (Or! (di lo n).stop (di lo n).go AW! (di lo n).ZQ)):=by
 refine Ud! (n-i) (i<=n) n;rintro i m σ H ⟨rfl,hi,p⟩;by_cases KH:i<n;.refine U2! KH (n-KE);obtain⟨e,y⟩:=y;subst e y;exact hs i σ _ KH p
 ·(have e:i=n:=B!);subst e;exact Sa! AC p
abbrev R2:=Zr!
def QS(X:G!)(f:bU!)(r:R2):Prop :=
 ∀(AA:v!)(s:Shared)(σ:St)(H:Hp)(x y:V)(v u:Value)(Q:VK),mC! A8! (r x y H Q ->
  Eo! (f v u))
def xH(X:G!)(f:Value->Sem Value)(r:V->JK!):Prop :=
 ∀(AA:v!)(s:Shared)(σ:St)(H:Hp)(x:V)(v:Value)(Q:VK),Jf! Ma! (r x H Q ->
  Eo! (f v))
def F6(X:G!)(f:Value)(r:C!->JK!):Prop :=
 ∀(AA:v!)(s:Shared)(σ:St)(H:Hp)(xs:C!)(us:g!)(Q:VK),Jf! Ds! (r xs H Q ->
  Eo! (call f us))
def Jre(X:G!)(r:V->WX! Jl!):Prop :=
 ∀(AA:v!)(s:Shared)(σ:St)(H:Hp)(x:V)(v:Value)(Q:Jl!),Jf! Ma! (r x H Q ->
  jd! (truthy v))
def RP(r:R2)(ta tb:TE):TE:=S1! (kH! (r x y H2 Q))
def tUn(r:V->JK!)(ta:TE):TE:=S1! (r x H1 Q)
inductive IrI(C:AN! Int Int)(g:k1!)(x:V)(y:V)(H:Hp)(Q:VK):Prop
 | mk (i j) (e0:Mu!) (e1:XW!) (e2:C i j) (e3:Q QU! H)
def rI(C:AN! Int Int)(g:k1!):R2:=λx y H Q=>IrI C g x y H Q
inductive Jrh(g:k1!)(x:V)(y:V)(H:Hp)(Q:VK):Prop
 | mk (i j) (e0:Mu!) (e1:XW!) (e2:Q QU! H)
def gZ(g:k1!):R2:=λx y H Q=>Jrh g x y H Q
inductive IrU(g:Int->V)(x:V)(H:Hp)(Q:VK):Prop
 | mk (i) (e0:Mu!) (e1:Q (g i) H)
def rU(g:Int->V):V->JK!:=λx H Q=>IrU g x H Q
universe S
variable {X:Cx Kx}{a b c:Expr}{ta tb tc:TE}{pos:Pos}
theorem xQ(ha:En!)(hb:If!){AA:v!}{s:Shared}{σ:St}{H:Hp}{R:V->hs!}(I:K!)(h:kD! (kH! (R x y H2))){Q:V?}{f:bU!}(hf:∀v u s2 x y H2,xz H2 s2->Ma!->A8!->R x y H2->pS! s2) : lE! a (λv EK=>Zj! (eval b X.env) (λu VP=>pS! VP) EK):=by refine DY! (s4! ha);rintro v s1 ⟨x,H1,I1,r1,q1⟩;refine jF! hb;rintro u s2 ⟨y,H2,I2,r2,q2⟩;exact hf v u s2 x y H2 I2 r1 r2 q2
theorem Bh{op:Operator}{r:R2}(ho:TF! op r)(ha:En!)(hb:If!):AO! (.BinOp a op b pos) pb!:=Ws! (wpAny_BinOp (sJ! xQ (sM! ho y u Q rx ry q)))
theorem Jlf(ho:xH X (unaryOp op) r)(ha:En!):Dq! .UnaryOp op a (tUn r ta):=Ws! (UnaryOp_ (Yt! ha (sl! ho x v)))
theorem rT{f:bU!}{C:AN! Int Int}{g:Wh! Int}(rule:∀(i j:Int) (t u:Tok) (s:Shared) (Q:V?) (E:V?),C i j->Q (a! QU! s.toks) OC!->Us! (f Oc! (a! j u))) : QS X f (rI C λi j=>hd!):=by intro AA s σ H x y v u Q I rx ry h;obtain⟨i,j,rfl,rfl,hc,q⟩:=h;obtain⟨t,rfl⟩:=rx;obtain⟨t',rfl⟩:=ry;exact rule i j t t' s _ _ hc (az! hd!)
theorem Joo{f:bU!}{g:Wh! Int}(rule:∀(i j:Int) (t u:Tok) (s:Shared) (Q:V?) (E:V?),Q (a! QU! s.toks) OC!->Us! (f Oc! (a! j u))) : QS X f (gZ λi j=>hd!):=by intro AA s σ H x y v u Q I rx ry h;obtain⟨i,j,rfl,rfl,q⟩:=h;obtain⟨t,rfl⟩:=rx;obtain⟨t',rfl⟩:=ry;exact rule i j t t' s _ _ (az! hd!)
theorem xR{f:bU!}{g:Wh! Bool}(rule:∀(i j:Int) (t u:Tok) (s:Shared) (Q:V?) (E:V?),mF! QU!->Us! (f Oc! (a! j u))) : QS X f (gZ λi j=>.bl QU!):=by intro AA s σ H x y v u Q I rx ry h;obtain⟨i,j,rfl,rfl,q⟩:=h;obtain⟨t,rfl⟩:=rx;obtain⟨t',rfl⟩:=ry;exact rule i j t t' s _ _ (QE! (.bl QU!) q)
def Jrk(i j:Int):Prop:=0<j/\j<1073741824
def Jrj(i j:Int):Prop:=0<=j/\j<=1000000/\i.natAbs<2 ^ 64
def lO(i j:Int):Prop:=(-(2 ^ 64)<i/\i<2 ^ 64)\/(-(2 ^ 64)<j/\j<2 ^ 64)
theorem lO.ok(h:lO i j):IntMulOk i j:=by
 rcases h with⟨h1,h2⟩|⟨h1,h2⟩;.exact .of_left (intBits_le_64 h1 h2)
 .exact .of_right (intBits_le_64 h1 h2)
theorem Dv:QS X (binaryOp .Add) (gZ (RJ! (i+j))):=be! Joo add_int
theorem Xd:QS X (binaryOp .Sub) (gZ (RJ! (i-j))):=be! Joo sub_int
theorem Gu:TF! .Mult (rI lO (RJ! (i*j))):=rT λ_ _ _ _ _ _ _ hc q=>mul_int q hc.ok
theorem E7:TF! .FloorDiv (rI Jrk (RJ! (i / j))):=rT λi j _ _ _ _ _ hc q=>by have h1:PN!<j:=hc.1;have h2:j<1073741824:=hc.2;exact floordiv_int F! (q! (Int.fdiv_eq_ediv_of_nonneg i F!) q) (Z! (PyProof.noPylong_small F!))
theorem C8:TF! .Mod (rI (λ_ j=>0<j) (RJ! (i % j))):=rT λi j _ _ _ _ _ hc q=>by have h1:PN!<j:=hc;exact KF! mod_int' (q! (Int.fmod_eq_emod_of_nonneg i F!) q)
theorem Jmi:TF! .Pow (rI Jrj (RJ! (i ^ j.toNat))):=rT λ_ _ _ _ _ _ _ hc q=>pow_int_small hc.1 hc.2.1 hc.2.2 q
theorem unI{f:Value->Sem Value}{g:Int->Int}(rule:∀(i:Int) (t:Tok) (s:Shared) (Q:V?) (E:V?),Q (a! (g i) s.toks) OC!->Us! (f Oc!)) : xH X f (rU λi=>a! (g i)):=by intro AA s σ H x v Q I rx h;obtain⟨i,rfl,q⟩:=h;obtain⟨t,rfl⟩:=rx;exact rule i t s _ _ (az! (a! (g i)))
theorem Jfm:xH X (unaryOp .USub) (rU λi=>a! (-i)):=unI λ_ _ _ _ _ q=>neg_int q
universe E
def Joc:V->V->Bool
 | .EO,.EO=>true|.EO,.int _=>true|.int _,.EO=>true|.EO,.bl _=>true|.bl _,.EO=>true|.EO,.str _=>true|.str _,.EO=>true
 | .int _,.int _=>true|.bl _,.bl _=>true|.str _,.str _=>true|.bw _,.bw _=>true
 | .int _,.str _=>true|.str _,.int _=>true|.bl _,.str _=>true|.str _,.bl _=>true
 | _,_=>false
def jd:R2:=λx y H Q=>Joc x y=true/\Q (T1! (x=y)) H
def rNe:R2:=λx y H Q=>Joc x y=true/\at! (Ha! (x=y))
theorem Jds:WF! i j=(i==j):=DL! RO
theorem Jib:w! (V.bl i=V.bl j)=(i==j):=DL! RO
theorem Jdr:w! (V.str i=V.str j)=(i==j):=DL! RO
theorem Jdt:w! (V.bw i=V.bw j)=(i.toList==j.toList):=by rw[RO];cases i;cases j;simp
universe S
variable {X:Cx Kx}{a b c:Expr}{ta tb tc:TE}{pos:Pos}
theorem Cu(I:K!)(q:Q (.bl k) H)(e:k=k'):lT! (bi k'):=by subst e;exact QE! (.bl k) q
theorem C6:N1! .Eq jd:=by intro AA s σ H x y v u Q I rx ry h;obtain⟨hs,q⟩:=h;cases x with | EO =>cases rx;(cases y with | EO=>cases ry;exact ww PySem.EqNone.eq_none_none | bl j=>cases ry;exact ww PySem.EqNone.eq_none_bool | int j=>obtain⟨t',rfl⟩:=ry;exact ww PySem.EqNone.eq_none_int | str j=>obtain⟨t',rfl⟩:=ry;exact ww PySem.EqNone.eq_none_str | _=>exact Em!) | bl i =>cases rx;(cases y with | EO=>cases ry;exact ww PySem.EqNone.eq_bool_none | bl j=>cases ry;exact eq_bool (Cu I q Jib) | str j=>obtain⟨t',rfl⟩:=ry;exact ww PySem.EqMixed.eq_bool_str | _=>exact Em!) | int i =>obtain⟨t,rfl⟩:=rx;(cases y with | EO=>cases ry;exact ww PySem.EqNone.eq_int_none | int j=>obtain⟨t',rfl⟩:=ry;exact eq_int (Cu I q Jds) | str j=>obtain⟨t',rfl⟩:=ry;exact ww PySem.EqMixed.eq_int_str | _=>exact Em!) | str i =>obtain⟨t,rfl⟩:=rx;(cases y with | EO=>cases ry;exact ww PySem.EqNone.eq_str_none | bl j=>cases ry;exact ww PySem.EqMixed.eq_str_bool | int j=>obtain⟨t',rfl⟩:=ry;exact ww PySem.EqMixed.eq_str_int | str j=>obtain⟨t',rfl⟩:=ry;exact eq_str (Cu I q Jdr) | _=>exact Em!) | bw i =>obtain⟨t,rfl⟩:=rx;(cases y with | bw j=>obtain⟨t',rfl⟩:=ry;exact W.eq_bytes (Cu I q Jdt) | _=>exact Em!) | _=>cases y<;>exact Em!
theorem Zv:N1! .NotEq rNe:=by intro AA s σ H x y v u Q I rx ry h;obtain⟨hs,q⟩:=h;cases x with | EO =>cases rx;(cases y with | EO=>cases ry;exact ww PySem.EqNone.ne_none_none | bl j=>cases ry;exact ww PySem.EqNone.ne_none_bool | int j=>obtain⟨t',rfl⟩:=ry;exact ww PySem.EqNone.ne_none_int | str j=>obtain⟨t',rfl⟩:=ry;exact ww PySem.EqNone.ne_none_str | _=>exact Em!) | bl i =>cases rx;(cases y with | EO=>cases ry;exact ww PySem.EqNone.ne_bool_none | bl j=>cases ry;exact pl! ne_bool Jib | str j=>obtain⟨t',rfl⟩:=ry;exact ww PySem.EqMixed.ne_bool_str | _=>exact Em!) | int i =>obtain⟨t,rfl⟩:=rx;(cases y with | EO=>cases ry;exact ww PySem.EqNone.ne_int_none | int j=>obtain⟨t',rfl⟩:=ry;exact pl! ne_int Jds | str j=>obtain⟨t',rfl⟩:=ry;exact ww PySem.EqMixed.ne_int_str | _=>exact Em!) | str i =>obtain⟨t,rfl⟩:=rx;(cases y with | EO=>cases ry;exact ww PySem.EqNone.ne_str_none | bl j=>cases ry;exact ww PySem.EqMixed.ne_str_bool | int j=>obtain⟨t',rfl⟩:=ry;exact ww PySem.EqMixed.ne_str_int | str j=>obtain⟨t',rfl⟩:=ry;exact pl! ne_str Jdr | _=>exact Em!) | bw i =>obtain⟨t,rfl⟩:=rx;(cases y with | bw j=>obtain⟨t',rfl⟩:=ry;exact pl! W.ne_bytes Jdt | _=>exact Em!) | _=>cases y<;>exact Em!
theorem O7:OL! .Lt gZ (cY! (i<j)):=be! xR lt_int
theorem Ro:OL! .Gt gZ (cY! (j<i)):=be! xR gt_int
theorem Jon:OL! .GtE gZ (cY! (j<=i)):=be! xR ge_int
theorem Jmj:N1! .Is (λx y H Q=>y=.EO/\Q (T1! (x=.EO)) H):=by intro AA s σ H x y v u Q I rx ry h;obtain⟨rfl,q⟩:=h;cases ry;refine is_none_gen (Cu I q ?_);cases x<;>first | (cases rx;rfl) | (obtain⟨t,rfl⟩:=rx;rfl)
theorem A4(b:Expr)(h:op≠.In:=by decide)(h2:op≠Mg!:=by decide):Ur!:=by
 have e1:AE! (op==CmpOp.In):=gB! ap!
 have e2:AE! (op==CmpOp.NotIn):=gB! (Fh! h2)
 cases b<;>simp[behindInMarks,e1,e2]
theorem Kw{op:CmpOp}{r:R2}(ho:N1! op r)(ha:En!)(hb:If!)(hm:Ur!):AO! (.Compare a [op] [b] pos) pb!:=Ws! (wpAny_Compare1 (sJ! xQ (sM! ho y u Q rx ry q)) hm)
inductive Jnf  (x:V) (H':Hp) (Q:Jl!):Prop
 | mk (k) (e0:x=.bl k) (e1:Q k H')
def J6(t:TE):TT:=uT! (λx H'=>Jnf  x H' Q)
theorem Aw(ho:N1! op r)(ha:En!)(hb:If!)(hm:Ur!):PT X (.Compare a [op] [b] pos) (J6 pb!):=by intro AA s σ H Q I h;refine wpAny_isTrue_Compare1 (Yt! ha (Yl! hb (λu s2 ⟨y,H2,I2,r2,q2⟩ =>EM (sM! ho y u _ r1 r2 q2) λc s3 ⟨z,H3,I3,r3,k,e,q3⟩=>?_))) hm;subst e;cases r3;exact LB ⟨H3,I3,q3⟩
def Jpc(K:W.Frag)(x:V)(H:Hp)(k:Bool):Prop :=
 match x with
 | .EO=>k=false
 | .bl b=>k=b
 | .int i=>k=(i != 0)
 | .str y=>rL! (y.length<=sizeLine) y.length
 | .bw y=>rL! (y.size<=sizeLine) y.size
 | .ref p=>lw! lO!\/lw! (Sy! xs)\/∃kvs,vv! p/\k=!kvs.isEmpty
 | _=>False
theorem Jb6(r:Ca!):(!vs.isEmpty)=!kvs.isEmpty:=by cases r<;>rfl
theorem Sn(r:Tv!):(!its.toArray.isEmpty)=!xs.isEmpty:=by cases r<;>simp
theorem Xv:(sizeLine:Nat)<2 ^ 63:=Wn! DR
theorem Jlo{X:G!}:Jre X (λx H Q=>∃k,Jpc Kx x H k/\Q k H):=by intro AA s σ H x v Q I rx h;obtain⟨k,e,q⟩:=h;have hl:=Xv;have hs:sizeLine=16777216:=DR;cases x with | EO =>cases rx;have e':k=false:=e;subst e';exact truthy_none ⟨H,I,q⟩ | bl b =>cases rx;have e':k=b:=e;subst e';exact LB ⟨H,I,q⟩ | int i =>obtain⟨t,rfl⟩:=rx;have e':k=(i != 0):=e;subst e';exact PySem.P.truthy_int ⟨H,I,q⟩ | str y =>obtain⟨t,rfl⟩:=rx;obtain⟨hy,e'⟩:rL! (y.length<=sizeLine) y.length:=e;subst e';exact KF! PySem.P.truthy_str (bi! q) | bw y =>obtain⟨t,rfl⟩:=rx;obtain⟨hy,e'⟩:rL! (y.size<=sizeLine) y.size:=e;subst e';exact KF! W.truthy_bytes (bi! q) | ref p =>cases rx;have e':lw! (DY Kx H p xs)\/lw! (CA Kx H p xs)\/∃kvs,vv! p/\k=!kvs.isEmpty:=e;rcases e' with⟨xs,hx,e'⟩|⟨xs,hx,e'⟩|⟨kvs,hx,e'⟩;(.subst e';obtain⟨its,r,pl,hz⟩:=I.list hx;have hlen:=r.length;exact wpAny_truthy_list pl.isList (by simp only[AZ];lia) (bi! (RE! (Sn r))));(.subst e';obtain⟨its,r,pl,hz⟩:=I.tuple hx;have hlen:=r.length;exact truthy_tuple pl (by simp only[AZ];lia) (bi! (RE! (Sn r))));.subst e';obtain⟨hz,hS,vs,r,m⟩:WI!/\AE! (p==sysModules)/\∃vs,Ca!/\s.heap.DictOf IW! p vs:=Zh! hx;have hlen:Lo!:=y! r;exact wpAny_truthy_dict hS m F! (bi! (RE! (Jb6 r))) | _=>exact(show False from e).elim
theorem Rg{X:G!}(ha:En!)(he:∀whole,isTrue a X.env whole=(do let v <-whole;standAt a.pos;holding [v] (truthy v))) :
 PT X a (s6! ta (λx H'=>∃k,Jpc Kx x H' k/\Q k H')):=by
 intro AA s σ H Q I h
 exact isTrue_plain (Yt! ha (sl! Jlo x v)) (he _)
theorem vals1(r:Vals [x] us):∃u,us=[u]/\H0!:=by cases r with | cons r1 r2=>cases r2;exact KF r1
theorem vals2(r:Vals [x,y] us):∃u w',us=[u,w']/\H0!/\RelV y w':=by cases r with | cons r1 r2 =>cases r2 with | cons r3 r4=>cases r4;exact A1! _ rfl r1 r3
inductive Jcl(xs:C!)(H:Hp)(Q:VK):Prop
 | mk i j (_:xs=[Pz!,T! j]) (_:K5! (if j > i then j else i))
theorem Jfb(hc:BB!):vQ! "max" Jcl:=by
 intro AA s σ H xs us Q I r h;obtain⟨i,j,rfl,q⟩:=h;obtain⟨u,w',rfl,⟨t,rfl⟩,⟨t',rfl⟩⟩:=vals2 r;refine max_two_ints (I.ok.hd hc) λh' tk k=>A1! H (I.kept k) ?_ q;by_cases hj:j > i;.rw[AF hj,AF hj];exact z?
 .rw[AB hj,AB hj];exact z?
universe E
structure bJ(h:Heap)(x dx C:Addr)(mA:v?):Prop where
 obj:E7! h.get? (m6! dx)
 ns:h.Ns1 dx mA
 ne:dx≠x
theorem Jet{h:Heap}{dx:Addr}{mA:v?}(n:h.Ns1 dx mA):∃od,NA! dx od/\∀name,W.lookIn name od=A! (mA name):=by
 obtain⟨o,es,ep,ho,hd,hk,_,hm⟩:=n;refine Bq! ho (λname=>?_);have e:=hm name;unfold nsFind findBy at e;rw[<-Array.find?_toList] at e;unfold W.lookIn;rw[hd];dsimp only;split;.rename_i y q;rw[q] at e;exact congrArg some e
 .rename_i q;rw[q] at e;(have a:r? (es.toList.any (·.refKey)):=by rw[List.any_eq_false];intro y hy;obtain⟨z,t,aH⟩:=hk y (Array.mem_toList_iff.mp hy);simp[DictEntry.refKey,aH]);(have a':¬Tk es.toList.any (·.refKey):=H! a AR);rw[AB a'];exact congrArg some e
theorem bJ.look(I:rd! h):∃od,W.InstAt h x (m6! dx) C (some od)/\∀name,W.lookIn name od=A! (mA name) :=let⟨od,ho,hl⟩:=Jet I.ns;⟨od,Au! I.obj rfl ho,hl⟩
universe S
variable {prog:Program}{w:World}{A:Around}{E:Value->Shared->Prop}{s:Shared}{K:W.Frag}{x dx C f:Addr}{mA:Str->Option Value}{name:Str}{v:Value}
theorem Jkj{expr:Bool}{Q:V?}(X:N2!)(I:rd! s.heap)(hg:cJ! name)(hh:kg!)(ha:GJ! name)(hv:L? mA name v)(hv':Tk W.handedIn v)(h:Q v OC!) : Ao! (getAttr (Y! x) name expr):=by obtain⟨od,J,hl⟩:=I.look;exact W.get_value X J (W.plainGet_of hg).1 (W.findObj_own hh ha rfl (HU! hl hv)) hv' h
theorem Jhy{pl:Sem Bool}{Q:AC! (Value×g!)}(X:N2!)(I:rd! s.heap)(hg:cJ! name)(hf:cj! name)(ht:mK!)(hv:FM mA name)(h:Q (F? f,[MJ!]) s) : Ao! (getMethod (Y! x) name pl):=by obtain⟨od,J,hl⟩:=I.look;exact W.method_fn X J (W.plainGet_of hg).1 (W.plainGet_of hg).2 hf (OE.mp ht) (by show L? (W.lookIn name od).map (·.isSome) false;rw[hl,hv];rfl) h
theorem Jix{ns:U?}{Q:Hv!}(X:N2!)(I:rd! s.heap)(hs:W.findIn K DT! "__setattr__"=A! (Yh! "object.__setattr__"))(hp:Qn! W.plainOver)(ht:W.takerIn K C name=A! none)(hh:kg!)(hw:PySem.Within mA ns)(hsz:ns.length<=sizeLine)(h:∀h',bJ h' x dx C (λy=>v6 (y=name) (A! v) (mA y))->eT! dx->Q () { s with heap:=h',toks:=s.toks+2 }) : Ao! (setAttr X5! name v):=by obtain⟨od,J,hl⟩:=I.look;refine W.set_plain X J hs (W.osa_open (s:=OC!) (r:=none) X J hp ht λb=>?_);obtain⟨cd,hc,RG⟩:=W.any_some hh;have hx:E7! s.heap.get? ⟨F? C,A! dx,.plain,#[]⟩:=I.obj;refine kZ! (wpAny_loadPart hx (ZR (W.Looks.here (s:=OC!) (W.looks_clsIn X hc) ?_)));rw[RG];refine ZS (a:=A! dx) (ZR (IQ! ?_));refine wpAny_nsSet1 (s:=OC!) I.ns λh' gK sH=>?_;obtain⟨oD,esD,epD,hoD,hdD,hcD⟩:=gK.count (PySem.Within.cons name v hw);refine ZR (wpAny_lookBehind hoD (q! hdD (pastItsLine_dict (AV hcD (Dk! BM)))) ?_);exact ZS (h _ ⟨(sH.2 _ (Ne.symm I.ne)).trans I.obj,gK,I.ne⟩ sH)
theorem Jhm{R:AC! Result}{vs:g!}{kw:Hi!}(X:N2!)(hm:Qn! W.makesIn)(hi:cj! fU!)(hf:W.typeIn K MA!=A! (GX! "function"))(h:codeAny e7! (w3! ⟨F? C::vs,kw⟩) (M8! .call ⟨V4! As!::vs,kw⟩) (W.InitBack (G4!) R) (Ou! ((s.heap.push W.emptyDict).push (W.instObj C s.heap.objs.size)))) : qF! (.call DT! ⟨vs,kw⟩) R s:=by obtain⟨hh,g,d,t,os⟩:=s;exact W.make_core (W.makes_of X hm) (W.looks_findIn X hi) (λself=>W.bind_fn X self hf) Cr! h
universe E
def BI(f:Str)(v:V):BW!->BW!
 | []=>[(f,v)]
 | (g,x)::r=>if g=f then(g,v)::r else(g,x)::BI f v r
theorem Bl(f g:Str)(v:V):∀fs:BW!,(BI f v fs).lookup g=v6 (g=f) (A! v) (fs.lookup g)
 | []=>by show List.lookup g [(f,v)]=_;by_cases h:g=f;(.have hb:AT! (g==f):=OE.mpr h;simp only[List.lookup,hb,A6!]);.have hb:AE! (g==f):=DZ.mpr h;simp only[List.lookup,hb,BY!]
 | (k,x)::r=>by have ih:=Bl f g v r;rw[D4! (n1!=(if k=f then(k,v)::r else qw!))];by_cases hk:k=f;(.rw[AF hk];by_cases h:g=k;(.have hb:AT! (g==k):=OE.mpr h;simp only[List.lookup,hb,AF (h.trans hk)]);.have hb:AE! (g==k):=DZ.mpr h;simp only[List.lookup,hb,AB (λe:g=f=>h (e.trans hk.symm))]);.rw[AB hk];by_cases h:g=k;(.have hb:AT! (g==k):=OE.mpr h;simp only[List.lookup,hb,AB (λe:g=f=>hk (h.symm.trans e))]);.have hb:AE! (g==k):=DZ.mpr h;simp only[List.lookup,hb];exact ih
theorem Oe(f:Str)(v:V):∀fs:BW!,f∈C? (BI f v fs).map/\∀g,g∈C? fs.map->g∈C? (BI f v fs).map
 | []=>⟨by simp[BI],λg h=>Ce!⟩
 | (k,x)::r=>by obtain⟨i1,i2⟩:=Oe f v r;rw[D4! (n1!=(if k=f then(k,v)::r else qw!))];by_cases hk:k=f;(.rw[AF hk];subst hk;exact⟨x!,λg h=>UF⟩);.rw[AB hk];refine Ja! (λg h=>?_);(.rw[AI];exact ZD _ i1);.rw[AI] at h ⊢;rcases ZM h with e|e;(.exact CB.mpr (Z! e));.exact ZD _ (i2 g e)
theorem A8(f:Str)(v:V):∀fs:BW!,(BI f v fs).length<=fs.length+1
 | []=>by simp[BI]
 | (k,x)::r=>by have ih:=A8 f v r;rw[D4! (n1!=(if k=f then(k,v)::r else qw!))];by_cases hk:k=f;(.rw[AF hk,BM,BM];lia);.rw[AB hk,BM,BM];lia
theorem tG{v:V}{o:hm!}(r:Q_ (some v) o):∃u,o=A! u/\DA!:=by cases o with | none=>exact T4! | some u=>exact FT! u r
theorem Jrn(r:Q_ none o):o=none:=by cases o with | none=>rfl | some u=>exact T4!
theorem Je7(r:DA!):Tk W.handedIn u:=by cases v with | EO=>cases Fw! (u=Value.none);rfl | bl b=>cases Fw! (u=Value.bool b);rfl | int i=>obtain⟨t,e⟩:=Fw! UW!;cases e;rfl | str x=>obtain⟨t,e⟩:=Fw! pP!;cases e;rfl | bw b=>obtain⟨t,e⟩:=Fw! (jp! Value.bytes);cases e;rfl | sR b=>obtain⟨t,e⟩:=Fw! (jp! Value.float);cases e;rfl | ref a=>cases Fw! C0!;rfl | ty n=>cases Fw! (u=Value.type n);rfl
universe S
theorem Ya(DK:DG!)(e:lS!):∃mA,bJ h a dx C mA/\(∀f,Q_ (fs.lookup f) (mA f))/\PySem.Within mA (Gn! fs.map)/\fs.length<=1000/\R1! dx a:=by obtain⟨d,z,ne,ob,mA,n,r,q⟩:=DU! (Ij! (H6! fs)) (DK a _ e);exact⟨mA,⟨ob,n,ne⟩,r,q,z,d⟩
universe E
structure cF(K:W.Frag)(C:Addr):Prop where
 pg:cJ! Str.empty
 hd:kg!
 po:Qn! W.plainOver
 sa:W.findIn K DT! "__setattr__"=A! (Yh! "object.__setattr__")
theorem cF.get{K:W.Frag}{C:Addr}(c:cF K C)(f:Str):cJ! f:=c.pg
def EL(K:W.Frag)(C:Addr)(f:Str):Prop:=GJ! f
theorem EL.qg{K:W.Frag}{C:Addr}{f:Str}(n:Fp! f):W.takerIn K C f=A! none:=by unfold W.takerIn;rw[show GJ! f from n];rfl
structure pO(K:W.Frag)(C:Addr)(m:Str)(f:Addr):Prop where
 at_:cj! m
 fn:mK!
 kp:W.keepIn K MA!=true
universe S
theorem Ss{X:G!}(I:K!)(e:lS!)(c:aH!)(n:EL Kx C f)(l:L? fs.lookup f v)(h:∀u s',NI!->DA!->Q u s'):MR! (getAttr T0 f b):=by obtain⟨mA,O,r,_,_,_⟩:=PW! Ya;obtain⟨u,hu,ru⟩:=rl! (mA f) (EX! l (r f));exact Jkj I.YX O (c.get f) c.hd n hu (Je7 ru) (h u _ uN! ru)
theorem Sr{X:G!}(I:K!)(e:lS!)(c:aH!)(k:pO Kx C m g)(l:FM fs.lookup m)(h:Q (F? g,HC!) s):MR! (getMethod T0 m pl):=by obtain⟨mA,O,r,_,_,_⟩:=PW! Ya;have hn:FM mA m:=s8! Jrn l (r m);exact Jhy I.YX O (c.get m) k.at_ k.fn hn h
theorem Qs{X:G!}(I:K!)(e:lS!)(c:aH!)(n:EL Kx C f)(hl:fs.length<1000)(ry:A8!)(h:∀s',vE! a (H6! (BI f y fs)) s'->Q () s'):MR! (setAttr T0 f u):=by
 obtain⟨mA,O,r,wi,_,ho⟩:=PW! Ya;have hz:At! (fs.map (·.1)).length:=ea! DR
 refine Jix I.YX O c.sa c.po n.qg c.hd wi hz λh' O' sb=>h _ ?_;have hd:∃o,Fa! h'.get? dx:=let⟨o,_,_,e',_⟩:=O'.ns;Dd! e';refine I.write (x:=a) (e:=dx) wh! (TD ho) (λb q hb z=>(sb.2 b hb).trans z) hd ?_;refine⟨i! O.ne ho,?_,O.ne,O'.obj,_,O'.ns,λg=>?_,λg hg=>?_⟩;.have:=A8 f y fs;lia
 .show Q_ ((BI f y fs).lookup g) (Vu! (g=f) (A! u) (mA g));rw[Bl];by_cases q:g=f;(.rw[AF q,AF q];exact ry);.rw[AB q,AB q];exact r g
 .by_cases q:g=f;(.rw[q];exact(Oe f y fs).1);.refine(Oe f y fs).2 g (wi g λz=>hg ?_);show Vu! (g=f) (A! u) (mA g)=none;rw[AB q];exact z
theorem Inv.AY(I:K!):xz (upd (AP! s.heap.objs.size Cb! (G4!)) (G4!) (.ins C s.heap.objs.size [])) (Ou! ((s.heap.push W.emptyDict).push (W.instObj C s.heap.objs.size))):=by
 have e1:L? (s.heap.push W.emptyDict).get? s.heap.objs.size W.emptyDict:=ZU s.heap rfl;have e2:V4! ((s.heap.push W.emptyDict).push (W.instObj C s.heap.objs.size)).get?=A! (m6! s.heap.objs.size):=by have:=ZU (s.heap.push W.emptyDict) (o:=W.instObj C s.heap.objs.size) rfl;rwa [Heap.size_push] at this
 have e3:(s.heap.push W.emptyDict).Ns s.heap.objs.size (Ov!):=⟨W.emptyDict,#[],_,e1,rfl,(D5! (absurd he (x!))),Cg!⟩;have I1:=I.laid (a:=s.heap.objs.size) (o:=V4! Cb!) (h':=s.heap.push W.emptyDict) (t':=s.toks) (λb u q=>Qi!) ci (D? e1);refine I1.laid (a:=G4!) (o:=.ins C s.heap.objs.size []) (t':=s.toks) (λb u q=>Qi!) (Nat.le_of_eq (Heap.size_push _ _)) ?_;have ne:s.heap.objs.size≠G4!:=BV (IS _);refine⟨z! (Ad ne) Ab,wn,ne,e2,Ov!,(Heap.Ns1.of_empty e3).at λo q=>Qi!,λ_=>True.intro,Ch! (Fh! hy)⟩
theorem Jkx(hb:attributeBase e f env (eval e env)=eval e env)(h:UQ! (eval e env) (λo EK=>aN! (getAttr o f true) EK)):Ao! (UK! (W4! e f pos)) :=Attribute_any_ h (z! arm_eval_Attribute hb)
universe E
inductive Jpj(K:W.Frag)(f:Str)(x:V)(H1:Hp)(Q:VK):Prop
 | mk (a C dx fs v) (e0:A3!) (e1:fM! H1) (e2:cF K C) (e3:Fp! f) (e4:L? fs.lookup f v) (e5:Q v H1)
def V5(K:W.Frag)(ta:TE)(f:Str):TE:=S1! (Jpj K f x H1 Q)
def Jqo(K:W.Frag)(ta tv:TE)(f:Str):TS:=RK! tv (λy H1=>CL! ta (λx H2=>∃a C dx fs,A3!/\fM! H2/\cF K C/\Fp! f/\fs.length<1000 /\
 Pb! (upd H2 a (H6! (BI f y fs)))))
def tK(X:G!)(op:Operator)(rd:Zr!):Prop :=
 ∀(AA:v!)(s:Shared)(σ:St)(H:Hp)(x y:V)(u v:Value)(Q:VK),K!->H0!->RelV y v->rd x y H Q->Eo! (inplaceOp op u v)
def Ji7(K:W.Frag)(ta tv:TE)(rd:Zr!)(f:Str):TS:=Mk! (kD! (∃a C dx fs v,A3!/\fM! H1/\cF K C/\Fp! f/\L? fs.lookup f v /\
 CL! tv (λy H2=>rd v y H2 λz H3=>∃wu gQ,H3 a=some (.ins C wu gQ)/\gQ.length<1000/\Pb! (upd H3 a (.ins C wu (BI f z gQ))))))
universe S
theorem Aq{X:G!}(he:AO! e ta)(hb:attributeBase e f X.env (eval e X.env)=uX!):Dq! W4! e f (V5 Kx ta f):=by intro AA s σ H Q I h;refine Jkx hb ZJ!;rintro u s1 ⟨x,H1,I1,rx,a,C,dx,fs,v,ex,ea,c,n,l,q⟩;subst ex;obtain rfl:C0!:=rx;exact Ss I1 ea c n l λu' s2 I2 ru=>⟨v,H1,I2,ru,q⟩
theorem Eb{X:G!}(ha:jc!)(hv:nC!)(hs:qj! value (some (W4! o f pos'))):nS! [W4! o f pos'] value (Jqo Kx ta tv f):=by intro AA s σ H D I h;refine plainObj_wpAny_Assign_Attribute (PO! hv ?_) hs;rintro u s1 ⟨y,H1,I1,ry,q⟩;refine DY! (ha AA s1 σ H1 _ I1 q);rintro ov s2 ⟨x,H2,I2,rx,a,C,dx,fs,ex,ea,c,n,l,q2⟩;subst ex;obtain rfl:ov=vs!:=rx;exact Qs I2 ea c n l ry λs3 I3=>Jw! _ I3 q2
theorem Df{X:G!}(ha:jc!)(hv:nC!)(vZ:tK X op rd):PS X (.AugAssign (W4! o f yS) op value pos) (Ji7 Kx ta tv rd f):=by intro AA s σ H D I h;refine aT! wpAny_AugAssign_AttributeAny;rintro ov s1 ⟨x,H1,I1,rx,a,C,dx,fs,v,ex,ea,c,n,l,q⟩;subst ex;obtain rfl:ov=vs!:=rx;refine Ss I1 ea c n l λu s2 I2 ru=>DY! (hv AA s2 σ H1 _ I2 q);rintro w3 s3 ⟨y,H2,I3,ry,q3⟩;refine DY! (vZ AA s3 σ H2 v y u w3 _ I3 ru ry q3);rintro w4 s4 ⟨z,H3,I4,rz,wu,gQ,cn,l',q4⟩;exact Qs I4 cn c n l' rz λs5 I5=>Jw! _ I5 q4
inductive Jqw(x:V)(y:V)(H:Hp)(Q:VK):Prop
 | mk i j (_:Mu!) (_:XW!) (_:K5! (i+j))
inductive Jqp(x:V)(y:V)(H:Hp)(Q:VK):Prop
 | mk i j (_:Mu!) (_:XW!) (_:K5! (i-j))
theorem Ew:tK X .Add Jqw:=by rintro AA s σ H x y u v Q I rx ry ⟨i,j,rfl,rfl,q⟩;obtain⟨t,rfl⟩:=(show UW! from rx);obtain⟨t',rfl⟩:=eM! (∃t',v=Value.int j t');exact PyProof.Rows.iadd_int (az! (a! (i+j)))
theorem Jhs:tK X .Sub Jqp:=by rintro AA s σ H x y u v Q I rx ry ⟨i,j,rfl,rfl,q⟩;obtain⟨t,rfl⟩:=(show UW! from rx);obtain⟨t',rfl⟩:=eM! (∃t',v=Value.int j t');exact PyProof.Rows.isub_int (az! (a! (i-j)))
universe E
universe S
universe E
structure Cn(k:Nat)(A:Around):Prop where
 hd:Ow!
 dp:A.depth+3*k+5<recursionLimit
 un:A.units+16*k+200<cLine
theorem Cn.mono(r:S8!)(h:j<=k):Cn j A:=⟨r.hd,by have:=r.dp;lia,by have:=r.un;lia⟩
theorem Cn.deeper(r:bt! A)(env:Env):bN! env :=⟨r.hd,by have:=r.dp;show A.depth+1+3*k+5<_;lia,by have:=r.un;show A.units+3+16*k+200<_;lia⟩
theorem Jb0{A:Around}{C:Addr}{us:g!}{kw:Hi!}:(A.under (.builtin "type.__call__" lW!)).depth=A.depth+1:=by first|rfl|simp[Around.under,Code.weight,Code.isCreation,Code.isGuard,Code.isCaller,Code.frames,Code.isFrame,guardIds]
theorem Jbz{A:Around}{C:Addr}{us:g!}{kw:Hi!}:(A.under (.builtin "type.__call__" lW!)).units=A.units+1:=by first|rfl|simp[Around.under,Code.cUnits,Code.frames,Code.isFrame]
theorem Cn.make(r:bt! A)(C:Addr)(us:g!)(kw:Hi!):Cn k (A.under (D3! "type.__call__" lW!)) :=⟨r.hd,by have:=r.dp;rw[Jb0];lia,by have:=r.un;rw[Jbz];lia⟩
theorem Cn.depth(r:S8!):A.depth<recursionLimit:=by have:=r.dp;lia
theorem Cn.units(r:S8!):A.units+64<cLine:=by have:=r.un;lia
def Ia:TA:=λ_ H Q=>Q [] H
def Cv(ta:TE)(tr:TA):TA:=S1! (CL! tr (λxs H2=>Q (x::xs) H2))
universe S
theorem Ae:PA X [] Ia:=λ_ _ _ _ H Q I h=>LC ⟨[],H,I,L!,h⟩
theorem Aa(ha:Nw!)(hr:PA X es t)(hs:Lk!:=by rfl):PA X Pd! (Cv te t):=by intro pos AA s σ H Q I h;rw[hs];show Vp! (spliced ((false,uX!)::backTo pos (starEach es X.env)));refine aT! IH;rintro u s1 ⟨x,H1,I1,r1,q1⟩;exact EM (hr pos AA s1 σ H1 _ I1 q1) λus s2 ⟨xs,H2,I2,r2,q2⟩=>⟨x::xs,H2,I2,K? r1 r2,q2⟩
inductive Jph  (xs:C!) (H1:Hp) (Q:VK):Prop
 | mk  (e0:Dz!) (e1:∀p,Hm! p->BH! p (CH! H1 p .BB xs))
def Yv(t:TA):TE:=uT! (λxs H1=>Jph  xs H1 Q)
inductive Jpi  (xs:C!) (H1:Hp) (Q:VK):Prop
 | mk  (e0:Dz!) (e1:∀p,Hm! p->BH! p (PK! H1 p xs))
def Jn1(t:TA):TE:=uT! (λxs H1=>Jpi  xs H1 Q)
theorem Ce(h:PA X es t):PE X (.Tuple es x1 pos) (Yv t):=by intro AA s σ H Q I hq;refine wpAny_Tuple_spliced (EM (h pos AA s σ H _ I hq) λus s1 ⟨xs,H1,I1,r,z,q⟩=>Ch (Mt! r.length));have hf:Hm! s1.heap.objs.size:=ZB!;refine Ve! s1.heap.objs.size (Cw! H1 s1.heap.objs.size xs) (I1.laid (t':=s1.toks) (λb u e=>G5!) ci ?_) (q _ hf);exact⟨z,us,r,A1! CM! rfl _ rfl⟩
theorem E2(h:PA X es t):PE X (.List es pos) (Jn1 t):=by intro AA s σ H Q I hq;refine wpAny_List_spliced (EM (h pos AA s σ H _ I hq) λus s1 ⟨xs,H1,I1,r,z,q⟩=>Ch (Mt! r.length));have hf:Hm! s1.heap.objs.size:=ZB!;refine Ve! s1.heap.objs.size (wP H1 s1.heap.objs.size .BJ xs) (I1.laid (t':=s1.toks) (λb u e=>G5!) ci ?_) (q _ hf);exact⟨z,us,0,r,CM!⟩
universe E
abbrev Sp:=C!->Hp->AN! VK XK
abbrev dj:=By!->Hp->Shared->XK->V?
structure bK(P:Program)(w:World)(K:W.Frag)(mg:v?)(base:Heap)(A:Around)(outer:By!)(s:Shared)(H:Hp):Prop where
 frames:A.frames=A! outer
 mod:Mod K mg base
 bs:xL (Ad! base.get?->DS!/\t?)
 cu:base.objs.size<=s.heap.objs.size
 OA:s.heap.FunFrames base outer
 eO:∀b∈NT outer,t?
 DK:NU P w H s.heap
 bare:AllBare s.gens
inductive CE(outer:By!)(P:Program)(w:World)(H:Hp)(s:Shared)(Q:VK)(u:Value)(s':Shared):Prop
 | mk v H' (_:s'.os=s.os) (_:TW!) (_:nx! outer [] s'.heap) (_:NU P w H' s'.heap) (_:DA!) (_:Na!)
def CR(CX:dj)(outer:By!)(P:Program)(w:World)(H:Hp)(s:Shared)(Q:VK)(E:XK)(r:Result)(s':Shared):Prop :=
 match r with
 | .ok (.ret u)=>CE outer P w H s Q u s'
 | .ok _=>False
 | .error e=>CX outer H s E e s'
structure EJ(P:Program)(w:World)(K:W.Frag)(mg:v?)(base:Heap)(CX:dj)(k:Nat)(f:Addr)(fd:FuncData)(ps:U?)(sp:Sp):Prop where
 len:l7!
 run:∀(A:Around)(outer:By!)(s:Shared)(H:Hp)(args:Args)(us:g!)(vs:C!)(Q:VK)(E:XK),S8!->rk! A->BindsTo s fd args (ps.zip us)->Nk!->Qs! ->
  codeAny (model P w) A (M8! .call args) (CR CX outer P w H s Q E) s
theorem EJ.mono{P:Program}{w:World}{K:W.Frag}{mg:v?}{base:Heap}{CX:dj}{j k:Nat}{f:Addr}{fd:FuncData}{ps:U?}{sp:Sp}(F:EJ P w K mg base CX j f fd ps sp)(h:j<=k) : sX! CX:=⟨F.len,λA outer s H args us vs Q E hr=>F.run A outer s H args us vs Q E (hr.mono h)⟩
theorem bK.make{P:Program}{w:World}{K:W.Frag}{mg:v?}{base:Heap}{A:Around}{outer:By!}{s:Shared}{H:Hp}(e:rk! A)(C:Addr)(us:g!)(kw:Hi!) : rk! (w3! lW!):=⟨by first|exact e.frames|(simpa [Around.under,Code.envs,Code.isFrame,pushEnvs] using e.frames),e.mod,e.bs,e.cu,e.OA,e.eO,e.DK,e.bare⟩
universe S
theorem Inv.lI{X:G!}(I:K!):bK X.prog X.w Kx X.mg X.base X.A X.stack s H :=⟨I.ok.frames,I.ok.mod,I.bs,AV I.ok.cu I.sz,I.stack,I.RL,I.DK,I.bare⟩
theorem Inv.after(I:K!)(h:CE X.stack X.prog X.w H s Q u s'):fQ! u s':=by obtain⟨v,H',os,bare,un,DK,r,q⟩:=h;obtain⟨hh,g,d,t,rS⟩:=s';obtain rfl:rS=s.os:=os;exact⟨v,H',I.call (h':=hh) (g':=g) (d':=d) (t':=t) (ch:=[]) un DK bare (λb z=>absurd z (x!)),r,q⟩
universe E
def Jk9(sp:Sp)(RJ:C!)(E:XK)(t:TA):TE:=kF! (sp Mi! H1 Q E)
inductive Jng(C:Addr)(m:Str)(sp:Sp)(RJ:C!)(E:XK)(t:TA)(σ:St)(x:V)(H1:Hp)(Q:VK):Prop
 | mk (a dx fs) (e0:A3!) (e1:fM! H1) (e2:FM fs.lookup m) (e3:CL! t (λvs H2=>sp (x::Mi!) H2 Q E))
def Qg(C:Addr)(m:Str)(sp:Sp)(RJ:C!)(E:XK)(ta:TE)(t:TA):TE:=S1! (Jng C m sp RJ E t σ x H1 Q)
def tV(C:Addr)(sp:Sp)(RJ:C!)(E:XK)(t:TA):TE:=kF! (∀x dx,Hm! x->Hm! dx->dx≠x ->
 sp (MJ!::Mi!) (upd (CH! H1 dx Cb! x) x (H6! [])) (λv H2=>v=.EO/\BH! x H2) E)
def Binds(K:W.Frag)(fd:FuncData)(ps:U?)(ds:g!):Prop :=
 ∀(s:Shared)(us:g!),N2!->AU! Ox!=ps.length->BindsTo s fd Ng! (ps.zip (Ox!))
theorem Binds.all{K:W.Frag}{fd:FuncData}{ps:U?}(h:∀us:g!,fW!->bindArgs fd Ng!=pe!):b7!:=λs us _ hl=>by rw[AE] at hl ⊢;exact .of_eq (h us hl)
def Jv(CX:dj)(X:G!)(E:XK):Prop:=∀(AA:v!)(σ:St)(H:Hp)(s:Shared)(e:Value)(s':Shared),Jf! (CX X.stack H s E e s') (X.xe e s')
universe S
theorem x_{X:G!}{AA:v!}{σ:St}{H:Hp}{s:Shared}{Q:VK}{us:g!}{vs:C!}(F:OP!)(hr:S9!)(hb:OO!)(hd:Od!)(hx:On!)(I:K!)(r:Nk!)(h:sp Mi! H Q E):Eo! (M8! call us):=by
 have r2:Vals (vs++RJ) (Ox!):=r.append hd;have hl:AU! Ox!=ps.length:=S? r2.length (F.len _ _ _ _ h)
 refine wpAny_call (IF (F.run X.A X.stack s H Ng! (Ox!) Mi! Q E hr I.lI (hb s us I.YX hl) r2 h) λr s' hq=>?_);cases r with | error e=>exact hx AA σ H s e s' I hq | ok fl =>cases fl with | ret u=>exact I.after hq | next=>exact False.elim hq | brk=>exact False.elim hq | cont=>exact False.elim hq
theorem Bw{X:G!}(F:OP!)(hr:S9!)(hg:GU!)(hm:YV! MA!)(hk:W.keepIn Kx MA!=true)(hb:OO!)(hd:Od!)(hx:On!)(ha:OD!)(eI:Et!:=by decide)(he:Lk!:=by rfl)(VL:T8!:=by rfl) : bR! (Jk9 sp RJ E t):=by intro AA s σ H Q I h;refine IG (K5 I hg hm ?_ eI);refine W.callWith_K (h₀:=X.base) I.ok.mod.ZY hk (Um! (λus s1 ⟨vs,H1,I1,r,q⟩=>Ch I1.YX)) he VL;exact x_ F hr hb hd hx I1 r q
theorem Ao{X:G!}{pl:Sem Bool}(he:jc!)(c:aH!)(hm:pO Kx C m f)(F:OP!)(hr:S9!)(hb:OO!)(hd:Od!)(hx:On!)(ha:OD!)(vT:Lk!:=by rfl)(VL:T8!:=by rfl)(ht:eval (.Call kh! Pd! [] pos) X.env=(do
  let ov <-e1! o
  standAt apos.atName
  let(f,first) <-holding [ov] (getMethod ov m pl)
  callWith pos f first (vx! pos Pd!) (wy! pos)):=by rfl) :
 u6! kh! Pd! (Qg C m sp RJ E ta t):=by
 intro AA s σ H Q I h
 refine W.methodCall_KW (pl:=pl) ZJ! ht
 rintro u s1 ⟨x,H1,I1,rx,a,dx,fs,ex,ea,l,q⟩
 subst ex
 obtain rfl:C0!:=rx
 refine Sr I1 ea c hm l ?_
 refine W.callWith_K (first:=HC!) (h₀:=X.base) I.ok.mod.ZY hm.kp (EM (ha pos AA s1 σ H1 _ I1 q) λus s2 ⟨vs,H2,I2,r,q2⟩=>Ch I2.YX) vT VL
 exact x_ (us:=Os::us) (vs:=Os::vs) F hr hb hd hx I2 (K? rfl r) q2
theorem C4{X:G!}{pl:Sem Bool}(he:jc!)(c:aH!)(hm:pO Kx C m f)(F:OP!)(hr:S9!)(hb:OO!)(hd:Od!)(hx:On!)(ht:eval (.Call kh! [] [] pos) X.env=(do
  let ov <-e1! o
  standAt apos.atName
  let(f,first) <-holding [ov] (getMethod ov m pl)
  callWith pos f first (vx! pos []) (wy! pos)):=by rfl) :
 u6! kh! [] (Qg C m sp RJ E ta Ia):=by
 intro AA s σ H Q I h
 refine W.methodCall_KW (pl:=pl) ZJ! ht
 rintro u s1 ⟨x,H1,I1,rx,a,dx,fs,ex,ea,l,q⟩
 subst ex
 obtain rfl:C0!:=rx
 refine Sr I1 ea c hm l ?_
 exact W.callWith_K0 (first:=HC!) I1.YX hm.kp (x_ (us:=HC!) (vs:=HC!) F hr hb hd hx I1 (Ny! rfl) q)
structure Mk(K:W.Frag)(C f:Addr):Prop where
 makes:Qn! W.makesIn
 init:cj! fU!
 fn:mK!
 kp:W.keepIn K DT!=true
theorem Zj{X:G!}{AA:v!}{σ:St}{H:Hp}{s:Shared}{Q:VK}{us:g!}{vs:C!}(M:Mk Kx C f)(F:OP!)(hr:bt! X.A)(hb:OO!)(hd:Od!)(hx:On!)(I:K!)(r:Nk!)(h:∀x dx,h? x->h? dx->dx≠x->sp (MJ!::Mi!) (upd (AP! dx Cb! x) x (H6! [])) (λv H2=>v=.EO/\BH! x H2) E) : Eo! (call DT! us):=by
 have hq:=h (G4!) s.heap.objs.size (I.DK.fresh (EW _)) TU! (BV (IS _));have I2:=Inv.AY (C:=C) I;have r2:Vals (V4! V.ref::Mi!) (Z5!::(Ox!)):=K? rfl (r.append hd);have hl:AU! (Z5!::us++ds)=ps.length:=by have e:=r2.length;rw[F.len _ _ _ _ hq] at e;exact e.symm
 refine wpAny_call (Jhm (f:=f) I.YX M.makes M.init (OE.mp M.fn) (IF (F.run _ X.stack _ _ ⟨Z5!::us,[]⟩ (Z5!::(Ox!)) _ _ E (hr.make C us []) (I2.lI.make C us []) (hb _ (Z5!::us) I2.YX hl) r2 hq) λr s' eE=>?_));cases r with | error e=>exact hx AA σ _ _ e s' I2 eE | ok fl =>cases fl with | ret u =>obtain⟨v,H',I3,rv,ev,q3⟩:=I2.after eE;subst ev;exact⟨rv,DR! (V4! V.ref) H' I3 q3⟩ | next=>exact False.elim eE | brk=>exact False.elim eE | cont=>exact False.elim eE
theorem Xa{X:G!}(M:Mk Kx C f)(F:OP!)(hr:bt! X.A)(hg:GU!)(hm:YV! DT!)(hb:OO!)(hd:Od!)(hx:On!)(ha:OD!)(eI:Et!:=by decide)(he:Lk!:=by rfl)(VL:T8!:=by rfl) : bR! (tV C sp RJ E t):=by intro AA s σ H Q I h;refine IG (K5 I hg hm ?_ eI);refine W.callWith_K (h₀:=X.base) I.ok.mod.ZY M.kp (Um! (λus s1 ⟨vs,H1,I1,r,q⟩=>Ch I1.YX)) he VL;exact Zj M F hr hb hd hx I1 r q
theorem Jgs{X:G!}(M:Mk Kx C f)(F:OP!)(hr:bt! X.A)(hg:GU!)(hm:YV! DT!)(hb:OO!)(hd:Od!)(hx:On!)(eI:Et!:=by decide):u6! (Ez! x p) [] (tV C sp RJ E Ia):=by intro AA s σ H Q I h;refine IG (K5 I hg hm ?_ eI);exact W.callWith_K0 I.YX M.kp (Zj (us:=[]) M F hr hb hd hx I L! h)
universe E
universe S
universe E
structure Ap(N P:U?)(sc:Scope):Prop where
 kind:Xf!:=by rfl
 co:sc.isCoroutine=false:=by rfl
 gen:sc.isGenerator=false:=by rfl
 nd:N.Nodup:=by decide +kernel
 pre:N.take P.length=P:=by rfl
 par:∀x∈P,S7!\/ld!:=by decide +kernel
 lR:gK! Jt!:=by decide +kernel
theorem Vu{kindOf:iS!}{x:Str}:∀{binds:Hi!} {m:v?},(∀v,(x,v)∉binds)->bindL kindOf binds m x=m x
 | [],_,_=>rfl
 | (n,v)::r,m,h=>by unfold bindL;rw[Vu λw hw=>h w (Aj! hw)];split;(·(have:x≠n:=by rintro rfl;exact h v ZL);simp[this]);.rfl
theorem Vw{kindOf:iS!}{x:Str}:∀{binds:Hi!} {m:v?},(∀v,(x,v)∉binds)->bindC kindOf binds m x=m x
 | [],_,_=>rfl
 | (n,v)::r,m,h=>by unfold bindC;rw[Vw λw hw=>h w (Aj! hw)];split;(.rfl);·(have:x≠n:=by rintro rfl;exact h v ZL);simp[this]
theorem Vv{kindOf:iS!}{x:Str}{v:Value}:∀{P:U?} {vs:g!} {i:Nat} {m:v?},P.Nodup->P[i]?=A! x->CN! Tw!->uI! kindOf -> CN! (bindL kindOf (P.zip vs) m x)
 | [],_,_,_,_,h,_,_=>Ce!
 | _::_,[],_,_,_,_,h,_=>Ce!
 | p::P,w::vs,0,m,nd,h1,h2,hk=>by simp at h1 h2;subst h1;subst h2;show sd! bindL p;unfold bindL;rw[Vu λv hv=>(AX.mp nd).1 (List.of_mem_zip hv).1,AF hk];simp
 | p::P,w::vs,i+1,m,nd,h1,h2,hk=>by show sd! bindL x;unfold bindL;exact Vv (i:=i) (AX.mp nd).2 (by simpa using h1) (W8!) hk
theorem Vx{kindOf:iS!}{x:Str}{v:Value}:∀{P:U?} {vs:g!} {i:Nat} {m:v?},P.Nodup->P[i]?=A! x->CN! Tw!->kindOf x≠A! Qx! -> CN! (bindC kindOf (P.zip vs) m x)
 | [],_,_,_,_,h,_,_=>Ce!
 | _::_,[],_,_,_,_,h,_=>Ce!
 | p::P,w::vs,0,m,nd,h1,h2,hk=>by simp at h1 h2;subst h1;subst h2;show sd! bindC p;unfold bindC;rw[Vw λv hv=>(AX.mp nd).1 (List.of_mem_zip hv).1,AB hk];simp
 | p::P,w::vs,i+1,m,nd,h1,h2,hk=>by show sd! bindC x;unfold bindC;exact Vx (i:=i) (AX.mp nd).2 (by simpa using h1) (W8!) hk
def start(N:U?)(vs:C!):St:=vs.map some++List.replicate (N.length-vs.length) none
def Lz(CX:dj)(P:Program)(w:World)(K:W.Frag)(mg:v?)(base:Heap)(N:U?)(qual:Str)(scope:Scope)(f:Addr)(cd:Value)(A:Around)(outer:By!)(s:Shared)(H:Hp)(E:XK):Cx K where
 prog:=P
 w:=w
 mg:=mg
 base:=base
 A:=A.deeper (sY!)
 N:=N
 IE:=s
 UX:=H
 env:=sY!
 outer:=outer
 stack:=sY!::outer
 ex:=[]
 calm:=true
 fn:=λ_=>true
 pn:=[]
 xe:=λe s'=>PE! P w (A.deeper w1!) (leaving w1! e) (λ_ uZ=>CX outer H s E e uZ) (λe' uZ=>CX outer H s E e' uZ) s'
theorem Ja0{sc:Scope}{n:Nat}{x:Str}(h:ld!):∃c,Va! (cellsFrom n sc.names []).lookup:=by have q:=W.cellsFrom_some sc.names n [] SD!;exact Option.isSome_iff_exists.mp q
theorem Je1{CX:dj}{P:Program}{w:World}{K:W.Frag}{mg:v?}{base:Heap}{N ps:U?}{qual:Str}{scope:Scope}{f:Addr}{cd:Value}{A:Around}{outer:By!}{s s1:Shared}{H:Hp}{E:XK}{us:g!}{vs:C!}(S:Ap N ps scope)(hd:Ow!)(e0:rk! A)(hl:vs.length=ps.length)(r:Nk!)(x:InCallC s s.heap.objs.size (bindL (envOfC qual scope s.heap.objs.size f cd).kindOf (ps.zip us) Ov!) (cellsFrom (G4!) scope.names []) (bindC (envOfC qual scope s.heap.objs.size f cd).kindOf (ps.zip us) Ov!) s1) : Inv (vl! cd) [] vd! H s1:=by
 have VL:ps.length<=N.length:=by have:=Nv! S.pre;rw[CD] at this;lia
 obtain⟨h1,tk,rfl,hk⟩:=x.done;have oK:∀b:Addr,b∉(Lz CX P w K mg base N qual scope f cd A outer s H E).ex:=λb z=>ij! (show b∈([]:M!) from z);refine⟨⟨e0.mod,S.kind,rfl,rfl,AC,λy z c h1 h2=>?_,FW!,λy c _ h=>?_,λ_=>hd,Around.frames_deeper e0.frames,I! BP!,λb z=>KN! z oK b,e0.bs,e0.cu,λb _ _=>oK b,λb z=>KN! z oK b,e0.OA,e0.eO⟩,rfl,e0.bare,Un.kept hk,jp x.toInCall.ns (λi y v h1 h2 h3=>?_),λy c h=>D? (x.cell y c h),e0.DK.fresh (ZG _),λy c h=>?_,λp hp=>ij! (show p∈([]:v!) from hp),e0.DK.kept hk,?_⟩;.exact name_of_addr x.apart (IW h1) (IW h2)
 .have hy:L? scope.names.lookup y Aa!\/L? scope.names.lookup y Jt!:=hy;rcases hy with hy|hy;(.exact Ja0 hy);.exact Fh! (S.lR _ (IW hy))
 .exact DH (x.above y c (IW h))
 ·(have hi:fa!:=by unfold start at h2;by_cases hi:fa!;(.exact hi);.rw[FU (by simpa using hi)] at h2;rw[List.getElem?_replicate] at h2;split at h2<;>cases h2);(have ha:CN! Tw!:=by unfold start at h2;rw[PF (by simpa using hi),ZH] at h2;cases e:Tw! with | none=>rw[e] at h2;cases h2 | some a=>rw[e] at h2;cases h2;rfl);obtain⟨u,hu,rv⟩:=r.get ha;(have hp:ps[i]?=A! y:=by rw[<-S.pre,Cn! List.getElem?_take_of_lt];exact h1);(have ndP:ps.Nodup:=S? S.pre (S.nd.sublist (List.take_sublist _ _)));refine GM u rv;rcases S.par y (ZP hp) with k|k;(.exact Al! k (Vv ndP hp hu k));.obtain⟨c,e⟩:=Ja0 (n:=G4!) k;refine I! (A2! CU! c e);have q:=x.cell y c e;rw[Vx ndP hp hu (by show scope.names.lookup y≠_;rw[k];decide)] at q;exact q
 .exact e0.DK.fresh (DH (x.above y c (IW h)))
 .unfold start;show _=N.length;rw[ZE,ZA,List.length_replicate];lia
theorem Jli{CX:dj}{P:Program}{w:World}{K:W.Frag}{mg:v?}{base:Heap}{k:Nat}{f:Addr}{name qual:Str}{params:Arguments}{body:hK!}{scope:Scope}{dV kV doc pm D_ ct oc:Value}{an od:KP!}{je:Array (Option Value)}{N ps:U?}{sp:Sp}(lk:L? K.lookup f ⟨oc,od,.func (vi! name qual params body scope dV),je⟩)(cZ:W.codeIn K D_ qual=true)(S:Ap N ps scope)(len:l7!)(aO:∀(A:Around) (outer:By!) (s:Shared) (H:Hp) (vs:C!) (Q:VK) (E:XK),bN! (fO! scope D_)->Qs! -> rm! (QE (Wc! CX D_) body t)) : sW! CX (k+1) f (vi! name qual params body scope dV) ps sp:=by
 refine⟨len,λA outer s H args us vs Q E hr e0 hb r gG=>?_⟩;have hl:=len _ _ _ _ gG;have KX:N2!:=e0.mod.ZY.keeps (Ab! (XM! e0.bs));have lim:s.heap.NoLimit:=e0.mod.nolimit.keeps (Ab! (XM! e0.bs));have PU:∀y∈ps.zip us,m7! scope.names.lookup\/(L? scope.names.lookup y.1 Aa!/\((cellsFrom (G4!) scope.names []).lookup y.1).isSome=true):=λ⟨n,v⟩ hy=>by rcases S.par n (List.of_mem_zip hy).1 with q|q;(.exact J! q);.exact wS q (o! W.cellsFrom_some _ (AD! q))
 refine codeAny_call_function hr.depth (X! KX lk) rfl S.co S.gen rfl (W.codeRec_of KX cZ) (hb _ _ _ _ ?_);refine wpAny_newFunctionEnv_cells S.kind PU λenv he s1 x=>?_;subst he;refine⟨lim.keeps x.toInCall.keep,codeAny_func ?_⟩;obtain⟨t,ht,hq⟩:=aO A outer s H vs Q E (hr.deeper _) gG;have I:Inv (vl! D_) [] vd! H s1:=Je1 S hr.hd e0 hl r x;refine EZ (ht [] s1 vd! H _ I hq) (λfl s' hs=>?_) λe s' hs=>hs;have fin:∀{EV:St} {H':Hp} {v:V} {u:Value},Inv (vl! D_) [] EV H' s'->DA!->Na!->CE outer P w H s Q u s' :=λ{EV H' v u} J rv q=>⟨v,H',J.os,J.bare,J.base,J.DK,rv,q⟩;cases fl with | ret u =>obtain⟨v,EV,H',J,rv,q⟩:=hs;exact fin J rv q | next =>obtain⟨EV,H',J,q⟩:=hs;exact fin (v:=V.EO) (u:=Value.none) J rfl q | brk =>obtain⟨_,_,_,q⟩:=hs;exact False.elim q | cont =>obtain⟨_,_,_,q⟩:=hs;exact False.elim q
universe S
variable {X:Cx Kx}{x:Str}{p pos:Pos}{e:Expr}{es:List Expr}{t:TA}{id T:String}{r:List V->Hp->VK->Prop}
def tCB(r:C!->JK!)(t:TA):TE:=kF! (r vs H1 Q)
theorem Bv(hc:vQ! id r)(hg:GU!)(hm:FM X.mg x)(hv:bv bootBuiltins x D3! id)(ha:OD!)(hn:XS!:=by decide)(eI:Et!:=by decide)(he:Lk!:=by rfl)(VL:T8!:=by rfl):bR! (tCB r t):=by intro AA s σ H Q I h;refine IG (yM I hg hm hv ?_ hn eI);exact PyProof.Rows.callWith_builtin1 (Um! (λus s1 ⟨vs,H1,I1,r1,q1⟩=>sl! hc vs us)) he VL
theorem C5(hc:Zp! T r)(hg:GU!)(hm:FM X.mg x)(hv:bv bootBuiltins x GX! T)(ha:OD!)(hn:XS!:=by decide)(eI:Et!:=by decide)(he:Lk!:=by rfl)(VL:T8!:=by rfl):bR! (tCB r t):=by intro AA s σ H Q I h;refine IG (yM I hg hm hv ?_ hn eI);exact PyProof.Rows.callWith_type1 (Um! (λus s1 ⟨vs,H1,I1,r1,q1⟩=>sl! hc vs us)) he VL
universe E
universe S
variable [DecidableEq κ]
def B4(kvs:AG!)(k:κ):Ar!:=(kvs.find? vV!).map db
def putK(kvs:AG!)(k:κ)(v:V):AG! :=
 Lm! (hH! kvs.any=true) (kvs.map (oV! (kv.1,v))) (kvs++[(k,v)])
def Ej(kvs:AG!)(k:κ):AG!:=kvs.filter λkv=>w! (kv.1≠k)
theorem F0{p:κ×V}{r:AG!}{k:κ}(e:Dm!):B4 (p::r) k=A! p.2:=by simp[B4,BP,e]
theorem F1{p:κ×V}{r:AG!}{k:κ}(e:¬Dm!):B4 (p::r) k=B4 r k:=by simp[B4,BP,e]
theorem L9(k:κ):∀kvs:AG!,hH! kvs.any=(B4 kvs k).isSome
 | []=>rfl
 | p::r=>by rw[KU];by_cases e:Dm!;(.simp only[F0 e,YH!,Bool.true_or,Option.isSome_some]);.rw[F1 e,F9!,Bool.false_or];exact L9 k r
theorem Ug(k j:κ)(y:V):∀kvs:AG!,B4 kvs k=none->B4 (kvs++[(k,y)]) j=v6 (j=k) (A! y) (B4 kvs j)
 | [],_=>by by_cases e:k=j;(.rw[AF e.symm];exact F0 (p:=(k,y)) e);.rw[AB (L8! e)];exact F1 (p:=(k,y)) e
 | p::r,hn=>by rw[List.cons_append];(have hk:¬Dm!:=λz=>by rw[F0 z] at hn;cases hn);rw[F1 hk] at hn;have ih:=Ug k j y r hn;by_cases e:p.1=j;(.rw[F0 e,F0 e,AB (JF! hk e.trans)]);.rw[F1 e,F1 e,ih]
theorem F4(kvs:AG!)(k:κ)(v:V):(putK kvs k v).length<=kvs.length+1:=by
 unfold putK;split;.rw[ZA];lia
 .rw[ZE,BM,BS];lia
theorem E4{kvs:AG!}{k:κ}(v:V)(h:B4 kvs k=none):putK kvs k v=kvs++[(k,v)]:=by unfold putK;rw[L9,h];exact Fe!
theorem Q_.KP(r:Q_ o u):o.isSome=u.isSome:=by cases o with | none=>(cases u with | none=>rfl | some _=>exact T4!) | some _=>cases u with | none=>exact T4! | some _=>rfl
theorem Q_.getD(r:Q_ o u)(rd:RelV d d'):RelV (o.getD d) (u.getD d'):=by cases o with | none=>(cases u with | none=>exact rd | some _=>exact T4!) | some _=>cases u with | none=>exact T4! | some _=>exact r
theorem KV.val(r:Ca!)(k:κ):Q_ fi! (valueAt vs k):=by unfold KV at r;induction r with | nil=>exact True.intro | @cons p q ps qs h t ih =>obtain⟨h1,h2⟩:=h;by_cases e:Dm!;(.have e':q.1=k:=h1.symm.trans e;(have b:valueAt (q::qs) k=A! q.2:=by simp[valueAt,BP,e']);rw[F0 e,b];exact h2);.have e':¬q.1=k:=Zx!;(have b:valueAt (q::qs) k=valueAt qs k:=by simp[valueAt,BP,e']);rw[F1 e,b];exact ih
theorem KV.any(r:Ca!)(k:κ):(kvs.any vV!)=vs.any vV!:=by unfold KV at r;induction r with | nil=>rfl | cons h t ih=>rw[KU,KU,ih,h.1]
theorem KV.ki(r:Ca!)(k:κ)(ry:A8!) : KV (kvs.map (oV! (kv.1,y))) (vs.map (oV! (kv.1,u))):=by unfold KV at r ⊢;induction r with | nil=>exact L! | @cons p q ps qs h t ih =>rw[AI,AI];refine K6! ?_;obtain⟨h1,h2⟩:=h;by_cases e:Dm!;(.rw[sw,AF (h1.symm.trans e)];exact⟨h1,ry⟩);.rw[XV,AB (Zx!)];exact lU!
theorem KV.put{kvs:AG!}{vs:hO!}(r:Ca!)(k:κ){y:V}{u:Value}(ry:A8!):KV (putK kvs k y) (stored vs k u):=by
 unfold putK stored;rw[r.any k];by_cases e:hH! vs.any=true;.rw[sw,sw];exact r.ki k ry
 .rw[XV,XV];exact Paired.snoc r (x? ry)
theorem KV.drop{kvs:AG!}{vs:hO!}(r:Ca!)(k:κ):KV W6! (without vs k):=by unfold KV at r ⊢;unfold Ej without;induction r with | nil=>exact L! | @cons p q ps qs h t ih =>obtain⟨h1,h2⟩:=h;rw[DX,DX];by_cases e:Dm!;(·(have a:¬l0! p.1:=W9!);(have b:¬l0! q.1:=by simp[h1.symm.trans e]);rw[AB a,AB b];exact ih);.have e':¬q.1=k:=Zx!;(have a:l0! p.1:=W9!);(have b:l0! q.1:=by simp[e']);rw[AF a,AF b];exact K6! lU!
theorem KV.length(r:Ca!):Lo!:=y! r
theorem Jia(kvs:AG!)(k:κ):(Ej kvs k).length<=kvs.length:=Kg!
universe E
theorem M8(r:RelV (kV k) u):(Cg P w).is k u=true:=by cases k with | inl i=>obtain⟨t,e⟩:=Fw! UW!;subst e;exact Jae P w i t | inr x=>obtain⟨t,e⟩:=Fw! pP!;subst e;exact Jad P w x t
theorem U4:∀{ks:EG!} {us:g!},Vals (ks.map kV) us->ItemsAre Js! ks us
 | [],_,r=>by rw[DW] at r;cases r;exact L!
 | k::ks,_,r=>by rw[AI] at r;cases r with | cons h t=>exact K? (M8 h) (U4 t)
abbrev KT(H:Hp):AN! wv Ie!:=Mh! (λp q=>p.1=q.1/\PH! E? WL! kV/\RelV p.2 FS)
theorem KT.val(r:Ga!)(k:EG!):Q_ fi! ((atKey xs k).map db):=by induction r with | nil=>exact True.intro | @cons p q ps qs h t ih =>obtain⟨h1,_,h2⟩:=h;by_cases e:Dm!;(.have e':q.1=k:=h1.symm.trans e;(have b:atKey (q::qs) k=A! q.2:=by simp[atKey,BP,e']);rw[F0 e,b];exact h2);.have e':¬q.1=k:=Zx!;(have b:atKey (q::qs) k=atKey qs k:=by simp[atKey,BP,e']);rw[F1 e,b];exact ih
theorem KT.ki(r:Ga!)(k:EG!)(ry:A8!) : KT H (kvs.map (oV! (kv.1,y))) (xs.map (putAt k u)):=by induction r with | nil=>exact L! | @cons p q ps qs h t ih =>rw[AI,AI];refine K6! ?_;obtain⟨h1,h2,h3⟩:=h;unfold putAt;by_cases e:Dm!;(.rw[sw,AF (h1.symm.trans e)];exact⟨h1,h2,ry⟩);.rw[XV,AB (Zx!)];exact⟨h1,h2,h3⟩
theorem KT.put{H:Hp}{kvs:wv}{xs:Ie!}(r:Ga!)(k:EG!){b:Addr}{y:V}{u:Value}(hb:UR!)(ry:A8!) : KT H (putK kvs k y) (storedH xs k b u):=by
 have e:hH! kvs.any=(atKey xs k).isSome:=by rw[L9,(r.val k).KP,Option.isSome_map]
 unfold putK storedH;rw[e];by_cases q:(atKey xs k).isSome=true;.rw[AF q,AF q];exact r.ki k ry
 .rw[AB q,AB q];exact Paired.snoc r (BO! hb ry)
theorem KT.keeps(r:Ga!)(ht:∀b ys,lz! (EU! .BB ys) ys):KT H' kvs xs :=Jr7 r λ_ _ z=>⟨z.1,E! ht z.2.1,z.2.2⟩
universe S
theorem Jlc(ok:DG!)(e:Rd H a u):Ij! u:=e.ok ok
theorem Ni(ok:DG!)(e:ln!):mA! (∃vs,Ca!/\h.DictOf Js! a vs) :=Cf! (Ij! aV!) (Jlc ok e)
theorem pQ(ok:DG!)(e:S2!):mA! (∃vs,Ca!/\h.DictOf Js! a vs):=Ni ok (Z! e)
theorem Kl(ok:DG!)(e:mE! ks.map):(tupleKind (Cg P w)).is h ks a:=by obtain⟨_,its,r,o,h1,h2,n,h3⟩:=DU! (Ij! (.BB (ks.map kV))) (ok a _ e);exact⟨o,its.toArray,n,h1,h2,h3,Ge! (U4 r)⟩
theorem Nh(ok:DG!)(e:Jq! a .dT kvs):WI!/\ew! /\ ∃xs,Ga!/\h.DictOfH wx! a xs:=by
 obtain⟨z,y,xs,r,o,es,ep,h1,h2,h3,h4,h5⟩:=DU! (Ij! (.dT kvs)) (Jlc ok e);refine⟨z,y,xs,r,o,es,ep,h1,h2,h3,h4,EZ!,h5⟩;have all:∀{l:wv} {m:Ie!},KT H l m->∀x∈m,(tupleKind (Cg P w)).is h x.1 HK!:=by intro l m q;induction q with | nil=>intro x hx;exact nomatch hx | @cons p q ps qs hq t ih =>intro x hx;rcases ZM hx with e|hx;(.subst e;exact Kl ok (S? hq.1 hq.2.1));.exact ih x hx
 exact all r x hx
theorem Vp(ok:DG!)(e:aE!):WI!/\ew! /\ ∃xs,Ga!/\h.DictOfH wx! a xs:=Nh ok (Z! e)
universe E
def DS(H:Hp)(a:Addr)(y:V)(r:Ar!):Prop :=
 (∃kvs k,ln!/\y=kV k/\r=B4 kvs k)\/∃kvs k b,Jq! a .dT kvs/\y=Uf/\UR!/\r=B4 kvs k
def FZ(H:Hp)(a:Addr)(y v:V)(H':Hp):Prop :=
 (∃kvs k,S2!/\y=kV k/\fb!/\H'=wP H a .dK fT!) \/
 ∃kvs k b,aE!/\y=Uf/\UR!/\fb!/\H'=wP H a .dT fT!
theorem DS.k{H:Hp}{a:Addr}{kvs:k?}{k:Key}(e:S2!):DS H a (kV k) fi!:=J! (DR! kvs k (J! e) rfl)
theorem DS.t{H:Hp}{a b:Addr}{kvs:wv}{k:EG!}(e:aE!)(eb:UR!):DS H a FN! fi!:=I! ⟨kvs,k,b,J! e,rfl,eb,rfl⟩
theorem FZ.k{H:Hp}{a:Addr}{kvs:k?}{k:Key}{v:V}(e:S2!)(hl:fb!):FZ H a (kV k) v (AP! a .dK fT!):=J! ⟨kvs,k,e,rfl,hl,rfl⟩
theorem FZ.t{H:Hp}{a b:Addr}{kvs:wv}{k:EG!}{v:V}(e:aE!)(eb:UR!)(hl:fb!) : FZ H a FN! v (AP! a .dT fT!):=I! ⟨kvs,k,b,e,rfl,eb,hl,rfl⟩
universe S
theorem Inv.big(I:K!):sysModules<s.heap.objs.size:=by have h:mainGlobals<s.heap.objs.size:=(I.mod.glob.keeps I.bk).lt;exact RA (w?) h
theorem Vs(hu:LF!)(I:K!)(g:DS H a y Km!)(ry:A8!)(h:bn! NI! (RelV v w')) : MR! (getItem T0 u):=by
 rcases g with⟨kvs,k,e,ey,l⟩|⟨kvs,k,b,e,ey,eb,l⟩;.subst ey;obtain⟨z,hd,vs,rel,dd⟩:=Kw!;obtain⟨w',hw,QM⟩:=rl! (valueAt vs k) (q! l (rel.val k));exact wpAny_getItem_of OY! dd.mapOf hw (h w' _ uN! QM)
 .subst ey;cases UY!;obtain⟨z,hd,xs,rel,dd⟩:=Nn!;obtain⟨w',hw,QM⟩:=rl! ((atKey xs k).map db) (q! l (rel.val k));obtain⟨p,hp,GV⟩:=Option.map_eq_some_iff.mp hw;refine wpAny_getItem_heap (FD hu) cd! dd hp ?_;rw[GV];exact h w' _ uN! QM
theorem Jrb(hu:LF!)(I:K!)(g:bP!)(ry:A8!)(h:∀s',NI!->Q (bi o.isSome) s') : MR! (compareOp .In u T0):=by
 rcases g with⟨kvs,k,e,ey,l⟩|⟨kvs,k,b,e,ey,eb,l⟩;.subst ey;obtain⟨z,hd,vs,rel,dd⟩:=Kw!;refine wpAny_in_of OY! hd dd.mapOf ?_;rw[<-gM!,<-l];exact kp!
 .subst ey;cases UY!;obtain⟨z,hd,xs,rel,dd⟩:=Nn!;refine wpAny_in_heap (FD hu) cd! hd dd ?_;have q:=gM!;rw[Option.isSome_map] at q;rw[<-q,<-l];exact kp!
theorem Jku(hu:LF!)(I:K!)(g:bP!)(ry:A8!)(h:∀s',NI!->Q (bi (!o.isSome)) s') : MR! (compareOp Mg! u T0):=by
 rcases g with⟨kvs,k,e,ey,l⟩|⟨kvs,k,b,e,ey,eb,l⟩;.subst ey;obtain⟨z,hd,vs,rel,dd⟩:=Kw!;refine wpAny_notIn_of OY! hd dd.mapOf ?_;rw[<-gM!,<-l];exact kp!
 .subst ey;cases UY!;obtain⟨z,hd,xs,rel,dd⟩:=Nn!;refine wpAny_notIn_heap (FD hu) cd! hd dd ?_;have q:=gM!;rw[Option.isSome_map] at q;rw[<-q,<-l];exact kp!
theorem K8(I:K!)(mu:pL (H a))(hs:eT! a)(he:∃q,Yj! q)(new:PU! (upd H a ob) h' a ob) : vE! a ob Q0! :=I.write (x:=a) (e:=a) mu Cr! (λb q hb z=>(hs.2 b hb).trans z) he new
theorem xu(z:WI!)(hd:ew!)(rel:Ca!)(dd:h'.DictOf Js! a vs) : DU P w H' h' a aV!:=⟨z,hd,vs,rel,dd⟩
theorem Vr{H':Hp}{Q:Hv!}(hu:LF!)(I:K!)(g:FZ H a y v H')(ry:A8!)(rv:RelV v r)(h:∀s',IR!->Q () s') : MR! (setItem T0 u r):=by
 rcases g with⟨kvs,k,e,ey,l,eH⟩|⟨kvs,k,b,e,ey,eb,l,eH⟩;.subst ey eH;obtain⟨z,hd,vs,rel,dd⟩:=PW! pQ;(have hz:vs.length<=sizeLine:=Mt! rel.length);(have hl:At! (putK kvs k v).length:=D6! (F4 kvs k v));refine wpAny_setItem_pairs (hsz:=hz) OY! dd λh' df hs=>h _ ?_;have he:∃q,Yj! q:=let⟨q,_,_,hq,_⟩:=df;m0!;exact pc! hs he (xu hl hd (rel.put k rv) df)
 .subst ey eH;cases UY!;obtain⟨z,hd,xs,rel,dd⟩:=PW! Vp;(have hz:Dz!:=Mt! GC!);(have hl:At! (putK kvs k v).length:=D6! (F4 kvs k v));refine wpAny_setItem_heap (hsz:=hz) (FD hu) cd! dd λh' df hs=>h _ ?_;obtain⟨q,es,ep,hq,h2,h3,h4,_,h5⟩:=df;refine pc! hs m0! ⟨hl,hd,_,(rel.put k eb rv).keeps λc ys ec=>?_,q,es,ep,hq,h2,h3,h4,h5⟩;rw[Ad (Rt ec e (λz=>eq!))];exact ec
universe E
universe S
theorem Jo6(I:K!)(e:S2!)(ry:RelV (kV k) u)(l:Y7!)(hm:more=[]\/∃x,more=[x])(h:bn! (xz (AP! a .dK W6!) s') (RelV v w')):Zl! "dict.pop" (Os::u::more):=by
 obtain⟨z,hd,vs,rel,dd⟩:=PW! pQ;obtain⟨w',hw,QM⟩:=rl! (valueAt vs k) (EX! l (rel.val k));have hp:(keyPart u).isSome=true:=by cases k with | inl i=>obtain⟨t,q⟩:=eM! UW!;subst q;rfl | inr x=>obtain⟨t,q⟩:=eM! pP!;subst q;rfl
 have ha:argsOk "dict.pop" ⟨Os::u::more,[]⟩:=by rcases hm with q|⟨x,q⟩;(.subst q;exact PySem.F.args_dict_pop_2 _ _);.subst q;exact E! PySem.F.args_dict_pop_3 _
 refine YN KJ dd.typeIs PySem.F.entry_dict_pop ha (meets_dict_pop_there IW! a OY! more hm hp) ⟨vs,w',dd,Mt! rel.length,hw,λh' df hs=>h w' _ ?_ QM⟩;have he:∃q,Yj! q:=let⟨q,_,_,hq,_⟩:=df;m0!;exact pc! hs he (xu (AV (Jia kvs k) z) hd (rel.drop k) df)
theorem Jo7(I:K!)(e:ln!)(h:∀t s',NI!->Q (a! kvs.length t) s'):Zl! "len" HC!:=by obtain⟨z,hd,vs,rel,dd⟩:=Kw!;refine call_len_dict hd dd (by rw[<-rel.length];rw[DR] at z;lia) ?_;rw[<-rel.length];exact E! h uN!
universe E
def Jpe(i:Expr):Prop:=∀ov iv,subscripted i false ov iv=operate [ov,iv] (getItem ov iv)
theorem Jit{prog:Program}{w:World}{A:Around}{E:V?}{s:Shared}{env:Env}{value slice:Expr}{pos:Pos}{T id:String}{Q:V?}(hl:typeLookup (GX! T) "__getitem__"=pure (Yh! id))(hs:Jpe slice)(h:UQ! (UK! value) (λo EK=>eg! (UK! slice) (λi VP=>VP.TypeIs o T/\aN! (getItem o i) VP) EK)) : Ao! (UK! (Oz! value slice pos)):=by
 refine Subscript_ (EZ h (λo EK h₁=>EZ h₁ (λi VP k8=>?_) e5!) e5!);obtain⟨hT,k8⟩:=k8;unfold subscriptTail;refine KW!;rw[getitemInPython_of_ne hT.not_modules];refine ZR (wpAny_specialOf hT hl ?_);have fin:eg! (subscripted slice false o i) (λr pW=>aN! (letTemporaryGo value o r >>= λ_=>pure r) pW) VP:=H! (hs o i) (wpAny_operating (EZ k8 (λr pW zR=>So! wpAny_letTemporaryGo zR) e5!))
 first | exact ZS (ZR fin) | exact d4! ZS fin | exact ZR fin
theorem Jaz(I:K!)(g:bP!):lx! T0:=by
 rcases g with⟨kvs,k,e,_,_⟩|⟨kvs,k,b,e,_,_,_⟩;.obtain⟨_,_,vs,_,dd⟩:=Kw!;exact dd.typeIs
 .obtain⟨_,_,xs,_,dd⟩:=Nn!;exact dd.typeIs
inductive Jnh  (x:V) (y:V) (H2:Hp) (Q:VK):Prop
 | mk (a v) (e0:A3!) (e1:cD! Km!) (e2:Q v H2)
def Ui(td ty:TE):TE:=ZT! (TM! (Jnh  x y H2 Q))
inductive Jpk  (x:V) (y:V) (H2:Hp) (Q:VK):Prop
 | mk (a o) (e0:A3!) (e1:cD! o) (e2:Q (.bl o.isSome) H2)
def Jpw(ty td:TE):TE:=s6! ty (λy H1=>CL! td (λx H2=>Jpk  x y H2 Q))
inductive Jim  (x:V) (y:V) (H2:Hp) (Q:VK):Prop
 | mk (a o) (e0:A3!) (e1:cD! o) (e2:Q (.bl (!o.isSome)) H2)
def Jis(ty td:TE):TE:=s6! ty (λy H1=>CL! td (λx H2=>Jim  x y H2 Q))
inductive Jni  (x:V) (y:V) (v:V) (H3:Hp) (σ:St) (D:Ends):Prop
 | mk (a H4) (e0:A3!) (e1:FZ H3 a y v H4) (e2:Pb! H4)
def Jog(td ty tv:TE):TS:=RK! tv (λv H1=>CL! td (λx H2=>ty σ H2 λy H3=>Jni  x y v H3 σ D))
def Joh(td ty tv:TE)(rd:Zr!):TS:=Mk! (td σ H λx H1=>TM! (∃a v,A3!/\cD! Km! /\
 tv σ H2 λy2 H3=>rd v y2 H3 λz H4=>∃H5,FZ H4 a y z H5/\Pb! H5))
universe S
theorem Br(hu:Fs!)(ho:IU!)(hi:bw!)(hs:Jpe i:=by exact fd!):Dq! Oz! o i (Ui td ty):=by intro AA s σ H Q I h;refine Jit PySem.F.slot_dict_getitem.lookup hs (PO! ho (λu s1 ⟨x,H1,I1,rx,q1⟩=>Yl! hi (λiv s2 ⟨y,H2,I2,ry,a,v,ex,g,q2⟩=>?_)));subst ex;obtain rfl:C0!:=rx;exact⟨Jaz I2 g,cl! Vs (XZ! ⟨v,H2,I3,QM,q2⟩)⟩
theorem Lp(hu:Fs!)(hi:bw!)(ho:IU!):PC X .In i o (Jpw ty td):=by intro AA s σ H Q I h;refine EM (s4! hi) λiv s1 ⟨y,H1,I1,ry,q1⟩=>jF! ho;rintro u s2 ⟨x,H2,I2,rx,a,ov,ex,g,q2⟩;subst ex;obtain rfl:C0!:=rx;exact cl! Jrb (λs3 I3=>DR! (.bl ov.isSome) H2 I3 q2)
theorem Em(hu:Fs!)(hi:bw!)(ho:IU!):PC X Mg! i o (Jis ty td):=by intro AA s σ H Q I h;refine EM (s4! hi) λiv s1 ⟨y,H1,I1,ry,q1⟩=>jF! ho;rintro u s2 ⟨x,H2,I2,rx,a,ov,ex,g,q2⟩;subst ex;obtain rfl:C0!:=rx;exact cl! Jku (λs3 I3=>DR! (.bl (!ov.isSome)) H2 I3 q2)
theorem Co(hu:Fs!)(ho:IU!)(hi:bw!)(hv:nC!)(hs:qj! value (some (Oz! o i pos'))) : nS! [Oz! o i pos'] value (Jog td ty tv):=by intro AA s σ H D I h;refine wpAny_Assign_Subscript (PO! hv (λr s1 ⟨v,H1,I1,rv,q1⟩=>Yl! ho (λu s2 ⟨x,H2,I2,rx,q2⟩=>iY! hi s2 I2 (λiv s3 ⟨y,H3,I3,ry,a,H4,ex,g,q3⟩=>?_)))) hs;subst ex;obtain rfl:C0!:=rx;exact Vr hu I3 g ry rv λs4 I4=>Jw! H4 I4 q3
theorem Mn(hu:Fs!)(ho:IU!)(hi:bw!)(hv:nC!)(vZ:tK X op rd)(ha:∀ov iv new,augStore i ov iv new=(do holding [new,ov,iv] (setItem ov iv new);release [new,ov,iv] [];pure .next)):PS X (.AugAssign (Oz! o i yS) op value pos) (Joh td ty tv rd):=by
 intro AA s σ H D I h
 refine wpAny_AugAssign_SubscriptAny (PO! ho (λu s1 ⟨x,H1,I1,rx,q1⟩=>Yl! hi (λiv s2 ⟨y,H2,I2,ry,a,v,ex,g,q2⟩=>?_))) ha
 subst ex
 obtain rfl:C0!:=rx
 refine cl! Vs (XZ! (iY! hv s3 I3 (λw2 s4 ⟨y2,H3,I4,ry2,q3⟩=>DY! (vZ AA s4 σ H3 v y2 w' w2 _ I4 QM ry2 q3))))
 rintro w3 s5 ⟨z,H4,I5,rz,H5,g5,q4⟩
 exact Vr hu I5 g5 ry rz λs6 I6=>Jw! H5 I6 q4
universe E
theorem Jay(h:Heap)(hb:sysModules<h.objs.size):DU P w H (h.push (VS! Is! .dict (#[]))) h.objs.size (.dK []) :=⟨wn,DZ.mpr (Ne.symm (BV hb)),[],L!,Heap.DictOf.new h⟩
theorem Jav(h:Heap)(hb:sysModules<h.objs.size):DU P w H (h.push (VS! Is! .dict (#[]))) h.objs.size (.dT []) :=⟨wn,DZ.mpr (Ne.symm (BV hb)),[],L!,_,#[],0,CM!,id! rfl,rfl,rfl,DL⟩
def Jlw:TE:=λ_ H Q=>GT! (AP! p .dK [])
def Jlv:TE:=λ_ H Q=>GT! (AP! p .dT [])
universe S
theorem Ei:Dq! .Dict [] [] Jlw:=λAA s σ H Q I h =>wpAny_Dict_empty (uW! (bb! (.dK []) gN! (om! Jay)) (h _ TU!))
theorem Fh:Dq! .Dict [] [] Jlv:=λAA s σ H Q I h =>wpAny_Dict_empty (uW! (bb! (.dT []) gN! (om! Jav)) (h _ TU!))
universe E
def yJ:Ac! (TE×TE)->St->WX! (I4! (Ac! (V×V)))
 | [],_,H,Q=>Q [] H
 | (tk,tv)::r,σ,H,Q=>tk σ H λx H1=>CL! tv (λy H2=>yJ r σ H2 λps H3=>Q ((x,y)::ps) H3)
abbrev VV:AN! (Ac! (V×V)) (Ac! (Value×Value)):=Mh! (λp q=>RelV p.1 q.1/\RelV p.2 q.2)
def sv(X:G!)(pos:Pos)(keys:Bl! (Option Expr))(values:KB!)(jV:Ac! (TE×TE)):Prop :=
 ∀(AA:v!)(s:Shared)(σ:St)(H:Hp)(Q:I4! (Ac! (V×V))),XH! (yJ jV σ H Q ->
  ez! (evalPairs (pairTrees keys values X.env pos)) (λvs s'=>∃ps H',IR!/\VV ps vs/\Q ps H'))
theorem Jjg:sv X pos [] [] []:=λAA s σ H Q I h=>pairTrees_nil_walk ⟨[],H,I,L!,h⟩
theorem Mp(hk:AO! k tk)(hv:AO! v tv)(hr:sv X pos ks vs jV) : sv X pos (A! k::ks) (v::vs) ((tk,tv)::jV):=λAA s σ H Q I h =>pairTrees_cons_walk (PO! hk (λu s1 ⟨x,H1,I1,rx,q1⟩=>Yl! hv (λw2 s2 ⟨y,H2,I2,ry,q2⟩ =>iY! hr s2 I2 (λws s3 ⟨ps,H3,I3,rel,q3⟩=>⟨(x,y)::ps,H3,I3,K? ⟨rx,ry⟩ rel,q3⟩))))
def Lr(kvs more:k?):k?:=more.foldl (λacc kv=>putK acc kv.1 kv.2) kvs
theorem KV.merge:∀{more:k?} {rs:hP!} {kvs:k?} {vs:hP!},KV more rs->Ca!->KV (Lr kvs more) (merged vs rs):=by intro more rs kvs vs r;unfold KV at r;induction r generalizing kvs vs with | nil=>intro q;exact q | @cons p q ps qs h t ih =>intro r0;(have e:KV py! (stored vs q.1 q.2):=by have:=r0.put p.1 h.2;rw[<-h.1];exact this);exact ih e
theorem Ll:∀(more kvs:k?),Cq! Lr kvs more ff!
 | [],kvs=>bn (kvs.length<=kvs.length+0)
 | p::r,kvs=>by have h1:=Ll r py!;have h2:=F4 kvs p.1 p.2;show Yv! Lr py! _;rw[BM];lia
theorem Th{P:Program}{w:World}:∀{kvs:k?} {ws:Ac! (Value×Value)},VV (kvs.map λkv=>(kV kv.1,kv.2)) ws->∃rs,Carries Js! ws rs/\KV kvs rs
 | [],_,r=>by rw[DW] at r;cases r;exact⟨[],True.intro,L!⟩
 | p::kvs,_,r=>by rw[AI] at r;cases r with | @cons a b as bs h t =>obtain⟨rs,c,q⟩:=q? Th P P w w t;obtain⟨b1,b2⟩:=b;exact⟨(p.1,b2)::rs,FT! (M8 h.1) c,K? (x? h.2) q⟩
def Jn3(jV:Ac! (TE×TE)):TE:=λσ H Q=>∀p,Pi!->yJ jV σ (AP! p .dK []) λps H2=>eE! H2 p []/\∃kvs:k?,ps=kvs.map (λkv=>(kV kv.1,kv.2))/\kvs.length<=15/\BH! p (HR! p .dK (Lr [] kvs))
theorem Jjj(h:sv X pos keys values jV)(lF:Tk keys.all (·.isSome))(hl:keys.length=values.length)(h0:keys≠[])(h15:keys.length<=15):PE X (.Dict keys values pos) (Jn3 jV):=by
 intro AA s σ H Q I q;have hn:=I.DK.fresh (ZG s.heap.objs.size);have I1:=I.laid (a:=s.heap.objs.size) (o:=.dK []) (h':=Qk! Is! .dict (#[])) (t':=s.toks) (gN!) ci (om! Jay);refine wpAny_Dict_walk (knd:=Cg X.prog X.w) lF hl h0 h15 (EM (h AA _ σ _ _ I1 (q _ hn)) ?_);rintro ws s2 ⟨ps,H2,I2,rel,e,kvs,ep,lk,q2⟩;subst ep;obtain⟨rs,c,rk⟩:=q? Th P X.prog w X.w rel;obtain⟨z,hd,vs0,r0,dd⟩:=pQ I2.DK e;cases r0;refine⟨rs,c,dd,λh' df hs=>uW! ?_ q2⟩;have hz:At! (Lr [] kvs).length:=by have h1:=Ll kvs [];rw[BS] at h1;rw[DR];lia
 have he:∃q,KC! s.heap.objs.size q:=let⟨q,_,_,hq,_⟩:=df;m0!;exact K8 I2 wh! hs he (xu hz hd (rk.merge L!) df)
structure M1(X:G!)(o:Expr)(m:Str)(apos:Pos)(e:Expr)(HR:Pos):Prop where
 base:rh! m
 ox:AT! ((backTo HR (starEach [e] X.env)).all (λx=>! x.1)&&(backToKw HR (keywordEach [] X.env)).all (λx=>x.1.isSome)
  && w! (([e]:KB!).length+([]:Bl! Keyword).length+(Lm! ([]:Bl! Keyword).isEmpty 0 1)<30))
 line:ih!
 trees:backTo HR (starEach [e] X.env)=[(false,uX!)]
structure M2(X:G!)(o:Expr)(m:Str)(apos:Pos)(e f:Expr)(HR:Pos):Prop where
 base:rh! m
 ox:AT! ((backTo HR (starEach [e,f] X.env)).all (λx=>! x.1)&&(backToKw HR (keywordEach [] X.env)).all (λx=>x.1.isSome)
  && w! (([e,f]:KB!).length+([]:Bl! Keyword).length+(Lm! ([]:Bl! Keyword).isEmpty 0 1)<30))
 line:ih!
 trees:backTo HR (starEach [e,f] X.env)=[(false,uX!),(false,e1! f)]
def pS(H:Hp)(a:Addr):Prop:=(∃kvs,ln!)\/∃kvs,Jq! a .dT kvs
theorem X8(I:K!)(d:pS H a) : lx! T0/\(∀b,Value.ref a=Uf->∃ob,KG! s.heap.get?/\ob.dict=none)/\ew!:=by
 rcases d with⟨kvs,e⟩|⟨kvs,e⟩;.obtain⟨_,hd,vs,_,dd⟩:=Kw!;refine⟨dd.typeIs,λb q=>?_,hd⟩;cases q;obtain⟨ob,_,_,h1,h2,_⟩:=dd;exact⟨ob,h1,h2.2.1⟩
 .obtain⟨_,hd,xs,_,dd⟩:=Nn!;refine⟨dd.typeIs,λb q=>?_,hd⟩;cases q;obtain⟨ob,_,_,h1,h2,_⟩:=dd;exact⟨ob,h1,h2.2.1⟩
universe S
theorem Jm8(hu:LF!)(I:K!)(g:bP!)(ry:A8!)(h:bn! NI! (RelV (o.getD .EO) w')) : Zl! "dict.get" [Os,u]:=by
 rcases g with⟨kvs,k,e,ey,l⟩|⟨kvs,k,b,e,ey,eb,l⟩;.subst ey;obtain⟨z,hd,vs,rel,dd⟩:=Kw!;refine qi! (PySem.F.args_dict_get_2 _ _) (meets_dict_get IW! a OY! hd) (jp dd.mapOf qa!);rw[l];exact gP! rfl
 .subst ey;cases UY!;obtain⟨z,hd,xs,rel,dd⟩:=Nn!;refine qi! (PySem.F.args_dict_get_2 _ _) (meetsH_dict_get (tupleKind (Cg X.prog X.w)) a b hd) ⟨FD hu,k,xs,Kl I.DK eb,dd,qa!⟩;rw[l];exact gP! rfl
theorem Jm7(hu:LF!)(I:K!)(g:bP!)(ry:A8!)(rd:RelV d r)(h:bn! NI! (RelV (o.getD d) w')) : Zl! "dict.get" [Os,u,r]:=by
 rcases g with⟨kvs,k,e,ey,l⟩|⟨kvs,k,b,e,ey,eb,l⟩;.subst ey;obtain⟨z,hd,vs,rel,dd⟩:=Kw!;refine qi! (X! PySem.F.args_dict_get_3 _) (meets_dict_get_default IW! a OY! hd r) (jp dd.mapOf qa!);rw[l];exact gP! rd
 .subst ey;cases UY!;obtain⟨z,hd,xs,rel,dd⟩:=Nn!;refine qi! (X! PySem.F.args_dict_get_3 _) (meetsH_dict_get_default (tupleKind (Cg X.prog X.w)) a b hd r) ⟨FD hu,k,xs,Kl I.DK eb,dd,qa!⟩;rw[l];exact gP! rd
universe E
def Jly(td ty:TE):TE:=ZT! (∃a,A3!/\pS H1 a/\TM! (∃o,cD! o/\Q (o.getD .EO) H2))
inductive Jk6(ty tx:TE)(x:V)(H1:Hp)(σ:St)(Q:VK):Prop
 | mk (a) (e0:A3!) (e1:pS H1 a) (e2:TM! (tx σ H2 λz H3=>∃o,DS H3 a y o/\Q (o.getD z) H3))
def Jlx(td ty tx:TE):TE:=ZT! (Jk6 ty tx x H1 σ Q)
def Jlu(td ty:TE):TE:=ZT! (∃a,A3!/\pS H1 a/\TM! (∃kvs k v,eE! H2 a kvs/\y=kV k/\Y7!/\Q v (HR! a .dK W6!)))
universe S
theorem Jgt(hu:Fs!)(ho:IU!)(he:jt!)(m:M1 X o "get" apos e HR):UO! "get" [e] (Jly td ty):=by intro AA s σ H Q I h;refine sb! FY PySem.F.type_dict_get;rintro u s1 ⟨x,H1,I1,rx,a,ex,d,q1⟩;subst ex;obtain rfl:C0!:=rx;obtain⟨t1,t2,_⟩:=X8 I1 d;refine o6!;rw[m.trees];refine rJ! (λiv s2 ⟨y,H2,I2,ry,ov,g,q2⟩=>LC ?_);exact cl! Jm8 (XZ! (A1! H2 I3 QM q2))
theorem Rl(hu:Fs!)(ho:IU!)(he:jt!)(hf:AO! f tx)(m:M2 X o "get" apos e f HR):UO! "get" [e,f] (Jlx td ty tx):=by intro AA s σ H Q I h;refine sb! FY PySem.F.type_dict_get;rintro u s1 ⟨x,H1,I1,rx,a,ex,d,q1⟩;subst ex;obtain rfl:C0!:=rx;obtain⟨t1,t2,_⟩:=X8 I1 d;refine o6!;rw[m.trees];refine rJ! (λiv s2 ⟨y,H2,I2,ry,q2⟩ =>IH (EM (hf AA s2 σ H2 _ I2 q2) λfv s3 ⟨z,H3,I3,rz,ov,g,q3⟩=>LC ?_));exact Jm7 hu I3 g ry rz λw' s4 I4 QM=>A1! H3 I4 QM q3
theorem Zu(ho:IU!)(he:jt!)(m:M1 X o "pop" apos e HR):UO! "pop" [e] (Jlu td ty):=by intro AA s σ H Q I h;refine sb! KJ PySem.F.type_dict_pop;rintro u s1 ⟨x,H1,I1,rx,a,ex,d,q1⟩;subst ex;obtain rfl:C0!:=rx;obtain⟨t1,t2,_⟩:=X8 I1 d;refine o6!;rw[m.trees];refine rJ! (λiv s2 ⟨y,H2,I2,ry,kvs,k,v,ea,ey,l,q2⟩=>LC ?_);subst ey;exact Jo6 I2 ea ry l Cr! (XZ! ⟨v,_,I3,QM,q2⟩)
universe E
universe S
variable {X:Cx Kx}{AA:List (Addr×Obj)}{σ:St}{H:Hp}{s:Shared}{a:Addr}{kvs:List (Key×V)}{A:Around}{E:Value->Shared->Prop}
universe E
universe S
variable {X:Cx Kx}{AA:List (Addr×Obj)}{σ:St}{H:Hp}{s:Shared}{a:Addr}{y:V}{u:Value}{A:Around}{E:Value->Shared->Prop}
universe E
universe E L2
universe N HT
open PySem PyProof.Rows
def lexLt:j!->j!->Bool
 | [],[]=>false
 | [],_::_=>true
 | _::_,[]=>false
 | x::xs,y::ys=>v6 (x=y) (lexLt xs ys) (w! (x<y))
theorem GZ(x y:Int)(xs ys:j!):lexLt (x::xs) (y::ys)=v6 (x=y) (lexLt xs ys) (w! (x<y)):=rfl
theorem OS:r? (lexLt [] []):=rfl
theorem Si(y:Int)(ys:j!):lexLt [] (y::ys)=true:=rfl
theorem Sk(x:Int)(xs:j!):r? (lexLt (x::xs) []):=rfl
theorem Jh4(A:Around)(s:Shared)(a:Int)(t:Tok)(c:Int)(u:Tok):∃e,SeqAt.EqAt A s (a! a t) (a! c u) e/\(e=true↔a=c) :=⟨(a==c),SeqAt.EqAt.int_int a t c u,x!⟩
theorem Jgi(A:Around)(s:Shared)(a:Int)(t:Tok)(c:Int)(u:Tok)(prog:Program)(w:World)(E:V?)(Q:V?)(h:Q (bi (decide (a<c))) s) : Ao! (richCompare .Lt (a! a t) (a! c u)) :=(PyProof.Rows.lt_int h:Ao! (compareOp .Lt (a! a t) (a! c u)))
universe S
open PySem.SeqAt
open PySem.AutoSeq1 (wpAny_loadPart')
open PySem.MeetsSeq PySem.MeetsSeq2 PySem.MeetsSeq3
theorem Tt(l b:Addr)(items K_:Dg!)(n n2:Nat)(dd wz:KP!)(sl iX:Array (Option Value))(ns ms:j!)(hi:P4! items.toList)(hj:PZ! K_.toList ms) : Meets (Builtin.«tuple.__lt__» ⟨[P8!,Uf],[]⟩) (λ_ R s=>Rj! l { cls:=ux!,dict:=dd,data:=Ne! items,slots:=sl }/\Cj! s.heap.get? { cls:=ux!,dict:=wz,data:=D0! K_ n2,slots:=iX } /\ R (.ok (.ret (bi (lexLt ns ms)))) s) :=.of_wp λprog w A R s h=>by obtain⟨hp,g,d,tk,os⟩:=s;obtain⟨hl,hb,h⟩:=h;have f2:=AutoSeq1.sub_tuple_tuple;(have z1:items.size=ns.length:=by rw[<-hi.length];simp);(have z2:K_.size=ms.length:=by rw[<-hj.length];simp);wp_walk using wpAny_loadPart' hl,wpAny_loadPart' hb,XR _ (λrest b s'=>b.1=none/\s'=sQ!/\∃(vs ws:g!)(jh mE:j!),rest=vs.zip ws /\ PZ! vs jh/\PZ! ws mE/\jh.length+K_.size=mE.length+items.size/\R (.ok (.ret (bi (lexLt jh mE)))) sQ!) _;(case turn =>rintro⟨y,x⟩ rest b s' ⟨IX,rfl,vs,ws,jh,mE,hz,vN,sE,hlen,hR⟩;cases vN with | nil=>rw[List.zip_nil_left] at hz;cases hz | cons a t zV =>cases sE with | nil=>rw[List.zip_nil_right] at hz;cases hz | cons c u zU =>rw[List.zip_cons_cons] at hz;injection hz with hyx qm;injection hyx with hy hx;subst hy hx;rw[GZ] at hR;simp only[BM] at hlen;obtain⟨e,he,qF⟩:=Jh4 A.in1 sQ! a t c u;refine ZR (he prog w _ _ ?_);cases e with | true =>rw[AF (qF.mp rfl)] at hR;wp_walk;exact⟨rfl,rfl,_,_,_,_,qm,zV,zU,B!,hR⟩ | false =>rw[AB (λq=>ME! qF.mpr q AR)] at hR;have dN:=Jgi A.in1 sQ! a t c u prog w;wp_walk using dN;exact KF (by simpa using hR));(case fin =>rintro⟨b1,b2⟩ s' ⟨IX,rfl,vs,ws,jh,mE,hz,vN,sE,hlen,hR⟩;simp only at IX;subst IX;(have hv:lexLt jh mE=w! (items.size<K_.size):=by cases vN with | nil =>(cases sE with | nil =>simp only[BS] at hlen;rw[OS];exact Bx! decide_eq_false F! | cons c u hw =>simp only[BS,BM] at hlen;rw[Si];exact Bx! decide_eq_true F!) | cons a t hv =>cases sE with | nil =>simp only[BS,BM] at hlen;rw[Sk];exact Bx! decide_eq_false F! | cons c u hw =>rw[List.zip_cons_cons] at hz;cases hz);rw[hv] at hR;wp_walk;exact KF (by simpa [Builtin.Tuple.tupleCompareSizes] using hR));case h =>exact⟨rfl,rfl,items.toList,K_.toList,ns,ms,rfl,hi,hj,B!,h⟩
universe E
universe S
variable {prog:Program}{w:World}{A:Around}{E:Value->Shared->Prop}{s:Shared}
theorem bO(hl:IsTup s.heap l items)(hb:IsTup s.heap b K_)(hi:P4! items.toList)(hj:PZ! K_.toList ms)(hu:YX!)(h:mF! (lexLt ns ms)):Ao! (compareOp .Lt (Y! l) FN!):=by obtain⟨⟨cls,dd,data,sl⟩,ho,hc,n,hd⟩:=id hl;obtain⟨⟨JQ2,wz,data2,iX⟩,oX,hc2,n2,hd2⟩:=id hb;simp only at hc hd hc2 hd2;subst hc hd hc2 hd2;exact richCompare_meets_room (op:=.Lt) (EP! ho) (EP! oX) PySem.F.slot_tuple_lt PySem.F.entry_tuple_lt (PySem.F.args_tuple_lt_2 _ _) (Tt l b items K_ n n2 dd wz sl iX ns ms hi hj) ⟨ho,oX,show Value.bool (lexLt ns ms)≠Value.notImplemented/\mF! (lexLt ns ms) from⟨(λx=>nomatch x),h⟩⟩ hu
def IB(n d:Nat):ut->Nat
 | none=>d
 | some v=>if v<0 then(Xg!).toNat else min v.toNat n
theorem cQ(n d k:Nat):IB n d (some AF!)=min k n:=by show(if AF!<0 then(AF!+DZ!).toNat else min (k:Int).toNat n)=min k n;rw[Ei!,CQ]
theorem Jl6(n d:Nat)(hd:d<=n)(o:ut):IB n d o<=n:=by cases o with | none=>exact hd | some v =>show(if v<0 then(Xg!).toNat else min v.toNat n)<=n;by_cases hv:v<0;(.rw[AF hv];lia);.rw[AB hv];exact Nat.min_le_right _ _
theorem Jdu(v:Int)(n d:Nat):(v6 (v<0) (max (Xg!) 0) (min v DZ!))=s? (IB n d (some v)):=by
 show(v6 (v<0) (max (Xg!) 0) (min v DZ!))=s? (if v<0 then(Xg!).toNat else min v.toNat n);by_cases hv:v<0;.simp only[AF hv];lia
 .simp only[AB hv];lia
theorem Jck(lo hi:ut)(n:Nat):Builtin.Slice.sliceAdjust lo hi 1 DZ!=(h9!,s? (IB n n hi)):=by
 have h1:¬(Ec!<0):=B!
 unfold Builtin.Slice.sliceAdjust;simp only[h1,ER];refine Prod.ext ?_ ?_;.cases lo with | none=>rfl | some v=>exact Jdu v n 0
 .cases hi with | none=>rfl | some v=>exact Jdu v n n
theorem Jbs(i j:Nat):Builtin.Slice.slicePlaces l! BS! 1=j-i:=by
 unfold Builtin.Slice.slicePlaces;have h1:Ec! > 0:=B!
 simp only[h1,HU,Int.ediv_one];split<;>lia
theorem Qr(p:IsPart v o)(h:Q o s):Ao! (Builtin.Slice.slicePartIndex v):=by cases p with | none=>exact slicePart_none h | int i t=>exact slicePart_int h
theorem Nt{sl:Addr}{vl vu:Value}{lo hi:ut}{n:Nat}{Q:AC! (Int×Int×Nat)}(hs:s.heap.IsSliceOf sl vl vu l?)(pl:IsPart vl lo)(pu:IsPart vu hi)(h:Q (h9!,1,IB n n hi-IB n 0 lo) s):Ao! (Builtin.Slice.sliceApplied hN! (pure DZ!)):=by obtain⟨os,mJ,hcs,sL⟩:=id hs;unfold Builtin.Slice.sliceApplied Builtin.Slice.sliceFields;refine Qg! (KI mJ sL (x:=vl) rfl (ZR (KI mJ sL (x:=vu) rfl (ZR (KI mJ sL (x:=l?) rfl (ZS ?_))))));refine ZR (slicePart_none ?_);show jn! (AT! (Ec!==0));rw[Fe!];refine ZR (Qr pl (ZR (Qr pu (ZR (ZS ?_)))));show Vp! (match Builtin.Slice.sliceAdjust lo hi 1 DZ! with|(lo,hi)=>pure (lo,Ec!,Builtin.Slice.slicePlaces lo hi 1));rw[Jck lo hi n];show Vp! (pure (h9!,Ec!,Builtin.Slice.slicePlaces h9! (s? (IB n n hi)) 1));rw[Jbs];exact ZS h
theorem Jgq(xs:Dg!)(i k:Nat):P7! (List.range k).filterMap (λ(m:Nat)=>xs[(l!+AR!*1).toNat]?)=((xs.toList.drop i).take k).toArray:=by
 have e:(λ(m:Nat)=>xs[(l!+AR!*1).toNat]?)=λm=>xs[i+m]?:=by funext m;(have:(l!+AR!*1).toNat=i+m:=B!);rw[this]
 rw[e];have:=pick_run xs i k;rw[List.filterMap_map] at this;have e2:((λx=>xs[x]?) ∘ λx=>i+x)=λm=>xs[i+m]?:=rfl;rw[e2] at this;rw[this]
theorem P'{t sl:Addr}{items:Dg!}{vl vu:Value}{lo hi:ut}{Q:V?}(ht:IsTup s.heap t items)(hs:s.heap.IsSliceOf sl vl vu l?)(pl:IsPart vl lo)(pu:IsPart vu hi)(hw:¬(eX!=0/\wU!=items.size))(h:YN! (gH! AJ! D0! ((items.toList.drop (IB items.size 0 lo)).take (UF!)).toArray))(hsz:items.size<=sizeLine):Ao! (getItem JU! hN!):=by
 have cK:sizeOk (D0! ((items.toList.drop (IB items.size 0 lo)).take (UF!)).toArray):=by show At! ((items.toList.drop (IB items.size 0 lo)).take (UF!)).toArray.size;rw[AZ,CD,List.length_drop,CM];lia
 have hj:wU!<=items.size:=o! Jl6 ci hi;obtain⟨os,mJ,hcs,sL⟩:=id hs;have hTs:s.TypeIs hN! "slice":=⟨os,mJ,hcs⟩;unfold getItem;try with_reducible refine EY ?_
 first|refine aC!|skip
 refine ZR (wpAny_sequenceKey ht.typeIs JX! ?_);refine ZR (HX (name:=Str.ofString "__getitem__") ht.typeIs PyProof.Rows.slot_tuple_getitem (DG PyProof.Rows.slot_tuple_getitem ht.typeIs entry_tuple_getitem ?_ (args_tuple_getitem _ _)));show ZZ! (Builtin.Tuple.tupleItemsOf (As! t));refine N0! tupleItemsOf_ ht;refine N0! wpAny_typeOf hTs;rw[PI! AF];refine ZR (Nt hs pl pu ?_);have i7:¬(AT! (s? eX!==0&&Ec!==1&&(UF!)==items.size)):=by intro q;rw[HI,HI] at q;have q1:s? eX!=0:=eq_of_beq q.1.1;have q2:UF!=items.size:=eq_of_beq q.2;exact hw ⟨B!,B!⟩
 show jn! (AT! (s? eX!==0&&Ec!==1&&(UF!)==items.size));rw[AB i7,Jgq];first | exact j7! (CZ (ZS iN!) cK) | exact j7! (CZ (ZR (ZS (ZS iN!))) cK) | exact ZR (j7! (CZ (ZS (ZS iN!)) cK)) | exact ZR (j7! (CZ (ZS iN!) cK))
universe E
universe E HT
universe N L2
open PySem PySem.Spec PyProof.Rows
abbrev TO:=my! (I4! ut)
def PO(X:G!)(e:Go! Expr)(t:TO):Prop :=
 ∀(AA:v!)(s:Shared)(σ:St)(H:Hp)(Q:I4! ut),XH! (t σ H Q ->
  ez! (evalPart e X.env) (λu s'=>∃o H',IR!/\IsPart u o/\Q o H'))
def V4:TO:=λ_ H Q=>Q none H
def xn(t:TE):TO:=ds! t (∃i,Mu!/\Q (some i) H1)
theorem intsAre_of{ns:j!}:∀{us:g!},Vals (ns.map V.int) us->P4! us:=by induction ns with | nil=>intro us r;rw[DW] at r;cases r;exact L! | cons n ns ih =>intro us r;rw[AI] at r;cases r with | cons r1 r2 =>obtain⟨t,e⟩:=r1;subst e;exact K? n t (ih r2)
universe S
variable {X:Cx Kx}{e:Expr}{te:TE}{lo hi:Option Expr}{tl th:TO}{pos p2:Pos}
theorem W9:PO X none V4:=by intro AA s σ H Q I h;rw[evalPart_none];exact ZS ⟨none,H,I,l?,h⟩
theorem Mr(h:Nw!):PO X (some e) (xn te):=by intro AA s σ H Q I hw;rw[evalPart_some];refine DY! o8!;rintro u s1 ⟨x,H1,I1,r1,q1⟩;obtain⟨i,rfl,q⟩:=q1;obtain⟨t,rfl⟩:=r1;exact⟨A! i,H1,I1,a! i t,q⟩
def xI(X:G!)(r:V->ut->ut->JK!):Prop :=
 ∀(AA:v!)(s:Shared)(σ:St)(H:Hp)(x:V)(v vl vu:Value)(lo hi:ut)(sl:Addr)(Q:VK),K!->Ma!->s.heap.IsSliceOf sl vl vu l?->IsPart vl lo->IsPart vu hi->r x lo hi H Q ->
  ∃T id,typeLookup (GX! T) "__getitem__"=pure (Yh! id)/\s.TypeIs v T/\Eo! (getItem v hN!)
def uN(r:V->ut->ut->JK!)(te:TE)(tl th:TO):TE:=ds! te (CL! tl (λl H2=>th σ H2 λu H3=>r x l u H3 Q))
theorem Ms{r:V->ut->ut->JK!}(hr:xI X r)(he:Nw!)(hl:PO X lo tl)(hu:PO X hi th):Dq! Oz! e (.Slice lo hi none p2) (uN r te tl th):=by intro AA s σ H Q I h;refine uu! Subscript_ he;rintro v s1 ⟨x,H1,I1,r1,q1⟩;refine wpAny_Slice (EM (hl AA s1 σ H1 _ I1 q1) λvl s2 ⟨l,H2,I2,pl,q2⟩=>iY! hu s2 I2 (λvu s3 ⟨u,H3,I3,pu,q3⟩=>?_));rw[evalPart_none];refine ZS ?_;have I4:xz H3 { s3 with heap:=Ss! s3.heap.push "slice" (#[vl,vu,l?]) }:=I3.kept (t':=s3.toks) λb ob q=>Qi!;obtain⟨T,id,hT,ht,hg⟩:=hr AA { s3 with heap:=Ss! s3.heap.push "slice" (#[vl,vu,l?]) } σ H3 x v vl vu l u s3.heap.objs.size Q I4 r1 (Heap.IsSliceOf.new ..) pl pu q3;show uM! (subscriptTail e (.Slice lo hi none p2) v (Y! s3.heap.objs.size)) (EP X AA σ Q) { s3 with heap:=Ss! s3.heap.push "slice" (#[vl,vu,l?]) };exact tail_any (ops:=[F? s3.heap.objs.size,v]) ht hT hg (by with_unfolding_all rfl)
def Ht(xs:C!)(lo hi:ut):C!:=(xs.drop (HT.IB xs.length 0 lo)).take (pt!-ps!)
theorem Pg(xs:C!)(lo hi:ut):(Ht xs lo hi).length<=xs.length:=by unfold Ht;rw[CD,List.length_drop];lia
inductive xX(K:W.Frag)(x:V)(lo:ut)(hi:ut)(H:Hp)(Q:VK):Prop
 | mk a xs (_:A3!) (_:GI!) (_:¬(ps!=0/\pt!=xs.length)) (_:GT! (AP! p .BB (Ht xs lo hi)))
theorem Jf1{X:G!}:xI X (xX Kx):=by
 intro AA s σ H x v vl vu lo hi sl Q I rx hs pl pu h;obtain⟨a,xs,rfl,hx,hw,q⟩:=h;cases rx;obtain⟨its,r,ht,hz⟩:=I.tuple hx;have hlen:its.toArray.size=xs.length:=H! AZ r.length.symm
 refine Bw! AJ! _ PyProof.Rows.slot_tuple_getitem.lookup ht.typeIs;refine HT.P' ht hs pl pu (hi! hw) ?_ (hi! hz);rw[hlen];refine u2! (I.laid (t':=s.toks) (o:=.BB (Ht xs lo hi)) (λb ob q=>Qi!) ci ?_) TU!;exact⟨AV (Pg xs lo hi) hz,_,(r.drop (HT.IB xs.length 0 lo)).take (pt!-ps!),IsTup.new _ _⟩
universe E
def iy(n:Nat)(i:Int):Go! Nat:=if 0<=i then(tr! (i<n) i.toNat) else tr! (-DZ!<=i) (i+n).toNat
def RK{α:Type}(xs:U!)(i:Int):Go! α:=(iy xs.length i).bind λj=>U7!
theorem Jkg(h:iy n i=A! j):seqIndex? i n=A! j/\j<n/\-DZ!<=i/\i<n:=by
 unfold iy at h;by_cases h0:0<=i;.rw[AF h0] at h;by_cases h1:i<n;(.rw[AF h1] at h;have e:i.toNat=j:=ZO h;exact⟨z! (seqIndex_of h0 h1) e,B!,B!,h1⟩);.rw[AB h1] at h;cases h
 .rw[AB h0] at h;by_cases h1:-DZ!<=i;(.rw[AF h1] at h;have e:(i+n).toNat=j:=ZO h;exact⟨z! (KF! seqIndex_neg h1) e,B!,h1,B!⟩);.rw[AB h1] at h;cases h
theorem Jdw(h:nv!):∃j,seqIndex? i xs.length=A! j/\CN! U7!/\U8!/\-c? xs.length<=i/\Wx!:=by unfold RK at h;cases e:iy xs.length i with | none=>rw[e] at h;cases h | some j =>rw[e] at h;obtain⟨h1,h2,h3,h4⟩:=Jkg e;exact⟨j,h1,h,h2,h3,h4⟩
theorem Jky{α:Type}{xs:U!}{j:Nat}{v:α}(h:CN! U7!):CN! (RK xs BS!):=by
 have hj:U8!:=CK! h;have e:iy xs.length BS!=A! j:=by unfold iy;rw[Fg!,Fg!];simp
 unfold RK;rw[e];exact h
def Jk4(b:Expr):Prop:=∀o i,subscripted b false o i=operate [o,i] (getItem o i)
def yO(X:G!)(r:R2):Prop :=
 ∀(value slice:Expr)(AA:v!)(s:Shared)(σ:St)(H:Hp)(x y:V)(v u:Value)(Q:VK),mC! A8! (r x y H Q ->
  subscripted slice false v u=operate [v,u] (getItem v u)->Eo! (subscriptTail value slice v u))
def tE(X:G!)(id:String)(r:N6!):Prop :=
 ∀(AA:v!)(s:Shared)(σ:St)(H:Hp)(x:V)(xs:C!)(v:Value)(us:g!)(Q:VK),mC! Ds! (r x xs H Q ->
  Eo! (call (D3! id) (v::us)))
universe S
variable {X:Cx Kx}{a b:Expr}{ta tb:TE}{pos:Pos}
theorem Az{r:R2}(hr:yO X r)(ha:En!)(hb:If!)(hs:Jk4 b:=by exact fd!):Dq! Oz! a b pb!:=Ws! (Subscript_ (sJ! xQ (hr a b AA s2 σ H2 x y v u Q I2 rx ry q (hs _ _))))
inductive Jpo(K:W.Frag)(x:V)(y:V)(H:Hp)(Q:VK):Prop
 | mk (p xs i v) (e0:x=y?) (e1:y=Pz!) (e2:lO!) (e3:nv!) (e4:Q v H)
def Jqt(K:W.Frag):R2:=n4! Jpo
inductive Jpn(K:W.Frag)(x:V)(y:V)(H:Hp)(Q:VK):Prop
 | mk (p xs i v) (e0:x=y?) (e1:y=Pz!) (e2:Sy! xs) (e3:nv!) (e4:Q v H)
def Tv(K:W.Frag):R2:=n4! Jpn
theorem Ec{X:G!}:yO X (Jqt Kx):=by
 intro value slice AA s σ H x y v u Q I rx ry h hs;obtain⟨p,xs,i,z,rfl,rfl,hq,he,q⟩:=h;cases rx;obtain⟨t,rfl⟩:=ry;obtain⟨its,r,pl,hz⟩:=Hz!;obtain⟨j,h1,h2,h3,h4,h5⟩:=Jdw he;obtain⟨w,ew,QM⟩:=r.get h2;have hl:=r.length;have hn:=Xv;have fin:lT! w:=⟨z,H,I,QM,q⟩;by_cases h0:0<=i;·(have hj:i.toNat=j:=by rw[seqIndex_of h0 h5] at h1;exact ZO h1);exact item_listR pl.isList h0 F! (by rw[hj];simpa using ew) fin hs
 ·(have hj:(i+c? its.toArray.size).toNat=j:=by rw[KF! seqIndex_neg h4] at h1;rw[AZ,<-hl];exact ZO h1);exact subscriptTail_builtinR (x:=w) pl.isList.typeIs slot_list_getitem.lookup (wpAny_getItem_list_neg (Q:=λr s'=>r=w/\fQ! r s') pl.isList F! (by rw[AZ]<;>lia) F! (by rw[hj];simpa using ew) (x? fin)) hs
theorem Ay{X:G!}:yO X (Tv Kx):=by intro value slice AA s σ H x y v u Q I rx ry h hs;obtain⟨p,xs,i,z,rfl,rfl,hq,he,q⟩:=h;cases rx;obtain⟨t,rfl⟩:=ry;obtain⟨its,r,pl,hz⟩:=Kb!;obtain⟨j,h1,h2,h3,h4,h5⟩:=Jdw he;obtain⟨w,ew,QM⟩:=r.get h2;have hl:=r.length;have hn:=Xv;have fin:lT! w:=⟨z,H,I,QM,q⟩;exact subscriptTail_builtinR (x:=w) pl.typeIs slot_tuple_getitem.lookup (getItem_tuple (j:=j) (Q:=λr s'=>r=w/\fQ! r s') pl F! F! (by rw[AZ,<-hl];exact h1) (by simpa using ew) (x? fin)) hs
theorem Wr(lo hi:ut)(n:Nat):(sliceBounds lo hi none n).1=s? (HT.IB n 0 lo)/\(sliceBounds lo hi none n).2.1=s? (HT.IB n n hi)/\(sliceBounds lo hi none n).2.2=1:=by
 refine C1! ?_ ?_;.cases lo with | none=>simp[sliceBounds,HT.IB] | some i =>simp only[sliceBounds,HT.IB,Option.getD_none,show Ec! > 0 by decide,HU];by_cases h:i<0;(.simp only[h,HU]<;>lia);.simp only[h,ER]<;>lia
 .cases hi with | none=>simp[sliceBounds,HT.IB] | some i =>simp only[sliceBounds,HT.IB,Option.getD_none,show Ec! > 0 by decide,HU];by_cases h:i<0;(.simp only[h,HU]<;>lia);.simp only[h,ER]<;>lia
theorem Tu(its:g!)(lo hi:ut):slicePick its.toArray lo hi none=((its.drop (HT.IB its.length 0 lo)).take (HT.IB its.length its.length hi-HT.IB its.length 0 lo)).toArray:=by obtain⟨h1,h2,h3⟩:=Wr lo hi its.toArray.size;unfold slicePick;rw[h1,h2,h3];simp only[sliceRange_one,pick_run,AZ]<;>rfl
inductive Jqq(K:W.Frag)(x:V)(lo:ut)(hi:ut)(H:Hp)(Q:VK):Prop
 | mk a xs (_:A3!) (_:IE!) (_:GT! (AP! p .BJ (Ht xs lo hi)))
theorem Jc0{X:G!}:xI X (Jqq Kx):=by intro AA s σ H x v vl vu lo hi sl Q I rx hs pl pu h;obtain⟨a,xs,rfl,hx,q⟩:=h;cases rx;obtain⟨its,r,ht,hz⟩:=I.list hx;have hlen:=r.length;refine Bw! SB _ slot_list_getitem.lookup ht.isList.typeIs;refine wpAny_getItem_list_slice ht.isList hs pl pu l? Db ?_ (by rw[AZ]<;>lia);rw[Tu,<-hlen];refine u2! (I.laid (t':=s.toks) (o:=.BJ (Ht xs lo hi)) (λb ob q=>Qi!) ci ?_) TU!;exact⟨AV (Pg xs lo hi) hz,_,0,(r.drop (HT.IB xs.length 0 lo)).take (pt!-ps!),CM!⟩
def Pd:Fy! V
 | .EO=>true
 | .bl _=>true
 | .int _=>true
 | .str _=>true
 | _=>false
def jB:V->V->Bool
 | .EO,.EO=>true
 | .bl a,.bl b=>a==b
 | .bl a,.int b=>(if a then 1 else 0)==b
 | .int a,.bl b=>a==(if b then 1 else 0)
 | .int a,.int b=>a==b
 | .str a,.str b=>a==b
 | _,_=>false
theorem Jm4(ry:A8!)(rx:Ma!)(fy:Tk Pd y)(fx:Tk Pd x):SeqAt.EqAt A s u v (jB y x):=by cases y with | EO =>cases ry;(cases x with | EO=>cases rx;exact SeqAt.EqAt.same _ | bl b=>cases rx;exact SeqAt.EqAt.none_bool b | int b=>obtain⟨t,rfl⟩:=rx;exact SeqAt.EqAt.none_int b t | str b=>obtain⟨t,rfl⟩:=rx;exact SeqAt.EqAt.none_str b t | _=>exact jX!) | bl a =>cases ry;(cases x with | EO=>cases rx;exact SeqAt.EqAt.bool_none a | bl b=>cases rx;exact SeqAt.EqAt.bool_bool a b | int b=>obtain⟨t,rfl⟩:=rx;exact SeqAt.EqAt.bool_int a b t | str b=>obtain⟨t,rfl⟩:=rx;exact SeqAt.EqAt.bool_str a b t | _=>exact jX!) | int a =>obtain⟨t',rfl⟩:=ry;(cases x with | EO=>cases rx;exact SeqAt.EqAt.int_none a t' | bl b=>cases rx;exact SeqAt.EqAt.int_bool a t' b | int b=>obtain⟨t,rfl⟩:=rx;exact SeqAt.EqAt.int_int a t' b t | str b=>obtain⟨t,rfl⟩:=rx;exact SeqAt.EqAt.int_str a t' b t | _=>exact jX!) | str a =>obtain⟨t',rfl⟩:=ry;(cases x with | EO=>cases rx;exact SeqAt.EqAt.str_none a t' | bl b=>cases rx;exact SeqAt.EqAt.str_bool a t' b | int b=>obtain⟨t,rfl⟩:=rx;exact SeqAt.EqAt.str_int a t' b t | str b=>obtain⟨t,rfl⟩:=rx;exact SeqAt.EqAt.str_str a t' b t | _=>exact jX!) | _=>exact EL! (show Wy! from fy) AR
def g_(x:V)(u:Value):Bool:=match u with
 | .none=>jB .EO x
 | .bool b=>jB (.bl b) x
 | .int i _=>jB (a! i) x
 | .str z _=>jB (CC! z) x
 | _=>false
theorem Jh3(r:A8!)(f:Tk Pd y):g_ x u=jB y x:=by cases y with | EO=>cases r;rfl | bl b=>cases r;rfl | int i=>obtain⟨t,rfl⟩:=r;rfl | str z=>obtain⟨t,rfl⟩:=r;rfl | _=>exact EL! (show Wy! from f) AR
theorem Yk:∀{xs:C!} {us:g!},Ds!->Tk xs.all Pd->us.any (g_ x)=xs.any λy=>jB y x
 | _,_,.nil,_=>rfl
 | y::xs,u::us,.cons r t,f=>by rw[List.all_cons,HI] at f;rw[KU,KU,Jh3 r f.1,Yk t f.2]
theorem R8(rx:Ma!)(fx:Tk Pd x):∀{xs:C!} {us:g!},Ds!->Tk xs.all Pd->∀u∈us,SeqAt.EqAt A s u v (g_ x u)
 | _,_,.nil,_=>BE! (AL! hu)
 | y::xs,u::us,.cons r t,f=>λu' hu=>by rw[List.all_cons,HI] at f;rcases ZM hu with rfl|hu;(.rw[Jh3 r f.1];exact Jm4 r rx f.1 fx);.exact R8 rx fx t f.2 u' hu
def r_(x:V)(xs:C!):Bool:=xs.any λy=>jB y x
inductive rIn(K:W.Frag)(neg:Bool)(x:V)(y:V)(H:Hp)(Q:VK):Prop
 | mk p xs (_:y=y?) (_:(lO!\/Sy! xs)) (_:Tk Pd x) (_:Tk xs.all Pd) (_:at! (if neg then ! r_ x xs else r_ x xs))
theorem Xe{X:G!}:N1! Mg! (rIn Kx true):=by
 intro AA s σ H x y v u Q I rx ry h;obtain⟨p,xs,rfl,hq,fx,fs,q⟩:=h;cases ry;rcases hq with hq|hq;.obtain⟨its,r,pl,hz⟩:=Hz!;refine SeqAt.notIn_listAt (g_ x) pl.isList (λw hw=>R8 rx fx r fs w (by simpa using hw)) au!;rw[aW! (its.toArray.any (g_ x)=its.any (g_ x)),Yk r fs];exact q
 .obtain⟨its,r,pl,hz⟩:=Kb!;refine SeqAt.notIn_tupleAt (g_ x) pl (λw hw=>R8 rx fx r fs w (by simpa using hw)) au!;rw[aW! (its.toArray.any (g_ x)=its.any (g_ x)),Yk r fs];exact q
inductive Ua(K:W.Frag)(xs:C!)(H:Hp)(Q:VK):Prop
 | mk p ys (_:TD!) (_:(lP!\/Sy! ys)) (_:K5! ys.length)
theorem Bt{X:G!}:F6 X (D3! "len") (Ua Kx):=by
 intro AA s σ H xs us Q I r h;obtain⟨p,ys,rfl,hq,q⟩:=h;obtain⟨u,rfl,rx⟩:=GH!;cases rx;have hn:=Xv;rcases hq with hq|hq;.obtain⟨its,r',pl,hz⟩:=Hz!;have hlen:=r'.length;exact Calls.call_len_list pl.isList (U9!) ⟨T! ys.length,H,I.tok _,⟨s.toks+1,z! AZ hlen⟩,q⟩
 .obtain⟨its,r',pl,hz⟩:=Kb!;have hlen:=r'.length;exact len_tuple pl (U9!) ⟨T! ys.length,H,I.tok _,⟨s.toks+1,z! AZ hlen⟩,q⟩
inductive T9(K:W.Frag)(xs:C!)(H:Hp)(Q:VK):Prop
 | mk p ys (_:TD!) (_:(lP!\/Sy! ys)) (_:qx! (Sh! ys))
theorem Yi{X:G!}:nP! SB T9 Kx:=by
 intro AA s σ H xs us Q I r h;obtain⟨p,ys,rfl,hq,q⟩:=h;obtain⟨u,rfl,rx⟩:=GH!;cases rx;have fin:∀(its:g!),Vals ys its->ys.length<=sizeLine->∀(h':Heap)(c':Nat),(∀b o',Cj! s.heap.get? o'->uw! o') -> KC! s.heap.objs.size { cls:=EF! SB,dict:=none,data:=D0! its.toArray c',slots:=#[] }->fQ! (Y! s.heap.objs.size) Ix:=λits r' hz h' c' kp e =>u2! (ra! s.toks (.BJ ys) ⟨hz,its,c',r',e⟩) TU!;rcases hq with hq|hq;.obtain⟨its,r',pl,hz⟩:=Hz!;have hlen:=r'.length;obtain⟨o,ho,hc,n,hd⟩:=pl.isList;exact call_list_seq p Cr! ho hc hd (λh' c' kp e=>fin its r' hz h' c' kp e) (U9!)
 .obtain⟨its,r',pl,hz⟩:=Kb!;have hlen:=r'.length;obtain⟨o,ho,hc,n,hd⟩:=pl;exact call_list_seq p (J? rfl) ho hc hd (λh' c' kp e=>fin its r' hz h' c' kp e) (U9!)
inductive Ts(K:W.Frag)(xs:C!)(H:Hp)(Q:VK):Prop
 | mk p ys (_:TD!) (_:((lP!/\qx! (AP! l .BB ys))\/(Sy! ys/\BH! p H)))
theorem Di{X:G!}:nP! AJ! Ts Kx:=by
 intro AA s σ H xs us Q I r h;obtain⟨p,ys,rfl,h⟩:=h;obtain⟨u,rfl,rx⟩:=GH!;cases rx;rcases h with⟨hq,q⟩|⟨hq,q⟩;.obtain⟨its,r',pl,hz⟩:=Hz!;have hlen:=r'.length;refine call_tuple_list pl.isList (λh' kp=>?_) (U9!);have I1:KM!:=I.kept (t':=s.toks) kp;have I2:xz (AP! h'.objs.size .BB ys) (Ou! (h'.push (VS! AJ! D0! its.toArray))) :=I1.laid (t':=s.toks) (Fz!) ci (show PU! _ _ _ (.BB ys) from⟨hz,its,r',IsTup.new _ _⟩);exact Ve! h'.objs.size _ I2 (q _ Zy!)
 .obtain⟨its,r',pl,hz⟩:=Kb!;exact call_tuple_same pl (QE! y? q)
def uG(K:W.Frag)(T:String)(x:V)(H:Hp):Prop:=match x with
 | .str _=>T="str"
 | .int _=>T="int"
 | .ref p=>(T=SB/\∃xs,lO!)\/(T=AJ!/\∃o,Fa! K.lookup p/\XX!/\o.dict=none) \/
  (T=Is!/\((∃kvs,vv! p)\/∃kvs,I3! p .dT kvs))\/(T="set"/\∃S n,HM! p (.set S n))
 | _=>False
theorem Jfn{X:G!}(I:K!)(r:Ma!)(ty:uG Kx T x H) : s.TypeIs v T/\∀a,XK!->∃ob,I9! s.heap.get? ob/\ob.dict=none:=by cases x with | str z =>obtain⟨t,rfl⟩:=r;cases (show T="str" from ty);exact⟨typeIs_str s z t,λ_ e=>WB!⟩ | int i =>obtain⟨t,rfl⟩:=r;cases (show T="int" from ty);exact⟨typeIs_int s i t,λ_ e=>WB!⟩ | ref p =>cases r;rcases ty with⟨rfl,xs,hq⟩|⟨rfl,o,hk,hc,hd⟩|⟨rfl,hk⟩|⟨rfl,S,n,hk⟩;(.obtain⟨its,_,pl,_⟩:=Hz!;refine⟨pl.isList.typeIs,λa e=>?_⟩;cases e;obtain⟨o,n,e,c,hd,_⟩:=pl;exact Fo! hd);(.refine⟨Bq! (I.YX p o hk) hc,λa e=>?_⟩;cases e;exact Bq! (I.YX _ o hk) hd);(·(have z:∃o,Fa! s.heap.get? p/\o.ExactDict:=by rcases hk with⟨kvs,hk⟩|⟨kvs,hk⟩;(.obtain⟨_,_,_,_,o,_,_,e,ex,_⟩:=Zh! hk;exact Fo! ex);.obtain⟨_,_,_,_,o,_,_,e,ex,_⟩:=Zh! hk;exact Fo! ex);obtain⟨o,e,ex⟩:=z;refine⟨Fo! ex.1,λa e2=>?_⟩;cases e2;exact Fo! ex.2.1);.obtain⟨o,_,_,_,e,ex,_⟩:=Zh! hk;refine⟨Fo! ex.1,λa e2=>?_⟩;cases e2;exact Fo! ex.2.1 | _=>exact False.elim ty
inductive Jpl(K:W.Frag)(T:String)(r:N6!)(x:V)(H1:Hp)(Q:VK):Prop
 | mk  (e0:uG K T x H1) (e1:r x [] H1 Q)
def Jpx(K:W.Frag)(T:String)(r:N6!)(to:TE):TE:=ds! to (Jpl K T r x H1 Q)
inductive Jrg(K:W.Frag)(T:String)(r:N6!)(t:TA)(σ:St)(x:V)(H1:Hp)(Q:VK):Prop
 | mk  (e0:uG K T x H1) (e1:CL! t (λxs H2=>r x xs H2 Q))
def tBM(K:W.Frag)(T:String)(r:N6!)(to:TE)(t:TA):TE:=ds! to (Jrg K T r t σ x H1 Q)
variable {o e:Expr}{es:List Expr}{to:TE}{t:TA}{name:Str}{apos HR:Pos}{T id:String}{r:V->List V->Hp->VK->Prop}
theorem N4{X:G!}(pa:PlainAttrs T)(slot:Slot T name id)(vR:typeOf (D3! id)=pure (GX! "method_descriptor"))(hm:tE X id r)(ho:AO! o to)(fX:rh! name:=by rfl)(fW:ih!:=by rfl):UO! name [] (Jpx Kx T r to):=by intro AA s σ H Q I h;refine wpAny_Call_method0_late fX fW we!;rintro v s1 ⟨x,H1,I1,r1,ty,q1⟩;obtain⟨h1,h2⟩:=Jfn I1 r1 ty;exact⟨T,id,pa,slot,vR,h1,h2,F_ rfl (PySem.evalArgs_none (hm AA s1 σ H1 x [] v [] Q I1 r1 L! q1))⟩
theorem Lj{X:G!}(pa:PlainAttrs T)(slot:Slot T name id)(vR:typeOf (D3! id)=pure (GX! "method_descriptor"))(hm:tE X id r)(ho:AO! o to)(ha:OD!)(fX:rh! name:=by rfl)(ze:AT! ((backTo HR (starEach Pd! X.env)).all (λx=>! x.1)&&(backToKw HR (keywordEach [] X.env)).all (λx=>x.1.isSome) && w! (AU! (e::es)+([]:Bl! Keyword).length+(Lm! ([]:Bl! Keyword).isEmpty 0 1)<30)):=by rfl)(fW:ih!:=by rfl)(hs:Lk!:=by rfl)(bN:wO! HR es:=by rfl) : UO! name Pd! (tBM Kx T r to t):=by intro AA s σ H Q I h;refine wpAny_Call_method_late fX ze fW rfl we!;rintro v s1 ⟨x,H1,I1,r1,ty,q1⟩;obtain⟨h1,h2⟩:=Jfn I1 r1 ty;refine⟨T,id,pa,slot,vR,h1,h2,?_⟩;have hA:=ha HR AA s1 σ H1 _ I1 q1;rw[hs] at hA ⊢;refine F_ (by show AE! (false || C? (backTo HR (starEach es X.env)).any);rw[bN]<;>rfl) (HK ?_);exact EM hA λus s2 ⟨vs,H2,I2,r2,q2⟩=>sM! hm vs us Q r1 r2 q2
universe E
def pM(X:G!)(id:String)(r:N6!):Prop :=
 ∀(AA:v!)(s:Shared)(σ:St)(H:Hp)(x:V)(xs:C!)(v:Value)(us:g!)(Q:VK),mC! Ds! (r x xs H Q ->
  Eo! (call (D3! id) (v::us)))
theorem Vals.one{x:V}{us:g!}(h:Vals [x] us):∃u,us=[u]/\H0!:=by cases h with|cons r t=>cases t;exact KF r
theorem Vals.zero:∀{us:g!},Vals [] us->us=[]
 | _,.nil=>rfl
theorem Vals.dropLast(h:Ds!):Vals xs.dropLast us.dropLast:=by induction h with | nil=>exact L! | cons r t ih =>cases t with | nil=>exact L! | cons q t'=>exact K? r ih
theorem Jcc(l:U!):l.eraseIdx (l.length-1)=l.dropLast:=Md!
universe S
variable {X:Cx Kx}{AA:List (Addr×Obj)}{σ:St}{H:Hp}{s:Shared}{l b:Addr}{xs ys zs:List V}
theorem Inv.iH{its its':g!}{n:Nat}{f:Dg!->Dg!}{t':Nat}(I:K!)(hH:Ok!)(e:Rj! l (Qt! (EF! SB) (Ne! its.toArray)))(hf:f its.toArray=its'.toArray)(hv:Vals ys its')(hz:ys.length<=sizeLine) : xz (Sh! ys) { s with heap:=s.heap.update l (Obj.mapSeq f),toks:=t' }:=by have q:=PySem.IsL.update e f;rw[hf] at q;refine I.write (x:=l) (e:=l) (q! hH trivial) Cr! (λb' u hb hu=>(DO s.heap (Obj.mapSeq f) (VR! hb)).trans hu) (D? q) ?_;exact⟨hz,its',_,hv,q⟩
theorem Inv.qA(I:K!)(hv:Vals ys its)(hz:ys.length<=sizeLine) : xz (AP! s.heap.objs.size .BJ ys) { s with heap:=Qk! SB D0! its.toArray,toks:=t' } :=I.laid (gN!) ci ⟨hz,its,0,hv,CM!⟩
theorem Inv.fresh(I:K!):KL!:=IC!
theorem Inv.bA(I:K!)(hH:Ok!):Dz!/\∃(its:g!)(n:Nat),Tv!/\xs.length=its.length/\Rj! l (Qt! (EF! SB) (Ne! its.toArray)):=by obtain⟨z,its,n,r,e⟩:=I.DK l _ hH;exact⟨z,its,n,r,r.length,e⟩
theorem Z4(h:n<=sizeLine):r? (Builtin.List.listTooLong n):=by unfold Builtin.List.listTooLong;exact Cn! decide_eq_false
universe E
universe S
variable {X:Cx Kx}
inductive Jin  (x:V) (vs:C!) (H:Hp) (Q:VK):Prop
 | mk (l xs y) (e0:XV!) (e1:vs=[y]) (e2:Ok!) (e3:xs.length<sizeLine) (e4:Q .EO (Sh! (xs++[y])))
def Jjf:N6!:=λx vs H Q=>Jin  x vs H Q
theorem Gg:pM X "list.append" Jjf:=by intro AA s σ H x vs v us Q I rx rv h;obtain⟨l,xs,y,rfl,rfl,hH,hz,q⟩:=h;cases rx;obtain⟨u,rfl,ru⟩:=rv.one;obtain⟨z,its,n,r,hl,e⟩:=bd!;refine call_meets F.slot_list_append ZE! F.entry_list_append (F.args_list_append_2 _ _) (PySem.list_append l its.toArray n u (Gh! AZ)) (Ch e);refine DR! .EO _ (sE! (its++[u]) Db (r.append (K? ru L!))) q;rw[ZE,EC];lia
inductive Jje(x:V)(vs:C!)(H:Hp)(Q:VK):Prop
 | mk l b xs zs (_:XV!) (_:vs=[Uf]) (_:Ok!) (_:EU! .BJ zs) (_:At! (xs.length+zs.length)) (_:Q .EO (Sh! (xs++zs)))
theorem Uz:pM X "list.extend" Jje:=by
 intro AA s σ H x vs v us Q I rx rv h;obtain⟨l,b,xs,zs,rfl,rfl,hH,hB,hz,q⟩:=h;cases rx;obtain⟨u,rfl,ru⟩:=rv.one;cases ru;obtain⟨z,its,n,r,hl,e⟩:=bd!;obtain⟨z2,QW,n2,r2,hl2,e2⟩:=I.bA hB;have hsz:At! fk!:=W2! AZ AZ
 have fV:¬AT! (!its.toArray.isEmpty&&Builtin.List.listTooLong (fk!)):=ga (Z4 hsz) Bool.and_false AR
 refine call_meets F.slot_list_extend ZE! F.entry_list_extend (F.args_list_extend_2 _ _) (AutoSeq1.list_extend_list_list_0 l its.toArray n b QW.toArray n2 fV (Dk! AZ) F!) (GM e e2);refine DR! .EO _ (sE! (its++QW) Db (r.append r2)) q;rw[ZE];lia
inductive Jqr(x:V)(vs:C!)(H:Hp)(Q:VK):Prop
 | mk l xs y (_:XV!) (_:vs=[]) (_:Ok!) (_:xs[xs.length-1]?=A! y) (_:Q y (Sh! xs.dropLast))
theorem Jhj:pM X "list.pop" Jqr:=by
 intro AA s σ H x vs v us Q I rx rv h;obtain⟨l,xs,y,rfl,rfl,hH,hy,q⟩:=h;cases rx;have sG:=rv.zero;subst sG;obtain⟨z,its,n,r,hl,e⟩:=bd!;obtain⟨u,hu,ru⟩:=r.get hy;have oR:its.toArray[its.toArray.size-1]?=A! u:=by show its.toArray[its.length-1]?=A! u;rw[<-VC,<-hl];exact hu
 refine call_meets F.slot_list_pop ZE! F.entry_list_pop (F.args_list_pop_1 _) (MeetsSeq.list_pop_last l its.toArray n u oR (Dk! AZ)) (Ch e);refine⟨y,_,sE! its.dropLast ?_ r.dropLast,ru,q⟩;.show its.toArray.eraseIdxIfInBounds (its.toArray.size-1)=its.dropLast.toArray;rw[AZ,List.eraseIdxIfInBounds_toArray,Jcc]
 .rw[List.length_dropLast];lia
inductive Jqv(x:V)(y:V)(H:Hp)(Q:VK):Prop
 | mk l b xs zs (_:XV!) (_:y=Uf) (_:Ok!) (_:EU! .BJ zs) (_:At! (xs.length+zs.length)) (_:GT! (AP! p .BJ (xs++zs)))
theorem Jmk:TF! .Add Jqv:=by
 intro AA s σ H x y v u Q I rx ry h;obtain⟨l,b,xs,zs,rfl,rfl,hH,hB,hz,q⟩:=h;cases rx;cases ry;obtain⟨z,its,n,r,hl,e⟩:=bd!;obtain⟨z2,QW,n2,r2,hl2,e2⟩:=I.bA hB;refine PySem.P.add_list e e2 ?_ (XC! AZ AZ);have ea:its.toArray++QW.toArray=(its++QW).toArray:=x!
 rw[ea];exact Ve! _ _ (I.qA (t':=s.toks) (r.append r2) (Dk! ZE)) (q _ I.fresh)
universe E
universe S
universe E
universe S
variable {X:Cx Kx}
universe E
universe E L2
universe N Att
open PySem PySem.W PySem.Calls PyProof.Rows
theorem Po:∀(ns:j!)(vs:g!),WellAll P h vs (ns.map WData.int)->TH!:=by intro ns;induction ns with | nil =>intro vs w;rw[DW] at w;cases w;exact L! | cons n ns ih =>intro vs w;rw[AI] at w;cases w with | cons a b =>cases a;exact E! K? (ih _ b)
theorem Jed{l:OpenLaw}{n:Nat}(hn:gR! n){P:Params}{h:Heap}{args:Bl! WData}{vals:g!}(iJ:Tk l.row.toRowW.claim.pre args)(oS:WellAll P h vals args) : ∃a vs ns,vals=[vs!]/\args=[WData.list (ns.map WData.int)]/\HB! cM!/\TH!/\fl!:=by
 have vU:WShape.hasAll [] args [D8! a!]=true:=(pre_splitW iJ).1;have hc:l.pre.holds [] { args:=args }=true:=(pre_splitW iJ).2;obtain⟨d,r,rfl,h1,h2⟩:=hasAllW_cons vU;obtain rfl:=hasAllW_nil h2;obtain⟨xs,rfl,h3⟩:=hasW_list h1;obtain⟨ns,rfl⟩:=items_int h3;have hlen:fl!:=by unfold OpenLaw.pre at hc;(have h4:(WTm.not (.lt (.lit (a! DZ!)) (.len (.arg 0)))).holds [] { args:=[D8! (ns.map a!)] }=true:=by have h4:=(holds_andW hc).1;rw[hn] at h4;exact h4);have h5:=condW_of h4 (w_not (w_lt w_lit (w_len_list (w_arg rfl))));rw[ZA] at h5;refine Nat.le_of_not_lt λq=>?_;(have q':DZ!<s? ns.length:=B!);first | (rw[EM! q'] at h5;exact jK! h5) | (simp at h5;lia)
 cases oS with | cons w1 w2 =>cases w2;cases w1 with | list ho lF=>exact⟨_,_,ns,rfl,rfl,ho,Po ns _ lF,hlen⟩
theorem Jel(l:OpenLaw)(args:Bl! WData):l.row.toRowW.claim.post args (bi true) args=true :=postW_of (r:=l.row.toRowW) (X:=(true==true)) (show WShape.has [] (bi true) bi=true by first|rfl|decide|simp[WShape.has,WShape.arms,WShape.armsAll]) (show(WTm.eq .res (.lit (bi true))).value [] { args:=args,res:=FE! bi true,after:=args }=A! (bi (true==true)) from w_eq_bool (w_res rfl) w_lit) rfl
theorem aR{l:OpenLaw}{n:Nat}{q:Program}{loose:U?}{XP:KJ! XF!}{YP:KJ! World}{d:DefRec}(hn:gR! n)(om:d.params.defaults=[])(call:∀(w:World) (IE EK:Shared) (mg mb:v?) (fa:Addr) (o:Obj) (pm cd doc:Value) (a:Addr) (vs:g!) (ns:j!),Ground q loose [] XP w IE mg mb EK.heap->YP w EK.heap -> Fa! EK.heap.get? fa->o.data=.func (docDef d.name d.params d.body d.scope pm cd doc)->EK.heap.CodeRec cd d.name->lh! d.name -> I9! EK.heap.get? cM!->TH!->fl!->EK.gens=#[] -> codeAny (model l.prog w) callerA (.call (Y! fa) Nh!) (λr s'=>r=o3! bi true/\OldK EK.heap s'.heap/\s'.os=EK.os/\TW!) EK) : WalkO q loose XP YP l.row.toRowW d [] (λf vs=>PySem.call f vs):=by intro w IE EK mg mb G Y fa o pm cd doc dV kV ho hd cZ hD hmg hg args vals as iJ JQy hrd oS hlo;obtain rfl:dV=l?:=Dflts.none hD om;obtain rfl:kV=l?:=Dflts.noKw hD;obtain⟨a,vs,ns,rfl,rfl,lD,hints,hlen⟩:=Jed hn iJ oS;refine enter_call (IF (call w IE EK mg mb fa o pm cd doc a vs ns G Y ho (fd_plain hd) cZ hmg lD hints hlen hg) λr s' hq=>?_);obtain⟨rfl,h2,h3,h4⟩:=hq;exact⟨J! ⟨SK!,SK!,[],rfl,Cg!,SK!,Jel l _,λ_=>⟨List.Pairwise.nil,λ_ hm=>(nomatch hm)⟩⟩,h2,h3,h4⟩
universe S
variable {prog:Program}{w:World}{A:Around}{E:Value->Shared->Prop}{s:Shared}{K:Frag}
def ledger(h:Heap)(L d:Addr):v!:=(List.range h.objs.size).filterMap λa=>if a=L\/a=d then none else(h.get? a).map λo=>(a,o)
universe E
universe E Att
universe N L2
open PySem PySem.Spec PyProof.Rows
theorem Ue{vs:g!}{ns:j!}(p:TH!):Vals (ns.map V.int) vs:=by induction p with | nil=>exact L! | cons n t _ ih=>exact K6! ZP!
def tL(H:Hp):Prop:=∀b,t?\/∃o xs,Cj! H (.FQ o (.BJ xs))
theorem Jhn{P:Program}{w:World}{K:W.Frag}{mg mb:v?}{CX:dj}{k:Nat}{fa a:Addr}{fd:FuncData}{x:Str}{sp:Sp}{EK:Shared}{vs:g!}{ns:j!}(KX:K.In EK.heap)(hns:QR! EK.heap.Ns)(hb:EK.heap.Ns builtinsNs mb)(hbb:∀x:Str,XS!->mb x=bootBuiltins x)(za:EK.heap.NoLimit)(hg:EK.gens=#[])(ha:I9! EK.heap.get? cM!)(hi:TH!)(hl:ns.length<=sizeLine)(hr:Cn k callerA)(F:sF! (K.In base) P K CX k [x] sp)(qr:∀(s:Shared) (u:Value),mk! [u] [(x,u)])(gG:∀H:Hp,tL H->mH!->sp HC! H (λv _=>v=.bl true) Q4!)(v8:∀H e s',CX [] H EK (Q4!) e s'->False) : codeAny (model P w) callerA (.call (Y! fa) Nh!) (λr s'=>r=o3! bi true/\OldK EK.heap s'.heap/\s'.os=EK.os/\TW!) EK:=by
 have rv:=Ue hi;have zH:=hi.length;have core:∀H:Hp,tL H->mH!->NU P w H EK.heap->(∀b,H b≠none->b=a)->(H a≠none->FM K.lookup a) -> codeAny (model P w) callerA (.call (Y! fa) Nh!) (λr s'=>r=o3! bi true/\OldK EK.heap s'.heap/\s'.os=EK.os/\TW!) EK:=by intro H hO hS DK hA hK;have cT:∀{b:Addr} {o:Obj},Ad! EK.heap.get?->t?->Ad! (Yb EK.heap H).get?:=λe n=>Jht e n;(have oK:∀{b:Addr} {o:Obj} {es:C9!} {ep:Nat},Ad! EK.heap.get?->HW!->t?:=λ{b o es ep} e d=>by cases q:H b with | none=>rfl | some u =>have e':b=a:=hA b (f3!);subst e';rw[ha] at e;cases e;have d':Data.seq vs.toArray _=Data.dict es ep:=d;cases d');have rX:∀{b:Addr} {m:v?},EK.heap.Ns b m->(Yb EK.heap H).Ns b m:=λ{b m} ⟨o,es,ep,e,d,r⟩=>⟨o,es,ep,cT e (oK e d),d,r⟩;have hKb:K.In (Yb EK.heap H):=Ab! (cT (Cs! KX) (by cases q:H b with | none=>rfl | some u =>have e':b=a:=hA b (f3!);subst e';rw[hK (f3!)] at e;cases e));have hM:Mod K mg (Yb EK.heap H):=⟨hKb,rX hns,⟨mb,rX hb,hbb⟩,let⟨mc,h1,h2⟩:=za;⟨mc,rX h1,h2⟩⟩;have e0:bK P w K mg (Yb EK.heap H) callerA [] EK H:=⟨rfl,hM,Ab! (Jj4 e),Nat.le_of_eq (Je2 _ _),trivial,N? (ij! (show b∈([]:M!) from hb)),DK,.of_eq hg⟩;refine IF ((F _ hKb (rX hns)).run callerA [] EK H Nh! HC! HC! _ _ hr e0 (qr EK T0) (Ny! rfl) (gG H hO hS)) λr s' h=>?_;cases r with | error e=>exact(v8 H e s' h).elim | ok fl =>cases fl with | next=>exact hW! | brk=>exact hW! | cont=>exact hW! | ret u =>obtain⟨v,H',os,bare,un,zX,r',q⟩:=h;have q':v=.bl true:=q;subst q';obtain rfl:u=Value.bool true:=r';refine⟨rfl,OldK.of_keep Dl!,os,bare⟩;cases q:H b with | none=>exact un.keep b o e q (by intro z;exact ij! (show b∈([]:M!) from z)) Db | some u =>rcases hO b with z|⟨ob,xs,z⟩;(.rw[q] at z;cases z);.have z2:=un.OV b ob _ z;obtain⟨e1,_⟩:=DK b _ z;obtain⟨e2,_⟩:=zX b _ z2;rw[e] at e1;cases e1;exact e2
 cases hk:K.lookup a with | some o =>have e:=KX a o hk;rw[ha] at e;cases e;refine core (Ov!) (λ_=>Ed!) (TD ⟨_,vs.toArray,_,hk,rfl,rfl,rfl,ga AZ zH hl,by simpa using rv⟩) (λb u z=>by have z':(none:Go! HO)=A! u:=z;cases z') (λb z=>Fh! z) λz=>Fh! z | none =>refine core (λb=>tr! (b=a) (.FQ cM! (.BJ (ns.map V.int)))) (λb=>?_) (Z! (J? ⟨cM!,e?⟩)) (λb u z=>?_) (λb z=>?_) λ_=>hk;(.by_cases hb:b=a;(.exact I! (jp _ (AF hb)));.exact Z! (AB hb));(.by_cases hb:b=a;(.have z':=(AF hb).symm.trans z;cases z';subst hb;exact⟨ha,FU! hl,vs,_,rv,ha⟩);.have z':=(AB hb).symm.trans z;cases z');.by_cases hb:b=a;(.exact hb);.exact ME! AB hb z
abbrev KOf{K:W.Frag}{h:Heap}(_:K.In h):W.Frag:=K
theorem iP{l:W.OpenLaw}{n k:Nat}{q:Program}{loose:U?}{XP:KJ! XF!}{YP:KJ! World}{d:DefRec}{K:Params->W.Frag}{CX:World->dj}{sp:World->Sp}{x:Str}(hn:gR! n)(gK:n<=sizeLine)(om:d.params.defaults=[])(hr:Cn k callerA)(hY:∀(w:World) (h:Heap),YP w h->hX!)(F:∀(w:World) (mg:v?) (fa:Addr) (h:Heap),hX!->QR! h.Ns->lh! d.name -> ∃fd:FuncData,(∀(s:Shared) (u:Value),mk! [u] [(x,u)]) /\ sF! ((K w.params).In base) l.prog uo! (CX w) k [x] (sp w))(gG:∀(w:World) (H:Hp) (a:Addr) (ns:j!),fl!->tL H->DY uo! H a Qr!->sp w HC! H (λv _=>v=.bl true) Q4!)(v8:∀(w:World) (H:Hp) (s:Shared) (e:Value) (s':Shared),CX w [] H s (Q4!) e s'->False) : W.WalkO q loose XP YP l.row.toRowW d [] (λf vs=>PySem.call f vs):=by refine Att.aR hn om λw IE EK mg mb fa o pm cd doc a vs ns G Y ho hd cZ hmg lD hints hlen hg=>?_;have KX:=hY w _ Y;obtain⟨fd,hb,hF⟩:=F w mg fa _ KX G.T.g hmg;exact Jhn KX G.T.g G.T.b G.T.builtins G.T.nolimit hg lD hints (AV hlen gK) hr hF hb (λH hO hS=>gG w H a ns hlen hO hS) λH e s'=>v8 w H EK e s'
def inClass(s:Stmt)(j:Nat):Stmt:=match s with
 | .ClassDef _ _ _ body _ _ _ _ _ _ _=>body.getD j (.Pass ⟨0,0,0,0⟩)
 | _=>.Pass ⟨0,0,0,0⟩
def Nj(s:Stmt):Arguments:=match s with
 | .FunctionDef _ a _ _ _ _ _ _ _ _=>a
 | _=>{ posonlyargs:=[],args:=[],vararg:=none,kwonlyargs:=[],kw_defaults:=[],kwarg:=none,defaults:=[] }
def Hl(s:Stmt):hK!:=match s with
 | .FunctionDef _ _ b _ _ _ _ _ _ _=>b
 | _=>[]
def Ak(s:Stmt):Scope:=match s with
 | .FunctionDef _ _ _ _ _ _ sc _ _ _=>sc
 | _=>{ kind:=.function,names:=[],isGenerator:=false,isCoroutine:=false }
abbrev cG:dj:=λ_ _ _ _ _ _=>False
abbrev E0:XK:=Q4!
theorem A7:Jv cG X E0:=λ_ _ _ _ _ _ _ h=>h.elim
structure FF(K:W.Frag)(x qual:Str)(st:Stmt)(f:Addr)(fd:FuncData):Prop where
 ex:∃(oc:Value)(od:KP!)(kV doc pm:Value)(an:KP!)(D_ ct:Value)(je:Array (Option Value)),
  fd=sN! qual/\L? K.lookup f ⟨oc,od,.func fd,je⟩/\W.codeIn K D_ qual=true
 kp:W.keepIn K MA!=true
universe S
variable {P:Program}{w:World}{K:W.Frag}{mg:Str->Option Value}{base:Heap}
theorem FF.ok{x qual:Str}{st:Stmt}{f:Addr}{fd:FuncData}{N ps:U?}{k:Nat}{sp:Sp}(F:Tn!)(S:q8!)(len:l7!)(aO:∀(D_:Value) (A:Around) (outer:By!) (s:Shared) (H:Hp) (vs:C!) (Q:VK) (E:XK),bN! (fO! (Ak st) D_)->Qs! -> rm! (QE (pT! cG).oJ (Hl st) t)):n9! cG:=by obtain⟨oc,od,kV,doc,pm,an,D_,ct,je,rfl,lk,cZ⟩:=F.ex;refine Jli lk cZ S len λA outer s H vs Q E hr gG=>?_;obtain⟨t,h,q⟩:=aO D_ A outer s H vs Q E hr gG;exact⟨t,h.oJ,q⟩
def Bd(P:Program)(w:World)(K:W.Frag)(mg:v?)(base:Heap)(CX:dj)(b:Bool)(N ps:U?)(qual:Str)(st:Stmt)(f:Addr)(k:Nat)(vs:C!)(H:Hp)(Q:VK)(E:XK):Prop :=
 vs.length=ps.length/\∀(D_:Value)(A:Around)(outer:By!)(s:Shared),bN! (fO! (Ak st) D_) ->
  rm! (QE (bif b then(pT! CX).oJ else pT! CX) (Hl st) t)
theorem FF.IV{x qual:Str}{st:Stmt}{f:Addr}{fd:FuncData}{N ps:U?}{k:Nat}{sp:Sp}(F:Tn!)(S:q8!)(h:∀vs H Q E,Qs!->Bd P w K mg base cG true N ps qual st f k vs H Q E):n9! cG :=F.ok S (λvs H Q E z=>(h vs H Q E z).1) λD_ A outer s H vs Q E hr z=>(h vs H Q E z).2 D_ A outer s hr
theorem FF.binds{x qual:Str}{st:Stmt}{f:Addr}{fd:FuncData}{ps:U?}(F:Tn!)(h:∀(kV doc pm:Value) (an:KP!) (D_ ct:Value) (us:g!),fW!->bindArgs (sN! qual) Ng!=pe!):b7!:=by obtain⟨oc,od,kV,doc,pm,an,D_,ct,je,rfl,lk,cZ⟩:=F.ex;exact .all (h kV doc pm an D_ ct)
universe E
theorem Cs(hr:S8!):LF!:=JK (Nat.add_le_add_left (w?:1<=64) _) hr.units
theorem A6(h:n<=1000):n<sizeLine:=Vb! JK h
universe S
variable {X:Cx Kx}
theorem pv(i:Nat)(hN:Nf!:=by rfl)(hv:vT! xG:=by first|exact Or.inl rfl|exact Or.inr (Or.inl rfl)|exact Or.inr (Or.inr rfl))(hd:Et!:=by decide)(cZ:AE! (x==("__classdict__":Str)):=by decide):PE X ZY! (Ca i):=Jmc hN hv hd cZ
inductive Jcm(xs:C!)(H:Hp)(Q:VK):Prop
 | mk a kvs (_:xs=[PT!]) (_:S2!) (_:K5! kvs.length)
theorem Ot:vQ! "len" Jcm:=by intro AA s σ H xs us Q I r h;obtain⟨a,kvs,rfl,ha,q⟩:=h;obtain⟨u,rfl,ru⟩:=GH!;cases ru;exact Jo7 I (AD! ha) λt s' I'=>⟨T! kvs.length,H,I',ZP!,q⟩
universe E
theorem Cc{A B:Prop}(h:B):if Wy! then A else B:=f1! (AB AR)
theorem Ck{A B:Prop}(h:A):if true=true then A else B:=f1! e?
theorem X7{c A B:Prop}[Decidable c](h1:c->A)(h2:¬c->B):if c then A else B:=by
 by_cases h:c;.rw[A6!];exact h1 h
 .rw[BY!];exact h2 h
def Bu(H H':Hp):Prop:=xL (Gr!->Fc!)
universe S
variable {κ:Type}[DecidableEq κ]
theorem G9:∀{l:Bl! κ} {k:κ},l.Nodup->¬k∈l->(l++[k]).Nodup
 | [],k,_,_=>x!
 | a::r,k,h,hk=>by obtain⟨h1,h2⟩:=AX.mp h;show(a::(r++[k])).Nodup;refine AX.mpr ⟨Jz!,G9 h2 λm=>hk (CB.mpr (Or.inr m))⟩;rcases ZI m with q|q;(.exact h1 q);.exact hk (CB.mpr (Or.inl (Bx! ZK q)))
theorem Je9{p:κ×V}{r:AG!}{k:κ}(e:Dm!):Ej (p::r) k=Ej r k:=by unfold Ej;rw[DX,AB (W9!)]
theorem Vq{p:κ×V}{r:AG!}{k:κ}(e:¬Dm!):Ej (p::r) k=p::Ej r k:=by unfold Ej;rw[DX,AF (W9!)]
theorem Tg:∀{kvs:AG!} {k:κ},¬k∈C? kvs.map->Ej kvs k=kvs
 | [],_,_=>rfl
 | p::r,k,h=>by (have h':¬k∈C? r.map:=λm=>by obtain⟨q,hq,e⟩:=Dr!;exact ZX! ⟨q,CB.mpr (Or.inr hq),e⟩);rw[Vq λe=>ZX! ⟨p,CB.mpr (Or.inl rfl),e⟩,Tg h']
universe E
universe E L2
set_option maxHeartbeats 4000000
universe N FX
open PySem PySem.Spec PyProof.Rows L2
inductive FL(K:W.Frag)(H:Hp):AN! V PyData
 | EO:B2! .EO l?
 | bl (b:Bool):B2! (.bl b) (bi b)
 | int (i:Int):B2! (Op i) (Op i)
 | str (x:Str):B2! (CC! x) (CC! x)
 | BB {a:Addr} {xs:C!} {ds:Eb!}:GI!->xs.length=ds.length->(∀(j:Nat)(x:V)(d:PyData),Y0!->ds[j]?=A! d->B2! x d)->B2! T0 (D9! ds)
inductive Rep(K:W.Frag)(H:Hp):AN! V PyData
 | one {x:V} {d:PyData}:B2! x d->Hq! x d
 | BJ {a:Addr} {xs:C!} {ds:Eb!}:IE!->o1! xs ds->Hq! T0 (D8! ds)
theorem Ax{xs:U!}{ys:Aq!}(p:Ii!):∀(j:Nat)(x:α)(y:β),Y0!->ys[j]?=A! y->R x y:=by induction p with | nil=>intro j x y h;simp at h | cons r _ ih =>intro j x y h h';cases j with | zero=>cases h;cases h';exact r | succ j=>exact ih j x y h h'
theorem E9{xs:U!}{ys:Aq!}(hl:xs.length=ys.length)(h:∀(j:Nat) (x:α) (y:β),Y0!->ys[j]?=A! y->R x y):Ii!:=by induction xs generalizing ys with | nil=>(cases ys with|nil=>exact L!|cons=>cases hl) | cons x xs ih=>cases ys with | nil=>cases hl | cons y ys=>exact K? (h 0 x y rfl rfl) (ih (Nat.succ.inj hl) λj=>F6! h)
theorem FL.tupP{K:W.Frag}{H:Hp}{a:Addr}{xs:C!}{ds:Eb!}(h:GI!)(r:o1! xs ds):B2! T0 (D9! ds) :=.BB h (Paired.length r) λj x d e1 e2=>Ax r j x d e1 e2
structure BD(H H':Hp):Prop where
 BB:∀a xs,Kt! xs->Nq! a xs
 FQ:∀a o u,I9! H Dt!->I9! H' Dt!
theorem BD.refl(H:Hp):BD H H:=⟨es!,λ_ _ _ e=>e⟩
theorem BD.trans(a:BD H H1)(b:BD H1 H2):BD H H2:=⟨λc xs e=>b.BB c xs (a.BB c xs e),λc o u e=>b.FQ c o u (a.FQ c o u e)⟩
theorem EI(s:KM):p?:=RC! (s a _ e) (λa o u e=>s a _ e)
theorem BD.sq{K:W.Frag}{H H':Hp}(k:p?){a:Addr}{xs:C!}(h:GI!):CA K H' a xs:=by
 rcases h with(e|⟨o,e⟩)|z;.exact df! (k.BB a xs e)
 .exact ty! (Dd! (k.FQ a o _ e))
 .exact ND!
theorem BD.upd(h:∀o',HM! p o'->(∀xs,o'≠.BB xs)/\∀b u,o'≠.FQ b u):BD H (Pt! p) :=RC! (by (have:a≠p:=λz=>by subst z;exact(h _ e).1 xs rfl);rw[Ad this];exact e) (λa b u e=>by (have:a≠p:=λz=>by subst z;exact(h _ e).2 b u rfl);rw[Ad this];exact e)
theorem FL.keep{K:W.Frag}{H H':Hp}(k:p?){v:V}{d:PyData}(r:B2! v d):FL K H' v d:=by induction r with | EO=>exact .EO | bl b=>exact .bl b | int i=>exact Pz! | str x=>exact Ak! x | BB h hl _ ih=>exact .BB (k.sq h) hl λj x d e1 e2=>ih j x d e1 e2
universe S
theorem Oz{xs:C!}{us:g!}{ds:Eb!}(p:Ds!)(hl:xs.length=ds.length)(f:∀(j:Nat) (x:V) (d:PyData),Y0!->ds[j]?=A! d->∀u,H0!->∃as,Reads h u d as):∃as,ReadsAll h us ds as:=by induction p generalizing ds with | nil=>(cases ds with|nil=>exact⟨[],L!⟩|cons=>cases hl) | cons r t ih=>cases ds with | nil=>cases hl | cons d ds =>obtain⟨as,r1⟩:=f 0 _ d rfl rfl _ r;obtain⟨bs,r2⟩:=ih (Nat.succ.inj hl) λj=>F6! f;exact⟨as++bs,K? r1 r2⟩
theorem FL.reads{X:G!}(I:K!)(r:FL Kx H v d):∀u,DA!->∃as,Reads s.heap u d as:=by induction r with | EO=>intro u e;cases e;exact D? l? | bl b=>intro u e;cases e;exact D? (bi b) | int i=>intro u e;obtain⟨t,rfl⟩:=e;exact D? (a! i t) | str x=>intro u e;obtain⟨t,rfl⟩:=e;exact D? (CC! x t) | BB h hl _ ih =>intro u e;cases e;obtain⟨its,rv,⟨o,ho,hc,n,hd⟩,_⟩:=I.tuple h;obtain⟨as,ra⟩:=Oz rv hl λj x d e1 e2=>ih j x d e1 e2;exact⟨as,D9! ho hc hd (by simpa using ra)⟩
theorem Rep.reads{X:G!}(I:K!)(r:Rep Kx H v d)(e:DA!):∃as,Reads s.heap u d as:=by cases r with | one r=>exact r.reads I u e | BJ h p =>cases e;obtain⟨its,rv,pl,_⟩:=I.list h;obtain⟨o,ho,hc,n,hd⟩:=pl.isList;obtain⟨as,ra⟩:=Oz rv (Paired.length p) λj x d e1 e2=>(Ax p j x d e1 e2).reads I;exact D? (D8! ho hc hd (by simpa using ra))
def aA(d:PyData):Prop:=wR! 40
inductive Jpp(K:W.Frag)(x:V)(y:V)(H:Hp)(Q:VK):Prop
 | mk (d e) (e0:Hq! x d) (e1:Hq! y e) (e2:aA d) (e3:aA e) (e4:Q (.bl (PyData.eqv d e)) H)
def Jqu(K:W.Frag):R2:=n4! Jpp
inductive Jpm(K:W.Frag)(x:V)(y:V)(H:Hp)(Q:VK):Prop
 | mk (d e) (e0:Hq! x d) (e1:Hq! y e) (e2:aA d) (e3:aA e) (e4:at! (! PyData.eqv d e))
def Jqs(K:W.Frag):R2:=n4! Jpm
theorem Rp{X:G!}(hu:IH!):OL! .Eq Jqu Kx:=by intro AA s σ H x y v u Q I rx ry h;obtain⟨d,e,r1,r2,o1,o2,q⟩:=h;obtain⟨as,g1⟩:=r1.reads I rx;obtain⟨bs,g2⟩:=r2.reads I ry;exact PySem.SeqAt.compareEq_reads g1 g2 o1.1 o2.1 (D6! o1.2) (QE! (.bl _) q)
theorem Gs{X:G!}(hu:IH!):OL! .NotEq Jqs Kx:=by intro AA s σ H x y v u Q I rx ry h;obtain⟨d,e,r1,r2,o1,o2,q⟩:=h;obtain⟨as,g1⟩:=r1.reads I rx;obtain⟨bs,g2⟩:=r2.reads I ry;exact PySem.SeqAt.compareNe_reads g1 g2 o1.1 o2.1 (D6! o1.2) (QE! (.bl _) q)
theorem Fn(h:aA d):PyData.eqv d d=true:=PySem.SeqAt.eqv_refl d h.1
theorem Hr(r:S8!):A.units+64<cLine:=r.units
universe E
def Jx(p d:Addr):HO:=.ext λh=>h.IsValuesView p d
universe S
theorem Jkc{kvs:AG!}{vs:hO!}(p:Ca!):Vals (kvs.map db) (vs.map db):=m8! Jol r.2
theorem Oa:tE X "dict.values" (λx xs H Q=>∃d kvs,XU!/\xs=[]/\S3!/\GT! (upd H p IZ!)):=by intro AA s σ H x xs v us Q I rx rs h;obtain⟨d,kvs,rfl,rfl,hd,q⟩:=h;cases rx;cases rs;obtain⟨z,lo,vs,rel,dd⟩:=pQ I.DK hd;refine PySem.call_meetsIn JD dd.typeIs PySem.F.entry_dict_values (PySem.F.args_dict_values_1 _) (meets_dict_values IW! d lo) (Ch ⟨vs,dd⟩);have hn:KL!:=IC!;refine ad! (bb! (Jx s.heap.objs.size d) Fz! ?_);have g:L? (s.heap.push (Kj! "dict_values" Xi!)).get? s.heap.objs.size (Kj! "dict_values" Xi!):=CM!;exact⟨Au! _ g rfl,D? g,λh1 h2 ⟨o,e,r⟩ k=>Bq! (k o e) r⟩
inductive Np(xs:C!)(H:Hp)(Q:VK):Prop
 | mk p d kvs (_:TD!) (_:HM! p IZ!) (_:S3!) (_:qx! (nE! l kvs.map db))
theorem Oq(hc:BB!):Zp! SB Np:=by intro AA s σ H xs us Q I r h;obtain⟨p,d,kvs,rfl,hp,hd,q⟩:=h;obtain⟨u,rfl,rx⟩:=GH!;cases rx;obtain⟨z,lo,vs,rel,dd⟩:=pQ I.DK hd;obtain⟨ep,da⟩:=dd.dictAt;have hv:s.heap.IsValuesView p d:=(I.DK p _ hp).1;refine W.kdl_call (W.kdl_values (knd:=Cg X.prog X.w) (r:=p) (d:=d) (kvs:=vs) (ep:=ep)) GW! ⟨hv,da⟩ (Mt! rel.length) λh' tk c_ c' kp e ha=>?_;have hn:KL!:=IC!;have e1:c_.toList=vs.map db:=W.kdl_vals_eq c_.toList (q! CM ha.1) λj v hj=>ha.2 j v (S? VC hj);refine ad! (ra! tk (.BJ (kvs.map db)) ⟨FU! z,c_.toList,c',?_,EA!⟩);rw[e1];exact Jkc rel
universe E
universe S
universe E
theorem Ag(hp:Pi!):BQ! (Pt! p):=λb u e=>VV! (Am e hp)
theorem Ai(a:BQ! H1)(b:Bu H1 H2):Jn!:=λc o h=>b c o (a c o h)
theorem Cm(e:KM)(h:FM H' l):Jh!:=by cases q:H l with | none=>rfl | some o=>rw[e l o q] at h;cases h
theorem Xc{xs:U!}{ys:Aq!}(j:Nat)(p:Ii!):G6! R (xs.eraseIdx j) ys.eraseIdx j:=Jmb p j
theorem G8{α β:Type}{R:GQ!}{x:α}{y:β}(r:R x y){xs:U!}{ys:Aq!}(p:Ii!):Paired R (xs++[x]) (ys++[y]):=tO p (K? r L!)
theorem An{α β:Type}{R S:GQ!}(f:l3! (S a b)):∀{xs:U!} {ys:Aq!},Ii!->E4! S xs ys
 | _,_,.nil=>L!
 | _,_,.cons q t=>K? (X! f q) (An f t)
theorem Ee(h0:0<=i)(h:CN! (xs[i.toNat]?)):nv!:=by have:=Jky h;rwa [BO h0] at this
theorem Au{α:Type}{xs:U!}{j:Nat}(h:U8!):∃x,Y0!:=⟨xs[j],List.getElem?_eq_some_iff.mpr ⟨h,rfl⟩⟩
theorem Jlg(h:∀d∈ds,T0!):Tk PyData.canLayAll0 ds/\PyData.depthAll ds<=20:=by induction ds with | nil=>exact⟨by simp[PyData.canLayAll0],by simp[PyData.depthAll]⟩ | cons d ds ih =>obtain⟨a,b⟩:=ih (D5! (h e (Aj! he)));obtain⟨c,g⟩:=Eq! d;exact⟨by simp[PyData.canLayAll0,a,c],by simp only[PyData.depthAll];lia⟩
theorem Fi(h:∀d∈ds,T0!):aA (D8! ds):=by obtain⟨a,b⟩:=Jlg h;exact⟨by simp only[PyData.canLay0];exact a,by simp only[PyData.depth];lia⟩
theorem Kz(h:∀d∈ds,T0!):aA (D9! ds):=by obtain⟨a,b⟩:=Jlg h;exact⟨by simp only[PyData.canLay0];exact a,by simp only[PyData.depth];lia⟩
universe S
universe E
def gU(K:W.Frag)(H:Hp)(a:Addr)(xs:C!):Prop:=(∃o,I9! H (.FQ o (.BJ xs)))\/∀H':Hp,DY K H' a xs
theorem gU.sq{K:W.Frag}{H:Hp}{a:Addr}{xs:C!}(h:gU K H a xs):IE!:=h.elim (λ⟨o,e⟩=>ty! (Dd! e)) λz=>z H
theorem gU.keep{K:W.Frag}{H H':Hp}{a:Addr}{xs:C!}(h:gU K H a xs)(kt:p?):gU K H' a xs:=h.elim (λ⟨o,e⟩=>Al! o (o! kt.FQ _ e)) λz=>ND!
theorem gU.of{K:W.Frag}{H:Hp}{a:Addr}{xs:C!}(hO:tL H)(h:IE!):gU K H a xs:=by
 rcases h with(e|⟨o,e⟩)|z;.rcases hO a with q|⟨o,ys,q⟩;(.rw[q] at e;cases e);.rw[q] at e;cases e
 .exact Al! o e
 .exact I! (λH'=>ND!)
theorem Jfa{prog:Program}{w:World}{A:Around}{R:AC! Result}{s:Shared}{elt target iter:Expr}{ifs:KB!}{scope:Scope}{pos:Pos}{it acc:Value}{env:Env}(J:AC! Nat)(turn:∀k s0,J k s0->UV! (pyNext it) (λr s1=>match r with
  | none=>R (.ok .next) s1
  | some v=>UV! (letOwnedTupleGo target it v) (λ_ sg=>UV! (assign target env v) (λ_ s2 =>
   UV! (forIn ifs true λc r=>if r=true then do let ok <-isTrue c env (UK! c);kV! ok else kV! r) (λok s3 =>
    if ok=true then UV! (UK! elt) (λx s4 =>
     UV! (call (D3! "list.append") [acc,x]) (λ_ s5=>∃m,m<k/\J m s5) s4) s3
    else ∃m,m<k/\J m s3) s2) sg) s1) s0)(k:Nat)(h:J k s):qF! (.compLoop (.ListComp elt [⟨target,iter,ifs,0⟩] scope pos) 0 it acc env) R s:=by
 refine codeAny_loop rfl J (λk s0 hI=>?_) k h
 show wpAny _ A ((compTurn (.ListComp elt [⟨target,iter,ifs,0⟩] scope pos) 0 it acc env).onRaise (λx=>do noteFrame x env;theTreesLotGoes x)) _ _ s0
 have no:∀{E:V?} (e:Value) (s':Shared),False->notedBy e7! A env E e s':=λ_ _ z=>z.elim
 refine wpAny_noted ?_
 rw[compTurn_list]
 refine d4! wpAny_standAt (EZ (turn k s0 hI) (λr s1 h1=>?_) no)
 cases r with
 | none=>exact ZS h1
 | some v =>
   refine ZR (EZ h1 (λ_ sg hg=>ZR (EZ hg (λ_ s2 h2=>ZR (EZ h2 (λok s3 h3=>?_) no)) no)) no)
   cases ok with
   | false =>
     simp only[CY,ER] at h3 ⊢
     exact ZS (x? h3)
   | true =>
     simp only[HU] at h3 ⊢
     exact Qg! (EZ h3 (λx s4 h4=>ZR (EZ h4 (λ_ s5 h5=>ZS (ZS (x? h5))) no)) no)
def Y_(X:G!)(sc:Scope)(cl:BX!)(C:Addr)(N:U?)(s1:Shared)(H1:Hp)(fp:M!)(AA:v!):G! where
 prog:=X.prog
 w:=X.w
 mg:=X.mg
 base:=X.base
 A:=X.A
 N:=N
 IE:=s1
 UX:=H1
 env:=compEnvC sc cl C X.env
 outer:=X.stack
 stack:=X.stack
 ex:=fp
 fn:=λ_=>false
 calm:=X.calm
 pn:=Wg!
 xe:=Wp!
def JJ(cells:BX!):BI! BX!
 | []=>True
 | (x,c)::r=>Va! cells.lookup/\JJ cells r
theorem JJ.look{cells:BX!}:∀{cl:BX!} {x:Str} {c:Addr},JJ cells cl->Va! cl.lookup->Va! cells.lookup
 | [],_,_,_,e=>fx!
 | (y,d)::r,x,c,h,e=>by rw[QL] at e;cases q:x==y with | true =>rw[q] at e;have e1:x=y:=eq_of_beq q;cases e;rw[e1];exact h.1 | false =>rw[q] at e;exact JJ.look h.2 e
structure Jll(X:G!)(sc:Scope)(cl:BX!)(p:Str×Nat):Prop where
 n:X.N[p.2]?=A! p.1
 k:L? X.env.scope.names.lookup p.1 Aa!
 l:cl.lookup p.1=X.env.cells.lookup p.1
 f:L? eK! p.1 Aa!
def NO(X:G!)(sc:Scope)(cl:BX!):BI! Hj!
 | []=>True
 | p::r=>Jll X sc cl p/\NO X sc cl r
theorem NO.at{X:G!}{sc:Scope}{cl:BX!}:∀{caps:Hj!} {j:Nat} {p:Str×Nat},bQ!->caps[j]?=A! p->Jll X sc cl p
 | [],_,_,_,e=>fx!
 | q::r,0,p,h,e=>by simp at e;subst e;exact h.1
 | q::r,j+1,p,h,e=>NO.at h.2 (EA!)
abbrev Jf(caps:Hj!):U?:=caps.map λp=>p.1
def Ed(σ:L2.St)(caps:Hj!):L2.St:=caps.map λp=>(σ[p.2]?).join
universe S
variable {X:Cx Kx}{sc:Scope}{cl:List (Str×Addr)}{AA:List (Addr×Obj)}{σ:L2.St}{H1:Hp}{s1:Shared}{fp:List Addr}{N:List Str}
theorem Jna(I:UL!)(hf:Xb! H1)(ho:Gf! (∃o,Ad! s1.heap.get?))(hk:Xf!)(KR:bT!)(has:∀x,(E7! eK! Aa!\/h7! eK!)->∃c,Va! cl.lookup):(Y_ X sc cl s1.heap.objs.size N s1 H1 fp AA).Ok where
 mod:=I.ok.mod
 kind:=hk
 glob:=I.ok.glob
 blt:=I.ok.blt
 above:=AC
 inj:=λx y c e1 e2=>I.ok.inj x y c (KR.look e1) (KR.look e2)
 has:=has
 hX:=λx c e _=>AL! e
 hd:=I.ok.hd
 frames:=I.ok.frames
 iV:=Ed!
 aq:=N? ⟨λz=>by
  obtain⟨o,e⟩:=DD! ho
  exact BV (A_ e) z,λx c e=>qI! (hf b hb).2.2.2.2.1 x⟩
 bs:=Ab! (I.bs b o e)
 cu:=AV I.ok.cu I.sz
 YE:=E1! (by
  rcases(hf b hb).2.2.2.1 with z|z
  .exact Br! I.ok.YE z
  .exact Ka! (BX (Wd! I.ok.cu) z))
 YH:=λb hb z=>by
  rcases ZM (I.YK b z) with q|q
  .exact(hf b hb).2.1 q
  .exact(hf b hb).2.2.1 q
 OA:=I.stack
 eO:=N? (DD! I.RL)
theorem Jnb{x:Str}{caps:Hj!}{h':Heap}{m:v?}{t':Nat}{o:Obj}(I:UL!)(ok:(Y_ X sc cl s1.heap.objs.size tM! s1 H1 fp AA).Ok)(KR:bT!)(bE:bQ!)(hx:uI! eK!)(hn:h'.Ns s1.heap.objs.size m)(hs:uH! s1.heap.objs.size (s1.heap.push o) h') : Inv (Y_ X sc cl s1.heap.objs.size tM! s1 H1 fp AA) [] (none::Ed σ caps) H1 { s1 with heap:=h',toks:=t' }:=by
 have kp:vU! (JA! s1.heap.get?):=λb u e=>(hs.2 b (BV (A_ e))).trans (ZT _ e);have QN:Hm! s1.heap.objs.size:=IC!;refine⟨ok,rfl,I.bare,Un.kept kp,⟨m,hn,λi y v e1 e2 e3=>?_⟩,λy c e=>?_,QN,λy c e=>qI! I.JG y,FV!,I.DK.kept kp,?_⟩;.cases i with | zero=>simp at e2 | succ j =>have jC:(x::Jf caps)[j+1]?=A! y:=e1;rw[List.getElem?_cons_succ] at jC;(have mn:(Ed σ caps)[j]?=A! Km!:=by simpa using e2);rw[ZH] at jC;unfold Ed at mn;rw[ZH] at mn;cases q:caps[j]? with | none=>rw[q] at jC;cases jC | some p =>rw[q] at jC mn;have e4:p.1=y:=ZO jC;have e5:CN! (σ[p.2]?).join:=ZO mn;have hc:=bE.at q;(have e6:σ[p.2]?=A! Km!:=by cases z:σ[p.2]? with | none=>rw[z] at e5;cases e5 | some w' =>rw[z] at e5;have:w'=A! v:=e5;rw[this]);obtain⟨mm,hnn,hl⟩:=I.loc;obtain⟨u,r,lk⟩:=hl p.2 p.1 v hc.n e6 (PS! hc.k);refine⟨u,r,wS (Sl! e4 hc.f) ?_⟩;rcases lk with⟨k1,_⟩|⟨_,c,gN,ce⟩;(.have:L? X.env.scope.names.lookup p.1 Qx!:=k1;rw[hc.k] at this;cases this);.obtain⟨oc,mK,hd⟩:=ce;exact⟨c,S? e4 (hc.l.trans gN),oc,E! kp mK,hd⟩
 .obtain⟨v,oc,mK,hd⟩:=qI! I.cell y;exact⟨v,oc,E! kp mK,hd⟩
 .have ju:p∈(Wg!)++[]:=hp;rw[AE] at ju;obtain⟨a1,a2,a3,a4,a5⟩:=I.pin p ju;refine⟨E! kp a1,a2,BV (A_ a1),AX!,a5⟩;rcases ZM (I.YK _ z) with q|q;(.exact a3 q);.exact a4 q
 .simp[Ed,Y_]
theorem Jkv{aL:v!}{EV:L2.St}{H':Hp}{s':Shared}(I:UL!)(hf:Xb! H1)(I':Inv (Y_ X sc cl s1.heap.objs.size N s1 H1 fp AA) aL EV H' s'):IR! :=I.cN (ch:=fp) I'.os I'.base I'.DK I'.bare (N? ⟨(hf b hb).2.2.2.1,(hf b hb).2.1,(hf b hb).2.2.2.2.1,(hf b hb).2.2.2.2.2⟩)
theorem Jdv{H':Hp}{s':Shared}{h':Heap}{QA:L2.St}{sA:Shared}(I:UL!)(I2:uJ! QA sA)(hn:FM H' s1.heap.objs.size)(hs:uH! s1.heap.objs.size sA.heap h'):uJ! QA { sA with heap:=h' } :=I2.turned (it:=s1.heap.objs.size) (t':=sA.toks) (CE! ((hs.2 b hb).trans e)) hn (FH I.lt) (TD I.sz) (λx c e z=>by obtain⟨v,q⟩:=bO!;exact HO! absurd q.lt z (DN _)) λp hp z=>f5! (A_ (I.pin p hp).1) z (Ka! this)
universe E
def pK(X:G!)(ifs:KB!)(t:TT):Prop :=
 ∀(AA:v!)(s:Shared)(σ:L2.St)(H:Hp)(Q:Jl!),XH! (t σ H Q ->
  jd! (forIn ifs true λc r=>if r=true then do let ok <-isTrue c X.env (WY! c);kV! ok else kV! r))
theorem Ff{X:G!}:pK X [] (wG!):=λAA s σ H Q I h=>wpAny_tests_nil ⟨H,I,h⟩
theorem Dq{X:G!}{c:Expr}{t:TT}(h:PT X c t):pK X [c] t:=λAA s σ H Q I hw=>wpAny_tests_one (h AA s σ H Q I hw)
def xm(wi:TI)(caps:Hj!)(tt:TT)(te:TE):TE:=s6! wi (λJ H1=>∀p,Hm! p->ur! (PK! H1 p []) (∀i m ys H2,Oh!->Fq! /\
 ((J.stop i H2/\BH! p H2)\/(J.go i H2/\∀x H3,J.ZQ i H2 x H3->tt (dd! (A! x)) H3 λb H4 =>
   if b=true then mf!
   else ∃m',m'<m/\W KE m' ys H4))))
universe S
variable {X:Cx Kx}{elt iter:Expr}{x:Str}{px pos:Pos}{ifs:List Expr}{sc:Scope}{cl:List (Str×Addr)}{caps:List (Str×Nat)}{wi:TI}{tt:TT}{te:TE}
theorem Vt{AA:v!}{σ:L2.St}{H:Hp}{s:Shared}{Q:VK}{use:Option (Value->Sem Unit)}{RQ:V?}(hc:BB!)(hi:PI X (Ez! x px) iter wi)(aN:closureFor sc X.env=pure cl)(QO:gK! Aa!)(PU:Xf!)(UZ:∀y∈sc.names,y.2=Qx!->m7! sc.names.lookup)(hx:S7!)(KR:bT!)(has:∀y,(SO! Aa!\/SO! Jt!)->∃c,v3! c)(bE:bQ!)(hN:(x::Jf caps).Nodup)(ht:Uu! pK ifs tt)(he:Uu! PE elt te)(I:K!)(h:xm wi caps tt te σ H Q)(fin:∀(C D:Addr) (H':Hp) (s1 s':Shared) (H1:Hp),C=s1.heap.objs.size->UL!->IR!->FM H' C->(∃m,s'.heap.Ns C m)->Gs! D->compPost bv! X.A X.xe use RQ KE! C (.ok .next) s')(hs:∀v,foldedSetIterable iter X.env v=pure v) : dZ! (comprehension cO! sc X.env (firstIterPos wa! pos) (newList []) false (WY! iter) use) RQ:=by
 refine wpAny_comprehension_free rfl hs aN PU UZ (PO! hi (λv s1 h1=>EM h1 λvE s2 h2=>?_));obtain⟨it,fp,tn,J,H2,e,I2,T,gA,f2,hW⟩:=h2;subst e;refine CZ ?_;have lU:FM H2 s2.heap.objs.size:=ZC!;have I3:xz (vj! s2.heap.objs.size) { s2 with heap:=s2.heap.push oY! }:=I2.qA (t':=s2.toks) (its:=[]) L! (BK _);obtain⟨W,⟨m0,w0⟩,turn⟩:=hW s2.heap.objs.size lU;have fpn:Gf! (b≠s2.heap.objs.size):=λb hb z=>by obtain⟨o,e,_⟩:=T.obj 0 _ gA b hb;exact ME! A_ e (q! z (DN _))
 have f3:Xb! (vj! s2.heap.objs.size):=N? ⟨Gd! (Ad (fpn b hb)) (Po! f2),(f2 b hb).2⟩;have lq:tn 0 (s2.heap.push oY!):=T.keep 0 _ _ gA λb hb o e=>G5!;obtain⟨D,hD⟩:∃D,D=s2.heap.objs.size:=z?;obtain⟨H3,hH3⟩:∃H3,H3=ZF! H2 s2.heap.objs.size:=z?;obtain⟨s3,vV⟩:∃s3:Shared,s3={ s2 with heap:=s2.heap.push oY! }:=z?;have pX:tn 0 s3.heap:=H! vV lq
 rw[<-hH3] at I3 f3 w0;rw[<-vV] at I3;rw[<-hD] at turn;show wpAny _ _ _ _ _ ({ s2 with heap:=s2.heap.push oY! }:Shared);rw[<-vV,<-hD];refine wpAny_newFunctionEnv QO (by intro y hy;simp at hy) (λh1 oZ gq=>?_) PU;have ok:=Jna (N:=x::Jf caps) I3 f3 (Ct! (let⟨o,e,_⟩:=T.obj 0 _ pX b hb;Dd! e)) PU KR has;have vM:uI! eK!:=lookup_relabel_local hx;have J4:=Jnb (t':=s3.toks+([]:Hi!).length) I3 ok KR bE vM oZ gq;have st4:tn 0 h1:=T.keep 0 _ _ pX λb hb o e=>(gq.2 b (BV (A_ e))).trans (ZT _ e);have a9:∀{H':Hp},(RL!)->Gf! (Ub cs! [] H' b):=λhn b hb=>by refine⟨DD! hn,?_,λz=>ok.YH b hb z,Vn!,λy c e=>qI! (f3 b hb).2.2.2.2.1 y,FV!⟩;(.exact Po! ok.aq);.have ju:p∈(Wg!)++[]:=hp;rw[AE] at ju;exact(f3 b hb).2.2.2.2.2 p ju
 have loop:∀s4:Shared,s4={ s3 with heap:=h1,toks:=s3.toks+([]:Hi!).length } -> codeAny bv! X.A (.compLoop cO! 0 FO! KE! (compEnvC sc cl s3.heap.objs.size X.env)) (compPost bv! X.A X.xe use RQ KE! s3.heap.objs.size) s4:=by rintro s4 rfl;refine Jfa (λk s'=>∃i v0 ys H',Inv cs! [] (v0::Ed σ caps) H' s'/\tn i s'.heap/\(RL!)/\W i k ys H') ?_ m0 ⟨0,none,[],H3,J4,st4,uv! f3,w0⟩;rintro k s5 ⟨i,v0,ys,H5,I5,iW,dZ,w5⟩;obtain⟨hD5,stop|⟨go,step⟩⟩:=turn i k ys H5 w5;(.obtain⟨stop,q⟩:=stop;refine DY! (T.done cs! rfl rfl hc i [] s5 _ H5 uf! I5 (a9 dZ) iW stop);rintro r s6 ⟨hr,I6⟩;subst hr;obtain⟨mm,hnn,_⟩:=I6.loc;exact fin _ D H5 s3 s6 H3 rfl I3 (Jkv I3 f3 I6) I6.free ⟨mm,hnn⟩ q);.refine DY! (T.item cs! rfl rfl hc i [] s5 _ H5 uf! I5 (a9 dZ) iW go);rintro r s6 ⟨u,hr,h6⟩;subst hr;refine EM h6 ?_;rintro _ s7 ⟨y,H7,I7,r7,y7,uO,VM⟩;have I7':=I7.pinned (a9 VM) (X! T.obj uO);refine DY! (Bg (X:=Y_ X sc cl s3.heap.objs.size tM! s3 H3 fp AA) (i:=0) hN rfl (AD! vM) (TD vM) _ s7 (v0::Ed σ caps) H7 y u (λEV H'=>EV=dd! (A! y)/\H'=H7) I7' r7 BP!);rintro _ s8 ⟨σ8,H8,I8,e8,e8'⟩;subst e8;subst e8';(have back:∀{σ9:L2.St} {H9:Hp} {s9:Shared},Inv cs! ([]++Rk fp s7.heap) σ9 H9 s9->tn (i+1) s9.heap/\Gf! (Ay! H9):=λ{σ9 H9 s9} I9=>by refine⟨T.keep _ _ _ uO λb hb o e=>(I9.pin (b,o) (ZC _ (ZC _ (Jp hb e)))).1,P6!⟩;obtain⟨o,e,d⟩:=T.obj _ _ uO b hb;exact(I9.pin (b,o) (ZC _ (ZC _ (Jp hb e)))).2.1);refine DY! (ht _ _ _ _ _ _ s8 _ _ _ I8 (step y _ y7));rintro ok s9 ⟨H9,I9,q9⟩;cases ok with | false =>simp only[CY,ER] at q9 ⊢;obtain⟨m',hm,w9⟩:=q9;exact⟨m',hm,i+1,A! y,ys,H9,I9.NP,(back I9).1,(back I9).2,w9⟩ | true =>simp only[HU] at q9 ⊢;refine DY! (he _ _ _ _ _ _ s9 _ _ _ I9 q9);rintro xv dq ⟨v,b_,I10,r10,zu,KH,m',hm,w10⟩;refine DY! (Gg (X:=Y_ X sc cl s3.heap.objs.size tM! s3 H3 fp AA) _ dq _ b_ KE! [v] KE! [xv] (λ_ H'=>H'=wP b_ D .BJ dh!) I10 rfl (Ny! r10) ⟨D,ys,v,rfl,rfl,zu,KH,rfl⟩);rintro _ jb ⟨_,kS,yP,_,mv⟩;subst mv;exact⟨m',hm,i+1,A! y,ys++[v],_,yP.NP,(back yP).1,(back yP).2,w10⟩
 exact codeAny_compStart_list (loop _ rfl) (T.self _ 0 _ _ _ st4 (loop _ rfl))
theorem Dm(hc:BB!)(hi:PI X (Ez! x px) iter wi)(aN:closureFor sc X.env=pure cl)(QO:gK! Aa!)(PU:Xf!)(UZ:∀y∈sc.names,y.2=Qx!->m7! sc.names.lookup)(hx:S7!)(KR:bT!)(has:∀y,(SO! Aa!\/SO! Jt!)->∃c,v3! c)(bE:bQ!)(hN:(x::Jf caps).Nodup)(ht:Uu! pK ifs tt)(he:Uu! PE elt te)(hs:∀v,foldedSetIterable iter X.env v=pure v:=by intro _;rfl):AO! (.ListComp elt wa! sc pos) (xm wi caps tt te):=by intro AA s σ H Q I h;rw[eval_ListComp];refine Vt (use:=none) hc hi aN QO PU UZ hx KR has bE hN ht he I h (?_) hs;rintro C D H' s1 s' H1 hC I1 I' hn ⟨m,hm⟩ q;subst hC;exact⟨m,hm,λh' mH=>Ve! D H' (Jdv (s':=s') I1 I' hn mH) q⟩
theorem Fx{i:Nat}{y:Str}{py pY:Pos}(j5:X.N.Nodup)(bf:X.N[i]?=A! y)(hy:L? X.env.scope.names.lookup y Qx!)(hsw:swapsWith cO! (nI! y py) pY.line X.env=pure true)(hc:BB!)(hi:PI X (Ez! x px) iter wi)(aN:closureFor sc X.env=pure cl)(QO:gK! Aa!)(PU:Xf!)(UZ:∀y∈sc.names,y.2=Qx!->m7! sc.names.lookup)(hx:S7!)(KR:bT!)(has:∀y,(SO! Aa!\/SO! Jt!)->∃c,v3! c)(bE:bQ!)(hN:(x::Jf caps).Nodup)(ht:Uu! pK ifs tt)(he:Uu! PE elt te)(hs:∀v,foldedSetIterable iter X.env v=pure v:=by intro _;rfl) :
 PS X (.Assign [Ez! y py] cO! pY) (Mk! (xm wi caps tt te σ H λv H'=>D.nx rN! H')):=by
 intro AA s σ H D I h
 rw[exec_Assign_Name_used _ _ _ _ hsw]
 refine d4! wpAny_standAt ?_
 show wpAny _ X.A (do let _ <-comprehension cO! sc X.env _ (newList []) false (WY! iter) (some (assign (Ez! y py) X.env))) _ _ s
 refine ZR (EZ (Vt (use:=A! (assign (Ez! y py) X.env)) (RQ:=λ_ s'=>SP X AA D .next s') hc hi aN QO PU UZ hx KR has bE hN ht he I h (λC Dd H' s1 s' H1 hC I1 I' hn ⟨m,hm⟩ q=>?_) hs) (λ_ s' hq=>ZS (ZS hq)) es!)
 subst hC
 show bW! (assign (Ez! y py) X.env (Y! Dd))
 refine wpAny_assign_Name (Ul I' j5 bf (AD! hy) (D4! (RelV (Y! Dd) (Y! Dd))) (λs2 I2 ⟨a,sH,ha⟩=>?_) (TD hy))
 have hCa:s1.heap.objs.size≠a:=by
  rcases ha with z|z
  .rw[z];exact FH I1.lt
  .intro z2
   obtain⟨v,qc⟩:=I1.cell y a z
   exact absurd qc.lt (S? z2 (DN _))
 exact⟨m,hm.sameBut sH hCa,λh' mH=>⟨_,H',Jdv (s':=s') I1 I2 hn mH,q⟩⟩
universe E
def OB(h:Heap)(d:Addr)(es:C9!)(ep:Nat):Prop:=∃o,Qh! h.get?/\o.ExactDict/\HW!
theorem OB.at(x:Vq! h)(k:∀o,Qh! h.get?->Qh! h'.get?):Vq! h':=let⟨o,e,r⟩:=x;Bq! (k o e) r
universe S
theorem Zo(rZ:Yg!)(hm:IO!)(hQ:YN! (gH! VC! .fields (ru! es.size))):vL! pyIter d:=by obtain⟨ob,g1,g2,g3⟩:=id hm;have tD:lx! (Y! d):=⟨ob,g1,g2.1⟩;refine wpAny_pyIter_slot tD F.slot_dict_iter (DG F.slot_dict_iter tD F.entry_dict_iter ?_ (F.args_dict_iter_1 _));unfold Builtin.«dict.__iter__»;refine KW!;unfold Builtin.Dict.dictSlotNone;refine N0! IU tD;show Vp! (pure (Value.ref d));refine ZS ?_;show ZZ! (Builtin.Dict.showsAll d);unfold Builtin.Dict.showsAll;rw[hr! rZ];refine aC!;refine OS! CK g1 g3 (FA g1 g3 ?_);refine So! CZ (IT! VC! jH! F.slot_dict_keyiterator_next.lookup (by simpa [rawInt] using hQ))
theorem Zn(hit:ky! es.size)(hm:IO!)(hx:es[i]?=A! e)(hQ:∀h',h'.IsKeyIter it d KE es.size ep->eT! it->Q (some e.key) Ix):p3!:=by
 obtain⟨oi,i1,i2,i3⟩:=id hit;obtain⟨ob,g1,g2,g3⟩:=id hm;have tI:=hit.typeIs;unfold pyNext;refine sL! tI IM (DG IM tI F.entry_dict_keyiterator_next ?_ (F.args_dict_keyiterator_next_1 _));refine kZ! ?_;first|refine lH!|refine lI!
 refine ZR (wpAny_fieldsOf i1 i3 ?_);have bL:r? (Builtin.Dict_items.ownsTuple VC!):=w?
 simp only[bL,CY,ER];show jn! fJ!;rw[nF!];refine aR! g1 g3;rw[C6!];refine k0! g1 g3;rw[C6!];refine ZS ?_;have lt:i<es.size:=(OH.mp hx).1;have ee:es[i]=e:=(OH.mp hx).2;simp only[Cf! nD! B!,ER,CQ,Array.getElem?_eq_getElem lt];refine KW!;first|refine lH!|refine lI!
 refine N0! wpAny_isOneOf_keyiter tI;show ZZ! (oq! 1 rawInt (l!+1));refine ZR (wpAny_setField i1 i3 Db ?_);have qE:(s.heap.update it (Obj.mapFields (·.setIfInBounds 1 (rawInt ((i:Int)+1))))).IsKeyIter it d KE es.size ep :=⟨_,GQ _ i1 (Obj.isFreed_of_fields (QI i3 _)),(Obj.cls_mapFields ..).trans i2,by rw[QI i3];simp[rawInt]⟩;refine NV! ?_;refine ZR (wpAny_isOneOf_keyiter (s:=Ou! (s.heap.update it (Obj.mapFields (·.setIfInBounds 1 (rawInt ((i:Int)+1)))))) qE.typeIs ?_);show bW! (pure es[i].key);rw[ee];exact ZS (ZS (KF (ZS (hQ _ qE HT!))))
theorem Jc4(hh:Ow!)(hit:ky! es.size)(hm:IO!)(hx:es.size<=i)(hQ:∀h',Heap.ExtBut it s.heap h'->Q none Ix):p3!:=by
 obtain⟨oi,i1,i2,i3⟩:=id hit;obtain⟨ob,g1,g2,g3⟩:=id hm;have tI:=hit.typeIs;unfold pyNext;refine sL! tI IM (DG IM tI F.entry_dict_keyiterator_next ?_ (F.args_dict_keyiterator_next_1 _));refine kZ! ?_;first|refine lH!|refine lI!
 refine ZR (wpAny_fieldsOf i1 i3 ?_);have bL:r? (Builtin.Dict_items.ownsTuple VC!):=w?
 simp only[bL,CY,ER];show jn! fJ!;rw[nF!];refine aR! g1 g3;rw[C6!];refine k0! g1 g3;rw[C6!];refine ZS ?_;simp only[Cf! nD! B!,ER,CQ,Array.getElem?_eq_none hx];refine KW!;first|refine lH!|refine lI!
 show ZZ! (setField FO! 0 l?);refine ZR (wpAny_setField i1 i3 Db ?_);show bW! (newExc (GX! O2!) [] >>= _);refine KW!;simp only[newExc,newTuple];refine ZR (CZ ?_ (c9!));refine ZR (m:=firstArgMember _ _) (wpAny_of_eq (a:=Value.none) (by first|rfl|(simp only[firstArgMember];rfl)) ?_);refine CZ ?_ (c9!);simp only[raiseNew];refine ZR (wpAny_handled ?_);rw[show A.in1.handled=none from hh];refine ZR (ZS (wpAny_throw ?_));refine ZR (wpAny_isInstance (T:=O2!) (b:=true) jH! isSubtype_stop ?_);exact ZS (hQ _ (((Heap.SameBut.update ..).extBut.push _).push _))
universe E
def tF(H:Hp)(kvs:wv)(as:M!):Prop:=C4! (λ(p:List Key×V)(a:Addr)=>mE! WL!) kvs as
universe S
theorem Jkd{kvs:wv}{xs:Ie!}(p:Ga!):tF H kvs (xs.map Gl!):=m8! Jld u?
theorem Yf(I:K!)(e:Jq! d .dT kvs):WI!/\Yg!/\∃(es:C9!)(ep:Nat)(as:M!),IO!/\es.size=kvs.length/\tF H kvs as/\∀j (h:hM!),∃a,as[j]?=A! a/\es[j].key=Os:=by
 obtain⟨z,lo,xs,rel,o,es,ep,g1,g2,g3,g4,g5⟩:=wT! (.dT kvs) (e.ok I.DK);have hl:es.size=xs.length:=dA! (Nv! g4)
 refine⟨z,lo,es,ep,XA! xs.map,⟨o,g1,g2,g3⟩,Gd! hl (Bx! Paired.length rel),Jkd rel,λj h=>?_⟩;have hj:U8!:=B!
 have e1:es.toList[j]?=A! (es[j]):=by simp[h]
 rw[g4,ZH] at e1;have e2:U7!=A! (xs[j]):=hQ!
 rw[e2] at e1;refine GM xs[j].2.1 (CS! e2);have e3:entryOfKey (tupleKind IW!) xs[j]=es[j]:=ZO e1;rw[<-e3];rfl
universe E
universe S
theorem Lv(I:K!)(hd:∃o,Cx! o)(nt:∀xs,H d≠FE! .BB xs)(no:∀y,H d≠FE! Cb! y)(nf:∀o v,X.UX d≠A! (.FQ o v))(ntb:∀ps,H d≠FE! .gX ps)(new:uU! (upd H d u) d u):p1! u:=by
 obtain⟨o,hd⟩:=hd;have fr:∀b,t?->Ay! (upd H d u):=λb n=>i! (λz=>by rw[z,hd] at n;cases n) n
 refine⟨I.ok,I.os,I.bare,⟨I.base.keep,I.base.slot,λb ob e n hx=>fr b (I.base.free b ob e n hx),I.base.there,λb xs e=>?_,λb ob v e=>?_,λb ps e=>?_⟩,I.loc,I.cell,fr _ I.free,λy c e=>fr _ (I.JG y c e),FV!,λb v e=>?_,I.len⟩;.have:=I.base.QU b xs e;rw[Ad λz=>nt xs (Vd! this)];exact this
 .have:=I.base.OV b ob v e;rw[Ad λz=>nf ob v (Vd! e)];exact this
 .obtain⟨more,q⟩:=I.base.QV b ps e;exact⟨more,i! (λz=>ntb _ (fs! q)) q⟩
 .obtain⟨a1,a2,a3⟩:=Z7!;exact⟨a1,fr _ a2,a3⟩
 .by_cases hb:b=d;(.subst hb;rw[Ab] at e;cases e;exact new);.rw[BT!] at e;refine(I.DK b v e).N_ (dB!) (f0!) f2!;(.rw[Ad λz=>no _ (fs! q)];exact q);.rw[Ad λz=>nt _ (fs! q)];exact q
theorem Jb7(I:K!)(e:kd!):∃o,kb!/\p1! Nt!:=by
 have ok:=I.DK d _ e;obtain⟨_,_,xs,_,o,es,ep,g,_⟩:=id ok;refine Bq! g (Lv I AH! (λxs z=>IK!) (λy z=>IK!) (λob v z=>f4! (I.base.OV d ob v z) e) (λps z=>IK!) (Ch g));refine ok.N_ (dB!) (f0!) f2!;.rw[Uq!];exact q
 .rw[Uq!];exact q
theorem Jaj(I:K!)(e:Cx! Dt!)(nf:∀o v,X.UX d≠A! (.FQ o v)):p1! u:=by
 obtain⟨g,ok⟩:=wT! Dt! (I.DK d _ e);refine Lv I AH! (λxs z=>IK!) (λy z=>IK!) nf (λps z=>IK!) ?_;refine ok.N_ (dB!) (f0!) f2!;.rw[Uq!];exact q
 .rw[Uq!];exact q
inductive Jpd(UX H H':Hp):Prop
 | mk d o u (_:Cx! Dt!) (_:(∀o v,UX d≠A! (.FQ o v))) (_:H'=upd H d u)
theorem PE.YB(h:AO! e t):AO! e (uT! (λv H1=>∃H2,Jpd X.UX H1 H2/\Q v H2)):=λAA s σ H Q I hw =>EM (o8!) λu s' ⟨v,H1,I1,r,H2,⟨d,o,w',e1,e2,e3⟩,q⟩=>⟨v,H2,H! e3 (Jaj I1 e1 e2),r,q⟩
theorem QE.YB(h:QE X GB t):QE X GB (Mk! (∃H2,Jpd X.UX H H2/\t D σ H2)):=λAA s σ H D I ⟨H2,⟨d,o,w',e1,e2,e3⟩,q⟩=>by subst e3;exact h AA s σ _ D (Jaj I e1 e2) q
universe E
def h_(d:Addr)(kvs:wv)(o:Obj):It :=
 UD! (λi H=>Cx! Nt!/\VE!) (∃a k v,A3!/\aP!/\mE! k.map) (λi H=>Cx! Nt!/\kvs.length<=i)
theorem Jd7{P:Program}{w:World}{K:W.Frag}{tg:Expr}(d it:Addr)(kvs:wv)(o:Obj)(es:C9!)(ep:Nat)(ho:o.ExactDict)(hd:HW!)(hz:es.size=kvs.length):U4! (S4! h_) (We! h.IsKeyIter es.size) where
 mem:=x!
 obj:=Q5! (by
  have e:b=it:=Bh!
  subst e
  obtain⟨oi,e,c,q⟩:=st
  exact⟨oi,e,Xc! q⟩)
 keep:=λi h h' ⟨oi,e,r⟩ k=>⟨oi,k it Db oi e,r⟩
 item:=by
  intro X hP hw hc i AA s σ H E I hf st ⟨hg,hi⟩
  subst hP hw
  obtain⟨f0,f1,f2,f3,f4,f5⟩:=Ex!
  have g:kb!:=(show DU X.prog X.w H s.heap d Nt! from I.DK d _ hg).1
  obtain⟨_,_,j',kC,as,⟨o',g',q1,q2⟩,z',ks,at_⟩:=Yf I (J? (Dd! hg))
  rw[g] at g';cases g'
  rw[hd] at q2
  injection q2 with q2 q3
  subst q2;subst q3
  have lt:i<es.size:=B!
  obtain⟨a,ha,hk⟩:=at_ i lt
  have hx:kvs[i]?=A! (kvs[i]):=VF!
  refine Zn st ⟨o,g,ho,hd⟩ (e:=es[i]) (by simp[lt]) λh' QQ sb=>?_
  have I1:KM!:=TV! bA!
  obtain⟨oi,e,c,q⟩:=id QQ
  refine KF (c5! q Os hk ⟨rfl,a,kvs[i].1,kvs[i].2,rfl,hx,Ax ks i kvs[i] a hx ha⟩ QQ)
 done:=by
  intro X hP hw hc i AA s σ H E I hf st ⟨hg,hi⟩
  subst hP hw
  obtain⟨f0,f1,f2,f3,f4,f5⟩:=Ex!
  have g:kb!:=(show DU X.prog X.w H s.heap d Nt! from I.DK d _ hg).1
  exact Jc4 (I.ok.hd hc) st ⟨o,g,ho,hd⟩ F! (RN! (TV! (eb b ob hb e)))
 self:=UE! wpAny_pyIter_keyiter
universe S
def Jox(td:TE):TI:=Xd! td (∃d kvs,XU!/\bv H1 d .dT kvs/\∀o,R (S4! h_) (upd H1 d Nt!))
theorem P3{l:Expr}{td:TE}(hl:AO! l td):ay! (Jox td):=by
 intro AA s σ H R I h;refine aq!;rintro v s1 ⟨x,H1,I1,r1,d,kvs,ex,hd,hR⟩;subst ex;cases r1;obtain⟨o,g,I2⟩:=Jb7 I1 hd;obtain⟨_,lo,es,ep,as,⟨o',g',q1,q2⟩,z,ks,at_⟩:=Yf I1 (Z! hd);rw[g] at g';cases g';refine Zo lo ⟨o,g,q1,q2⟩ ?_;have fresh:=ZC!;have I3:xz (upd H1 d Nt!) { s1 with heap:=Ss! s1.heap.push VC! (ru! es.size) }:=Zt! I2.kept (VG! G5!);refine cV! (h_ d kvs o) _ I3 (Jd7 d _ kvs o es ep q1 q2 z) Tu! (hR o);have e:Ww!:=Bh!
 subst e;exact I2.bG (ZG _) fresh
universe E
universe E FX
universe N FhS
open PySem PyProof.Rows PySem.W
def OC(cmp:Nat->Nat->AC! (h1!))(lt:jI!)(n:Nat)(s:Shared):Prop :=
 ∀i j,i<n->j<n->∀C:h1!,C (lt i j) s->cmp i j C s
structure qd(lt:jI!)(n:Nat):Prop where
 tr:∀i j k,i<n->j<n->k<n->lt i j=true->lt j k=true->lt i k=true
 tot:∀i j,i<n->j<n->i≠j->r? (lt i j)->lt j i=true
structure Pm(p:Ke!)(n:Nat):Prop where
 pm:ko! p.toList.Perm
theorem Pm.size(h:Ew!):p.size=n:=by have:=h.pm.length_eq;simpa using this
theorem Pm.lt(h:Ew!)(hi:i<n):p.getD i 0<n:=by
 have hs:=h.size;have bf:i<p.size:=B!
 have e:p.getD i 0=p[i]:=by simp[Array.getD,bf]
 rw[e];have:p[i]∈List.range n:=h.pm.mem_iff.mp (x!);exact BN.mp this
theorem Pm.inj(h:Ew!)(hi:i<n)(hj:j<n)(e:p.getD i 0=p.getD j 0):i=j:=by
 have hs:=h.size;have bf:i<p.size:=B!
 have gx:j<p.size:=B!
 have nd:p.toList.Nodup:=h.pm.nodup_iff.mpr List.nodup_range;have e1:p.getD i 0=p[i]:=by simp[Array.getD,bf]
 have e2:p.getD j 0=p[j]:=by simp[Array.getD,gx]
 rw[e1,e2] at e;have:=(FN (xs:=p.toList) (i:=i) (j:=j) (h₀:=by simpa using bf) (h₁:=by simpa using gx) nd).mp (EA!);exact this
theorem Pm.cS(h:Ew!)(hq:q.Perm p):Pm q n:=⟨(Array.perm_iff_toList_perm.mp hq).trans h.pm⟩
theorem Jgp(n:Nat):Pm (List.toArray (List.range n)) n:=⟨x!⟩
def Up(lt:jI!)(p:Ke!)(m:Nat):Prop:=∀i j,i<j->j<m->lt fD! (p.getD j 0)=true
def Dn(lt:jI!)(p:Ke!)(m:Nat):Prop:=∀i j,i<j->j<m->lB! (p.getD j 0)
universe S
variable (O:qd lt n)
include O
theorem other(h:Ew!)(hi:i<n)(hj:j<n)(bc:i≠j)(e:r? (lt fD! (p.getD j 0))):lB! (p.getD j 0) :=O.tot _ _ (h.lt hi) (h.lt hj) (λz=>bc (h.inj hi hj z)) e
theorem Up.snoc(h:Ew!)(h1:1<=a)(ha:a<n)(u:Ta! a)(e:lt mh! (p.getD a 0)=true):Up lt p (a+1):=by
 intro i j bc hj;by_cases og:j=a;.subst og;by_cases hi:i=j-1;(.rw[hi];exact e);.exact qN! Pm! (h.lt ha) (u i (j-1) F! (MN! (Vb! Nat.sub_lt E9!))) e
 .exact u i j bc F!
theorem Dn.snoc(h:Ew!)(h1:1<=a)(ha:a<n)(u:Dn lt p a)(e:lt (p.getD a 0) mh!=true):Dn lt p (a+1):=by
 intro i j bc hj;by_cases og:j=a;.subst og;by_cases hi:i=j-1;(.rw[hi];exact e);.exact qN! (h.lt ha) Pm! e (u i (j-1) F! (MN! (Vb! Nat.sub_lt E9!)))
 .exact u i j bc F!
theorem xr(K:Uz!)(h:Ew!):∀(f a:Nat)(G:AC! Nat),1<=a->a+f<=n->Ta! a -> (∀m,a<=m->m<=a+f->Ta! m->(m=a+f\/lt (p.getD m 0) (p.getD (m-1) 0)=true)->G m s)->(kas_asc p f a).kasWp cmp G s
 | 0,a,G,_,_,u,k=>k a ci ci u Cr!
 | f+1,a,G,h1,hn,u,k=>by unfold kas_asc;refine ci! Pm!;cases e:lt (p.getD a 0) mh! with | true =>simp only[HU];exact k a ci (MN! (E' _ _)) u (TD e) | false =>simp only[CY,ER];exact xr K h f (a+1) G (Zf! GK) F! (Up.snoc O h h1 F! u (other O h F! F! F! e)) λm a1 a2 a3 a4=>k m (Zf! DH) F! a3 (a4.imp (λz=>B!) Qw!)
theorem Jdq(K:Uz!)(h:Ew!):∀(f a:Nat)(G:AC! (Ke!×Nat×Nat)),1<=a->a+f<=n->Dn lt p a -> (∀m,a<=m->m<=a+f->Dn lt p m->G (p,m,0) s)->(kas_desc f p a 0).kasWp cmp G s
 | 0,a,G,_,_,u,k=>k a ci ci u
 | f+1,a,G,h1,hn,u,k=>by unfold kas_desc;refine ci! Pm!;cases e:lt (p.getD a 0) mh! with | true =>simp only[HU,DN,gt_iff_lt,ER];exact Jdq K h f (a+1) G (Zf! GK) F! (Dn.snoc O h h1 F! u e) λm a1 a2 a3=>k m (J1! DH) F! a3 | false =>simp only[CY,ER];refine ci! Pm!;simp only[other O h F! F! F! e,HU];exact k a ci (by exact E' _ _) u
omit O in
theorem P8{p q:Array Nat}{i j:Nat}(e:p[i]?=q[j]?):p.getD i 0=q.getD j 0:=by
 rw[Array.getD_eq_getD_getElem?,Array.getD_eq_getD_getElem?,e]
omit O in
theorem Jl7{p:Array Nat}{m:Nat}(hm:m<=p.size)(d:Dn lt p m):Up lt (kas_rev p 0 m) m:=by
 intro i j bc hj
 have g:∀k,k<m->(kas_rev p 0 m).getD k 0=p.getD (m-1-k) 0:=λk hk=>by
  refine P8 ?_
  unfold kas_rev
  rw[getElem?_mirror_all hm,AF ⟨BK _,hk⟩]
  congr 1;lia
 rw[g i (by lia),g j hj]
 exact d _ _ (by lia) (by lia)
theorem Jie(K:Uz!)(hn:1<=n)(h:Ew!)(G:AC! (Nat×Ke!))(k:∀m q,1<=m->m<=n->Pm q n->Up lt q m->G (m,q) s):(kas_count n p).kasWp cmp G s:=by
 unfold kas_count;rw[PZ];have up1:Ta! 1:=λi j h1 h2=>B!
 refine xr O K h (n-1) 1 _ ci F! up1 λa a1 a2 a3 a4=>?_;by_cases ha:AT! (a==n);.rw[AF ha];exact k a p a1 F! h a3
 .rw[AB ha];(have v3:a≠n:=by simpa using ha);by_cases h1:a > 1;(.rw[AF h1];refine ci! (h.lt (hz!));simp only[a3 0 (a-1) F! (MN! (Vb! Nat.sub_lt E9!)),HU];exact k a p a1 F! h a3);.rw[AB h1];(have e1:a=1:=B!);subst e1;unfold kas_descPart;rw[PZ];have e2:lt (p.getD 1 0) (p.getD 0 0)=true:=a4.elim (λz=>B!) Qw!;(have d2:Dn lt p (1+1):=by intro i j bc hj;(have e3:i=0:=B!);(have e4:j=1:=B!);rw[e3,e4];exact e2);refine Jdq O K h (n-(1+1)) (1+1) _ (MN! (EW _)) F! d2 λm q2 q3 q4=>?_;simp only[gt_iff_lt,DN,ER];unfold kas_tail3;rw[PZ];have hr:Pm (kas_rev p 0 m) n:=h.cS (o! mirror_perm _ _);refine xr O K hr (n-m) m _ (Zf! DH) F! (Jl7 (Gh! h.size) q4) λb b1 b2 b3 _=>?_;exact k b _ F! F! hr b3
theorem Rj(K:Uz!)(h:Ew!)(hk:k<n)(u:Ta! k):∀(f l r:Nat)(G:AC! Nat),l<=r->r<=k->r-l<=f->(∀i,i<l->lt fD! (p.getD k 0)=true)->(∀i,r<=i->i<k->lB! (p.getD k 0)) -> (∀m,m<=k->(∀i,i<m->lt fD! (p.getD k 0)=true)->(∀i,m<=i->i<k->lB! (p.getD k 0))->G m s)->(kas_place p k f l r).kasWp cmp G s
 | 0,l,r,G,h1,h2,h3,lo,hi,g=>g l (by exact pJ!) lo λi a b=>hi i F! b
 | f+1,l,r,G,h1,h2,h3,lo,hi,g=>by unfold kas_place;by_cases q:l ≥ r;(.rw[AF q];exact g l (by exact pJ!) lo λi a b=>hi i (by exact pJ!) b);.rw[AB q];refine ci! (h.lt hk);cases e:lt (p.getD k 0) (p.getD (ZQ!) 0) with | true =>simp only[HU];refine Rj K h hk u f l (ZQ!) G F! F! F! lo (λi a b=>?_) g;by_cases z:i=ZQ!;(.rw[z];exact e);.exact qN! (h.lt hk) Pm! e (u _ _ F! b) | false =>simp only[CY,ER];have e':=other O h hk F! F! e;refine Rj K h hk u f (ZQ!+1) r G F! h2 F! (λi a=>?_) hi g;by_cases z:i=ZQ!;(.rw[z];exact e');.exact qN! Pm! (h.lt hk) (u _ _ F! F!) e'
omit O in
theorem Jm9{p:Array Nat}(h:Pm p n){k l:Nat}(hk:k<n)(hl:l<=k)(u:Up lt p k)(lo:∀i,i<l->lt (p.getD i 0) (p.getD k 0)=true)(hi:∀i,l<=i->i<k->lt (p.getD k 0) (p.getD i 0)=true) :
 Up lt (bubble p k (k-l)) (k+1):=by
 have g:∀j,j<k+1->(bubble p k (k-l)).getD j 0=if j=l then p.getD k 0 else if l<j then p.getD (j-1) 0 else p.getD j 0:=λj hj=>by
  have e:=getElem?_bubble (xs:=p) (src:=k) (by rw[h.size];exact hk) (k-l) (by lia) j
  rw[show k-(k-l)=l by lia] at e
  by_cases c1:j=l
  .rw[AF c1] at e ⊢;exact P8 e
  .rw[AB c1] at e ⊢
   by_cases c2:l<j
   .rw[AF ⟨c2,by exact PK ‹_›⟩] at e;rw[AF c2];exact P8 e
   .rw[AB (by lia)] at e;rw[AB c2];exact P8 e
 intro i j bc hj
 rw[g i (by lia),g j hj]
 repeat' split
 all_goals first
  | (exfalso;lia)
  | exact lo _ (by lia)
  | exact hi _ (by lia) (by lia)
  | exact u _ _ (by lia) (by lia)
theorem Jif(K:Uz!):∀(f:Nat)(p:Ke!)(k:Nat)(G:AC! Ke!),Ew!->k+f=n->Ta! k->(∀q,Pm q n->Up lt q n->G q s)->(kas_bin f p k).kasWp cmp G s
 | 0,p,k,G,h,hk,u,g=>by (have e:k=n:=hz!);subst e;exact g p h u
 | f+1,p,k,G,h,hk,u,g=>by unfold kas_bin;rw[PZ];exact Rj O K h (k:=k) F! u k 0 k _ (BK _) ci (MN! AC) (λi a=>by contradiction) (λi a b=>by exact KN! E9! Nat.not_lt_of_le E9!) λm c1 c2 c3 =>Jif K f _ (k+1) G (h.cS (X! bubble_perm _)) F! (Jm9 h F! c1 u c2 c3) g
theorem iQ(K:Uz!)(hn:1<=n)(G:AC! Ke!)(g:∀q,Pm q n->Up lt q n->G q s):(kas_sort n).kasWp cmp G s:=by
 unfold kas_sort;rw[PZ];refine Jie O K hn (Jgp n) _ λm q h1 h2 h3 h4=>?_;by_cases c:m<n;.rw[IN];(have e2:max m 1=m:=B!);show(kas_bin (n-max m 1) q (max m 1)).kasWp cmp G s;rw[e2];exact Jif O K _ q m G h3 F! h4 g
 .rw[NE];(have e2:m=n:=B!);subst e2;exact g q h3 h4
universe E
universe E FhS
universe N FX
open PySem PySem.Spec PyProof.Rows L2
universe S
theorem Jei(hh:Ow!)(I d:Addr)(gw:d≠I)(es:C9!)(ep:Nat):Walks prog w A I [I,d] [I] es.size (qy!) (λi h=>h.IsKeyIter I d i es.size ep/\Vq! h) where
 sub:=N? (by simp at hb;simp[hb])
 frame:=λ_ _ _ st hk=>⟨let⟨o,e,r⟩:=st.1;Bq! (ku! hk I) r,st.2.at λo e=>ku! hk d⟩
 item:=λi s0 Q E0 hi st hQ=>Zn st.1 st.2 (e:=es[i]) (VF!) λh' it' sb =>
  hQ _ h' s0.toks (C1! (es[i]) VF!) ⟨it',st.2.at λo e=>(sb.2 d gw).trans e⟩ (CE! ((sb.2 b (X? hb (by simp[z]))).trans e))
 done:=λs0 Q E0 st hQ=>Jc4 hh st.1 st.2 ci λh' eb=>hQ h' s0.toks (kn! (kN! hb))
 self:=λ_ _ _ _ st hQ=>wpAny_pyIter_keyiter st.1 hQ
theorem Wz(lo:Yg!):W.KdlSrc prog w Is! d d es.size (qy!) (λh=>Vq! h) where
 type:=λ_ ⟨o,e,x,_⟩=>Fo! x.1
 there:=λ_ ⟨o,e,_⟩=>⟨B1!,B1!⟩
 keep:=λ_ _ hm hk=>hm.at λo e=>hk d Cr! o e
 notList:=w?
 notTuple:=w?
 hint:=λ_ _ _ _ ⟨o,e,x,_⟩ hq=>W.kdl_hint_dict (Fo! x.1) hq
 iter:=λ_ s0 hh hm=>A1! _ (λ_ _ hq=>Zo lo hm hq) (Jei hh _ d (let⟨o,e,_⟩:=hm;BV (A_ e)) es ep) ⟨Tu!,hm.at λo e=>G5!⟩
universe E
theorem Nz:∀as:M!,Vals (as.map V.ref) s7!
 | []=>L!
 | _::as=>K? rfl (Nz as)
theorem Ja3{es:C9!}{acc:Dg!}{as:M!}(ha:ItemsOf (qy!) acc es.size)(mL:as.length=es.size)(at_:∀j (h:hM!),∃a,as[j]?=A! a/\es[j].key=Os):iQ! a6!:=by
 refine qS!;by_cases hj:hM!;·(have h1:j<acc.size:=H! ha.1 hj);obtain⟨e2,e3,e4⟩:=ha.2 j acc[j] (iW!);obtain⟨a,e5,e6⟩:=at_ j hj;(have e7:e2=es[j]:=by (have:es[j]?=A! (es[j]):=hQ!);rw[this] at e3;exact Bx! ZO e3);rw[ZH,e5];(have:acc.toList[j]?=A! (acc[j]):=iW!);rw[this,e4,e7,e6];rfl
 ·(have h1:acc.toList.length<=j:=ga CM ha.1 Se!);(have h2:nG!<=j:=Hb!);rw[DP h1,DP h2]
universe S
variable {X:Cx Kx}
inductive Pu(xs:C!)(H:Hp)(Q:VK):Prop
 | mk d kvs (_:j0!) (_:Jq! d .dT kvs) (_:∀l as,Jh!->tF H kvs as->BH! l (Ly! H l as.map))
theorem Tl(hc:BB!):Zp! SB Pu:=by intro AA s σ H xs us Q I r h;obtain⟨d,kvs,rfl,hd,q⟩:=h;obtain⟨u,rfl,rx⟩:=GH!;cases rx;obtain⟨z,lo,es,ep,as,raw,hz,ks,at_⟩:=Yf I hd;refine W.kdl_call (Wz lo (es:=es) (ep:=ep)) GW! raw (q! hz z) λh' tk acc c kp e ha=>?_;have hn:KL!:=IC!;have mL:as.length=kvs.length:=Bx! Paired.length ks;have e1:iQ! a6!:=Ja3 ha F! at_;refine uW! (ra! tk (aX! as.map) ⟨Hb!,acc.toList,c,?_,EA!⟩) (q _ as hn ks);rw[e1];exact Nz as
universe E
theorem P6:∀xs:j!,r? (HT.lexLt xs xs)
 | []=>rfl
 | x::xs=>ga HT.GZ e? (P6 xs)
theorem Xw:∀{xs ys zs:j!},NR! xs ys->NR! ys zs->NR! xs zs
 | [],[],_,h,_=>Dn!
 | [],_::_,[],_,h=>Dn!
 | [],_::_,_::_,_,_=>rfl
 | _::_,[],_,h,_=>Dn!
 | _::_,_::_,[],_,h=>Dn!
 | x::xs,y::ys,z::zs,h1,h2=>by rw[HT.GZ] at h1 h2 ⊢;by_cases e1:x=y;(.rw[AF e1] at h1;by_cases e2:y=z;(.rw[AF e2] at h2;rw[AF (e1.trans e2)];exact Xw h1 h2);.rw[AB e2] at h2;rw[AB (XQ! e2),e1];exact h2);.rw[AB e1] at h1;have h1:=BU h1;by_cases e2:y=z;(.rw[AB (S? e2 e1),<-e2];exact EM! h1);.rw[AB e2] at h2;have h2:=BU h2;rw[Ei!];exact h3!
theorem Xx:∀{xs ys:j!},xs≠ys->r? (HT.lexLt xs ys)->NR! ys xs
 | [],[],h,_=>ap!
 | [],_::_,_,h=>Dn!
 | _::_,[],_,_=>rfl
 | x::xs,y::ys,gw,h=>by rw[HT.GZ] at h ⊢;by_cases e:x=y;(.rw[sw] at h;rw[AF e.symm];exact Xx (X? gw (z! e z)) h);.rw[XV] at h;have h:=of_decide_eq_false h;rw[AB (Ne.symm e)];exact h3!
theorem Lo{α:Type}{lt:AN! α α}(irr:∀a,¬lt a a)(qa:∀a b,lt a b->¬lt b a):∀{YF l₂:U!},YF.Perm l₂->YF.Pairwise lt->l₂.Pairwise lt->YF=l₂
 | [],l₂,p,_,_=>(List.Perm.nil_eq p)
 | a::YF,[],p,_,_=>by have:=p.length_eq;simp at this
 | a::YF,b::l₂,p,h1,h2=>by have mU:=DT.mp h1;have dW:=DT.mp h2;(have e:a=b:=by have ha:a∈b::l₂:=p.mem_iff.mp (Ai!);have hb:b∈a::YF:=p.mem_iff.mpr (Ai!);rcases ZM ha with e|ha;(.exact e);.rcases Fm! with e|hb;(.exact e.symm);.exact BK! (dW.1 a ha) (X! qa (mU.1 b hb)));subst e;rw[Lo irr qa (List.Perm.cons_inv p) mU.2 dW.2]
universe S
theorem U1(ho:K3! s.heap.get? vs.toArray n)(cg:vs.length<64)(O:FhS.qd lt vs.length)(K:2<=vs.length->∀h',(lF!)->∀Q:AC! SortKind,(∀κ,FhS.OC (W.kas_ask prog w A κ vs) lt vs.length Ix->Q κ Ix)->aN! (keyKind' vs.toArray) Ix)(h:∀q:C2!,aK! vs.length->bs! (lt i j)->∀h' c,(lF!)->K3! h'.get? (b9! vs.getD) c->P ng! Ix) :
 UQ! (Builtin.«list.sort» Nh!) P:=by
 rw[list_sort_plain]
 have al:a<s.heap.objs.size:=A_ ho
 have small:∀{k:Nat},k<=63->k<=sizeLine:=λhk=>H! DR (GO! E9!)
 refine OS! listItems_at ho rfl (listUpdate_at ho rfl ?_ (q! AZ (small (J1! PK))) (BK _))
 obtain⟨e1,g1⟩:∃e1,K3! (s.heap.update a (Obj.mapSeq λ_=>(#[]:Dg!))).get? (#[]) e1:=D? (LW ho λ_=>#[])
 refine OS! seqEpoch_at g1 rfl (wpAny_newTuple (ZR (wpAny_newList (EY ?_) (BK _))) (by show vs.length<=_;exact small (J1! PK)))
 have g2:K3! (rs! (seqObj SB #[] 0)).get? (#[]) e1:=ZT _ (ZT _ g1)
 have kp:xL (b≠a->DS!->Ad! (rs! (seqObj SB #[] 0)).get?):=λb o hb e =>
  ZT _ (ZT _ (l5! e))
 show eg! _ P (Ou! (rs! (seqObj SB #[] 0)))
 generalize rs! (seqObj SB #[] 0)=hh at g2 kp
 dsimp only
 have fin:∀(st:SortSt)(q:C2!),(arrOf st).map db=b9! vs.getD->FM failedOf st->aK! vs.length->bs! (lt i j) ->
  eg! (do
   let touched:=(<-seqEpoch a) != e1
   Builtin.List.listUpdate T0 λ_=>(arrOf st).map db
   if let A! e:=failedOf st then rule "list.sort.comparison-raised";throw e
   if touched then rule "list.sort.modified";raiseError "ValueError" "list modified during sort"
   ret l?) P jC!:=λst q ea ef qp qo=>by
  have hl:q.length=vs.length:=z! qp.length_eq BW
  refine ZR (seqEpoch_at g2 rfl ?_)
  rw[ea]
  refine ZR (listUpdate_at g2 rfl ?_ (BK _) (by show(q.map λi=>vs.getD i Value.none).toArray.size<=sizeLine+1;rw[AZ,ZA,hl];exact GK (small (J1! PK))))
  rw[ef]
  simp only[bne_self_eq_false,CY,ER]
  refine ZS (h q qp qo _ _ (CE! ((DO _ _ (VR! hb)).trans (kp b o hb e))) (LW g2 _))
 by_cases h2:vs.toArray.size<2
 .rw[AF h2,AF h2]
  refine aC!
  rw[StateT.run_pure]
  refine aC!
  have dW:vs.length<2:=W8!
  refine fin (SortSt.mk' general' (vs.toArray.zip vs.toArray) #[] 7 none) (List.range vs.length) ?_ rfl (List.Perm.refl _) ?_
  .show(vs.toArray.zip vs.toArray).map db=_
   match vs,dW with
   | [],_=>simp
   | [v],_=>simp
  .match vs,dW with
   | [],_=>exact List.Pairwise.nil
   | [v],_=>exact List.pairwise_singleton _ _
 .rw[AB h2,AB h2]
  have dW:2<=vs.length:=W8!
  refine ZR (K dW hh kp _ λκ ask=>?_)
  refine ZR (EZ (W.kat_run (E:=E) (vs:=vs) (ks:=vs) (κ:=κ) (s:=jC!) (Q:=λQQ s'=>s'=jC!/\∃q:C2!,(arrOf QQ).map db=b9! vs.getD/\FM failedOf QQ/\aK! vs.length/\bs! (lt i j))
   (G:=λp s'=>s'=jC!/\FhS.Pm p vs.length/\FhS.Up lt p vs.length) rfl dW cg (λp QQ s' hp ha hf ⟨e,pm,up⟩=>?_) (FhS.iQ O ask (Zf! DH) _ λq pm up=>BO! pm up)) (λr s' hr=>?_) es!)
  .refine⟨e,p.toList,W.kat_snds rfl ha,hf,pm.pm,?_⟩
   rw[List.pairwise_iff_getElem]
   intro i j hi hj bc
   have hs:=pm.size
   have:=up i j bc (by rw[<-hs];simpa using hj)
   have gi:p.getD i 0=p.toList[i]:=by simp[Array.getD,show i<p.size by simpa using hi]
   have gj:p.getD j 0=p.toList[j]:=by simp[Array.getD,show j<p.size by simpa using hj]
   rw[gi,gj] at this
   exact this
  .obtain⟨u,QQ⟩:=r
   obtain⟨e,q,q1,q2,q3,q4⟩:=hr
   dsimp only at e q1 q2 ⊢
   subst e
   exact fin QQ q q1 q2 q3 q4
universe E
universe S
theorem Jhp{us ws:g!}{ns ms:j!}(i:Nat)(s:Shared)(p:P4! us)(q:PZ! ws ms)(hf:fin=w! (ns.length<ms.length))(h:Q (HT.lexLt ns ms) s):W.KatLex prog w A b fin Q (us.zip ws) i s:=by induction p generalizing ws ms i with | nil =>rw[List.zip_nil_left];refine W.kat_nil ?_;rw[hf];cases q<;>exact h | cons n t r ih =>cases q with | nil=>rw[List.zip_nil_right];refine W.kat_nil ?_;rw[hf];exact h | cons m u q =>rw[List.zip_cons_cons];refine W.kat_cons (wpAny_eqBool_int (W.kat_go (λe=>W.kat_yes ?_) λe=>W.kat_no ?_));(·(have e:n=m:=EA!);rw[HT.GZ,sw] at h;exact ih KE q (DL! hf) h);·(have e:n≠m:=EA!);rw[HT.GZ,XV] at h;cases hb:(b&&i==0) with | true=>exact oneLt_int h | false=>exact E! W.kat_one (lt_int h)
def K'(h:Heap):hZ! (Bl! (List Int)):=Mh! (λa ns=>ns≠[]/\∃its,nM! a/\P4! its.toList)
theorem Yt{as:M!}{VD:Bl! (List Int)}(p:K' h as VD):∃fs:g!,W.KatTups h s7! fs/\fs.length=as.length/\∀v∈fs,∃n t,v=Value.int n t:=by induction p with | nil=>exact Au! [] trivial (λv hv=>by simp at hv) | cons r t ih =>obtain⟨fs,a1,a2,a3⟩:=ih;obtain⟨gw,its,⟨o,ho,hc,n,hd⟩,hi⟩:=r;cases hL:its.toList with | nil=>rw[hL] at hi;cases hi;exact Fh! gw | cons f fr =>rw[hL] at hi;cases hi with | cons n0 t0 hr =>refine⟨Value.int n0 t0::fs,W.KatTups.cons ho hc hd ?_ a1,by simp[a2],RP!⟩;(·(have:its[0]?=its.toList[0]?:=x!);rw[this,hL];rfl);.rcases ZM hv with rfl|hv;(.exact EP! _);.exact a3 v hv
theorem K'.keep(k:wC! De! (∃ts n,o.data=Ne! ts/\XX!))(t:K' h as VD):K' h' as VD :=An (λa ns ⟨h1,its,⟨o,ho,hc,n,hd⟩,hi⟩=>⟨h1,its,⟨o,k a o ho ⟨_,_,hd,hc⟩,hc,n,hd⟩,hi⟩) t
theorem Jd8(hκ:∃b,κ=tuples' b)(t:K' s.heap as VD) : FhS.OC (W.kas_ask prog w A κ s7!) (λi j=>co! VD.getD VD.getD) nG! s:=by
 obtain⟨b,rfl⟩:=hκ;intro i j hi hj C hC;rw[ZA] at hi hj;have get:∀k,k<as.length->∃a ns its,RR! k l?=Os/\VD.getD k []=ns/\IsTup s.heap a its/\P4! its.toList:=λk hk=>by have hl:=y! t;(have h1:as[k]?=A! (as[k]):=by simp[hk]);(have h2:VD[k]?=some (VD[k]' F!):=RQ! (k<VD.length));obtain⟨_,its,q1,q2⟩:=Ax t k _ _ h1 h2;exact⟨as[k],_,its,by simp[hk],RQ! (k<VD.length),q1,q2⟩
 obtain⟨a,ns,its,e1,e2,⟨o,ho,hc,n,hd⟩,gL⟩:=get i hi;obtain⟨a',jh,its',jC,mn,⟨o',gu,vt,n',RG⟩,qG⟩:=get j hj;unfold W.kas_ask;rw[e1,jC];refine W.kat_lt ho hd gu RG (Jhp 0 s gL qG ?_ (by dsimp only at hC;rw[e2,mn] at hC;exact hC));have l1:=gL.length;have l2:=qG.length;simp only[CM] at l1 l2;rw[l1,l2]
theorem Jb2(ho:K3! s.heap.get? Je! n)(cg:as.length<64)(t:K' s.heap as VD)(nd:VD.Nodup)(h:∀q:C2!,aK! as.length->bs! (co! VD.getD VD.getD)->∀h' c,(lF!)->K3! h'.get? (b9! RR!) c->P ng! Ix) : UQ! (Builtin.«list.sort» Nh!) P:=by
 have hl:=y! t;have jv:nG!=as.length:=ZA ..;refine U1 (lt:=λi j=>co! VD.getD VD.getD) ho (hj! cg) ⟨λi j k _ _ _=>Xw,λi j hi hj bc e=>Xx (λz=>bc ?_) e⟩ (λh2 h' kp Q hQ=>?_) (hj! h);·(have bf:i<VD.length:=B!);(have gx:j<VD.length:=B!);(have e1:VD[i]=VD[j]:=by simpa [bf,gx] using z);exact(FN nd).mp e1
 .have t':K' h' as VD:=t.keep λb o e ⟨ts,k,q,qc⟩=>kp b o (λz=>by rw[z,ho] at e;cases e;have qc:Value.type SB=Value.type AJ!:=qc;injection qc with qc;exact jK! qc) e;obtain⟨fs,f1,f2,f3⟩:=Yt t';refine W.kat_kind (s:=Ix) (T:=EF! "int") f1 (by rw[f2];rw[jv] at h2;exact DH E9!) (RP!) rfl (hQ _ (Jd8 z? t'));obtain⟨m,tk,rfl⟩:=f3 v hv;exact W.Looks.of_pure rfl
universe E
theorem Rc(g:Fi!)(f:α->Addr)(h:∀x,g x=V.ref (f x)):∀as:U!,Vals (as.map g) (Gu! as.map f Value.ref)
 | []=>L!
 | a::as=>K? (H! (h a) rfl) (Rc g f h as)
universe S
variable {X:Cx Kx}
inductive Nn(xs:C!)(H:Hp)(Q:VK):Prop
 | mk d (L:Ac! (j!×V)) (_:j0!) (_:cG! L.map (λp=>(mu!,p.2))) (_:L.length<64) (_:o? L.map) (_:(∀p∈L,p.1≠[])) (_:∀(l:Addr)(M:Ac! (j!×Addr)),Jh!->(M.map (·.1)).Perm (L.map CD!)->M.Pairwise (λp q=>NR! p.1 q.1)->(∀p∈M,PH! p.2 WL! V.int)->BH! l (nE! l M.map (λp=>Q? p.2)))
theorem Oo(hc:BB!):li! Nn:=by
 intro AA s σ H xs us Q I r h;obtain⟨d,L,rfl,hd,cg,nd,gw,q⟩:=h;obtain⟨u,rfl,rx⟩:=GH!;cases rx;obtain⟨z,lo,es,ep,as,raw,hz,ks,at_⟩:=Yf I hd;have hlL:SZ L.map (λp=>((mu!:EG!),p.2))=L.length:=ZA ..;have mL:as.length=L.length:=by rw[<-hlL];exact Bx! Paired.length ks
 have key:∀(j:Nat)(p:j!×V),L[j]?=A! p->∃a,as[j]?=A! a/\PH! a WL! V.int:=λj p hp=>by have hj:kA!:=CK! hp;obtain⟨a,ha⟩:=Qf! as j;have:=Ax ks j ((mu!:EG!),p.2) a (CS! hp) ha;refine GM a ha;rw[this,AN];rfl
 have t0:K' s.heap as (L.map CD!):=E9 (z! ZA mL) λj a ns e1 e2=>by rw[ZH] at e2;cases hp:L[j]? with | none=>rw[hp] at e2;cases e2 | some p =>rw[hp] at e2;have e3:p.1=ns:=ZO e2;obtain⟨a',h1,h2⟩:=key j p hp;rw[e1] at h1;cases h1;obtain⟨its,rv,it,_⟩:=I.tuple (CA.of h2);exact⟨S? e3 (gw p (ZP hp)),its.toArray,it,by rw[<-e3];simpa using intsAre_of rv⟩
 refine RD kind_sorted plain_sorted entry_sorted (args_sorted1 _) (by unfold Builtin.«sorted»;refine ZR (m:=checkCount O3! 1 1 _) (IQ! (W.kdu_collect (Wz lo (es:=es) (ep:=ep)) (DU! _ (I.ok.hd hc)) raw (q! hz z) λh1 tk acc kp ha=>?_));have e1:iQ! a6!:=Ja3 ha F! at_;rw[e1];have I1:I1! { s with heap:=h1,toks:=tk }:=I.kept kp;refine ZR (wpAny_newList ?_ (ea! DR));have g1:jY! (h1.push (seqObj "list" (as.map Value.ref).toArray 0)).get? h1.objs.size Je!:=CM!;have t1:K' w0! as (L.map CD!):=t0.keep λb o e _=>ZT _ (Cs! kp);refine NV! (DG slot_list_sort (EP! g1) entry_list_sort (Jb2 g1 F! t1 nd λp pp po h2 c u_ e=>hp!) (args_list_sort _));have hn:h? h1.objs.size:=ZB!;have inr:∀i∈p,dI!:=λi hi=>BN.mp (pp.mem_iff.mp hi);(have eM:(p.map λi=>RR! i l?)=(p.map IX!).map Value.ref:=by rw[AN];refine CL λi hi=>?_;have:=inr i hi;simp[this]);refine ZS (IT! (F? h1.objs.size) (I1.laid (a:=h1.objs.size) (o:=.BJ ((p.map λi=>(Jd! i [],as.getD i 0)).map λq=>Q? q.2)) (t':=tk) (λb o hb=>u_ b o (BV (A_ hb)) (ZT _ hb)) ci (Bw! ?_ ((p.map IX!).map Value.ref) c ?_)) rfl (q _ _ hn ?_ ?_ ?_));(.rw[ZA,ZA,pp.length_eq,BW,DR];lia);(.rw[AN];exact Rc _ (IX!) (Cg!) p);(.rw[<-eM];exact e);(.rw[AN];(have e2:(List.range as.length).map (λi=>Jd! i [])=C? L.map:=by refine qS!;rw[ZH];by_cases hj:kA!;(·(have h3:(List.range as.length)[j]?=A! j:=by simp[mL,hj]);rw[h3];simp[hj]);·(have h3:(List.range as.length)[j]?=none:=by simp[mL];exact Se!);rw[h3,DP (FU! Se!)];rfl);have e7:=pp.map λi=>Jd! i [];rw[e2] at e7;exact e7);(.rw[EA];exact po);.intro r hr;obtain⟨i,hi,e3⟩:=ZN hr;have KH:=inr i hi;obtain⟨p0,hp0⟩:=kY! L;obtain⟨a,h3,h4⟩:=key i p0 hp0;rw[<-e3];(have e5:as.getD i 0=a:=DM! IL h3);(have e6:pk! p0.1:=Iy! IL ZH hp0);show PH! (as.getD i 0) (Jd! i []).map V.int;rw[e5,e6];exact h4)
universe E
universe S
universe E
abbrev T2:=Int×Int
def tk(t:T2):EG!:=[J! t.1,J! t.2]
def tv(t:T2):C!:=[T! t.1,T! t.2]
theorem xo(t:T2):(tk t).map kV=tv t:=rfl
theorem yK(h:tk a=tk b):a=b:=by obtain⟨a1,a2⟩:=a;obtain⟨b1,b2⟩:=b;unfold tk at h;simp only[List.cons.injEq,Sum.inl.injEq,and_true] at h;rw[h.1,h.2]
structure BZ where
 num:Int
 AY:Int
 AU:Int
 h:Addr
 o:Addr
 l:Addr
 r:Addr
 hand:D!
 AG:V!
 holds:NB!
 AJ:V!
theorem Ja{k:Str}{v:V}{r:BW!}:CN! (List.lookup k ((k,v)::r)):=by rw[QL];have:AT! (k==k):=beq_self_eq_true k;rw[this]
theorem Cj{k j:Str}{v:V}{r:BW!}(h:¬k=j):List.lookup k ((j,v)::r)=List.lookup k r:=by rw[QL];have:AE! (k==j):=DZ.mpr h;rw[this]
theorem E8:BI f v []=[(f,v)]:=rfl
theorem Jle:BI f v ((f,x)::r)=(f,v)::r:=by grind [BI,V]
theorem Cy(h:¬k=f):n1!=qw!:=by grind [BI,V]
theorem Hq:R4! Ci!:=ZV
theorem Ki:R4! DN!:=ZV
theorem T3:R4! Bj!:=ZV
theorem T1:R4! BF!:=ZV
theorem R0:R4! BG!:=ZV
theorem N9:R4! Bk!:=ZV
theorem T4:R5! Dy!:=ZV
theorem Mu:R5! DN!:=ZV
theorem Jaa:R5! Bj!:=ZV
theorem Z9:R5! BF!:=ZV
theorem Xo:R5! BG!:=ZV
theorem R1:R5! Bk!:=ZV
theorem Rv:R6! Dy!:=ZV
theorem Xk:R6! Ci!:=ZV
theorem Xl:R6! Bj!:=ZV
theorem Xj:R6! BF!:=ZV
theorem Tw:R6! BG!:=ZV
theorem Pi:R6! Bk!:=ZV
theorem T6:R7! Dy!:=ZV
theorem Jac:R7! Ci!:=ZV
theorem Xs:R7! DN!:=ZV
theorem Jab:R7! BF!:=ZV
theorem Xt:R7! BG!:=ZV
theorem R4:R7! Bk!:=ZV
theorem Tz:R8! Dy!:=ZV
theorem Z7:R8! Ci!:=ZV
theorem Xm:R8! DN!:=ZV
theorem Z8:R8! Bj!:=ZV
theorem Xn:R8! BG!:=ZV
theorem Rz:R8! Bk!:=ZV
theorem R3:R9! Dy!:=ZV
theorem Xq:R9! Ci!:=ZV
theorem T5:R9! DN!:=ZV
theorem Xr:R9! Bj!:=ZV
theorem Xp:R9! BF!:=ZV
theorem Pl:R9! Bk!:=ZV
theorem N8:SA! Dy!:=ZV
theorem Rx:SA! Ci!:=ZV
theorem Pj:SA! DN!:=ZV
theorem Ry:SA! Bj!:=ZV
theorem Rw:SA! BF!:=ZV
theorem Pk:SA! BG!:=ZV
def C0(G:BZ):BW!:=[(Dy!,T! G.num),(Ci!,T! G.AY),(DN!,T! G.AU),HZ! Bj! G.h,HZ! BF! G.o,HZ! BG! G.l,HZ! Bk! G.r]
theorem U8(G:BZ):bv (C0 G).lookup (Dy!:Str) a! G.num:=by unfold C0;rw[Ja]
theorem Jdf(G:BZ):bv (C0 G).lookup (Ci!:Str) a! G.AY:=by unfold C0;rw[Cj T4,Ja]
theorem Dc(G:BZ):bv (C0 G).lookup (DN!:Str) a! G.AU:=by unfold C0;rw[Cj Rv,Cj Xk,Ja]
theorem Gf(G:BZ):j8! Bj! G.h:=by unfold C0;rw[Cj T6,Cj Jac,Cj Xs,Ja]
theorem D4(G:BZ):j8! BF! G.o:=by unfold C0;rw[Cj Tz,Cj Z7,Cj Xm,Cj Z8,Ja]
theorem E5(G:BZ):j8! BG! G.l:=by unfold C0;rw[Cj R3,Cj Xq,Cj T5,Cj Xr,Cj Xp,Ja]
theorem Dw(G:BZ):j8! Bk! G.r:=by unfold C0;rw[Cj N8,Cj Rx,Cj Pj,Cj Ry,Cj Rw,Cj Pk,Ja]
theorem Jak(G:BZ)(y:Int):BI Ci! (Op y) (C0 G)=C0 { G with AY:=y }:=by unfold C0;rw[Cy Hq,Jle]
theorem By(G:BZ)(y:Int):BI DN! (Op y) (C0 G)=C0 { G with AU:=y }:=by unfold C0;rw[Cy Ki,Cy Mu,Jle]
theorem Jm0(G:BZ):BI Bk! (Y! G.r) (BI BG! (Y! G.l) (BI BF! (Y! G.o) (o5! G.h (Op G.AU) (BI Ci! (Op G.AY) (BI Dy! (Op G.num) [])))))=C0 G:=by unfold C0;rw[E8];rw[Cy Hq,E8];rw[Cy Ki,Cy Mu,E8];rw[Cy T3,Cy Jaa,Cy Xl,E8];rw[Cy T1,Cy Z9,Cy Xj,Cy Jab,E8];rw[Cy R0,Cy Xo,Cy Tw,Cy Xt,Cy Xn,E8];rw[Cy N9,Cy R1,Cy Pi,Cy R4,Cy Rz,Cy Pl,E8]
theorem Cw(G:BZ){m:Str}(h:r? (([Dy!,Ci!,DN!,Bj!,BF!,BG!,Bk!]:U?).contains m)):FM (C0 G).lookup m:=by simp only[OF,Bool.or_eq_false_iff,DZ] at h;obtain⟨h1,h2,h3,h4,h5,h6,h7,_⟩:=h;unfold C0;rw[Cj h1,Cj h2,Cj h3,Cj h4,Cj h5,Cj h6,Cj h7];rfl
theorem Ex(G:BZ):SZ C0 G<1000:=dJ! (7<1000)
def Bm(l:D!):HO:=.dT (l.map (gV! (tk t)))
def Dt(l:V!):HO:=.dT (l.map Ej!)
def Fq(l:NB!):HO:=.dT (l.map Ko!)
theorem Ez(l:U!)(k:B5!)(f:Fi!)(t:T2):mG! Lf!=(l.find? (At (k q=t))).map f:=by
 unfold B4;rw[List.find?_map,Option.map_map];congr 1;congr 1;funext q;show j9! (tk (k q)) tk t (k q=t);by_cases e:k q=t;.rw[e];simp
 .rw[F9!,Ax! (V1! yK)]
theorem Vz{α:Type}{l:U!}{k:B5!}{f:Fi!}{t:T2}(h:∀q∈l,Xl!):mG! Lf!=none:=DM! Ez (BH.mpr (No (Ge! (h q hq))))
theorem Ku{α:Type}{l:U!}{k:B5!}{f:Fi!}{t:T2}(v:V)(h:∀q∈l,Xl!):putK (Gx! Lf!) QN! v=Gx! Lf!++[(tk t,v)]:=E4 v (Vz h)
def BQ(G:BZ):M!:=G.h::G.o::G.l::G.r::XA! G.holds.map
structure AS(C:Addr)(H:Hp)(p:Addr)(G:BZ):Prop where
 ob:∃dx,qc! H C dx C0 G
 dh:GA! G.h G.hand
 dO:et! G.o G.AG
 dl:ho! G.l G.holds
 dr:et! G.r G.AJ
 hl:O5! (GA! E? FS)
 nd:(BQ G).Nodup
def aD(p:Addr)(G:BZ)(H H':Hp):Prop:=QQ! Gm! QJ! Fc!
universe S
variable {C p:Addr}{H H':Hp}{G:BZ}
theorem AS.keep(x:R?)(k:Zo! (b=p\/Mr!)):A0! H' G:=by
 have m0:G.h∈BL!:=EB!
 have m1:G.o∈BL!:=EB!
 have m2:gY!:=EB!
 have m3:G.r∈BL!:=EB!
 refine⟨WO! Ep!,Sb! m0 x.dh,Sb! m1 x.dO,Sb! m2 x.dl,Sb! m3 x.dr,No (Sb! ?_ (x.hl q hq)),x.nd⟩;unfold BQ;exact rH! (BE hq)
theorem AS.same(x:R?)(s:KM):A0! H' G:=x.keep λb o _ e=>s b o e
theorem AS.NX(x:R?)(hb:Mr!):∃kvs,EU! .dT kvs:=by
 unfold BQ at hb;rcases Fm! with rfl|hb;.exact D? x.dh
 rcases Fm! with rfl|hb;.exact D? x.dO
 rcases Fm! with rfl|hb;.exact D? x.dl
 rcases Fm! with rfl|hb;.exact D? x.dr
 obtain⟨q,hq,e⟩:=ZN hb;rw[<-e];exact D? Sk!
theorem AS.RS(x:R?)(hb:Mr!):Gm!:=by obtain⟨kvs,e⟩:=x.NX hb;obtain⟨dx,e'⟩:=x.ob;exact os! e e'
theorem AS.tup_ne(x:R?)(hb:as!):Gm!/\QJ!:=by obtain⟨dx,e'⟩:=x.ob;refine⟨os! hb e',Jz!⟩;obtain⟨kvs,e⟩:=x.NX m;rw[hb] at e;cases e
theorem AS.YM(x:R?)(hb:EU! .BJ xs):Gm!/\QJ!:=by obtain⟨dx,e'⟩:=x.ob;refine⟨os! hb e',Jz!⟩;obtain⟨kvs,e⟩:=x.NX m;rw[hb] at e;cases e
theorem AS.cW(x:R?):(G.h≠G.o/\G.h≠G.l/\G.h≠G.r)/\(G.o≠G.l/\G.o≠G.r)/\G.l≠G.r/\O5! (E?≠G.h/\E?≠G.o/\E?≠G.l/\E?≠G.r):=by have nd:=x.nd;unfold BQ at nd;simp only[AX,CB,not_or] at nd;obtain⟨⟨a1,a2,a3,a4⟩,⟨b1,b2,b3⟩,⟨c1,c2⟩,d1,_⟩:=nd;refine⟨⟨a1,a2,a3⟩,⟨b1,b2⟩,c1,AY!⟩;have m:E?∈XA! G.holds.map:=BE hq;exact⟨h4! a4,h4! b3,h4! c2,h4! d1⟩
theorem AS.fld(x:R?)(dx:Addr)(m t:Int):A0! (upd H p (H6! (C0 { G with AY:=m,AU:=t }))) { G with AY:=m,AU:=t }:=by
 have n:∀{b},Mr!->Gm!:=λhb=>x.RS hb;have m0:G.h∈BL!:=EB!
 have m1:G.o∈BL!:=EB!
 have m2:gY!:=EB!
 have m3:G.r∈BL!:=EB!
 refine⟨G1! Ab,m1! m0 x.dh,m1! m1 x.dO,m1! m2 x.dl,m1! m3 x.dr,AY!,x.nd⟩;rw[Ad (n (by unfold BQ;exact rH! (BE hq)))];exact Sk!
theorem AS.J_(x:R?)(l:V!):nQ! l { G with AG:=l }:=gZ! G.o ⟨G1! wd!,i! a1 x.dh,Ab,i! b1.symm x.dl,YG! b2.symm,gX! (d1 q hq).2.1 Sk!,x.nd⟩
theorem AS.PV(x:R?)(l:D!):ab! l { G with hand:=l }:=gZ! G.h ⟨G1! wd!,Ab,i! a1.symm x.dO,i! a2.symm x.dl,YG! a3.symm,gX! (d1 q hq).1 Sk!,x.nd⟩
theorem AS.YQ(x:R?)(l:V!):A0! (AP! G.r Dt l) { G with AJ:=l }:=gZ! G.r (nm! a3 b2 (i! c1 x.dl) Ab (gX! (d1 q hq).2.2.2 Sk!) x.nd)
theorem AS.iR(x:R?)(t:T2)(ha:GA! a [])(hf:a∉BL!):A0! (AP! G.l Fq (v6! t)) { G with holds:=v6! t }:=by
 obtain⟨⟨a1,a2,a3⟩,⟨b1,b2⟩,c1,d1⟩:=x.cW;have np:=x.RS (b:=G.l) (EB!);obtain⟨dx,e⟩:=x.ob;refine nm! a2 b1 Ab (YG! c1.symm) AY! ?_;.rcases ZI hq with hq|hq;(.rw[Ad (d1 q hq).2.2.1];exact Sk!);·(have e2:q=(t,a,[]):=dK!);subst e2;have:a≠G.l:=NN! hf;rw[Ad this];exact ha
 ·(have e2:BQ { G with holds:=v6! t }=BL!++[a]:=EB!);rw[e2];exact G9 x.nd hf
universe E
def NY(t:T2):PyData:=Kr! (T! t.1) t.2
def nD(q:Gt!):PyData:=EO! [NY q.1,T! E?,D9! (q.2.2.map NY)]
def pP(q:Bi!):PyData:=Kr! (NY q.1) q.2
def jX(hs:D!)(os:EQ)(rs:V!):PyData:=EO! [D9! (hs.map NY),D9! (os.map nD),D9! (rs.map pP)]
theorem Gj(t:T2):(NY t).canLay0=true/\(NY t).depth<=2:=by
 unfold NY;constructor;.simp[PyData.canLay0,PyData.canLayAll0]
 .simp[PyData.depth,PyData.depthAll]
theorem Jha{α:Type}{f:α->PyData}{n:Nat}(h:∀x,(f x).canLay0=true/\(f x).depth<=n):ga! (PyData.canLayAll0 (l.map f)=true/\PyData.depthAll (l.map f)<=n)
 | []=>⟨by simp[PyData.canLayAll0],by simp[PyData.depthAll]⟩
 | x::l=>by obtain⟨a,b⟩:=Jha h l;obtain⟨c,d⟩:=h x;exact⟨by simp[PyData.canLayAll0,a,c],by simp only[AI,PyData.depthAll];lia⟩
theorem V1{α:Type}{f:α->PyData}{n:Nat}(h:∀x,(f x).canLay0=true/\(f x).depth<=n)(l:U!):(PyData.tuple (l.map f)).canLay0=true/\(PyData.tuple (l.map f)).depth<=n+1:=by obtain⟨a,b⟩:=Jha h l;exact⟨by simp only[PyData.canLay0];exact a,by simp only[PyData.depth];exact Yx!⟩
theorem Ji9(q:Gt!):(nD q).canLay0=true/\(nD q).depth<=5:=by obtain⟨a,b⟩:=Gj q.1;obtain⟨c,d⟩:=V1 Gj FS;unfold nD;exact⟨by simp[PyData.canLay0,PyData.canLayAll0,a,c] at *;simp[a,c],by simp only[PyData.depth,PyData.depthAll] at *;lia⟩
theorem Jjd(q:Bi!):(pP q).canLay0=true/\(pP q).depth<=5:=by obtain⟨a,b⟩:=Gj q.1;unfold pP;exact⟨by simp[PyData.canLay0,PyData.canLayAll0,a],by simp only[PyData.depth,PyData.depthAll] at *;exact Nat.le_add_left _ _⟩
theorem Jfw(hs:D!)(os:EQ)(rs:V!):(jX hs os rs).canLay0=true/\(jX hs os rs).depth<=20:=by
 obtain⟨a,b⟩:=V1 Gj hs;obtain⟨c,d⟩:=V1 Ji9 os;obtain⟨e,f⟩:=V1 Jjd rs;unfold jX;refine Fj!;.rw[PyData.canLay0,PyData.canLayAll0,PyData.canLayAll0,PyData.canLayAll0,PyData.canLayAll0,a,c,e];rfl
 .rw[PyData.depth,PyData.depthAll,PyData.depthAll,PyData.depthAll,PyData.depthAll];lia
theorem V7(hs:D!)(os:EQ)(rs:V!):aA (jX hs os rs):=⟨(Jfw hs os rs).1,GO! (Jfw hs os rs).2⟩
theorem Pz(t:T2):aA (NY t):=⟨(Gj t).1,GO! (Gj t).2⟩
def BC(H:Hp):hZ! D!:=Mh! (λa t=>ZS!)
theorem Jh{K:W.Frag}{H:Hp}{a:Addr}{t:T2}(e:ZS!):B2! T0 (NY t):=Iz! (CA.of e) (tk! PL! PL!)
theorem Fw{K:W.Frag}{H:Hp}{as:M!}{ts:D!}(p:A9!):ke! SR! ts.map NY:=Jol (λ_ _ e=>Jh e) p
def IY(a b:T2):Prop:=NR! [a.1,a.2] [b.1,b.2]
theorem Fj(a b:T2):IY a b↔(a.1<b.1\/(bh!/\a.2<b.2)):=by
 unfold IY;rw[HT.GZ,HT.GZ];by_cases h1:bh!;.rw[AF h1];by_cases h2:a.2=b.2;(.rw[AF h2,HT.OS];constructor;(.intro z;cases z);.intro z;lia);.rw[AB h2];constructor;(.intro z;exact wS h1 (BU z));.intro z;exact h3!
 .rw[AB h1];constructor;(.intro z;exact Z! (BU z));.intro z;exact h3!
universe S
inductive Ld(xs:C!)(H:Hp)(Q:VK):Prop
 | mk d (l:Ac! (T2×V)) (ss:D!) (_:j0!) (_:cG! l.map Kn!) (_:l.length<64) (_:ss.Perm (l.map CD!)) (_:ss.Pairwise IY) (_:∀(r:Addr)(as:M!),C5!->BC H as ss->BH! r (Ly! H r as.map))
theorem Dl(hc:BB!):li! Ld:=by
 intro AA s σ H xs us Q I rv h;obtain⟨d,l,ss,rfl,hd,cg,pm,pw,q⟩:=h;refine Oo hc AA s σ H _ us Q I rv ⟨d,l.map λq=>([q.1.1,q.1.2],q.2),rfl,?_,FU! cg,?_,?_,λr M hr mp mw ma=>?_⟩;·(have e:Gu! l.map OQ! (λp=>((mu!:EG!),p.2))=l.map Kn!:=F0!);rw[e];exact hd
 ·(have nd:ss.Nodup:=pw.imp λ{a b} h z=>oZ!);have gF:YT!:=pm.nodup_iff.mp nd;(have e:EV! (l.map OQ!).map (l.map CD!).map gW!:=gT! AN);rw[e];exact List.Pairwise.map _ (λa b h z=>h (by obtain⟨a1,a2⟩:=a;obtain⟨b1,b2⟩:=b;simp at z;rw[z.1,z.2])) gF
 .intro p hp;obtain⟨q,_,e⟩:=ZN hp;rw[<-e];simp
 ·(have e:EV! (l.map OQ!).map (l.map CD!).map gW!:=gT! AN);rw[e] at mp;(have e2:EV! M.map ss.map gW!:=by refine Lo (lt:=λa b=>NR! a b) (λa z=>by rw[P6] at z;cases z) (λa b h1 h2=>f4! (Xw h1 h2) P6) (mp.trans (pm.symm.map _)) ?_ ?_;(.rw[EA];exact mw);.rw[EA];exact pw);(have hl:M.length=ss.length:=dA! (Nv! e2));(have e3:(M.map λp=>Q? p.2)=(M.map db).map V.ref:=F0!);rw[e3];refine q r _ hr (E9 (FU! hl) λj a t e4 e5=>?_);rw[ZH] at e4;cases hm:M[j]? with | none=>rw[hm] at e4;cases e4 | some m =>rw[hm] at e4;cases e4;(have e6:(M.map (·.1))[j]?=A! m.1:=CS! hm);rw[e2,ZH,e5] at e6;have e7:[t.1,t.2]=m.1:=ZO e6;have:=ma m (ZP hm);rw[<-e7] at this;exact this
universe E
theorem Jdh(h:GA! d l):cG! (l.map (gV! t)).map Kn!:=by
 have e:Gu! l.map (gV! t) Kn!=l.map (gV! (tk t)):=F0!
 rw[e];exact G?
theorem Jhr(h:k8! l):cG! (l.map k7!).map Kn!:=by
 have e:Gu! l.map k7! Kn!=l.map Ej!:=F0!
 rw[e];exact G?
theorem Fa{K:W.Frag}{a p:Addr}{xs:C!}{tt:TT}{te:TE}{caps:Hj!}{σ:L2.St}{H:Hp}{Q:NL!}(Pv:Nat->G7!)(h0:Pv 0 [] eS!)(hl:∀i ys H2,Ln!->Tp!->DY K H2 a xs/\Fq!)(hs:∀i x ys H2 (N:G7!),H9!->Tp!->(∀ys H,Tt! ys H->N ys H)->wS! H2 (wq! rK!) (N ys H4))(hd:∀ys H2,Pv xs.length ys H2->DH!) : T7! (Jv! Oh! Fq! (bz K a).stop DH! (bz K a).go (bz K a).ZQ (Ue! mf!)):=by
 refine un! (λi m ys H=>m=Q6!/\Ln!/\Pv i ys H) xs.length;rintro i m ys H2 ⟨rfl,hi,pv⟩;obtain⟨q1,q2⟩:=hl i ys H2 hi pv;refine Ch q2;by_cases KH:Wx!;.refine iD! (qs! q1);obtain⟨e,y⟩:=y;subst e;exact hs i x ys _ (q0! Q6! gF! (i+1<=xs.length) (Tt! zs H')) (y xs q1) pv rv!
 ·(have e:fS!:=B!);subst e;exact Al! (mz! q1) (hd ys H2 pv)
theorem Ju{lo:Int}{n:Nat}{p:Addr}{tt:TT}{te:TE}{caps:Hj!}{σ:L2.St}{H:Hp}{Q:NL!}(Pv:Nat->G7!)(h0:Pv 0 [] eS!)(hl:∀i ys H2,i<=n->Tp!->Fq!)(hs:∀i ys H2 (N:G7!),i<n->Tp!->(∀ys H,Tt! ys H->N ys H)->tt (dd! (Go (lo+i))) H2 (wA! (te (dd! (Go (lo+i))) H4 rK!) (N ys H4)))(hd:∀ys H2,Pv n ys H2->DH!) : T7! (Jv! Oh! Fq! (di lo n).stop DH! (di lo n).go (di lo n).ZQ (Ue! mf!)):=by
 refine un! (λi m ys H=>m=n-i/\i<=n/\Pv i ys H) n;rintro i m ys H2 ⟨rfl,hi,pv⟩;refine Ch (hl i ys H2 hi pv);by_cases KH:i<n;.refine iD! KH;obtain⟨e,y⟩:=y;subst e y;exact hs i ys _ (q0! (n-i) (n-KE) (i+1<=n) (Tt! zs H')) KH pv rv!
 ·(have e:i=n:=B!);subst e;exact Al! AC (hd ys H2 pv)
def X6(p d:Addr):HO:=.ext λh=>h.IsItemsView p d
theorem Pn(d:Addr)(hd:Yg!) : MeetsIn prog w (Builtin.«dict.items» ⟨[VX!],[]⟩) (λ_ R s=>lx! (Y! d)/\R (.ok (.ret (As! s.heap.objs.size))) (gH! VH! .fields Xi!)) :=.of_wp λA R s ⟨ht,h⟩=>by unfold Builtin.«dict.items»;refine KW!;unfold Builtin.Dict.noArgs;refine N0! IU ht;show Vp! (pure d);refine ZS ?_;show ZZ! (Builtin.Dict.showsAll d);unfold Builtin.Dict.showsAll;rw[hr! hd];refine aC!;exact So! CZ (KF h)
universe S
theorem Jhk:tE X "dict.items" (λx xs H Q=>∃d kvs,XU!/\xs=[]/\kd!/\GT! (upd H p (X6 p d))):=by intro AA s σ H x xs v us Q I rx rs h;obtain⟨d,kvs,rfl,rfl,hd,q⟩:=h;cases rx;cases rs;obtain⟨z,lo,ys,rel,o,es,ep,g1,g2,g3,g4,g5⟩:=fX! (.dT kvs) hd;refine PySem.call_meetsIn PySem.F.slot_dict_items (Bq! g1 g2.1) PySem.F.entry_dict_items (PySem.F.args_dict_items_1 _) (Pn d lo) (Ch (Bq! g1 g2.1));have hn:KL!:=IC!;refine ad! (bb! (X6 s.heap.objs.size d) Fz! ?_);have g:L? (s.heap.push (Kj! VH! Xi!)).get? s.heap.objs.size (Kj! VH! Xi!):=CM!;exact⟨Au! _ g rfl,D? g,λh1 h2 ⟨o,e,r⟩ k=>Bq! (k o e) r⟩
universe E
def m6(h:Heap)(g:BI! Addr)(e:Addr)(cls:Value):Prop:=g e/\∃oe vs a0,NA! e oe/\oe.cls=cls/\oe.data=TC!/\vs[0]?=A! a0 /\
 (vs[1]?=A! l?\/∃T oT ts,vs[1]?=A! (Y! T)/\g T/\T≠e/\NA! T oT/\oT.data=P1! ts/\ts[3]?=A! l?)
theorem m6.mono(x:m6 h g e cls)(k:∀b,g b->g' b):m6 h g' e cls:=by obtain⟨g1,oe,vs,a0,h1,h2,h4,h5,h6⟩:=x;refine⟨k _ g1,oe,vs,a0,h1,h2,h4,h5,h6.imp (Qw!) ?_⟩;rintro⟨T,oT,ts,t1,t2,t3⟩;exact⟨T,oT,ts,t1,k _ t2,t3⟩
def jE(h:Heap)(g:BI! Addr)(e:Addr)(cls:Value):Prop:=g e/\∃oe vs a0 T oT ts,NA! e oe/\oe.cls=cls/\oe.data=TC!/\vs[0]?=A! a0/\vs[1]?=A! (Y! T)/\g T/\T≠e/\NA! T oT/\oT.data=P1! ts/\ts[3]?=A! l?
theorem jE.at(x:To! h):m6 h g e cls:=by obtain⟨g1,oe,vs,a0,T,oT,ts,h1,h2,h3,h4,h5⟩:=x;exact⟨g1,oe,vs,a0,h1,h2,h3,h4,I! ⟨T,oT,ts,h5⟩⟩
def ax(P:Program)(w:World):dj:=λouter H s E e s'=>∃ex cls H',e=F? ex/\jE s'.heap (λb=>Ay! s.heap.get?/\MM!) ex cls/\E cls none H'/\s'.os=s.os/\TW!/\nx! outer [] s'.heap/\NU P w H' s'.heap
theorem Oh(ok:DG!)(e:aA!):∃ob,HB! ob:=by have x:=ok a o e;cases o with | BJ xs=>obtain⟨_,_,_,_,e⟩:=x;exact AH! | BB xs=>obtain⟨_,_,_,o,e,_⟩:=x;exact AH! | dK kvs=>obtain⟨_,_,_,_,o,_,_,e,_⟩:=x;exact AH! | dT kvs=>obtain⟨_,_,_,_,o,_,_,e,_⟩:=x;exact AH! | set S n=>obtain⟨o,_,_,_,e,_⟩:=x;exact AH! | ins C dx fs=>obtain⟨_,_,_,e,_⟩:=x;exact AH! | own y=>obtain⟨_,e⟩:=x;exact AH! | xd fs=>obtain⟨_,⟨_,_,_,e,_⟩,_⟩:=x;exact AH! | rP lo hi=>obtain⟨_,_,_,e⟩:=x;exact AH! | FQ ob u=>obtain⟨e,_⟩:=x;exact AH! | gX ps=>exact D? (oM!) | met f y=>exact D? (oM!) | ext φ=>obtain⟨_,⟨_,e⟩,_⟩:=x;exact AH!
structure NM(fr:M!)(g:BI! Addr)(h h':Heap):Prop where
 keep:xL (De!->b∉fr->¬g b->V5!)
 slot:iI! (b∈fr) bj!
theorem NM.trans(a:NM fr g h h1)(b:NM fr g h1 h2):NM fr g h h2 :=⟨λc o e n1 n2=>b.keep c o (a.keep c o e n1 n2) n1 n2,λc o e m=>by obtain⟨sl,e1⟩:=a.slot c o e m;obtain⟨iX,e2⟩:=b.slot c _ e1 m;exact⟨iX,e2⟩⟩
universe S
variable {M:Model}{A:Around}{E:Value->Shared->Prop}{s:Shared}{base:Heap}{env:Env}{outer:List Env}{L e:Addr}{cls:Value}{g:Addr->Prop}
theorem Tp(hl:ot! h.FunFrames)(hd:∀b∈Hd,b∈QS!\/g b)(k1:(W.hideAll h Hd).StaysIn h')(k4:iI! (∀vs,o.data≠TC!) bj!):NM (NT (dL!)) g h h':=by
 refine⟨λb o e n1 n2=>k1 b o (W.hideAll_get _ e Jz!),λb o e m=>?_⟩;.rcases hd b m with z|z;(.exact n1 z);.exact n2 z
 .obtain⟨_,o',e',hn⟩:=hl.mem m;rw[e] at e';cases e';exact Br! k4 hn
theorem N7{h h':Heap}{Hd:M!}{T:Addr}{oT:Obj}{ts:Dg!}(hl:ot! h.FunFrames)(hd:∀b∈Hd,b∈QS!\/g b)(k4:iI! (∀vs,o.data≠TC!) bj!)(hT:FM (W.hideAll h Hd).get? T)(eT:KC! T oT)(dT:oT.data=P1! ts)(fresh:∀b,Ay! h.get?->g b):g T:=by cases q:h.get? T with | none=>exact fresh T q | some o =>(have m:T∈Hd:=by apply Classical.byContradiction;intro n;rw[W.hideAll_get _ q n] at hT;cases hT);rcases hd T m with z|z;(.exfalso;obtain⟨_,o',e',hn⟩:=hl.mem z;rw[q] at e';cases e';obtain⟨sl,e2⟩:=k4 T o q hn;rw[eT] at e2;cases e2;exact hn ts dT);.exact z
theorem Oi:∀en∈l,∀a,en.frame=A! a->a∈NT l:=λen he a ha=>CT.mpr ⟨en,he,ha⟩
theorem Jka{Q:Hv!}(i9:A.frames=some (dL!))(hl:ot! s.heap.FunFrames)(hf:env.frame=A! L)(x:m6 s.heap g e cls)(fresh:∀b,Ay! s.heap.get?->g b)(h:bY! (To! h') (NM (NT (dL!)) g s.heap h')):LK! (leaving env (Y! e)):=by
 obtain⟨ge,oe,vs,a0,h1,h2,h3,h4,h5⟩:=x;subst h2;rcases h5 with h5|⟨T,oT,ts,t1,t2,t3,t4,t5,t6⟩;·(have hd:∀b∈QS!++[e],b∈QS!\/g b:=N? (by rcases KR! with z|z;(.exact J! z);·(have:b=e:=Lt!);rw[this];exact I! ge));refine wpAny_leaving_firstW (base:=W.hideAll s.heap (QS!++[e])) (a0:=a0) i9 (W.funFrames_hide hl λen he a ha=>o0 (Oi en he a ha)) hf h1 (λb o q=>W.of_hideAll _ q) (LA _ Db) h3 h5 h4 λh' hL=>?_;obtain⟨k1,k2,⟨oC,nQ,T',oE,gV,b1,⟨b2,b3⟩,b4,b5,b6,b7,b8,b9,kH⟩,k4⟩:=hL;exact h h' ⟨ge,oC,nQ,a0,T',oE,gV,b1,b2,b4,b3,b5,N7 hl hd k4 b6 b8 b9 fresh,b7,b8,b9,kH⟩ (Tp hl hd k1 k4)
 ·(have hd:∀b∈l8!,b∈QS!\/g b:=N? (by rcases KR! with z|z;(.exact J! z);·(have:b=e\/b=T:=Lt!);rcases this with rfl|rfl;(.exact I! ge);.exact I! t2));refine wpAny_leaving_nextW (base:=W.hideAll s.heap (l8!)) (cls:=oe.cls) (a0:=a0) i9 (W.funFrames_hide hl λen he a ha=>o0 (Oi en he a ha)) hf ⟨oe,vs,T,oT,ts,h1,x? h4,h3,t1,LA _ Db,t3,t4,t5,t6⟩ (λb o q=>W.of_hideAll _ q) (LA _ Db) λh' hL=>?_;obtain⟨k1,k2,⟨oC,nQ,T',oE,gV,b1,⟨b2,b3⟩,b4,b5,b6,b7,b8,b9,kH⟩,k4⟩:=hL;exact h h' ⟨ge,oC,nQ,a0,T',oE,gV,b1,b2,b4,b3,b5,N7 hl hd k4 b6 b8 b9 fresh,b7,b8,b9,kH⟩ (Tp hl hd k1 k4)
theorem Jmq{Q:Hv!}(i9:A.frames=some (dL!))(hl:ot! s.heap.FunFrames)(hf:env.frame=A! L)(x:To! s.heap)(fresh:∀b,Ay! s.heap.get?->g b)(h:bY! (To! h') (NM (NT (dL!)) g s.heap h')):wpAny M A (noteFrame (Y! e) env) (λ_ s2=>wpAny M A (setFlight (Y! e) none) Q E s2) E s:=by
 obtain⟨ge,oe,vs,a0,T,oT,ts,h1,h2,h3,h4,t1,t2,t3,t4,t5,t6⟩:=x;subst h2;have hd:∀b∈l8!,b∈QS!\/g b:=N? (by rcases KR! with z|z;(.exact J! z);·(have:b=e\/b=T:=Lt!);rcases this with rfl|rfl;(.exact I! ge);.exact I! t2)
 refine wpAny_noteFrame_onW (base:=W.hideAll s.heap (l8!)) (cls:=oe.cls) (a0:=a0) i9 (W.funFrames_hide hl λen he a ha=>o0 (Oi en he a ha)) hf ⟨oe,vs,T,oT,ts,h1,x? h4,h3,t1,LA _ Db,t3,t4,t5,t6⟩ (λb o q=>W.of_hideAll _ q) (LA _ Db) λh' hN=>?_;obtain⟨k1,k2,k3,k4⟩:=hN;refine wpAny_setFlight_noneW (s:=Ix) k1 k2 k3 λh2 j1 j2 j3 j4=>?_;obtain⟨oC,nQ,T',oE,gV,b1,⟨b2,b3⟩,b4,b5,b6,b7,b8,b9,kH⟩:=j3;have kk:xL (DS!->(∀vs,o.data≠TC!)->∃sl,Cj! h2.get? { o with slots:=sl }):=λb o q n=>by obtain⟨sl,q2⟩:=k4 b o q n;exact⟨sl,j4 b _ q2 n⟩
 exact h h2 ⟨ge,oC,nQ,a0,T',oE,gV,b1,b2,b4,b3,b5,N7 hl hd kk b6 b8 b9 fresh,b7,b8,b9,kH⟩ (Tp hl hd j1 kk)
theorem Jmt(x:To! s.heap)(hg:∀b∈fr,¬g b)(h:bY! (To! h') (NM fr g s.heap h')):LK! (setFlight (Y! e) none):=by
 obtain⟨ge,oe,vs,a0,T,oT,ts,h1,h2,h3,h4,t1,t2,t3,t4,t5,t6⟩:=x;subst h2;have hsz:3<ts.size:=(OH.mp t6).1;refine wpAny_setFlight_none h1 h3 t1 t4 t5 hsz (h _ ⟨ge,oe,vs,a0,T,_,_,(DO _ _ t3).trans h1,rfl,h3,h4,t1,t2,t3,GQ _ t4 (Obj.isFreed_of_fields (QI t5 _)),QI t5 _,by simp[hsz]⟩ ⟨λb o q _ n=>?_,λb o q m=>?_⟩);.exact(DO _ _ (X? n (Vd! t2))).trans q
 .refine⟨o.slots,(DO _ _ (λz=>hg b m (Vd! t2))).trans q⟩
universe E
universe S
variable {X:Cx Kx}{AA:List (Addr×Obj)}{σ:L2.St}{H H1:Hp}{s s1:Shared}{h':Heap}{g:Addr->Prop}{ex:Addr}{cls:Value}
theorem U7(ok:NU P w H1 h)(a:NM fr g h h')(hf:∀b∈fr,SS!)(hg:∀b,g b->SS!):NU P w H1 h':=λb o e =>(ok b o e).N_ (λc u hc q=>a.keep c u q (λm=>by have:=hf c m;rcases hc with rfl|hc;(.rw[this] at e;cases e);.rw[this] at hc;cases hc) (λm=>by have:=hg c m;rcases hc with rfl|hc;(.rw[this] at e;cases e);.rw[this] at hc;cases hc)) (λ_ q=>q) Qu!
theorem Yr(u:Un fs [] H0 H1 s0 h)(a:NM fr g h h')(hg:xL (Ad! s0.get?->¬g b))(i9:xL (Ad! s0.get?->b∈fr->b∈fs))(hH:∀b∈fr,SS!):Un fs [] H0 H1 s0 h' where
 keep:=λb o e n1 n2 n3=>a.keep b o (u.keep b o e n1 n2 n3) (λm=>n2 (Br! i9 m)) (Cs! hg)
 slot:=λb o e n1 m n3=>by
  obtain⟨sl,q⟩:=u.slot b o e n1 m n3
  by_cases hm:b∈fr
  .obtain⟨iX,q2⟩:=a.slot b _ q hm
   exact⟨iX,q2⟩
  .exact⟨sl,a.keep b _ q hm (Cs! hg)⟩
 free:=u.free
 there:=λb o e n=>by
  obtain⟨o',q⟩:=Br! u.there n
  by_cases hm:b∈fr
  .obtain⟨iX,q2⟩:=a.slot b _ q hm
   exact D? q2
  .exact D? (a.keep b _ q hm (Cs! hg))
 QU:=u.QU
 OV:=u.OV
 QV:=u.QV
universe E
def Jij(X:G!)(E:XK):Prop:=∀(AA:v!)(σ:L2.St)(H1:Hp)(s1:Shared)(ex:Addr)(cls:Value),UL!->m6 s1.heap (λb=>Ay! X.IE.heap.get?/\SS!) ex cls->E cls none H1->X.xe (Y! ex) s1
universe S
variable {P:Program}{w:World}{K:W.Frag}{mg:Str->Option Value}{base:Heap}{N:List Str}{qual:Str}{scope:Scope}{f:Addr}{cd:Value}{A:Around}{outer:List Env}{s:Shared}{H:Hp}{E:XK}
theorem Jk:Jij (Wc! El! cd) E:=by
 intro AA σ H1 s1 ex cls I x hE;have hs0:WD! (∃o',Cj! s1.heap.get? o'):=Ab! (Br! I.base.there (by simp[Lz]));refine Jka (base:=base) (L:=s.heap.objs.size) I.ok.frames I.stack rfl x (λb q=>?_) λh' x' as=>?_;.constructor;(.cases q2:s.heap.get? b with | none=>exact q2 | some o =>obtain⟨o',e⟩:=hs0 b o q2;rw[q] at e;cases e);.cases q2:H1 b with | none=>rfl | some o =>obtain⟨ob,e⟩:=Oh I.DK q2;rw[q] at e;cases e
 .have QN:∀b∈NT (sY!::outer),SS!:=N? (DD! I.RL);refine⟨ex,cls,H1,rfl,x',hE,I.os,I.bare,Yr (fs:=NT outer) I.base as (λb o e z=>?_) (λb o e m=>?_) QN,U7 I.DK as QN λb z=>z.2⟩;(.have:=z.1;have e':DS!:=e;rw[Lu! ((Wc! El! cd).IE.heap.get? b=s.heap.get? b),e'] at this;cases this);.rcases ZM (show b∈s.heap.objs.size::NT outer from m) with z|z;(.have:=A_ (show DS! from e);rw[z] at this;exact Ka! this);.exact z
theorem Cf:Jv El! (Wc! El! cd) E:=by intro AA σ H0 s0 e s' I ⟨ex,cls,H',he,x,hE,ho,hg,u,ok⟩;subst he;have I':Inv (Wc! El! cd) AA σ H' s':=I.cN (ch:=[]) ho u ok hg (Ct! (by simp at hb));refine Jk AA σ H' s' ex cls I' (x.at.mono λb z=>Ja! z.2) hE;cases q:s.heap.get? b with | none=>exact q | some o =>obtain⟨o',e⟩:=I.base.there b o q (by simp[Lz]);rw[z.1] at e;cases e
universe E
universe S
variable {P:Program}{w:World}{K:W.Frag}{mg:Str->Option Value}{base:Heap}
theorem ok1{x qual:Str}{st:Stmt}{f:Addr}{fd:FuncData}{N ps:U?}{k:Nat}{sp:Sp}(F:Tn!)(S:q8!)(len:l7!)(aO:∀(D_:Value) (A:Around) (outer:By!) (s:Shared) (H:Hp) (vs:C!) (Q:VK) (E:XK),bN! (fO! (Ak st) D_)->Qs! -> rm! (QE (pT! El!) (Hl st) t)):n9! El!:=by obtain⟨oc,od,kV,doc,pm,an,D_,ct,je,rfl,lk,cZ⟩:=F.ex;exact Jli lk cZ S len λA outer s H vs Q E hr gG=>aO D_ A outer s H vs Q E hr gG
theorem Ho{x qual:Str}{st:Stmt}{f:Addr}{fd:FuncData}{N ps:U?}{k:Nat}{sp:Sp}(F:Tn!)(S:q8!)(h:∀vs H Q E,Qs!->Bd P w K mg base El! false N ps qual st f k vs H Q E):n9! El! :=ok1 F S (λvs H Q E z=>(h vs H Q E z).1) λD_ A outer s H vs Q E hr z=>(h vs H Q E z).2 D_ A outer s hr
theorem EJ.aS{k:Nat}{f:Addr}{fd:FuncData}{ps:U?}{sp:Sp}(F:sX! cG):sX! El! :=⟨F.len,λA outer s H args us vs Q E hr he hb hv hs=>IF (F.run A outer s H args us vs Q E hr he hb hv hs) λr s' h=>by cases r with | ok fl=>cases fl<;>exact h | error e=>exact hW!⟩
universe E
def m_:g!:=[EF! "ValueError",EF! "Exception",EF! "BaseException",EF! "object"]
structure Yl(K:W.Frag)(mg:v?)(x:Str)(C:Addr):Prop where
 mg:E7! mg DT!
 ex:ut! C m_
universe S
variable {X:Cx Kx}{x:Str}{C:Addr}{E:XK}{np HR pos p1:Pos}{msg:Str}{j:Nat}
theorem Jdm{K:W.Frag}{h:Heap}{C:Addr}(XK:K.In h)(q:ut! C m_):∃nm q N bs bm hdct sn sub ab col dd k0 k1 k2 k3 k5 mN,h.get? C=some (excClassObj nm q C N bs bm hdct sn sub ab col dd k0 k1 k2 k3 k5 "ValueError.__new__")/\h.Ns N mN/\FM mN fU!/\OwnTail h m_ bm:=by
 unfold W.excIn at q;split at q;.rename_i dd cd sl ho;split at q;(.rename_i C' bm k0 k1 k2 k3 n k5 hm hs;simp only[HI,OE,Bool.not_eq_true'] at q;obtain⟨⟨⟨⟨⟨rfl,rfl⟩,qK⟩,ht⟩,DK⟩,oY⟩:=q;obtain⟨nm,bs,mro,ns,qn,hd,sn,sub,ab,col,del⟩:=cd;dsimp only at hm qK DK oY;subst hm qK;(have cY:sl=#[k0,k1,k2,k3,FE! D3! "ValueError.__new__",k5]:=by obtain⟨l⟩:=sl;simp only at hs;rw[hs]);subst cY;exact⟨nm,qn,ns,bs,bm,hd,sn,sub,ab,col,dd,k0,k1,k2,k3,k5,_,E! XK ho,.of_isNs (W.isNs_of_in XK DK),W.nsMap_none_of_in XK DK oY,W.tail_of_in XK ht⟩);.cases q
 .cases q
theorem Jff{X:G!}{h:Heap}{mg:v?}(XK:Kx.In h)(c:Yl Kx mg x C):∃nm q N bs bm hdct sn sub ab col dd k0 k1 k2 k3 k5 mN,h.get? C=some (excClassObj nm q C N bs bm hdct sn sub ab col dd k0 k1 k2 k3 k5 "ValueError.__new__")/\h.Ns N mN/\FM mN fU!/\OwnTail h m_ bm:=Jdm XK c.ex
theorem Iw{X:G!}(hc:BB!)(hg:GU!)(c:Yl Kx X.mg x C)(hx:Jij X E)(hex:X.ex=[]:=by rfl)(hd:Et!:=by decide)(bN:wO! HR sc!:=by rfl)(hs:starEach sc! X.env=[(false,e1! (Wq! (CC! msg) j p1))]:=by rfl) : PS X (.Raise (some (.Call (Ez! x np) sc! [] HR)) none pos) (λ_ _ H=>E DT! none H):=by
 intro AA s σ H D I h;obtain⟨nm,q,N,bs,bm,hdct,sn,sub,ab,col,dd,k0,k1,k2,k3,k5,mN,hC,hN,oY,tl⟩:=Jff (X:=X) I.mod.ZY c;refine wpAny_Raise_call_subU (C:=C) (nm:=nm) (q:=q) (N:=N) (bs:=bs) (bm:=bm) (hdct:=hdct) (sn:=sn) (sub:=sub) (ab:=ab) (col:=col) (dd:=dd) (k0:=k0) (k1:=k1) (k2:=k2) (k3:=k3) (k5:=k5) F.excBase_ValueError (bmB:=m_) ZV F.excBase_ValueError (tl.hasType ZV) GW! bN oY ?_;refine K5 I hg c.mg Hn! hd;have ha:PA X sc! (Cv (tC (CC! msg)) Ia):=Aa Be Ae hs;have hA:=ha HR AA s σ H (λvs H1=>vs=[Ak! msg]/\H1=H) I BP!;rw[hs] at hA ⊢;refine HK (EM hA ?_);rintro us s2 ⟨vs,H2,I2,r2,e1,e2⟩;subst e1 e2;refine⟨rfl,by show us.length<=sizeLine;rw[<-r2.length];show At! 1;decide,E! I2.bk hC,(let⟨o,es,ep,e,r⟩:=hN;⟨o,es,ep,Am! I2.bk,r⟩),tl.keeps I2.bk,λh' e hm=>?_⟩;obtain⟨t,ht,_⟩:=hm.there;have none_:∀b,Ay! s2.heap.get?->Ay! X.IE.heap.get?/\Ay! H2:=λb q=>by constructor;(.cases q2:X.IE.heap.get? b with | none=>rfl | some o =>obtain⟨o',e'⟩:=I2.base.there b o q2 (DL! hex);rw[q] at e';cases e');.cases q2:H2 b with | none=>rfl | some o =>obtain⟨ob,e'⟩:=Oh I2.DK q2;rw[q] at e';cases e'
 have I3:xz H2 { s2 with heap:=h' }:=I2.kept (t':=s2.toks) hm.keeps;exact hx AA σ H2 _ e DT! I3 ⟨none_ e hm.new,_,_,_,ht,rfl,rfl,rfl,Ed!⟩ h
universe E
universe S
universe E
def U6(X:G!)(AA:v!)(E:V?):G!:={ X with pn:=Wg!,xe:=E }
def oQ(X:G!)(ex:Addr):G!:={ X with A:=X.A.mark (some (As! ex)),calm:=false,xe:=Wp! }
universe S
theorem Cx.Ok.toTry(ok:X.Ok):(U6 X AA E).Ok:=oC!
theorem Cx.Ok.qi(ok:(U6 X AA E).Ok):X.Ok:=oC!
theorem Cx.Ok.toX(ok:X.Ok):(oQ X ex).Ok:=⟨ok.mod,ok.kind,ok.glob,ok.blt,ok.above,ok.inj,ok.has,ok.hX,λz=>I2! z,ok.frames,ok.iV,ok.aq,ok.bs,ok.cu,ok.YE,ok.YH,ok.OA,ok.eO⟩
theorem Je0(I:K!):cL! fZ! []:=ls! Cx.Ok.toTry I.ok (λp hp=>I.pin p (by have ju:p∈(Wg!)++[]:=hp;rwa [AE] at ju))
theorem Jb(I:cL! fZ! aL):K!:=ls! Cx.Ok.qi I.ok (λp hp=>I.pin p (ZB _ hp))
theorem Jdd(I:K!):qY! (oQ X ex):=ls! Cx.Ok.toX I.ok I.pin
theorem P7(I:qY! (oQ X ex))(ok:X.Ok):K!:=vg! ok I.pin
theorem Jez(I:K!)(hn:NH!)(h0:FM X.IE.heap.get? a)(h1:a≠X.env.locals)(h2:P5! (c≠a))(h3:em! (p.1≠a))(ok:uU! K8! a o):xz K8! s:=by
 have ne:∀{b:Addr} {u:HO},JQ!->b≠a:=λe=>Am e hn;refine⟨I.ok,I.os,I.bare,⟨I.base.keep,I.base.slot,λb ob e n hx=>?_,I.base.there,λb xs e=>?_,λb ob u e=>?_,λb ps e=>?_⟩,I.loc,I.cell,Mq! h1 I.free,λx c e=>H! (Ad (h2 x c e)) (I.JG x c e),FV!,XP!,I.len⟩;.rw[Ni! h0];exact I.base.free b ob e n hx
 .have:=I.base.QU b xs e;rw[Ad (ne this)];exact this
 .have:=I.base.OV b ob u e;rw[Ad (ne this)];exact this
 .obtain⟨more,q⟩:=I.base.QV b ps e;exact⟨more,RE! (Ad (ne q))⟩
 .obtain⟨a1,a2,a3⟩:=Z7!;exact⟨a1,i! (h3 p hp) a2,a3⟩
 .by_cases hb:b=a;(.subst hb;rw[Ab] at e;cases e;exact ok);.rw[BT!] at e;exact(I.DK b u e).N_ (dB!) (λc q=>RE! (Ad (ne q))) λc xs q=>RE! (Ad (ne q))
universe E
def Yn(X:G!)(ES:oH!):Prop:=∀(AA:v!)(σ:L2.St)(H:Hp)(s:Shared)(e:Value)(s':Shared),Jf! (ax X.prog X.w X.stack H s (ES σ) e s') (X.xe e s')
universe S
theorem Ji8{X:G!}(F:wN! (ax X.prog X.w))(hr:S9!)(hb:Binds Kx fd ps [])(hx:Yn X ES)(I:K!)(r:Nk!)(h:sp vs H Q (ES σ)):Eo! (M8! call us):=by
 have hl:fW!:=S? r.length (F.len _ _ _ _ h)
 refine wpAny_call (IF (F.run X.A X.stack s H Ng! us vs Q (ES σ) hr I.lI (by have:=hb s us I.YX (YI! hl);rwa [AE] at this) r h) λr s' hq=>?_);cases r with | error e=>exact hx AA σ H s e s' I hq | ok fl =>cases fl with | ret u=>exact I.after hq | next=>exact hq.elim | brk=>exact hq.elim | cont=>exact hq.elim
def Jlz(sp:Sp)(ES:oH!)(t:TA):TE:=kF! (sp vs H1 Q (ES σ))
theorem Jgu{X:G!}(F:wN! (ax X.prog X.w))(hr:S9!)(hg:GU!)(hm:YV! MA!)(hk:W.keepIn Kx MA!=true)(hb:Binds Kx fd ps [])(hx:Yn X ES)(ha:OD!)(eI:Et!:=by decide)(he:Lk!:=by rfl)(VL:T8!:=by rfl):bR! (Jlz sp ES t):=by intro AA s σ H Q I h;refine IG (K5 I hg hm (W.callWith_K (h₀:=X.base) I.ok.mod.ZY hk (Um! (λus s1 ⟨vs,H1,I1,r,q⟩=>⟨I1.YX,Ji8 F hr hb hx I1 r q⟩)) he VL) eI)
universe E
theorem Jlm{M:Model}{A:Around}{E:V?}{s:Shared}{K:W.Frag}{C D e:Addr}{oe:Obj}{Q:h1!}(XK:N2!)(cD:ut! D m_)(lB:o4! C KE!)(he:Rj! e oe)(fE:oe.cls=F? C)(hq:Q true s):LK! (excMatches (Y! e) KE!):=by
 obtain⟨h,g,d,t,os⟩:=s
 obtain⟨nm,q,N,bs,bm,hdct,sn,sub,ab,col,dd,k0,k1,k2,k3,k5,mN,hD,hN,oY,tl⟩:=Jdm XK cD
 have hB:(Value.ref D::bm).contains (GX! "BaseException")=true:=by rw[OF,tl.hasType (b:=true) ZV,Bool.or_true]
 have f:=tc_notTuple
 have LS:=W.looks_mroIn (M:=M) XK lB
 unfold excMatches
 repeat (first|(with_reducible refine wpAny_loadPart_at he ?_;rw[fE])|with_reducible refine wpAny_loadPart_at hD ?_|(with_reducible refine wpAny_isSubtype_exc hD ?_;rw[hB])|with_reducible refine LS.at ?_|wp_step)
 exact hq
def gone(D:Ends)(i:Nat):Ends:={ nx:=λσ H=>D.nx (σ.set i none) H,bk:=λσ H=>D.bk (σ.set i none) H,ct:=λσ H=>D.ct (σ.set i none) H,rt:=D.rt }
def Jnl(K:W.Frag)(D:Addr)(cls:Value)(C:Addr):Prop:=cls=F? C/\o4! C KE!
universe S
universe E
universe E FX
universe N FX
open PySem PySem.Spec PySem.Calls PyProof.Rows L2 Builtin Builtin.ObjectAttr Builtin.Getset_descriptor
set_option maxHeartbeats 400000
universe S
variable {prog:Program}{w:World}{A:Around}{E:Value->Shared->Prop}{s:Shared}{K:W.Frag}{x C:Addr}
universe E
theorem Ud{ds:M!}{its:g!}(h:Vals (ds.map V.ref) its):its=ds.map Value.ref:=by induction ds generalizing its with | nil=>cases h;rfl | cons d ds ih=>cases h with|cons h1 h2=>cases h1;rw[ih h2];rfl
universe S
universe E
universe E FX
universe N FX
open PySem PySem.Spec PyProof.Rows L2
theorem EJ.no{P:Program}{w:World}{K:W.Frag}{mg:v?}{base:Heap}{k:Nat}{f:Addr}{fd:FuncData}{ps:U?}{sp:Sp}(F:sX! El!):EJ P w K mg base cG k f fd ps (OW! sp) :=⟨λvs H Q E q=>F.len vs H Q E0 q,λA outer s H args us vs Q E hr he hb hv hs=>IF (F.run A outer s H args us vs Q E0 hr he hb hv hs) λr s' h=>by cases r with | ok fl=>cases fl<;>exact h | error e=>obtain⟨_,_,_,_,_,z,_⟩:=h;exact z.elim⟩
universe E FX
universe N FX
open PySem L2
universe E FX
universe N FX
open PySem PySem.Spec PyProof.Rows L2
inductive aX(h:Heap)(it d:Addr)(i n ep:Nat):Prop
 | mk (own ok ov:Value) (f:Bool) (_:(own=l?\/∃a:Nat,own=rawInt a)) (_:NA! it { cls:=EF! Iq!,dict:=none,data:=P1! (#[own,bi f,VX!,a! i 0,a! n 0,a! ep 0,ok,ov]),slots:=#[] })
def jI(h:Heap)(a:Addr)(k v:Value):Prop:=HB! (VS! AJ! D0! (#[k,v]))
universe S
variable {prog:Program}{w:World}{A:Around}{E:Value->Shared->Prop}{s:Shared}{it d:Addr}{i n ep:Nat}
theorem aX.ty(x:Tz! s.heap):s.TypeIs FO! Iq!:=let⟨_,_,_,_,_,e⟩:=x;ZE!
theorem aX.to(x:Tz! h)(k:∀o,Fa! h.get? it->Fa! h'.get? it):Tz! h':=let⟨a,b,c,f,g,e⟩:=x;⟨a,b,c,f,g,k _ e⟩
theorem Jk2(h:Q (s.heap.get? a) s):Ao! (loadIfAlive a):=λ_ _ _=>h
theorem Jfu(h:∀h' e,Shared.TypeIs Ix (Y! e) O2!->(aF!)->BH! e Ix):Ao! (newExc (GX! O2!) []):=by
 have first:firstArgMember (GX! O2!) []=pure l?:=by unfold firstArgMember;cases (Manifest.find? O2!).elim false λt=>t.mro.contains O2! || t.mro.contains "SystemExit" <;> rfl
 unfold newExc newTuple;rw[first];refine ZR (CZ (ZR (ZS (CZ (h _ _ jH! (Ab! (ZT _ (ZT _ e)))) (c9!)))) (c9!))
theorem Jgv(hw:Tz! s.heap)(hQ:∀h',Tz! h'->jI h' s.heap.objs.size k v->(lG!)->YN! Ix) :
 Ao! (Builtin.Dict_items.pairFromOwner FO! 6 k v):=by
 obtain⟨own,ok,ov,f,ho,e0⟩:=hw
 have il:it<s.heap.objs.size:=A_ e0
 have zQ:s.heap.objs.size≠it:=FH il
 obtain⟨h1,eh⟩:∃h1,h1=Qk! AJ! D0! ([k,v]:g!).toArray:=z?
 have p1:jI h1 s.heap.objs.size k v:=H! eh CM!
 have k1:WD! hc!:=Ab! (H! eh G5!)
 have e1:=k1 it _ e0
 have fin:∀h2,Tz! h2->uH! it h1 h2->YN! od!:=λh2 x y =>
  hQ h2 x ((y.2 _ zQ).trans p1) (CE! ((y.2 b hb).trans (k1 b o e)))
 have free:aN! (do
  let old:=[<-field FO! 6,<-field FO! (6+1)]
  setField FO! 6 k;setField FO! (6+1) v
  oq! 0 rawInt s.heap.objs.size;oq! 1 bi false
  letGo old [hR!]
  return hR!) O8!:=by
  refine ZR (r1! ok (ZR (r1! ov ?_)))
  refine US! e1 (λg2 q2 b2=>US! q2 (λg3 q3 b3=>US! q3 (λg4 q4 b4=>US! q4 (λg5 q5 b5=>?_))))
  refine So! wpAny_letGo (fin g5 ⟨_,_,_,_,SG! s.heap.objs.size,q5⟩ (Ja! P6!))
  .rw[b5.1,b4.1,b3.1,b2.1]
  .rw[DD! b5.2,DD! b4.2,DD! b3.2,DD! b2.2]
 unfold Builtin.Dict_items.pairFromOwner
 refine ZR (wpAny_newTuple ?_)
 rw[<-eh]
 refine KW!
 unfold Builtin.Dict_items.ownedTupleIsFree
 refine ZR (r1! own ?_)
 rcases ho with rfl|⟨a,rfl⟩
 .exact ZS free
 .show bW! (loadIfAlive ((a:Int).toNat) >>= _)
  refine ZR (Jk2 ?_)
  cases ha:h1.get? (a:Int).toNat with
  | none=>exact ZS free
  | some oa =>
    refine ZR (r1! (bi f) ?_)
    cases f with
    | true=>exact ZS (ZS (fin h1 ⟨_,_,_,_,SG! a,e1⟩ (Heap.SameBut.refl _ _)))
    | false=>exact US! e1 (λg2 q2 b2=>ZS (ZS (fin g2 ⟨_,_,_,_,SG! a,q2⟩ b2)))
theorem Jb5(hv:s.heap.IsItemsView v d)(hm:IO!)(hQ:∀h',aX h' s.heap.objs.size d 0 es.size ep->(aF!)->YN! Ix):vL! pyIter v:=by
 obtain⟨o1,e1,c1,f1⟩:=id hv;obtain⟨o2,e2,c2,f2⟩:=hm;refine wpAny_pyIter_slot hv.typeIs F.slot_dict_items_iter (DG F.slot_dict_items_iter hv.typeIs F.entry_dict_items_iter ?_ (F.args_dict_items_iter_1 _));unfold Builtin.«dict_items.__iter__» Builtin.Dict_items.dictOf Builtin.Dict_items.newIterator;refine kZ! (KI (x:=VX!) e1 f1 rfl (ZS (ZR (ZR (CK e2 f2 (ZR (FA e2 f2 ?_)))))));have own:Tk Builtin.Dict_items.ownsTuple Iq!:=w?
 simp only[own,HU,CY,ER];refine CZ (ZS (IT! Iq! jH! F.slot_dict_itemiterator_next.lookup ?_)) (by simp[sizeOk,Builtin.Dict_items.ownedTupleFields,DR]);exact hQ _ ⟨l?,l?,l?,false,Ed!,(ZU _ rfl).trans (by simp[rawInt,Builtin.Dict_items.ownedTupleFields])⟩ Fz!
theorem Jb4{es:C9!}{Q:AC! hm!}(hw:eJ! s.heap i es.size)(hm:IO!)(hi:i<es.size)(hQ:∀h',eJ! h' KE es.size->jI h' s.heap.objs.size es[i].key es[i].val->(lG!)->Q (L4! s.heap.objs.size) Ix):p3!:=by
 have ty:=hw.ty;obtain⟨own,ok,ov,f,ho,e0⟩:=hw;obtain⟨o2,e2,c2,f2⟩:=hm;have kl:Tk Builtin.Dict_items.ownsTuple Iq!:=w?
 unfold pyNext;refine sL! ty ID (DG ID ty F.entry_dict_itemiterator_next (ZR (IQ! ?_)) (F.args_dict_itemiterator_next_1 _));refine Qg! (HY ty (IQ! (wpAny_fieldsOf e0 rfl ?_)));simp only[kl,HU];refine iz! (ox! _ (Lm! fJ! _ _) _ _);rw[nF!];refine aR! e2 f2;rw[C6!];refine k0! e2 f2;rw[C6!];refine ZS ?_;simp only[Ls! nD!,ER,CQ,Array.getElem?_eq_getElem hi];refine Qg! (HY ty (IQ! (YU ty ?_)));refine iz! (ox! _ (oq! 3 rawInt (l!+1) >>= _) _ _);refine US! e0 (λh1 q1 b1=>?_);have w1:eJ! h1 KE es.size:=⟨own,ok,ov,f,ho,by rw[show s? (i+1)=l!+1 by rfl];simpa [rawInt] using q1⟩;have ty1:Shared.TypeIs O8! FO! Iq!:=aX.ty (s:=O8!) w1;refine d4! EY (YU ty1 (ZR (YU ty1 ?_)));refine Jgv (s:=O8!) w1 λh2 w2 p2 k2=>?_;have z1:h1.objs.size=s.heap.objs.size:=b1.1;dsimp only at p2 k2 ⊢;rw[z1] at p2 ⊢;exact ZS (KF (ZS (hQ h2 w2 p2 (CE! (k2 b o hb ((b1.2 b hb).trans e))))))
theorem Jey{es:C9!}{Q:AC! hm!}(hh:Ow!)(hw:eJ! s.heap i es.size)(hm:IO!)(hi:es.size<=i)(hQ:∀h',(lG!)->Q none Ix):p3!:=by
 have ty:=hw.ty;obtain⟨own,ok,ov,f,ho,e0⟩:=hw;obtain⟨o2,e2,c2,f2⟩:=hm;have kl:Tk Builtin.Dict_items.ownsTuple Iq!:=w?
 unfold pyNext;refine sL! ty ID (DG ID ty F.entry_dict_itemiterator_next (ZR (IQ! ?_)) (F.args_dict_itemiterator_next_1 _));refine Qg! (HY ty (IQ! (wpAny_fieldsOf e0 rfl ?_)));simp only[kl,HU];refine iz! (ox! _ (Lm! fJ! _ _) _ _);rw[nF!];refine aR! e2 f2;rw[C6!];refine k0! e2 f2;rw[C6!];refine ZS ?_;simp only[Ls! nD!,ER,CQ,Array.getElem?_eq_none hi];refine ka! HY ty;refine ZR (GF (k:=2) e0 Db λh1 q1 b1=>?_);refine ZR (Jfu λh2 x t2 k2=>wpAny_raiseNew_none hh (ZR (wpAny_isInstance t2 isSubtype_stop (ZS (hQ h2 (CE! (k2 b o ((b1.2 b hb).trans e))))))))
universe E
def dg(h:Heap)(it:Addr)(es:C9!)(as:M!):Prop:=∀(j:Nat)(a:Addr),as[j]?=A! a->it<a/\∃e:DictEntry,es[j]?=A! e/\jI h a e.key e.val
theorem dg.to(x:a2! h)(k:wC! (it<b) De!):a2! h' :=λj a e=>let⟨l,d,e1,e2⟩:=x j a e;⟨l,d,e1,k a _ l e2⟩
theorem dg.more(x:a2! h)(hi:as.length<es.size)(l:it<a)(p:jI h a es[as.length].key es[as.length].val):dg h it es (as++[a]):=λj b e=>by rcases Nat.lt_trichotomy j as.length with hj|hj|hj;(.rw[PF hj] at e;exact x j b e);(.subst hj;(have e':a=b:=EA!);subst e';exact⟨l,_,VF!,p⟩);.rw[DP (by simp;assumption)] at e;cases e
universe S
theorem Sm(hh:Ow!)(l1:S<it)(n1:d≠S)(n2:d≠it)(hz:es.size<=sizeLine)(res:Value) : ∀(k:Nat)(s:Shared)(as:M!)(c:Nat),as.length+k=es.size->eJ! s.heap as.length es.size->IO!->Su! s.heap.get? Je! c->a2! s.heap->as.Nodup -> (∀h' JZ c',JZ.length=es.size->JZ.Nodup->(xL (b≠S->b≠it->DS!->V5!))->Su! h'.get? (P7! JZ.map Value.ref) c'->dg h' it es JZ->R (.ok (.ret res)) Ix) -> qF! (D3! "list.extend.loop" ⟨[F? S,F? it,res],[]⟩) R s
 | 0,s,as,c,hk,iw,rd,hS,ps,nd,q=>by refine Y' PySem.F.entry_extend_loop ?_;rw[OG F' _];refine(ZR (m:=pyNext (As! it)) (Jey hh iw rd F! λh' kp=>ZS (q h' as c (hz!) nd (λb o _ hb e=>kp b o hb e) (kp S _ (BV l1) hS) (ps.to (WM! kp (FH hb))))))
 | k+1,s,as,c,hk,iw,rd,hS,ps,nd,q=>by (have hi:as.length<es.size:=B!);have al:it<s.heap.objs.size:=let⟨_,_,_,_,_,e⟩:=iw;B1!;refine Y' PySem.F.entry_extend_loop ?_;rw[OG F' _];refine ZR (m:=pyNext (As! it)) (Jb4 iw rd hi λh1 iw1 p1 k1=>?_);have mS:=k1 S _ (BV l1) hS;(have sz:(as.map Value.ref).toArray.size=as.length:=x!);refine ZR (m:=updateSeq S (·.push (Value.ref s.heap.objs.size))) (wpAny_updateSeq mS rfl (ZS (Ch (plainId_quiet F' _))) (Dk! sz) (W2! Array.size_push sz));have up:xL (b≠S->hc!->Ad! (h1.update S (Obj.mapSeq (·.push (Value.ref s.heap.objs.size)))).get?):=CE! (l5! e);refine Sm hh l1 n1 n2 hz res k (Ou! (h1.update S (Obj.mapSeq (·.push (Value.ref s.heap.objs.size))))) (as++[s.heap.objs.size]) (c+1) (fR!) (q! ZE (iw1.to λo e=>up it o (FH l1) e)) (rd.at λo e=>up d o n1 (k1 d o n2 e)) ?_ ?_ ?_ λh' JZ c' a1 a0 a2 a3 a4=>q h' JZ c' a1 a0 (λb o hb hc e=>a2 b o hb hc (up b o hb (k1 b o hc e))) a3 a4;(.refine(LW mS _).trans ?_;simp[seqObj]);(.exact dg.more (ps.to (CE! (up b o (FH (RA l1 hb)) (k1 b o (FH hb) e)))) hi al (up _ _ (FH (RA l1 al)) p1));.refine QL! nd x! (λa ha b hb z=>?_);(have e:b=s.heap.objs.size:=Bh!);obtain⟨j,hj⟩:=DA.mp ha;obtain⟨_,_,_,e2⟩:=ps j a hj;exact ME! A_ e2 (ga z e (DN _))
universe E
universe S
theorem T7(hh:Ow!)(hv:s.heap.IsItemsView v d)(hm:IO!)(hz:es.size<=sizeLine)(h:∀h' as it,as.length=es.size->as.Nodup->s.heap.objs.size<=it->(aF!)->a2! h'->R (as.map Value.ref) Ix) : UQ! (collect (As! v)) R:=by
 have lv:v<s.heap.objs.size:=let⟨_,e,_⟩:=hv;B1!;have ld:d<s.heap.objs.size:=let⟨_,e,_⟩:=hm;B1!;unfold collect;refine ZR (wpAny_runValue (Y' PySem.F.entry_proto_collect ?_));rw[OG PySem.F.plain_proto_collect _];refine ZR (m:=newList []) (CZ (ZS ⟨plainId_quiet PySem.F.plain_list_iadd _,Y' PySem.F.entry_list_iadd ?_⟩) (c9!));rw[OG PySem.F.plain_list_iadd _];generalize v7:Qk! SB D0! ([]:g!).toArray=h0;have gS:jY! h0.get? s.heap.objs.size (#[]):=S? v7 CM!
 have k0:WD! (Ad! h0.get?):=Ab! (S? v7 G5!)
 have vQ:h0.IsItemsView v d:=let⟨o,e,r⟩:=hv;Bq! (k0 v o e) r;have sJ:Vq! h0:=hm.at λo e=>k0 d o e;have z0:h0.objs.size=G4!:=O9! v7 Heap.size_push
 have low:WD! (b<s.heap.objs.size):=Ab! B1!;obtain⟨S,hS⟩:∃S:Addr,S=s.heap.objs.size:=z?;rw[<-hS] at gS z0 lv ld low ⊢;have lS:S<h0.objs.size:=H! z0 (IS _)
 refine iz! (PE! prog w _ (Builtin.List.listExtendWith (Y! S) X4! (Y! S)) _ _ { s with heap:=h0 });have fin:∀(R':AC! Result),(∀h' JZ c',JZ.length=es.size->JZ.Nodup->(aF!)->Su! h'.get? (P7! JZ.map Value.ref) c'->dg h' h0.objs.size es JZ->R' (.ok (.ret (As! S))) Ix) -> ∀h1 c1,aX h1 h0.objs.size d 0 es.size ep->Vq! h1->Su! h1.get? (#[]) c1->(WD! hc!)->qF! (D3! "list.extend.loop" ⟨qH! S h0.objs.size S,[]⟩) R' O8!:=λR' q h1 c1 a1 a2 a3 a4 =>Sm hh lS (BV ld) (BV (RA ld lS)) hz _ es.size O8! [] c1 Db a1 a2 (by simpa using a3) (λj a e=>fx!) DL λh' JZ c' q1 q0 q2 q3 q4=>q h' JZ c' q1 q0 (Ab! (q2 b o (BV (Cs! low)) (BV (RA (Cs! low) lS)) (Cs! a4))) q3 q4;unfold Builtin.List.listExtendWith;refine ZR (wpAny_typeOf (T:=VH!) (Heap.IsItemsView.typeIs (s:={ s with heap:=h0 }) vQ) ?_);have n1:r? (Builtin.List.listSameRef (Y! S) X4!):=by simp[Builtin.List.listSameRef,FH lv]
 have n2:AE! (Q7! VH! == Q7! SB):=w?
 have n3:AE! (Q7! VH! == Q7! AJ!):=w?
 simp only[n1,n2,n3,Bool.or_false,CY,ER];refine ZR (Jb5 (s:={ s with heap:=h0 }) vQ sJ λh1 iw k1=>?_);refine NV! (W.kdx_hint (s:=O8!) (let⟨o,e,c,_⟩:=vQ;Bq! (k1 v o e) c) ?_);have sN:=E! k1 gS;have loop:∀h2 c2,(xL (b≠S->hc!->Ad! h2.get?))->Su! h2.get? (#[]) c2 -> codeAny e7! A (D3! "list.extend.loop" ⟨qH! S h0.objs.size S,[]⟩) (λq s'=>∃h' JZ c',q=o3! As! S/\s'=Ix/\JZ.length=es.size/\JZ.Nodup/\(aF!)/\Su! h'.get? (P7! JZ.map Value.ref) c'/\dg h' h0.objs.size es JZ) od!:=λh2 c2 k2 g2 =>fin _ (λh' JZ c' a1 a0 a2 a3 a4=>⟨h',JZ,c',rfl,rfl,a1,a0,a2,a3,a4⟩) h2 c2 (iw.to λo e=>k2 _ o (FH lS) e) (sJ.at λo e=>k2 d o (BV ld) (k1 d o e)) g2 (Ab! (k2 b o (BV (Cs! low)) (k1 b o (Cs! k0))));refine wpAny_ite_split (λ_=>?_) (λ_=>ZS (Ch (plainId_quiet F' _)));.refine ZR (wpAny_rule (ZR (m:=updateSeq S (·.push .none) >>= λ_=>updateSeq S (·.pop)) (ZR (wpAny_updateSeq sN rfl (wpAny_updateSeq (LW sN _) rfl (ZS (Ch (plainId_quiet F' _))) ?_ ?_) ?_ ?_))));(.refine IF (o! loop (CE! (l5! (l5! e))) (LW (LW sN _) _)) λq s' y=>?_;obtain⟨h',JZ,c',rfl,rfl,a1,a0,a2,a3,a4⟩:=y;refine ZR (m:=load S) (wpAny_load a3 (ZS ?_));exact h h' JZ _ a1 a0 (EX! hS (DH lS)) a2 a4);all_goals (simp[seqObj,DR])
 .refine IF (loop h1 0 (λb o _ e=>e) sN) λq s' y=>?_;obtain⟨h',JZ,c',rfl,rfl,a1,a0,a2,a3,a4⟩:=y;refine ZR (m:=load S) (wpAny_load a3 (ZS ?_));exact h h' JZ _ a1 a0 (EX! hS (DH lS)) a2 a4
universe E
universe S
theorem Jb8{vs:g!}{ns:j!}(p:TH!):ItemsAre (intKind prog w) ns vs:=by induction p with | nil=>exact L! | cons n t _ ih=>exact K? (intKind_is prog w n t) ih
theorem Pw(x:nM! a)(y:P4! its.toList):IsTupleKey (intKind prog w) h ns a :=let⟨o,ho,hc,n,hd⟩:=x;⟨o,its,n,ho,hc,hd,Jb8 y⟩
inductive OX(h:Heap)(a:Addr)(q:j!×Int):Prop
 | mk ka its t (_:jI h a (Y! ka) (a! q.2 t)) (_:nM! ka) (_:IntsAre its.toList q.1)
theorem OX.to(k:wC! De! XX!)(x:OX h a q):OX h' a q :=let⟨ka,its,t,e1,⟨o,ho,hc,r⟩,e3⟩:=x;⟨ka,its,t,o! k e1 rfl,⟨o,k ka o ho hc,hc,r⟩,e3⟩
theorem Jjl(hu:YX!)(x:OX s.heap a p)(y:OX s.heap b q)(same:p.1=q.1->p.2=q.2)(h:C (HT.lexLt p.1 q.1) s) : ox! A (keyLt' (tuples' false) T0 FN!) C uf!:=by
 obtain⟨ka,its,t,e1,e2,e3⟩:=x;obtain⟨kb,jts,u,f1,f2,f3⟩:=y;refine W.kat_lt e1 rfl f1 rfl (W.kat_cons (wpAny_eqBool_tuple hu (Pw e2 e3) (Pw f2 f3) (W.kat_go (λe=>W.kat_yes (W.kat_cons (wpAny_eqBool_int (W.kat_go (λ_=>W.kat_yes (W.kat_nil ?_)) AX!)))) λe=>W.kat_no (E! W.kat_one (HT.bO e2 f2 e3 f3 hu h)))));.have e:=BU e;rw[e,P6] at h;exact h
 .rw[same (BU e)] at z;simp at z
def K9(h:Heap):hZ! (Ac! (j!×Int)):=Paired (OX h)
theorem Xb{as:M!}{L:Ac! (j!×Int)}(p:K9 h as L):∃fs:g!,W.KatTups h s7! fs/\fs.length=as.length/\∀v∈fs,∃ka its,v=Value.ref ka/\nM! ka:=by induction p with | nil=>exact Au! [] trivial (λv hv=>by simp at hv) | cons r _ ih =>obtain⟨ka,its,t,e1,e2,e3⟩:=r;obtain⟨fs,a1,a2,a3⟩:=ih;refine⟨Rn!::fs,W.KatTups.cons e1 rfl rfl rfl a1,by simp[a2],RP!⟩;rcases ZM hv with rfl|hv;(.exact Au! ka its e2);.exact a3 v hv
theorem Ux(x:K9 h as L)(hi:dI!):∃a q,Qb!=A! a/\L[i]?=A! q/\RR! i l?=Os/\pk! q.1/\OX h a q:=by
 have hl:=y! x;obtain⟨a,ha⟩:=q? Au xs as j i hi;obtain⟨q,hq⟩:=kY! L;refine⟨a,q,ha,hq,?_,?_,Ax x i a q ha hq⟩;.rw[IL,ZH,ha];rfl
 .rw[IL,ZH,hq];rfl
theorem Jaf(hu:YX!)(ho:K3! s.heap.get? Je! n)(cg:as.length<64)(x:K9 s.heap as L)(nd:o? L.map)(h:∀q:C2!,aK! as.length->bs! (co! Jd! Jd!)->∀h' c,(lF!)->K3! h'.get? (b9! RR!) c->P ng! Ix) : UQ! (Builtin.«list.sort» Nh!) P:=by
 have hl:=y! x;have jv:nG!=as.length:=ZA ..;have key:∀i,dI!->∃h:i<(L.map (·.1)).length,pk! ((L.map (·.1))[i]):=λi hi=>⟨Hb!,RQ! (i<L.length)⟩;have one:∀i j,dI!->j<as.length->pk! (Jd! j [])->i=j:=λi j hi hj e=>by obtain⟨l1,e1⟩:=key i hi;obtain⟨l2,e2⟩:=key j hj;rw[e1,e2] at e;exact(FN nd).mp e
 refine U1 (lt:=λi j=>co! Jd! Jd!) ho (hj! cg) ⟨λi j k _ _ _=>Xw,λi j hi hj bc e=>Xx (X? bc (one i j F! F! z)) e⟩ (λh2 h' kp Q hQ=>?_) (hj! h);have x':K9 h' as L:=An (λb q y=>y.to λb o e c=>kp b o (λz=>by rw[z,ho] at e;cases e;exact EL! (show Value.type SB=Value.type AJ! from c) JX!) e) x;obtain⟨fs,f1,f2,f3⟩:=Xb x';refine W.kat_kind (s:=Ix) (T:=ux!) f1 (Dk! f2) (RP!) rfl (hQ _ λi j hi hj C hC=>?_);.obtain⟨ka,its,rfl,o,e,c,_⟩:=f3 v hv;have z:W.Looks e7! h' (typeOf (As! ka)) o.cls:=(W.Looks.ld e).andThen .now;rw[c] at z;exact z
 .rw[jv] at hi hj;obtain⟨a1,q1,g1,g2,g3,g4,g5⟩:=Ux x' hi;obtain⟨a2,q2,k1,k2,k3,k4,k5⟩:=Ux x' hj;unfold W.kas_ask;rw[g3,k3];dsimp only at hC;rw[g4,k4] at hC;refine u5! Jjl hu g5 k5 (AX!) hC;have e:=one i j hi hj (by rw[g4,k4,z]);subst e;rw[g2] at k2;cases k2;rfl
universe E
def lay(H:Hp):X6!->Hp
 | []=>H
 | p::r=>Cw! (lay H r) p.1 p.2
theorem Xz:∀{ps:X6!},b∉C? ps.map->lay H ps b=H b
 | [],_=>rfl
 | p::r,h=>by have h1:b≠p.1:=X? h (Jx! Ai!);show(upd (lay H r) p.1 (.BB p.2)) b=_;rw[Ad h1];exact Xz λz=>h (Aj! z)
theorem Jda:∀{ps:X6!},o? ps.map->∀p∈ps,lay H ps p.1=A! (.BB p.2)
 | [],_,p,hp=>AL! hp
 | q::r,nd,p,hp=>by have NR:=Bd!;rcases ZM hp with rfl|hp;(.exact Ab);.have ne:p.1≠q.1:=V8! NR.1 ⟨p,hp,z⟩;show(upd (lay H r) q.1 (.BB q.2)) p.1=_;rw[Ad ne];exact Jda NR.2 p hp
universe S
def Jpf(X:G!)(AA:v!)(a:Addr):Prop:=FM X.IE.heap.get? a/\a≠X.env.locals/\(P5! (c≠a))/\em! (p.1≠a)
theorem Jrp(I:K!)(h:Wk!):Jpf X AA a :=let x:=I.bG (H':=Ov!) h rfl;⟨Heap.get?_none_of_le (AV I.sz h),HK!,x.2.2.2.2.1,x.2.2.2.2.2⟩
theorem Jde:∀{ps:X6!},K!->o? ps.map->(∀p∈ps,Jpf X AA p.1/\h? p.1/\∀H',uU! H' p.1 (.BB p.2))->xz lq! s
 | [],I,_,_=>I
 | p::r,I,nd,h=>by have NR:=Bd!;obtain⟨⟨a1,a2,a3,a4⟩,a5,a6⟩:=Eq! p;exact Jez (Jde I NR.2 (No (h q (Aj! hq)))) (q! (Xz NR.1) a5) a1 a2 a3 a4 (a6 _)
universe E
inductive RecAt(H:Hp)(a:Addr)(q:Bi!):Prop
 | mk ka (_:Kt! [Rn!,T! q.2]) (_:bG!)
theorem Jms{P:Program}{w:World}{H:Hp}{h1:Heap}{n:Nat}{as:M!}{L:V!}(p:C4! (λa q=>n<=a/\∃ka t,jI h1 a (Y! ka) (a! q.2 t)/\bG!) as L) : ∃ps:X6!,C? ps.map=as/\(∀p∈ps,n<=p.1/\∀H',DU P w H' h1 p.1 (.BB p.2))/\C4! (λp q=>∃ka,p.2=[Rn!,T! q.2]/\bG!) ps L:=by induction p with | nil=>exact⟨[],rfl,λp hp=>by(cases hp),L!⟩ | @cons a q _ _ r _ ih =>obtain⟨la,ka,t,e1,e2⟩:=r;obtain⟨ps,b1,b2,b3⟩:=ih;refine⟨(a,[Rn!,T! q.2])::ps,z! AI b1,FV!,K? (FT! ka e2) b3⟩;rcases ZM hp with rfl|hp;(.exact⟨la,λH'=>⟨qV! gI! DR (Nat.le_add_left _ _),[Rn!,a! q.2 t],K? rfl (K? ZP! L!),A1! e1 rfl _ rfl⟩⟩);.exact b2 p hp
universe S
variable {X:Cx Kx}
inductive L0(xs:C!)(H:Hp)(Q:VK):Prop
 | mk v d (L rs:V!) (_:xs=[F? v]) (_:HM! v (X6 v d)) (_:k8! L) (_:L.length<64) (_:rs.Perm L) (_:IY!) (_:∀(r:Addr)(as:M!)(H':Hp),KX! KM C5! (Ti! r) (mU! H') r)
theorem Nk(hc:BB!)(hu:IH!):li! L0:=by
 intro AA s σ H xs us Q I rv h;obtain⟨v,d,L,rs,rfl,hv,hd,cg,pm,pw,q⟩:=h;obtain⟨u,rfl,rx⟩:=vals1 rv;cases rx;obtain⟨z,lo,ys,rel,o,es,ep,g1,g2,g3,g4,g5⟩:=fX! (Dt L) hd;have vw:s.heap.IsItemsView v d:=(I.DK v _ hv).1;have hes:es.size=ys.length:=J' g4;have hyl:ys.length=L.length:=f5! GC! ZA this.symm
 have ent:∀(j:Nat)(e:DictEntry)(q:Bi!),es[j]?=A! e->L[j]?=A! q->∃ka t,e.key=Rn!/\e.val=a! q.2 t/\bG!:=λj e q h1 h2=>by rw[entry_at g4 j] at h1;cases hy:ys[j]? with | none=>rw[hy] at h1;cases h1 | some y =>rw[hy] at h1;cases h1;obtain⟨r1,r2,r3⟩:=Ax rel j vN! y (CS! h2) hy;obtain⟨t,r3⟩:=r3;exact⟨y.2.1,t,rfl,r3,r2⟩
 have ndL:o? L.map:=(pm.map (·.1)).nodup_iff.mp (List.Pairwise.imp (λ{a b} (h:IY a b) (z:a=b)=>oZ!) pw);refine RD kind_sorted plain_sorted entry_sorted (args_sorted1 _) (by unfold Builtin.«sorted»;refine ZR (m:=checkCount O3! 1 1 _) (IQ! (T7 (DU! _ (I.ok.hd hc)) vw ⟨o,g1,g2,g3⟩ (VJ! hes hyl DR) λh1 as it hl ri hit kp rQ=>?_));have I1:I1! { s with heap:=h1,toks:=s.toks }:=I.kept kp;(have iK:as.length=L.length:=B!);(have fct:C4! (λa q=>Wk!/\∃ka t,jI h1 a (Y! ka) (a! q.2 t)/\bG!) as L:=E9 iK (qk! (by obtain⟨la,e,e3,e4⟩:=rQ j a e1;obtain⟨ka,t,k1,k2,k3⟩:=ent j e q e3 e2;rw[k1,k2] at e4;exact⟨DH (JK hit la),ka,t,e4,k3⟩)));obtain⟨ps,b1,b2,b3⟩:=q? Jms P X.prog w X.w fct;have i7:∀a,Wk!->NH!:=λa ha=>I.DK.fresh ha;have I2:xz lq! { s with heap:=h1,toks:=s.toks }:=Jde I1 (q! b1 ri) λp hp=>⟨Jrp I (b2 p hp).1,i7 _ (b2 p hp).1,(b2 p hp).2⟩;(have sm:BQ! lq!:=VG! (by rw[Xz (AX!)];(.exact e);.obtain⟨p,hp,rfl⟩:=ZN z;rw[i7 _ (b2 p hp).1] at e;cases e));(have yd:E4! (RecAt (lay H ps)) as L:=by rw[<-b1];refine E9 (FU! (y! b3)) (qk! ?_);rw[ZH] at e1;cases hp:ps[j]? with | none=>rw[hp] at e1;cases e1 | some p =>rw[hp] at e1;cases e1;obtain⟨ka,k1,k2⟩:=Ax b3 j p q hp e2;exact⟨ka,z! (Jda (q! b1 ri) p (ZP hp)) k1,Ef! k2⟩);(have yj:K9 h1 as (L.map OQ!):=E9 (FU! iK) (qk! (by rw[ZH] at e2;cases hq:L[j]? with | none=>rw[hq] at e2;cases e2 | some q0 =>rw[hq] at e2;cases e2;obtain⟨_,ka,t,k1,k2⟩:=Ax fct j a q0 e1 hq;obtain⟨its,rv,it2,_⟩:=I1.tuple (CA.of k2);exact⟨ka,its.toArray,t,k1,it2,Ge! (intsAre_of (ns:=[q0.1.1,q0.1.2]) rv)⟩)));(have eK:EV! (L.map OQ!).map L.map (λq=>[q.1.1,q.1.2]):=F0!);(have ndK:o? (L.map OQ!).map:=by (have e:(L.map λq=>([q.1.1,q.1.2]:j!))=(L.map CD!).map gW!:=F0!);rw[eK,e];exact List.Pairwise.map _ (λa b h z=>h (by obtain⟨a1,a2⟩:=a;obtain⟨c1,c2⟩:=b;simp at z;rw[z.1,z.2])) ndL);refine ZR (wpAny_newList ?_ (ea! DR));have g1:jY! (h1.push (seqObj "list" (as.map Value.ref).toArray 0)).get? h1.objs.size Je!:=CM!;have yi:K9 w0! as (L.map OQ!):=An (λa q y=>y.to λb o e _=>G5!) yj;refine NV! (DG slot_list_sort (EP! g1) entry_list_sort (Jaf (FA! (X.A.units+1+1<cLine)) g1 F! yi ndK λp pp po h2 c u_ e=>hp!) (args_list_sort _));have hn:h? h1.objs.size:=ZB!;have gK:lay H ps h1.objs.size=none:=ZC!;have inr:∀i∈p,dI!:=λi hi=>BN.mp (pp.mem_iff.mp hi);(have eR:p.map (λi=>L.getD i ja!)=rs:=by refine Lo (lt:=λa b:T2×Int=>IY a.1 b.1) (λa z=>by rw[Fj] at z;lia) (λa b h1 h2=>by rw[Fj] at h1 h2;lia) ?_ ?_ (EX! (EA (f:=An!) (R:=IY)) pw);(·(have e2:(List.range as.length).map (λi=>L.getD i ja!)=L:=by refine qS!;rw[ZH];by_cases hj:kA!;(.rw[show(List.range as.length)[j]?=A! j by simp[iK,hj]];simp[hj]);.rw[show(List.range as.length)[j]?=none by simp[iK];exact Se!,DP (J1! II.mp)];rfl);have e7:=pp.map λi=>L.getD i ja!;rw[e2] at e7;exact e7.trans pm.symm);.rw[EA];refine List.Pairwise.imp_of_mem (λ{i j} hi hj z=>?_) po;have li:=inr i hi;have lj:=inr j hj;rw[eK] at z;simpa [IY,Ls! (i<L.length),Ls! kA!] using z);(have eV:(p.map λi=>RR! i l?)=(p.map IX!).map Value.ref:=by rw[AN];refine CL λi hi=>?_;have:=inr i hi;simp[this]);(have yc:WZ! (Ly! lq! h1.objs.size (p.map IX!).map) (p.map IX!) rs:=by rw[<-eR];refine E9 (z! ZA ZA) (qk! ?_);rw[ZH] at e1 e2;cases hp:p[j]? with | none=>rw[hp] at e1;cases e1 | some i =>rw[hp] at e1 e2;cases e1;cases e2;have li:=inr i (ZP hp);obtain⟨ka,k1,k2⟩:=Ax yd i (as.getD i 0) (L.getD i ja!) (by simp[li]) (RQ! (i<L.length));exact⟨ka,Ag gK _ _ k1,Ag gK _ _ k2⟩);refine ZS (IT! (F? h1.objs.size) (I2.laid (a:=h1.objs.size) (o:=.BJ ((p.map IX!).map V.ref)) (t':=s.toks) (λb o hb=>u_ b o (BV (A_ hb)) (ZT _ hb)) ci (Bw! ?_ ((p.map IX!).map Value.ref) c (Nz _))) rfl (q _ (p.map IX!) _ (Ai sm (Ag gK)) hn Ab yc));(.rw[ZA,ZA,pp.length_eq,BW,DR];lia);.rw[<-eV];exact e)
universe E
theorem Sg(f:NQ!):∀(xs:U!)(j:Nat),(xs.map f).eraseIdx j=mB! f
 | [],_=>rfl
 | _::_,0=>rfl
 | x::xs,j+1=>Px! (f x :: ·) (Sg f xs j)
universe S
variable {prog:Program}{w:World}{K:Type}[DecidableEq K]{knd:HeapKind prog w K}{A:Around}{E:Value->Shared->Prop}{s:Shared}
theorem V3{d a:Addr}{xs:Fb!}{k:K}{p:Addr×Value}{j:Nat}{Q:AC! (Go! DictEntry)}(hu:oE!)(aH:qe!)(hm:px!)(hz:Dz!)(hj:pc U7! k p)(hQ:∀h' o es ep,Qh! h'.get?->o.ExactDict->HW!->es.toList=mB! (entryOfKey knd)->Tb!->Q (some (entryOfKey knd (k,p))) { s with heap:=h',toks:=s.toks+YR! }) : Ao! (Builtin.Dict.takeOut d T0):=by
 obtain⟨o,es,ep,ho,hc,hd,he,his,hn⟩:=hm;unfold Builtin.Dict.takeOut;refine EY (ZR (knd.pyHash hu aH (ZR (wpAny_dictFind_heap (s:=ua! YR!) hu aH ho hd he his hn (λno=>absurd hj (no j p)) λi q hi=>?_))));obtain rfl:=idxH_unique hn hi hj;rw[hj] at hi;cases hi;refine ZR (CK (s:=ua! YR!) ho hd ?_);rw[entry_at he i,hj];refine ZR (wpAny_updateDictKeys (hz:=H! (J' he) hz) (s:=ua! YR!) ho hd (ZS (hQ _ _ _ _ (GQ _ ho (PJ (HJ hd _))) (hc.mapDictKeys _) (HJ hd _) ?_ HT!)));have e1:(es.eraseIdxIfInBounds i).toList=es.toList.eraseIdx i:=x!
 rw[e1,he];exact E! Sg _
theorem Jgn{d a:Addr}{xs:Fb!}{k:K}{p:Addr×Value}{j:Nat}{Q:AC! PySem.Fin}(hu:oE!)(aH:qe!)(hm:px!)(hz:Dz!)(hj:pc U7! k p)(hQ:∀h' o es ep,Qh! h'.get?->o.ExactDict->HW!->es.toList=mB! (entryOfKey knd)->Tb!->Q (.done (.ret p.2)) { s with heap:=h',toks:=s.toks+YR! }) : Ao! (Builtin.«dict.pop» ⟨[VX!,Os],[]⟩):=by
 have ty:=hm.typeIs;obtain⟨o,es,ep,ho,hc,hd,he,his,hn⟩:=id hm;have ne:es.isEmpty=false:=by have h1:=J' he;have h2:U8!:=Yf!;cases h3:es.isEmpty with | false=>rfl | true=>rw[KQ] at h3;lia
 unfold Builtin.«dict.pop» Builtin.Dict.keyAndDefault;refine ka! IU ty;dsimp only;rw[AB (show ¬(keyPart (Value.ref a)).isSome=true from AR)];refine ZR (CK ho hd (ZR (ZS ?_)));rw[hr! ne];refine ZR (V3 hu aH hm hz hj λh' o' j' kC a1 a2 a3 a4 a5=>?_);exact So! wpAny_letGo (hQ h' o' j' kC a1 a2 a3 a4 a5)
universe E
universe S
variable {κ:Type}[DecidableEq κ]
theorem Te:∀{kvs:AG!} {k:κ} {v:V} {j:Nat},o? kvs.map->pc (kvs[j]?) k v->Ej kvs k=kvs.eraseIdx j
 | [],_,_,j,_,h=>Ce!
 | p::r,k,v,0,nd,h=>by (have h:p=(k,v):=UF);have NR:=Bd!;rw[Je9 (AM! h),Tg (by rw[h] at NR;exact NR.1)];rfl
 | p::r,k,v,j+1,nd,h=>by (have h:pc (r[j]?) k v:=UF);have NR:=Bd!;have ne:¬Dm!:=V8! NR.1 ⟨(k,v),ZP h,z.symm⟩;rw[Vq ne,Te NR.2 h];rfl
theorem Jcn:∀{kvs:AG!} {k:κ} {v:V},Y7!->∃j:Nat,pc (kvs[j]?) k v
 | [],k,v,h=>Dn!
 | p::r,k,v,h=>by by_cases e:Dm!;(.rw[F0 e] at h;exact⟨0,by rw[<-e,<-ZO h];rfl⟩);.rw[F1 e] at h;obtain⟨j,hj⟩:=Jcn h;exact⟨j+1,by simpa using hj⟩
universe E
universe S
variable {X:Cx Kx}{AA:List (Addr×Obj)}{σ:L2.St}{H:Hp}{s:Shared}{A:Around}{E:Value->Shared->Prop}{a b:Addr}
theorem Jah{kvs:wv}{xs:Ie!}(p:Ga!):MY! xs.map kvs.map:=m8! xc r.1.symm
theorem Jm6{kvs:wv}{k:EG!}{v:V}{Q:V?}(hu:LF!)(I:K!)(e:aE!)(eb:UR!)(l:Y7!)(h:bn! (xz (AP! a .dT W6!) s') (RelV v w')):Zl! "dict.pop" [Os,Uf]:=by
 obtain⟨z,hd,xs,rel,dd⟩:=PW! Vp;have hz:Dz!:=Mt! GC!
 obtain⟨j,hj⟩:=Jcn l;have hjx:U8!:=HD! GC! hj
 obtain⟨x,hx⟩:=Au hjx;obtain⟨r1,r2,r3⟩:=Ax rel j _ _ hj hx;obtain⟨k',p⟩:=x;have r1:k=k':=r1;subst r1;have nd:o? kvs.map:=by obtain⟨_,_,_,_,_,_,_,_,nd⟩:=id dd;rw[<-Jah rel];exact nd
 have ik:o? mB!:=by rw[<-Sg,Jah rel];exact nd.sublist (List.eraseIdx_sublist _ _)
 refine DG KJ dd.typeIs PySem.F.entry_dict_pop (Jgn (FD hu) cd! dd hz hx λh' o es ep a1 a2 a3 a4 a5=>KF (o! h ?_ r3)) (PySem.F.args_dict_pop_2 _ _);rw[Te nd hj];refine pc! a5 (Dd! a1) ⟨?_,hd,xs.eraseIdx j,KT.keeps (Xc j rel) λc ys ec=>?_,o,es,ep,a1,a2,a3,a4,ik⟩;.exact AV (by rw[List.length_eraseIdx];split<;>lia) z
 .rw[Ad (Rt ec e (λz=>eq!))];exact ec
def Jlt(td ty:TE):TE:=ZT! (∃a,A3!/\pS H1 a/\TM! (∃kvs k v b,bv H2 a .dT kvs/\y=Uf/\Cj! H2 (.BB (k.map kV))/\Y7!/\Q v (HR! a .dT W6!)))
theorem Gr(hu:Fs!)(ho:IU!)(he:jt!)(m:M1 X o "pop" apos e HR):UO! "pop" [e] (Jlt td ty):=by intro AA s σ H Q I h;refine sb! KJ PySem.F.type_dict_pop;rintro u s1 ⟨x,H1,I1,rx,a,ex,d,q1⟩;subst ex;obtain rfl:C0!:=rx;obtain⟨t1,t2,_⟩:=X8 I1 d;refine o6!;rw[m.trees];refine rJ! (λiv s2 ⟨y,H2,I2,ry,kvs,k,v,b,ea,ey,eb,l,q2⟩=>LC ?_);subst ey;obtain rfl:iv=Value.ref b:=ry;exact Jm6 hu I2 ea eb l (XZ! ⟨v,_,I3,QM,q2⟩)
universe E
def J9(l:NB!)(a:Addr)(h:D!):NB!:=l.map λq=>q1!
theorem Qu(l:NB!)(a:Addr)(h:D!):(J9 l a h).map Gl!=l.map Gl!:=by
 unfold J9;rw[AN];refine OE!;show(q1!).2.1=E?;by_cases e:E?=a;.rw[sw];exact e.symm
 .rw[XV]
theorem Jf2(l:NB!)(a:Addr)(h:D!):(J9 l a h).map (Ko!)=l.map Ko!:=by
 unfold J9;rw[AN];refine OE!;show(tk (q1!).1,Q? (q1!).2.1)=_;by_cases e:E?=a;.rw[sw,<-e]
 .rw[XV]
theorem Jhl(m:q∈J9 l a h):(∃q0∈l,q0.2.1=a/\q=(q0.1,a,h))\/(q∈l/\E?≠a):=by
 unfold J9 at m;obtain⟨q0,h0,e⟩:=Dr!;by_cases e1:q0.2.1=a;.rw[AF e1] at e;exact J! ⟨q0,h0,e1,e.symm⟩
 .rw[AB e1] at e;rw[<-e];exact wS h0 e1
universe S
theorem AS.cP(x:R?)(hq:q∈G.holds)(l:D!):u1! E? l (v9! J9 E? l):=by
 obtain⟨_,_,_,d1⟩:=x.cW;obtain⟨n1,n2,n3,n4⟩:=d1 q hq;have mem:E?∈BL!:=by unfold BQ;exact rH! (BE hq)
 have np:=x.RS mem;obtain⟨dx,e⟩:=x.ob;refine nm! n1.symm n2.symm ?_ (YG! n4.symm) F1! ?_;.rw[Ad n3.symm];show L? H G.l (.dT ((J9 G.holds E? l).map Ko!));rw[Jf2];exact x.dl
 .rcases Jhl hr with⟨q0,_,e1,e2⟩|⟨h1,h2⟩;(.rw[e2];exact Ab);.rw[Ad h2];exact x.hl r h1
 ·(have e2:BQ (v9! J9 E? l)=BQ G:=by unfold BQ;rw[Qu]);rw[e2];exact x.nd
universe E
def Ct(l:D!)(t:T2):D!:=if E2! then l else l++[t]
def Jt(l:D!)(t:T2):D!:=l.filter (JZ! (u≠t))
theorem Je8(l:D!)(t:T2):d3! (q=t)=tr! E2! t:=by
 by_cases h:E2!;.rw[A6!];cases e:Y9! (q=t) with | none=>exact absurd (BH.mp e t h) (x!) | some u =>have:=DV e;(have:u=t:=by simpa using this);rw[this]
 .rw[BY!];exact BH.mpr (BE! (by have:¬u=t:=X? h (z▸hu);simpa using this))
theorem Hv(l:D!)(t:T2):mG! B9!=if E2! then FE! V.bl true else none:=by
 rw[Ez (k:=dM!) (f:=Mn!),Je8];by_cases h:E2!;.rw[A6!,A6!];rfl
 .rw[BY!,BY!];rfl
theorem Fv(l:D!)(t:T2):putK (Gx! B9!) QN! (V.bl true)=(Ct l t).map B9!:=by
 unfold Ct;by_cases h:E2!;.rw[A6!];unfold putK;rw[L9,Hv,A6!,AF (Lu! ((some (V.bl true)).isSome=true)),AN];refine OE!;show(if tk q=tk t then(tk q,V.bl true) else(tk q,V.bl true))=_;by_cases e:tk q=tk t;(.rw[sw]);.rw[XV]
 .rw[BY!,Ku (k:=dM!) (f:=Mn!) _ (PB! (jD! z hq)),ZF];rfl
theorem Gz(l:U!)(k:B5!)(f:Fi!)(t:T2):Ej (l.map Lf!) QN!=(l.filter (At Xl!)).map Lf!:=by
 unfold Ej;rw[JH];congr 1;refine GN λq _=>?_;show w! (tk (k q)≠tk t)=w! Xl!;by_cases e:k q=t;.rw[e];simp
 .have e2:¬tk (k q)=tk t:=V1! yK;simp[e,e2]
def Bp(l:V!)(t:T2)(v:Int):V!:=v6 B4! (l.map λq=>Tg!) (l++[(t,v)])
theorem Fe(l:V!)(t:T2)(v:Int):putK (Gx! Ej!) QN! (V.int v)=pw! Ej!:=by
 unfold Bp;by_cases h:B4!;.rw[A6!];unfold putK;(have e1:((l.map Ej!).any λkv=>w! (kv.1=tk t))=true:=by obtain⟨q,hq,e⟩:=ZN h;exact IT.mpr ⟨vN!,BE hq,W9!⟩);rw[e1,e?,AN,AN];refine OE!;show(if VM!=tk t then(VM!,O? v) else vN!)=(tk (Tg!).1,O? (Tg!).2);by_cases e:GE;(.rw[sw,AF (AM! e)]);.rw[XV,AB (V1! yK)]
 .rw[BY!,Ku (k:=An!) (f:=Dc!) _ (PB! (ZX! WC!)),ZF];rfl
universe S
universe E
noncomputable def bY (H:Hp) (tb:T2):Fy! Value
 | .ref a=>@decide (dU! a tb) hV!
 | _=>false
theorem Jhq(h:ZS!):bY H tb T0=w! DO!:=by
 show @decide (dU! a tb) hV!=_;by_cases e:DO!;.rw[YH!];exact @decide_eq_true _ hV! (HU! h e)
 .rw[F9!];refine @decide_eq_false _ hV! λz=>e ?_;rw[h] at z;have z:tv t=tv tb:=HO.BB.inj (ZO z);unfold tv at z;simp only[List.cons.injEq,V.int.injEq,and_true] at z;exact Prod.ext z.1 z.2
theorem Yj{as:M!}{ts:D!}(p:A9!):gJ! Oe!=w! dN!:=by induction p with | nil=>simp | @cons a t _ _ r q ih =>rw[AI,KU,Jhq r,ih];by_cases e:DO!;(.rw[e];simp);.have:¬tb=t:=L8! e;simp[e,this]
universe S
theorem Jdn(hu:YX!)(I:K!)(ha:ZS!)(hb:PP):SeqAt.EqAt A s T0 FN! (bY H tb T0):=by
 intro prog w E Q q;obtain⟨its,rv,it,_⟩:=I.tuple (CA.of ha);obtain⟨jts,QM,jt,_⟩:=I.tuple (CA.of hb);have i1:PZ! its [t.1,t.2]:=intsAre_of (ns:=[t.1,t.2]) rv;have i2:PZ! jts oR!:=intsAre_of (ns:=oR!) QM;refine wpAny_eqBool_tuple hu (Pw it (by simpa using i1)) (Pw jt (by simpa using i2)) ?_;rw[Jhq ha] at q;have e:Av! ([t.1,t.2]:j!) oR!=w! DO!:=by by_cases e:DO!;(.rw[e];simp);.have:¬([t.1,t.2]:j!)=oR!:=X? e (by simp at z;exact Prod.ext z.1 z.2);rw[F9!,Ax! this]
 rw[e];exact q
inductive xW(neg:Bool)(x:V)(y:V)(H:Hp)(Q:VK):Prop
 | mk (b l:Addr) (tb:T2) (as:M!) (ts:D!) (_:x=Uf) (_:y=P8!) (_:PP) (_:lr!) (_:A9!) (_:at! (if neg then Ha! dN! else w! dN!))
theorem Uh(hu:IH!)(I:K!)(hb:PP)(hl:lr!)(th:A9!) : s.heap.IsList l Je!/\∀y,y∈Je!->SeqAt.EqAt X.A.in1 s y FN! (bY H tb y):=by
 obtain⟨z,its,n,vl,gl⟩:=DU! (uU! H l (aX! as.map)) (I.DK l _ hl);have ei:=Ud vl;subst ei;refine⟨A1! gl rfl _ rfl,FW!⟩;have hy:y∈a6!:=by simpa using hy
 obtain⟨a,ha,rfl⟩:=ZN hy;obtain⟨j,hj⟩:=DA.mp ha;obtain⟨t,ht⟩:=wY! ts KV!;exact Jdn (FA! Fs!) I (Ax th j a t hj ht) hb
theorem Xf(hu:IH!):OL! .In xW false:=by intro AA s σ H x y v u Q I rx ry h;obtain⟨b,l,tb,as,ts,rfl,rfl,hb,hl,th,q⟩:=h;cases rx;cases ry;obtain⟨a1,a2⟩:=Uh hu I hb hl th;refine SeqAt.in_listAt Oe! a1 a2 au!;rw[VK! ((as.map Value.ref).toArray.any (bY H tb)=gJ! Oe!),Yj th];exact q
theorem Ph(hu:IH!):OL! Mg! xW true:=by intro AA s σ H x y v u Q I rx ry h;obtain⟨b,l,tb,as,ts,rfl,rfl,hb,hl,th,q⟩:=h;cases rx;cases ry;obtain⟨a1,a2⟩:=Uh hu I hb hl th;refine SeqAt.notIn_listAt Oe! a1 a2 au!;rw[VK! ((as.map Value.ref).toArray.any (bY H tb)=gJ! Oe!),Yj th];exact q
universe E
universe S
variable {prog:Program}{w:World}{A:Around}{R:Result->Shared->Prop}{s:Shared}{l:Addr}{items:Array Value}{n:Nat}{x:Value}
universe E
universe S
universe E
universe S
universe E
universe S
universe E
theorem Jom:KB Lv! PC!:=ZV
def Ft(c:Int)(d:Addr):BW!:=BI PC! (Y! d) (BI Lv! (Op c) [])
theorem Zs(c:Int)(d:Addr):Ft c d=([(Lv!,O? c),(PC!,Q? d)]:BW!):=by grind [BI,V,Jom,Ft]
theorem Ge(c:Int)(d:Addr):bv (Ft c d).lookup (Lv!:Str) a! c:=by unfold Ft;rw[Bl,AB Jom,Bl,e?]
theorem Fy(c:Int)(d:Addr):Pa! (Ft c d).lookup (PC!:Str) d:=by unfold Ft;rw[Bl,e?]
theorem Eh(c:Int)(d:Addr){m:Str}(h1:¬m=PC!)(h2:¬m=Lv!):FM (Ft c d).lookup m:=by unfold Ft;rw[Bl,AB h1,Bl,AB h2];all_goals rfl
theorem Jem(c y:Int)(d:Addr):BI Lv! (Op y) (Ft c d)=Ft y d:=by grind [Zs,V,BI,Ft]
def kvsOf(ls:k!):k?:=ls.map λl=>(I5! l.1,Q? l.2)
structure IP(C:Addr)(H:Hp)(p d:Addr)(c:Int)(ls:k!):Prop where
 ob:∃dx,ZK! C (Ft c d)
 dc:kQ! d ls
 le:CF! (l.1<=c)
 nd:o? ls.map
theorem IP.keep(x:c2! C)(h1:∀o,HM! p o->Fa! H' p)(h2:∀o,Cx! o->Qh! H'):IP C H' p d c ls :=⟨WO! (h1 _ e),h2 _ x.dc,x.le,x.nd⟩
theorem IP.ne(x:c2! C):p≠d:=by obtain⟨dx,e⟩:=x.ob;exact os! e x.dc
theorem M0(ls:k!):SZ kvsOf ls=ls.length:=ZA ..
theorem Jq:B4 (kvsOf ls) (Sum.inl n)=(ls.find? m4!).map λl=>Q? l.2:=by
 unfold B4 kvsOf;rw[List.find?_map,Option.map_map];congr 1;congr 1;funext l;show j9! (EI! l.1) Sum.inl n MS!;by_cases e:MS!;.rw[e];simp
 .rw[F9!,Ax! (V1! Sum.inl.inj)]
theorem Jmu(h:CF! (l.1≠n)):Ml! ls (Sum.inl n):=Xj! (jo! (Ge! (h l hl)))
theorem Jas{l1 l2:k!}{n:Int}{t:Addr}(nd:Hy! Sw!):pc ((Sw!).find? (m4!)) n t:=by
 rw[ZF,AI] at nd;have h:∀l∈l1,¬MS!:=λl hl e=>by have:=vR! l.1 (BE hl) n Gy!;exact this e
 rw[List.find?_append];have e1:l1.find? (m4!)=none:=jo! (Ge! (h l hl))
 rw[e1];simp
theorem Jaw(nd:Hy! Sw!):Ej (kvsOf (Sw!)) (Sum.inl n)=kvsOf (I0!):=by
 rw[ZF,AI] at nd;have h1:∀l∈l1,¬MS!:=λl hl e=>vR! l.1 (BE hl) n (Ai!) e;have h2:∀l∈l2,¬MS!:=λl hl e=>(AX.mp (km! nd)).1 (by have m:=BE (f:=λx:Int×Addr=>x.1) hl;rw[e] at m;exact m);have all:∀ls:k!,(CF! (¬MS!))->Ej (kvsOf ls) H4!=kvsOf ls:=λls h=>by refine Tg Jz!;unfold kvsOf at m;rw[AN] at m;obtain⟨l,hl,e⟩:=Dr!;exact h l hl (Sum.inl.inj e)
 unfold kvsOf;rw[ZF,AI,ZF];unfold Ej;rw[CU,DX];have e0:r? (w! (((I5! (n,t).1,Q? (n,t).2):Key×V).1≠ev!)):=x!
 rw[e0];have a1:=all l1 h1;have a2:=all l2 h2;unfold Ej kvsOf at a1 a2;rw[a1,a2];rfl
theorem X0(h:CF! (l.1≠n)):qL! ls H4! t (ls++[(n,t)]):=by rw[E4 _ (Jmu h)];unfold kvsOf;rw[ZF];rfl
structure EE where
 share:Int
 hs:Addr
 po:Addr
 iq:Addr
 fi:Addr
 en:Addr
 pd:Addr
 c:Int
 ls:k!
 qs:B?
 LG:k!
 FK:k!
 EF:k!
theorem J0:KB ED! DP!:=ZV
theorem L5:KB CG! DP!:=ZV
theorem Le:KB CG! ED!:=ZV
theorem Ou:KB EE! DP!:=ZV
theorem L6:KB EE! ED!:=ZV
theorem Qe:KB EE! CG!:=ZV
theorem Lf:hx! DP!:=ZV
theorem J3:hx! ED!:=ZV
theorem L7:hx! CG!:=ZV
theorem Ov:hx! EE!:=ZV
theorem Ow:YM! DP!:=ZV
theorem L8:YM! ED!:=ZV
theorem Qf:YM! CG!:=ZV
theorem Uc:YM! EE!:=ZV
theorem Ox:YM! Lw!:=ZV
def Fs(W:EE):BW!:=[(DP!,T! W.share),HZ! ED! W.hs,HZ! CG! W.po,HZ! EE! W.iq,HZ! Lw! W.fi,HZ! O7! W.en]
theorem Jz(W:EE):bv (Fs W).lookup (DP!:Str) a! W.share:=by unfold Fs;rw[Ja]
theorem Ek(W:EE):Zm! ED! W.hs:=by unfold Fs;rw[Cj J0,Ja]
theorem E6(W:EE):Zm! CG! W.po:=by unfold Fs;rw[Cj L5,Cj Le,Ja]
theorem Nq(W:EE):Zm! EE! W.iq:=by unfold Fs;rw[Cj Ou,Cj L6,Cj Qe,Ja]
theorem Qd(W:EE):Zm! Lw! W.fi:=by unfold Fs;rw[Cj Lf,Cj J3,Cj L7,Cj Ov,Ja]
theorem Jfi(W:EE):Zm! O7! W.en:=by unfold Fs;rw[Cj Ow,Cj L8,Cj Qf,Cj Uc,Cj Ox,Ja]
theorem Cr(W:EE)(h:r? (([DP!,ED!,CG!,EE!,Lw!,O7!]:U?).contains m)):FM (Fs W).lookup m:=by simp only[OF,Bool.or_eq_false_iff,DZ] at h;obtain⟨h1,h2,h3,h4,h5,h6,_⟩:=h;unfold Fs;rw[Cj h1,Cj h2,Cj h3,Cj h4,Cj h5,Cj h6];rfl
theorem Jln(W:EE):BI O7! (Y! W.en) (BI Lw! (Y! W.fi) (BI EE! (Y! W.iq) (BI CG! (Y! W.po) (BI ED! (Y! W.hs) (BI DP! (Op W.share) [])))))=Fs W:=by unfold Fs;rw[E8];rw[CW! J0,E8];rw[CW! L5,CW! Le,E8];rw[CW! Ou,CW! L6,CW! Qe,E8];rw[CW! Lf,CW! J3,CW! L7,CW! Ov,E8];rw[CW! Ow,CW! L8,CW! Qf,CW! Uc,CW! Ox,E8]
def Cz:B?->M!
 | []=>[]
 | q::l=>pm!++Cz l
theorem Jc:∀(l m:B?),Cz (l++m)=Cz l++Cz m
 | [],m=>rfl
 | q::l,m=>by show pm!++Cz (l++m)=(pm!++Cz l)++Cz m;rw[Jc l m,AK]
theorem DB:∀{l:B?},b∈Cz l↔∃q∈l,b=q.1\/b∈BQ q.2
 | []=>⟨λh=>by simp[Cz] at h,λ⟨q,h,_⟩=>Ce!⟩
 | q::l=>by show b∈pm!++Cz l↔_;rw[LY,CB,DB];constructor;(.rintro(h|⟨r,hr,h⟩);(.exact⟨q,Ai!,h⟩);.exact⟨r,ZD _ hr,h⟩);.rintro⟨r,hr,h⟩;rcases ZM hr with rfl|hr;(.exact G?);.exact I! (Jo! h)
def C7(p:Addr)(W:EE):M!:=[p,W.hs,W.po,W.pd,W.iq,W.fi,W.en]
def Cb(p:Addr)(W:EE):M!:=Vx!++Cz W.qs
structure AQ(CW CH CP:Addr)(H:Hp)(p:Addr)(W:EE):Prop where
 ob:∃dx,qc! H CW dx Fs W
 hs:d9! W.hs W.qs.map LM!
 ho:se! (AS CH H q.1 q.2)
 po:IP CP H W.po W.pd W.c W.ls
 iq:kQ! W.iq W.LG
 fi:kQ! W.fi W.FK
 en:kQ! W.en W.EF
 nd:(Cb p W).Nodup
def HD(p:Addr)(W:EE)(H H':Hp):Prop:=N3! CR!
universe S
variable {CW CH CP p:Addr}{H H':Hp}{W:EE}
theorem AQ.keep(x:CZ!)(k:Zo! XR!):dP! CH H' W:=by have t:∀{b},RF!->XR!:=λh=>FK!;refine⟨WO! (o! k v1! e),ik! x.hs,No ((x.ho q hq).keep (CE! (o! k (fF! (L2! hb)) e))),x.po.keep (λo e=>o! k v1! e) (λo e=>o! k v1! e),ik! x.iq,ik! x.fi,ik! x.en,x.nd⟩
theorem AQ.same(x:CZ!)(s:KM):dP! CH H' W:=x.keep λb o _ e=>s b o e
theorem AQ.some_at(x:CZ!)(hb:XR!):∃o,Gr!/\(∀xs,o≠.BB xs)/\∀ob u,o≠.FQ ob u:=by
 rcases KR! with hb|hb;.simp only[C7,CB,DD,JA] at hb;rcases hb with rfl|rfl|rfl|rfl|rfl|rfl|rfl;(.obtain⟨dx,e⟩:=x.ob;exact k2!);(.exact Wi! x.hs);(.obtain⟨dx,e⟩:=x.po.ob;exact k2!);(.exact Wi! x.po.dc);(.exact Wi! x.iq);(.exact Wi! x.fi);.exact Wi! x.en
 .obtain⟨q,hq,hb⟩:=DB.mp hb;rcases hb with rfl|hb;(.obtain⟨dx,e⟩:=(x.ho q hq).ob;exact k2!);.obtain⟨kvs,e⟩:=(x.ho q hq).NX hb;exact k2!
theorem AQ.fb(x:CZ!)(e:as!):CR!:=λm=>by obtain⟨o,e',h,_⟩:=i8!;rw[e] at e';cases e';exact h _ rfl
theorem AQ.PY(x:CZ!)(e:t?):CR!:=λm=>by obtain⟨o,e',_⟩:=i8!;rw[e] at e';cases e'
theorem HD.DJ(x:CZ!)(f:HG!):p? :=RC! (f a _ e (x.fb e)) (λa ob u e=>f a _ e λm=>by obtain⟨o,e',_,h⟩:=i8!;rw[e] at e';cases e';exact E! h rfl)
theorem Jmm{A X X' B:M!}(h:(A++(X++B)).Nodup)(hx:X'.Nodup)(k:∀b∈X',b∈X\/(b∉A/\b∉B)):(A++(X'++B)).Nodup:=by
 obtain⟨a1,a2,a3⟩:=AM.mp h;obtain⟨b1,b2,b3⟩:=AM.mp a2;refine QL! a1 (QL! hx b2 (λy hy z hz e=>?_)) (λy hy z hz e=>?_);.rcases k y hy with h|h;(.exact b3 y h z hz e);.exact h.2 (e▸hz)
 .rcases A7! with hz|hz;(.rcases CY! k with h|h;(.exact a3 y hy z (ZB _ h) e);.exact h.1 (e▸hy));.exact a3 y hy z (ZC _ hz) e
theorem AQ.step(x:CZ!){i:Nat}{q:Addr}{G G':BZ}(hi:SB!)(S:AS CH H' q G')(f:aD q G H H')(nw:OM!) : XJ! H' (PD! UN!) HG!:=by
 obtain⟨KH,_⟩:=ZJ hi;have e1:W.qs=W.qs.take i++E3!::JH! W.qs.drop:=by have:=EB i W.qs;rw[<-this];congr 1;(.rw[EB]);.rw[EB];exact(List.drop_eq_getElem?_toList_append (l:=W.qs) (i:=i)).trans (be hi)
 have e2:UN!=W.qs.take i++E6!::JH! W.qs.drop:=z! List.set_eq_take_append_cons_drop (AF KH)
 generalize W.qs.take i=l1 at e1 e2;generalize JH! W.qs.drop=l2 at e1 e2;have hm:E3!∈W.qs:=ZP hi;have nd:=x.nd;unfold Cb at nd;rw[e1,Jc] at nd;have eA:Vx!++(Cz l1++Cz (E3!::l2))=(Vx!++Cz l1)++((q::BL!)++Cz l2):=f6!
 rw[eA] at nd;obtain⟨a1,a2,a3⟩:=AM.mp nd;obtain⟨b1,b2,b3⟩:=AM.mp a2;have apart:∀b,(RF!\/b∈Cz l1\/b∈Cz l2)->b≠q/\QJ!:=N? (by (have no:b∉q::BL!:=λm=>by rcases hb with hb|hb|hb;(.exact a3 b (ZB _ hb) b Yn! rfl);(.exact a3 b (ZC _ hb) b Yn! rfl);.exact b3 b m b hb rfl);exact⟨X? no (Jx! Ai!),λz=>no (Aj! z)⟩)
 have kp:Zo! (RF!\/b∈Cz l1\/b∈Cz l2):=CE! (f b o e (Po! apart) (apart b hb).2);have t:∀{b},RF!->RF!\/b∈Cz l1\/b∈Cz l2:=λh=>G?;have hsm:W.qs.map (LM!)=(W.qs.set i E6!).map LM!:=by rw[e2,e1,ZF,ZF];rfl
 refine⟨⟨WO! (T5! e),?_,F1!,x.po.keep (λo e=>T5! e) (λo e=>T5! e),T5! x.iq,T5! x.fi,T5! x.en,?_⟩,E1! ?_⟩;.have:=o! kp (t (b:=W.hs) (sk!)) x.hs;rw[hsm] at this;exact this
 .have hr:r∈UN!:=hr;rw[e2] at hr;(have oth:r∈l1\/r∈l2->AS CH H' r.1 r.2:=λh=>by (have hW:r∈W.qs:=XQ! (h.elim (λz=>o0 z) λz=>uO! z));exact(x.ho r hW).keep (WM! kp (h.elim (λz=>I! (Z! (DB.mpr ⟨r,z,hb⟩))) λz=>I! (J? (DB.mpr ⟨r,z,hb⟩)))));rcases Eh! with hr|hr;(.exact oth (Z! hr));.rcases ZM hr with rfl|hr;(.exact S);.exact oth (J? hr)
 .show(Vx!++Cz (W.qs.set i E6!)).Nodup;rw[e2,Jc];(have eB:Vx!++(Cz l1++Cz (E6!::l2))=(Vx!++Cz l1)++((q::BQ G')++Cz l2):=f6!);rw[eB];refine Jmm nd (AX.mpr ⟨λm=>S.RS m rfl,S.nd⟩) P6!;rcases Fm! with rfl|hb;(.exact Z! (Ai!));.rcases DD! nw with h|h;(.exact J! (Aj! h));.have no:=x.PY h;unfold Cb at no;rw[e1,Jc] at no;refine wS (λm=>no ?_) (λm=>no ?_);(.rcases ZI m with m|m;(.exact o0 m);.exact ZC _ Yn!);.exact ZC _ (ZC _ (ZC (q::BL!) m))
 .have IX:b∉Cz W.qs:=λm=>hb (ZC _ m);exact f b o e (λz=>IX (DB.mpr (jp hm (J! z)))) λz=>IX (DB.mpr (jp hm ND!))
theorem AQ.iC(x:CZ!):(W.po≠W.pd/\W.po≠p/\W.po≠W.hs/\W.po≠W.iq/\W.po≠W.fi/\W.po≠W.en)/\(W.pd≠p/\W.pd≠W.hs/\W.pd≠W.iq/\W.pd≠W.fi/\W.pd≠W.en)/\(W.iq≠p/\W.iq≠W.hs/\W.iq≠W.fi/\W.iq≠W.en)/\(W.fi≠p/\W.fi≠W.hs/\W.fi≠W.en)/\(W.en≠p/\W.en≠W.hs):=by have nd:=YF! x.nd;simp only[C7,AX,CB,DD,JA,not_or,DL,and_true,not_false_eq_true] at nd;obtain⟨⟨a1,a2,a3,a4,a5,a6⟩,⟨b1,b2,b3,b4,b5⟩,⟨c1,c2,c3,c4⟩,⟨d1,d2,d3⟩,⟨e1,e2⟩,f1⟩:=nd;exact⟨⟨c1,HS! a2,HS! b1,c2,c3,c4⟩,⟨HS! a3,HS! b2,d1,d2,d3⟩,⟨HS! a4,HS! b3,e1,e2⟩,⟨HS! a5,HS! b4,f1⟩,⟨HS! a6,HS! b5⟩⟩
theorem AQ.IQ(x:CZ!)(hb:RF!)(hq:q∈W.qs):b≠q.1/\b∉BQ q.2:=by have h:=DD! (AM.mp x.nd).2.2;exact Mp! (λz=>h _ (DB.mpr (L2! Ed!)) z) (h _ (DB.mpr (L2! ND!)) rfl)
theorem AQ.JO(x:CZ!)(S:IP CP H' W.po W.pd c ls)(f:QQ! (b≠W.po) (b≠W.pd) Fc!) : XJ! H' { W with c:=c,ls:=ls } HG!:=by
 obtain⟨⟨a1,a2,a3,a4,a5,a6⟩,⟨b1,b2,b3,b4,b5⟩,_⟩:=x.iC;refine ql! (cg! e a2 b1) (cg! x.hs a3 b2) (f b o e ?_ ?_) S (cg! x.iq a4 b3) (cg! x.fi a5 b4) (cg! x.en a6 b5) (f b o e ?_ ?_);.rintro rfl;have h:=cN! W.po;exact b8!
 .rintro rfl;have h:=cN! W.pd;exact b8!
 .rintro rfl;exact Ze!
 .rintro rfl;exact Ze!
theorem AQ.zP(x:CZ!):XJ! (Qy! W.iq) { W with LG:=l } (JD! (Qy! W.iq)):=by
 obtain⟨⟨a1,a2,a3,a4,a5,a6⟩,⟨b1,b2,b3,b4,b5⟩,⟨c1,c2,c3,c4⟩,_⟩:=x.iC;have f:iZ! (b≠W.iq) (Qy! W.iq):=λb o e h=>m2!
 refine ql! (o! f e (VR! c1)) (St! x.hs c2) Tk! (x.po.keep (RM! a4) (RM! b3)) Ab (St! x.fi c3) (St! x.en c4) Tk!;.rintro rfl;have h:=cN! W.iq;exact b8!
 .rintro rfl;exact Ze!
universe E
def jH(W:EE)(h:Int):Prop:=h<0\/Rm!<=h
def JF(W:EE)(h:Int)(q:Addr)(G:BZ):Prop:=0<=h/\Cl! (W.qs[h.toNat]?)
theorem JF.at(i:pi)(x:CZ!):AS CH H q G:=x.ho E3! (ZP i.2)
theorem JF.lt(i:pi):0<=h/\h<W.qs.length:=by obtain⟨z,_⟩:=ZJ i.2;have:=i.1;exact⟨i.1,B!⟩
theorem JF.RK(i:pi):L2.RK (W.qs.map LM!) h=A! (V.ref q):=Ee i.1 (CS! i.2)
theorem lookup_mem:∀{l:w5!},L? l.lookup y k->(y,k)∈l
 | [],h=>Ce!
 | (a,b)::l,h=>by rw[QL] at h;by_cases e:y=a;(·(have q1:AT! (y==a):=HX! (beq_self_eq_true a));rw[q1] at h;have h:b=k:=ZO h;rw[e,h];exact Ai!);.have q1:AE! (y==a):=DZ.mpr e;rw[q1] at h;exact ZD _ (lookup_mem h)
theorem Lw{l:w5!}{cl:BX!}{y:Str}(hc:∀p∈l,p.2=Aa!\/p.2=Jt!->eh! p.1)(h:L? l.lookup y Aa!\/L? l.lookup y Jt!):Ib!:=by
 rcases h with h|h;.exact hc _ (lookup_mem h) Cr!
 .exact hc _ (lookup_mem h) (J? rfl)
theorem Jq3{a b c:Str}{cl:BX!}{y:Str}(h:Lg! (wu! NameKind.globalImplicit) (wu! NameKind.globalImplicit)):Ib! :=Om! (by simp only[CB,DD,JA] at hp;rcases hp with rfl|rfl|rfl<;>rcases hk with hk|hk<;>cases hk)
theorem Jq4{a b c d e f:Str}{k1 k2 k3 k4:NameKind}{cl:BX!}{y:Str}(hc:aS!)(hd:q2!)(he:eh! e)(hf:eh! f)(h:Lg! [Vk!,Vl!,S6!,Tr!,(e,k3),(f,k4)] [Vk!,Vl!,S6!,Tr!,(e,k3),(f,k4)]):Ib! :=Om! (by simp only[CB,DD,JA] at hp;rcases hp with rfl|rfl|rfl|rfl|rfl|rfl;(.rcases hk with hk|hk<;>cases hk);(.rcases hk with hk|hk<;>cases hk);(.exact hc);(.exact hd);(.exact he);.exact hf)
universe S
universe E
structure Lies(H:Hp)(L:M!):Prop where
 nd:L.Nodup
 all:∀b∈L,∃o,Gr!
theorem Lies.keep(x:Lies H L)(k:qd!):Lies H' L:=⟨x.nd,N? (let⟨o,e⟩:=DD! x.all;k b o e)⟩
theorem Lies.new(x:Lies H L)(h:t?)(h':∃o,Fc!)(k:qd!):Lies H' (b::L) :=⟨AX.mpr ⟨λm=>(by obtain⟨o,e⟩:=x.all b m;rw[h] at e;cases e),x.nd⟩,λc hc=>by rcases ZM hc with rfl|hc;(.exact h');.obtain⟨o,e⟩:=x.all c hc;exact k c o e⟩
universe S
universe E
theorem Lies.add(x:Lies H L)(nd:X.Nodup)(h:∀b∈X,t?)(h':∀b∈X,∃o,Fc!)(k:qd!):Lies H' (X++L) :=⟨QL! nd x.nd (λb hb c hc e=>by obtain⟨o,z⟩:=x.all c hc;rw[<-e,DD! h] at z;cases z),λc hc=>by rcases ZI hc with hc|hc;(.exact h' c hc);.obtain⟨o,e⟩:=x.all c hc;exact k c o e⟩
theorem Lies.perm(x:Lies H L)(p:lu!):Lies H L':=⟨p.nodup_iff.mp x.nd,N? (x.all b (p.mem_iff.mpr hb))⟩
def Kp(p:Addr)(H H':Hp):Prop:=N3! Gm!
theorem Kp.trans(a:Kp p H H1)(b:Kp p H1 H2):Kp p H H2:=λc o e h=>b c o (a c o e h) h
theorem m9:Kp p H (Pt! p):=λb o' e h=>m2!
theorem Kp.ex(k:Kp p H H')(hp:∃o,Fa! H' p):qd!:=Ab! (by by_cases z:b=p;(.rw[z];exact hp);.exact Dd! (Br! k z))
theorem Jof(h:¬x=y):r? (w! (V.str x=V.str y)):=Ax! (JF! h V.str.inj)
theorem JI(k:tb D σ H)(hv:hJ! (some (CC! wd)):=by rfl)(ne:¬wd=c:=by decide +kernel):xU (J6 (RP jd (Ca i) (tC (CC! c)))) ta tb D σ H:=⟨_,hv,rfl,_,rfl,H! (Jof ne) (Cc k)⟩
theorem L4(k:ta D σ H)(hv:hJ! (some (CC! c)):=by rfl):xU (J6 (RP jd (Ca i) (tC (CC! c)))) ta tb D σ H:=⟨_,hv,rfl,_,rfl,H! Y1! (Ck k)⟩
theorem AQ.YL(x:CZ!)(e:EU! .BJ xs)(h:b≠W.hs):CR!:=λhb=>by rcases KR! with hb|hb;(.simp only[C7,CB,DD,JA] at hb;rcases hb with rfl|rfl|rfl|rfl|rfl|rfl|rfl;(.obtain⟨dx,e'⟩:=x.ob;rw[e] at e';cases e');(.exact h rfl);(.obtain⟨dx,e'⟩:=x.po.ob;rw[e] at e';cases e');(.have e':=x.po.dc;rw[e] at e';cases e');(.have e':=x.iq;rw[e] at e';cases e');(.have e':=x.fi;rw[e] at e';cases e');.have e':=x.en;rw[e] at e';cases e');.obtain⟨q,hq,hb⟩:=DB.mp hb;have ne:=(x.ho q hq).YM e;exact hb.elim ne.1 ne.2
def Jos(G:BZ):k?:=[(I! dR!,T! G.num),t8! Bj! G.h,t8! BG! G.l,t8! BF! G.o,t8! Bk! G.r,(I! Ci!,T! G.AY),(I! DN!,T! G.AU)]
inductive LstAt(H:Hp)(b:Addr)(ts:D!):Prop
 | mk (as:M!) (_:Cj! H (aX! as.map)) (_:A9!)
theorem BC.keep(k:p?)(x:A9!):LQ!:=T6! k.BB x
structure t9(H:Hp)(p:Addr)(G:BZ):Prop where
 ob:QK! p Jos G
 dh:LstAt H G.h G.hand
 dO:et! G.o G.AG
 dl:ho! G.l G.holds
 dr:et! G.r G.AJ
 hl:O5! (LstAt H E? FS)
 nd:(p::BL!).Nodup
universe S
variable {p:Addr}{H H':Hp}{G:BZ}
theorem Gw{α β:Type}{f:NQ!}:lZ! (Mm! f) (∀{a b:α},a∈l->b∈l->f a=f b->a=b)
 | [],_,_,_,ha,_,_=>AL! ha
 | x::l,nd,a,b,ha,hb,e=>by have nd:=Bd!;rcases ZM ha with ha|ha<;>rcases Fm! with hb|hb;(.rw[ha,hb]);(.exact jb! ⟨b,hb,gb! ha⟩ nd.1);(.exact jb! ⟨a,ha,z! e hb⟩ nd.1);.exact Gw nd.2 ha hb e
universe E
abbrev HL:=NB!
def hs0(l:HL):Ac! (T2×D!):=l.map λq=>(q.1,FS)
def La(l:HL)(t:T2)(h:D!):HL:=l.map λq=>ug! (q.1,E?,h)
def De(l:HL)(t:T2):D!:=((l.find? hf!).map Cm!).getD []
theorem Jf4(l:HL)(t:T2)(h:D!):(La l t h).map Gl!=l.map Gl!:=by
 unfold La;rw[AN];refine OE!;show(ug! (q.1,E?,h)).2.1=E?;by_cases e:GE;.rw[sw]
 .rw[XV]
theorem Jf3(l:HL)(t:T2)(h:D!):MY! (La l t h).map l.map:=by
 unfold La;rw[AN];refine OE!;show(ug! (q.1,E?,h)).1=q.1;by_cases e:GE;.rw[sw]
 .rw[XV]
theorem Mv(m:q∈La l t h):(GE/\FS=h)\/q∈l:=by
 obtain⟨q0,h0,e⟩:=Dr!;by_cases c:q0.1=t;.rw[IN] at e;subst e;exact Al! c rfl
 .rw[NE] at e;subst e;exact I! h0
theorem Jkk(f:M9! IS! t):De l t=hl:=VL! f
theorem Qb(h:B4!):∃a,IS!=A! (t,a,De l t):=by cases e:Y9! GE with | none =>obtain⟨q,hq,e2⟩:=ZN h;have:=pu!;exact absurd e2 (by simpa using this) | some q =>(have h1:GE:=dA! (DV e));refine Ch E?;(have:De l t=FS:=VL! e);rw[this,<-h1]
theorem Uq(ka:Mm! Gl!)(kt:YT!)(f:M9! IS! t)(h:D!):J9 l a h=La l t h:=by
 have m:=AW f;unfold J9 La;refine CL AY!;by_cases e:GE;.have:=Gw kt hq m e;rw[this,e?,e?]
 .have:¬E?=a:=X? e (AM! (Gw ka hq m z));rw[AB this,XV]
structure Ok(G:BZ)(n:Nat):Prop where
 hn:G.hand.Nodup
 hz:G.hand.length<=n
 on:o? G.AG.map
 oz:G.AG.length<=n
 ke:OT!
 rn:o? G.AJ.map
 rz:G.AJ.length<=n
 ln:O5! (q.2.2.Nodup/\q.2.2.length<=n)
 new:Xn! (WQ!/\t.2<G.AY)
 hk:PF! ly!
 lk:wX! ly!
 rk:Qc! G.AJ.map gh!
theorem Ok.mono(x:FB)(h:n<=m):Ok G m :=⟨x.hn,AV x.hz h,x.on,AV x.oz h,x.ke,x.rn,AV x.rz h,No ⟨(x.ln q hq).1,AV (x.ln q hq).2 h⟩,x.new,x.hk,x.lk,x.rk⟩
def JE(G:BZ):BZ:={ G with AU:=Bm! }
def cX(G:BZ)(a:Addr):BZ:={ G with AY:=EK!,hand:=Vy!,AG:=OX!,holds:=IV! }
theorem DC:u∈Ct l t↔u∈l\/u=t:=by
 unfold Ct;by_cases h:E2!;.rw[A6!];exact Mp! Z! (z.elim id λz=>Jx! h)
 .rw[BY!];simp
theorem HE:u∈Jt l t↔u∈l/\u≠t:=by unfold Jt;rw[AD];simp
theorem Ru(t:T2)(h:l.Nodup):(Ct l t).Nodup:=by
 unfold Ct;by_cases e:E2!;.rw[sw];exact h
 .rw[XV];exact G9 h e
theorem K4(l:D!)(t:T2):(Ct l t).length<=l.length+1:=by
 unfold Ct;by_cases e:E2!;.rw[sw];exact EW _
 .rw[XV];simp
universe S
theorem Ok.JE(x:FB):Ok (JE G) n:=⟨x.hn,x.hz,x.on,x.oz,x.ke,x.rn,x.rz,x.ln,x.new,x.hk,x.lk,x.rk⟩
theorem Ok.hand(x:FB)(h1:l.Nodup)(h2:l.length<=n)(h3:∀t∈l,ly!):Ok { G with hand:=l } n:=⟨h1,h2,x.on,x.oz,x.ke,x.rn,x.rz,x.ln,x.new,h3,x.lk,x.rk⟩
theorem Ok.holds(x:FB)(h1:l.Nodup)(h2:l.length<=n)(h3:∀t∈l,ly!):Ok (v9! La t l) n:=by
 refine⟨x.hn,x.hz,x.on,x.oz,(Jf3 ..).trans x.ke,x.rn,x.rz,AY!,x.new,x.hk,AY!,x.rk⟩;.rcases Mv hq with⟨_,e⟩|hq;(.rw[e];exact lU!);.exact x.ln q hq
 .rcases Mv hq with⟨_,e⟩|hq;(.rw[e];exact h3);.exact x.lk q hq
theorem Ok.cX(x:FB)(a:Addr):Oa! WG!:=by
 have nw:Ah!∉EH!:=λm=>by have:=(x.new _ m).2;exact absurd this (bn (¬G.AY<G.AY))
 have eo:C? YY!=EH!++[(G.num,G.AY)]:=RH!
 refine⟨?_,?_,?_,?_,?_,x.rn,by have:=x.rz;show G.AJ.length<=n+1;exact GK E9!,AY!,?_,?_,?_,x.rk⟩;.exact G9 x.hn λm=>nw (x.hk _ m rfl)
 .show(Vy!).length<=n+1;rw[ZE];have:=x.hz;show G.hand.length+1<=n+1;exact Yx!
 .show Hy! u9!;rw[eo];exact G9 x.on nw
 .show(u9!).length<=n+1;rw[ZE];have:=x.oz;show G.AG.length+1<=n+1;exact Yx!
 .show(G.holds++[(Ah!,a,Sc!)]).map (λ(q:T2×Addr×List T2)=>q.1)=C? YY!;rw[eo,ZF,x.ke];rfl
 .rcases ZI hq with hq|hq;(.exact⟨(x.ln q hq).1,GK (x.ln q hq).2⟩);·(have:nf!:=dK!);rw[this];exact⟨DL,wn⟩
 .intro t ht;have ht:AB! YY!:=ht;show WQ!/\t.2<EK!;rw[eo] at ht;rcases KS! with ht|ht;(.have:=x.new t ht;exact⟨this.1,D6! this.2⟩);·(have:J3!:=dS!);rw[this];exact x? (by show G.AY<EK!;exact BU!)
 .intro t ht e;show AB! YY!;rw[eo];rcases KS! with ht|ht;(.exact o0 (x.hk t ht e));.exact ZC _ ht
 .intro q hq t ht e;show AB! YY!;rw[eo];rcases ZI hq with hq|hq;(.exact o0 (x.lk q hq t ht e));·(have:nf!:=dK!);rw[this] at ht;cases ht
theorem Ok.fresh(x:FB):(PF! (t≠Ah!))/\(∀q∈G.AG,oN!)/\O5! oN!:=by
 have nw:Ah!∉EH!:=λm=>by have:=(x.new _ m).2;exact absurd this (bn (¬G.AY<G.AY))
 refine⟨λt ht e=>Kv! nw (x.hk t ht (AM! e)),λq hq e=>Kv! nw (BE hq),λq hq e=>nw (s2! e x.ke (BE hq))⟩
theorem Ok.RT(x:FB):G.holds.length<=n:=by have:=Nv! x.ke;rw[ZA,ZA] at this;rw[this];exact x.oz
theorem Ok.get(x:FB)(t:T2):(De G.holds t).Nodup/\(De G.holds t).length<=n/\∀u∈De G.holds t,u.1=G.num->u∈EH!:=by unfold De;cases e:G0! G.holds.find? GE with | none=>exact⟨DL,wn,BE! (AL! hu)⟩ | some q =>have m:=AW e;exact⟨(x.ln q m).1,(x.ln q m).2,x.lk q m⟩
theorem Ok.find(x:FB)(h1:I7!)(h2:WQ!):∃a,Yi! GE=A! (t,a,De G.holds t):=Qb (H! x.ke (x.hk t h1 h2))
universe E
def Aj(l:V!)(t:T2):Int:=bF! l.find? hf!
theorem Iv(l:V!)(t:T2)(v:Int):C? pw!=v6 B4! er! (er!++[t]):=by
 unfold Bp;by_cases h:B4!;.rw[A6!,A6!,AN];refine OE!;show(Tg!).1=q.1;by_cases e:GE;(.rw[sw]);.rw[XV]
 .rw[BY!,BY!,ZF];rfl
theorem Ok.qX(x:FB)(hf:J2!)(v:Int):Oa! { G with hand:=JM!,AJ:=Ty! G.AJ }:=by
 have x1:=x.mono (EW n);refine⟨Ru _ x.hn,by have:=K4 G.hand tb;have:=x.hz;show(Ct G.hand tb).length<=n+1;lia,x1.on,x1.oz,x1.ke,?_,?_,x1.ln,x1.new,M2!,x1.lk,?_⟩;.show o? (Bp G.AJ tb v).map;rw[Iv];by_cases h:gj!;(.rw[A6!];exact x.rn);.rw[BY!];exact G9 x.rn h
 .have h0:=Nv! (Iv G.AJ tb v);have:=x.rz;show(Bp G.AJ tb v).length<=n+1;rw[ZA] at h0;rw[h0];by_cases h:gj!;(.rw[A6!,ZA];exact GK E9!);.rw[BY!,ZE,ZA];show G.AJ.length+1<=n+1;exact Yx!
 .rcases DE! with ht|ht;(.exact x.hk t ht e);.exact EL! (S? ht e) hf
 .show ∀t∈b4! G.AJ tb,gh!;rw[Iv];intro t ht;by_cases h:gj!;(.rw[A6!] at ht;exact x.rk t ht);.rw[BY!] at ht;rcases KS! with ht|ht;(.exact x.rk t ht);·(have:DO!:=dS!);rw[this];exact hf
universe S
theorem Jh0(G:BZ)(a:Addr):BQ (JE WG!)=BL!++[a]:=by unfold BQ cX JE;simp
universe E
theorem Nc(h:B4!):pc IS! t Hp!:=by cases e:Y9! GE with | none =>obtain⟨q,hq,e2⟩:=ZN h;have:=pu!;exact absurd e2 (by simpa using this) | some q =>(have h1:GE:=dA! (DV e));(have:Hp!=q.2:=by unfold Aj;rw[e];rfl);rw[this,<-h1]
theorem Jc5(h:B4!)(v:Int):MY! pw! l.map:=z! Iv A6!
theorem Zp(h:B4!)(v:Int):(Bp l t v).length=l.length:=Ea! (congrArg List.length (Jc5 h v)) ZA ZA
universe S
theorem Ok.AG(x:FB)(h:FX!)(v:Int):Ok (s3! (Ty! G.AG)) n:=by
 have e:=Jc5 h v;refine⟨x.hn,x.hz,by show o? (Bp G.AG tb v).map;rw[e];exact x.on,by show(Bp G.AG tb v).length<=n;rw[Zp h];exact x.oz,qV! (C? G.holds.map=b4! G.AG tb) e x.ke,x.rn,x.rz,x.ln,?_,?_,?_,x.rk⟩;.show ∀t∈b4! G.AG tb,_;rw[e];exact x.new
 .show PF! (WQ!->AB! (Bp G.AG tb v).map);rw[e];exact x.hk
 .show wX! (WQ!->AB! (Bp G.AG tb v).map);rw[e];exact x.lk
universe E
theorem Tb(f:α->Int):∀{l:U!} (x:Int),Mm! f->(l.filter λe=>f e==x).length<=1
 | [],_,_=>wn
 | a::l,x,nd=>by have nd:=Bd!;rw[DX];by_cases e:f a=x;(.have no:(l.filter λe=>f e==x)=[]:=List.filter_eq_nil_iff.mpr λb hb z=>HI! nd.1 ⟨b,hb,by rw[e];simpa using z⟩;rw[AF (EA!),no];exact AC);.rw[AB (EA!)];exact Tb f x nd.2
universe S
variable {prog:Program}{w:World}{K:Type}[DecidableEq K]{knd:HeapKind prog w K}{A:Around}{E:Value->Shared->Prop}{s:Shared}
def Tame(knd:HeapKind prog w K):Prop:=∀{A:Around} {E:V?} {s:Shared} {k:K} {a:Addr} {Q:h1!},qe!->(∀b,Q b s)->vL! Builtin.Dict.quietEq a
theorem Jcd{id:String}{d:Addr}{ob:Obj}{es:C9!}{ep:Nat}{xs:Fb!}{Q:AC! C9!}(tm:Tame knd)(g:L? s.heap.get? d ob)(dat:ob.data=.dict es ep)(ent:es.toList=xs.map (entryOfKey knd))(keys:∀x∈xs,knd.is s.heap x.1 HK!)(hh:CQ! xs.map (λx=>knd.hash x.1))(q:Q es s):Ao! (Builtin.Dict.entriesForEmpty id d):=by
 have hn:CQ! es.toList.map (λe=>e.hash):=ga ent AN hh
 unfold Builtin.Dict.entriesForEmpty;refine OS! CK g dat ?_;rw[<-Array.forIn_toList];refine XR _ (λrest _ s'=>s'=s/\∀e∈rest,e∈es.toList) _ ?_ ?_ _ _ (x? (λe he=>he));.rintro e rest b s' ⟨rfl,sub⟩;have me:=sub e (Ai!);rw[ent] at me;obtain⟨x,hx,ex⟩:=ZN me;(have ek:e.key=F? HK!:=by rw[<-ex];rfl);rw[ek];refine ZR (tm (keys x hx) λbq=>?_);(have small:¬(es.filter λz=>z.hash==e.hash).size > 1:=by have h1:=Tb (λz:DictEntry=>z.hash) e.hash hn;(have h2:(es.filter λz=>z.hash==e.hash).size=SZ es.toList.filter (λz=>z.hash==e.hash):=O9! CM Array.toList_filter);rw[h2];exact II.mpr h1);cases bq with | true =>simp only[Bool.not_true,CY,ER];exact ZS (x? (D5! (sub e (Aj! he)))) | false =>simp only[Bool.not_false,HU];rw[AB small];exact ZS (x? (D5! (sub e (Aj! he))))
 .rintro b s' ⟨rfl,_⟩;exact ZS q
theorem Qt{d a:Addr}{xs:Fb!}{k:K}{v:Value}{Q:Hv!}(room:oE!)(key:qe!)(m:px!)(z:Dz!)(q:bY! (lL! (storedH xs k a v)) Tb!):Ao! (dictSetHashed d T0 (knd.hash k) v):=by
 obtain⟨ob,es,ep,g,ex,dat,ent,keys,nd⟩:=m;have sz:=J' ent;unfold dictSetHashed;refine EY (ZR (wpAny_dictFind_heap room key g dat ent keys nd (λno=>?_) λj p hj=>?_));.refine ZR (wpAny_rule (wpAny_updateDictKeys (hz:=H! sz z) g dat (q _ ⟨_,_,ep+1,GQ _ g (PJ (HJ dat _)),ex.mapDictKeys _,HJ dat _,?_,EZ!,?_⟩ HT!)));(.rw[storedH_new (atKey_none_of_get no),ZF,<-ent];simp[entryOfKey]);(.rw[storedH_new (atKey_none_of_get no)] at hx;rcases ZI hx with hx|hx;(.exact knd.keeps (keys x hx) g dat HT!);·(have e:x=(k,a,v):=by simpa using hx);rw[e];exact knd.keeps key g dat HT!);.rw[storedH_new (atKey_none_of_get no),ZF];exact G9 nd (not_mem_keys_of_get no)
 .refine d4! wpAny_rule (wpAny_updateDict g dat (wpAny_point (q _ ⟨_,_,ep,GQ _ g (PJ (Obj.data_mapDict dat _)),ex.mapDict _,Obj.data_mapDict dat _,?_,EZ!,?_⟩ HT!)));(.rw[storedH_old (atKey_of_get nd hj)];have e:=modify_map_putAt (entryOfKey knd) (λe:DictEntry=>{ e with val:=v }) k v XD! nd hj;rw[<-ent] at e;rw[<-e];simp);(.rw[storedH_old (atKey_of_get nd hj)] at hx;obtain⟨y,hy,e⟩:=ZN hx;(have e1:x.1=y.1/\HK!=y.2.1:=by rw[<-e];unfold putAt;by_cases c:y.1=k;(.rw[IN];exact BP!);.rw[NE];exact BP!);rw[e1.1,e1.2];exact knd.keeps (keys y hy) g dat HT!);.rw[storedH_old (atKey_of_get nd hj),keys_map_putAt];exact nd
def E3(xs more:Fb!):Fb!:=more.foldl (λacc x=>qu! storedH acc) xs
theorem O9(xs more:Fb!){i:Nat}{x:K×Addr×Value}(h:more[i]?=A! x):E3 xs (more.take KE)=qu! storedH (E3 xs (more.take i)):=by unfold E3;rw[JU,h,List.foldl_append];rfl
theorem Y0(xs:Fb!)(k:K)(a:Addr)(v:Value):(storedH xs k a v).length<=xs.length+1:=by cases e:atKey xs k with | none=>rw[storedH_new e,ZE];exact AC | some p=>rw[storedH_old e,ZA];exact EW _
theorem Lu:∀(more xs:Fb!),Cq! E3 xs more (xs.length+more.length)
 | [],xs=>AC
 | x::r,xs=>by have h1:Yv! E3 (storedH xs x.1 HK! x.2.2) _:=Lu r _;have h2:=qu! Y0 xs;show Yv! E3 (storedH xs x.1 HK! x.2.2) (xs.length+(r.length+1));lia
theorem R7:∀(more xs:Fb!),Hy! (xs++more)->E3 xs more=xs++more
 | [],xs,_=>Bx! AE xs
 | x::r,xs,nd=>by (have e:atKey xs x.1=none:=by cases c:atKey xs x.1 with | none=>rfl | some p =>exfalso;unfold atKey at c;cases f:xs.find? (λy=>Av! y.1 x.1) with | none=>rw[f] at c;cases c | some y =>(have h1:y.1=x.1:=Ge! (DV f));have h2:=AW f;rw[ZF,AM] at nd;exact nd.2.2 _ (BE h2) _ (BE (Ai!)) h1);show E3 (qu! storedH xs) r=xs++x::r;rw[storedH_new e];(have e2:xs++[(x.1,HK!,x.2.2)]++r=xs++x::r:=f6!);rw[R7 r _ (H! e2 nd),e2]
theorem Jby{id:String}{d o:Addr}{xs more:Fb!}{Q:Hv!}(tm:Tame knd)(room:oE!)(ne:d≠o)(lo:AE! (o==sysModules))(hd:px!)(ho:s.heap.DictOfH knd o more)(z:At! (xs.length+more.length))(hh:xs=[]->jN! (λx=>knd.hash x.1))(q:bY! (lL! (E3 xs more)) Tb!):Ao! (Builtin.Dict.mergeDict id d o):=by
 obtain⟨od,esd,epd,gd,exd,bH,JAD,JFh,ndd⟩:=_root_.id hd;obtain⟨oo,RI,epo,go,exo,WQ,fJ,cJ,ndo⟩:=_root_.id ho;have so:=J' fJ;unfold Builtin.Dict.mergeDict Builtin.Dict.showsAll;rw[AB (by simpa using ne),hr! lo];refine aR! go WQ;dsimp only;split;.refine ZR (CK gd bH ?_);split;(.rename_i em;(have ex:xs=[]:=by have h1:=J' JAD;rw[KQ.mp em] at h1;exact BR.mp h1.symm);subst ex;have em':E3 [] more=more:=R7 more [] ndo;rw[em'] at q;refine ZR (Jcd tm go WQ fJ cJ (hh rfl) ?_);split;(·(have zz:RI.size<=sizeLine+1:=by rw[so];have:At! (0+more.length):=z;lia);refine ZR (wpAny_updateDictKeysTo gd bH (ZS (q _ ⟨_,_,epd+1,GQ _ gd (PJ (HJ bH _)),exd.mapDictKeys _,HJ bH _,fJ,EZ!,ndo⟩ HT!)) zz);exact knd.keeps (cJ x hx) gd bH HT!);.rename_i nz;(have e0:more=[]:=by have:RI.size=0:=KQ.mp (by simpa using nz);rw[so] at this;exact BR.mp this);subst e0;exact ZS (q _ hd (Heap.SameBut.refl _ _)));.refine OS! FA go WQ (CK go WQ (ZR ?_));rw[XS];simp only[Std.Legacy.Range.size,Nat.sub_zero,Nat.add_sub_cancel,Nat.div_one];refine XR _ (λrest _ s'=>∃h' j,s'=Ix/\rest=List.range' j (RI.size-j)/\j<=RI.size/\lL! (E3 xs (more.take j))/\Tb!) _ ?_ ?_ _ _ ⟨s.heap,0,rfl,x!,wn,hd,Heap.SameBut.refl _ _⟩;(.rintro i rest b s' ⟨h',j,rfl,hr,hj,RG,sb⟩;(have lt:VP!:=by by_cases c:VP!;(.exact c);.rw[Nat.sub_eq_zero_of_le (II.mp c)] at hr;cases hr);(have er:i=j/\rest=List.range' (j+1) (RI.size-(j+1)):=by rw[qz!,QJ] at hr;exact List.cons.inj hr);obtain⟨rfl,er⟩:=er;have go':KC! o oo:=jM! sb.2 go;obtain⟨x,hx⟩:=kY! more;refine ni! CK Ix go';rw[entry_at fJ i,hx];have kx:=knd.keeps (cJ x (ZP hx)) gd bH sb;(have zl:At! (E3 xs (more.take i)).length:=by have h1:=Lu (more.take i) xs;(have h2:SE! more.take<=more.length:=Xe!);lia);refine NV! (u5! Qt room kx RG zl (λh2 hd2 ng=>?_));have go2:L? h2.get? o oo:=jM! ng.2 go';refine ni! FA od! go2;rw[C6!];exact ZS ⟨h2,i+1,rfl,er,lt,H! (O9 xs more hx) hd2,sb.trans ng⟩);.rintro b s' ⟨h',j,rfl,hr,hj,RG,sb⟩;(have ej:j=RI.size:=by by_cases c:VP!;(.rw[qz!,QJ] at hr;cases hr);.lia);rw[ej,so,BL] at RG;exact ZS (q h' RG sb)
 .refine OS! FA go WQ (CK go WQ (ZR ?_));rw[XS];simp only[Std.Legacy.Range.size,Nat.sub_zero,Nat.add_sub_cancel,Nat.div_one];refine XR _ (λrest _ s'=>∃h' j,s'=Ix/\rest=List.range' j (RI.size-j)/\j<=RI.size/\lL! (E3 xs (more.take j))/\Tb!) _ ?_ ?_ _ _ ⟨s.heap,0,rfl,x!,wn,hd,Heap.SameBut.refl _ _⟩;(.rintro i rest b s' ⟨h',j,rfl,hr,hj,RG,sb⟩;(have lt:VP!:=by by_cases c:VP!;(.exact c);.rw[Nat.sub_eq_zero_of_le (II.mp c)] at hr;cases hr);(have er:i=j/\rest=List.range' (j+1) (RI.size-(j+1)):=by rw[qz!,QJ] at hr;exact List.cons.inj hr);obtain⟨rfl,er⟩:=er;have go':KC! o oo:=jM! sb.2 go;obtain⟨x,hx⟩:=kY! more;refine ni! CK Ix go';rw[entry_at fJ i,hx];have kx:=knd.keeps (cJ x (ZP hx)) gd bH sb;(have zl:At! (E3 xs (more.take i)).length:=by have h1:=Lu (more.take i) xs;(have h2:SE! more.take<=more.length:=Xe!);lia);refine NV! (u5! Qt room kx RG zl (λh2 hd2 ng=>?_));have go2:L? h2.get? o oo:=jM! ng.2 go';refine ni! FA od! go2;rw[C6!];exact ZS ⟨h2,i+1,rfl,er,lt,H! (O9 xs more hx) hd2,sb.trans ng⟩);.rintro b s' ⟨h',j,rfl,hr,hj,RG,sb⟩;(have ej:j=RI.size:=by by_cases c:VP!;(.rw[qz!,QJ] at hr;cases hr);.lia);rw[ej,so,BL] at RG;exact ZS (q h' RG sb)
universe E
theorem Jbc{prog:Program}{w:World}{K:Type}[DecidableEq K](knd:KeyKind prog w K):Tame (tupleKind knd):=λhk q=>by unfold Builtin.Dict.quietEq;exact ZR (wpAny_specialOf (IsTupleKey.typeIs hk) F.slot_tuple_eq.lookup (ZS (q _)))
def Na(w:World)(k:EG!):Int:=oo! (k.map (Jot w))
def F7(kvs more:wv):wv:=more.foldl (λacc kv=>putK acc kv.1 kv.2) kvs
theorem Jho{more:wv}{ms:Ie!}(p:KT H more ms):∀{kvs:wv} {xs:Ie!},Ga!->KT H (F7 kvs more) (E3 xs ms):=by induction p with | nil=>exact id | @cons p q _ _ h t ih =>intro kvs xs r;have e:q.1=p.1:=h.1.symm;have r1:=KT.put r p.1 h.2.1 h.2.2;show KT H (F7 py! _) (E3 (storedH xs q.1 E? FS) _);rw[e];exact ih r1
theorem Jke{kvs:wv}{xs:Ie!}(p:Ga!):(xs.map λx=>(tupleKind (Cg P w)).hash x.1)=kvs.map nu!:=m8! xc (be r.1)
theorem R6:∀(more kvs:wv),Cq! F7 kvs more ff!
 | [],_=>AC
 | q::r,kvs=>by have h1:Yv! F7 (putK kvs q.1 q.2) _:=R6 r _;have h2:=F4 kvs q.1 q.2;show Yv! F7 (putK kvs q.1 q.2) (kvs.length+(r.length+1));lia
universe S
variable {X:Cx Kx}{AA:List (Addr×Obj)}{σ:L2.St}{H:Hp}{s:Shared}{A:Around}{E:Value->Shared->Prop}
theorem Vc{id:String}{d o:Addr}{kvs more:wv}{Q:AC! PySem.Fin}(hu:YX!)(I:K!)(ed:kd!)(eo:Jq! o .dT more)(ne:d≠o)(z:At! ff!)(hh:kvs=[]->jN! (λq=>Na X.w q.1))(q:∀s',xz (kC! d kvs) s'->Q ng! s'):MR! (Builtin.Dict.updateFrom id d (Y! o) [] l?):=by
 obtain⟨zd,ld,xs,rd,dd⟩:=Vp I.DK ed;obtain⟨zo,lo,ms,ro,dO⟩:=Nh I.DK eo;have l1:=y! rd;have l2:=y! ro;unfold Builtin.Dict.updateFrom;refine N0! wpAny_typeOf dO.typeIs;rw[Fe!];refine KW!;unfold Builtin.Dict.merge Builtin.Dict.readDirectly;refine Qg! (wpAny_isInstance dO.typeIs isSubtype_dict_dict ?_);simp only[Bool.not_true,CY,ER];refine ZR (wpAny_specialOf dO.typeIs F.slot_dict_iter.lookup (ZS ?_));simp only[beq_self_eq_true,HU];refine ZR (ZS (Jby (Jbc _) hu ne lo dd dO F! (Ms!) λh' df sb=>?_));.rw[Jke ro];refine hh ?_;rw[e] at l1;exact BR.mp l1
 .obtain⟨ob,es,ep,g,h2,h3,h4,_,h5⟩:=df;(have I':xz (kC! d kvs) Ix:=by refine K8 (t':=s.toks) I (q! ed True.intro) sb ⟨ob,g⟩ ⟨?_,ld,_,(Jho ro rd).keeps λc ys ec=>?_,ob,es,ep,g,h2,h3,h4,h5⟩;(.have:=R6 more kvs;exact pJ!);.rw[Ad (Rt ec ed (λz=>eq!))];exact ec);show bW! (Builtin.Dict.addKeywords d [] >>= _);exact So! ZS (q _ I')
universe E
universe S
variable {X:Cx Kx}
inductive Joj(w:World)(x:V)(vs:C!)(H:Hp)(Q:VK):Prop
 | mk (d o:Addr) (kvs more:wv) (_:XU!) (_:vs=[F? o]) (_:kd!) (_:Jq! o .dT more) (_:d≠o) (_:At! ff!) (_:(kvs=[]->jN! nu!)) (_:Q .EO (kC! d kvs))
theorem Jj5(hu:Fs!):pM X "dict.update" (Joj X.w):=by intro AA s σ H x vs v us Q I rx rv h;obtain⟨d,o,kvs,more,rfl,rfl,ed,eo,ne,z,hh,q⟩:=h;cases rx;obtain⟨u,rfl,ru⟩:=rv.one;cases ru;obtain⟨_,_,xs,rd,dd⟩:=Vp I.DK ed;refine DG PySem.F.slot_dict_update dd.typeIs PySem.F.entry_dict_update ?_ (PySem.F.args_dict_update_2 _ _);unfold Builtin.«dict.update» Builtin.Dict.selfAndRest;refine ka! IU dd.typeIs;exact Vc (id:="dict.update") (DU! (X.A.in1.units<cLine) (FD (knd:=Cg X.prog X.w) hu)) I ed eo ne z hh λs' I'=>IT! .EO I' rfl q
inductive Ja4(w:World)(xs:C!)(H:Hp)(Q:VK):Prop
 | mk (o:Addr) (more:wv) (_:xs=[F? o]) (_:I3! o .dT more) (_:jN! nu!) (_:GT! (kC! p []))
theorem Jcg(hu:IH!):nP! Is! Ja4 X.w:=by
 intro AA s σ H xs us Q I r h;obtain⟨o,more,rfl,eo,hh,q⟩:=h;obtain⟨u,rfl,rx⟩:=GH!;cases rx;refine callType_codes (Q₁:=λobj EK=>obj=hR!/\EK=gH! Is! .dict (#[])) F.kt_called_dict (F.kt_typeCall_dict_1 _) F.entry_dict_init (kt_code_dict_new _ BP!) ?_;rintro obj EK ⟨rfl,rfl⟩;have hn:KL!:=IC!;have I1:=bb! (.dT []) (λ_ _ z=>ZT _ z) (om! Jav);have e1:bv (AP! s.heap.objs.size .dT []) s.heap.objs.size .dT []:=Ab;obtain⟨_,_,xs,rd,dd⟩:=Vp I1.DK e1;refine GM dd.typeIs (F.args_dict_init_2 _ _);unfold Builtin.«dict.__init__» Builtin.Dict.selfAndRest;refine ka! IU dd.typeIs;have ne:s.heap.objs.size≠o:=λz=>by rw[<-z,hn] at eo;cases eo
 have eo1:bv (AP! s.heap.objs.size .dT []) o .dT more:=i! ne.symm eo
 obtain⟨zo,_⟩:=Vp I.DK eo;have oU:X.A.in1.in1.units<cLine:=by (have h1:X.A.in1.in1.units=X.A.units+1+1:=by first|rfl|simp[units_in1]);lia
 exact Vc (id:="dict.__init__") oU I1 e1 (AD! eo1) ne (Dk! BS) (λ_=>hh) λs' I'=>⟨rfl,hR!,_,by rw[V0] at I';exact I',rfl,q _ hn⟩
universe E
def hN(a b:Nat):Int:=oo! [hashInt (c? a),hashInt (c? b)]
theorem Jn{as:U!}{bs:Aq!}(p:pG!){a:α}{b:β}(r:R a b):Paired R (as++[a]) (bs++[b]):=tO p (K? r L!)
theorem Pe{α:Type}(b:SI!){ts:U!}{i:Nat}{t:α}(h:la!):(ts.take KE).filter b=ar! b++TJ! (b t=true) [t]:=by rw[JU,h,CU];cases e:b t<;>simp[e]
theorem Jy(b:SI!)(ts:U!)(i:Nat):SZ ar! b<=ts.length:=Md!
inductive JP(p:Addr)(b:Fy! T2)(ts:D!)(H:Hp)(i:Nat)(ys:C!)(H2:Hp):Prop
 | mk (bs:M!) (_:ys=BR! bs.map) (_:Jn!) (_:Fq!) (_:p6! ar!)
universe S
variable {p:Addr}{b:T2->Bool}{ts:List T2}{H:Hp}{tt:TT}{caps:List (Str×Nat)}{σ:L2.St}{Q:Hp->Prop}
theorem JP.start(hp:Pi!):JP p b ts H 0 [] eS!:=⟨[],rfl,Ag hp,Ab,L!⟩
theorem xM(hp:Pi!)(hz:gl!)(ht:sR! (t∈ts)){i:Nat}{ys:C!}{H2:Hp}{a:Addr}{t:T2}{N:G7!}(pv:ne! i H2)(hi:la!)(ha:dm! H2 a tv t)(n:∀ys H',ne! KE H'->N ys H') : tt (dd! EW!) H2 λc H4=>XL! (re! EW! rK!) (N ys H4):=by
 obtain⟨bs,ey,sm,GV,th⟩:=pv;have e1:=Pe b hi;have ln:ys.length<=ts.length:=dV! ey ZA KV! (Jy b ts i)
 refine ht H2 a t _ sm ha (ZP hi) ?_;cases c:b t with | false =>rw[c] at e1;rw[Fe!];exact n ys H2 ⟨bs,ey,sm,GV,by rw[e1];simpa using th⟩ | true =>rw[c,e?] at e1;rw[e?];(have s2:BQ! (PK! H2 p (ys++[PT!])):=λd o e=>ed! hp (sm d o e));(have kt:e2! H2 H2 p [PT!]:=re GV);refine A1! rfl GV L6! (E! n (Bw! (bs++[a]) (RU! ey) s2 Ab));rw[e1];exact Jn (BC.keep kt th) (X! kt.BB ha)
theorem K7{K:W.Frag}{l:Addr}{as:M!}(hp:Pi!)(hz:gl!)(hl:lr!)(th:A9!)(ht:sR! (t∈ts))(k:∀(H2:Hp) (bs:M!),Jn!->jL! p bs.map->p6! ts.filter->DH!) : T7! (Jv! Oh! Fq! (bz K l).stop DH! (bz K l).go (bz K l).ZQ (Ue! (re! (A! x) vZ!))):=by
 have lt:=KV!;refine Fa (K:=K) (a:=l) (p:=p) (xs:=ZD!) (caps:=caps) (QZ! (ne! i H2)) (JP.start hp) (λi ys H2 _ pv=>?_) (λi x ys H2 N hx pv n=>?_) λys H2 pv=>?_;.obtain⟨bs,_,sm,GV,_⟩:=pv;exact Mo! sm hl GV
 .rw[ZH] at hx;cases ea:Qb! with | none=>rw[ea] at hx;cases hx | some a =>rw[ea] at hx;have hx:gk!:=ZO hx;subst hx;obtain⟨t,et⟩:=qM!;have ha:=rf! et;obtain⟨bs,e0,sm,GV,ZX⟩:=id pv;exact xM hp hz ht pv et (X! sm ha) n
 .obtain⟨bs,ey,sm,GV,ZX⟩:=pv;rw[ZA,lt,BL] at ZX;exact k H2 bs sm (f9! GV) ZX
theorem On{α:Type}{d:Addr}{l:U!}{key:B5!}{val:Fi!}{ob:Obj}(hp:Pi!)(hz:l.length<=900)(hd:Cx! (.FQ ob (.dT (l.map pX!))))(ht:sR! (t∈l.map key))(k:∀(H2:Hp) (bs:M!),Jn!->jL! p bs.map->p6! (l.map key).filter->DH!) : T7! (Jv! Oh! Fq! (h_ d (l.map pX!) ob).stop DH! (h_ d (l.map pX!) ob).go (h_ d (l.map pX!) ob).ZQ (Ue! (re! (A! x) vZ!))):=by
 have hz':(l.map key).length<=900:=FU! hz
 refine GM (λi m ys H2=>m=l.length-i/\i<=l.length/\JP p b (Gx! key) H i ys H2) ⟨l.length,x!,wn,JP.start hp⟩;rintro i m ys H2 ⟨rfl,hi,pv⟩;obtain⟨bs,ey,sm,GV,ZX⟩:=id pv;have hd2:=Ef! hd;refine Ch GV;by_cases KH:i<l.length;.refine iD! ⟨hd2,FU! KH⟩;obtain⟨e,a,kk,v,ex,ek,ha⟩:=y;subst e ex;rw[ZH] at ek;obtain⟨q,hq⟩:=Au KH;rw[hq] at ek;have ek:(tk (key q),val q)=(kk,v):=ZO ek;have e1:kk=tk (key q):=(Prod.mk.inj ek).1.symm;rw[e1,xo] at ha;exact xM (N:=q0! (l.length-i) (l.length-KE) (i+1<=l.length) (JP p b (Gx! key) H KE zs H')) hp hz' ht pv (CS! hq) ha rv!
 ·(have e:i=l.length:=B!);subst e;refine hT! ⟨hd2,FU! AC⟩;(have e2:(l.map key).take l.length=l.map key:=O9! (ZA (f:=key)) BL);rw[e2] at ZX;exact k H2 bs sm (f9! GV) ZX
universe E
def NZ(nx:T2->D!):Nat->D!->AN! D! D!
 | 0,ahead,found,R=>ahead=[]/\R=found
 | n+1,ahead,found,R=>∃a t,ahead=a++[t]/\((t∈found/\NZ nx n a found R)\/(t∉found/\NZ nx n (a++nx t) (JG!) R))
theorem NZ.len:gm! (ba!->ahead.length<=n)
 | 0,_,_,_,h=>H! h.1 AC
 | n+1,_,_,_,⟨a,t,e,h⟩=>by rw[e,ZE];rcases h with⟨_,h⟩|⟨_,h⟩;(.have:=h.len;show gn!<=n+1;exact Yx!);.have:=h.len;rw[ZE] at this;show gn!<=n+1;lia
theorem NZ.sub:gm! (ba!->(∀t∈found,Cp!)/\dY! Cp!)
 | 0,_,_,_,h=>by rw[h.1,h.2];exact⟨λ_ z=>z,λ_ z=>Vv!⟩
 | n+1,_,_,_,⟨a,t,e,h⟩=>by rw[e];rcases h with⟨ht,h⟩|⟨_,h⟩;(.refine⟨h.sub.1,J0!⟩;rcases ZI hu with hu|hu;(.exact h.sub.2 u hu);·(have:u=t:=Wv!);rw[this];exact h.sub.1 t ht);.refine⟨BE! (kT! h.sub.1),J0!⟩;rcases ZI hu with hu|hu;(.exact kT! h.sub.2);.exact h.sub.1 u (ZC _ hu)
theorem NZ.closed:gm! (ba!->(∀t∈found,∀u∈nx t,u∈found\/u∈ahead)->∀t∈R,∀u∈nx t,u∈R)
 | 0,_,_,_,h,c=>by rw[h.2];rw[h.1] at c;exact λt ht u hu=>(c t ht u hu).elim id λz=>Vv!
 | n+1,_,found,_,⟨a,t,e,h⟩,c=>by rw[e] at c;rcases h with⟨ht,h⟩|⟨_,h⟩;(.refine h.closed λs hs u hu=>?_;rcases c s hs u hu with z|z;(.exact J! z);.rcases ZI z with z|z;(.exact ND!);·(have:u=t:=Lt!);rw[this];exact X8!);.refine h.closed λs hs u hu=>?_;rcases ZI hs with hs|hs;(.rcases c s hs u hu with z|z;(.exact J! (ZB _ z));.rcases ZI z with z|z;(.exact I! (ZB _ z));.exact J! (ZC _ z));·(have:s=t:=by simpa using hs);rw[this] at hu;exact I! (ZC _ hu)
theorem NZ.least{nx:T2->D!}{S:n?}(cl:∀t,S t->∀u∈nx t,S u):gm! (ba!->(∀t∈found,S t)->(dY! (S t))->∀t∈R,S t)
 | 0,_,_,_,h,f,_=>H! h.2 f
 | n+1,_,_,_,⟨a,t,e,h⟩,f,g=>by rw[e] at g;have gt:=g t (ZC _ Db);rcases h with⟨ht,h⟩|⟨_,h⟩;(.exact h.least cl f (BE! (kT! g)));.refine h.least cl (J0!) J0!;(.rcases ZI hu with hu|hu;(.exact f u hu);·(have:u=t:=Wv!);rw[this];exact gt);.rcases ZI hu with hu|hu;(.exact kT! g);.exact cl t gt u hu
theorem Lm:lZ! (l≠[]) (∃a t,l=a++[t])
 | [],h=>ap!
 | [x],_=>C1! [] x
 | x::y::l,_=>by obtain⟨a,t,e⟩:=Lm (l:=y::l) Db;exact⟨x::a,t,be e⟩
theorem NZ.ex{nx:T2->D!}{keys:D!}{B:Nat}(sub:∀t,∀u∈nx t,u∈keys)(sz:∀t,SZ nx t<=B):∀(m:Nat)(ahead found:D!),(dY! (t∈keys))->SZ keys.filter (dT! (t∉found))*(B+1)+ahead.length<=m->∃n R,n<=m/\ba!
 | m,ahead,found,ha,hm=>by by_cases e:ahead=[];(.exact⟨0,found,wn,e,rfl⟩);obtain⟨a,t,ea⟩:=Lm e;(have l1:ahead.length=gn!:=DM! ea ZE);have v3:∀u∈a,u∈keys:=BE! (HO! ha u ea (o0 hu));have ht:t∈keys:=ha t (q! ea iG!);match m,hm with | 0,hm=>exact BK! hm F! | m+1,hm =>by_cases hf:t∈found;(.obtain⟨n,R,h1,h2⟩:=NZ.ex sub sz m a found v3 F!;exact⟨n+1,R,J1! GJ,a,t,ea,Al! hf h2⟩);·(have lt:bD! go!<bD! (u∉found):=by (have e1:(keys.filter (JZ! go!))=(keys.filter (JZ! (u∉found))).filter (JZ! (u≠t)):=by rw[List.filter_filter];refine GN λu _=>?_;by_cases c1:u∈found<;>by_cases c2:u=t<;>simp[c1,c2]);rw[e1];refine List.length_filter_lt_length_iff_exists.mpr ⟨t,Ek! ht (by simpa using hf),x!⟩);have l2:=sz t;(have key:bD! go!*(B+1)+AU! (a++nx t)<=m:=by rw[ZE];have:(bD! go!+1)*(B+1)<=bD! (u∉found)*(B+1):=GO _ lt;rw[Nat.add_mul,Nat.one_mul] at this;lia);obtain⟨n,R,h1,h2⟩:=NZ.ex sub sz m (a++nx t) Pn! (BE! ((ZI hu).elim (v3 u) (sub t u))) key;exact⟨n+1,R,J1! GJ,a,t,ea,wS hf h2⟩
def RF(hl:HL)(t:T2):D!:=(De hl t).filter (JZ! gi!)
def Mz(G:BZ):D!:=Zs! (dT! ix!)
def startT(G:BZ):D!:=(G.hand++Mz G).filter (dT! (AB! G.holds.map))
def keepR(G:BZ)(R:D!):BZ:={ G with AG:=I8! G.AG.filter J4!,holds:=I8! G.holds.filter J4! }
def Bn(G:BZ)(t:T2):Bool:=w! I7! || G0! G.holds.any WP!
def HN(G:BZ):BZ:=dc! (G.AJ.filter λq=>Bn G q.1)
universe S
theorem Sx(s:hl.Sublist G.holds):(BQ { G with holds:=hl }).Sublist (BQ G):=by unfold BQ;exact((((s.map _).cons₂ _).cons₂ _).cons₂ _).cons₂ _
theorem AS.aP(x:R?){hl:HL}(s:hl.Sublist G.holds):A0! (AP! G.l Fq hl) { G with holds:=hl }:=gZ! G.l (nm! a2 b1 Ab (YG! c1.symm) (gX! (d1 q (s.subset hq)).2.2.1 (x.hl q (s.subset hq))) (x.nd.sublist (Sx s)))
universe E
theorem Jhz{d:Addr}{kvs:wv}{ob:Obj}{g:TG}{tb:TS}{D:Ends}{σ:L2.St}{H:Hp}(Pv:Nat->GB!)(h0:Sd!)(hf:RO! VT! (Cx! (.FQ ob (.dT kvs))))(hs:∀i a k v σ H,aP!->mE! k.map->Pv i σ H->ws! T0)(hd:UG! kvs.length) : UA! GB! (Q9! (Or! (h_ d kvs ob).stop (h_ d kvs ob).go GB! (h_ d kvs ob).ZQ)):=by
 refine Ud! (kvs.length-i) VT! kvs.length;rintro i m σ H ⟨rfl,hi,pv⟩;have fz:=hf i σ H hi pv;by_cases KH:VE!;.refine U2! (RD! KH) (kvs.length-KE);obtain⟨e,a,k,v,ex,ek,ha⟩:=y;subst e ex;exact hs i a k v σ _ ek ha pv
 ·(have e:i=kvs.length:=B!);subst e;exact Sa! (RD! AC) pv
def Fo(l m:D!):D!:=m.foldl Ct l
theorem R9:∀{m l:D!} {t:T2},t∈Fo l m↔E2!\/t∈m
 | [],l,t=>by simp[Fo]
 | u::m,l,t=>by show t∈Fo (Ct l u) m↔_;rw[R9,DC,CB,or_assoc]
theorem Tr:∀(m l:D!),Cq! Fo l m (l.length+m.length)
 | [],l=>AC
 | u::m,l=>by have h1:Cq! Fo (Ct l u) m _:=Tr m (Ct l u);have h2:=K4 l u;show Cq! Fo (Ct l u) m (l.length+(m.length+1));lia
theorem Tq:∀(m l:D!),(l++m).Nodup->Fo l m=l++m
 | [],l,_=>Bx! AE l
 | u::m,l,nd=>by (have nu:u∉l:=λz=>by rw[AM] at nd;exact nd.2.2 u z u (Ai!) rfl);(have e2:l++[u]++m=l++u::m:=f6!);show Fo (Ct l u) m=_;(have e3:Ct l u=l++[u]:=by unfold Ct;rw[AB nu]);rw[e3,Tq m _ (H! e2 nd),e2]
theorem Kj:∀(m l:D!),F7 (l.map B9!) (m.map B9!)=(Fo l m).map B9!
 | [],l=>rfl
 | u::m,l=>qV! (F7 (putK (Gx! B9!) (tk u) (V.bl true)) (m.map B9!)=_) Fv (Kj m (Ct l u))
theorem Pa{α:Type}{l:U!}{k:B5!}{f:Fi!}{t:T2}:((l.find? (At (k q=t))).map f).isSome=w! (t∈l.map k):=Md!
theorem Of{H:Hp}{d a:Addr}{α:Type}{l:U!}{k:B5!}{f:Fi!}{t:T2}(hd:cG! l.map Lf!)(ha:ZS!):∃o,DS H d T0 o/\o.isSome=w! (t∈l.map k) :=jp (I! ⟨_,tk t,a,hd,rfl,ha,rfl⟩) (H! Ez Pa)
theorem Jdb(a:U!)(t:α):(a++[t])[AU! (a++[t])-1]?=A! t:=DL! ZE
theorem Yu(th:BC H as (a++[t])):∃(bs:M!)(c:Addr),as=bs++[c]/\BC H bs a/\dU! c t:=by
 have hl:=KV!;have ne:as≠[]:=λz=>by rw[z] at hl;simp at hl
 obtain⟨bs,c,e⟩:=Lm ne;subst e;have l2:bs.length=a.length:=by rw[ZE,ZE] at hl;simpa using hl
 refine Bw! bs c rfl ?_;·(have go:∀{xs:M!} {ys:D!} {x:Addr} {y:T2},xs.length=ys.length->BC H (xs++[x]) (ys++[y])->BC H xs ys:=by intro xs;induction xs with | nil=>intro ys x y h _;(cases ys with | nil=>exact L! | cons _ _=>simp at h) | cons x0 xs ih=>intro ys x y h q;cases ys with | nil=>simp at h | cons y0 ys =>cases q with | cons h1 q=>exact K? h1 (ih (UF) q));exact go l2 th
 .exact Ax th bs.length c t Db (DL! l2)
theorem Py{as:M!}{ts:D!}{bs:M!}{us:D!}(p:A9!)(q:BC H bs us):BC H (as++bs) (ts++us):=tO p q
theorem F5{α:Type}(k:B5!)(l:U!){ts:D!}{i:Nat}{t:T2}(h:la!):(l.filter (At (k q∉JH! ts.take)))=(l.filter (At (k q∉ts.take i))).filter (At Xl!):=by rw[List.filter_filter,JU,h];refine GN λq _=>?_;by_cases c1:k q∈ts.take i<;>by_cases c2:k q=t<;>simp[c1,c2]
theorem Ea(k:B5!)(l:U!)(f:Fy! T2):(l.filter λq=>f (k q)).map k=(l.map k).filter f:=be JH
theorem Hu{α:Type}{l:U!}{k:B5!}{f:Fi!}{t:T2}(h:t∈l.map k):∃v,CN! (mG! Lf!):=by rw[Ez];have:=Pa (l:=l) (k:=k) (f:=f) (t:=t);rw[Rs!] at this;exact Option.isSome_iff_exists.mp this
def Al(G:BZ)(ts:D!):BZ:={ G with AG:=I8! G.AG.filter Hd!,holds:=I8! G.holds.filter Hd! }
theorem Tf(G:BZ):Al G []=G:=by
 have a1:I8! G.AG.filter (q.1∉Sc!)=G.AG:=FG.mpr λq _=>x!
 have a2:I8! G.holds.filter (q.1∉Sc!)=G.holds:=FG.mpr λq _=>x!
 unfold Al;rw[a1,a2]
theorem HF{α:Type}{k:B5!}{l:U!}(nd:Mm! k){q:α}(hq:q∈l):l.find? (MO! (k r=k q))=A! q:=by cases e:XB! l.find? (k r=k q) with | none=>have:=pu!;simp at this | some r =>(have h1:k r=k q:=XY!);rw[Gw nd (AW e) hq h1]
def Dr(hand:D!)(qs:HL):D!:=qs.foldl (λl q=>Fo l FS) hand
theorem KA:∀{qs:HL} {hand:D!} {t:T2},t∈Dr hand qs↔t∈hand\/∃q∈qs,WP!
 | [],hand,t=>by simp[Dr]
 | q::qs,hand,t=>by show t∈Dr (Fo hand FS) qs↔_;rw[KA,R9,or_assoc];simp
theorem Pc:∀{qs:HL} {hand:D!},(de! (q.2.2.length<=B))->Cq! Dr hand qs (hand.length+qs.length*B)
 | [],hand,_=>by simp[Dr]
 | q::qs,hand,h=>by have h1:Cq! Dr (Fo hand FS) qs _:=Pc (ii (h r (Aj! hr)));have h2:=Tr FS hand;have h3:=Eq! q;show Cq! Dr (Fo hand FS) qs (hand.length+(qs.length+1)*B);rw[Nat.add_mul,Nat.one_mul];lia
theorem Yc(hand:D!){qs:HL}{i:Nat}{q:T2×Addr×D!}(h:qs[i]?=A! q):Dr hand (qs.take KE)=Fo (Dr hand (qs.take i)) FS:=by unfold Dr;rw[JU,h,List.foldl_append];rfl
theorem Je4(G:BZ)(t:T2):(decide (qg!))=Bn G t:=by
 unfold Bn;by_cases h:qg!;.rw[Rs!];rcases KA.mp h with h|⟨q,hq,h⟩;(.simp[h]);.have:ft! G.holds.any:=IT.mpr ⟨q,hq,UF⟩;rw[this];simp
 .rw[YB!];have h1:t∉G.hand:=λz=>h (KA.mpr (Z! z));(have h2:r? (G.holds.any (At WP!)):=by rw[List.any_eq_false];intro q hq z;exact h (KA.mpr (J? (L2! Lt!))));simp[h1,h2]
theorem Ye{α:Type}{b:SI!}{ts:U!}{i:Nat}{t:α}(h:la!):(ts.take KE).filter b=ar! b++TJ! (b t=true) [t]:=Pe b h
theorem Od(b:SI!)(ts:U!)(i:Nat):SZ ar! b<=ts.length:=Jy b ts i
theorem O8:∀{l:U!} {i:Nat} {t:α},l.Nodup->l[i]?=A! t->t∉l.take i
 | [],_,_,_,h=>Ce!
 | x::l,0,t,_,_=>x!
 | x::l,i+1,t,nd,h=>by have nd:=Bd!;(have h:l[i]?=A! t:=UF);rw[List.take_succ_cons];intro z;rcases ZM z with z|z;(.exact s8! nd.1 z (ZP h));.exact O8 nd.2 h z
def I_(H:Hp):hZ! V!:=Mh! (λa q=>∃c,Kt! [F? c,T! q.2]/\dU! c q.1)
theorem I_.keep(k:p?)(x:I_ H as bs):I_ H' as bs:=ie! (by obtain⟨c,e1,e2⟩:=h9;exact⟨c,j2!,TE!⟩) x
theorem Jdc{H:Hp}{val:T2->V}:∀{l:D!} {as:M!},tF H (Gx! (λq=>(tk q,val q))) as->BC H as l
 | [],as,h=>by cases h;exact L!
 | t::l,as,h=>by cases h with | cons h1 h2=>exact K? (S? xo h1) (Jdc h2)
theorem Vk{α:Type}(k:B5!){l:U!}{ks R:D!}(h:∀q∈l,k q∈ks):(l.filter (At (k q∉ks.filter SP!)))=l.filter (At (k q∈R)):=GN (No (by by_cases c:k q∈R;(·(have:k q∉ks.filter SP!:=λz=>by have:=QM! z;simp[c] at this);simp[c]);.have:k q∈ks.filter SP!:=Ek! (h q hq) L3!;simp[c,h q hq]))
theorem Yg{G:BZ}{R:D!}(ke:OT!):Al G (Zs! SP!)=Z6!:=by
 have h1:=Vk (An!) (l:=G.AG) (ks:=EH!) (R:=R) (No (BE hq));have h2:=Vk (DX!) (l:=G.holds) (ks:=EH!) (R:=R) (No (S? ke (BE hq)))
 unfold Al keepR;rw[h1,h2]
theorem Rr:aA (D8! []):=Fi λ_ h=>Dn!
theorem Jr1(ts:D!)(h:b∈BQ ol):Mr!:=by have:(BQ ol).Sublist (BQ G):=Sx (G:=s3! (Al G ts).AG) EU;exact this.subset h
universe S
theorem Jgl(h:gq!)(v:Int):Bp l t v=l++[(t,v)]:=by unfold Bp;rw[BY!]
theorem Fm(h:gq!):Hp!=0:=by unfold Aj;rw[cR! (¬GE) h];rfl
universe E
theorem Jd1(h:(BQ G).Nodup):CQ! G.holds.map Gl!:=by unfold BQ at h;simp only[AX] at h;exact h.2.2.2.2
universe S
variable {p:Addr}{H H':Hp}{G:BZ}
universe E
universe S
variable {G M:BZ}{n:Nat}{R:List T2}
theorem Jmn(ok:FB){q:T2×Addr×D!}(hq:q∈G.holds){t:T2}(ht:WP!)(e:AB! G.holds.map):t∈RF G.holds q.1:=by
 have nd:NO!:=H! ok.ke ok.on
 have f:=HF (k:=DX!) nd hq;have:De G.holds q.1=FS:=VL! f
 unfold RF;rw[this];exact Ek! ht EA!
theorem Ok.keepR(ok:FB)(st:∀t∈startT G,Cp!)(cl:∀t∈R,∀u∈RF G.holds t,u∈R):Ok (FX.keepR G R) n:=by
 have mem:∀t,G9!->Cp!->AB! (G.AG.filter (At J4!)).map:=λt h1 h2=>H! (p8! iX!) (Ek! h1 W8!)
 have sub:∀t,AB! (G.AG.filter (At J4!)).map->G9!:=λt h=>QV! h;refine⟨ok.hn,ok.hz,iM! ok.on.sublist,Sq! ok.oz,?_,ok.rn,ok.rz,am! ok.ln,sB (ok.new t (sub t ht)),M2!,λq hq t ht e=>?_,ok.rk⟩;.show pW! J4! J4!;rw[Ea (DX!) G.holds (iX!),p8! iX!,ok.ke]
 .have h1:=ok.hk t ht e;refine mem t h1 (st t ?_);unfold startT;exact Ek! (o0 ht) (by rw[ok.ke];simpa using h1)
 .obtain⟨i6,gH⟩:=AD.mp hq;have h1:=ok.lk q i6 t ht e;exact mem t h1 (cl q.1 (by simpa using gH) t (Jmn ok i6 ht (q! ok.ke h1)))
theorem Ok.HN(ok:FB):Ok (FX.HN G) n :=⟨ok.hn,ok.hz,ok.on,ok.oz,ok.ke,iM! ok.rn.sublist,Sq! ok.rz,ok.ln,ok.new,ok.hk,ok.lk,sB (ok.rk t (QV! ht))⟩
theorem Jeb(G:BZ):∀t∈startT G,AB! G.holds.map:=sB m3!
theorem Jhh(hl:HL)(t:T2):∀u∈RF hl t,gi!:=BE! (dA! (QM! hu))
universe E
universe S
universe E
universe S
universe E
theorem Qq(h:n<=100000):n<sizeLine:=Vb! JK h
def lg:Fy! j!
 | []=>true
 | [_]=>true
 | x::y::l=>w! (x<y)&&lg (y::l)
theorem Jfl:∀{l:j!} {x:Int},lg (x::l)=true->∀y∈l,x<y
 | [],_,_,y,hy=>by simp at hy
 | z::l,x,h,y,hy=>by unfold lg at h;rw[HI] at h;have h1:=BU h.1;rcases ZM hy with rfl|hy;(.exact h1);.exact Int.lt_trans h1 (Jfl h.2 y hy)
theorem Jfk:∀{l:j!},Tk lg l->l.Nodup
 | [],_=>DL
 | [x],_=>x!
 | x::y::l,h=>by have h':=h;unfold lg at h';rw[HI] at h';exact AX.mpr ⟨λm=>Int.lt_irrefl _ (Jfl h x m),Jfk h'.2⟩
def jM:Ac! (Nat×Nat):=(List.range 12).flatMap λn=>Sv! 60 (λj=>(n,j))
def fY:j!:=jM.map λp=>hN p.1 p.2
def tH(x:Int):j!->j!
 | []=>[x]
 | y::l=>v6 (x<y) (x::y::l) (y::tH x l)
theorem U5(x:Int):∀l:j!,(tH x l).Perm (x::l)
 | []=>WR!
 | y::l=>by unfold tH;split;(.exact WR!);.exact((U5 x l).cons y).trans (List.Perm.swap x y l)
def tQ:j!->j!
 | []=>[]
 | x::l=>tH x (tQ l)
theorem Um:∀l:j!,(tQ l).Perm l
 | []=>WR!
 | x::l=>(U5 x (tQ l)).trans ((Um l).cons x)
theorem Jjh:lg (tQ fY)=true:=ZV
theorem Jji:fY.Nodup:=(Um fY).nodup_iff.mp (Jfk Jjh)
def au(t:T2):Prop:=0<=t.1/\t.1<12/\0<=t.2/\t.2<60
theorem Je5(ht:au t)(hu:au u)(e:Na w (tk t)=Na w (tk u)):t=u:=by
 have j5:∀v:T2,0<=v.1->0<=v.2->Na w (tk v)=hN gD! gE!:=λv h1 h2=>by show oo! [hashInt v.1,hashInt v.2]=oo! [hashInt (c? gD!),hashInt (c? gE!)];rw[BO h1,BO h2]
 obtain⟨a0,a1,a2,a3⟩:=ht;obtain⟨b0,b1,b2,b3⟩:=hu;rw[j5 t a0 a2,j5 u b0 b2] at e;have m:∀v:T2,0<=v.1->v.1<12->0<=v.2->v.2<60->(gD!,gE!)∈jM:=λv h0 h1 h2 h3 =>BG.mpr ⟨gD!,YS!,Pv! gE! YS!⟩;have:=Gw (f:=λp:Nat×Nat=>hN p.1 p.2) Jji (m t a0 a1 a2 a3) (m u b0 b1 b2 b3) e;have e1:=Px! Prod.fst this;have e2:=Px! Prod.snd this;simp only at e1 e2;exact KF! Prod.ext F!
theorem Jam:∀{ts:D!},ts.Nodup->(∀t∈ts,au t)->CQ! ts.map (λt=>Na w (tk t))
 | [],_,_=>DL
 | t::ts,nd,hr=>by have nd:=Bd!;refine AX.mpr ⟨Jz!,Jam nd.2 (BE! (hr u (Aj! hu)))⟩;obtain⟨u,hu,e⟩:=Dr!;exact nd.1 ((Je5 (hr t Gy!) (hr u (ZD _ hu)) e.symm)▸hu)
theorem Sq{w:World}{l:D!}(nd:l.Nodup)(hr:∀t∈l,au t):((l.map B9!).map nu!).Nodup:=H! AN (Jam nd hr)
def Jik(o:Obj):Prop:=XX!/\o.dict=none/\∃xs k,o.data=D0! xs k
universe S
inductive Ps(K:W.Frag)(xs:C!)(H:Hp)(Q:VK):Prop
 | mk p ys (_:TD!) (_:lP!) (_:∀l o,Jh!->Jik o->BH! l (upd H l (.FQ o (.BB ys))))
theorem Ti{X:G!}:nP! AJ! Ps Kx:=by intro AA s σ H xs us Q I r h;obtain⟨p,ys,rfl,hq,q⟩:=h;obtain⟨u,rfl,rx⟩:=GH!;cases rx;obtain⟨its,r',pl,hz⟩:=Hz!;have hlen:=r'.length;refine call_tuple_list pl.isList (λh' kp=>?_) (U9!);have I1:KM!:=I.kept (t':=s.toks) kp;have I2:vE! h'.objs.size (.FQ (VS! AJ! D0! its.toArray) (.BB ys)) (Ou! (h'.push (VS! AJ! D0! its.toArray))) :=I1.laid (t':=s.toks) (Fz!) ci (show PU! _ _ _ (.FQ _ (.BB ys)) from⟨CM!,hz,its,r',IsTup.new _ _⟩);exact Ve! h'.objs.size _ I2 (o! q Zy! ⟨rfl,rfl,_,_,rfl⟩)
universe E
universe S
universe E
universe S
universe E
universe S
variable {X:Cx Kx}
universe E
universe E FX
universe N K45
open PySem L2 FX
def top(i:Nat):Stmt:=PySem.Challenge.pw_farhold_k45_asks.main.body.getD i (.Pass ⟨0,0,0,0⟩)
abbrev Zd:Stmt:=am 0
abbrev Zb:Stmt:=am 1
abbrev Ze:Stmt:=am 2
abbrev Zg:Stmt:=am 3
abbrev Y8:Stmt:=am 4
abbrev Zf:Stmt:=am 5
abbrev Za:Stmt:=am 6
abbrev Zi:Stmt:=am 7
abbrev Ra:Stmt:=am 8
abbrev Q8:Stmt:=am 9
abbrev Mh:Stmt:=am 10
abbrev Ur:Stmt:=am 13
abbrev Ny:Stmt:=am 14
abbrev Y7:Stmt:=am 15
abbrev Kd:Stmt:=am 16
abbrev Hn:Stmt:=am 18
abbrev Kc:Stmt:=am 19
abbrev Kt:Stmt:=am 20
abbrev Q4:Stmt:=am 21
abbrev Ut:Stmt:=am 22
abbrev tY:Stmt:=top 25
abbrev Ks:Stmt:=top 12
abbrev F3:Stmt:=top 10
abbrev Gp:Stmt:=top 16
abbrev Ir:Stmt:=top 17
abbrev Q7:Stmt:=YW! 0
abbrev Ml:Stmt:=YW! 1
abbrev Ke:Stmt:=YW! 2
abbrev Mj:Stmt:=YW! 3
abbrev Kf:Stmt:=YW! 4
abbrev Zc:Stmt:=am 12
abbrev Y6:Stmt:=v4 8
abbrev Io:Stmt:=v4 17
abbrev Fd:Stmt:=v4 18
abbrev Il:Stmt:=v4 19
abbrev Ip:Stmt:=v4 20
abbrev Kb:Stmt:=v4 21
abbrev Y9:Stmt:=top 26
abbrev Kg:Stmt:=top 27
abbrev Zh:Stmt:=top 28
abbrev rM:Stmt:=top 29
abbrev Q3:Stmt:=am 17
abbrev Q9:Stmt:=am 11
abbrev Q6:Stmt:=am 23
abbrev Us:Stmt:=am 24
abbrev Q5:Stmt:=iA! 0
abbrev Li:Stmt:=iA! 1
abbrev Iu:Stmt:=iA! 2
abbrev Mi:Stmt:=iA! 3
abbrev Wu:Stmt:=v4 0
abbrev Qz:Stmt:=v4 1
abbrev Q0:Stmt:=v4 2
abbrev Q2:Stmt:=v4 3
abbrev Qv:Stmt:=v4 4
abbrev Q1:Stmt:=v4 5
abbrev Ws:Stmt:=v4 11
abbrev Qw:Stmt:=v4 6
abbrev Mg:Stmt:=v4 7
abbrev Im:Stmt:=v4 9
abbrev Mf:Stmt:=v4 10
abbrev Ik:Stmt:=v4 12
abbrev Ep:Stmt:=v4 14
abbrev Ka:Stmt:=v4 15
abbrev Qx:Stmt:=v4 16
abbrev Nx:Stmt:=v4 22
abbrev Nu:Stmt:=v4 13
abbrev xY:Stmt:=top 30
abbrev yC:Stmt:=top 31
abbrev Wv:Stmt:=top 32
abbrev Ww:Stmt:=top 33
abbrev xj:Stmt:=top 34
abbrev yB:Stmt:=top 35
abbrev xh:Stmt:=top 36
abbrev xi:Stmt:=top 37
abbrev xk:Stmt:=top 38
abbrev xl:Stmt:=top 39
abbrev xq:Stmt:=top 40
abbrev yA:Stmt:=top 41
abbrev xg:Stmt:=top 42
abbrev kQ:Stmt:=top 43
structure CJ(K:W.Frag)(C:Addr)(x qual:Str)(st:Stmt)(ps:U?)(f:Addr)(fd:FuncData):Prop where
 fn:Tn!
 bd:b7!
 mt:pO K C x f
structure OU(K:W.Frag)(mg:v?)(x:Str)(st:Stmt)(ps:U?)(f:Addr)(fd:FuncData):Prop where
 fn:up! x
 bd:b7!
 mg:E7! mg MA!
structure MeI(K:W.Frag)(C:Addr)(x q:Str)(st:Stmt)(f:Addr)(fd:FuncData):Prop where
 a:cj! x
 i:mK!
 fn:up! q
structure GI(K:W.Frag)(x:Str)(st:Stmt)(f:Addr)(fd:FuncData):Prop where
 a:Fu! x f
 fn:up! x
structure QT(K:W.Frag)(x:Str)(st:Stmt)(ps:U?)(f:Addr)(fd:FuncData):Prop extends GI K x st f fd where
 b:b7!
theorem QT.VG{K:W.Frag}{mg:v?}{hp:Heap}{x:Str}{st:Stmt}{f:Addr}{fd:FuncData}{ps:U?}(m:cr x st ps f fd)(X:K.In hp)(G:QR! hp.Ns):WF x st ps f fd:=⟨m.fn,m.b,NV X G m.a⟩
structure tq(K:W.Frag)(C:Addr):Prop where
 pg:cJ! Str.empty
 hd:kg!
 po:Qn! W.plainOver
 sa:W.findIn K DT! "__setattr__"=A! (Yh! "object.__setattr__")
 mm:Qn! W.makesIn
 kc:W.keepIn K DT!=true
def Bd(x q:Str)(st:Stmt)(ps:U?):Prop:=∀(kV doc pm:Value)(an:KP!)(D_ ct:Value)(us:g!),fW!->bindArgs (sN! q) Ng!=pe!
theorem el0{P:NM!}{us:g!}(h:PX! 0)(k:P []):P us:=by
 rcases us with _|⟨a,us⟩;.exact k
 .cases h
theorem o_{P:NM!}{n:Nat}{us:g!}(h:PX! (n+1))(k:∀a vs,vs.length=n->P (a::vs)):P us:=by
 rcases us with _|⟨a,us⟩;.cases h
 .exact k a us (Nat.succ.inj h)
theorem sZ{P:NM!}{us:g!}(h:PX! 1)(k:∀u0,P [u0]):P us:=c0! el0
theorem pB{P:NM!}{us:g!}(h:PX! 2)(k:∀u0 u1,P [u0,u1]):P us:=c0! sZ
theorem eQ{P:NM!}{us:g!}(h:PX! 3)(k:∀u0 u1 u2,P [u0,u1,u2]):P us:=c0! pB
theorem gR{P:NM!}{us:g!}(h:PX! 4)(k:∀u0 u1 u2 u3,P [u0,u1,u2,u3]):P us:=c0! eQ
theorem mY{P:NM!}{us:g!}(h:PX! 5)(k:∀u0 u1 u2 u3 u4,P [u0,u1,u2,u3,u4]):P us:=c0! gR
def BA(x q:Str)(st:Stmt)(ps:U?)(us:g!):Prop:=∀(kV doc pm:Value)(an:KP!)(D_ ct:Value),bindArgs (sN! q) Ng!=pe!
theorem bd1{a:Str}(h:∀u0,WK! [a] [u0]):T9! [a]:=c7! sZ [a]
theorem bd2{a b:Str}(h:∀u0 u1,WK! [a,b] [u0,u1]):T9! [a,b]:=c7! pB [a,b]
theorem bd3{a b c:Str}(h:∀u0 u1 u2,WK! [a,b,c] [u0,u1,u2]):T9! [a,b,c]:=c7! eQ [a,b,c]
theorem bd4{a b c d:Str}(h:∀u0 u1 u2 u3,WK! [a,b,c,d] [u0,u1,u2,u3]):T9! [a,b,c,d]:=c7! gR [a,b,c,d]
theorem bd5{a b c d e:Str}(h:∀u0 u1 u2 u3 u4,WK! [a,b,c,d,e] [u0,u1,u2,u3,u4]):T9! [a,b,c,d,e]:=c7! mY [a,b,c,d,e]
theorem MeI.mth{K:W.Frag}{C:Addr}{x q:Str}{st:Stmt}{f:Addr}{fd:FuncData}{ps:U?}(m:MeI K C x q st f fd)(h:T9! ps:=by first|exact K45.bd1 λ_ _ _ _ _ _ _=>rfl|exact K45.bd2 λ_ _ _ _ _ _ _ _=>rfl|exact K45.bd3 λ_ _ _ _ _ _ _ _ _=>rfl|exact K45.bd4 λ_ _ _ _ _ _ _ _ _ _=>rfl|exact K45.bd5 λ_ _ _ _ _ _ _ _ _ _ _=>rfl|exact K45.bd0 λ_ _ _ _ _ _=>rfl|exact K45.bd6 λ_ _ _ _ _ _ _ _ _ _ _ _=>rfl):CJ K C x q st ps f fd:=⟨m.fn,m.fn.binds h,⟨m.a,m.i,m.fn.kp⟩⟩
theorem GI.gdi{K:W.Frag}{x:Str}{st:Stmt}{f:Addr}{fd:FuncData}{ps:U?}(m:GI K x st f fd)(h:Bd x x st ps:=by first|exact K45.bd1 λ_ _ _ _ _ _ _=>rfl|exact K45.bd2 λ_ _ _ _ _ _ _ _=>rfl|exact K45.bd3 λ_ _ _ _ _ _ _ _ _=>rfl|exact K45.bd4 λ_ _ _ _ _ _ _ _ _ _=>rfl|exact K45.bd5 λ_ _ _ _ _ _ _ _ _ _ _=>rfl|exact K45.bd0 λ_ _ _ _ _ _=>rfl|exact K45.bd6 λ_ _ _ _ _ _ _ _ _ _ _ _=>rfl):cr x st ps f fd:=⟨m,m.fn.binds h⟩
inductive Oy(K:W.Frag)(vs:C!)(H:Hp)(Q:VK)(E:XK):Prop
 | mk (a:Addr) (ns:j!) (_:vs=[Os]) (_:gU K H a Qr!) (_:gs!) (_:∀H',Q (.bl true) H')
def Gl(R:Prop)(K:W.Frag)(mg:v?)(C CW CP CI NH YA aW MI NL NW de QX QF eP SM SD SU TC WM V' SS RZ VS WG VU VZ WB WO WH WN SK SO RY VY V_ RW WC WD WA VQ OM MF MT LJ LI MK VR MC MJ MQ OL ON OK WE VX SV VT WL SR SQ SA QY WK WJ SJ SH SG LK MW MV MM MX MN RU VW MO ME RV SE SW SY SN S_ TH SF R_ RX SX TB bp:Addr)(eX TX QZ eW UE TV UL US XN XA UK TQ WT XG WV WZ XC XQ XH XO UD UH TN WY W_ TL XD XE XB WR OQ M_ NG LN LM NA WS MY M' NF OP OR OO XF WX UM WU XM UJ UI TU UC XJ XI UB UA T_ LO NJ NI NB NK NC TJ WW ND MZ TK TY UN UP UG UQ UT TZ TR TM UO UR bu:FuncData):Prop:=∀⦃h:Heap⦄ (X:K.In h) (G:QR! h.Ns)
 (aC:Fu! "House" C)
 (aCW:Fu! "World" CW)
 (aCP:Fu! "Post" CP)
 (aCI:Fu! "Inquiry" CI)
 (aNH:Fu! "NoHouse" NH)
 (aNHd:Fu! "NotHeld" YA)
 (aNNr:Fu! "NotNear" aW)
 (aMI:Fu! "Missing" MI)
 (aNL:Fu! "NoLetter" NL)
 (aNW:Fu! "NoWeight" NW)
 (xNH:Tq! NH)
 (xNHd:Tq! YA)
 (xNNr:Tq! aW)
 (xMI:Tq! MI)
 (xNL:Tq! NL)
 (xNW:Tq! NW)
 (sXW:o4! NW (Y! NW))
 (hI:nJ! C tA! Zd de eX)
 (hPI:nJ! CP tB! Q5 QX TX)
 (hWI:nJ! CW "World.__init__" Wu QF QZ)
 (mM:JO! FG! tC! Zb eP eW)
 (mFr:R0! FH! tD! Zf SM UE)
 (mPa:CJ K C "part" tE! Za NX! SD TV)
 (mCa:Jk! "came" tF! Zi SU UL)
 (mAd:Jk! "added" tG! Ra TC US)
 (mGi:Jk! "given" tH! Q8 WM XN)
 (mPs:CJ K C "passed" tI! Mh OU! V' XA)
 (mCl:JO! FJ! tJ! Q9 SS UK)
 (mSt:JO! G8! do! Ny RZ TQ)
 (mTo:da! Vc! tL! Y7 VS WT)
 (mNe:wM! WG XG)
 (mSp:da! tN! tO! Q3 VU WV)
 (mQH:wV! VZ WZ)
 (mPR:R0! tP! tQ! Q4 WB XC)
 (mAR:rG! WO XQ)
 (mLo:rU! WH XH)
 (mGb:rD! WN XO)
 (mHo:Jj! Z? tR! Ze SK UD)
 (mDr:Jj! Da! tS! Zg SO UH)
 (mTa:Jj! Db! tT! Y8 RY TN)
 (mQN:wv! VY WY)
 (mQG:rF! V_ W_)
 (mTi:JO! JP! dp! Ur RW TL)
 (mPP:wW! WC XD)
 (mPL:CJ K CP Pg! tU! Iu UV WD XE)
 (mPT:CJ K CP "taken" tV! Mi CP! WA XB)
 (mWM:DV! FG! tW! Qz VQ WR)
 (mWFr:E5! FH! tX! Q1 NT! OM OQ)
 (mWSe:E5! Ph! tY! Qw Nd! MF M_)
 (mWCl:DV! FJ! tZ! Mg MT NG)
 (mWDe:YP! HE! ta! Im LJ LN)
 (mWSt:DV! G8! "World.state" Mf LI LM)
 (mWLe:E5! Pg! "World.letters" Ik UV MK NA)
 (mWH:w7! VR WS)
 (mWWe:CV! tb! tc! Ka MC MY)
 (mWPa:CV! td! te! Qx MJ M')
 (mWGb:r2! MQ NF)
 (mWHo:Hw! Z? tf! Q0 OL OP)
 (mWDr:Hw! Da! tg! Q2 ON OR)
 (mWTa:Hw! Db! th! Qv OK OO)
 (mP1:cr Vg! Ks Mv! WE XF)
 (mR1:cr MF! F3 GV! VX WX)
 (mC1:cr ti! tY a8! SV UM)
 (mSu:cr tj! Y9 oS! VT WU)
 (mHg:cr tl! Kg oT! WL XM)
 (mDe:cr "_law_deed" Zh cX! SR UJ)
 (mDo:cr tn! rM H8! SQ UI)
 (mSh:cr "_law_share" yC EY! SA TU)
 (hII:nJ! CI to! Q7 QY UC)
 (mIF:CJ K CI FL! tp! Ml Of! WK XJ)
 (mIS:CJ K CI JS! tq! Ke Ns! WJ XI)
 (mIL:TL! "still" ts! Mj SJ UB)
 (mIR:TL! "result" tt! Kf SH UA)
 (mLH:vG! Cz! tu! Zc SG T_)
 (mWAs:DV! Rs tv! Y6 LK LO)
 (mWAc:CV! tw! tx! Io MW NJ)
 (mWAn:CV! tz! t0! Fd MV NI)
 (mWLc:CV! t1! t2! Il MM NB)
 (mWAa:r3! MX NK)
 (mWLa:E5! t7! uA! Kb Ob! MN NC)
 (mUn:cr dt! Gp Jb! RU TJ)
 (mRc:cr dv! Ir Jb! VW WW)
 (mWIn:YP! "inquiry" "World.inquiry" Nu MO ND)
 (mWTi:DV! JP! "World.tick" Ws ME MZ)
 (mTy:cr "_law_try" xY H8! RV TK)
 (mLe:cr "_law_letter" Wv Yy! SE TY)
 (mBo:cr "_law_bodies" Ww Yz! SW UN)
 (mAs:cr "_law_asks" xj cn! SY UP)
 (mFo:cr "_law_found" yB gC! SN UG)
 (mAn:cr "_law_answer_came" xh qX! S_ UQ)
 (mAc:cr "_law_ask_came" xi p0! TH UT)
 (mLc:cr "_law_let_came" xk it! SF TZ)
 (mSq:cr "_law_step" xl rx! R_ TR)
 (mTd:cr "_law_told" xq iu! RX TM)
 (mBe:cr "_law_begun" yA rw! SX UO)
 (mAm:cr "_law_amid" xg rQ! TB UR)
 (hW:GI K "law" kQ bp bu)
 (cC:tq K C)
 (nC0:GJ! Dy!)
 (nC1:GJ! Ci!)
 (nC2:GJ! DN!)
 (nC3:GJ! Bj!)
 (nC4:GJ! BF!)
 (nC5:GJ! BG!)
 (nC6:GJ! Bk!)
 (cCW:tq K CW)
 (nCW0:TO! DP!)
 (nCW1:TO! ED!)
 (nCW2:TO! CG!)
 (nCW3:TO! EE!)
 (nCW4:TO! Lw!)
 (nCW5:TO! O7!)
 (cCP:tq K CP)
 (nCP0:W.findIn K (Y! CP) Lv!=A! none)
 (nCP1:W.findIn K (Y! CP) PC!=A! none)
 (cCI:tq K CI)
 (nCI0:kI! FP!)
 (nCI1:kI! Dj!)
 (nCI2:kI! HJ!)
 (nCI3:kI! JV!)
 (z0:GY! "len")
 (z1:GY! DK!)
 (z2:GY! AJ!)
 (z3:GY! O3!)
 (z4:GY! "isinstance")
 (z5:GY! SB)
 (z6:GY! Is!)
 (z7:GY! "max")
 (z8:GY! "int")
 (z9:GY! "bool"),R
def xO(P:Program)(w:World)(K:W.Frag)(mg:v?)(base:Heap)(C CW CP CI NH YA aW MI NL NW de QX QF eP SM SD SU TC WM V' SS RZ VS WG VU VZ WB WO WH WN SK SO RY VY V_ RW WC WD WA VQ OM MF MT LJ LI MK VR MC MJ MQ OL ON OK WE VX SV VT WL SR SQ SA QY WK WJ SJ SH SG LK MW MV MM MX MN RU VW MO ME RV SE SW SY SN S_ TH SF R_ RX SX TB bp:Addr)(eX TX QZ eW UE TV UL US XN XA UK TQ WT XG WV WZ XC XQ XH XO UD UH TN WY W_ TL XD XE XB WR OQ M_ NG LN LM NA WS MY M' NF OP OR OO XF WX UM WU XM UJ UI TU UC XJ XI UB UA T_ LO NJ NI NB NK NC TJ WW ND MZ TK TY UN UP UG UQ UT TZ TR TM UO UR bu:FuncData):Prop:=Gl (sW! cG 12 bp bu EY! TY!) K mg C CW CP CI NH YA aW MI NL NW de QX QF eP SM SD SU TC WM V' SS RZ VS WG VU VZ WB WO WH WN SK SO RY VY V_ RW WC WD WA VQ OM MF MT LJ LI MK VR MC MJ MQ OL ON OK WE VX SV VT WL SR SQ SA QY WK WJ SJ SH SG LK MW MV MM MX MN RU VW MO ME RV SE SW SY SN S_ TH SF R_ RX SX TB bp eX TX QZ eW UE TV UL US XN XA UK TQ WT XG WV WZ XC XQ XH XO UD UH TN WY W_ TL XD XE XB WR OQ M_ NG LN LM NA WS MY M' NF OP OR OO XF WX UM WU XM UJ UI TU UC XJ XI UB UA T_ LO NJ NI NB NK NC TJ WW ND MZ TK TY UN UP UG UQ UT TZ TR TM UO UR bu
abbrev Ev:Type:=Program×World×W.Frag×XF!×Heap×WN! (WN! (WN! (WN! (WN! ((KZ!)×(Nat->FuncData))))))
def tT(e:Ev):Prop:=xO e.1 e.2.1 e.2.2.1 e.2.2.2.1 e.2.2.2.2.1 e.2.2.2.2.2.1 e.2.2.2.2.2.2.1 e.2.2.2.2.2.2.2.1 e.2.2.2.2.2.2.2.2.1 e.2.2.2.2.2.2.2.2.2.1 e.2.2.2.2.2.2.2.2.2.2.1 e.2.2.2.2.2.2.2.2.2.2.2.1 e.2.2.2.2.2.2.2.2.2.2.2.2.1 e.2.2.2.2.2.2.2.2.2.2.2.2.2.1 e.2.2.2.2.2.2.2.2.2.2.2.2.2.2.1 (N! 0) (N! 1) (N! 2) (N! 3) (N! 4) (N! 5) (N! 6) (N! 7) (N! 8) (N! 9) (N! 10) (N! 11) (N! 12) (N! 13) (N! 14) (N! 15) (N! 16) (N! 17) (N! 18) (N! 19) (N! 20) (N! 21) (N! 22) (N! 23) (N! 24) (N! 25) (N! 26) (N! 27) (N! 28) (N! 29) (N! 30) (N! 31) (N! 32) (N! 33) (N! 34) (N! 35) (N! 36) (N! 37) (N! 38) (N! 39) (N! 40) (N! 41) (N! 42) (N! 43) (N! 44) (N! 45) (N! 46) (N! 47) (N! 48) (N! 49) (N! 50) (N! 51) (N! 52) (N! 53) (N! 54) (N! 55) (N! 56) (N! 57) (N! 58) (N! 59) (N! 60) (N! 61) (N! 62) (N! 63) (N! 64) (N! 65) (N! 66) (N! 67) (N! 68) (N! 69) (N! 70) (N! 71) (N! 72) (N! 73) (N! 74) (N! 75) (N! 76) (N! 77) (N! 78) (N! 79) (P! 0) (P! 1) (P! 2) (P! 3) (P! 4) (P! 5) (P! 6) (P! 7) (P! 8) (P! 9) (P! 10) (P! 11) (P! 12) (P! 13) (P! 14) (P! 15) (P! 16) (P! 17) (P! 18) (P! 19) (P! 20) (P! 21) (P! 22) (P! 23) (P! 24) (P! 25) (P! 26) (P! 27) (P! 28) (P! 29) (P! 30) (P! 31) (P! 32) (P! 33) (P! 34) (P! 35) (P! 36) (P! 37) (P! 38) (P! 39) (P! 40) (P! 41) (P! 42) (P! 43) (P! 44) (P! 45) (P! 46) (P! 47) (P! 48) (P! 49) (P! 50) (P! 51) (P! 52) (P! 53) (P! 54) (P! 55) (P! 56) (P! 57) (P! 58) (P! 59) (P! 60) (P! 61) (P! 62) (P! 63) (P! 64) (P! 65) (P! 66) (P! 67) (P! 68) (P! 69) (P! 70) (P! 71) (P! 72) (P! 73) (P! 74) (P! 75) (P! 76) (P! 77) (P! 78) (P! 79)
theorem Jlk:Nonempty Ev:=⟨default,⟨λ_ _=>0,{ strHash:=λ_=>0,shareClass:=λ_=>0,mergeTok:=id,idOf:=λ_=>0,idOfShared:=λ_ _=>0,followText:=λ_=>false,idOfImm:=λ_=>0 }⟩,[],Ov!,default,0,0,0,0,0,0,0,0,0,0,λ_=>0,λ_=>default⟩
@[irreducible] noncomputable def e0:Ev:=@Classical.epsilon Ev Jlk λe=>¬tT e
theorem Jkn{α:Type}(ne:Nonempty α)(p:BI! α)(x:α)(e:x=@Classical.epsilon α ne λa=>¬p a)(h:p x)(a:α):p a:=Classical.byContradiction λn=>by subst e;exact Classical.epsilon_spec (p:=λa=>¬p a) ⟨a,n⟩ h
theorem Jhx(h:tT e0)(e:Ev):tT e:=Jkn Jlk tT e0 (by unfold e0;rfl) h e
noncomputable def P:Program:=e0.1
noncomputable def w:World:=e0.2.1
noncomputable def K:W.Frag:=e0.2.2.1
noncomputable def mg:XF!:=e0.2.2.2.1
noncomputable def base:Heap:=e0.2.2.2.2.1
noncomputable def C:Addr:=e0.2.2.2.2.2.1
noncomputable def CW:Addr:=e0.2.2.2.2.2.2.1
noncomputable def CP:Addr:=e0.2.2.2.2.2.2.2.1
noncomputable def CI:Addr:=e0.2.2.2.2.2.2.2.2.1
noncomputable def NH:Addr:=e0.2.2.2.2.2.2.2.2.2.1
noncomputable def YA:Addr:=e0.2.2.2.2.2.2.2.2.2.2.1
noncomputable def aW:Addr:=e0.2.2.2.2.2.2.2.2.2.2.2.1
noncomputable def MI:Addr:=e0.2.2.2.2.2.2.2.2.2.2.2.2.1
noncomputable def NL:Addr:=e0.2.2.2.2.2.2.2.2.2.2.2.2.2.1
noncomputable def NW:Addr:=e0.2.2.2.2.2.2.2.2.2.2.2.2.2.2.1
noncomputable def de:Addr:=O! 0
noncomputable def QX:Addr:=O! 1
noncomputable def QF:Addr:=O! 2
noncomputable def eP:Addr:=O! 3
noncomputable def SM:Addr:=O! 4
noncomputable def SD:Addr:=O! 5
noncomputable def SU:Addr:=O! 6
noncomputable def TC:Addr:=O! 7
noncomputable def WM:Addr:=O! 8
noncomputable def V':Addr:=O! 9
noncomputable def SS:Addr:=O! 10
noncomputable def RZ:Addr:=O! 11
noncomputable def VS:Addr:=O! 12
noncomputable def WG:Addr:=O! 13
noncomputable def VU:Addr:=O! 14
noncomputable def VZ:Addr:=O! 15
noncomputable def WB:Addr:=O! 16
noncomputable def WO:Addr:=O! 17
noncomputable def WH:Addr:=O! 18
noncomputable def WN:Addr:=O! 19
noncomputable def SK:Addr:=O! 20
noncomputable def SO:Addr:=O! 21
noncomputable def RY:Addr:=O! 22
noncomputable def VY:Addr:=O! 23
noncomputable def V_:Addr:=O! 24
noncomputable def RW:Addr:=O! 25
noncomputable def WC:Addr:=O! 26
noncomputable def WD:Addr:=O! 27
noncomputable def WA:Addr:=O! 28
noncomputable def VQ:Addr:=O! 29
noncomputable def OM:Addr:=O! 30
noncomputable def MF:Addr:=O! 31
noncomputable def MT:Addr:=O! 32
noncomputable def LJ:Addr:=O! 33
noncomputable def LI:Addr:=O! 34
noncomputable def MK:Addr:=O! 35
noncomputable def VR:Addr:=O! 36
noncomputable def MC:Addr:=O! 37
noncomputable def MJ:Addr:=O! 38
noncomputable def MQ:Addr:=O! 39
noncomputable def OL:Addr:=O! 40
noncomputable def ON:Addr:=O! 41
noncomputable def OK:Addr:=O! 42
noncomputable def WE:Addr:=O! 43
noncomputable def VX:Addr:=O! 44
noncomputable def SV:Addr:=O! 45
noncomputable def VT:Addr:=O! 46
noncomputable def WL:Addr:=O! 47
noncomputable def SR:Addr:=O! 48
noncomputable def SQ:Addr:=O! 49
noncomputable def SA:Addr:=O! 50
noncomputable def QY:Addr:=O! 51
noncomputable def WK:Addr:=O! 52
noncomputable def WJ:Addr:=O! 53
noncomputable def SJ:Addr:=O! 54
noncomputable def SH:Addr:=O! 55
noncomputable def SG:Addr:=O! 56
noncomputable def LK:Addr:=O! 57
noncomputable def MW:Addr:=O! 58
noncomputable def MV:Addr:=O! 59
noncomputable def MM:Addr:=O! 60
noncomputable def MX:Addr:=O! 61
noncomputable def MN:Addr:=O! 62
noncomputable def RU:Addr:=O! 63
noncomputable def VW:Addr:=O! 64
noncomputable def MO:Addr:=O! 65
noncomputable def ME:Addr:=O! 66
noncomputable def RV:Addr:=O! 67
noncomputable def SE:Addr:=O! 68
noncomputable def SW:Addr:=O! 69
noncomputable def SY:Addr:=O! 70
noncomputable def SN:Addr:=O! 71
noncomputable def S_:Addr:=O! 72
noncomputable def TH:Addr:=O! 73
noncomputable def SF:Addr:=O! 74
noncomputable def R_:Addr:=O! 75
noncomputable def RX:Addr:=O! 76
noncomputable def SX:Addr:=O! 77
noncomputable def TB:Addr:=O! 78
noncomputable def bp:Addr:=O! 79
noncomputable def eX:FuncData:=Q! 0
noncomputable def TX:FuncData:=Q! 1
noncomputable def QZ:FuncData:=Q! 2
noncomputable def eW:FuncData:=Q! 3
noncomputable def UE:FuncData:=Q! 4
noncomputable def TV:FuncData:=Q! 5
noncomputable def UL:FuncData:=Q! 6
noncomputable def US:FuncData:=Q! 7
noncomputable def XN:FuncData:=Q! 8
noncomputable def XA:FuncData:=Q! 9
noncomputable def UK:FuncData:=Q! 10
noncomputable def TQ:FuncData:=Q! 11
noncomputable def WT:FuncData:=Q! 12
noncomputable def XG:FuncData:=Q! 13
noncomputable def WV:FuncData:=Q! 14
noncomputable def WZ:FuncData:=Q! 15
noncomputable def XC:FuncData:=Q! 16
noncomputable def XQ:FuncData:=Q! 17
noncomputable def XH:FuncData:=Q! 18
noncomputable def XO:FuncData:=Q! 19
noncomputable def UD:FuncData:=Q! 20
noncomputable def UH:FuncData:=Q! 21
noncomputable def TN:FuncData:=Q! 22
noncomputable def WY:FuncData:=Q! 23
noncomputable def W_:FuncData:=Q! 24
noncomputable def TL:FuncData:=Q! 25
noncomputable def XD:FuncData:=Q! 26
noncomputable def XE:FuncData:=Q! 27
noncomputable def XB:FuncData:=Q! 28
noncomputable def WR:FuncData:=Q! 29
noncomputable def OQ:FuncData:=Q! 30
noncomputable def M_:FuncData:=Q! 31
noncomputable def NG:FuncData:=Q! 32
noncomputable def LN:FuncData:=Q! 33
noncomputable def LM:FuncData:=Q! 34
noncomputable def NA:FuncData:=Q! 35
noncomputable def WS:FuncData:=Q! 36
noncomputable def MY:FuncData:=Q! 37
noncomputable def M':FuncData:=Q! 38
noncomputable def NF:FuncData:=Q! 39
noncomputable def OP:FuncData:=Q! 40
noncomputable def OR:FuncData:=Q! 41
noncomputable def OO:FuncData:=Q! 42
noncomputable def XF:FuncData:=Q! 43
noncomputable def WX:FuncData:=Q! 44
noncomputable def UM:FuncData:=Q! 45
noncomputable def WU:FuncData:=Q! 46
noncomputable def XM:FuncData:=Q! 47
noncomputable def UJ:FuncData:=Q! 48
noncomputable def UI:FuncData:=Q! 49
noncomputable def TU:FuncData:=Q! 50
noncomputable def UC:FuncData:=Q! 51
noncomputable def XJ:FuncData:=Q! 52
noncomputable def XI:FuncData:=Q! 53
noncomputable def UB:FuncData:=Q! 54
noncomputable def UA:FuncData:=Q! 55
noncomputable def T_:FuncData:=Q! 56
noncomputable def LO:FuncData:=Q! 57
noncomputable def NJ:FuncData:=Q! 58
noncomputable def NI:FuncData:=Q! 59
noncomputable def NB:FuncData:=Q! 60
noncomputable def NK:FuncData:=Q! 61
noncomputable def NC:FuncData:=Q! 62
noncomputable def TJ:FuncData:=Q! 63
noncomputable def WW:FuncData:=Q! 64
noncomputable def ND:FuncData:=Q! 65
noncomputable def MZ:FuncData:=Q! 66
noncomputable def TK:FuncData:=Q! 67
noncomputable def TY:FuncData:=Q! 68
noncomputable def UN:FuncData:=Q! 69
noncomputable def UP:FuncData:=Q! 70
noncomputable def UG:FuncData:=Q! 71
noncomputable def UQ:FuncData:=Q! 72
noncomputable def UT:FuncData:=Q! 73
noncomputable def TZ:FuncData:=Q! 74
noncomputable def TR:FuncData:=Q! 75
noncomputable def TM:FuncData:=Q! 76
noncomputable def UO:FuncData:=Q! 77
noncomputable def UR:FuncData:=Q! 78
noncomputable def bu:FuncData:=Q! 79
structure Txt:Prop where
 cl:cF K C
 nN:Fp! Dy!
 nM:Fp! Ci!
 nT:Fp! DN!
 nH:Fp! Bj!
 nO:Fp! BF!
 nL:Fp! BG!
 nR:Fp! Bk!
 jo:L? mg "House" DT!
 JAJ:Yl K mg "NotHeld" YA
 JAI:Yl K mg "NotNear" aW
 cMI:Yl K mg "Missing" MI
 cNW:Yl K mg "NoWeight" NW
 len:ZI!
 range:CO! DK!
 tuple:CO! AJ!
 sorted:CO! O3!
 isi:CO! "isinstance"
structure Nm:Prop where
 cl:cF K CP
 nL:EL K CP Lv!
 nW:EL K CP PC!
 jo:Pa! mg "Post" CP
 cNL:Yl K mg "NoLetter" NL
 list:CO! SB
structure F9:Prop where
 cl:cF K CW
 nS:Sj! DP!
 nH:Sj! ED!
 nP:Sj! CG!
 nI:Sj! EE!
 nF:Sj! Lw!
 nE:Sj! O7!
 jo:Pa! mg "World" CW
 cNH:Yl K mg "NoHouse" NH
structure tM:Prop where
 dict:CO! Is!
 list:CO! SB
 max:CO! "max"
structure Jpb:Prop where
 tuple:CO! AJ!
 sorted:CO! O3!
structure Ym:Prop where
 cl:cF K CI
 nM:EL K CI FP!
 nS:EL K CI Dj!
 nF:EL K CI HJ!
 nT:EL K CI JV!
 jo:Pa! mg "Inquiry" CI
abbrev DQ := EJ P w K mg base cG
abbrev FO := EJ P w K mg base El!
structure GG:Prop where
 T:Txt
 TW:F9
 TP:Nm
 TI:Ym
 TF:Jpb
 Tx:tM
 y5:CO! SB
 y1:CO! DK!
 y7:CO! "max"
 y0:ZI!
 y2:CO! AJ!
 FI:NJ! tA! Zd de eX
 bI:MQ! eX NE!
 pN:KQ! C de
 tf:NJ! tB! Q5 QX TX
 xC:MQ! TX UV
 lM:KQ! CP QX
 tZ:NJ! "World.__init__" Wu QF QZ
 xB:MQ! QZ UM!
 lK:KQ! CW QF
 mM:JO! FG! tC! Zb eP eW
 mFr:R0! FH! tD! Zf SM UE
 mPa:CJ K C "part" tE! Za NX! SD TV
 mCa:Jk! "came" tF! Zi SU UL
 mAd:Jk! "added" tG! Ra TC US
 mGi:Jk! "given" tH! Q8 WM XN
 mPs:CJ K C "passed" tI! Mh OU! V' XA
 mCl:JO! FJ! tJ! Q9 SS UK
 mSt:JO! G8! do! Ny RZ TQ
 mTo:da! Vc! tL! Y7 VS WT
 mNe:wM! WG XG
 mSp:da! tN! tO! Q3 VU WV
 mQH:wV! VZ WZ
 mPR:R0! tP! tQ! Q4 WB XC
 mAR:rG! WO XQ
 mLo:rU! WH XH
 mGb:rD! WN XO
 mHo:Jj! Z? tR! Ze SK UD
 mDr:Jj! Da! tS! Zg SO UH
 mTa:Jj! Db! tT! Y8 RY TN
 mQN:wv! VY WY
 mQG:rF! V_ W_
 mTi:JO! JP! dp! Ur RW TL
 mPP:wW! WC XD
 mPL:CJ K CP Pg! tU! Iu UV WD XE
 mPT:CJ K CP "taken" tV! Mi CP! WA XB
 mWM:DV! FG! tW! Qz VQ WR
 mWFr:E5! FH! tX! Q1 NT! OM OQ
 mWSe:E5! Ph! tY! Qw Nd! MF M_
 mWCl:DV! FJ! tZ! Mg MT NG
 mWDe:YP! HE! ta! Im LJ LN
 mWSt:DV! G8! "World.state" Mf LI LM
 mWLe:E5! Pg! "World.letters" Ik UV MK NA
 mWH:w7! VR WS
 mWWe:CV! tb! tc! Ka MC MY
 mWPa:CV! td! te! Qx MJ M'
 mWGb:r2! MQ NF
 mWHo:Hw! Z? tf! Q0 OL OP
 mWDr:Hw! Da! tg! Q2 ON OR
 mWTa:Hw! Db! th! Qv OK OO
 mP1:WF Vg! Ks Mv! WE XF
 mR1:WF MF! F3 GV! VX WX
 mC1:WF ti! tY a8! SV UM
 mSu:WF tj! Y9 oS! VT WU
 mHg:WF tl! Kg oT! WL XM
 mDe:WF "_law_deed" Zh cX! SR UJ
 mDo:WF tn! rM H8! SQ UI
 mSh:WF "_law_share" yC EY! SA TU
 ti:NJ! to! Q7 QY UC
 xD:MQ! UC NF!
 lN:KQ! CI QY
 mIF:CJ K CI FL! tp! Ml Of! WK XJ
 mIS:CJ K CI JS! tq! Ke Ns! WJ XI
 mIL:TL! "still" ts! Mj SJ UB
 mIR:TL! "result" tt! Kf SH UA
 mLH:vG! Cz! tu! Zc SG T_
 mWAs:DV! Rs tv! Y6 LK LO
 mWAc:CV! tw! tx! Io MW NJ
 mWAn:CV! tz! t0! Fd MV NI
 mWLc:CV! t1! t2! Il MM NB
 mWAa:r3! MX NK
 mWLa:E5! t7! uA! Kb Ob! MN NC
 mUn:ip! dt! Gp RU TJ
 mRc:ip! dv! Ir VW WW
 mWIn:YP! "inquiry" "World.inquiry" Nu MO ND
 mWTi:DV! JP! "World.tick" Ws ME MZ
 mTy:WF "_law_try" xY H8! RV TK
 mLe:WF "_law_letter" Wv Yy! SE TY
 mBo:WF "_law_bodies" Ww Yz! SW UN
 mAs:WF "_law_asks" xj cn! SY UP
 mFo:WF "_law_found" yB gC! SN UG
 mAn:WF "_law_answer_came" xh qX! S_ UQ
 mAc:WF "_law_ask_came" xi p0! TH UT
 mLc:WF "_law_let_came" xk it! SF TZ
 mSq:WF "_law_step" xl rx! R_ TR
 mTd:WF "_law_told" xq iu! RX TM
 mBe:WF "_law_begun" yA rw! SX UO
 mAm:WF "_law_amid" xg rQ! TB UR
 FW:FF K "law" "law" kQ bp bu
 sNW:o4! NW (Y! NW)
theorem Jo0(k:GG->DQ 12 bp bu EY! TY!):xO P w K mg base C CW CP CI NH YA aW MI NL NW de QX QF eP SM SD SU TC WM V' SS RZ VS WG VU VZ WB WO WH WN SK SO RY VY V_ RW WC WD WA VQ OM MF MT LJ LI MK VR MC MJ MQ OL ON OK WE VX SV VT WL SR SQ SA QY WK WJ SJ SH SG LK MW MV MM MX MN RU VW MO ME RV SE SW SY SN S_ TH SF R_ RX SX TB bp eX TX QZ eW UE TV UL US XN XA UK TQ WT XG WV WZ XC XQ XH XO UD UH TN WY W_ TL XD XE XB WR OQ M_ NG LN LM NA WS MY M' NF OP OR OO XF WX UM WU XM UJ UI TU UC XJ XI UB UA T_ LO NJ NI NB NK NC TJ WW ND MZ TK TY UN UP UG UQ UT TZ TR TM UO UR bu:=by intro h X Gn aC aCW aCP aCI aNH aNHd aNNr aMI aNL aNW xNH xNHd xNNr xMI xNL xNW sXW hI hPI hWI mM mFr mPa mCa mAd mGi mPs mCl mSt mTo mNe mSp mQH mPR mAR mLo mGb mHo mDr mTa mQN mQG mTi mPP mPL mPT mWM mWFr mWSe mWCl mWDe mWSt mWLe mWH mWWe mWPa mWGb mWHo mWDr mWTa mP1 mR1 mC1 mSu mHg mDe mDo mSh hII mIF mIS mIL mIR mLH mWAs mWAc mWAn mWLc mWAa mWLa mUn mRc mWIn mWTi mTy mLe mBo mAs mFo mAn mAc mLc mSq mTd mBe mAm hW cC nC0 nC1 nC2 nC3 nC4 nC5 nC6 cCW nCW0 nCW1 nCW2 nCW3 nCW4 nCW5 cCP nCP0 nCP1 cCI nCI0 nCI1 nCI2 nCI3 z0 z1 z2 z3 z4 z5 z6 z7 z8 z9;have y0:=GN! z0;have y1:=GN! z1;have y2:=GN! z2;have y3:=GN! z3;have y4:=GN! z4;have y5:=GN! z5;have y6:=GN! z6;have y7:=GN! z7;have y8:=GN! z8;have y9:=GN! z9;have gC:=GM! aC;obtain⟨pgC,hdC,poC,saC,mkC,kcC⟩:=cC;have gCW:=GM! aCW;obtain⟨yo,zg,yl,yV,zB,zM⟩:=cCW;have gCP:=GM! aCP;obtain⟨yp,zi,ym,yW,zC,zN⟩:=cCP;have gCI:=GM! aCI;obtain⟨yq,zk,yn,yX,zD,zO⟩:=cCI;have gNH:=GM! aNH;have zx:=GM! aNHd;have zw:=GM! aNNr;have gMI:=GM! aMI;have gNL:=GM! aNL;have gNW:=GM! aNW;obtain⟨aI,iI,FI⟩:=hI;have bI:=rz! NE! aI iI FI;have pN:KQ! C de:=⟨mkC,aI,iI,kcC⟩;obtain⟨aPI,iPI,tf⟩:=hPI;have xC:=rz! UV aPI iPI tf;have lM:KQ! CP QX:=⟨zC,aPI,iPI,zN⟩;obtain⟨aWI,iWI,tZ⟩:=hWI;have xB:=rz! UM! aWI iWI tZ;have lK:KQ! CW QF:=⟨zB,aWI,iWI,zM⟩;obtain⟨aII,iII,ti⟩:=hII;have xD:=rz! NF! aII iII ti;have lN:KQ! CI QY:=⟨zD,aII,iII,zO⟩;exact k ⟨⟨⟨pgC,hdC,poC,saC⟩,nC0,nC1,nC2,nC3,nC4,nC5,nC6,gC,⟨zx,xNHd⟩,⟨zw,xNNr⟩,⟨gMI,xMI⟩,⟨gNW,xNW⟩,y0,y1,y2,y3,y4⟩,⟨⟨yo,zg,yl,yV⟩,nCW0,nCW1,nCW2,nCW3,nCW4,nCW5,gCW,⟨gNH,xNH⟩⟩,⟨⟨yp,zi,ym,yW⟩,nCP0,nCP1,gCP,⟨gNL,xNL⟩,y5⟩,⟨⟨yq,zk,yn,yX⟩,nCI0,nCI1,nCI2,nCI3,gCI⟩,⟨y2,y3⟩,⟨y6,y5,y7⟩,y5,y1,y7,y0,y2,FI,bI,pN,tf,xC,lM,tZ,xB,lK,mM,mFr,mPa,mCa,mAd,mGi,mPs,mCl,mSt,mTo,mNe,mSp,mQH,mPR,mAR,mLo,mGb,mHo,mDr,mTa,mQN,mQG,mTi,mPP,mPL,mPT,mWM,mWFr,mWSe,mWCl,mWDe,mWSt,mWLe,mWH,mWWe,mWPa,mWGb,mWHo,mWDr,mWTa,wp mP1.VG,wp mR1.VG,wp mC1.VG,wp mSu.VG,wp mHg.VG,wp mDe.VG,wp mDo.VG,wp mSh.VG,ti,xD,lN,mIF,mIS,mIL,mIR,mLH,mWAs,mWAc,mWAn,mWLc,mWAa,mWLa,wp mUn.VG,wp mRc.VG,mWIn,mWTi,wp mTy.VG,wp mLe.VG,wp mBo.VG,wp mAs.VG,wp mFo.VG,wp mAn.VG,wp mAc.VG,wp mLc.VG,wp mSq.VG,wp mTd.VG,wp mBe.VG,wp mAm.VG,hW.fn,sXW⟩
inductive Wi(vs:C!)(H:Hp)(Q:VK)(E:XK):Prop
 | mk (p t:Addr) (G:BZ) (th:T2) (_:Fn!) (_:R?) (_:Er!) (_:Q (T1! (th.1=G.num)) H)
inductive Md(vs:C!)(H:Hp)(Q:VK)(E:XK):Prop
 | mk (p t:Addr) (G:BZ) (th:T2) (_:Fn!) (_:R?) (_:Er!) (_:((th∈G.hand/\Q .EO H)\/(th∉G.hand/\dl! YA)))
inductive Wh(vs:C!)(H:Hp)(Q:VK)(E:XK):Prop
 | mk (p t:Addr) (G:BZ) (th:T2) (_:Fn!) (_:R?) (_:Er!) (_:((th.1=G.num/\Q .EO H)\/(th.1≠G.num/\dl! aW)))
def Yp(G:BZ)(ta tb:T2)(good:AN! Addr D!)(nh nn mi:Prop):Prop :=
 (ta∉G.hand/\nh)\/(FS!/\ta.1≠G.num/\nn)\/(FS!/\RY!/\∃(a:Addr)(hl:D!),Yi! (q.1=ta)=A! (ta,a,hl)/\((tb∉hl/\mi)\/(tb∈hl/\good a hl)))
inductive Qp(vs:C!)(H:Hp)(Q:VK)(E:XK):Prop
 | mk (p a b:Addr) (G:BZ) (ta tb:T2) (_:pQ!) (_:R?) (_:IL!) (_:PP) (_:Yp G ta tb (λ_ _=>Q .EO H) (In! YA) (In! aW) (In! MI))
universe S
theorem scN:by! Kd:={}
theorem Xg(F:h! "is_near" "House.is_near" Kd)(T:Txt):Bt! Gp! Wi:=by refine Y? scN;obtain⟨p,t,G,th,rfl,S,ht,k⟩:=h;refine W!;obtain⟨dx,hp⟩:=S.ob;refine Ae! (Af (Ar (Jme (Jmh Gv! (Aq a? rfl)))));exact KF ⟨t,_,0,_,rfl,rfl,d? ht,rfl,_,rfl,p,C,dx,_,_,rfl,hp,T.cl,T.nN,U8 G,_,_,rfl,rfl,k⟩
theorem Hh(hd:GA! d l)(ht:Er!):Tl! (wz! (th∈l)):=Pq! aj! Hv
theorem Jqg:by! Hn:={}
theorem Mt(F:h! "need_in_hand" "House.need_in_hand" Hn)(T:Txt):e0! f fd Md:=by
 refine AI! Jqg;obtain⟨p,t,G,th,rfl,S,ht,k⟩:=h;refine W!;have hu:=I?;obtain⟨dx,hp⟩:=S.ob;refine Ae! (Af (Bj (Es pf!) (Af (Uv! T.JAJ)) A5));refine n2! C T.cl T.nH (Gf G) G.h (Hh S.dh ht);rcases k with⟨h,k⟩|⟨h,k⟩;.rw[A6!];exact Cc k
 .rw[BY!];exact Ck k
universe E
universe S
theorem Jqf:by! Kc:={}
theorem Z1(F:h! "need_near" "House.need_near" Kc)(T:Txt)(M1:Ol!):ZO! Gp! Wh:=by
 have G1:e0! f1 g7 Wi:=SC! Xg M1.fn T;refine AI! Jqf;obtain⟨p,t,G,th,rfl,S,ht,k⟩:=h;refine W!;have hu:=I?;obtain⟨dx,hp⟩:=S.ob;refine Ae! (Af (Bj (Jgm (Jl (aQ! M1.mt G1 M1.bd))) (Af (Uv! T.JAI)) A5));refine⟨_,rfl,p,dx,_,rfl,hp,Sc,_,rfl,p,t,G,th,rfl,S,ht,_,rfl,?_⟩;rcases k with⟨h,k⟩|⟨h,k⟩;.rw[Rs!];exact Cc k
 .rw[YB!];exact Ck k
theorem Jod:oz! Kt:={}
theorem Og(S:R?)(ht:Er!)(f:M9! (Yi! He!) th):DS H G.l JU! (some (V.ref a))/\GA! a hl/\(th,a,hl)∈G.holds:=by have:=u8! S.dl;rw[cF!,f] at this;exact⟨this,S.hl _ (AW f),AW f⟩
theorem Uy(F:h! "need_holding" "House.need_holding" Kt)(T:Txt)(M1:Ol!)(M2:Uf!)(M3:qP!):Sr! EJ! Qp:=by
 have G2:qf!:=pM!;have G3:b? 2 f3 oy Gp! Wh:=Z1 M3.fn T M1;refine AI! Jod;obtain⟨p,a,b,G,ta,tb,rfl,S,ha,hb,k⟩:=h;refine W!;have hu:=I?;have HC:ap:=M?;obtain⟨dx,hp⟩:=S.ob;refine Ih! (kz! M2.mt G2 M2.bd) (jm! (aQ! M3.mt G3 M3.bd) (ns! (Em hu R! N4!) (Uv! T.cMI)));refine sr! a ta ha;rcases k with⟨h,k⟩|⟨h,h2,k⟩|⟨h,h2,ad,hl,aU,k⟩;.exact YZ! h
 .refine sw! h a ta ha (YZ! h2)
 .obtain⟨g1,g2,g3⟩:=Og S ha aU;refine sw! h a ta ha (hT! h2);refine⟨_,rfl,_,rfl,p,C,dx,_,_,rfl,hp,T.cl,T.nL,E5 G,_,rfl,G.l,_,rfl,g1,ad,_,rfl,Hh g2 hb,_,rfl,?_⟩;rcases k with⟨h3,k⟩|⟨h3,k⟩;(.rw[AB h3];exact Ck k);.rw[AF h3];exact Cc k
universe E
universe S
def Done(p:Addr)(G:BZ)(H:Hp)(G':BZ)(k:NL!):Prop:=∀H',A0! H' G'->FR! H'->k H'
inductive Wk(vs:C!)(H:Hp)(Q:VK)(E:XK):Prop
 | mk (p a b:Addr) (G:BZ) (ta tb:T2) (_:pQ!) (_:R?) (_:IL!) (_:PP) (_:uR! (¬(FS!/\BA!)) YA ((FS!/\BA!/\ta.1≠G.num/\dl! aW)\/(FS!/\BA!/\RY!/\∃(ad:Addr)(hl:D!),Yi! (q.1=ta)=A! (ta,ad,hl)/\hl.length<=500/\Eu! { G with AU:=Bm!,holds:=J9 G.holds ad jR! })))
inductive Wo(vs:C!)(H:Hp)(Q:VK)(E:XK):Prop
 | mk (p a b:Addr) (G:BZ) (ta tb:T2) (_:pQ!) (_:R?) (_:IL!) (_:PP) (_:Yp G ta tb (λad hl=>Eu! { G with AU:=Bm!,holds:=J9 G.holds ad lC! }) (In! YA) (In! aW) (In! MI))
inductive Wf(vs:C!)(H:Hp)(Q:VK)(E:XK):Prop
 | mk (p a b:Addr) (G:BZ) (ta tb:T2) (_:pQ!) (_:R?) (_:IL!) (_:PP) (_:Xo!) (_:Yp G ta tb (λ_ _=>Eu! { G with AU:=Bm!,hand:=JM! }) (In! YA) (In! aW) (In! MI))
inductive Wn(vs:C!)(H:Hp)(Q:VK)(E:XK):Prop
 | mk (p b:Addr) (G:BZ) (tb:T2) (_:dW! Uf) (_:R?) (_:PP) (_:((tb∉G.hand/\dl! YA)\/(BA!/\Eu! { G with AU:=Bm!,hand:=Y2! })))
theorem Fu(hd:d∈BL!)(hf:BQ G1=BQ G)(e:H1=upd H d o)(S1:A0! H1 G1)(D:Done p G H { G1 with AU:=G1.AU+1 } k) : k (upd H1 p (H6! (C0 { G1 with AU:=G1.AU+1 }))):=by refine D _ (S1.fld dx G1.AY (G1.AU+1)) λb o' e1 h1 h2=>?_;rw[Ad h1,e,Ad (X? h2 (Jx! hd))];exact e1
theorem scH:oz! Ze:={}
theorem Vf(h:q∈G.holds):E?∈BL!:=by unfold BQ;exact rH! (BE h)
theorem Jjw(F:h! Z? tR! Ze)(T:Txt)(M1:Ol!)(M2:Uf!)(M3:qP!):Sr! EJ! Wk:=by
 have G2:qf!:=pM!;have G3:b? 2 f3 oy Gp! Wh:=Z1 M3.fn T M1;refine AI! scH;obtain⟨p,a,b,G,ta,tb,rfl,S,ha,hb,k⟩:=h;refine W!;have hu:=I?;have HC:ap:=M?;obtain⟨dx,hp⟩:=S.ob;refine Ih! (kz! M2.mt G2 M2.bd) (Ac (Bf (vo! T.cl M2.mt G2 HC M2.bd R!)) (Ac (Bf (aQ! M3.mt G3 M3.bd)) (Ac (L5! N4! R! E1) (Af DJ!))));refine sr! a ta ha;by_cases h1:FS!;.refine sw! h1 b tb hb ?_;by_cases h2:BA!;(.refine sw! h2 a ta ha ?_;rcases k with⟨h,k⟩|⟨_,_,h,k⟩|⟨_,_,h,ad,hl,aU,z,k⟩;(.exact absurd lU! h);(.exact YZ! h);.obtain⟨g1,g2,g3⟩:=Og S ha aU;refine J! ⟨h,_,rfl,p,C,dx,_,_,rfl,hp,T.cl,T.nL,E5 G,_,rfl,G.l,_,rfl,g1,_,rfl,ad,_,rfl,LS! g2,?_⟩;rw[Fv];have S1:u1! ad jR! (mP! jR!):=S.cP g3 (Ct hl tb);obtain⟨FC,HM⟩:=S1.ob;refine Ll!;rw[By];exact Fu (G1:=mP! jR!) (Vf g3) (by unfold BQ;rw[Qu]) rfl S1 k);.rcases k with⟨h,k⟩|⟨_,h,_⟩|⟨_,h,_⟩;(.exact YZ! h2);(.exact NP! h2);.exact NP! h2
 .rcases k with⟨h,k⟩|⟨h,_⟩|⟨h,_⟩;(.exact YZ! h1);(.exact NP! h1);.exact NP! h1
theorem scD:oz! Zg:={}
theorem Jjy(F:h! Da! tS! Zg)(T:Txt)(M1:Ol!)(M2:Uf!)(M3:qP!)(M4:rF! f4 wD) : jT! EJ! Wo:=by
 have G4:b? 3 f4 wD EJ! Qp:=Uy M4.fn T M1 M2 M3;refine AI! scD;obtain⟨p,a,b,G,ta,tb,rfl,S,ha,hb,k⟩:=h;refine W!;have hu:=I?;obtain⟨dx,hp⟩:=S.ob;refine Ih! (q9! M4.mt G4 M4.bd Cf) (jm! (Gr hu N4! R! Aw!) DJ!);refine⟨_,rfl,p,dx,_,rfl,hp,Sc,_,rfl,_,rfl,p,a,b,G,ta,tb,rfl,S,ha,hb,?_⟩;rcases k with k|k|⟨h1,h2,ad,hl,aU,k⟩;.exact CU!
 .exact Bs! k
 .refine Ap! ⟨h1,h2,ad,hl,aU,?_⟩;rcases k with k|⟨h3,k⟩;(.exact CU!);.obtain⟨g1,g2,g3⟩:=Og S ha aU;refine I! ⟨h3,_,rfl,p,C,dx,_,_,rfl,hp,T.cl,T.nL,E5 G,_,rfl,G.l,_,rfl,g1,ad,rfl,QT! g2,_,rfl,_,tk tb,_,b,g2,rfl,hb,HU! Hv (AF h3),?_⟩;rw[Gz (k:=dM!) (f:=Mn!)];have S1:u1! ad lC! (mP! lC!):=S.cP g3 (Jt hl tb);obtain⟨FC,HM⟩:=S1.ob;refine Ll!;rw[By];exact Fu (G1:=mP! lC!) (Vf g3) (by unfold BQ;rw[Qu]) rfl S1 k
theorem Jp7:oz! Y8:={}
theorem Jjq(F:h! Db! tT! Y8)(T:Txt)(M1:Ol!)(M2:Uf!)(M3:qP!)(M4:rF! f4 wD) : jT! EJ! Wf:=by
 have G4:b? 3 f4 wD EJ! Qp:=Uy M4.fn T M1 M2 M3;refine AI! Jp7;obtain⟨p,a,b,G,ta,tb,rfl,S,ha,hb,z,k⟩:=h;refine W!;have hu:=I?;obtain⟨dx,hp⟩:=S.ob;refine Ih! (q9! M4.mt G4 M4.bd Cf) (FQ! (eG! R! E1) DJ!);refine⟨_,rfl,p,dx,_,rfl,hp,Sc,_,rfl,_,rfl,p,a,b,G,ta,tb,rfl,S,ha,hb,?_⟩;rcases k with k|k|⟨h1,h2,ad,hl,aU,k⟩;.exact CU!
 .exact Bs! k
 .refine Ap! ⟨h1,h2,ad,hl,aU,?_⟩;rcases k with k|⟨h3,k⟩;(.exact CU!);.refine I! ⟨h3,_,rfl,p,C,dx,_,_,rfl,hp,T.cl,T.nH,Gf G,_,rfl,G.h,_,rfl,LS! S.dh,?_⟩;rw[Fv];have S1:ab! eC! F2!:=p2! Ct;obtain⟨FC,HM⟩:=S1.ob;refine Ll!;rw[By];exact cQ! F2!
theorem uS:A? MK! MK! Zf:={}
theorem Jjx(F:h! FH! tD! Zf)(T:Txt)(M2:Uf!) : ZO! MK! Wn:=by
 have G2:qf!:=pM!;refine AI! uS;obtain⟨p,b,G,tb,rfl,S,hb,k⟩:=h;refine W!;have hu:=I?;obtain⟨dx,hp⟩:=S.ob;refine Ih! (aQ! M2.mt G2 M2.bd) (jm! (wp! d!) DJ!);refine sr! b tb hb;rcases k with k|⟨h,k⟩;.exact I! k
 .refine J! ⟨h,_,rfl,p,C,dx,_,_,rfl,hp,T.cl,T.nH,Gf G,G.h,rfl,QT! S.dh,_,rfl,_,tk tb,_,b,S.dh,rfl,hb,HU! Hv A6!,?_⟩;rw[Gz (k:=dM!) (f:=Mn!)];have S1:ab! (Jt G.hand tb) (d7! Y2!):=p2! Jt;obtain⟨FC,HM⟩:=S1.ob;refine Ll!;rw[By];exact cQ! (d7! Y2!)
universe E
universe S
def Jd(n:Int):Int:=v6 (n=1) 1 (n / 2)
inductive Y4(vs:C!)(H:Hp)(Q:VK)(E:XK):Prop
 | mk (n:Int) (_:vs=[ML!]) (_:GT! (AP! p .BB [a! (n-Jd n),a! (Jd n)]))
theorem scP:A? [dn!,"goes"] Mv! Ks:={}
theorem Jer(F:h! Vg! Vg! Ks):DQ 1 f fd Mv! Y4:=by
 refine Y? scP;obtain⟨n,rfl,k⟩:=h;refine W!;refine KT! (LJ! (Si! a?) (mR! Ah Ah)) (FQ! (CJ! 1 scP.nd (SQ! a?)) (mR! (Bh Xd a? d!) d!));refine⟨_,rfl,rfl,_,rfl,?_⟩;refine X7 (λc1=>?_) (λc1=>?_);.have c1:n=1:=V.int.inj (BU c1);subst c1;exact⟨Vw! gI!,λp hp=>k p hp⟩
 ·(have c1:¬n=1:=λz=>by rw[z] at c1;simp at c1);refine ax! _ _ rfl TX! ?_;refine ZL! _ rfl _ _ rfl (Vw! gI!) FV!;have:=k p hp;unfold Jd at this;rw[AB c1] at this;exact this
def Pp(l:V!)(t:T2):Int:=bF! l.find? hf!
inductive Jcw(vs:C!)(H:Hp)(Q:VK)(E:XK):Prop
 | mk (p b:Addr) (G:BZ) (tb:T2) (wt:Int) (_:dW! Uf) (_:R?) (_:PP) (_:vc! G.AJ.find? wt) (_:M1!) (_:((wt=0/\jJ!)\/(wt≠0/\Done p G H (dc! (ef! (wt-Jd wt))) (Q (a! (Jd wt))))))
theorem Js(hd:k8! l)(ht:Er!):Tl! (Gu! l.find? (At He!) Dc!):=Pq! aj! ph!
theorem kZ:A? [Bu!,"b",dn!,"halves"] MK! Q4:={}
theorem Jg9(F:h! tP! tQ! Q4)(T:Txt)(MP:WF Vg! Ks Mv! fP fdP):ZO! MK! Jcw:=by
 have GP:FO 1 fP fdP Mv! Y4:=FX.EJ.aS (Jer MP.fn);refine AI! kZ;obtain⟨p,b,G,tb,wt,rfl,S,hb,aU,z,k⟩:=h;refine W!;have hu:=I?;obtain⟨dx,hp⟩:=S.ob;have g1:pD! G.r wt:=Pq! (Js S.dr hb) aU
 refine eH! kZ.nd N4! (Ac (LJ! (Si! R!) (Uv! T.cNW)) (kG! kZ.nd (Bw GP hr DQ! MP.mg MP.fn.kp MP.bd L! Cf (ca R!)) (TR! (Af! P?)) (wT (Af! P?))));refine Uh! dx hp T.nR (Dw G) G.r g1;refine⟨_,rfl,rfl,_,rfl,?_⟩;rcases k with⟨h,k⟩|⟨h,k⟩;.rw[Cf! (WF! wt 0=true) (MT! (AM! h))];exact Ck k
 .rw[Cf! (r? (WF! wt 0)) (Ax! (λe=>h (V.int.inj e)))];refine B3!;refine WU! _ wt J5!;have s1:=Vt! iP! (V.int (Jd wt)) ht;have S1:=IF!;have t1:bv (AP! t .BB [iP!,V.int (Jd wt)]) t .BB [iP!,V.int (Jd wt)]:=Ab;have b1:=E! s1 hb;generalize jV! t [iP!,V.int (Jd wt)]=H1 at s1 S1 t1 b1;obtain⟨FC,HM⟩:=S1.ob;refine⟨_,rfl,t,_,0,_,rfl,rfl,d? t1,rfl,_,rfl,p,C,FC,_,_,rfl,HM,T.cl,T.nR,Dw G,_,rfl,G.r,_,rfl,wF! S1.dr b1 L6!,?_⟩;rw[Fe];have S2:A0! (CH! H1 G.r Dt (Bp G.AJ tb (wt-Jd wt))) (dc! (ef! (wt-Jd wt))):=S1.YQ _;have tr:t≠G.r:=λe=>(S1.tup_ne t1).2 (by rw[e];simp[BQ]);refine PP! t _ 1 _ rfl rfl (CA.of (i! tr t1)) ?_;refine fG! S2 ?_;rw[Ad Uk!];exact Am! s1
universe E
universe S
inductive yD(vs:C!)(H:Hp)(Q:VK)(E:XK):Prop
 | mk (p b:Addr) (G:BZ) (tb:T2) (wt:Int) (_:nb!) (_:R?) (_:PP) (_:M1!) (_:Eu! (dc! aM!))
theorem Jqn:o0! Ut:={}
theorem Jc8(F:h! "add_to_record" "House.add_to_record" Ut)(T:Txt):Bt! FB! yD:=by
 refine Y? Jqn;obtain⟨p,b,G,tb,wt,rfl,S,hb,z,k⟩:=h;refine W!;have hu:=I?;obtain⟨dx,hp⟩:=S.ob;refine Ae! (Af (sB! (Bh Dv (Rl hu W? d! Ah Aw!) R!)));have ei:((G.AJ.find? (At Vs!)).map Dc!).getD (V.int 0)=O? (Pp G.AJ tb):=by unfold Pp;cases G0! G.AJ.find? Vs!<;>rfl
 refine⟨_,rfl,p,C,dx,_,_,rfl,hp,T.cl,T.nR,Dw G,G.r,rfl,QT! S.dr,_,rfl,_,Js S.dr hb,?_⟩;rw[ei];refine⟨_,rfl,_,_,rfl,rfl,_,rfl,p,C,dx,_,_,rfl,hp,T.cl,T.nR,Dw G,_,rfl,G.r,_,rfl,LS! S.dr,?_⟩;rw[Fe];refine fG! (S.YQ _) ?_;rw[Ad Uk!];exact e
inductive Wq(vs:C!)(H:Hp)(Q:VK)(E:XK):Prop
 | mk (p b:Addr) (G:BZ) (tb:T2) (wt:Int) (_:nb!) (_:R?) (_:PP) (_:M1!) (_:Eu! (Xp! aM!))
theorem Jqm:o0! Ra:={}
theorem Jhe(F:h! "added" tG! Ra)(T:Txt)(M5:rG! f5 wC):GZ! FB! Wq:=by have G5:Co! f5 wC FB! yD:=Jc8 M5.fn T;refine Y? Jqm;obtain⟨p,b,G,tb,wt,rfl,S,hb,z,k⟩:=h;refine W!;obtain⟨dx,hp⟩:=S.ob;refine Ih! (q9! M5.mt G5 M5.bd A7) (Af DJ!);refine qR! dx hp Sc b G tb wt S hb z Vz!;obtain⟨FC,HM⟩:=S1.ob;refine Ll!;rw[By];exact mq! S1.fld FC LH
inductive yE(vs:C!)(H:Hp)(Q:VK)(E:XK):Prop
 | mk (p b:Addr) (G:BZ) (tb:T2) (wt:Int) (_:nb!) (_:R?) (_:PP) (_:Xo!) (_:M4!) (_:M1!) (_:((RX!/\∃o,p9!/\Eu! (gt! JM! (P3! (o-wt))))\/(J2!/\Eu! { G with AU:=Bm!,hand:=JM!,AJ:=aM! })))
theorem scC:o0! Zi:={}
theorem Jj1(F:h! "came" tF! Zi)(T:Txt)(M1:Ol!)(M5:rG! f5 wC) : GZ! FB! yE:=by
 have G1:Co! f1 g7 Gp! Wi:=Xg M1.fn T;have G5:Co! f5 wC FB! yD:=Jc8 M5.fn T;refine Y? scC;obtain⟨p,b,G,tb,wt,rfl,S,hb,z1,z2,z3,k⟩:=h;refine W!;have hu:=I?;obtain⟨dx,hp⟩:=S.ob;refine L1! (sB! E1) (FQ! (Bj (Jl (uF! T.cl M1.mt G1 hr M1.bd d!)) (Af (c3! R! Jhs)) (Df! (q9! M5.mt G5 M5.bd A7))) DJ!);refine Uh! dx hp T.nH (Gf G) G.h (LS! S.dh);rw[Fv];have S1:ab! eC! F2!:=p2! Ct;have LH:FR! qb!:=λb' o e h1 h2=>VV! Uk!
 have b1:=va! LH hb hb hb;rw[Lu! ((HO.dT ((Ct G.hand tb).map B9!))=Bm eC!)];generalize qb!=H1 at S1 LH b1;obtain⟨FC,HM⟩:=S1.ob;refine sa! p FC HM p b1;rcases k with⟨h,o,aU,k⟩|⟨h,k⟩;.rw[Cf! (Av! tb.1 (F2!:BZ).num=true) Rs!];refine Ba!;(have g1:DS H1 G.o FN! (WV! o):=Ea! (Js S1.dO b1) (Lu! ((F2!:BZ).AG=G.AG)) aU);refine ss! C FC HM T.nO (D4 _) G.o g1 _ rfl rfl _ (wF! S1.dO b1 (Sx! (G.AG.length<=1000)));rw[Fe];have S2:=S1.J_ (Bp G.AG tb (o-wt));(have LZ:FR! (CH! H1 G.o Dt (W7! (o-wt))):=λb' o' e h1 h2=>eP! Uk! LH);obtain⟨IZ,GV⟩:=S2.ob;refine Pw! IZ GV IZ GV;rw[By];exact mq! S2.fld IZ LZ
 .rw[Cf! (r? (Av! tb.1 (F2!:BZ).num)) YB!];refine B3!;refine qR! FC HM (Cw _ ZV) b _ tb wt S1 b1 z3 (λH2 S2 LZ=>?_);obtain⟨IZ,GV⟩:=S2.ob;refine Pw! IZ GV IZ GV;rw[By];exact fG! (S2.fld IZ G.AY (Bm!)) (i! h1 (dz! LZ (LH _ _ e h1 h2)))
inductive yH(vs:C!)(H:Hp)(Q:VK)(E:XK):Prop
 | mk (p b:Addr) (G:BZ) (tb:T2) (sh:Int) (_:vs=[y?,Uf,T! sh]) (_:R?) (_:PP) (_:M4!) (_:M1!) (_:uR! (tb∉G.hand) YA ((BA!/\RX!/\∃o,p9!/\Done p G H (gu! (P3! (o+sh))) (Q (a! sh)))\/(BA!/\J2!/\∃wt,vc! G.AJ.find? wt/\((wt=0/\jJ!)\/(wt≠0/\Done p G H (Xp! (ef! (wt-Jd wt))) (Q (a! (Jd wt))))))))
theorem kY:A? [Bu!,"b",DP!,"goes"] NX! Za:={}
theorem Jjs(F:h! "part" tE! Za)(T:Txt)(M1:Ol!)(M2:Uf!)(M6:R0! tP! tQ! Q4 f6 fd6)(MP:WF Vg! Ks Mv! fP fdP) : Sr! NX! yH:=by
 have G1:e0! f1 g7 Wi:=SC! Xg M1.fn T;have G2:qf!:=pM!;have G6:b? 2 f6 fd6 MK! Jcw:=Jg9 M6.fn T MP;refine AI! kY;obtain⟨p,b,G,tb,sh,rfl,S,hb,z1,z2,k⟩:=h;refine W!;have hu:=I?;have HC:ap:=M?;obtain⟨dx,hp⟩:=S.ob;refine Ih! (kz! M2.mt G2 M2.bd) (Y4! (Bj (Jl (kz! M1.mt G1 M1.bd)) (FQ! (c3! R! Ew) (Yb! kY.nd R!)) (Af (Yb! kY.nd (aQ! M6.mt G6 M6.bd)))) DJ! 3);refine sr! b tb hb;rcases k with k|⟨h1,h2,o,aU,k⟩|⟨h1,h2,wt,aU,k⟩;.exact I! k
 .refine J! ⟨h1,_,rfl,p,dx,_,rfl,hp,Sc,_,rfl,p,b,G,tb,rfl,S,hb,_,rfl,?_⟩;rw[EM! h2];refine Ba!;(have g1:pD! G.o o:=Pq! (Js S.dO hb) aU);refine ss! C dx hp T.nO (D4 _) G.o g1 _ rfl rfl _ (LS! S.dO);rw[Fe];have S1:nQ! (W7! (o+sh)) (RZ! (o+sh)):=S.J_ _;obtain⟨FC,HM⟩:=S1.ob;refine⟨_,rfl,_,rfl,p,C,FC,_,_,rfl,HM,T.cl,T.nT,Dc _,_,_,rfl,rfl,FC,_,HM,Ex _,?_⟩;rw[By];refine hp!;exact cQ! (RZ! (o+sh))
 .refine J! ⟨h1,_,rfl,p,dx,_,rfl,hp,Sc,_,rfl,p,b,G,tb,rfl,S,hb,_,rfl,?_⟩;rw[Ax! h2];refine B3!;refine⟨_,rfl,p,dx,_,rfl,hp,Sc,_,rfl,p,b,G,tb,wt,rfl,S,hb,aU,z2,?_⟩;rcases k with k|⟨h3,k⟩;(.exact CU!);.refine Ya! h3;obtain⟨FC,HM⟩:=S1.ob;refine Ll!;rw[By];exact KF (mq! S1.fld FC LH)
universe E
inductive OW(vs:C!)(H:Hp)(Q:VK)(E:XK):Prop
 | mk (p dx:Addr) (n:Int) (_:SZ!) (_:ZK! C []) (_:∀(h o l r:Addr)(H':Hp),H h=none->h? o->Jh!->C5!->A0! H' ⟨n,0,0,h,o,l,r,[],[],[],[]⟩->(LP! H')->Pu!)
inductive Wj(vs:C!)(H:Hp)(Q:VK)(E:XK):Prop
 | mk (p:Addr) (G:BZ) (_:GK!) (_:R?) (_:Xo!) (_:M4!) (_:G.holds.length<=500) (_:(PF! (t≠Ah!))) (_:(∀q∈G.AG,oN!)) (_:(O5! oN!)) (_:∀(t a:Addr)(H':Hp),pA! (h? t) NH! (dm! H' t tv Ah!) { G with AY:=EK!,AU:=Bm!,hand:=Vy!,AG:=OX!,holds:=IV! } (Gs! t))
inductive Qm(vs:C!)(H:Hp)(Q:VK)(E:XK):Prop
 | mk (p:Addr) (G:BZ) (_:GK!) (_:R?) (_:K5! G.AU)
inductive LV(H:Hp)(v:V)(r:Gt!):Prop
 | mk (a t hd:Addr) (cs:M!) (_:XK!) (_:Kt! [PV!,T! u?,F? hd]) (_:vu! r.1) (_:uy! hd cs.map) (_:BC H cs SL)
theorem LV.keep(x:LV H v r)(k:p?):LV H' v r:=by obtain⟨a,t,hd,cs,e,e1,e2,e3,e4⟩:=x;exact⟨a,t,hd,cs,e,j2!,TE!,E! k.BB e3,BC.keep k e4⟩
theorem LV.rep(x:LV H v r):B2! v (nD r):=by obtain⟨a,t,hd,cs,rfl,e1,e2,e3,e4⟩:=x;exact Iz! (CA.of e1) (K? (Jh e2) (tk! PL! (vS! e3 e4)))
inductive dA(H:Hp)(x:Addr)(hs:D!)(os:EQ)(rs:V!):Prop
 | mk (y1 y2 y3:Addr) (as:M!) (bs:C!) (ds:M!) (_:G2! x (qH! y1 y2 y3)) (_:aZ! y1) (_:BC H as hs) (_:G2! y2 bs) (_:mL! H bs) (_:(∃ob,HM! y3 (.FQ ob (.BB (ds.map V.ref)))/\Jik ob)) (_:WZ! H ds rs)
theorem Re:∀{as:M!} {rs:V!},mU! H->ke! SR! rs.map pP
 | _,_,.nil=>L!
 | _,_,.cons ⟨ka,e1,e2⟩ t=>K? (uk! e1 (Jh e2)) (Re t)
theorem Rb:∀{bs:C!} {os:EQ},mL! H bs->ke! bs os.map nD
 | _,_,.nil=>L!
 | _,_,.cons r t=>K? r.rep (Rb t)
theorem dA.rep{H:Hp}{x:Addr}{hs:D!}{os:EQ}{rs:V!}(h:dA H x hs os rs):B2! X5! (jX hs os rs):=by obtain⟨y1,y2,y3,as,bs,ds,e,e1,t1,e2,r2,⟨ob,e3,_⟩,r3⟩:=h;exact Za! e (vS! e1 t1) (tk! (Iz! (CA.of e2) (Rb r2)) (Iz! (Z! (J? (D? e3))) (Re r3)))
inductive yI(vs:C!)(H:Hp)(Q:VK)(E:XK):Prop
 | mk (p t:Addr) (G:BZ) (th:T2) (w:Int) (a:Addr) (hl hs:D!) (_:Fn!) (_:R?) (_:Er!) (_:pc (I8! G.AG.find? He!) th w) (_:M9! (Yi! He!) th) (_:gv!) (_:hs.Perm hl) (_:is!) (_:QD! (KM->LV H' X5! (th,w,hs)->DW!))
structure Rows(G:BZ)(os:EQ):Prop where
 pm:(os.map (·.1)).Perm (G.AG.map CD!)
 pw:(os.map (·.1)).Pairwise IY
 at_:∀q∈os,pc (Ub! G.AG.find?) q.1 E?/\∃a hl,M9! (Ub! G.holds.find?) q.1/\gv!/\q.2.2.Perm hl/\q.2.2.Pairwise IY
inductive Mc(vs:C!)(H:Hp)(Q:VK)(E:XK):Prop
 | mk (p:Addr) (G:BZ) (hs:D!) (os:EQ) (rs:V!) (_:GK!) (_:R?) (_:G.hand.length<64) (_:G.AG.length<64) (_:G.AJ.length<64) (_:hs.Perm G.hand) (_:is!) (_:ou!) (_:Es!) (_:IY!) (_:QD! (KM->dA H' x hs os rs->DW!))
universe S
theorem scI:A? NE! NE! Zd:={}
theorem YT(F:h0! tA! Zd)(T:Txt):Bt! NE! OW:=by
 refine Y? scI;obtain⟨p,dx,n,rfl,hp,k⟩:=h;refine W!;refine Ae! (Ac (MB! d!) (Ac (MB! Ah) (FM! (MB! Ah) jU! jU! jU! (Af jU!))));refine⟨_,rfl,_,rfl,p,C,dx,[],rfl,hp,T.cl,T.nN,o7!,?_⟩;refine wn! Ab T.nM (Gq! (1<1000));rw[V0];refine wn! Ab T.nT (by rw[E8,Cy Hq,E8];show 2<1000;decide);rw[V0];have step:∀{H1:Hp} {d:Addr} {fs:BW!} {o:HO},Pc! H1 C fs->(LP! H1)->Hm! d->Pc! (upd H1 d o) C fs/\(LP! (upd H1 d o))/\d≠p/\h? d:=λ{H1 d fs o} e1 e2 e3=>by have ur:p≠d:=Am e1 e3;refine A2! (i! ur e1) (λb u e hb=>i! (Am (e2 b u e hb) e3) (e2 b u e hb)) ur.symm;cases q:H d with | none=>rfl | some u=>rw[e2 d u q ur.symm] at e3;cases e3
 have a0:LP! (upd H p (H6! q7!)):=λb u e hb=>Sg!
 intro d1 h1;obtain⟨b1,b2,b3,b4⟩:=rt! a0 h1;refine mY! b1 T.nH;.have:=pr!;have:=pq!;have:=nj!;simp only[BS] at *;lia
 have c0:∀{H1:Hp} {fs:BW!},(LP! H1)->LP! (upd H1 p (H6! fs)):=λe b u e1 hb=>he! (e b u e1 hb)
 intro d2 h2;obtain⟨b5,b6,b7,b8⟩:=rt! (c0 b2) h2;refine mY! b5 T.nO;.have:=Kl! Bj! d1 q7!;have:=pr!;have:=pq!;have:=nj!;simp only[BS] at *;lia
 intro d3 h3;obtain⟨b9,kH,xE,b12⟩:=rt! (c0 b6) h3;refine mY! b9 T.nL;.have:=Kl! BF! d2 (o5! d1 (Op 0) wH!);have:=Kl! Bj! d1 q7!;have:=pr!;have:=pq!;have:=nj!;simp only[BS] at *;lia
 intro d4 h4;obtain⟨b13,b14,b15,b16⟩:=rt! (c0 kH) h4;refine mY! b13 T.nR;.have:=Kl! BG! d3 (BI BF! (Y! d2) (o5! d1 (Op 0) wH!));have:=Kl! BF! d2 (o5! d1 (Op 0) wH!);have:=Kl! Bj! d1 q7!;have:=pr!;have:=pq!;have:=nj!;simp only[BS] at *;lia
 have gm:d1≠d2:=λz=>by rw[<-z,F8!,Ab] at h2;cases h2
 have jn:d1≠d3:=λz=>by rw[<-z,F8!,Ad gm,F8!,Ab] at h3;cases h3
 have jm:d2≠d3:=λz=>by rw[<-z,Ad b7,Ab] at h3;cases h3
 have n14:d1≠d4:=λz=>by rw[<-z,F8!,Ad jn,F8!,Ad gm,F8!,Ab] at h4;cases h4
 have n24:d2≠d4:=λz=>by rw[<-z,Ad b7,Ad jm,Ad b7,Ab] at h4;cases h4
 have n34:d3≠d4:=λz=>by rw[<-z,Ad xE,Ab] at h4;cases h4
 refine k d1 d2 d3 d4 _ b4 b8 b12 b16 ⟨Ch dx,?_,?_,?_,?_,No (by simp at hq),?_⟩ (c0 b14);.rw[Ab,<-Jm0]
 .rw[F8!,Ad n14,F8!,Ad jn,F8!,Ad gm,F8!,Ab];rfl
 .rw[Ad b7,Ad n24,Ad b7,Ad jm,Ad b7,Ab];rfl
 .rw[Ad xE,Ad n34,Ad xE,Ab];rfl
 .rw[Ad b15,Ab];rfl
 .simp[BQ,gm,jn,n14,jm,n24,n34]
theorem scM:V6! Gp! Zb:={}
theorem Jjt(F:h! FG! tC! Zb)(T:Txt):Sn! Wj:=by
 refine Y? scM;obtain⟨p,G,rfl,S,z1,z2,z3,f1,f2,f3,k⟩:=h;refine W!;have hu:=I?;refine Kx! scM.nd (QB! W? W?) (Ac DJ! (FM! (TR! Ah) (TR! Fh) (TR! E1) DJ! (V0! 1)));obtain⟨dx,hp⟩:=S.ob;refine⟨_,rfl,p,C,dx,_,_,rfl,hp,T.cl,T.nN,U8 G,_,rfl,p,C,dx,_,_,rfl,hp,T.cl,T.nM,Jdf G,Bc!,J5!⟩;have s1:=Bp! (Ql! G.num G.AY) ht;have S1:=IF!;have t1:dm! (AP! t .BB (Ql! G.num G.AY)) t tv Ah!:=Ab;generalize jV! t (Ql! G.num G.AY)=H1 at s1 S1 t1;obtain⟨FC,HM⟩:=S1.ob;refine⟨_,rfl,p,C,FC,_,_,rfl,HM,T.cl,T.nM,Jdf G,_,_,rfl,rfl,FC,_,HM,Ex G,?_⟩;rw[Jak];have S2:=S1.fld FC (EK!) G.AU;have LZ:SU! H1 Gm! (upd H1 p (Qp! FC gw!)):=E1! Sg!
 have tp:=S1.tup_ne t1;have t2:=o! LZ t1 tp.1;have S2:A0! (upd H1 p (Qp! FC gw!)) gw!:=S2;generalize upd H1 p (Qp! FC gw!)=H2 at S2 LZ t2;obtain⟨IZ,GV⟩:=S2.ob;refine Uh! IZ GV T.nO (D4 _) G.o (Vh! Ah! S2.dO t2 (Sx! (G.AG.length<=1000)));have e3:putK (G.AG.map gx!) (tk Ah!) (V.int 0)=(OX!).map gx!:=RU! (Ku (k:=An!) (f:=Dc!) _ f2)
 have S3:=S2.J_ (OX!);unfold Dt at S3;rw[<-e3] at S3;have uI:=S2.tup_ne t2;have RH:SU! H2 QJ! (HR! G.o .dT (UZ! G.AG.map gx! (V.int 0))):=E1! (e3! (NN! hb))
 have t3:=o! RH t2 uI.2;generalize HR! G.o .dT (UZ! G.AG.map gx! (V.int 0))=H3 at S3 RH t3;intro a ha;have s4:=Yo! ha;have S4:=S3.same s4;have a4:im! H3 a .dT [] a []:=Ab;have t4:=Ee! t3;have af:a∉BL!:=λm=>by obtain⟨kvs,e⟩:=S3.NX (b:=a) (by have:BQ { G with AY:=EK!,AG:=u9! }=BQ G:=rfl;rw[this];exact m);rw[ha] at e;cases e
 generalize ZG! H3 a=H4 at s4 S4 a4 t4;obtain⟨cq,js⟩:=S4.ob;refine Uh! cq js T.nL (E5 _) G.l (Vh! Ah! S4.dl t4 (Sx! (G.holds.length<=1000)));have e5:putK (G.holds.map Hc!) (tk Ah!) (V.ref a)=(IV!).map Hc!:=RU! (Ku (k:=DX!) (f:=d0!) _ f3)
 have S5:=S4.iR Ah! a4 af;unfold Fq at S5;rw[<-e5] at S5;have dZ:SU! H4 QJ! (CH! H4 G.l .dT (UZ! G.holds.map Hc! (V.ref a))):=E1! (e3! (NN! hb))
 have t5:=o! dZ t4 uI.2;generalize CH! H4 G.l .dT (UZ! G.holds.map Hc! (V.ref a))=H5 at S5 dZ t5;obtain⟨hV,gJ⟩:=S5.ob;refine Uh! hV gJ T.nH (Gf _) G.h (Vh! Ah! S5.dh t5 (Sx! (G.hand.length<=1000)));have e6:putK (G.hand.map gy!) (tk Ah!) (V.bl true)=(Vy!).map gy!:=RU! (Ku (k:=dM!) (f:=Mn!) _ f1)
 have S6:=S5.PV (Vy!);unfold Bm at S6;rw[<-e6] at S6;have ao:SU! H5 QJ! (CH! H5 G.h .dT (UZ! G.hand.map gy! (V.bl true))):=E1! (e3! (NN! hb))
 have t6:=o! ao t5 uI.2;generalize CH! H5 G.h .dT (UZ! G.hand.map gy! (V.bl true))=H6 at S6 ao t6;obtain⟨YZ,bZ⟩:=S6.ob;refine Pw! YZ bZ YZ bZ;rw[By];have S7:=S6.fld YZ (EK!) (Bm!);have QN:∀{b:Addr},SS!->t?:=λ{b} e=>Cm s1 e;have VM:FR! (upd H6 p (Qp! YZ { G with AY:=EK!,AU:=Bm!,AG:=OX!,holds:=IV!,hand:=Vy! })):=λb o e hb hf=>he! (o! ao (dZ _ _ (X! s4 (RH _ _ (LZ _ _ kB! hb) hf)) hf) hf)
 refine KF (k t a _ ht ?_ (QI! tp.1 t6) S7 VM);cases q:H a with | none=>rfl | some u =>exfalso;(have nap:a≠p:=λz=>by rw[z,S3.ob.choose_spec] at ha;cases ha);have:I9! H3 u:=o! RH (LZ _ _ (X! s1 q) nap) af;rw[ha] at this;cases this
theorem scT:Z8! Ur:={}
theorem Jc6(F:h! JP! dp! Ur)(T:Txt):Sn! Qm:=by refine Y? scT;obtain⟨p,G,rfl,S,k⟩:=h;refine W!;obtain⟨dx,hp⟩:=S.ob;exact jp (Af (Ar W?)) ⟨_,rfl,p,C,dx,_,_,rfl,hp,T.cl,T.nT,Dc G,k⟩
universe E
theorem JS{a b c:Str}{k:NameKind}{cl:BX!}{y:Str}(hc:aS!)(h:Lg! mp! mp!):Ib!:=Md!
theorem Jeh(s:KM)(x:mU! H):mU! H':=ie! (by obtain⟨ka,e1,e2⟩:=h9;exact⟨ka,E! s e1,E! s e2⟩) x
universe S
theorem Jp6:by! Y7:={}
theorem Mw(f:NQ!)(l:U!):C? (l.map λt=>(t,f t)).map=l:=H! AN (JT l)
theorem Jjp(F:h! Vc! tL! Y7)(T:Txt):Bt! Gp! yI:=by
 refine Y? Jp6;obtain⟨p,t,G,th,wt,a,hl,hs,rfl,S,ht,f1,f2,cg,pm,pw,k⟩:=h;refine W!;have hu:=I?;obtain⟨dx,hp⟩:=S.ob;have g1:DS H G.o JU! (WV! wt):=Ea! (u8! S.dO) ph! f1
 have g2:DS H G.l JU! (some (V.ref a)):=Ea! (u8! S.dl) cF! f2
 have g3:GA! a hl:=S.hl _ (AW f2);refine Ae! (Af (Ar (Ce (Ji! d! N4! (ks! Di T.tuple (cT! N4!))))));refine⟨_,rfl,_,rfl,p,C,dx,_,_,rfl,hp,T.cl,T.nO,D4 G,_,rfl,G.o,_,rfl,g1,_,rfl,p,C,dx,_,_,rfl,hp,T.cl,T.nL,E5 G,_,rfl,G.l,_,rfl,g2,a,_,hs,rfl,Jdh g3,vr! cg,q! Mw pm,pw,λr as hr ha=>?_⟩;refine Nx! r Ab (λx2 vJ=>vB! 3 EZ!);have s1:=LA! as.map hr;have s2:=TB! as.map vJ;have s3:=Bp! [Q? t,O? wt,Q? x2] hx;have ss:=LY! s1 s2 s3;exact k x _ ss ⟨x,t,x2,as,rfl,Ab,E! ss ht,F7! Ab,T6! ss ha⟩
theorem lu:V6! [Bu!,Bj!,"things",Bk!] Ny:={}
theorem Jg6{f fT:Addr}{fd wB:FuncData}(F:h! G8! do! Ny)(T:Txt)(FT:FF K Vc! tL! Y7 fT wB)(bT:MQ! wB Gp!)(mT:pO K C Vc! fT) : GZ! UV Mc:=by
 have GT:Co! fT wB Gp! yI:=Jjp FT T;refine Y? lu;obtain⟨p,G,hs,os,rs,rfl,S,z1,z2,z3,pm,pw,R,pmr,pwr,k⟩:=h;refine W!;have HC:ap:=M?;obtain⟨dx,hp⟩:=S.ob;refine Kx! lu.nd (ks! Di T.tuple (cT! W?)) (MX! 2 lu.nd (cu! T.tuple (Dm (caps:=Ky!) rfl (Dz (cT! W?)) rfl ZV rfl ZV rfl JJ! No! JL! ZV v8! (VO! (Ao d! T.cl mT GT HC bT L! A7 WS!)))) (Yb! lu.nd (ks! Ti T.tuple (Bv (Nk rfl (Hr hr)) DQ! T.sorted ED (ca (N4 DE PySem.F.slot_dict_items PySem.F.type_dict_items Jhk W?))))) (Af (Ar (Ce (Ji! d! R! P?)))));refine⟨_,rfl,p,C,dx,_,_,rfl,hp,T.cl,T.nH,Gf G,G.h,_,hs,rfl,Jdh S.dh,vr! z1,q! Mw pm,pw,λr1 KL zW ha1=>Nx! r1 Ab (λx1 vK=>?_)⟩;have s1:=LA! KL.map zW;have s2:=TB! KL.map vK;have rJ:=Tj!;have S1:=FF! rJ;have q1:kK! (W5! H r1) x1 KL.map x1 KL.map:=Ab;have qP:BC (upd (W5! H r1) x1 (.BB (KL.map V.ref))) KL hs:=T6! rJ ha1;generalize ia! (W5! H r1) x1 KL.map=H1 at rJ S1 q1 qP;obtain⟨FC,HM⟩:=S1.ob;have e0:Gn! (G.AG.map k7!).map=EH!:=F0!
 refine⟨_,rfl,p,C,FC,_,_,rfl,HM,T.cl,T.nO,D4 G,G.o,_,C? os.map,rfl,Jhr S1.dO,vr! z2,q! e0 R.pm,R.pw,λr2 Z' JR dQ=>l1! r2 Ab AY!⟩;have s3:=LA! Z'.map JR;have sX:ES! (w2! H1) r2 Z'.map:=Ab;have S2:=S1.same s3;have ss2:=Ai rJ s3;have qM:BC (w2! H1) Z' (os.map CD!):=T6! s3 dQ;have qO:BC (w2! H1) KL hs:=T6! s3 qP;have q1b:=F7! q1;generalize OK! H1 r2 Z'.map=H2 at s3 sX S2 ss2 qM qO q1b hq;have hlen:Z'.length=os.length:=Pq! (y! dQ) ZA
 have mJ:os.length<64:=by have h1:=R.pm.length_eq;rw[ZA,ZA] at h1;lia
 refine si! r2 (BR! Z'.map) (Qg C Vc! (yI) [] E0 Sf! qm!) Ky! [AV!,i? x1,none,none] (λi ys H3=>PM! H3 q/\Bu H2 H3/\G6! (LV H3) ys os.take i) ⟨Ab,Ag hq,H! IK L!⟩ (λi ys H3 _ h=>Mo! h.2.1 sX h.1);.rintro i x ys H3 N hx ⟨e3,s4,pr⟩ hN;refine Ba!;rw[ZH] at hx;cases gy:Z'[i]? with | none=>rw[gy] at hx;cases hx | some ai =>rw[gy] at hx;cases hx;(have mO:i<os.length:=HD! hlen gy);obtain⟨qo,vX⟩:=Au mO;have eth:=Ax qM i ai qo.1 gy (CS! vX);obtain⟨f1,a,hl,f2,f3,f4,f5⟩:=R.at_ qo (ZP vX);have S3:=S2.same s4;obtain⟨QC,QR⟩:=S3.ob;refine⟨_,rfl,p,QC,_,rfl,QR,Sc,_,rfl,p,ai,G,qo.1,qo.2.1,a,hl,qo.2.2,rfl,S3,Ee! eth,f1,f2,f3,f4,f5,λx2 H5 s5 rep=>HV! (E! s5 e3) ?_ (GM Ab Dl!)⟩;(.have:=y! pr;rw[this];exact A6 (AV (List.length_take_le _ _) F!));(.have nb:b≠q:=Am e hq;rw[Ad nb];exact j3! s4);·(have kq:e2! H5 H5 q (Jc! x2):=re (E! s5 e3));(have et:JH! os.take=os.take i++[qo]:=M0! vX);rw[et];exact G8 (rep.keep kq) (An (λ_ _ r=>(r.keep (EI s5)).keep kq) pr)
 .rintro ys H3 ⟨e3,s4,pr⟩;rw[ZA,hlen,BL] at pr;refine Nx! q e3 (λx2 vJ=>?_);have s5:=Bp! ys vJ;have ss3:=LY! ss2 s4 s5;have S4:=(S2.same s4).same s5;have q2:DI! H3 x2 ys x2 ys:=Ab;have q1c:=Bn! s5 s4 q1b;have qN:BC (js! x2 ys) KL hs:=An (λ_ _ e=>j3! s4) qO;have pr':mL! (js! x2 ys) ys:=SV! (A5! r.keep s5) pr;generalize Cw! H3 x2 ys=H4 at s5 ss3 S4 q2 q1c qN pr';obtain⟨cq,js⟩:=S4.ob;have wx:=S4.dr;refine⟨_,rfl,p,C,cq,_,_,rfl,js,T.cl,T.nR,Dw G,TD (PS! (x? (I! (D? wx)))),G.r,_,rfl,rfl,wx,RP!⟩;have s6:=Ag (o:=X6 v G.r) hv;refine⟨v,G.r,G.AJ,rs,rfl,Ab,E! s6 wx,z3,pmr,pwr,λr3 as3 H7 s7 eC e7 pr7=>⟨r3,_,rfl,E8! e7,λx3 ob3 hx3 pl3=>?_⟩⟩;have s8:=Ag (o:=.FQ ob3 (.BB (as3.map V.ref))) hx3;refine pZ! _ rfl (vn! 3) EZ!;have s9:=Bp! [Q? x1,Q? x2,Q? x3] hx;have nZ:=Ai s6 (Ai s7 (Ai s8 s9));exact k x _ (Ai ss3 nZ) ⟨x1,x2,x3,KL,ys,as3,Ab,E! nZ q1c,T6! nZ qN,E! nZ q2,SV! (A5! r.keep nZ) pr',⟨ob3,E! s9 Ab,pl3⟩,Jeh (Ai s8 s9) pr7⟩
universe E
universe S
theorem kh:A? [Pk!,"_law_k","_law_number"] a8! tY:={}
inductive Jf0(vs:C!)(H:Hp)(Q:VK)(E:XK):Prop
 | mk (a:Addr) (ns:j!) (k:Int) (_:vs=[Os,T! k]) (_:mH!) (_:gs!) (_:0<=k) (_:k<=1000) (_:∀v:Int,K5! v)
theorem Jj0(F:h! ti! ti! tY)(hn:ZI!):Bt! a8! Jf0:=by
 refine Y? kh;obtain⟨a,ns,k,rfl,hS,hl,h0,JQ0,kk⟩:=h;refine W!;have hlen:SZ ns.map V.int=ns.length:=ZA ..;have item:∀i:Int,0<=i->i<ns.length->∃v,RK (ns.map V.int) i=A! (Op v):=λi a b=>by obtain⟨x,hx⟩:=Qf! ns i.toNat;exact⟨x,Ee a (CS! hx)⟩
 refine KT! (VU! (Yc! d! (Qq! hn a?)) (Az Ec a? d!)) (MX! 2 kh.nd (H1! (NW! d!)) (LJ! (VN! Ro (Qq! hn a?) Ah) (CJ! 2 kh.nd (DB! (Bh Dv (NW! (Az Ec a? (Bh C8 (NW! d!) (Qq! hn a?)))) (NW! d!))))) (wT (DB! (Bh Gu R! R!))));refine⟨_,rfl,_,rfl,a,_,rfl,J! hS,_,_,rfl,rfl,_,rfl,?_⟩;refine X7 (λc1=>?_) (λ_=>?_);.have c1:=BU c1;obtain⟨v,hv⟩:=item k h0 (by rw[hlen] at c1;exact c1);exact⟨_,rfl,_,rfl,a,_,_,_,rfl,rfl,hS,hv,kk v⟩
 .refine⟨_,rfl,_,_,rfl,rfl,OR!,_,_,rfl,rfl,?_⟩;refine⟨_,rfl,a,_,rfl,J! hS,_,_,rfl,rfl,_,rfl,?_⟩;refine X7 (λc2=>?_) (λ_=>?_);(.have c2:=BU c2;(have fC:PN!<c? ns.length:=by rw[hlen] at c2;exact c2);obtain⟨v,hv⟩:=item (k*7 % c? ns.length) (CN _ F!) (CF _ fC);refine⟨_,rfl,_,rfl,_,_,rfl,rfl,OR!,_,rfl,a,_,rfl,J! hS,_,_,rfl,rfl,hi! fC,a,_,_,_,rfl,rfl,hS,hi! hv,_,_,rfl,rfl,OR!,_,rfl,_,_,rfl,rfl,OR!,_,_,rfl,rfl,_,_,rfl,rfl,Bv! 2147483647,?_⟩;refine⟨_,rfl,_,rfl,_,_,rfl,rfl,J! Fj!,_,_,rfl,rfl,Bv! 2147483629,kk _⟩;(.have:=CN (v*48271+k*7919) (a9! 2147483647);lia);.have:=CF (v*48271+k*7919) (dk! 2147483647);lia);.exact⟨_,rfl,_,rfl,_,_,rfl,rfl,Al! B! B!,_,_,rfl,rfl,Bv! 2147483629,kk _⟩
universe E
theorem Sh(h1:IY a b)(h2:IY b c):IY a c:=by rw[Fj] at *;lia
theorem Xu(h:a≠b)(h1:¬IY a b):IY b a:=by rw[Fj] at *;have:¬(bh!/\a.2=b.2):=λz=>h (Prod.ext z.1 z.2);lia
theorem Me(key:B5!)(x:α):∀{s:U!},(s.map key).Pairwise IY->(∀y∈s,key x≠key y)->∃s':U!,fv! (s'.Perm (x::s)) s'.map
 | [],_,_=>l2! [x]
 | y::s,h,ne=>by have h':=DT.mp h;by_cases e:IY (key x) (key y);(.refine⟨x::y::s,WR!,pB! h⟩;rcases ZM hz with rfl|hz;(.exact e);.exact Sh e (h'.1 z hz));.obtain⟨s',p,q⟩:=Me key x h'.2 (u3! ne);refine⟨y::s',(p.cons y).trans (List.Perm.swap x y s),pB! q⟩;obtain⟨u,hu,rfl⟩:=BZ!;rcases ZM (p.mem_iff.mp hu) with rfl|hu;(.exact Xu (ne y Gy!) e);.exact h'.1 _ (BE hu)
theorem sorts(key:B5!):lZ! (Mm! key) (∃s:U!,fv! (s.Perm l) s.map)
 | [],_=>l2! []
 | x::l,nd=>by have NR:=Bd!;obtain⟨s,p,q⟩:=sorts key NR.2;obtain⟨s',p',q'⟩:=Me key x q λy hy e=>HI! NR.1 ⟨y,p.mem_iff.mp hy,e.symm⟩;exact⟨s',p'.trans (p.cons x),q'⟩
structure Good(G:BZ):Prop where
 h1:G.hand.Nodup
 h2:G.hand.length<64
 o1:o? G.AG.map
 o2:G.AG.length<64
 r1:o? G.AJ.map
 r2:G.AJ.length<64
 at_:∀q∈G.AG,∃a hl,Ub! G.holds.find?=A! (q.1,a,hl)/\hl.Nodup/\gv!
structure Told(G:BZ)(hs:D!)(os:EQ)(rs:V!):Prop where
 pm:hs.Perm G.hand
 pw:is!
 PM:ou!
 pr:Es!
 wr:IY!
theorem HF{l:V!}(nd:YT!){q:Bi!}(hq:q∈l):Ub! l.find?=A! q:=by induction l with | nil=>cases hq | cons x l ih =>have NR:=Bd!;rcases ZM hq with rfl|hq;(.simp);.have ne:¬x.1=q.1:=V8! NR.1 (L2! z.symm);rw[BP,iU!];exact ih NR.2 hq
theorem Jc2(g:Good G):∀{s:V!},(∀q∈s,q∈G.AG)->∃os:EQ,os.map (λq=>(q.1,E?))=s/\∀q∈os,pc (Ub! G.AG.find?) q.1 E?/\∃a hl,M9! (Ub! G.holds.find?) q.1/\gv!/\q.2.2.Perm hl/\q.2.2.Pairwise IY
 | [],_=>FT! [] (No (AL! hq))
 | x::s,h=>by obtain⟨os,e,k⟩:=Jc2 g (No (h q (Aj! hq)));have hx:=Eq! x;obtain⟨a,hl,f,nd,z⟩:=g.at_ x hx;obtain⟨hs,p,q⟩:=sorts (λt:T2=>t) (l:=hl) (q! JT nd);rw[JT] at q;refine⟨(x.1,x.2,hs)::os,z! AI e,FW!⟩;rcases ZM hy with rfl|hy;(.exact⟨HF g.o1 hx,a,hl,f,z,p,q⟩);.exact k y hy
theorem Good.told(g:Good G):∃hs os rs,Du!:=by
 obtain⟨hs,p1,q1⟩:=sorts (λt:T2=>t) (l:=G.hand) (q! JT g.h1);obtain⟨so,p2,q2⟩:=sorts (An!) g.o1;obtain⟨rs,p3,q3⟩:=sorts (An!) g.r1;obtain⟨os,e,k⟩:=Jc2 g (No (p2.mem_iff.mp hq));have e1:MY! os.map so.map:=by rw[<-e,AN];rfl
 rw[JT] at q1;exact⟨hs,os,rs,p1,q1,⟨XQ! (p2.map _),XQ! q2,k⟩,p3,q3⟩
inductive Jcx(vs:C!)(H:Hp)(Q:VK)(E:XK):Prop
 | mk (p dx:Addr) (_:GK!) (_:ZK! CP []) (_:∀(d:Addr)(H':Hp),h? d->IP CP H' p d 0 []->(N3! Gm!)->Pu!)
inductive Hm(vs:C!)(H:Hp)(Q:VK)(E:XK):Prop
 | mk (p d:Addr) (c:Int) (ls:k!) (k s g a:V) (_:vs=[y?,k,s,g,a]) (_:c2! CP) (_:ls.length<=700) (_:eO! (h? t->Nq! t [a! (c+1),k,s,g,a]->IP CP H' p d (c+1) (ls++[(c+1,t)])->(QQ! Gm! (b≠d) Fc!)->Th! (c+1)))
inductive Qo(vs:C!)(H:Hp)(Q:VK)(E:XK):Prop
 | mk (p d:Addr) (c:Int) (ls:k!) (_:GK!) (_:c2! CP) (_:∀(l:Addr)(H':Hp),Jh!->if! ls.map Dh!->KM->Gs! l)
inductive Y5(vs:C!)(H:Hp)(Q:VK)(E:XK):Prop
 | mk (p d:Addr) (c:Int) (ls:k!) (n:Int) (_:SZ!) (_:c2! CP) (_:((∃(l1 l2:k!)(t:Addr),ls=Sw!/\∀(H':Hp),IP CP H' p d c (I0!)->(N3! (b≠d))->Gs! t)\/((CF! (l.1≠n))/\dl! NL)))
universe S
theorem Jqe:Z8! Q5:={}
theorem Jg8(F:h0! tB! Q5)(T:Nm):Sn! Jcx:=by
 refine Y? Jqe;obtain⟨p,dx,rfl,hp,k⟩:=h;refine W!;refine Ae! (Ac (MB! Ah) (Af Nr!));refine⟨_,rfl,p,CP,dx,[],rfl,hp,T.cl,T.nL,o7!,?_⟩;intro d hd;have oW:p≠d:=λz=>by rw[<-z,Ab] at hd;cases hd
 have RG:h? d:=by rw[db! oW] at hd;exact hd
 refine uG! CP (kM! oW) T.cl T.nW (Gq! (1<1000)) ?_;refine k d _ RG ⟨G1! Ab,DM! (db! oW) Ab,EC! (by simp at hl),DL⟩ (E1! ?_);rw[BT!,Pr! RG,BT!];exact e
theorem Jqc:A? tm! tm! Li:={}
theorem K1(F:h! "put" "Post.put" Li)(T:Nm):Bt! tm! Hm:=by
 refine Y? Jqc;obtain⟨p,d,c,ls,kk,ss,gg,aa,rfl,S,hl,k⟩:=h;refine W!;have hu:=I?;obtain⟨⟨dx,h1⟩,hd,le,nd⟩:=id S;have oH:p≠d:=S.ne;refine Ae! (Ac DJ! (Ac (eG! W? (Ce (Aa W? (PY! d! R! P? j?)))) (wT W?)));refine⟨_,rfl,p,CP,dx,_,_,rfl,h1,T.cl,T.nL,Ge _ _,_,_,rfl,rfl,dx,_,h1,(by rw[Zs];show 2<1000;decide),?_⟩;rw[Jem];have h2:Pc! pY! CP (Ft (c+1) d):=Ab;have d2:Ts! pY! kvsOf ls:=i! oH.symm hd
 refine⟨_,rfl,p,CP,dx,_,_,rfl,h2,T.cl,T.nL,Ge _ _,_,rfl,_,rfl,_,rfl,_,rfl,vn! 5,?_⟩;intro t ht;have npt:p≠t:=Am h2 ht;have ndt:d≠t:=Am d2 ht;have ht':h? t:=by rw[Ad npt.symm] at ht;exact ht
 have h3:∀o,Pc! (upd pY! t o) CP (Ft (c+1) d):=λo=>i! npt h2
 have d3:∀o,Ts! (upd pY! t o) kvsOf ls:=λo=>i! ndt d2
 refine⟨_,rfl,p,CP,dx,_,_,rfl,h3 _,T.cl,T.nW,Fy _ _,_,rfl,p,CP,dx,_,_,rfl,h3 _,T.cl,T.nL,Ge _ _,d,_,rfl,jw! (c+1) (d3 _) (Ry! M0),?_⟩;have zZ:Ml! ls (hq! (c+1)):=Xj! (jo! (by have:=le l hl;simp;lia))
 have JAC:qL! ls (hq! (c+1)) t (ls++[(c+1,t)]):=by rw[E4 _ zZ];unfold kvsOf;rw[ZF];rfl
 rw[JAC];refine⟨_,rfl,p,CP,dx,_,_,rfl,QI! oH (h3 _),T.cl,T.nL,Ge _ _,?_⟩;refine k t _ ht' (HU! (Ad ndt.symm) Ab) (A2! (G1! (i! oH (h3 _))) Ab RW!) λb o e hp hb=>?_;.rcases Hs! with hl|hl;(.have:=le l hl;lia);·(have e:l=(c+1,t):=by simpa using hl);rw[e];exact BU!
 .rw[ZF];refine G9 nd Jz!;obtain⟨l,hl,e⟩:=Dr!;have:=le l hl;have e':l.1=c+1:=e;lia
 .rw[BT!,Pr! ht',Ad hp];exact e
theorem Jqd:Z8! Iu:={}
theorem Z0(F:h! Pg! tU! Iu)(T:Nm):Sn! Qo:=by
 refine Y? Jqd;obtain⟨p,d,c,ls,rfl,S,k⟩:=h;refine W!;obtain⟨⟨dx,h1⟩,hd,le,nd⟩:=id S;refine k9! (kt! (Oq rfl) T.list (N4 DE JD P_ Oa W?));refine⟨_,rfl,p,CP,dx,_,_,rfl,h1,T.cl,T.nW,Fy _ _,TD (PS! (x? (YA! hd))),d,_,rfl,rfl,hd,RP!⟩;have ndv:d≠v:=Am hd hv;refine⟨v,d,_,rfl,Ab,i! ndv hd,RW!⟩;have nvl:l≠v:=λz=>by rw[z,Ab] at hl;cases hl
 have jx:Jh!:=by rw[Ad nvl] at hl;exact hl
 refine k l _ jx (by rw[Ab];unfold kvsOf;rw[AN];rfl) Dl!;rw[Pr! jx,Pr! hv];exact e
theorem Jqb:A? CP! CP! Mi:={}
theorem Jep(F:h! "taken" tV! Mi)(T:Nm):b? 1 f fd CP! Y5:=by
 refine AI! Jqb;obtain⟨p,d,c,ls,n,rfl,S,k⟩:=h;refine W!;have hu:=I?;obtain⟨⟨dx,h1⟩,hd,le,nd⟩:=id S;have oH:p≠d:=S.ne;refine KT! (ns! pf! (Uv! T.cNL)) (wT (Zu W? d! Aw!));refine vh! CP dx h1 T.cl T.nW (Fy _ _) d _ (kL! hd);rcases k with⟨l1,l2,t,rfl,k⟩|⟨i7,k⟩;·(have ev:B4 (kvsOf (Sw!)) H4!=A! JU!:=Xj! (Jas nd));rw[ev];refine B3!;refine⟨_,rfl,p,CP,dx,_,_,rfl,h1,T.cl,T.nW,Fy _ _,d,rfl,YA! (J! hd),_,rfl,_,ev!,_,hd,rfl,ev,?_⟩;rw[Jaw nd];(refine k _ (A2! (G1! (i! oH h1)) Ab (EC! (le l ?_))) (E1! Sg!));(.rcases Hs! with hl|hl;(.exact o0 hl);.exact uO! hl);.rw[ZF,AI] at nd;rw[ZF];refine QL! (YF! nd) (AX.mp (km! nd)).2 (λa ha b hb=>vR! a ha b (Aj! hb))
 ·(have ev:Ml! ls H4!:=Xj! (jo! (Ge! (i7 l hl))));rw[ev];exact Ck k
universe E
universe S
inductive Jcv(vs:C!)(H:Hp)(Q:VK)(E:XK):Prop
 | mk (p t:Addr) (G:BZ) (th:T2) (_:Fn!) (_:R?) (_:Er!) (_:Q (T1! (L? (G.AJ.find? (XE! He!)).map db 0)) H)
theorem Jp9:by! Q3:={}
theorem Jg7(F:h! tN! tO! Q3)(T:Txt):Bt! Gp! Jcv:=by refine Y? Jp9;obtain⟨p,t,G,th,rfl,S,ht,k⟩:=h;refine W!;have hu:=I?;obtain⟨dx,hp⟩:=S.ob;refine k9! (bC! (Jgt hu W? d! Aw!) Ah);refine⟨_,rfl,p,C,dx,_,_,rfl,hp,T.cl,T.nR,Dw G,G.r,rfl,QT! S.dr,_,rfl,_,Js S.dr ht,?_⟩;cases e:(G.AJ.find? (At He!)) with | none =>rw[e] at k;exact x? k | some q =>rw[e] at k;refine Hn!;(have e2:Av! PJ! (O? 0)=w! (L? (some q).map db PN!):=x!);show Q (V.bl (decide (PJ!=O? 0))) H;rw[e2];exact k
universe E
universe S
inductive Er(vs:C!)(H:Hp)(Q:VK)(E:XK):Prop
 | mk (p:Addr) (h:Int) (W:EE) (_:SY!) (_:IR) (_:fP! (BH! q H))
theorem Jf7:bB! Ep:={}
theorem En(F:h! dR! "World.house" Ep)(T:Txt)(TW:F9):b? 1 f fd BJ! Er:=by
 refine AI! Jf7;obtain⟨p,h,W,rfl,S,k⟩:=h;refine W!;obtain⟨dx,hp⟩:=S.ob;refine KT! (Bj (cv (O0 (Yc! d! Ah) (Kh (VN! Jon d! pi!)))) (Af (Uv! TW.cNH)) A5) (wT (aJ! d!));have e0:c? (SZ W.qs.map LM!)=W.qs.length:=x!
 refine⟨_,rfl,_,_,rfl,rfl,_,rfl,?_⟩;rcases k with⟨o,k⟩|⟨q,G,i,k⟩;.refine X7 (λ_=>Ck k) (Xq!);have c:¬h<0:=Yu! decide_eq_true;refine⟨_,rfl,_,rfl,p,CW,dx,_,_,rfl,hp,TW.cl,TW.nH,Ek W,W.hs,_,rfl,kq!,_,_,rfl,rfl,_,rfl,?_⟩;rw[e0,MT! (show Rm!<=h from o.resolve_left c)];exact Ck k
 .obtain⟨i1,i2⟩:=i.lt;rw[Dp! (Ls! (¬h<0))];refine B3!;refine⟨_,rfl,_,rfl,p,CW,dx,_,_,rfl,hp,TW.cl,TW.nH,Ek W,W.hs,_,rfl,kq!,_,_,rfl,rfl,_,rfl,?_⟩;rw[e0,Dp! (Ls! (¬Rm!<=h))];refine B3!;exact⟨_,rfl,p,CW,dx,_,_,rfl,hp,TW.cl,TW.nH,Ek W,_,rfl,W.hs,_,_,_,rfl,rfl,Ye!,i.RK,k⟩
inductive Wb(vs:C!)(H:Hp)(Q:VK)(E:XK):Prop
 | mk (p:Addr) (h:Int) (W:EE) (_:SY!) (_:IR) (_:fP! (Wj [NC!] H Q E))
theorem Ji1:bB! Qz:={}
theorem Jg0(F:h! FG! tW! Qz)(T:Txt)(TW:F9)(MH:Gc!)(M1:b5! FG! tC! Zb)(G1:b? 1 f1 d1 UV Wj):ZO! BJ! Wb:=by
 have GH:Il!:=Im!;refine AI! Ji1;obtain⟨p,h,W,rfl,S,k⟩:=h;refine W!;have HC:ap:=M?;obtain⟨dx,hp⟩:=S.ob;refine Ig! (C4 (pl:=_) Wf! T.cl M1.mt G1 hr M1.bd L! Cf);refine ON!;rcases k with k|⟨q,G,i,k⟩;.exact CU!
 .obtain⟨FC,hq⟩:=Ev!;exact I! ⟨q,G,i,q,FC,_,rfl,hq,Sc,k⟩
inductive Wc(vs:C!)(H:Hp)(Q:VK)(E:XK):Prop
 | mk (p:Addr) (h:Int) (va vb:V) (W:EE) (_:vs=[y?,pt,va,vb]) (_:IR) (_:rT! Wk [NC!,va,vb])
theorem Ji3:A? EQ! EQ! Q0:={}
theorem Jg2(F:h! Z? tf! Q0)(T:Txt)(TW:F9)(MH:Gc!)(M1:Jj! Z? tR! Ze f1 d1)(G1:b? 3 f1 d1 EJ! Wk):jT! EQ! Wc:=by
 have GH:Il!:=Im!;refine AI! Ji3;obtain⟨p,h,va,vb,W,rfl,S,k⟩:=h;refine W!;have HC:ap:=M?;obtain⟨dx,hp⟩:=S.ob;refine pp! (YK! P?);refine ON!;rcases k with k|⟨q,G,i,k⟩;.exact CU!
 .obtain⟨FC,hq⟩:=Ev!;exact Uw! FC _ rfl hq Sc _ rfl _ rfl k
inductive We(vs:C!)(H:Hp)(Q:VK)(E:XK):Prop
 | mk (p:Addr) (h:Int) (va vb:V) (W:EE) (_:vs=[y?,pt,va,vb]) (_:IR) (_:rT! Wo [NC!,va,vb])
theorem Ji6:A? EQ! EQ! Q2:={}
theorem Jg5(F:h! Da! tg! Q2)(T:Txt)(TW:F9)(MH:Gc!)(M1:Jj! Da! tS! Zg f1 d1)(G1:b? 4 f1 d1 EJ! Wo):b? 5 f fd EQ! We:=by
 have GH:Il!:=Im!;refine AI! Ji6;obtain⟨p,h,va,vb,W,rfl,S,k⟩:=h;refine W!;have HC:ap:=M?;obtain⟨dx,hp⟩:=S.ob;refine pp! (YK! P?);refine ON!;rcases k with k|⟨q,G,i,k⟩;.exact CU!
 .obtain⟨FC,hq⟩:=Ev!;exact Uw! FC _ rfl hq Sc _ rfl _ rfl k
inductive V9(vs:C!)(H:Hp)(Q:VK)(E:XK):Prop
 | mk (p:Addr) (h:Int) (va vb:V) (W:EE) (_:vs=[y?,pt,va,vb]) (_:IR) (_:rT! Wf [NC!,va,vb])
theorem Ji0:A? EQ! EQ! Qv:={}
theorem Jgx(F:h! Db! th! Qv)(T:Txt)(TW:F9)(MH:Gc!)(M1:Jj! Db! tT! Y8 f1 d1)(G1:b? 4 f1 d1 EJ! Wf):b? 5 f fd EQ! V9:=by
 have GH:Il!:=Im!;refine AI! Ji0;obtain⟨p,h,va,vb,W,rfl,S,k⟩:=h;refine W!;have HC:ap:=M?;obtain⟨dx,hp⟩:=S.ob;refine pp! (YK! P?);refine ON!;rcases k with k|⟨q,G,i,k⟩;.exact CU!
 .obtain⟨FC,hq⟩:=Ev!;exact Uw! FC _ rfl hq Sc _ rfl _ rfl k
inductive Wd(vs:C!)(H:Hp)(Q:VK)(E:XK):Prop
 | mk (p:Addr) (h:Int) (vb:V) (W:EE) (_:vs=[y?,pt,vb]) (_:IR) (_:rT! Wn [NC!,vb])
theorem Ji5:A? NT! NT! Q1:={}
theorem Jg4(F:h! FH! tX! Q1)(T:Txt)(TW:F9)(MH:Gc!)(M1:R0! FH! tD! Zf f1 d1)(G1:b? 2 f1 d1 MK! Wn):Sr! NT! Wd:=by
 have GH:Il!:=Im!;refine AI! Ji5;obtain⟨p,h,vb,W,rfl,S,k⟩:=h;refine W!;have HC:ap:=M?;obtain⟨dx,hp⟩:=S.ob;refine pp! (ca R!);refine ON!;rcases k with k|⟨q,G,i,k⟩;.exact CU!
 .obtain⟨FC,hq⟩:=Ev!;exact I! ⟨q,G,i,q,FC,_,rfl,hq,Sc,_,rfl,k⟩
inductive J8(vs:C!)(H:Hp)(Q:VK)(E:XK):Prop
 | mk (p:Addr) (h:Int) (W:EE) (_:SY!) (_:IR) (_:fP! (Mc [NC!] H Q E))
theorem Jf6:bB! Mf:={}
theorem Jen(F:h! G8! "World.state" Mf)(T:Txt)(TW:F9)(MH:Gc!)(M1:b5! G8! do! Ny)(G1:b? 2 f1 d1 UV Mc):Sr! BJ! J8:=by
 have GH:Il!:=Im!;refine AI! Jf6;obtain⟨p,h,W,rfl,S,k⟩:=h;refine W!;have HC:ap:=M?;obtain⟨dx,hp⟩:=S.ob;refine Ig! (C4 (pl:=_) Wf! T.cl M1.mt G1 hr M1.bd L! Cf);refine ON!;rcases k with k|⟨q,G,i,k⟩;.exact CU!
 .obtain⟨FC,hq⟩:=Ev!;exact I! ⟨q,G,i,q,FC,_,rfl,hq,Sc,k⟩
inductive V8(vs:C!)(H:Hp)(Q:VK)(E:XK):Prop
 | mk (p:Addr) (h:Int) (W:EE) (_:SY!) (_:IR) (_:fP! (Qm [NC!] H Q E))
theorem Jiz:bB! Ws:={}
theorem Jgw(F:h! JP! "World.tick" Ws)(T:Txt)(TW:F9)(MH:Gc!)(M1:b5! JP! dp! Ur)(G1:b? 1 f1 d1 UV Qm):ZO! BJ! V8:=by
 have GH:Il!:=Im!;refine AI! Jiz;obtain⟨p,h,W,rfl,S,k⟩:=h;refine W!;have HC:ap:=M?;obtain⟨dx,hp⟩:=S.ob;refine Ig! (C4 (pl:=_) Wf! T.cl M1.mt G1 hr M1.bd L! Cf);refine ON!;rcases k with k|⟨q,G,i,k⟩;.exact CU!
 .obtain⟨FC,hq⟩:=Ev!;exact I! ⟨q,G,i,q,FC,_,rfl,hq,Sc,k⟩
universe E
def dX(G:BZ)(tb:T2)(wt:Int):V!:=if FX! then P3! Xr! else G.AG
theorem Jkm{l:V!}{t:T2}(h:gq!):IS!=none:=cR! (¬GE) h
theorem M9(hd:k8! l)(ht:Er!)(f:pc (d3! He!) th v):Tl! (WV! v):=Pq! (Js hd ht) f
universe S
inductive Jcz(vs:C!)(H:Hp)(Q:VK)(E:XK):Prop
 | mk (p b:Addr) (G:BZ) (tb:T2) (wt:Int) (_:nb!) (_:R?) (_:PP) (_:M4!) (_:Eu! (gu! pg!))
theorem Jqj:o0! Q8:={}
theorem Jhc{f:Addr}{fd:FuncData}(F:h! "given" tH! Q8)(T:Txt):Bt! FB! Jcz:=by
 refine Y? Jqj;obtain⟨p,b,G,tb,wt,rfl,S,hb,z,k⟩:=h;refine W!;have hu:=I?;obtain⟨dx,hp⟩:=S.ob;refine Ae! (Ac (ns! (Lp hu d! W?) (c3! R! Jhs)) (Af DJ!));refine n2! C T.cl T.nO (D4 G) G.o (Js S.dO hb);by_cases h:FX!;.have fo:=Nc h;rw[fo];refine Ba!;have g1:pD! G.o (Aj G.AG tb):=M9 S.dO hb fo;refine ss! C dx hp T.nO (D4 _) G.o g1 _ rfl rfl _ (LS! S.dO);rw[Fe];have S1:nQ! (W7! (Xr!)) (RZ! Xr!):=S.J_ _;obtain⟨FC,HM⟩:=S1.ob;refine Ll!;rw[By];(have e:pg!=P3! Xr!:=eR! A6!);rw[e] at k;exact cQ! (RZ! Xr!)
 .rw[Jkm h];refine B3!;(have e:pg!=G.AG:=eR! BY!);rw[e] at k;refine Pw! dx hp dx hp;rw[By];exact fG! (S.fld dx G.AY (Bm!)) (VV! h1)
def dt(G:BZ)(tb:T2)(GY:Bool):D!:=if GY=true then JM! else G.hand
def iZ(G:BZ)(tb:T2)(sh:Int)(GY:Bool):V!:=P3! (P9!+Vu! (GY=true) (sh-1) (2*sh-1))
inductive Y3(vs:C!)(H:Hp)(Q:VK)(E:XK):Prop
 | mk (p b:Addr) (G:BZ) (tb:T2) (sh:Int) (GY:Bool) (_:vs=[y?,Uf,T! sh,.bl GY]) (_:R?) (_:PP) (_:M4!) (_:Xo!) (_:FX!) (_:Eu! (gt! cE! (iZ G tb sh GY)))
theorem Jqa:A? OU! OU! Mh:={}
theorem Jeq(F:h! "passed" tI! Mh)(T:Txt):Bt! OU! Y3:=by refine Y? Jqa;obtain⟨p,b,G,tb,sh,GY,rfl,S,hb,z1,z2,h,k⟩:=h;refine W!;have hu:=I?;obtain⟨dx,hp⟩:=S.ob;refine Ae! (Ac (Bj (Jl (pv 3)) (FQ! (TR! E1) (c3! (Bh Xd R! Ah) Ew)) (Af (c3! (Bh Xd (Bh Gu Ah R!) Ah) Ew))) (Af DJ!));have fo:=Nc h;refine WU! _ GY ?_;cases GY with | true =>refine Ba!;refine Uh! dx hp T.nH (Gf G) G.h (LS! S.dh);rw[Fv];have S1:ab! eC! F2!:=p2! Ct;(have LH:FR! qb!:=λb' o e h1 h2=>VV! Uk!);have b1:=va! LH hb hb hb;rw[Lu! ((HO.dT ((Ct G.hand tb).map B9!))=Bm eC!)];generalize qb!=H1 at S1 LH b1;obtain⟨FC,HM⟩:=S1.ob;have g1:DS H1 G.o FN! (WV! (Aj G.AG tb)):=M9 S1.dO b1 fo;refine⟨_,rfl,p,C,FC,_,_,rfl,HM,T.cl,T.nO,D4 _,_,rfl,G.o,_,rfl,g1,_,rfl,_,_,rfl,rfl,_,_,rfl,rfl,_,wF! S1.dO b1 (Sx! (G.AG.length<=1000)),?_⟩;rw[Fe];have S2:=S1.J_ (Bp G.AG tb (P9!+(sh-1)));(have LZ:FR! (CH! H1 G.o Dt (W7! (P9!+(sh-1)))):=λb' o' e h1 h2=>eP! Uk! LH);obtain⟨IZ,GV⟩:=S2.ob;refine Pw! IZ GV IZ GV;rw[By];exact mq! S2.fld IZ LZ | false =>refine B3!;have g1:pD! G.o (Aj G.AG tb):=M9 S.dO hb fo;refine⟨_,rfl,p,C,dx,_,_,rfl,hp,T.cl,T.nO,D4 _,_,rfl,G.o,_,rfl,g1,_,rfl,_,_,rfl,rfl,Al! w? w?,_,_,rfl,rfl,_,_,rfl,rfl,_,LS! S.dO,?_⟩;rw[Fe];have S1:nQ! (W7! (P9!+(2*sh-1))) (RZ! (P9!+(2*sh-1))):=S.J_ _;obtain⟨FC,HM⟩:=S1.ob;refine Ll!;rw[By];exact cQ! (RZ! (P9!+(2*sh-1)))
universe E
theorem Wy(hd:ho! d l)(ht:Er!)(f:M9! (d3! He!) th):Tl! (some (V.ref a)):=Ea! aj! cF! f
universe S
inductive Ii(vs:C!)(H:Hp)(Q:VK)(E:XK):Prop
 | mk (sa l:Addr) (as:M!) (ts:D!) (hl:HL) (n:Nat) (R:D!) (_:vs=[F? sa,P8!]) (_:vY! sa) (_:A9!) (_:ts.length<=400) (_:I3! l Fq hl) (_:hl.length<=400) (_:(∀q∈hl,GA! E? FS/\q.2.2.length<=400/\E?≠l)) (_:rO! (ts.filter Kf!)) (_:n<=5000) (_:QD! (h? x->KM->jO! x R->DW!))
theorem gY:A? ["starts",BG!,"found",MC!,"ahead"] GV! F3:={}
theorem Lq(F:h! MF! MF! F3):DQ 1 f fd GV! Ii:=by
 refine Y? gY;obtain⟨sa,l,as,ts,hl,n,R,rfl,es,th,zt,el,zl,hq,ub,zn,k⟩:=h;refine W!;have hu:=I?;refine eH! gY.nd Fh (Y4! (qT! te (Ca 0) i 4 K9! gY.nd (H3! 0) No! p7! Vr!) (Rh PassesOwn.never (Rg j? (Cg!)) (FQ! (Yb! gY.nd (N4 CG PySem.F.slot_list_pop PySem.F.type_list_pop Jhj j?)) (Ym! (Em hu P? R!) (Ac (L5! R! P? E1) (Df! (Lj CG JC JB Uz j? (ca (PE.YB (sC! K9! (P3 (ic! P?)) No! p7!))))))))) 2);intro fa eF;have s1:=Yo! eF;have e1:lc! (AP! fa .dT []) []:=Ab;generalize ZG! H fa=H1 at s1 e1;have nY:b6! H1:=B8! s1 th;refine JW! sa (eB! s1 es) (λaa eJ=>?_);refine K7 (b:=Kf!) (caps:=K9!) eJ F! (X! s1 es) nY (λH2 a t Q' sm ha ht q=>?_) λH2 bs sm ea tb=>?_;.obtain⟨o,g,eo⟩:=rb! (X! sm (X! s1 el));refine rP!;rw[eo];exact SN!
 have jk:h? aa:=by cases c:H aa with | none=>rfl | some o=>rw[E! s1 c] at eJ;cases eJ
 have gk:fa≠aa:=λz=>by rw[<-z,e1] at eJ;cases eJ
 refine GM (λm σ H'=>∃(ahead found:D!)(JZ:M!)(u3:Ar!),σ=[i? sa,Rx!,i? fa,u3,i? aa]/\KM/\jO! fa found/\ui! aa JZ.map/\BC H' JZ ahead/\NZ (RF hl) m ahead found R/\found.length+m<=5000/\dY! Ps!) ⟨n,_,[],bs,_,rfl,Ai s1 sm,Ef! e1,ea,tb,ub,by simpa using zn,sB m3!⟩;rintro m σ H' ⟨ahead,found,JZ,u3,rfl,sh,ef,cn,dM,rc,zm,hk⟩;refine A1! rfl _ (J! (EP! (E8! cn))) ?_;cases m with | zero =>obtain⟨e0,eR⟩:=rc;rw[e0] at dM;have e2:JZ=[]:=BR.mp (Paired.length dM);rw[e2];refine in! (k fa H' eF sh ?_);rw[eR];exact ef | succ m =>have uA:=rc.len;obtain⟨a,t,bt,rc⟩:=rc;rw[bt] at dM uA;obtain⟨KW,c,e2,uM,ec⟩:=Yu dM;subst e2;(have em:(KW++[c]).map V.ref=BR! KW.map++Jc! c:=RH!);rw[em] at cn ⊢;rw[show AT! (!(BR! KW.map++[Q? c]).isEmpty) by cases KW<;>rfl];refine Ck (Ae! (λEV H' h=>⟨m,IS m,h⟩));refine⟨_,rfl,Ey! cn,aa,_,_,rfl,rfl,cn,Jdb _ _,?_⟩;rw[VK! ((BR! KW.map++[Q? c]).dropLast=KW.map V.ref)];(have s3:BQ! Gb!:=a7! jk sh);(have VF:BD H' Gb!:=re cn);(have YY:lc! Gb! found:=i! gk ef);have kD:pH! Gb!:=Ab;have az:BC Gb! KW a:=JY! VF uM;have hJ:=E! VF.BB ec;generalize upd H' aa (aX! KW.map)=H3 at s3 VF YY kD az hJ;refine PP! _ rfl fa _ rfl (Hh YY hJ) _ ?_;rcases rc with⟨hf,rc⟩|⟨hf,rc⟩;(.rw[AF hf];exact Cc ⟨a,found,KW,_,rfl,s3,YY,kD,az,rc,B!,BE! qo!⟩);.rw[AB hf];refine Ck (Td! fa (Vh! t YY hJ (Cn! Qq)));rw[Fv,show Ct found t=JG! by unfold Ct;rw[AB hf]];(have s4:BQ! Lj!:=a7! eF s3);(have LF:BD H3 Lj!:=re YY);have hG:im! H3 fa Bm Pn! fa Pn!:=Ab;(have hU:pH! Lj!:=i! gk.symm kD);have ay:BC Lj! KW a:=JY! LF az;have pC:=E! LF.BB hJ;rw[D4! (HO.dT ((JG!).map B9!)=Bm (JG!))];generalize wP H3 fa Bm Pn!=H4 at s4 LF hG hU ay pC;have uK:Ps!:=hk t (q! bt iG!);obtain⟨ad,o3⟩:=Qb uK;have mq:=AW o3;obtain⟨q1,q2,q3⟩:=hq _ mq;have q1:GA! ad Mc!:=q1;have q2:(De hl t).length<=400:=q2;have q3:ad≠l:=q3;refine⟨_,rfl,Ey! hU,_,rfl,_,rfl,l,_,rfl,Wy (X! s4 el) pC o3,ad,_,rfl,Ee! q1,λob pl VL=>?_⟩;(have JQx:aa≠ad:=λz=>by rw[z,q1] at jk;cases jk);(have JQv:fa≠ad:=λz=>by rw[z,q1] at eF;cases eF);refine On (b:=JZ! gi!) (caps:=K9!) (l:=De hl t) (key:=λq=>q) (val:=Mn!) (ob:=ob) VL F! Ab (λH2 a' u Q' uP ha hu' q=>?_) λH5 hZ sm5 ep5 f_=>?_;(.obtain⟨o,g,eo⟩:=rb! (uP l (Fq hl) (QI! q3.symm (Ee! el)));refine rP!;rw[eo];exact SN!);.have f5:hL! H5 ad Bm Mc!:=E! sm5 Ab;refine le! (wP H5 ad Bm Mc!) ad f5 g0!;(.have z:jr! ad:=z;rw[q1] at z;cases z);(have uh:pl≠ad:=λz=>by rw[z,Ab] at VL;cases VL);(have s6:Bu H4 (CH! H5 ad Bm Mc!):=rq! (b=ad) (Ee! q1) (E! sm5 (Sg!)));(have sY:ES! (CH! H5 ad Bm Mc!) pl hZ.map:=i! uh ep5);(have ZW:BC (CH! H5 ad Bm Mc!) hZ (RF hl t):=by (have f_:BC H5 hZ (RF hl t):=by rw[JT] at f_;exact f_);refine An (XP!) f_;rw[hY! f5];exact e);generalize wP H5 ad Bm Mc!=H6 at s6 sY ZW;have zz:=rc.len;rw[ZE] at zz;have l1:=y! ay;have l2:=y! ZW;refine⟨aa,pl,_,_,rfl,rfl,kW!,sY,b3! Qq,?_⟩;rw[<-ZF];(have XT:BD H6 (Ly! H6 aa (KW++hZ).map):=re kW!);refine⟨a++RF hl t,JG!,KW++hZ,_,rfl,Dl!,?_,Ab,R2! XT Py (UP! s6 ay) ZW,rc,?_,J0!⟩;(.rw[Pr! jk];exact Jm! s6 s4);(.rw[Ad gk];exact E! s6 hG);(.rw[ZE];show found.length+1+m<=5000;lia);.rcases ZI hu with hu|hu;(.exact qo!);.have:=QM! hu;simpa using this
universe E
universe S
inductive Jfy(vs:C!)(H:Hp)(Q:VK)(E:XK):Prop
 | mk (p ta:Addr) (G:BZ) (as:M!) (ts:D!) (_:ii! ta) (_:R?) (_:OT!) (_:vY! ta) (_:A9!) (_:Eu! ol)
theorem iE:A? [Bu!,"things",MC!] HF! Q6:={}
theorem Jju(F:h! "lose" "House.lose" Q6)(T:Txt):Bt! HF! Jfy:=by
 refine Y? iE;obtain⟨p,ta,G,as,ts,rfl,S,ke,et,th,k⟩:=h;refine W!;have hu:=I?;have lt:=KV!;refine Ae! (Af (n0! (H3! 1) (H2! iE.nd) (Ym! (Lp hu R! W?) (Ac (Bf me!) (Df! me!)))));refine S5! ta et ?_;refine ag! ta ZD! (λi σ H2=>∃u2:Ar!,σ=g1! (i? ta)/\A0! H2 (Al G (ts.take i))/\FR! H2) (HP! (ga IK Tf S) (λb o e _ _=>e)) (λi σ H2 _ h=>eZ! (DY.of (fr _ _ et (S.YM et).1 (S.YM et).2)));.rintro i x σ H2 hx ⟨u2,rfl,S2,LZ⟩;rw[ZH] at hx;cases ea:Qb! with | none=>rw[ea] at hx;cases hx | some a =>rw[ea] at hx;have hx:gk!:=ZO hx;subst hx;obtain⟨t,ht⟩:=qM!;have ha:=rf! ht;have dQ:=rX! LZ;obtain⟨IZ,GV⟩:=S2.ob;obtain⟨o,g,eo⟩:=Of (k:=An!) (f:=Dc!) (AD! S2.dO) dQ;have f1:=F5 (An!) G.AG ht;have f2:=F5 (DX!) G.holds ht;refine vh! C IZ GV T.cl T.nO (D4 _) G.o o g;rw[eo];(have ks:MY! (Al G (ts.take i)).holds.map g2!:=by show pW! jl! jl!;rw[Ea (DX!) G.holds (lf!),p8! lf!,ke]);by_cases h:AB! g2!;(.rw[Rs!];obtain⟨v1,vP⟩:=sS! Rb! Dc! h;obtain⟨v2,vO⟩:=sS! RT! d0! (q! ks h);refine Ck (qp! IZ GV T.nO (D4 _) G.o S2.dO S2.dO dQ vP);rw[Gz (k:=An!) (f:=Dc!)];have S3:=op! S2.J_;(have RH:FR! sU!:=Cc! (eP! (NN! h2) LZ));have ow:=rX! RH;rw[D4! (HO.dT ((L9! (At Lz!)).map Ej!)=op! Dt)];have S3:A0! sU! oe!:=S3;generalize upd H2 G.o (Dt (L9! wJ!))=H3 at S3 RH ow;obtain⟨QC,QR⟩:=S3.ob;refine qp! QC QR T.nL (E5 _) G.l S3.dl S3.dl ow vO;have e3:Ej ((oe!:BZ).holds.map Hc!) QN!=(J7! (At Lz!)).map Hc! :=Gz (k:=DX!) (f:=d0!) _ t;rw[e3];have S4:=S3.aP (hl:=G0! J7! Lz!) EU;(have eG:oJ! { e8! with AG:=ex! L9!,holds:=ex! J7! }:=by unfold Al;rw[f1,f2]);refine jv! S4 (Cc! ?_);rw[Ad (X? h2 (by rw[z];show gY!;simp[BQ]))];exact dz! RH e);.rw[YB!];have uj:g3! Rb!:=PB! (ZX! WC!);have ui:g3! RT!:=PB! (jD! ks (i1! hq z));(have eG:oJ! e8!:=by (have a1:fw! L9! Rb!:=qD! uj);(have a2:fw! J7! RT!:=qD! ui);unfold Al at a1 a2 ⊢;rw[f1,f2,a1,a2]);exact Cc (jv! S2 LZ)
 .rintro σ H2 ⟨u2,rfl,S2,LZ⟩;rw[ZA,lt,BL] at S2;exact k H2 S2 LZ
universe E
universe S
def Cd(G:BZ)(rs:V!):V!:=G0! (rs.filter K1!).filter Kp!
inductive yF(vs:C!)(H:Hp)(Q:VK)(E:XK):Prop
 | mk (p:Addr) (G:BZ) (n:Nat) (rs:V!) (_:GK!) (_:R?) (_:FB) (_:n<=62) (_:ak!) (_:bf!) (_:Es!) (_:IY!) (_:∀(x:Addr)(as:M!)(H':Hp),pA! (h? x) (Ti! x) (I_ H' as (Cd G rs)) (HN G) DW!)
theorem cy:V6! [Bu!,"held","holder",MC!,"unheld",Bg!] Us:={}
def Jnw:TE:=Yv (ce! Kq! (ct! Bk!))
def Jnt:TT:=J6 (RP (gZ (cY! (j<i))) (ct! Bk!) uZ!)
theorem Jc7(F:h! "give_back" "House.give_back" Us)(T:Txt)(Tx:tM):Sn! yF:=by
 refine Y? cy;obtain⟨p,G,n,rs,rfl,S,ok,zn,gp,gn,pm,pw,k⟩:=h;refine W!;have hu:=I?;obtain⟨dx,hp⟩:=S.ob;refine L1! (dQ! 1 cy.nd (by first|exact Or.inl rfl|exact Or.inr rfl) (C5 (Jcg (Hr hr)) DQ! Tx.dict PyProof.Rows.boot_dict (ca W?))) (Ac (N7! P3 W? (H2! cy.nd) (Df! (Lj DE PySem.F.slot_dict_update PySem.F.type_dict_update (Jj5 hu) d! (ca (eA! R!))))) (QE.YB (Ac (Fx (te:=Ca 0) (i:=4) (caps:=[("held",1)]) cy.nd rfl rfl rfl rfl (Dz (cT! W?)) rfl ZV rfl ZV rfl JJ! No! JL! ZV (vW! (Em hu a? d!)) Vr!) (Y4! (Fx (te:=Jnw) (tt:=Jnt) (i:=5) (caps:=Ky!) cy.nd rfl rfl rfl rfl (H3! 4) rfl ZV rfl ZV rfl JJ! No! JL! ZV (fL! Ro b2! Ah (A4 _)) (VO! (Ce (Ck! a? b2!)))) (eD! (H3! 4) (Yk! cy.nd) (Df! (wp! P?))) 5))));have z1:=ok.hz;have z2:=ok.RT;have z3:=ok.rz;refine⟨_,rfl,p,C,dx,_,_,rfl,hp,T.cl,T.nH,Gf G,G.h,_,rfl,S.dh,Sq ok.hn gp,λhd mP=>?_⟩;have e0:F7 [] (G.hand.map B9!)=G.hand.map B9!:=by have:=Kj G.hand [];rw[E! Tq (by simpa using ok.hn)] at this;simpa using this
 rw[e0];have s1:=Ag (o:=Bm G.hand) mP;have e1:bv (AP! hd Bm G.hand) hd Bm G.hand:=Ab;rw[D4! (HO.dT (G.hand.map B9!)=Bm G.hand)];generalize wP H hd Bm G.hand=H1 at s1 e1;have S1:=IF!;obtain⟨FC,HM⟩:=S1.ob;have mD:NO!:=H! ok.ke ok.on
 have gh:∀{b:Addr} {o:HO},Gr!->b≠hd:=λe=>Am e mP;have uh:p≠G.l:=λz=>S.RS (b:=G.l) (EB!) z.symm;refine sH! C FC HM T.cl T.nL (E5 G) G.l S1.dl (λob=>?_);refine Jhz (d:=G.l) (ob:=ob) (λi σ H2=>∃u2:Ar!,σ=[AV!,hh!,u2,none,none,none]/\bv H2 hd Bm (Dr G.hand (G.holds.take i))/\SU! (upd H1 G.l (.FQ ob (Fq G.holds))) (b≠hd) H2) (HP! (DM! (Ad (Bx! gh S.dl)) e1) (λb o e _=>e)) (λi σ H2 _ h=>eZ! (an! Ab S.dl)) ?_ ?_;.rintro i a kk v σ H2 hx ha ⟨u2,rfl,eh,fr⟩;rw[ZH] at hx;cases eq:G.holds[i]? with | none=>rw[eq] at hx;cases hx | some q =>rw[eq] at hx;have hx:(VM!,s1!)=(kk,v):=ZO hx;have mq:=ZP eq;have e2:kk=VM!:=(Prod.mk.inj hx).1.symm;rw[e2,xo] at ha;have hpp:qc! H2 C FC C0 G:=an! (QI! uh HM) hp;have jw:hL! H2 G.l Fq G.holds:=an! Ab S.dl;(have hqq:bv H2 E? Bm FS:=by have h0:=S.hl q mq;refine an! ?_ h0;rw[Ad (S.cW.2.2.2 q mq).2.2.1];exact S1.hl q mq);(have gv:B4 (G.holds.map Hc!) (tk q.1)=A! (V.ref E?):=DM! cF! (FX.HF (k:=DX!) mD mq));have l0:=ok.ln q mq;(have l1:(Dr G.hand (G.holds.take i)).length<=62+62*62:=by have h1:=Pc (B:=62) (qs:=G.holds.take i) (hand:=G.hand) (ii (D6! (ok.ln r (List.mem_of_mem_take hr)).2));(have h2:SE! G.holds.take<=G.holds.length:=Xe!);have h3:SE! G.holds.take*62<=62*62:=GO _ F!;lia);refine⟨_,rfl,Hl! (x? (I! (D? eh))),_,rfl,p,C,FC,_,_,rfl,hpp,T.cl,T.nL,E5 G,_,rfl,G.l,_,rfl,I! ⟨_,VM!,a,iC! jw,rfl,ha,gv.symm⟩,hd,E?,_,_,rfl,rfl,eh,J! hqq,(gh (S.hl q mq)).symm,?_,λ_=>Sq l0.1 (gn q mq),?_⟩;(.rw[ZA,ZA];exact DH (Qq F!));.rw[Kj,<-Yc G.hand eq];exact HP! Ab (E1! (he! (Br! fr hb)))
 .rintro σ H2 ⟨u2,rfl,eh,fr⟩;rw[ZA,BL] at eh;have jw:hL! H2 G.l Fq G.holds:=an! Ab S.dl;refine le! (wP H2 G.l Fq G.holds) G.l jw g0!;(.have z:jr! G.l:=z;rw[S.dl] at z;cases z);(have s3:BQ! (HR! G.l Fq G.holds):=rq! (b=G.l) S.dl (o! fr (QI! hb (Am! s1)) (gh e)));(have e3:im! H2 G.l Fq G.holds hd (Dr G.hand G.holds):=i! (Bx! gh S.dl) eh);generalize wP H2 G.l Fq G.holds=H3 at s3 e3;have S3:=FF! s3;obtain⟨QC,QR⟩:=S3.ob;refine⟨_,rfl,p,C,QC,_,_,rfl,QR,T.cl,T.nR,Dw G,G.r,_,C? rs.map,rfl,Jhr S3.dr,Dk! ZA,?_,pw,λsl mz cY tsl=>l1! sl Ab (λul hul=>?_)⟩;(·(have e4:Gn! (G.AJ.map k7!).map=C? G.AJ.map:=F0!);rw[e4];exact pm.map _);have s4:=LA! mz.map cY;have gR:ES! (Ly! H3 sl mz.map) sl mz.map:=Ab;have t4:BC (Ly! H3 sl mz.map) mz (rs.map CD!):=B8! s4 tsl;generalize OK! H3 sl mz.map=H4 at s4 gR t4 hul;(have lrs:rs.length<=62:=by have:=pm.length_eq;lia);refine K7 (b:=λt=>! Bn G t) (caps:=[("held",1)]) hul (Dk! ZA) gR t4 (λH5 a t Q' sm ha ht q=>?_) λH5 bs sm eu tu=>?_;(.refine Td! hd (Hh (X! sm (X! s4 e3)) ha);(have e5:(!(if qg! then some (V.bl true) else none).isSome)=! Bn G t:=by rw[<-Je4];by_cases c:qg!;(.rw[IN,IA!];rfl);.rw[NE,GG!];rfl);rw[e5];exact SN!);have eU:(rs.map (·.1)).filter (λt=>! Bn G t)=C? (rs.filter K1!).map:=(Ea (An!) rs λt=>! Bn G t).symm;rw[eU] at tu;have s5:BQ! H5:=LY! s3 s4 sm;have kU:∀q∈rs.filter (K1!),q∈rs:=No ee!;(have usz:(rs.filter K1!).length<=62:=D6! (AO (K1!) rs));have hbk:Cd G rs=(rs.filter K1!).filter (At Kp!):=rfl;(have und:o? (rs.filter K1!).map:=by have h1:YU!:=fq! pm.map ok.rn;exact iM! h1.sublist);generalize sG:(rs.filter K1!)=us at tu kU usz hbk und;have S5:=FF! s5;have ux:=y! tu;rw[ZA] at ux;have val:∀q∈us,G.AJ.find? (λr=>Av! r.1 q.1)=A! q:=No (FX.HF (k:=An!) ok.rn (pm.subset (kU q hq)));refine S5! ul eu (λbl gP=>?_);refine Fa (K:=K) (a:=ul) (p:=bl) (xs:=BR! bs.map) (tt:=Jnt) (te:=Jnw) (caps:=Ky!) (λi ys H6=>∃cs:M!,ys=BR! cs.map/\PM! H6 bl/\Bu H5 H6/\I_ H6 cs ((us.take i).filter (At Kp!))) ⟨[],rfl,Ab,Ag gP,L!⟩ (λi ys H6 _ h=>let⟨_,_,e,sm,_⟩:=h;Mo! sm eu e) ?_ ?_;(.rintro i x ys H6 N hx ⟨cs,ey,e6,s6,ba⟩ hN;rw[ZH] at hx;cases eb:bs[i]? with | none=>rw[eb] at hx;cases hx | some b =>rw[eb] at hx;have hx:d8!=x:=ZO hx;subst hx;obtain⟨q,hq⟩:=wk! us eb;have hb:=Ax tu i b q.1 eb (CS! hq);have hb6:=E! s6 hb;have S6:=S5.same s6;obtain⟨YZ,bZ⟩:=S6.ob;have gv:DS H6 G.r FN! (WV! q.2):=M9 S6.dr hb6 (val q (ZP hq));have ft:=Ye (b:=PA! (w! Kp!)) hq;refine⟨_,rfl,p,C,YZ,_,_,rfl,bZ,T.cl,T.nR,Dw G,_,rfl,G.r,_,rfl,gv,_,_,rfl,rfl,_,rfl,?_⟩;by_cases c:Kp!;(.rw[IA!] at ft ⊢;refine Ck ⟨_,rfl,_,rfl,p,C,YZ,_,_,rfl,bZ,T.cl,T.nR,Dw G,_,rfl,G.r,_,rfl,gv,Bc!,λx1 vK=>?_⟩;have s7:=vP! PJ! vK;have x7:DI! H6 x1 [d8!,PJ!] x1 [d8!,PJ!]:=Ab;have e7:=E! s7 e6;generalize Cw! H6 x1 [d8!,PJ!]=H7 at s7 x7 e7;(have XY:e2! H7 H7 bl (Jc! x1):=re e7);(have lcs:cs.length<=us.length:=H! (y! ba) (Od _ us i));refine HV! e7 (ga ey ZA (Cn! Qq)) (Bw! (cs++[x1]) (RU! ey) Ab (λd o e=>?_));(.rw[Pr! gP];exact Jm! s7 s6);.rw[ft,e?];exact Jn (I_.keep XY (I_.keep (EI s7) ba)) ⟨b,E! XY.BB x7,Bn! XY.BB s7 hb6⟩);.rw[GG!] at ft ⊢;refine nK! (Bw! cs ey e6 s6);rw[ft,Fe!,AE];exact ba);.rintro ys H6 ⟨cs,ey,e6,s6,ba⟩;rw[ZA,ux,BL,<-hbk] at ba;rw[ey] at e6;have S6:=S5.same s6;have sT:=E! s6 eu;have tu6:BC H6 bs (us.map CD!):=B8! s6 tu;(have zA:bl≠G.r:=λz=>by rw[z,S5.dr] at gP;cases gP);(have zp:h? bl:=by cases c:H bl with | none=>rfl | some o=>rw[E! s5 c] at gP;cases gP);refine S5! ul sT ?_;have JFj:∀j,(q3! ((us.map (·.1)).take j):BZ).AJ=G.AJ.filter (At (q.1∉(us.map (·.1)).take j)):=Cg!;refine ag! ul (BR! bs.map) (λi σ H7=>∃u3:Ar!,σ=[AV!,hh!,u2,u3,i? ul,i? bl]/\A0! H7 (q3! ir!)/\SU! H6 (b≠G.r) H7) (HP! ?_ (λb o e _=>e)) (λi σ H7 _ h=>eZ! (DY.of (o! fr sT (λz=>by rw[z,S6.dr] at sT;cases sT))));(·(have e8:(G.AJ.filter (At (q.1∉vC! 0)))=G.AJ:=FG.mpr λq _=>x!);rw[e8];exact S6);(.rintro i x σ H7 hx ⟨u3,rfl,S7,VM⟩;rw[ZH] at hx;cases eb:bs[i]? with | none=>rw[eb] at hx;cases hx | some b =>rw[eb] at hx;have hx:d8!=x:=ZO hx;subst hx;obtain⟨q,hq⟩:=wk! us eb;(have vY:(us.map (·.1))[i]?=A! q.1:=CS! hq);have hb:=Ax tu6 i b q.1 eb vY;(have hb7:=o! VM hb (λz=>by rw[z,S6.dr] at hb;cases hb));obtain⟨kF,gI⟩:=S7.ob;(have qin:q.1∈C? (G.AJ.filter (MO! (r.1∉ir!))).map:=by refine Pv! q (oD! (pm.subset (kU q (ZP hq))));have:q.1∉ir!:=λz=>O8 und vY z;simpa using this);obtain⟨v,hv⟩:=Hu (l:=G.AJ.filter λ(r:T2×Int)=>w! (r.1∉(us.map λ(z:T2×Int)=>z.1).take i)) (k:=λ(q:T2×Int)=>q.1) (f:=λ(q:T2×Int)=>PJ!) (t:=q.1) qin;refine⟨_,rfl,p,C,kF,_,_,rfl,gI,T.cl,T.nR,Dw _,G.r,rfl,QT! S7.dr,_,rfl,_,VM!,_,b,S7.dr,rfl,hb7,hv,?_⟩;(have e9:Ej (((q3! ir!:BZ).AJ).map Ej!) (tk q.1)=(G.AJ.filter (MO! (r.1∉JH! vC!))).map Ej!:=H! (F5 (An!) G.AJ vY) (Gz (k:=An!) (f:=Dc!) _ _));rw[e9];have S8:=S7.YQ (G.AJ.filter (MO! (r.1∉JH! vC!)));exact HP! S8 (E1! (he! (o! VM e hb))));.rintro σ H7 ⟨u3,rfl,S7,VM⟩;rw[ZA,ux,<-ZA (f:=An!),BL] at S7;have XT:BD H6 H7:=⟨λb xs e=>o! VM e (G3! S6.dr),λb o v e=>o! VM e (G3! S6.dr)⟩;refine KF (k bl cs H7 zp (VM _ _ e6 zA) (I_.keep XT ba) ?_ (Cc! (o! VM (X! s6 (X! s5 e)) (NN! h2))));(have eK:HN G=q3! hU!:=by unfold HN;(have:(G.AJ.filter λq=>Bn G q.1)=G.AJ.filter (At (q.1∉hU!)):=GN (No (by by_cases c:Bn G q.1=true;(·(have nm:q.1∉hU!:=λz=>by obtain⟨r,hr,er⟩:=ZN z;rw[<-sG] at hr;have:=QM! hr;rw[er,c] at this;cases this);rw[c,EM! nm]);·(have c:r? (Bn G q.1):=L3!);(have im:q.1∈hU!:=gA! sG q (Ek! (pm.symm.subset hq) (be c)));rw[c];simp only[im,not_true_eq_false,decide_false])));rw[this]);rw[eK];exact S7
universe E
universe S
inductive Wp(vs:C!)(H:Hp)(Q:VK)(E:XK):Prop
 | mk (p:Addr) (G:BZ) (n m:Nat) (rs:V!) (R:D!) (_:GK!) (_:R?) (_:FB) (_:n<=62) (_:ak!) (_:bf!) (_:Es!) (_:IY!) (_:ww! m) (_:m<=5000) (_:Ok AQ! n) (_:∀(x:Addr)(as:M!)(H':Hp),pA! (nl!) (Ti! x) (I_ H' as (Cd AQ! rs)) (JE (HN AQ!)) DW!)
theorem kg:V6! [Bu!,"lent","kept"] Q9:={}
def Jpr:TT:=J6 (RP (gZ (cY! (j<i))) (ct! BF!) uZ!)
theorem Jhd(F:h! FJ! tJ! Q9)(T:Txt)(Tx:tM)(MR:WF MF! F3 GV! fR dR)(ML:rU! fL dL)(MG:rD! fG dG) : GZ! UV Wp:=by
 have GR:DQ 1 fR dR GV! Ii:=Lq MR.fn;have GL:Co! fL dL HF! Jfy:=Jju ML.fn T;have GG:SJ! fG dG yF:=Jc7 MG.fn T Tx;refine Y? kg;obtain⟨p,G,n,m,rs,R,rfl,S,ok,zn,gp,gn,pm,pw,rc,zm,dw,k⟩:=h;refine W!;have hu:=I?;obtain⟨dx,hp⟩:=S.ob;refine L1! (Fx (te:=Ca 0) (tt:=Jpr) (i:=1) (caps:=Ky!) kg.nd rfl rfl rfl rfl (P3 W?) rfl ZV rfl ZV rfl JJ! No! JL! ZV (fL! Ro b2! Ah (A4 _)) Vr!) (QE.YB (Ac (dQ! 2 kg.nd (by first|exact Or.inl rfl|exact Or.inr rfl) (PQ! GR hr MR.mg MR.fn.kp MR.bd (Ck! (Bh Jmk (kt! (Tl rfl) Tx.list W?) d!) W?))) (Ac (Bf (uF! T.cl ML.mt GL hr ML.bd (PE.YB (sC! (hb! 2) (P3 W?) No! (vW! (Em hu a? d!)))))) (Ac DJ! (wT (C4 a? T.cl MG.mt GG hr MG.bd L! A7))))));have z0:=ok.oz;have z1:=ok.hz;have z2:=ok.RT;have oG:p≠G.o:=λz=>S.RS (b:=G.o) (EB!) z.symm;refine sH! C dx hp T.cl T.nO (D4 G) G.o S.dO (λob ll jw=>?_);refine On (b:=dT! ix!) (caps:=Ky!) (l:=G.AG) (key:=λq=>q.1) (val:=Dc!) (ob:=ob) jw F! Ab (λH2 a t Q' sm ha ht q=>?_) λH2 bs sm el tl=>?_;.have GV:qc! H2 C dx C0 G:=Ef! (QI! oG hp);(have gv:B4 (G.AG.map Ej!) QN!=A! (V.int (Aj G.AG t)):=DM! ph! (Nc ht));exact⟨_,rfl,p,C,dx,_,_,rfl,GV,T.cl,T.nO,D4 G,_,rfl,G.o,_,rfl,I! ⟨_,tk t,a,iC! (Ef! Ab),rfl,ha,gv.symm⟩,_,_,rfl,rfl,_,rfl,q⟩
 have oX:hL! H2 G.o Dt G.AG:=Ef! Ab;refine le! (wP H2 G.o Dt G.AG) G.o oX g0!;.have z:jr! G.o:=z;rw[S.dO] at z;cases z
 have nll:ll≠G.o:=λz=>by rw[z,Ab] at jw;cases jw
 have s3:BQ! (HR! G.o Dt G.AG):=rq! (b=G.o) S.dO (Ef! (Sg!))
 have eQ:ES! (HR! G.o Dt G.AG) ll bs.map:=i! nll el
 have tl3:BC (HR! G.o Dt G.AG) bs (Mz G):=by refine An (XP!) tl;rw[hY! oX];exact e
 generalize wP H2 G.o Dt G.AG=H3 at s3 eQ tl3;have S3:=FF! s3;obtain⟨QC,QR⟩:=S3.ob;refine sH! C QC QR T.cl T.nH (Gf G) G.h (J! S3.dh) (λl1 KL hl1 ky1=>?_);have t1:BC H3 KL G.hand:=Jdc (val:=Mn!) ky1;have s4:=LA! KL.map hl1;have e4:ES! (W5! H3 l1) l1 KL.map:=Ab;have t4:BC (W5! H3 l1) KL G.hand:=B8! s4 t1;have gR:=Ee! eQ;have uJ:BC (W5! H3 l1) bs (Mz G):=B8! s4 tl3;generalize OK! H3 l1 KL.map=H4 at s4 e4 t4 gR uJ;have n1:=y! t4;have n2:=y! uJ;have n3:(Mz G).length<=62:=by have:(Mz G).length<=(G.AG.map (·.1)).length:=Kg!;rw[ZA] at this;lia
 refine ZL! l1 ll _ e4 gR (b3! Qq) (λcl gN=>?_);rw[<-ZF];have s5:=LA! (Me!).map gN;have e5:ES! (Ly! H4 cl (Me!).map) cl (Me!).map:=Ab;have t5:BC (Ly! H4 cl (Me!).map) (Me!) (G.hand++Mz G):=B8! s5 (Py t4 uJ);generalize OK! H4 cl (Me!).map=H5 at s5 e5 t5;have S5:=S3.same (Ai s4 s5);obtain⟨hV,gJ⟩:=S5.ob;refine⟨_,rfl,p,C,hV,_,_,rfl,gJ,T.cl,T.nL,E5 G,cl,G.l,Me!,G.hand++Mz G,G.holds,m,R,rfl,e5,t5,Gh! ZE,S5.dl,B!,No ⟨S5.hl q hq,D6! (ok.ln q hq).2,(S.cW.2.2.2 q hq).2.2.1⟩,rc,zm,λkp H6 hkp s6 ek=>?_⟩;have S6:=S5.same s6;obtain⟨YZ,bZ⟩:=S6.ob;refine⟨_,rfl,p,YZ,_,rfl,bZ,Sc,_,rfl,p,C,YZ,_,_,rfl,bZ,T.cl,T.nO,D4 G,G.o,_,rfl,S6.dO,λuf gl vk=>?_⟩;have nkp:kp≠G.o:=λz=>by rw[z,S5.dO] at hkp;cases hkp
 refine On (b:=SP!) (caps:=hb! 2) (l:=G.AG) (key:=λq=>q.1) (val:=Dc!) (ob:=uf) vk F! Ab (λH7 a t Q' jY ha ht q=>?_) λH7 gs jY eg tg=>?_;.refine Td! kp (Hh (jY kp (Bm R) (QI! nkp ek)) ha);(have e8:(!(if Cp! then some (V.bl true) else none).isSome)=w! (t∉R):=by by_cases c:Cp!;(.rw[IN];simp[c]);.rw[NE];simp[c]);rw[e8];exact SN!
 have ho7:L? H7 G.o (.FQ uf (Dt G.AG)):=E! jY Ab;refine GM (wP H7 G.o Dt G.AG) ⟨G.o,uf,_,ho7,g0!,rfl⟩;.have z:jr! G.o:=z;rw[S.dO] at z;cases z
 have ngl:gl≠G.o:=λz=>by rw[z,Ab] at vk;cases vk
 have s8:Bu H6 (CH! H7 G.o Dt G.AG):=rq! (b=G.o) S6.dO (E! jY (Sg!))
 have eg8:ES! (CH! H7 G.o Dt G.AG) gl gs.map:=i! ngl eg
 have tg8:BC (CH! H7 G.o Dt G.AG) gs (Zs! SP!):=by refine An (XP!) tg;rw[hY! ho7];exact e
 generalize wP H7 G.o Dt G.AG=H8 at s8 eg8 tg8;have S8:=S6.same s8;refine⟨p,gl,G,gs,_,rfl,S8,ok.ke,eg8,tg8,λH9 S9 wA=>?_⟩;rw[Yg ok.ke] at S9;obtain⟨cp,gr⟩:=S9.ob;refine Pw! cp gr cp gr;rw[By];have eY:=S9.fld cp (keepR G R).AY ((keepR G R).AU+1);have bF:aD p G H8 (p5! { Z6! with AU:=(keepR G R).AU+1 }):=Cc! (wj! wA)
 have eY:A0! (p5! { Z6! with AU:=(keepR G R).AU+1 }) (JE AQ!):=eY;generalize upd H9 p (Qp! cp { Z6! with AU:=(keepR G R).AU+1 })=b_ at eY bF;obtain⟨lJ,lC⟩:=eY.ob;have s08:BQ! H8:=LY! s3 s4 (Ai s5 (Ai s6 s8));refine⟨_,rfl,p,lJ,_,rfl,lC,Cw _ ZV,p,JE AQ!,n,rs,rfl,eY,dw.JE,zn,gp,am! gn,pm,pw,λx as kS hx ex ba xJ lG=>?_⟩;have vL:nl!:=Cc! (Am (dz! bF (X! s08 e)) hx);refine k x as kS vL ex ba xJ (Cc! (lG _ _ (bF _ _ (X! s08 e) h1 h2) h1 λz=>h2 (List.Sublist.subset (Sx (G:=s3! (keepR G R).AG) EU) z)))
universe E
universe E K45
universe N FX
open PySem PySem.Spec PyProof.Rows L2
theorem qL{a b c d:Str}{k1 k2:NameKind}{cl:BX!}{y:Str}(hc:aS!)(hd:q2!)(h:Lg! (oa! S6! Tr!) (oa! S6! Tr!)):Ib! :=Om! (by simp only[CB,DD,JA] at hp;rcases hp with rfl|rfl|rfl|rfl;(.rcases hk with hk|hk<;>cases hk);(.rcases hk with hk|hk<;>cases hk);(.exact hc);.exact hd)
inductive KD(H:Hp)(t:Addr)(n:Int)(kind:Str)(s g:Int)(tb:T2)(x:Int):Prop
 | mk a b (_:ZA! (a4! ML! Os)) (_:Kt! [Uf,T! x]) (_:PP)
theorem KD.keep(h:KD H t n kind s g tb x)(k:p?):KD H' t n kind s g tb x:=let⟨a,b,e1,e2,e3⟩:=h;⟨a,b,j2!,TE!,E! k.BB e3⟩
universe E FX
universe N K45
open PySem L2 FX
def Jri(G:BZ)(tb:T2)(wt:Int)(G':BZ):Prop:=(RX!/\∃o,p9!/\G'=gt! JM! (P3! (o-wt)))\/(J2!/\G'={ G with AU:=Bm!,hand:=JM!,AJ:=aM! })
def Wt(kind:Str)(G:BZ)(tb:T2)(wt:Int)(G':BZ):Prop:=(BC! Z?/\Jri G tb wt G')\/(BC! Cd!/\G'=Xp! aM!)\/(BC! Bg!/\G'=gu! pg!)
theorem Wt.BQ(h:bS! wt):BQ G'=BQ G:=by rcases h with⟨_,⟨_,o,_,rfl⟩|⟨_,rfl⟩⟩|⟨_,rfl⟩|⟨_,rfl⟩<;>rfl
universe S
def Sz(G:BZ):Prop:=Xo!/\M4!/\M1!
inductive Ig(vs:C!)(H:Hp)(Q:VK)(E:XK):Prop
 | mk (p t:Addr) (W:EE) (n s g:Int) (kind:Str) (tb:T2) (wt:Int) (q:Addr) (G G':BZ) (_:Fn!) (_:IR) (_:KD H t n kind s g tb wt) (_:NS!) (_:bS! wt) (_:Sz G) (_:∀H',HA! (PD! (uL! g.toNat))->HG!->Pu!)
theorem KO:YL! [Bu!,VA!,"kind",dR!,MC!,dn!] Ka:={}
theorem Jbu(F:h! tb! tc! Ka)(T:Txt)(TW:F9)(M1:Jk! "came" tF! Zi f1 d1)(G1:pE! FB! yE)(M2:Jk! "added" tG! Ra f2 d2)(G2:pF! FB! Wq)(M3:Jk! "given" tH! Q8 f3 d3):UX! AS! Ig:=by
 have G3:Co! f3 d3 FB! Jcz:=Jhc M3.fn T;refine Uo! KO;.obtain⟨p,t,W,n,s,g,kind,tb,wt,q,G,G',rfl,_⟩:=h;rfl
 .obtain⟨p,t,W,n,s,g,kind,tb,wt,q,G,G',rfl,S,⟨a,b,e1,e2,e3⟩,i,cm,⟨z1,z2,z3⟩,k⟩:=h;have HC:ap:=M?;obtain⟨dx,hp⟩:=S.ob;refine TS! KO.nd (GR! 3 KO.nd (aJ! Gv!) (MX! 4 KO.nd R3! (iF! KO.nd R3!) (Af (Bj (t9! R!) (Df! (fN! P? A7 (Ck! j? WP))) (Af (Bj (t9! R!) (Df! (Lx! P? T.cl M2.mt G2 hr M2.bd A7 (Ck! j? WP))) (Df! (Lx! P? T.cl M3.mt G3 HC M3.bd A7 (Ck! j? WP)))))))));refine v7! t Qe! ?_;refine⟨_,rfl,p,CW,dx,_,_,rfl,hp,TW.cl,TW.nH,Ek W,_,rfl,t,_,_,_,rfl,rfl,Qe!,rfl,W.hs,_,_,_,rfl,rfl,Ye!,i.RK,?_⟩;refine st!;refine st!;obtain⟨FC,hq⟩:=Ev!;(have dn:Done q G H G' λH'=>Pu!:=λH' S' fr=>by obtain⟨x1,x2⟩:=S.step i.2 S' fr (N? (Z! (by rw[cm.BQ] at hb;exact hb)));exact k H' x1 x2);rcases cm with⟨rfl,cm⟩|⟨rfl,rfl⟩|⟨rfl,rfl⟩;(.refine L4 ⟨_,rfl,q,FC,_,rfl,hq,Sc,_,rfl,_,rfl,q,b,G,tb,wt,rfl,GP!,e3,z1,z2,z3,?_⟩;rcases cm with⟨h1,o,h2,rfl⟩|⟨h1,rfl⟩;(.exact J! ⟨h1,o,h2,dn⟩);.exact wS h1 dn);(.exact JI (L4 ⟨_,rfl,q,FC,_,rfl,hq,Sc,_,rfl,_,rfl,q,b,G,tb,wt,rfl,GP!,e3,z3,dn⟩));.exact JI (JI ⟨_,rfl,q,FC,_,rfl,hq,Sc,_,rfl,_,rfl,q,b,G,tb,wt,rfl,GP!,e3,z2,dn⟩)
def G7(G:BZ)(tb:T2)(sh:Int)(GY:Bool):BZ:=gt! cE! (iZ G tb sh GY)
def Yo(p:Addr)(W:EE)(H:Hp)(x:Addr):Prop:=xL (Gr!->CR!->b≠x)
inductive Ma(vs:C!)(H:Hp)(Q:VK)(E:XK):Prop
 | mk (p t:Addr) (W:EE) (n s MB goal:Int) (tb:T2) (q:Addr) (G:BZ) (_:Fn!) (_:IR) (_:KD H t n wE s MB tb goal) (_:JF W MB q G) (_:Sz G) (_:FX!) (_:F3!) (_:((goal=MB/\∀(x t1:Addr)(H':Hp),lb! (eo! MB.toNat (j4! tb true) SC J8!) (KD H' t1 Qa! Cd! MB s tb W.share) (Z9! [a! (SC)]))\/(goal≠MB/\∀(x t1 t2:Addr)(H':Hp),ow! (eo! MB.toNat (j4! tb false) Fd! (J8!++[(Fd!,t2)])) t1 Z? MB goal W.share (KD H' t2 (Fd!) Cd! MB s tb W.share) (vO! Qz! fI! (Z9! [a! (SC),a! (Fd!)])))))
theorem PX:YL! [Bu!,VA!,"home",MC!,"goal","went"] Qx:={}
theorem Jgz(F:h! td! te! Qx)(T:Txt)(TW:F9)(TP:Nm)(M1:CJ K C "passed" tI! Mh OU! f1 d1)(M3:Ug!) : GZ! AS! Ma:=by
 have G1:Co! f1 d1 OU! Y3:=Jeq M1.fn T;have G3:cU!:=cI!;refine Uo! PX;.obtain⟨p,t,W,n,s,MB,goal,tb,q,G,rfl,_⟩:=h;rfl
 .obtain⟨p,t,W,n,s,MB,goal,tb,q,G,rfl,S,⟨a,b,e1,e2,e3⟩,i,⟨z1,z2,z3⟩,ho,zl,k⟩:=h;obtain⟨dx,hp⟩:=S.ob;refine TS! PX.nd (kG! PX.nd R3! (CJ! 4 PX.nd R3!) (FM! (Bf (fN! (aJ! R!) A7 (Ji! P? W? (bC! j? R!)))) (iF! PX.nd LW!) (Bj (Yd! j? R!) (rW! WP (Aa (n8! W? (kJ! j? (Zq! W?))) Ae)) A5) (Bf (Lj CG GX GW Gg WP (Aa (n8! W? (kJ! Gv! (Zq! W?))) Ae))) (V0! 5)));refine v7! t Qe! ?_;refine st!;refine st!;obtain⟨FC,hq⟩:=Ev!;refine⟨_,rfl,p,CW,dx,_,_,rfl,hp,TW.cl,TW.nH,Ek W,_,rfl,W.hs,_,_,_,rfl,rfl,Ye!,i.RK,q,FC,_,rfl,hq,Sc,_,rfl,_,rfl,p,CW,dx,_,_,rfl,hp,TW.cl,TW.nS,Jz W,_,rfl,_,rfl,rfl,q,b,G,tb,W.share,aI! MB,rfl,GP!,e3,z2,z1,ho,Vz!⟩;obtain⟨W1,HP⟩:=mn!;have NS:=OA!;refine⟨wn,EZ!⟩;have s2:=FI! hx;have ex:V7! (PK! H1 x []) []:=Ab;have W2:=mt!;have ix:=A5! NS.trans s2;(have jT:Qz!:=λz=>by rw[z] at hx;rw[W1.hs] at hx;cases hx);(have xnw:fI!:=λb o e hb z=>by rw[<-z,Br! HP hb] at hx;cases hx);have mj:=E! ix.BB e1;have YY:=E! ix.BB e3;obtain⟨IZ,GV⟩:=W2.ob;obtain⟨QC,gH⟩:=W2.po.ob;have lY:x∉Cb p (PD! (t5! MB.toNat (j4! tb (decide (O? goal=O? MB))))):=W2.YL ex jT;refine pZ! rfl _ rfl ?_;rcases k with⟨rfl,k⟩|⟨ne,k⟩;(.rw[VK! (AE! (! aI! goal))];refine B3!;refine⟨_,rfl,Ey! ex,_,rfl,p,CW,IZ,_,_,rfl,GV,TW.cl,TW.nP,E6 _,W.po,QC,_,rfl,gH,Mb!,_,rfl,_,rfl,t,_,_,_,rfl,rfl,d? mj,rfl,_,rfl,_,rfl,p,CW,IZ,_,_,rfl,GV,TW.cl,TW.nS,Jz _,Bc!,λa2 dQ=>?_⟩;have s3:=nc! dQ;have W3:=kk!;refine Ua! W3.po (GO! zl) (λt1 H4 ht et S4 cj=>?_);obtain⟨W4,VI⟩:=W3.JO S4 cj;have LF:=nL!;have g8:V7! H4 []:=o! VI (MU! ex) lY;refine cr! x g8 (dJ! (0<=1000));(have kq:JR! H4 H4 x Lb!:=re g8);refine KF (k x t1 _ ?_ ⟨a2,b,Rp! et,fH! Ab,lK! YY⟩ (Rd!) jT xnw Ab);(·(have:=W4.keep (H':=lA! H4 Lb!) λb' o' IX e'=>Pp! (KY! lY IX) e');rw[aW! (aI! goal=true)] at this;exact this);·(have oq:b'≠x:=λz=>by rw[z] at e' IX;rw[HP x o' e' IX] at hx;cases hx);rw[Ad oq];exact Ux! cj (MU! aY!));.rw[show AT! (! aI! MB) by simp[ne]];refine Ba!;refine⟨_,rfl,Ey! ex,_,rfl,p,CW,IZ,_,_,rfl,GV,TW.cl,TW.nP,E6 _,W.po,QC,_,rfl,gH,Mb!,_,rfl,_,rfl,_,rfl,_,rfl,p,CW,IZ,_,_,rfl,GV,TW.cl,TW.nS,Jz _,Bc!,λa2 dQ=>?_⟩;have s3:=nc! dQ;have W3:=kk!;refine Ua! W3.po (GO! zl) (λt1 H4 ht et S4 cj=>?_);obtain⟨W4,VI⟩:=W3.JO S4 cj;have LF:=nL!;have g8:V7! H4 []:=o! VI (MU! ex) lY;refine cr! x g8 (dJ! (0<=1000));(have kq:JR! H4 H4 x Lb!:=re g8);have l1:KD (PK! H4 x Lb!) t1 Qa! Z? MB goal tb W.share:=⟨a2,b,Rp! et,fH! Ab,lK! YY⟩;(have W5:=W4.keep (H':=lA! H4 Lb!) λb' o' IX e'=>Pp! (KY! lY IX) e');have wG:V7! (PK! H4 x Lb!) Xa!:=Ab;have qV:=lK! mj;have qU:=lK! YY;(have wf5:∀b' o',HM! b' o'->b'∉L0!->L? (PK! H4 x Lb!) b' o':=λb' o' e' IX=>by (have oq:b'≠x:=λz=>by rw[z] at e' IX;rw[HP x o' e' IX] at hx;cases hx);rw[Ad oq];exact Ux! cj (MU! aY!));generalize lA! H4 Lb!=H5 at l1 W5 wG qV qU wf5;obtain⟨hV,gJ⟩:=W5.ob;obtain⟨YZ,sI⟩:=W5.po.ob;refine⟨_,rfl,Ey! wG,_,rfl,p,CW,hV,_,_,rfl,gJ,TW.cl,TW.nP,E6 _,W.po,YZ,_,rfl,sI,Mb!,_,rfl,_,rfl,t,_,_,_,rfl,rfl,d? qV,rfl,_,rfl,_,rfl,p,CW,hV,_,_,rfl,gJ,TW.cl,TW.nS,Jz _,Bc!,λa6 ha6=>?_⟩;have s6:=nc! ha6;have W6:=W5.same s6;refine eY! SC J8! W6.po (g4! (_+1<=700)) (λt2 H7 ht7 wK S7 VM=>?_);obtain⟨W7,lZ⟩:=W6.JO S7 VM;have XT:=FD! W6 lZ;have ex7:V7! H7 Xa!:=o! lZ (X! s6 wG) lY;refine cr! x ex7 (dJ! (1<=1000));(have kr:JR! H7 H7 x (Xa!++[Bo! Fd!]):=re ex7);refine KF (k x t1 t2 _ ?_ (l1.keep (((EI s6).trans XT).trans kr)) ⟨a6,b,E! kr.BB wK,Bn! kr.BB XT.BB Ab,Bn! kr.BB XT.BB (X! s6 qU)⟩ (Rd!) jT xnw Ab);(·(have:=W7.keep (H':=lA! H7 (Xa!++[Bo! Fd!])) λb' o' IX e'=>Pp! (KY! lY IX) e');rw[show r? (aI! MB) by simp[ne]] at this;exact this);·(have oq:b'≠x:=λz=>by rw[z] at e' IX;rw[HP x o' e' IX] at hx;cases hx);rw[Ad oq];exact Ux! VM (X! s6 (ei! wf5))
universe E
universe S
inductive Ln(vs:C!)(H:Hp)(Q:VK)(E:XK):Prop
 | mk (p:Addr) (W:EE) (_:GK!) (_:IR) (_:∀(l:Addr)(H':Hp),Jh!->if! W.ls.map Dh!->KM->Gs! l)
theorem Jbl:Z8! Ik:={}
theorem Zw(F:h! Pg! "World.letters" Ik)(TW:F9)(TP:Nm)(M1:CJ K CP Pg! tU! Iu UV f1 d1):GZ! UV Ln:=by have G1:SJ! f1 d1 Qo:=Z0 M1.fn TP;refine Y? Jbl;obtain⟨p,W,rfl,S,k⟩:=h;refine W!;obtain⟨dx,hp⟩:=S.ob;obtain⟨FC,hq⟩:=S.po.ob;refine Ig! (QC! W? TP.cl M1.mt G1 hr M1.bd);exact⟨_,rfl,p,CW,dx,_,_,rfl,hp,TW.cl,TW.nP,E6 W,W.po,FC,_,rfl,hq,Mb!,W.po,W.pd,W.c,W.ls,rfl,S.po,k⟩
structure xZ(G:BZ)(i:Nat):Prop where
 eq:∃h o l r,G=ud! r
inductive Jcu(vs:C!)(H:Hp)(Q:VK)(E:XK):Prop
 | mk (p dx:Addr) (m sh:Int) (_:vs=[y?,T! m,T! sh]) (_:uz! H []) (_:0<=m) (_:m<=12) (_:∀(W:EE)(H':Hp),s5! H'->W.share=sh->W.c=0->W.ls=[]->W.LG=[]->W.FK=[]->W.EF=[]->W.qs.length=m.toNat->(∀i q G,SB!->xZ G i)->(LP! H')->Pu!)
theorem Ji2:A? UM! UM! Wu:={}
theorem Jg1(F:h0! "World.__init__" Wu)(T:Txt)(TW:F9)(TP:Nm)(MmH:Mk K C fI)(FI:NJ! tA! Zd fI dI)(bI:MQ! dI NE!)(MmP:Mk K CP fP)(FP:NJ! tB! Q5 fP dP)(bP:MQ! dP UV):UX! UM! Jcu:=by
 have GI:Co! fI dI NE! OW:=YT FI T;have GP:SJ! fP dP Jcx:=Jg8 FP TP;refine Y? Ji2;obtain⟨p,dx,m,sh,rfl,hp,m0,m1,k⟩:=h;refine W!;refine KT! (MB! R!) (FM! (MB! (ah! (tV C (OW) [] E0 qm!) [] (El rfl T.range (ca d!)) trivial (Jq3 h) trivial (Xa MmH GI hr DQ! T.jo bI L! A7 WS!))) (MB! (Jgs MmP GP hr DQ! TP.jo bP L! A7)) Nr! Nr! (Af Nr!));refine⟨_,rfl,_,rfl,p,CW,dx,[],rfl,hp,TW.cl,TW.nS,o7!,?_⟩;have h1:uz! (upd H p (tK! cB!)) cB!:=Ab;have k1:Kp p H (upd H p (tK! cB!)):=m9;generalize upd H p (tK! cB!)=H1 at h1 k1;have mm:c? m.toNat=m:=BO m0;refine⟨_,rfl,m,rfl,B!,B!,Hf!⟩;have li0:Lies (PK! H1 r []) [r,p]:=(Lies.mk (L:=[p]) Db (Ct! (Gd! (ZK hb) (D? h1)))).new E_ Rt! (qG! E_);refine sp! m.toNat (tV C (OW) [] E0 qm!) [] [AV!,Go m,Go sh] (nV! (Bu H1 H2) (∃qs:B?,ys=qs.map (LM!)/\qs.length=i/\(∀j q G,v2!->xZ G j)/\(de! (AS C H2 q.1 q.2))/\Lies H2 (MW!++[r,p]))) ⟨Ab,Ag E_,[],rfl,rfl,λj q G e=>fx!,No (by simp at hq),li0⟩;.rintro i ys H2 N hi ⟨er,s2,qs,rfl,ql,em,ho,li⟩ hN;refine Ba!;refine KF (λx wq nx ik uq=>⟨x,wq,_,rfl,Ab,λh o l r' H3 fh fo fl fr S3 kp3=>Hn!⟩);(have jc:Bu H2 (upd (HR! wq Cb! x) x (.ins C wq [])):=rp! nx ik);have s3:Bu H2 H3:=qW! kp3 jc nx;have er3:=F7! er;(have e0:Z0!:=B!);rw[e0] at S3;refine HV! er3 (A6 (Hb!)) ⟨Ab,Dl!,qs++[(x,OG!)],RH!,vD! ql,λj q G e=>?_,AY!,?_⟩;(.rw[Ni! E_];exact Jm! s3 s2);(.by_cases z:j<qs.length;(.rw[PF z] at e;exact em j q G e);.rw[Cn! FU] at e;(have zj:j-qs.length=0:=by rcases Nat.eq_zero_or_pos (j-qs.length) with h|h;(.exact h);.rw[DP (fR!)] at e;cases e);rw[zj] at e;(have e:(x,(OG!:BZ))=E3!:=EA!);(have ej:j=i:=B!);rw[ej,<-Wu! e];exact A1! _ _ _ rfl);(·(have all:∀q∈qs++[(x,(OG!:BZ))],AS C H3 q.1 q.2:=No (by rcases ZI hq with hq|hq;(.exact(ho q hq).same s3);.rw[ZK hq];exact S3));have hq3:=all q hq;have ne:=hq3.YM er3;exact oF! hq3.keep (λz=>by rw[z] at hb;exact hb.elim ne.1 ne.2));·(have a1:Lies H3 ((x::BQ OG!)++(MW!++[r,p])):=by refine li.add (AX.mpr ⟨λm=>S3.RS m rfl,S3.nd⟩) (Ct! ?_) (P6!) (Ab! (Dd! (s3 b o e)));(.rcases Fm! with rfl|hb;(.exact nx);.simp only[BQ,DW,CB,DD,JA] at hb;rcases hb with rfl|rfl|rfl|rfl;(.exact Cm jc fh);(.exact Cm jc fo);(.exact Cm jc fl);.exact Cm jc fr);.rcases Fm! with rfl|hb;(.obtain⟨d,e⟩:=S3.ob;exact AH!);.obtain⟨kv,e⟩:=S3.NX hb;exact AH!);(have a2:Cz (qs++[(x,(OG!:BZ))])++[r,p]=(MW!++(x::BQ OG!))++[r,p]:=by rw[Jc];show(MW!++((x::BQ OG!)++[]))++[r,p]=_;rw[AE]);rw[a2];refine((a1.perm ?_).keep Dl!);(.rw[<-AK];exact RC _ C_);.by_cases z:b=r;(.rw[z];exact Rt!);.exact Dd! (VV! z)
 .rintro ys H2 ⟨er,s2,qs,rfl,ql,em,ho,li⟩;have GV:=E! s2 h1;have l1:=A8 DP! (Op sh) [];refine ck! GV TW.nH;have l2:=Kl! ED! r cB!;have k3:Zd! H2 H2 di!:=m9;have QR:aa! H2 di! di!:=Ab;generalize aD! H2 di!=H3 at k3 QR;have li3:=li.keep (k3.ex (D? QR));intro po pE oG y_ JQw;refine⟨po,pE,rfl,Ab,λpd H4 oW P4 kp4=>Hn!⟩;(have s34:Bu H3 (upd (CH! H3 pE Cb! po) po (.ins CP pE [])):=rp! oG y_);have s4:Bu H3 H4:=qW! kp4 s34 oG;have js:=Ee! QR;(have li4:Lies H4 (pd::po::vm!):=by have a:=li3.new (b:=po) (H':=upd (CH! H3 pE Cb! po) po (.ins CP pE [])) oG Rt! (Ab! (Dd! (s34 b o e)));refine a.new oW (D? P4.dc) Dl!;by_cases z:b=po;(.rw[z];obtain⟨d,e2⟩:=P4.ob;exact D? e2);.exact Dd! (Br! kp4 z));refine ck! js TW.nP;have l3:=A8 CG! (Y! po) di!;have k5:Zd! H4 H4 cf!:=m9;have gJ:aa! H4 cf! cf!:=Ab;generalize aD! H4 cf!=H5 at k5 gJ;have li5:=li4.keep (k5.ex (D? gJ));intro iq vg;have li6:=li5.new (H':=GL! H5 iq) vg Rt! (qG! vg);have mZ:Oj! H5 iq iq:=Ab;have s6:=H5! vg;generalize GL! H5 iq=H6 at li6 mZ s6;refine ck! (E! s6 gJ) TW.nI;have l4:=Kl! EE! iq cf!;have k7:Zd! H6 H6 d6!:=m9;have gI:aa! H6 d6! d6!:=Ab;generalize aD! H6 d6!=H7 at k7 gI;have li7:=li6.keep (k7.ex (D? gI));intro fi vn;have li8:=li7.new (H':=GL! H7 fi) vn Rt! (qG! vn);have efi:Oj! H7 fi fi:=Ab;have s8:=H5! vn;generalize GL! H7 fi=H8 at li8 efi s8;refine ck! (E! s8 gI) TW.nF;have l5:=A8 Lw! (Y! fi) d6!;have k9:Zd! H8 H8 qZ!:=m9;have gr:aa! H8 qZ! qZ!:=Ab;generalize aD! H8 qZ!=H9 at k9 gr;have li9:=li8.keep (k9.ex (D? gr));intro en vo;have qB:=li9.new (H':=GL! H9 en) vo Rt! (qG! vo);have een:Oj! H9 en en:=Ab;have dq:=H5! vo;generalize GL! H9 en=HA at qB een dq;refine ck! (E! dq gr) TW.nE;have kB:Zd! HA HA sV!:=m9;have hpB:aa! HA sV! sV!:=Ab;generalize aD! HA sV!=HB at kB hpB;have nd:=qB.nd;(have pm:(en::fi::iq::pd::po::vm!).Perm ([p,r,po,pd,iq,fi,en]++MW!):=by have a:(Cz qs++[r,p]).Perm ([r,p]++MW!):=C_;have b:(en::fi::iq::pd::po::vm!).Perm ([en,fi,iq,pd,po,r,p]++MW!):=((((a.cons po).cons pd).cons iq).cons fi).cons en;refine b.trans (RC _ ?_);exact(List.reverse_perm [p,r,po,pd,iq,fi,en]));have NR:=pm.nodup_iff.mp nd;have kA9:Kp p H9 HB:=Kp.trans (RV! dq) kB;have kA7:Kp p H7 HB:=Kp.trans (Kp.trans (RV! s8) k9) kA9;have kA5:Kp p H5 HB:=Kp.trans (Kp.trans (RV! s6) k7) kA7;have vA:Kp p H4 HB:=k5.trans kA5;have vB:Kp p H2 HB:=(k3.trans (RV! s4)).trans vA;have tn:=YF! NR;simp only[AX,CB,DD,JA,not_or,DL,and_true,not_false_eq_true] at tn;obtain⟨⟨a1,a2,a3,a4,a5,a6⟩,_⟩:=tn;have i7:∀b∈MW!,Gm!:=λb hb z=>(AM.mp NR).2.2 p Db b hb z.symm;refine k ⟨sh,r,po,iq,fi,en,pd,0,[],qs,[],[],[]⟩ HB ⟨G1! (by rw[hpB,<-Jln]),Ho! vB er a1,No ((ho q hq).keep (CE! (Br! vB (i7 b (DB.mpr (L2! hb)))))),P4.keep (λo e=>Ho! vA e a2) (λo e=>Ho! vA e a3),Ho! (k7.trans kA7) mZ a4,Ho! (k9.trans kA9) efi a5,Ho! kB een a6,NR⟩ rfl rfl rfl rfl rfl rfl ql em λb u e hb=>vB b u (s2 b u (k1 b u e hb)) hb
theorem OZ:A? [Bu!,"n",VA!,"kind"] CP! Im:={}
inductive P1(vs:C!)(H:Hp)(Q:VK)(E:XK):Prop
 | mk (p b:Addr) (h g:Int) (W:EE) (tb:T2) (q:Addr) (G:BZ) (_:vs=[y?,pt,T! g,Uf]) (_:IR) (_:PP) (_:pi) (_:(∃q2 G2,JF W g q2 G2)) (_:M4!) (_:M1!) (_:W.ls.length<=700) (_:uR! (tb∉G.hand) YA ((BA!/\RX!/\∃o,p9!/\I8! G.AJ.find? Vs!=none/\eO! (ow! (k6! (gu! (P3! (o+W.share))) SC (W.ls++Yp!)) t Z? h g W.share HG! (Th! Qa!)))\/(BA!/\J2!/\∃wt,vc! G.AJ.find? wt/\uR! (wt=0) NW ((wt=1/\eO! (ow! (k6! (Xp! (Bp G.AJ tb 0)) SC (W.ls++Yp!)) t wE h tb.1 g HG! (Th! Qa!)))\/(2<=wt/\eO! (ow! (k6! (Xp! (ef! (wt-Re!))) SC (W.ls++Yp!)) t Z? h g (Re!) HG! (Th! Qa!)))))))
theorem YS:A? [Bu!,"h","g","b",dR!,dn!] Nd! Qw:={}
theorem Vi(h:pc IS! t w9):pc (I8! (Bp l t v).find? GE) t v:=by have m:B4!:=AH.mpr (EP! (AW h));unfold Bp;rw[AF m];clear m;induction l with | nil=>simp at h | cons q l ih =>rw[AI];by_cases e:GE;(.rw[sw,BP];simp[e]);.rw[XV,BP];rw[BP] at h;simp only[e,decide_false] at h ⊢;exact ih h
theorem Jgy(F:h! Ph! tY! Qw)(T:Txt)(TW:F9)(TP:Nm)(MH:Gc!)(M1:CJ K C "part" tE! Za NX! f1 d1)(G1:b? 3 f1 d1 NX! yH)(M2:da! tN! tO! Q3 f2 d2)(M3:Ug!) : jT! Nd! P1:=by
 have GH:Il!:=Im!;have G2:e0! f2 d2 Jcv:=SC! Jg7 M2.fn T;have G3:b? 1 f3 d3 tm! Hm:=SC! K1 M3.fn TP;refine AI! YS;obtain⟨p,b,h,g,W,tb,q,G,rfl,S,hb,i,⟨q2,yQ,i2⟩,z1,z2,z3,k⟩:=h;refine W!;have HC:ap:=M?;obtain⟨dx,hp⟩:=S.ob;refine vq! 4 YS.nd Wf! (Ac (Bf (vo! TW.cl MH.mt GH HC MH.bd R!)) (MX! 5 YS.nd (fN! j? Cf (Ck! P? W?)) (VU! (Jl (Lx! j? T.cl M2.mt G2 HC M2.bd Cf (ca P?))) (qJ! M3.mt G3 M3.bd Cf (TP! (Af! P?) (Zq! R!)))) (wT (qJ! M3.mt G3 M3.bd Cf (TP! R! (Zq! WP))))));obtain⟨FC,hq⟩:=Ev!;refine wL! (I! ⟨q,G,i,_,rfl,p,dx,_,rfl,hp,EN!,_,rfl,p,g,W,rfl,S,I! (A2! q2 yQ i2)⟩);refine⟨_,rfl,q,FC,_,rfl,hq,Sc,_,rfl,_,rfl,p,CW,dx,_,_,rfl,hp,TW.cl,TW.nS,Jz W,q,b,G,tb,W.share,rfl,GP!,hb,z1,z2,?_⟩;rcases k with k|⟨h1,h2,o,h3,h4,k⟩|⟨h1,h2,wt,h3,k⟩;.exact CU!
 .refine Bs! ⟨h1,h2,o,h3,Vz!⟩;obtain⟨W1,HP⟩:=mn!;have NS:=OA!;obtain⟨IZ,i6⟩:=S1.ob;refine sa! q IZ i6 q aL!;(have e4:r? (w! (Gu! G.AJ.find? (XE! Vs!) db=A! 0)):=be h4);rw[e4];refine B3!;obtain⟨QC,QR⟩:=W1.ob;obtain⟨cq,jr⟩:=W1.po.ob;refine sq! QC QR (E6 _) cq jr _ rfl _ rfl _ Bc! gc!;have s2:=nc! ha;have W2:=mt!;refine Ua! W2.po z3 (λt H3 ht et S3 RH=>?_);obtain⟨W3,bR⟩:=W2.JO S3 RH;have VF:=FD! W2 bR;refine k t H3 W3 ⟨a,b,et,E! VF.BB Ab,iJ! VF.BB (X! NS.BB hb)⟩ Rd!;exact Ux! RH aY!
 .refine Ap! (Bw! h1 h2 wt h3);rcases k with k|⟨rfl,k⟩|⟨h4,k⟩;(.exact CU!);(.refine wS w? Vz!;(have eg:Ec!-Jd 1=0:=w?);rw[eg] at S1;obtain⟨W1,HP⟩:=mn!;have NS:=OA!;obtain⟨IZ,i6⟩:=S1.ob;refine sa! q IZ i6 q aL!;(have e4:w! (Gu! (Bp G.AJ tb 0).find? (XE! Vs!) db=A! 0)=true:=be (Vi h3));rw[e4];refine Ba!;obtain⟨QC,QR⟩:=W1.ob;obtain⟨cq,jr⟩:=W1.po.ob;have sM:=aL!;refine⟨_,rfl,p,CW,QC,_,_,rfl,QR,TW.cl,TW.nP,E6 _,W.po,cq,_,rfl,jr,Mb!,_,rfl,_,rfl,b,_,_,_,rfl,rfl,d? sM,rfl,_,rfl,_,rfl,Bc!,gc!⟩;have s2:=vP! (O? g) ha;have W2:=mt!;refine Ua! W2.po z3 (λt H3 ht et S3 RH=>?_);obtain⟨W3,bR⟩:=W2.JO S3 RH;have VF:=FD! W2 bR;refine k t H3 W3 ⟨a,b,et,E! VF.BB Ab,iJ! VF.BB sM⟩ Rd!;exact Ux! RH aY!);.refine Ya! B!;(have eg:Jd wt=Re!:=by unfold Jd;rw[Ei!]);rw[eg] at S1;obtain⟨W1,HP⟩:=mn!;have NS:=OA!;obtain⟨IZ,i6⟩:=S1.ob;refine sa! q IZ i6 q aL!;(have e4:r? (w! (Gu! (Bp G.AJ tb (wt-Re!)).find? (XE! Vs!) db=A! 0)):=by rw[Vi h3];refine Ax! AX!;have:wt-Re!=0:=ZO z;lia);rw[e4];refine B3!;obtain⟨QC,QR⟩:=W1.ob;obtain⟨cq,jr⟩:=W1.po.ob;have sM:=aL!;refine sq! QC QR (E6 _) cq jr _ rfl _ rfl _ Bc! gc!;rw[eg] at *;have s2:=vP! (Bo! Re!) ha;have W2:=mt!;refine Ua! W2.po z3 (λt H3 ht et S3 RH=>?_);obtain⟨W3,bR⟩:=W2.JO S3 RH;have VF:=FD! W2 bR;refine k t H3 W3 ⟨a,b,et,E! VF.BB Ab,iJ! VF.BB sM⟩ Rd!;exact Ux! RH aY!
universe E
structure tS(H:Hp)(c h:Int)(L:k!)(bs:V!):Prop where
 num:EV! L.map (List.range bs.length).map of!
 MA:C4! (λ(y:Int×Addr)(q:T2×Int)=>KD H y.2 y.1 Bg! h q.1.1 q.1 q.2) L bs
universe S
inductive P2(vs:C!)(H:Hp)(Q:VK)(E:XK):Prop
 | mk (p l:Addr) (h:Int) (W:EE) (as:M!) (bs:V!) (_:vs=[y?,pt,P8!]) (_:IR) (_:lr!) (_:l∉L0!) (_:I_ H as bs) (_:bs.length<=60) (_:F3!) (_:g5! (lb! (Xs! (W.c+(bs.length:Nat))) (tS H' W.c h L bs) Tx!))
theorem Ji4:A? Qm! Qm! Nx:={}
def Jnu:TE:=Qg CP "put" (Hm) [] E0 (V5 K (Ca 2) CG!) (U3! Bg! Sf! (RP (Tv K) wc! uZ!) Kq!)
theorem Jg3(F:h! "give_back" "World.give_back" Nx)(TW:F9)(TP:Nm)(M3:Ug!):GZ! Qm! P2:=by
 have G3:cU!:=cI!;refine Y? Ji4;obtain⟨p,l,h,W,as,bs,rfl,S,el,lno,bk,zb,zl,k⟩:=h;refine W!;have lab:=y! bk;refine Ig! (ah! Jnu [("h",1),jZ!] (H3! 2) (id! trivial) (qL z? z? h) ⟨Aw!,Aw!,trivial⟩ (n8! (Aq R! rfl) (TP! (Af! Ht!) a?)));refine S5! l el Hf!;have s0:=K0!;have nrl:l≠r:=Am el E_;have l_:r∉L0!:=S.PY E_;have S0:dP! C jx! (ey! Z2! (W.ls++[])):=RS! (aW! (Z2!=W.c)) (FF! s0)
 refine si! l ZD! Jnu [("h",1),jZ!] [AV!,Go h,Rx!] (nV! (jL! l as.map) (∃L,ys=L.map (MI!)/\Ff! (Xs! t3!)/\tS H2 W.c h L (bs.take i)/\I_ H2 as bs/\JD! H2)) ⟨Ab,E! s0 el,[],rfl,S0,x? L!,A5! bk.keep s0,RV! s0⟩ (el! ⟨E8! h.2.1,h.1⟩);.rintro i v ys H2 N hi ⟨er,pB,L,rfl,W2,b2,w_,QB⟩ hN;refine Ba!;rw[ZH] at hi;cases gy:Qb! with | none=>rw[gy] at hi;cases hi | some ai =>rw[gy] at hi;cases hi;(have hib:i<bs.length:=HD! lab gy);obtain⟨q,hq⟩:=Au hib;obtain⟨cc,ea,ec⟩:=Ax w_ i ai q gy hq;(have lL:L.length=i:=by have:=y! b2.MA;rw[CD] at this;lia);obtain⟨IZ,GV⟩:=W2.ob;obtain⟨QC,gH⟩:=W2.po.ob;refine⟨_,rfl,p,CW,IZ,_,_,rfl,GV,TW.cl,TW.nP,E6 _,W.po,QC,_,rfl,gH,Mb!,_,rfl,_,rfl,ai,_,_,_,rfl,rfl,YJ!,rfl,cc,_,_,_,rfl,rfl,d? ec,rfl,_,rfl,?_⟩;refine eY! _ _ W2.po (XC! ZE lL) (λt H4 ht et S4 cj=>?_);obtain⟨W4,VI⟩:=W2.JO S4 cj;have LF:=FD! W2 VI;have ar:h5! H4 r MI!:=o! VI er l_;have gR:ES! H4 l as.map:=o! VI pB lno;(have kq:JR! H4 H4 r (L.map (MI!)++[Bo! Eg!]):=iw!);refine HV! ar (A6 (Hb!)) ⟨Ab,i! nrl gR,L++[(Eg!,t)],RH!,?_,?_,w_.keep (LF.trans kq),Rd!⟩;(·(have e1:V3! (i+1)=Eg!:=B!);rw[e1,<-AK];exact oF! W4.keep (KY! l_ hb));(.rw[CO,hq];refine Ja! (G8 ?_ (An (λ_ _ rr=>rr.keep (LF.trans kq)) b2.MA));(.have n1:=b2.num;(have n2:SE! bs.take=i:=Xe!);rw[n2] at n1;rw[ZF,n1,ZE,n2];show _=(List.range KE).map _;rw[DM,ZF];congr 1;show [Eg!]=[SC+l!];congr 1;lia);.exact⟨ai,cc,Rp! et,fH! ea,fH! ec⟩);·(have ot:b'≠r:=λz=>by rw[z] at e';rw[E_] at e';cases e');rw[Ad ot];exact VI b' o' (ei! QB) IX
 .rintro ys H2 ⟨er,pB,L,rfl,W2,b2,w_,QB⟩;rw[ZA,lab] at W2 b2;rw[BL] at b2;exact k r L H2 W2 b2 QB (X? l_ (Jx! (o0 (sk!)))) (λb o e _ z=>by rw[<-z,e] at E_;cases E_) er
theorem Ly:∀b∈BQ (JE (HN AQ!)),Mr!:=N? (by unfold BQ at hb ⊢;have hb:b∈G.h::G.o::G.l::G.r::(G.holds.filter (XE! J4!)).map Gl!:=hb;simp only[CB] at hb ⊢;rcases hb with h|h|h|h|h;(.exact G?);(.exact Nm!);(.exact Hl! h);(.exact Ap! (PS! h));.obtain⟨q,hq,e⟩:=ZN h;exact I! (GF! (J? (AH.mpr ⟨q,ee!,e⟩))))
inductive Mb(vs:C!)(H:Hp)(Q:VK)(E:XK):Prop
 | mk (p:Addr) (h:Int) (W:EE) (q:Addr) (G:BZ) (n m:Nat) (rs:V!) (R:D!) (_:SY!) (_:IR) (_:pi) (_:FB) (_:n<=62) (_:ak!) (_:bf!) (_:Es!) (_:IY!) (_:ww! m) (_:m<=5000) (_:Ok AQ! n) (_:k3! AQ!) (_:F3!) (_:g5! (lb! (k6! lN! (W.c+((Cd AQ! rs).length:Nat)) D1!) (tS H' W.c h L (Cd AQ! rs)) Tx!))
theorem Jf8:bB! Mg:={}
theorem Jeo(F:h! FJ! tZ! Mg)(T:Txt)(TW:F9)(MH:Gc!)(M1:b5! FJ! tJ! Q9)(G1:pE! UV Wp)(M2:r2! f2 d2)(G2:pF! Qm! P2):UX! BJ! Mb:=by
 have GH:Co! fH dH BJ! (OW! Er):=FX.EJ.no (En MH.fn T TW);refine Y? Jf8;obtain⟨p,h,W,q,G,n,m,rs,R,rfl,S,i,ok,zn,gp,gn,pm,pw,rc,zm,dw,zb,zl,k⟩:=h;refine W!;have HC:ap:=M?;obtain⟨dx,hp⟩:=S.ob;obtain⟨FC,hq⟩:=Ev!;refine k9! (kX! M2.mt G2 hr M2.bd (Ck! d! (QC! (uF! TW.cl MH.mt GH HC MH.bd d!) T.cl M1.mt G1 hr M1.bd)));refine⟨_,rfl,p,dx,_,rfl,hp,EN!,_,rfl,_,rfl,p,dx,_,rfl,hp,EN!,_,rfl,p,h,W,rfl,S,I! ⟨q,G,i,q,FC,_,rfl,hq,Sc,q,G,n,m,rs,R,rfl,GP!,ok,zn,gp,gn,pm,pw,rc,zm,dw,λx as H1 nx ex bk S1 LH=>?_⟩⟩;obtain⟨W1,HP⟩:=S.step i.2 S1 LH (N? (hS! Ly));have oV:=S.IQ (b:=W.hs) (sk!) (ZP i.2);have jT:Qz!:=λz=>nx _ _ S.hs oV.1 oV.2 z.symm;have sub:∀b,CR!->b∉Cb p (PD! (t5! h.toNat lN!)):=λb hb m=>by rcases ZI m with m|m;(.exact hb Yn!);.obtain⟨z,hz,hm⟩:=DB.mp m;have hz:z∈t5! h.toNat lN!:=hz;rcases PD hz with hz|rfl;(.exact jy! (Ia! hm));.refine jy! (GM E3! (ZP i.2));exact hm.imp id λz=>Ly b z
 refine⟨p,x,h,_,as,_,rfl,W1,ex,W1.YL ex jT,bk,zb,zl,λy L H2 W2 b2 QB jS jR ey=>?_⟩;exact k y L H2 W2 b2 (pn! QB) jS (pn! jR) ey
universe E
universe E K45
universe N FX
open PySem PySem.Spec PyProof.Rows L2
def VH(G:BZ)(t:T2):Prop:=I7!\/∃q∈G.holds,WP!
theorem Hi(h:t∈De G.holds ta):DC!:=by unfold De at h;cases e:G0! G.holds.find? (q.1=ta) with | none=>rw[e] at h;cases h | some q=>rw[e] at h;exact I! ⟨q,AW e,h⟩
def iA(m:Nat)(t:T2):Prop:=au t/\t.1<m
structure Sd(m:Nat)(G:BZ)(n:Nat):Prop where
 ok:FB
 nn:∀q∈G.AJ,0<=q.2
 ip:∀t,DC!->iA m t
 rk:∀t,DC!->gh!->hy!
 ir:Qc! G.AJ.map (iA m t)
 n0:0<=G.num
 n1:G.num<m
 m0:0<=G.AY
 m1:G.AY<=n
theorem U0(h:q∈Bp l t v):q=(t,v)\/q∈l:=by
 unfold Bp at h;by_cases c:B4!;.rw[IN] at h;obtain⟨r,hr,e⟩:=ZN h;by_cases d:r.1=t;(.rw[AF d] at e;exact Z! (gb! d));.rw[AB d] at e;exact Kv! J? hr
 .rw[NE] at h;rcases ZI h with h|h;(.exact AZ!);.exact Z! (UF)
theorem D7(l:V!)(t:T2)(v:Int):AB! pw!/\(∀u∈er!,u∈b4! l t)/\∀u∈b4! l t,u=t\/u∈er!:=by
 rw[Iv];by_cases c:B4!;.rw[IN];exact⟨c,λu hu=>hu,BE! (I! hu)⟩
 .rw[NE];refine⟨iG!,BE! (o0 hu),J0!⟩;rcases ZI hu with hu|hu;(.exact I! hu);.exact Z! (Wv!)
theorem Ds:∀(l:V!)(t u:T2)(v:Int),Aj (Bp l t v) u=if u=t then v else Aj l u:=by
 have app:∀(l:V!)(t u:T2)(v:Int),gq!->Aj (l++[(t,v)]) u=if u=t then v else Aj l u:=λl t u v h=>by unfold Aj;rw[List.find?_append];by_cases e:u=t;(.rw[sw,e];(have:IS!=none:=cR! (¬GE) h);rw[this];simp);.rw[XV];have:¬t=u:=L8! e;cases d3! (q.1=u)<;>simp[this]
 have mp:∀(l:V!)(t u:T2)(v:Int),B4!->Aj (l.map λq=>Tg!) u=if u=t then v else Aj l u:=λl t u v h=>by induction l with | nil=>simp at h | cons q l ih =>unfold Aj;rw[AI,BP,BP];by_cases e:GE;(.rw[sw];by_cases e2:u=t;(.rw[AF e2,e2,e];simp);.rw[AB e2];have n1:¬q.1=u:=X? e2 (z▸e);rw[Ax! n1];by_cases hl:B4!;(.have:=ih hl;rw[AB e2] at this;exact this);·(have:Gx! (λq=>Tg!)=l:=by refine(CL F1!).trans (List.map_id l);have:¬r.1=t:=V8! hl (Jo! z);rw[AB this];rfl);rw[this]);.rw[XV];(have hl:B4!:=by rcases ZM h with h|h;(.exact iE! e);.exact h);by_cases e2:q.1=u;(.rw[EM! e2];have:¬u=t:=V1! e2.trans;rw[AB this]);.rw[Ax! e2];exact ih hl
 intro l t u v;unfold Bp;by_cases c:B4!;.rw[IN];exact mp l t u v c
 .rw[NE];exact app l t u v c
theorem Ey(l:V!)(P9:Fy! T2)(t:T2):Aj (l.filter λq=>P9 q.1) t=v6 (P9 t=true) Hp! 0:=by induction l with | nil=>by_cases c:P9 t=true<;>simp[c,Aj] | cons q l ih =>rw[DX];by_cases e:GE;(.by_cases c:Tk P9 q.1;(.rw[IN,Kv! AF c];unfold Aj;rw[BP,BP,YH!]);.rw[NE,ih,AB (XT! c),AB (XT! c)]);·(have e1:Aj (q::l) t=Hp!:=by unfold Aj;rw[BP,F9!]);rw[e1];by_cases c:Tk P9 q.1;(.rw[IN];(have:Aj (q::l.filter λq=>P9 q.1) t=Aj (l.filter λq=>P9 q.1) t:=by unfold Aj;rw[BP,F9!]);rw[this,ih]);.rw[NE,ih]
theorem Lx(h:∀q∈l,0<=q.2)(t:T2):0<=Hp!:=by unfold Aj;cases e:IS! with | none=>exact BU! | some q=>exact h q (AW e)
universe S
theorem Sd.of(x:Bf!)(jf:Oa! G')(nu:e9!)(md:fA!)(hd:fB! (DC!\/(iA m t/\(gh!->AB! G'.AJ.map))))(hl:∀q∈G'.holds,∀t∈FS,DC!)(nn:∀q∈G'.AJ,0<=q.2)(ir:Qc! G'.AJ.map (hy!\/iA m t))(ks:∀t,VH G' t->hy!->AB! G'.AJ.map):Di! G':=by
 refine⟨jf,nn,J5!,M2!,sB ((ir t ht).elim (x.ir t) id),H! nu x.n0,H! nu x.n1,H! md x.m0,by rw[md];have:=x.m1;lia⟩;.rcases ht with ht|⟨q,hq,ht⟩;(.rcases hd t ht with h|h;(.exact x.ip t h);.exact h.1);.exact x.ip t (hl q hq t ht)
 .rw[nu] at e;rcases id ht with h|⟨q,hq,h⟩;(.rcases hd t h with h|h;(.exact ks t ht (x.rk t h e));.exact h.2 e);.exact ks t ht (x.rk t (hl q hq t h) e)
theorem Sd.up(x:Bf!):Di! G:=x.of (x.ok.mono (EW n)) rfl rfl (Ag! eF!) (λq hq t ht=>Qd!) x.nn LU! LI!
theorem Sd.tk(x:Bf!):Sd m (JE G) n:=⟨x.ok.JE,x.nn,x.ip,x.rk,x.ir,x.n0,x.n1,x.m0,x.m1⟩
theorem Sd.make(x:Bf!)(hm:m<=12)(hn:sK)(a:Addr):Di! (JE WG!):=by
 refine Sd.tk ⟨x.ok.cX a,x.nn,J5!,M2!,x.ir,x.n0,x.n1,by show 0<=EK!;have:=x.m0;lia,by show EK!<=s? (n+1);have:=x.m1;lia⟩;.have h1:=x.m1;have h2:=x.n1;rcases ht with ht|⟨q,hq,ht⟩;(.have ht:Xm!:=ht;rcases KS! with ht|ht;(.exact x.ip t (AD! ht));·(have:J3!:=dS!);rw[this];exact⟨⟨x.n0,bn (G.num<12),x.m0,bn (G.AY<60)⟩,x.n1⟩);.have hq:q∈IV!:=hq;rcases ZI hq with hq|hq;(.exact x.ip t (TD (L2! ht)));·(have:nf!:=dK!);rw[this] at ht;cases ht
 .rcases ht with ht|⟨q,hq,ht⟩;(.have ht:Xm!:=ht;rcases KS! with ht|ht;(.exact x.rk t (AD! ht) e);·(have:J3!:=dS!);exact EL! (be this) e);.have hq:q∈IV!:=hq;rcases ZI hq with hq|hq;(.exact x.rk t (TD (L2! ht)) e);·(have:nf!:=dK!);rw[this] at ht;cases ht
theorem Ok.fZ(ok:FB)(h:RX!->FX!):Oa! F2!:=by
 refine(ok.mono (EW n)).hand (Ru _ ok.hn) (by have:=K4 G.hand tb;have:=ok.hz;lia) M2!;rcases DE! with ht|ht;.exact ok.hk t ht e
 .rw[ht];exact jD! ht e
def Td(G:BZ)(ta tb:T2):BZ:=JE (nT! (Ct Lh! tb))
def Pf(G:BZ)(ta tb:T2):BZ:=JE (nT! (Jt Lh! tb))
def Vl(G:BZ)(tb:T2):BZ:=JE F2!
def Vm(G:BZ)(tb:T2):BZ:=JE (d7! Y2!)
theorem Sd.hold(x:Bf!)(hb:BA!):Di! (Td G ta tb):=by
 have jf:Oa! (nT! (Ct Lh! tb)):=by obtain⟨g1,g2,g3⟩:=x.ok.get ta;refine(x.ok.mono (EW n)).holds (Ru _ g1) (D6! (K4 Lh! tb)) M2!;rcases DE! with ht|ht;(.exact g3 t ht e);.rw[ht];exact x.ok.hk tb hb (S? ht e)
 refine Tc! jf ?_ x.nn LU! LI!;rcases Mv hq with⟨_,e⟩|hq;.rw[e] at ht;rcases DE! with ht|ht;(.exact Hi ht);.rw[ht];exact Vn!
 .exact Qd!
theorem Sd.drop(x:Bf!)(ta tb:T2):Di! (Pf G ta tb):=by
 have jf:Oa! (nT! (Jt Lh! tb)):=by obtain⟨g1,g2,g3⟩:=x.ok.get ta;refine(x.ok.mono (EW n)).holds (g1.sublist EU) (by have:=AO (JZ! (u≠tb)) Lh!;unfold Jt;lia) λt ht e=>g3 t OI! e
 refine Tc! jf ?_ x.nn LU! LI!;rcases Mv hq with⟨_,e⟩|hq;.rw[e] at ht;exact Hi OI!
 .exact Qd!
theorem Sd.take(x:Bf!)(hb:cZ!):Di! (Vl G tb):=by
 refine ki! (x.ok.fZ λe=>(x.ok.get ta).2.2 tb hb e) (VY! ?_) x.nn LU! LI!;rcases DE! with ht|ht;.exact X8!
 .rw[ht];exact Hi hb
theorem Sd.free(x:Bf!)(tb:T2):Di! (Vm G tb):=by refine ki! ((x.ok.mono (EW n)).hand (l:=Y2!) (x.ok.hn.sublist EU) (by have:=AO (JZ! (u≠tb)) G.hand;have:=x.ok.hz;unfold Jt;lia) λt ht e=>x.ok.hk t OI! e) (Ag! (df! OI!)) x.nn LU! LI!
def kP(G:BZ)(tb:T2)(v:Int):BZ:=JE (s3! (Ty! G.AG))
def Ng(G:BZ)(tb:T2)(v:Int):BZ:=JE (dc! (Ty! G.AJ))
theorem Sd.out(x:Bf!)(h:FX!)(v:Int):je! kP :=Tc! ((x.ok.AG h v).mono (EW n)) Qd! x.nn LU! LI!
theorem Sd.kj(x:Bf!)(hf:J2!)(hi:iA m tb)(hv:0<=v):je! Ng:=by
 have okc:=(x.ok.qX hf v).hand (l:=G.hand) x.ok.hn (GK x.ok.hz) x.ok.hk;refine Tc! okc Qd! (AY!) Hx! (λt _ h=>(D7 _ _ _).2.1 t h);.rcases U0 hq with e|hq;(.rw[e];exact hv);.exact x.nn q hq
 .rcases Np! with e|h;(.rw[e];exact I! hi);.exact G?
def Ko(G:BZ)(R:D!):BZ:=lN!
theorem Sd.clean(x:Bf!)(dw:Ok AQ! n):Di! (Ko G R):=by
 refine Tc! (dw.HN.mono (EW n)) (I! ⟨q,ee!,ht⟩) (am! x.nn) mi! (λt ht hk=>?_);obtain⟨q,hq,e⟩:=ZN hk;refine i1! (oD! hq) e;rw[e];unfold Bn;rcases ht with ht|⟨r,hr,ht⟩;.have ht:t∈(keepR G R).hand:=ht;rw[EM! ht];rfl
 .have:ft! (keepR G R).holds.any:=IT.mpr ⟨r,hr,dS!⟩;rw[this,Bool.or_true]
theorem NZ.ofN(ok:FB)(hn:n<=60):∃k R,k<=5000/\mr!:=by
 have l1:(G.holds.map (·.1)).length<=60:=by rw[ok.ke,ZA];have:=ok.oz;lia
 have l2:(startT G).length<=200:=by unfold startT Mz;refine Sq! ?_;rw[ZE];have h1:=ok.hz;have h2:=AO (dT! ix!) (Gn! G.AG.map);rw[ZA] at h2;have h3:=ok.oz;lia
 have l3:((G.holds.map (·.1)).filter (vI! Sc!)).length<=60:=Sq! l1;obtain⟨k,R,h1,h2⟩:=NZ.ex (nx:=RF G.holds) (keys:=C? G.holds.map) (B:=60) (Jhh G.holds) (λt=>AV (AO _ _) (AV (ok.get t).2.1 hn)) 5000 (startT G) [] (Jeb G) (by have:SZ (G.holds.map (·.1)).filter (vI! Sc!)*(60+1)<=60*(60+1):=GO _ l3;lia);exact⟨k,R,h1,h2⟩
theorem Ok.clean(ok:FB)(rc:mr!):Ok (FX.keepR G R) n:=ok.keepR rc.sub.2 (rc.closed (Ag! (AL! ht)))
universe E
universe S
def Jh5(G:BZ)(tb:T2)(v:Int):BZ:=JE { G with hand:=JM!,AG:=Ty! G.AG }
def Jh6(G:BZ)(tb:T2)(v:Int):BZ:=JE { G with hand:=JM!,AJ:=Ty! G.AJ }
theorem Sd.q8(x:Bf!)(KR:FX!)(hi:iA m tb)(v:Int):je! Jh5:=by
 refine ki! (FX.Ok.AG (G:=F2!) (Ok.fZ x.ok λ_=>KR) KR v) Hx! x.nn LU! LI!;rcases DE! with ht|ht;.exact eF!
 .rw[ht];exact wS hi (λe=>BK! (x.ok.new tb KR).1 e)
theorem Sd.q_(x:Bf!)(hf:J2!)(hi:iA m tb)(hv:0<=v):je! Jh6:=by
 refine ki! (x.ok.qX hf v) Hx! (AY!) Hx! (λt _ h=>(D7 _ _ _).2.1 t h);.rcases DE! with ht|ht;(.exact eF!);.rw[ht];exact wS hi (λ_=>(D7 _ _ _).1)
 .rcases U0 hq with e|hq;(.rw[e];exact hv);.exact x.nn q hq
 .rcases Np! with e|h;(.rw[e];exact I! hi);.exact G?
theorem Kv(l:V!)(t:T2)(v:Int):(Bp l t v).length<=l.length+1:=by
 unfold Bp;split;.rw[ZA];lia
 .rw[ZE];exact AC
universe E
universe E FX
universe N K45
open PySem L2 FX
structure LT where
 kind:Str
 s:Int
 g:Int
 th:T2
 x:Int
def PN(t:T2)(l:LT):Int:=if La! then(if J9! then 1 else l.x) else 0
def Dg(t:T2):T?->Int
 | []=>0
 | l::r=>Yq! r
theorem Ie(t:T2):∀(a b:T?),Dg t BV!=Dg t a+Dg t b
 | [],b=>by simp[Dg]
 | l::a,b=>by show Yq! BV!=(Yq! a)+Dg t b;rw[Ie t a b];lia
theorem F2(t:T2)(a b:T?)(l:LT):Dg t (a++l::b)=b0! BV! l:=by rw[Ie,Ie];show Dg t a+(Yq! b)=_;lia
theorem Ic(t:T2)(a:T?)(l:LT):Dg t (a++[l])=b0! a l:=Wo! Ie (Dg t a+(PN t l+0)=_)
def OT(t:T2)(G:BZ):Int:=Az!-JE!
def Ib(t:T2):B?->Int
 | []=>0
 | q::r=>WH! q.2 r
def N1:B?->Nat
 | []=>0
 | q::r=>q.2.AJ.length+N1 r
theorem Yx:∀{l:B?} {i:Nat} {q r:VI!},Nu!->Ib t ao!=Ib t l-OT t q.2+OT t r.2
 | [],i,q,r,h=>Ce!
 | x::l,0,q,r,h=>by (have h:x=q:=UF);subst h;show WH! r.2 l=(a0!)-OT t x.2+OT t r.2;lia
 | x::l,i+1,q,r,h=>by (have h:Nu!:=UF);show WH! x.2 ao!=(a0!)-OT t q.2+OT t r.2;rw[Yx h];lia
theorem Zl:∀{l:B?} {i:Nat} {q r:VI!},Nu!->N1 ao!+q.2.AJ.length=N1 l+r.2.AJ.length
 | [],i,q,r,h=>Ce!
 | x::l,0,q,r,h=>by (have h:x=q:=UF);subst h;show r.2.AJ.length+N1 l+x.2.AJ.length=x.2.AJ.length+N1 l+r.2.AJ.length;lia
 | x::l,i+1,q,r,h=>by (have h:Nu!:=UF);have:=Zl (r:=r) h;show x.2.AJ.length+N1 ao!+q.2.AJ.length=x.2.AJ.length+N1 l+r.2.AJ.length;lia
theorem V6:∀{l:B?},(∀(j:Nat) r,l[j]?=A! r->0<=OT t r.2)->0<=Ib t l
 | [],_=>BU!
 | x::l,k=>by have h1:=k 0 x rfl;have h2:=V6 (t:=t) λj r h=>k (j+1) r (UF);show 0<=a0!;lia
theorem Jct:∀{l:B?} {i:Nat} {q:VI!},Nu!->(∀(j:Nat) r,l[j]?=A! r->j≠i->0<=OT t r.2)->OT t q.2<=Ib t l
 | [],i,q,h,_=>Ce!
 | x::l,0,q,h,k=>by (have h:x=q:=UF);subst h;have h2:=V6 (t:=t) λj r h=>k (j+1) r (UF) F!;show OT t x.2<=a0!;lia
 | x::l,i+1,q,h,k=>by (have h:Nu!:=UF);have h1:=k 0 x rfl F!;have h2:=Jct h λj r h ne=>k (j+1) r (UF) F!;show OT t q.2<=a0!;lia
def KN(m:Nat)(l:LT):Prop:=0<=l.g/\l.g<m/\iA m l.th /\
 ((l.kind=Z?/\1<=l.x)\/(g7!/\1<=l.x/\l.g≠l.th.1)\/(g6!/\1<=l.x/\l.g=l.th.1)\/(J9!/\l.g=l.th.1/\0<=l.x/\l.x<m/\0<=l.s/\l.s<m/\l.s≠l.th.1))
theorem Fk:KB Cd! wE:=ZV
theorem D9:KB Z? wE:=ZV
theorem Fl:KB Bg! wE:=ZV
theorem KN.w(h:IM!):1<=PN l.th l:=by grind [PN,D9,Fk,Fl,LT,KN]
theorem KN.nn(h:IM!)(t:T2):0<=PN t l:=by
 by_cases e:La!;.rw[<-e];have:=h.w;lia
 .unfold PN;rw[XV];exact BU!
theorem P0:∀{ls:T?},(CF! IM!)->0<=Dg t ls
 | [],_=>BU!
 | l::ls,h=>by have h1:=(h l Gy!).nn t;have h2:=P0 (t:=t) ae!;show 0<=Yq! ls;lia
theorem Yy(h:CF! IM!)(hl:Io!):1<=Dg l.th ls:=by obtain⟨a,b,e⟩:=HV hl;rw[e,F2];have h1:=(h l hl).w;have h2:=q? P0 t l.th ls m? (AT (h z (by rw[e];rcases A7! with hz|hz;(.exact o0 hz);.exact uO! hz)));lia
structure Wl(C:n?)(m n:Nat)(sh:Int)(qs:B?)(ls:T?):Prop where
 len:qs.length=m
 dy:m<=12
 sd:∀(i:Nat)(q:Addr)(G:BZ),f?->Bf!/\g8!
 ok:CF! IM!
 sum:∀t,C t->Ib t qs+Dg t ls=0
 sh:2<=sh
universe S
variable {C:T2->Prop}{m n:Nat}{sh:Int}{qs:List (Addr×BZ)}{ls:List LT}
theorem Jkz{P9:AN! BZ Nat}{l:B?}{i:Nat}{q:Addr}{G':BZ}(h:∀j q G,Cl! (l[j]?)->j≠i->P9 G j)(hi:P9 G' i):∀j q' G,pc ((l.set i E6!)[j]?) q' G->P9 G j:=by
 intro j q' G e;rw[List.getElem?_set] at e;by_cases z:i=j;.rw[AF z] at e;by_cases z2:i<l.length;(.rw[AF z2] at e;have:E6!=(q',G):=ZO e;rw[<-Wu! this,<-z];exact hi);.rw[AB z2] at e;cases e
 .rw[AB z] at e;exact h j q' G e λz'=>z z'.symm
theorem Wl.next(x:B7!){i:Nat}{q:Addr}{G G':BZ}{OI:T?}(hi:f?)(ja:Di! G')(nu:e9!)(jf:∀l∈OI,IM!)(yT:∀t,C t->OT t G'+Dg t OI=OT t G+Dg t ls)(JQ1:G'.AJ.length+OI.length<=G.AJ.length+ls.length+1):LO! ET! OI:=by refine⟨H! List.length_set x.len,x.dy,Jkz (P9:=λG j=>Di! G/\G.num=BS!) (λj q G e _=>⟨(x.sd j q G e).1.up,(x.sd j q G e).2⟩) ⟨ja,Gd! nu (x.sd i q G hi).2⟩,jf,λt hC=>?_,x.sh⟩;have h1:=x.sum t hC;have h2:=yT t hC;rw[Yx hi];show Ib t qs-OT t G+OT t G'+Dg t OI=0;lia
theorem Wl.up(x:B7!):VQ! Wl C BM!:=⟨x.len,x.dy,λi q G e=>⟨(x.sd i q G e).1.up,(x.sd i q G e).2⟩,x.ok,x.sum,x.sh⟩
theorem Wl.p7(x:B7!){t:T2}{j:Nat}{r:VI!}(e:qs[j]?=A! r)(ne:l4!):AA! r.2.AG=0:=by obtain⟨s,nu⟩:=x.sd j r.1 r.2 e;exact Fm (X? ne (z! (mI! z) nu))
theorem Wl.qZ(x:B7!){t:T2}{j:Nat}{r:VI!}(e:qs[j]?=A! r)(ne:l4!):0<=OT t r.2:=by have h1:=x.p7 e ne;have h2:=Lx (x.sd j r.1 r.2 e).1.nn t;unfold OT;lia
theorem Wl.there(x:B7!){l:LT}(hl:Io!)(hC:C l.th){i:Nat}{q:Addr}{G:BZ}(hi:f?)(e:l.th.1=l!):g9!:=by
 refine Classical.byContradiction λno=>?_;have h1:=Yy x.ok hl;have h2:=q? V6 t l.th l qs (λj r ej=>by by_cases c:l.th.1=BS!;(·(have:i=j:=B!);subst this;have er:E3!=r:=ZO (hi.symm.trans ej);have h3:=Lx (x.sd i r.1 r.2 ej).1.nn l.th;unfold OT;rw[<-er] at h3 ⊢;have h4:Aj G.AG l.th=0:=Fm no;show 0<=Aj G.AJ l.th-Aj G.AG l.th;have h3:0<=Aj G.AJ l.th:=h3;lia);.exact x.qZ ej c)
 have h3:=x.sum l.th hC;lia
theorem Wl.lP(x:B7!){i:Nat}{q:Addr}{G:BZ}(hi:f?)(t:T2)(hC:G9!->C t):0<=JE!:=by
 by_cases c:G9!;.obtain⟨s,nu⟩:=OF!;(have e1:t.1=l!:=z! (mI! c) nu);have h1:=Jct (t:=t) hi λj r ej ne=>x.qZ ej F!;have h2:=P0 (t:=t) x.ok;have h3:=x.sum t (hC c);have h4:Az!=0:=Fm λz=>s.ok.rk t z (mI! c);have h1:Az!-JE!<=Ib t qs:=h1;lia
 .rw[Fm c];exact BU!
universe E
universe S
variable {C:T2->Prop}{m n:Nat}{sh:Int}{qs:List (Addr×BZ)}{ls:List LT}{i:Nat}{q:Addr}{G:BZ}
theorem mem_mid(hz:z∈m?):z∈a++l::b:=Md!
theorem Wl.same(x:B7!)(hi:f?){G':BZ}(ja:Di! G')(nu:e9!)(hr:G'.AJ=G.AJ)(ho:G'.AG=G.AG):Wl C m BM! sh ET! ls :=x.next hi ja nu x.ok (λt _=>by unfold OT;rw[hr,ho]) (Dk! hr)
theorem Wl.make(x:B7!)(hi:f?)(hn:sK)(a:Addr):Wl C m BM! sh (JC! ZW!) ls:=by
 obtain⟨s,nu⟩:=OF!;refine QX! (s.make x.dy hn a) x.ok iV!;have fr:Ah!∉EH!:=λz=>by obtain⟨r,hr,e⟩:=ZN z;exact s.ok.fresh.2.1 r hr e
 have e:Aj (OX!) t=JE!:=by rw[<-Jgl fr,Ds];by_cases c:J3!;(.rw[IN,c,Fm fr]);.rw[NE]
 show Zk! (Aj (OX!) t) ls;rw[e]
theorem K0(h:∀z∈ls,KN m z)(hl:IM!):∀z∈ls++[l],KN m z:=AT (by rcases A7! with hz|hz;(.exact CY! h);.rw[ZK hz];exact hl)
theorem Wl.VA(x:B7!)(hi:f?){b:T2}(hb:Q2!)(hn:b.1=G.num){g:Int}(g0:Do!)(g1:g<m):LO! (ig! kP UJ!) (ls++[c1!]):=by
 obtain⟨s,nu⟩:=OF!;have hs:=x.sh;refine QX! (s.out (s.ok.hk b hb hn) _) (K0 x.ok ⟨g0,g1,pV! s.ip,X9! (bn (1<=sh))⟩) (by rw[ZE,EC];show vM!;lia);rw[Ic];show MP! (Az!-AA! (Bp G.AG b (UJ!))+(b0! ls c1!));rw[Ds];unfold PN;by_cases c:t=b;.rw[IN,AF (show b=t from c.symm),AB D9,c];show _+(_+sh)=_;lia
 .rw[NE,AB (Mw! (b=t) ZH!)];lia
theorem Nf(h:b∈C? G.AJ.map)(v:Int):(Ng G b v).AJ.length=G.AJ.length:=Zp h v
theorem Wl.YR(x:B7!)(hi:f?){b:T2}(hb:Q2!)(hf:gg!){g:Int}(g0:Do!)(g1:g<m)(w2:2<=s9!) : LO! (ig! Ng bl!) (Up! Z? g QA!):=by
 obtain⟨s,nu⟩:=OF!;refine QX! (s.kj hf (s.ip b (Z! hb)) F!) (K0 x.ok ⟨g0,g1,pV! s.ip,X9! (bn (1<=QA!))⟩) (VJ! ZE EC (Nf (s.rk b h6! hf)));rw[Ic];show MP! (oQ! b (bl!)+(b0! ls ⟨Z?,l!,g,b,QA!⟩));rw[Ds];unfold PN;by_cases c:t=b;.rw[IN,AF (show b=t from c.symm),AB D9,c];show _+(_+QA!)=_;lia
 .rw[NE,AB (Mw! (b=t) ZH!)];lia
theorem Wl.U'(x:B7!)(hi:f?){b:T2}(hb:Q2!)(hf:gg!){g:Int}(g0:Do!)(g1:g<m)(w1:s9!=1) : LO! (JC! (Ng G b 0)) (Up! wE b.1 g):=by
 obtain⟨s,nu⟩:=OF!;have ib:=pV! s.ip;have hil:i<m:=HD! x.len hi
 refine nU! s.kj hf Gz! (K0 x.ok ⟨ib.1.1,ib.2,ib,I! (GF! ⟨rfl,rfl,g0,g1,bn (0<=l!),Q3! (l!<m),by rw[nu] at hf;exact L8! hf⟩)⟩) (VJ! ZE EC (Nf (s.rk b h6! hf)));rw[Ic];show MP! (oQ! b 0+(b0! ls ⟨wE,l!,b.1,b,g⟩));rw[Ds];unfold PN;by_cases c:t=b;.rw[IN,AF (show b=t from c.symm),e?,c,w1];lia
 .rw[NE,AB (Mw! (b=t) ZH!)];lia
theorem Wl.wt(x:B7!){a b:T?}{l:LT}(es:gz!)(np:l.kind≠wE)(hC:XI! (C l.th))(hi:Cl! (qs[l.g.toNat]?)) : ∃G',Wt l.kind G l.th l.x G'/\LO! pO! BV!:=by
 have hl:Io!:=N8!
 obtain⟨g0,g1,ib,kk⟩:=x.ok l hl;obtain⟨s,nu⟩:=x.sd _ q G hi;rw[K4!] at nu;have ia:∀z∈m?,KN m z:=AT (HO! x.ok z es jz!);have len:AU! m?+1=ls.length:=by rw[es];simp only[ZE,BM];lia
 have lw:∀t,PN t l=if La! then l.x else 0:=gU! (AB np)
 rcases kk with⟨k,x1⟩|⟨k,x1,ne⟩|⟨k,x1,eg⟩|⟨k,_⟩;· by_cases c:l.th.1=G.num;(.have KR:=x.there hl (hC (by rw[k];decide +kernel)) hi (by rw[K4!,c,nu]);refine⟨Jh5 G l.th (Xt!),Al! k (J! ⟨c,_,Nc KR,rfl⟩),nU! s.q8 KR _ ia iV!⟩;show Zk! (AA! (Bp G.AG l.th (Xt!))) BV!;rw[es,F2,Ds,lw];by_cases d:Mz!;(.rw[AF d,KK!,d];lia);.rw[AB d,LH!];lia);.have r0:=Lx s.nn l.th;refine⟨Jh6 G l.th (Rf!),Al! k (SG! c),nU! s.q_ c F! ia (by have:=Kv G.AJ l.th (Rf!);show(Bp G.AJ l.th _).length+_<=_;lia)⟩;show MP! (oQ! l.th (Rf!)+Dg t BV!);rw[es,F2,Ds,lw];by_cases d:Mz!;(.rw[AF d,KK!,d];lia);.rw[AB d,LH!];lia
 · (have c:l.th.1≠G.num:=H! nu (L8! ne));have r0:=Lx s.nn l.th;refine⟨Ng G l.th (Rf!),Bs! (JN! k),nU! s.kj c F! ia (by have:=Kv G.AJ l.th (Rf!);show(Bp G.AJ l.th _).length+_<=_;lia)⟩;show MP! (oQ! l.th (Rf!)+Dg t BV!);rw[es,F2,Ds,lw];by_cases d:Mz!;(.rw[AF d,KK!,d];lia);.rw[AB d,LH!];lia
 · by_cases KR:g9!;(·(have e1:dX G l.th l.x=Bp G.AG l.th (Xt!):=eR! (AF KR));refine⟨kP G l.th (Xt!),jA! k (be e1),QX! (s.out KR _) ia iV!⟩;show Zk! (AA! (Bp G.AG l.th (Xt!))) BV!;rw[es,F2,Ds,lw];by_cases d:Mz!;(.rw[AF d,KK!,d];lia);.rw[AB d,LH!];lia);·(have e1:dX G l.th l.x=G.AG:=eR! (AB KR));refine⟨JE G,jA! k (be e1),x.next hi s.up.tk rfl ia Hx! iV!⟩;show MP! (Az!-JE!+Dg t BV!);rw[es,F2,lw];by_cases d:La!;(.exact EL! (x.there hl (q! d ht) hi (HU! K4! eg)) KR);.rw[AB d];lia
 .exact nH!
theorem Sd.pass(s:Bf!)(KR:FX!)(hi:iA m tb)(sh:Int)(GY:Bool):Di! (G7 G tb sh GY):=by
 have okh:Oa! (d7! cE!):=by cases GY;(.exact s.ok.mono (EW n));.exact FX.Ok.fZ s.ok λ_=>KR
 refine(s.of (FX.Ok.AG (G:=d7! cE!) okh KR _) rfl rfl Hx! (λq hq t ht=>Qd!) s.nn LU! LI!).tk;have ht:t∈cE!:=ht;unfold dt at ht;cases GY;.exact eF!
 .rcases DE! with ht|ht;(.exact eF!);.rw[ht];exact wS hi (λe=>BK! (s.ok.new tb KR).1 e)
theorem Wl.pass(x:B7!){a b:T?}{l:LT}(es:gz!)(hp:J9!)(hC:C l.th)(hi:Cl! (qs[l.th.1.toNat]?)):g9! /\ (l.x=l.th.1->LO! (Li! true) (Kk! QF!)) /\ (l.x≠l.th.1->LO! (Li! false) (Ys! (Fr! Og!))):=by
 have hl:Io!:=N8!
 obtain⟨g0,g1,ib,kk⟩:=x.ok l hl;obtain⟨s,nu⟩:=x.sd _ q G hi;have hs:=x.sh;have KR:=x.there hl hC hi (Bx! BO ib.1.1);have ia:∀z∈m?,KN m z:=AT (HO! x.ok z es jz!);have len:AU! m?+1=ls.length:=by rw[es];simp only[ZE,BM];lia
 have fin:l.g=l.th.1/\0<=l.x/\l.x<m/\0<=l.s/\l.s<m/\l.s≠l.th.1:=by rcases kk with⟨h,_⟩|⟨h,_⟩|⟨h,_⟩|⟨_,h⟩;(.rw[hp] at h;exact iE! D9);(.rw[hp] at h;exact iE! Fk);(.rw[hp] at h;exact iE! Fl);.exact h
 obtain⟨eg,x0,x1,s0,s1,sne⟩:=fin;have okM:KN m QF!:=⟨s0,s1,ib,Bs! (BO! (bn (1<=sh)) sne)⟩;have okH:KN m Og!:=⟨x0,x1,ib,X9! (bn (1<=sh))⟩;have lwP:∀t,PN t l=fz! La! 1:=gU! (AF hp)
 have lwM:∀t,PN t QF!=if La! then sh else 0:=gU! (AB Fk)
 have lwH:∀t,PN t Og!=if La! then sh else 0:=gU! (AB D9)
 refine⟨KR,λ_=>QX! (Sd.pass s KR ib sh true) (K0 ia okM) ?_,λ_=>QX! (Sd.pass s KR ib sh false) (K0 (K0 ia okH) okM) ?_⟩;.show Zk! (Aj (iZ G l.th sh true) t) _;unfold iZ;rw[Ic,es,F2,Ds,lwP,lwM,e?];by_cases d:Mz!;(.rw[AF d,KK!,KK!,d];lia);.rw[AB d,LH!,LH!];try lia
 .rw[ZE,EC];show vM!;lia
 .show Zk! (Aj (iZ G l.th sh false) t) _;unfold iZ;rw[Ic,Ic,es,F2,Ds,lwP,lwM,lwH,AB AR];by_cases d:Mz!;(.rw[AF d,KK!,KK!,d];lia);.rw[AB d,LH!,LH!];try lia
 .rw[ZE,ZE,EC,EC];show vM!;lia
universe E
def Jg(i:Int)(y:Bi!):LT:=⟨Bg!,i,y.1.1,y.1,y.2⟩
theorem Jap(q:Bi!)(l:V!)(t:T2):Aj (q::l) t=v6 GE q.2 Hp!:=by
 unfold Aj;rw[BP];by_cases e:GE;.rw[YH!,sw];rfl
 .rw[F9!,XV]
theorem To(i:Int)(t:T2):∀{l:V!},YT!->(∀q∈l,0<=q.2)->Dg t ((l.filter (At Kp!)).map (Jg i))=Hp!
 | [],_,_=>rfl
 | q::l,nd,nn=>by have NR:=Bd!;have ih:=To i t NR.2 (ii (nn r (Aj! hr)));have q0:=nn q (Ai!);rw[Jap,DX];(have lw:PN t (Jg i q)=fz! GE q.2:=by unfold PN;rw[AB (show ¬(Jg i q).kind=wE from Fl)];rfl);by_cases c:Kp!;(.rw[AF (decide_eq_true c)];show PN t (Jg i q)+Dg t _=_;rw[lw,ih];by_cases e:GE;(.rw[sw,sw,Kv! Fm NR.1];lia);.rw[XV,XV];lia);.rw[AB (L3!),ih];by_cases e:GE;(.rw[sw,Kv! Fm NR.1];lia);.rw[XV]
theorem Su(p:a.Perm b)(nd:o? b.map)(t:T2):AA! a=AA! b:=by
 have ri:o? a.map:=(p.map _).nodup_iff.mpr nd;by_cases c:AB! b.map;.obtain⟨q,hq,e⟩:=ZN c;have h1:=HF nd hq;have h2:=HF ri (p.mem_iff.mpr hq);rw[e] at h1 h2;unfold Aj;rw[h1,h2]
 .rw[Fm c,Fm (Yu! (p.map _).mem_iff.mp)]
theorem Nd(P9:SI!):ga! (SZ l.filter P9+SZ l.filter (λx=>! P9 x)=l.length)
 | []=>rfl
 | x::l=>by have:=Nd P9 l;rw[DX,DX];cases e:P9 x<;>simp<;>lia
universe S
variable {C:T2->Prop}{m n:Nat}{sh:Int}{qs:List (Addr×BZ)}{ls:List LT}{i:Nat}{q:Addr}{G M:BZ}
theorem Wl.clean(x:B7!)(hi:f?)(hC:Xn! (C t)){k:Nat}{R:D!}(rc:mr!){rs:V!}(pm:Es!) : LO! (JC! (Ko G R)) (ve! AQ!):=by
 obtain⟨s,nu⟩:=OF!;refine QX! (s.clean (s.ok.clean rc)) fr! ?_;.rcases A7! with hz|hz;(.exact CY! x.ok);.obtain⟨y,hy,rfl⟩:=BZ!;obtain⟨vI,vH⟩:=AD.mp hy;have vG:=pm.mem_iff.mp (FC! vI);have im:=s.ir y.1 (AH.mpr (C1! y vG));exact⟨im.1.1,im.2,im,Hl! (BO! (by have:=BU vH;show 1<=y.2;lia) rfl)⟩
 .rw[Ie];have gE:YU!:=fq! pm.map s.ok.rn;have e1:Dg t ((Cd AQ! rs).map (Jg l!))=Aj (rs.filter λq=>! II!) t :=To l! t (gE.sublist (List.filter_sublist.map _)) (ii (s.nn r (pm.mem_iff.mp H7!)));rw[e1,Ey rs (λt=>! Zg!) t,Su pm s.ok.rn];show MP! (mS! II!-Aj (G.AG.filter (At J4!)) t+_);rw[mZ! Zg!,Ey G.AG (iX!) t];(have e2:(fz! (w! Cp!=true) JE!)=JE!:=by by_cases c:Cp!;(.rw[AF (decide_eq_true c)]);.rw[AB (L3!)];have h1:=x.lP hi t (hC t);by_cases d:G9!;(.have h2:¬ix!:=λz=>c (rc.sub.2 t (by unfold startT Mz;refine oD! (ZC _ (AD.mpr ⟨d,decide_eq_true z⟩));rw[s.ok.ke];exact EM! d));lia);.rw[Fm d]);rw[e2];cases Zg!;(.rw[C6!,AF (by rfl)];lia);.rw[e?,C6!];lia
 .rw[ZE,ZA];have h1:cH! AQ! II!:=Kg!;have h2:=(pm.filter λq=>! II!).length_eq;have h3:=Nd (PA! II!) G.AJ;show SZ G.AJ.filter (λq=>II!)+_<=_;lia
theorem Wl.good(x:B7!)(hn:n<=60)(hi:f?):Good G:=by obtain⟨s,nu⟩:=OF!;have h1:=s.ok.hz;have h2:=s.ok.oz;have h3:=s.ok.rz;refine⟨s.ok.hn,B!,s.ok.on,B!,s.ok.rn,B!,F1!⟩;obtain⟨a,fd⟩:=q? Qb l G.holds t r.1 (q! s.ok.ke (Pv! r hr));obtain⟨g1,g2,_⟩:=s.ok.get r.1;exact⟨a,_,fd,g1,B!⟩
universe E
inductive iB(qs:B?)(t:T2):Prop
 | mk (j:Nat) (q:Addr) (G:BZ) (_:v2!) (_:G9!)
structure QG(qs:B?)(ls:T?)(X:n?):Prop where
 hand:Xu! (PF! (¬X t))
 aF:CF! (XI! (¬X l.th))
 hold:Xu! (∀r∈G.holds,gf! (X t->X r.1))
 old:Xu! (∀t,X t->t.1=BS!->t.2<G.AY)
def KS(qs:B?)(ls:T?)(qs':B?)(OI:T?):Prop:=∀X,Le! X->QG qs' OI X
theorem KS.refl(qs:B?)(ls:T?):PR! qs ls:=NG!
def YJ(ls:T?)(j:Int)(t:T2):Prop:=∃l∈ls,La!/\((J9!/\l.s=j)\/(g7!/\l.g=j))
def YI(qs:B?)(ls:T?):Prop:=Xu! (∀t,DC!->l4!->1<=Az!\/YJ ls BS! t)
universe S
variable {qs:List (Addr×BZ)}{ls OI:List LT}{i:Nat}{q:Addr}{G G':BZ}{X:T2->Prop}
theorem Fc{l:B?}{j:Nat}{q':Addr}{G2:BZ}(e:pc ((l.set i E6!)[j]?) q' G2):(j=i/\G2=G'/\q'=q)\/(j≠i/\pc (l[j]?) q' G2):=by
 rw[List.getElem?_set] at e;by_cases z:i=j;.rw[AF z] at e;by_cases z2:i<l.length;(.rw[AF z2] at e;have:E6!=(q',G2):=ZO e;exact J! ⟨z.symm,(Prod.mk.inj this).2.symm,(Prod.mk.inj this).1.symm⟩);.rw[AB z2] at e;cases e
 .rw[AB z] at e;exact wS (λy=>z y.symm) e
theorem QG.next(x:Le! X)(hi:f?)(h1:fB! (I7!\/¬X t))(h2:∀l∈OI,XI! (Io!\/¬X l.th))(h3:∀r∈G'.holds,gf! ((∃r0∈G.holds,r0.1=r.1/\gd!)\/¬X t))(h4:Ip!):QG ET! OI X:=by
 refine⟨λj q' G2 e t ht=>?_,λl hl nb=>?_,λj q' G2 e r hr t ht xt=>?_,λj q' G2 e t xt et=>?_⟩;.rcases Fc e with⟨_,e2,_⟩|⟨_,e⟩;(.rw[e2] at ht;rcases h1 t ht with h|h;(.exact x.hand i q G hi t h);.exact h);.exact x.hand j q' G2 e t ht
 .rcases h2 l hl nb with h|h;(.exact x.aF l h nb);.exact h
 .rcases Fc e with⟨_,e2,_⟩|⟨_,e⟩;(.rw[e2] at hr;rcases h3 r hr t ht with⟨r0,m0,e0,t0⟩|h;(.rw[<-e0];exact x.hold i q G hi r0 m0 t t0 xt);.exact absurd xt h);.exact x.hold j q' G2 e r hr t ht xt
 .rcases Fc e with⟨ej,e2,_⟩|⟨_,e⟩;(.rw[e2];have:=aO! x.old xt (HU! et ej);lia);.exact x.old j q' G2 e t xt et
theorem KS.less(hi:f?)(h1:fB! I7!)(h2:∀l∈OI,XI! Io!)(h3:∀r∈G'.holds,∀t∈SL,∃r0∈G.holds,r0.1=r.1/\gd!)(h4:Ip!):iv! OI :=λX x=>x.next hi (i9! h1) (λl hl nb=>Z! (h2 l hl nb)) (Wt! (Z! (h3 r hr t ht))) h4
theorem YI.next(x:YI qs ls)(hi:f?)(hp:∀(j:Nat) t,j≠i->YJ ls BS! t->YJ OI BS! t)(h':∀t,VH G' t->t.1≠l!->1<=hn!\/YJ OI l! t):mx! YI:=by
 intro j q' G2 e t ht ne;rcases Fc e with⟨ej,e2,_⟩|⟨ne2,e⟩;.subst ej;rw[e2] at ht ⊢;exact h' t ht ne
 .rcases x j q' G2 e t ht ne with h|h;(.exact G?);.exact J? (hp j t ne2 h)
theorem YJ.mono(h:CF! (l∈OI))(p:YJ ls j t):YJ OI j t:=let⟨l,hl,r⟩:=p;⟨l,h l hl,r⟩
theorem YI.less(x:YI qs ls)(hi:f?)(hl:CF! (l∈OI))(h':∀t,VH G' t->t.1≠l!->DC!/\Az!<=hn!):mx! YI :=x.next hi (λj t _ p=>p.mono hl) λt ht ne=>by obtain⟨h1,h2⟩:=h' t ht ne;rcases aO! x h1 ne with h|h;(.exact Cn! Z!);.exact I6! h.mono hl
universe E
structure Wg(D:n?)(m n:Nat)(sh:Int)(qs:B?)(ls:T?):Prop where
 wl:VQ! Wl (λt=>¬D t\/iB qs t) n
 sD:Le! D
 rc:YI qs ls
theorem Wl.mono{C C':n?}{m n:Nat}{sh:Int}{qs:B?}{ls:T?}(x:B7!)(h:∀t,C' t->C t):VQ! Wl C' n:=⟨x.len,x.dy,x.sd,x.ok,λt c=>x.sum t (h t c),x.sh⟩
universe S
variable {D:T2->Prop}{m n:Nat}{sh:Int}{qs:List (Addr×BZ)}{ls OI:List LT}{i:Nat}{q:Addr}{G G':BZ}
theorem iB.set(hi:f?){t:T2}(h:iB ET! t):iB qs t\/AB! G'.AG.map:=by
 obtain⟨j,q',G2,e,m⟩:=h;rcases Fc e with⟨_,e2,_⟩|⟨_,e⟩;.rw[e2] at m;exact I! m
 .exact J! ⟨j,q',G2,e,m⟩
theorem Wg.step(x:Be!)(hi:f?)(w9:Wl (λt=>¬D t\/iB qs t) m BM! sh ET! OI)(ho:Qc! G'.AG.map (G9!\/¬D t))(st:iv! OI)(rc:mx! YI):uq! ET! OI :=⟨w9.mono λt h=>by rcases h with h|h;(.exact G?);.rcases h.set hi with h|h;(.exact AZ!);.rcases ho t h with h|h;(.exact I! ⟨i,q,G,hi,h⟩);.exact G?,st D x.sD,rc⟩
theorem Wg.num(x:Be!)(hi:f?):Bf!/\g8!:=x.wl.sd i q G hi
theorem Yz(hi:f?)(nu:g8!)(a:Addr):t6! ZW! ls:=λX x=>by (have nx:¬X Ah!:=λz=>by have:=x.old i q G hi _ z nu;simp at this);refine x.next hi Hx! (λl hl _=>J! hl) (Wt! ?_) (bn (G.AY<=EK!));(.have ht:Xm!:=ht;rcases KS! with h|h;(.exact G?);.rw[ZK h];exact I! nx);.have hr:r∈IV!:=hr;rcases Eh! with h|h;(.exact Ro! h);.rw[ZK h] at ht;cases ht
theorem Wg.make(x:Be!)(hi:f?)(hn:sK)(a:Addr):Wg D m BM! sh (JC! ZW!) ls:=by
 obtain⟨s,nu⟩:=ID!;refine x.step hi (x.wl.make hi hn a) Hx! (Yz hi nu a) (eW! x.rc.less (λl h=>h) ?_);.have ht:t∈(G.AG++[((Ah!,0):Bi!)]).map (An!):=ht;rw[ZF] at ht;rcases KS! with h|h;(.exact G?);·(have e:J3!:=UF);refine I! AX!;rw[e] at z;have:=x.sD.old i q G hi _ z nu;simp at this
 .refine Ja! BU!;rcases ht with h|⟨r,hr,h⟩;(.have h:Xm!:=h;rcases ZI h with h|h;(.exact G?);·(have e:J3!:=UF);exact EL! (HX! nu) ne);.have hr:r∈IV!:=hr;rcases Eh! with hr|hr;(.exact I! (Jo! h));.rw[ZK hr] at h;cases h
theorem Sv(h:t∈De l ta):∃r0∈l,r0.1=ta/\gd!:=by unfold De at h;cases e:Y9! (q.1=ta) with | none=>rw[e] at h;cases h | some r =>rw[e] at h;exact⟨r,AW e,XY!,h⟩
theorem Iz(hr:r∈La l ta h):(r.1=ta/\SL=h)\/r∈l:=by
 unfold La at hr;obtain⟨r0,m0,e⟩:=ZN hr;by_cases c:r0.1=ta;.rw[IN] at e;exact Al! (XT! c) (by rw[<-e])
 .rw[NE] at e;exact Kv! J? m0
theorem Wg.hold(x:Be!)(hi:f?){ta tb:T2}(hb:BA!):fu! (Td G ta tb) (kw! Td):=by
 obtain⟨s,nu⟩:=ID!;have st:kw! Td:=λX y=>UB! y.next vz! (λl hl _=>J! hl) (by rcases Iz hr with⟨e1,e2⟩|h;(.rw[e2] at ht;rcases DE! with h|h;(.obtain⟨r0,m0,e0,t0⟩:=Sv h;exact J! ⟨r0,m0,z! e0 e1,t0⟩);.rw[h];exact J? (y.hand i q G hi tb hb));.exact Ro! h);refine sm! (s.hold hb);rcases ht with h|⟨r,hr,h⟩;.exact G?
 .rcases Iz hr with⟨e1,e2⟩|h2;(.rw[e2] at h;rcases YC! with h|h;(.exact Hi h);.rw[h];exact Vn!);.exact m9! h2
theorem Wg.drop(x:Be!)(hi:f?)(ta tb:T2):fu! (Pf G ta tb) (kw! Pf):=by
 obtain⟨s,nu⟩:=ID!;have key:∀r∈(Pf G ta tb).holds,∀t∈SL,∃r0∈G.holds,r0.1=r.1/\gd!:=Wt! (by rcases Iz hr with⟨e1,e2⟩|h;(.rw[e2] at ht;obtain⟨r0,m0,e0,t0⟩:=Sv OI!;exact⟨r0,m0,z! e0 e1,t0⟩);.exact eV! h)
 have st:kw! Pf:=KS.less hi (λt ht=>ht) (λl hl _=>hl) key Gz!;refine sm! (s.drop ta tb);rcases ht with h|⟨r,hr,h⟩;.exact G?
 .obtain⟨r0,m0,_,t0⟩:=key r hr t h;exact I! ⟨r0,m0,t0⟩
theorem Wg.take(x:Be!)(hi:f?){ta tb:T2}(ha:FS!)(hb:cZ!):fu! (Vl G tb) (kv! Vl):=by
 obtain⟨s,nu⟩:=ID!;have st:kv! Vl:=λX y=>UB! y.next (Ag! (by rcases DE! with h|h;(.exact G?);.refine I! AX!;rw[h] at z;obtain⟨r0,m0,e0,t0⟩:=Sv hb;exact y.hand i q G hi ta ha (EX! e0 (y.hold i q G hi r0 m0 tb t0 z)))) (λl hl _=>J! hl) (Ro! hr);refine sm! (s.take hb);rcases ht with h|h;.rcases YC! with h|h;(.exact G?);.rw[h];exact Hi hb
 .exact AZ!
theorem Wg.free(x:Be!)(hi:f?)(tb:T2):fu! (Vm G tb) (kv! Vm):=by
 obtain⟨s,nu⟩:=ID!;have st:kv! Vm:=UB! KS.less (Ag! OI!) (λl hl _=>hl) (eV! hr);refine sm! (s.free tb);rcases ht with h|h;.exact J! (HE.mp h).1
 .exact AZ!
theorem Qi(hi:f?){l:LT}(hb:l.th∈G.hand)(h1:G'.hand=G.hand)(h2:G'.holds=G.holds)(h3:fA!):iv! (ls++[l]):=λX y=>y.next hi (Ag! (Sl! h1 ht)) (λl' hl _=>by rcases Hs! with h|h;(.exact G?);.rw[ZK h];exact J? (y.hand i q G hi _ hb)) (Wt! (Ro! (S? h2 hr))) (H! h3 BU!)
theorem yL(h1:G'.hand=G.hand)(h2:G'.holds=G.holds)(h:VH G' t):DC!:=by unfold VH at *;rw[h1,h2] at h;exact h
theorem Wg.VA(x:Be!)(hi:f?){b:T2}(hb:Q2!)(hn:b.1=G.num){g:Int}(g0:Do!)(g1:g<m):RA! (ig! kP UJ!) (ls++[c1!]) (t6! (kP G b (UJ!)) (ls++[c1!])):=by
 obtain⟨s,nu⟩:=ID!;have st:=Qi (ls:=ls) (G':=kP G b (UJ!)) (l:=c1!) hi hb rfl rfl rfl;refine eU! (x.wl.VA hi hb hn g0 g1) (VY! ?_) (eW! x.rc.less M5! ⟨yL (G:=G) rfl rfl ht,BU!⟩);have ht:AB! (Bp G.AG b (UJ!)).map:=ht;rcases Np! with h|h;.rw[h];exact s.ok.hk b hb hn
 .exact h
theorem Wg.YR(x:Be!)(hi:f?){b:T2}(hb:Q2!)(hf:gg!){g:Int}(g0:Do!)(g1:g<m)(w2:2<=s9!) : RA! (ig! Ng bl!) (Up! Z? g QA!) (t6! (Ng G b (bl!)) (Up! Z? g QA!)):=by
 have st:=Qi (ls:=ls) (G':=Ng G b (bl!)) (l:=⟨Z?,l!,g,b,QA!⟩) hi hb rfl rfl rfl;refine wo! (x.wl.YR hi hb hf g0 g1 w2) x.rc.next (λj t _ p=>p.mono M5!) ?_;show 1<=AA! (Bp G.AJ b _)\/_;rw[Ds];by_cases c:t=b;.rw[IN];exact Cn! Z!
 .rw[NE];rcases aO! x.rc (yL (G:=G) rfl rfl ht) ne with h|h;(.exact G?);.exact I6! h.mono M5!
theorem Wg.U'(x:Be!)(hi:f?){b:T2}(hb:Q2!)(hf:gg!){g:Int}(g0:Do!)(g1:g<m)(w1:s9!=1) : RA! (JC! (Ng G b 0)) (Up! wE b.1 g) (t6! (Ng G b 0) (Up! wE b.1 g)):=by
 have st:=Qi (ls:=ls) (G':=Ng G b 0) (l:=⟨wE,l!,b.1,b,g⟩) hi hb rfl rfl rfl;refine wo! (x.wl.U' hi hb hf g0 g1 w1) x.rc.next (λj t _ p=>p.mono M5!) ?_;show 1<=AA! (Bp G.AJ b 0)\/_;rw[Ds];by_cases c:t=b;.exact I! ⟨_,SH!,c.symm,J! BP!⟩
 .rw[NE];rcases aO! x.rc (yL (G:=G) rfl rfl ht) ne with h|h;(.exact G?);.exact I6! h.mono M5!
universe E
universe S
theorem X3:KB Z? Bg!:=ZV
theorem X1:KB wE Bg!:=ZV
theorem M7:KB Z? Cd!:=ZV
theorem X4:KB Bg! Cd!:=ZV
theorem X5:KB Bg! Z?:=ZV
theorem X2:KB Cd! Z?:=ZV
theorem Wt.pU(h:bS! x):(fB! (I7!\/(BC! Z?/\DO!)))/\G'.holds=G.holds/\fA!/\e9!/\G'.AU=Bm!/\(∀t,Az!=AA! G'.AJ\/(DO!/\hn!=Az!+x))/\(Qc! G'.AG.map G9!) /\ (BC! Cd!->Aj G'.AJ tb=Ki!+x)/\(BC! Z?->J2!->Aj G'.AJ tb=Ki!+x):=by
 have put:∀t,AA! (Bp G.AJ tb (Xv!))=v6 DO! (Ki!+x) Az!:=λt=>be Ds
 rcases h with⟨k,⟨c,o,f,e⟩|⟨c,e⟩⟩|⟨k,e⟩|⟨k,e⟩;.refine ro! J5! (λt=>Z! (AM! e)) J5! (bk! M7) (λ_ z=>BK! c z);(.rw[e] at ht;rcases DE! with h|h;(.exact G?);.exact wS k h);.rw[e] at ht;rcases Np! with h|h;(.rw[h];exact AH.mpr (EP! (AW f)));.exact h
 .refine ro! J5! (λt=>?_) (oc! ht) (bk! M7) (λ_ _=>by rw[e];show Aj TG! tb=_;rw[put,e?]);(.rw[e] at ht;rcases DE! with h|h;(.exact G?);.exact wS k h);.rw[e];show Az!=AA! TG!\/_;by_cases d:DO!;(.exact wS d (by show AA! TG!=_;rw[put,AF d,d]));.exact Z! (z! put (AB d))
 .refine ro! (oc! X8!) (λt=>?_) (oc! ht) (λ_=>by rw[e];show Aj TG! tb=_;rw[put,e?]) (bk! X2);rw[e];show Az!=AA! TG!\/_;by_cases d:DO!;(.exact wS d (by show AA! TG!=_;rw[put,AF d,d]));.exact Z! (z! put (AB d))
 .refine ro! (oc! X8!) (λt=>Z! (AM! e)) J5! (bk! X4) (bk! X5);rw[e] at ht;have ht:AB! (dX G tb x).map:=ht;unfold dX at ht;by_cases c:FX!;(.rw[IN] at ht;rcases Np! with h|h;(.rw[h];exact c);.exact h);.rw[NE] at ht;exact ht
theorem Wg.wt(x:Be!){a b:T?}{l:LT}(es:gz!)(np:l.kind≠wE)(hi:Cl! (qs[l.g.toNat]?)) : ∃G',Wt l.kind G l.th l.x G'/\uq! pO! BV!/\PR! pO! BV!:=by
 have hl:Io!:=N8!
 have hC:XI! (¬D l.th\/iB qs l.th):=λnb=>Z! (x.sD.aF l hl nb);obtain⟨G',wt,w9⟩:=x.wl.wt es np hC hi;obtain⟨h1,h2,h3,h4,_,h5,h6,h7,h8⟩:=wt.pU;obtain⟨s,nu⟩:=ID!;obtain⟨g0,g1,ib,kk⟩:=x.wl.ok l hl;rw[K4!] at nu;have sub:∀z∈m?,z∈ls:=AT (uY! jz!)
 have st:PR! pO! BV!:=λX y=>y.next hi (Ag! (by rcases h1 t ht with h|⟨k,e⟩;(.exact G?);.rw[e];exact J? (y.aF l hl (H! k X3)))) (λz hz _=>J! (sub z hz)) (Wt! (Ro! (S? h2 hr))) (H! h3 BU!);have x1:1<=l.x:=by rcases kk with⟨_,h⟩|⟨_,h,_⟩|⟨_,h,_⟩|⟨k,_⟩;(.exact h);(.exact h);(.exact h);.exact nH!
 refine⟨G',wt,x.step hi w9 (i9! h6) st (eW! x.rc.next (λj t ne p=>?_) ?_),st⟩;.obtain⟨z,hz,e,c⟩:=p;rw[es] at hz;rcases A7! with hz|hz;(.exact⟨z,o0 hz,e,c⟩);.rcases ZM hz with hz|hz;(.rw[hz] at c;rcases c with⟨k,_⟩|⟨_,g⟩;(.exact nH!);.exact EL! (be g) ne);.exact⟨z,ZC _ hz,e,c⟩
 .rw[K4!] at ne;have r0:=Lx s.nn t;by_cases d:Mz!;(.subst d;rcases kk with⟨k,_⟩|⟨k,_⟩|⟨k,_,eg⟩|⟨k,_⟩;(.exact Z! (Gh! (HO! h8 k nu ne)));(.exact Z! (Gh! (h7 k)));(.exact BK! eg.symm ne);.exact nH!);·(have hd:DC!:=by rcases ht with h|⟨r,hr,h⟩;(.rcases h1 t h with h|⟨_,h⟩;(.exact G?);.exact NP! d);.exact m9! (S? h2 hr));(have er:hn!=Az!:=by rcases h5 t with h|⟨h,_⟩;(.exact h.symm);.exact NP! d);rcases x.rc _ q G hi t hd (q! K4! ne) with h|⟨z,hz,e,c⟩;(.exact Z! (f1! er));.refine Zc! z ?_ c;rw[es] at hz;rcases A7! with hz|hz;(.exact o0 hz);.rcases ZM hz with hz|hz;(.exact EL! (gb! hz) d);.exact ZC _ hz
theorem Mo(KR:FX!):Qc! (iZ G tb sh GY).map G9!:=sB (by unfold iZ at ht;rcases Np! with h|h;(.rw[h];exact KR);.exact h)
theorem Wg.pass(x:Be!){a b:T?}{l:LT}(es:gz!)(hp:J9!)(hi:Cl! (qs[l.th.1.toNat]?)):g9! /\ (l.x=l.th.1->RA! (Li! true) (Kk! QF!) (PR! (Li! true) (Kk! QF!))) /\ (l.x≠l.th.1->RA! (Li! false) (Ys! (Fr! Og!)) (PR! (Li! false) (Ys! (Fr! Og!)))):=by
 have hl:Io!:=N8!
 have nb:l.kind≠Bg!:=H! hp X1
 obtain⟨KR,p1,p2⟩:=x.wl.pass es hp (AD! (x.sD.aF l hl nb)) hi;obtain⟨s,nu⟩:=ID!;obtain⟨g0,g1,ib,kk⟩:=x.wl.ok l hl;have sub:∀z∈m?,z∈ls:=AT (uY! jz!)
 have stp:∀(GY:Bool)(more:T?),(∀z∈more,z.th=l.th)->PR! (Li! GY) (m?++more):=λGY more hm X y=>UB! y.next (Ag! (by have ht:t∈dt G l.th GY:=ht;unfold dt at ht;cases GY;(.exact X8!);.rcases DE! with h|h;(.exact G?);.rw[h];exact J? (y.aF l hl nb))) (λz hz _=>by rcases A7! with hz|hz;(.exact J! (sub z hz));.rw[CY! hm];exact J? (y.aF l hl nb)) (Ro! hr);have rcn:∀(GY:Bool)(more:T?),(QF!:LT)∈more->YI (Li! GY) (m?++more):=λGY more hm=>by (have pn:∀(j:Int) t,YJ ls j t->YJ (m?++more) j t:=λj t ⟨z,hz,e,c⟩=>by rw[es] at hz;rcases A7! with hz|hz;(.exact⟨z,o0 (ZB _ hz),e,c⟩);.rcases ZM hz with hz|hz;(.rw[hz] at c e;rcases c with⟨_,c⟩|⟨k,_⟩;(.exact⟨_,ZC _ hm,e,I! (x? c)⟩);.rw[hp] at k;exact BK! k ZV);.exact⟨z,o0 (ZC _ hz),e,c⟩);refine x.rc.next hi (λj t _ p=>pn _ t p) λt ht ne=>?_;(have hd:DC!:=by rcases ht with h|h;(.have h:t∈dt G l.th GY:=h;unfold dt at h;cases GY;(.exact G?);.rcases YC! with h|h;(.exact G?);.refine BK! ?_ ne;rw[h,BO ib.1.1]);.exact AZ!);rcases x.rc _ q G hi t hd ne with h|h;(.exact G?);.exact J? (pn _ t h)
 refine⟨KR,Ms!,Ms!⟩;·(have st:=stp true [QF!] (AT (AM! (ZK hz))));exact eU! (p1 e) (r4! KR) (rcn true _ uh!)
 ·(have st:=stp false (Ys! [Og!]) (AT (by rcases A7! with hz|hz<;>rw[ZK hz])));have rn:=rcn false (Ys! [Og!]) (ZC _ (CS.mpr rfl));rw[<-AK] at st rn;exact eU! (p2 e) (r4! KR) rn
theorem Jai(h:VH (Ko G R) t):DC!/\Zg!=true:=by
 rcases h with h|⟨r,hr,h⟩;.have h:I7!:=h;exact⟨G?,by unfold Bn;rw[MT! (show t∈(keepR G R).hand from h)];rfl⟩
 .have hr:r∈(keepR G R).holds:=hr;refine Ch (m9! H7!);unfold Bn;have:ft! (keepR G R).holds.any:=IT.mpr ⟨r,hr,UF⟩;rw[this,Bool.or_true]
theorem Wg.clean(x:Be!)(hi:f?)(rc:mr!)(pm:Es!) : RA! (JC! (Ko G R)) (ve! AQ!) (jh! (Ko G R) AQ!):=by
 have st:jh! (Ko G R) AQ!:=UB! KS.less (λt ht=>ht) (λl hl nb=>by rcases Hs! with h|h;(.exact h);.obtain⟨y,_,rfl⟩:=ZN h;exact Fh! nb) (eV! H7!);refine eU! (x.wl.clean hi (Ag! (I! ⟨i,q,G,hi,ht⟩)) rc pm) (VY! ?_) (eW! x.rc.less M5! ?_);.exact QV! ht
 .obtain⟨h1,h2⟩:=Jai ht;refine Ch h1;show Az!<=mS! II!;rw[mZ! Zg!,AF h2];exact BU!
universe E
universe E K45
universe N FX
open PySem PySem.Spec PyProof.Rows L2
theorem Jjb(h:Sl k u=true):RelV (kV k) u:=by
 rcases C9 h with⟨i,t,rfl,rfl⟩|⟨x,t,rfl,rfl⟩;.exact ZP!
 .exact ZP!
universe S
theorem Pb(I:K!)(e:S3!):∃o,kb!/\p1! wE!:=by
 have ok:=I.DK d _ e;obtain⟨_,_,vs,_,o,es,ep,g,_⟩:=id ok;refine Bq! g (Lv I AH! (λxs z=>IK!) (λy z=>IK!) (λob v z=>f4! (I.base.OV d ob v z) e) (λps z=>IK!) (Ch g));refine ok.N_ (dB!) (f0!) f2!;.rw[Uq!];exact q
 .rw[Uq!];exact q
theorem tR(I:K!)(hg:Cx! wE!)(hd:HW!):∃vs,Ca!/\Yg!/\s.heap.DictAt IW! d vs ep:=by obtain⟨g,z,lo,vs,rel,o',j',kC,g',c',q',k',p',n'⟩:=fX! wE! hg;rw[g] at g';cases g';rw[hd] at q';injection q' with q1 q2;subst q1;subst q2;exact⟨vs,rel,lo,o,es,g,c',hd,k',p',n'⟩
universe E
def nK(d:Addr)(kvs:k?)(o:Obj):It :=
 UD! (l6! VE!) (∃k v,x=kV k/\aP!) (l6! (kvs.length<=i))
def nJ(d:Addr)(kvs:k?)(o:Obj):It :=
 UD! (l6! VE!) (∃k,pc (kvs[i]?) k x) (l6! (kvs.length<=i))
theorem Ja9{P:Program}{w:World}{K:W.Frag}{tg:Expr}(d it:Addr)(kvs:k?)(o:Obj)(es:C9!)(ep:Nat)(hd:HW!):U4! (S4! nK) (We! h.IsKeyIter kvs.length) where
 mem:=x!
 obj:=Q5! (by
  have e:b=it:=Bh!
  subst e
  obtain⟨oi,e,c,q⟩:=st
  exact⟨oi,e,Xc! q⟩)
 keep:=λi h h' ⟨oi,e,r⟩ k=>⟨oi,k it Db oi e,r⟩
 item:=by
  intro X hP hw hc i AA s σ H E I hf st ⟨hg,hi⟩
  subst hP hw
  obtain⟨f0,f1,f2,f3,f4,f5⟩:=Ex!
  obtain⟨vs,rel,lo,da⟩:=rc!
  have hl:Lo!:=GC!
  have hx:kvs[i]?=A! (kvs[i]):=VF!
  have hy:Tw!=some (Rg!):=RQ! fa!
  obtain⟨ek,rv⟩:=Ax rel i _ _ hx hy
  have QQ:ky! vs.length:=oP!
  refine wpAny_pyNext_dict_item QQ da (k:=(Rg!).1) (v:=(Rg!).2) hy λkey h' aH gA sb=>?_
  have I1:KM!:=TV! bA!
  obtain⟨oi,e,c,q⟩:=id gA
  refine KF (c5! q (kV kvs[i].1) ?_ (DR! rfl kvs[i].1 kvs[i].2 hx) (q! hl gA))
  rw[ek]
  exact Jjb aH
 done:=by
  intro X hP hw hc i AA s σ H E I hf st ⟨hg,hi⟩
  subst hP hw
  obtain⟨f0,f1,f2,f3,f4,f5⟩:=Ex!
  obtain⟨vs,rel,lo,da⟩:=rc!
  have hl:Lo!:=GC!
  have QQ:ky! vs.length:=oP!
  exact wpAny_pyNext_dict_end GW! QQ da (Gh! List.getElem?_eq_none_iff) (RN! (TV! (eb b ob hb e)))
 self:=UE! wpAny_pyIter_keyiter
theorem Ys{P:Program}{w:World}{K:W.Frag}{tg:Expr}(d it:Addr)(kvs:k?)(o:Obj)(es:C9!)(ep:Nat)(hd:HW!):U4! (S4! nJ) (We! h.IsValIter kvs.length) where
 mem:=x!
 obj:=Q5! (by
  have e:b=it:=Bh!
  subst e
  obtain⟨oi,e,c,q⟩:=st
  exact⟨oi,e,Xc! q⟩)
 keep:=λi h h' ⟨oi,e,r⟩ k=>⟨oi,k it Db oi e,r⟩
 item:=by
  intro X hP hw hc i AA s σ H E I hf st ⟨hg,hi⟩
  subst hP hw
  obtain⟨f0,f1,f2,f3,f4,f5⟩:=Ex!
  obtain⟨vs,rel,lo,da⟩:=rc!
  have hl:Lo!:=GC!
  have hx:kvs[i]?=A! (kvs[i]):=VF!
  have hy:Tw!=some (Rg!):=RQ! fa!
  obtain⟨ek,rv⟩:=Ax rel i _ _ hx hy
  have QQ:We! s.heap.IsValIter vs.length:=oP!
  refine wpAny_pyNext_values_item QQ da (k:=(Rg!).1) (v:=(Rg!).2) hy λh' gA sb=>?_
  have I1:KM!:=TV! bA!
  obtain⟨oi,e,c,q⟩:=id gA
  exact KF (c5! q kvs[i].2 rv (BO! kvs[i].1 hx) (q! hl gA))
 done:=by
  intro X hP hw hc i AA s σ H E I hf st ⟨hg,hi⟩
  subst hP hw
  obtain⟨f0,f1,f2,f3,f4,f5⟩:=Ex!
  obtain⟨vs,rel,lo,da⟩:=rc!
  have hl:Lo!:=GC!
  have QQ:We! s.heap.IsValIter vs.length:=oP!
  exact wpAny_pyNext_values_end GW! QQ da (Gh! List.getElem?_eq_none_iff) (RN! (TV! (eb b ob hb e)))
 self:=UE! wpAny_pyIter_valiter
universe S
def Jmz(td:TE):TI:=Xd! td (∃d kvs,XU!/\eE! H1 d kvs/\∀o,R (S4! nK) lJ!)
theorem Zr{l:Expr}{td:TE}(hl:AO! l td):ay! (Jmz td):=by
 intro AA s σ H R I h;refine aq!;rintro v s1 ⟨x,H1,I1,r1,d,kvs,ex,hd,hR⟩;subst ex;cases r1;obtain⟨o,g,I2⟩:=Pb I1 hd;obtain⟨z,lo,vs,rel,o',es,ep,g',c',q',k',p',n'⟩:=DU! (PU! H1 s1.heap d aV!) (I1.DK d _ hd);rw[g] at g';cases g';have hlen:Lo!:=GC!;have da:s1.heap.DictAt IW! d vs ep:=⟨o,es,g,c',q',k',p',n'⟩;refine wpAny_pyIter_dict lo da ?_;have fresh:=ZC!;have I3:xz lJ! { s1 with heap:=Ss! s1.heap.push VC! (ru! vs.length) }:=Zt! I2.kept (VG! G5!);refine cV! (nK d kvs o) _ I3 (Ja9 d _ kvs o es ep q') (Gd! hlen Tu!) (hR o);have e:Ww!:=Bh!
 subst e;exact I2.bG (ZG _) fresh
def Jou(td:TE):TI:=Xd! td (∃p d kvs,x=y?/\L? H1 p IZ!/\eE! H1 d kvs/\∀o,R (S4! nJ) lJ!)
theorem Uw{l:Expr}{td:TE}(hl:AO! l td):ay! (Jou td):=by
 intro AA s σ H R I h;refine aq!;rintro v s1 ⟨x,H1,I1,r1,p,d,kvs,ex,hp,hd,hR⟩;subst ex;cases r1;obtain⟨o,g,I2⟩:=Pb I1 hd;obtain⟨z,lo,vs,rel,o',es,ep,g',c',q',k',p',n'⟩:=DU! (PU! H1 s1.heap d aV!) (I1.DK d _ hd);rw[g] at g';cases g';have hlen:Lo!:=GC!;have da:s1.heap.DictAt IW! d vs ep:=⟨o,es,g,c',q',k',p',n'⟩;have hv:s1.heap.IsValuesView p d:=(I1.DK p _ hp).1;refine wpAny_pyIter_values hv da ?_;have fresh:=ZC!;have I3:xz lJ! { s1 with heap:=Ss! s1.heap.push "dict_valueiterator" (ru! vs.length) }:=Zt! I2.kept (VG! G5!);refine cV! (nJ d kvs o) _ I3 (Ys d _ kvs o es ep q') (Gd! hlen Tu!) (hR o);have e:Ww!:=Bh!
 subst e;exact I2.bG (ZG _) fresh
universe E
theorem Vd{d:Addr}{kvs:k?}{ob:Obj}{g:TG}{tb:TS}{D:Ends}{σ:L2.St}{H:Hp}(Pv:Nat->GB!)(h0:Sd!)(hf:RO! VT! (Cx! (.FQ ob (.dK kvs))))(hs:∀i k v σ H,kU! aP! (kV k))(hd:UG! kvs.length) : UA! GB! (Q9! (Or! (nK d kvs ob).stop (nK d kvs ob).go GB! (nK d kvs ob).ZQ)):=by
 refine Ud! (kvs.length-i) VT! kvs.length;rintro i m σ H ⟨rfl,hi,pv⟩;have fz:=hf i σ H hi pv;by_cases KH:VE!;.refine U2! (RD! KH) (kvs.length-KE);obtain⟨e,k,v,ex,ek⟩:=y;subst e ex;exact hs i k v σ _ ek pv
 ·(have e:i=kvs.length:=B!);subst e;exact Sa! (RD! AC) pv
theorem Sw{d:Addr}{kvs:k?}{ob:Obj}{g:TG}{tb:TS}{D:Ends}{σ:L2.St}{H:Hp}(Pv:Nat->GB!)(h0:Sd!)(hf:RO! VT! (Cx! (.FQ ob (.dK kvs))))(hs:∀i k v σ H,kU! aP! v)(hd:UG! kvs.length) : UA! GB! (Q9! (Or! (nJ d kvs ob).stop (nJ d kvs ob).go GB! (nJ d kvs ob).ZQ)):=by
 refine Ud! (kvs.length-i) VT! kvs.length;rintro i m σ H ⟨rfl,hi,pv⟩;have fz:=hf i σ H hi pv;by_cases KH:VE!;.refine U2! (RD! KH) (kvs.length-KE);obtain⟨e,k,ek⟩:=y;subst e;exact hs i k x σ _ ek pv
 ·(have e:i=kvs.length:=B!);subst e;exact Sa! (RD! AC) pv
universe S
universe E
theorem Sh(h1:IY a b)(h2:IY b c):IY a c:=by rw[Fj] at *;lia
theorem Xu(h:a≠b)(h1:¬IY a b):IY b a:=by rw[Fj] at *;have:¬(bh!/\a.2=b.2):=λz=>h (Prod.ext z.1 z.2);lia
theorem Me(key:B5!)(x:α):∀{s:U!},(s.map key).Pairwise IY->(∀y∈s,key x≠key y)->∃s':U!,fv! (s'.Perm (x::s)) s'.map
 | [],_,_=>l2! [x]
 | y::s,h,ne=>by have h':=DT.mp h;by_cases e:IY (key x) (key y);(.refine⟨x::y::s,WR!,pB! h⟩;rcases ZM hz with rfl|hz;(.exact e);.exact Sh e (h'.1 z hz));.obtain⟨s',p,q⟩:=Me key x h'.2 (u3! ne);refine⟨y::s',(p.cons y).trans (List.Perm.swap x y s),pB! q⟩;obtain⟨u,hu,rfl⟩:=BZ!;rcases ZM (p.mem_iff.mp hu) with rfl|hu;(.exact Xu (ne y Gy!) e);.exact h'.1 _ (BE hu)
theorem sorts(key:B5!):lZ! (Mm! key) (∃s:U!,fv! (s.Perm l) s.map)
 | [],_=>l2! []
 | x::l,nd=>by have NR:=Bd!;obtain⟨s,p,q⟩:=sorts key NR.2;obtain⟨s',p',q'⟩:=Me key x q λy hy e=>HI! NR.1 ⟨y,p.mem_iff.mp hy,e.symm⟩;exact⟨s',p'.trans (p.cons x),q'⟩
theorem JS{a b c:Str}{k:NameKind}{cl:BX!}{y:Str}(hc:aS!)(h:Lg! mp! mp!):Ib! :=Om! (by simp only[CB,DD,JA] at hp;rcases hp with rfl|rfl|rfl;(.rcases hk with hk|hk<;>cases hk);(.rcases hk with hk|hk<;>cases hk);.exact hc)
theorem Kq{K:W.Frag}{a p:Addr}{xs:C!}{tt:TT}{te:TE}{caps:Hj!}{σ:L2.St}{H:Hp}{Q:NL!}(Pv:Nat->G7!)(h0:Pv 0 [] eS!)(hl:∀i ys H2,Ln!->Tp!->CA K H2 a xs/\Fq!)(hs:∀i x ys H2 (N:G7!),H9!->Tp!->(∀ys H,Tt! ys H->N ys H)->wS! H2 (wq! rK!) (N ys H4))(hd:∀ys H2,Pv xs.length ys H2->DH!) : T7! (Jv! Oh! Fq! (e_ K a).stop DH! (e_ K a).go (e_ K a).ZQ (Ue! mf!)):=by
 refine un! (λi m ys H=>m=Q6!/\Ln!/\Pv i ys H) xs.length;rintro i m ys H2 ⟨rfl,hi,pv⟩;obtain⟨q1,q2⟩:=hl i ys H2 hi pv;refine Ch q2;by_cases KH:Wx!;.refine iD! (qs! q1);obtain⟨e,y⟩:=y;subst e;exact hs i x ys _ (q0! Q6! gF! (i+1<=xs.length) (Tt! zs H')) (y xs q1) pv rv!
 ·(have e:fS!:=B!);subst e;exact Al! (mz! q1) (hd ys H2 pv)
theorem tN:∀{ds:Eb!},(∀d∈ds,d.canLay0=true/\d.depth<=n)->Tk PyData.canLayAll0 ds/\PyData.depthAll ds<=n
 | [],_=>⟨by simp[PyData.canLayAll0],by simp[PyData.depthAll]⟩
 | d::ds,h=>by obtain⟨h1,h2⟩:=tN ae!;obtain⟨h3,h4⟩:=Eq! d;exact⟨by simp[PyData.canLayAll0,h1,h3],by simp only[PyData.depthAll];lia⟩
theorem Je(ds:Eb!):PyData.eqv (D8! ds) (D8! [])=ds.isEmpty:=by cases ds<;>simp[PyData.eqv,PyData.eqvAll]
theorem Jat(ds:Eb!):PyData.eqv (D9! ds) (D9! [])=ds.isEmpty:=by cases ds<;>simp[PyData.eqv,PyData.eqvAll]
abbrev HS:=D!×EQ×V!
inductive iM(K:W.Frag)(H:Hp)(v:V)(r:Gt!):Prop
 | mk (a t hd:Addr) (cs:M!) (_:XK!) (_:CA K H a [PV!,T! u?,F? hd]) (_:vu! r.1) (_:HH! hd (cs.map V.ref)) (_:BC H cs SL)
inductive iO(K:W.Frag)(H:Hp)(v:V)(q:Bi!):Prop
 | mk (a t:Addr) (_:XK!) (_:CA K H a [PV!,T! q.2]) (_:vu! q.1)
inductive X_(K:W.Frag)(H:Hp)(x:Addr)(S:HS):Prop
 | mk (y1 y2 y3:Addr) (as:M!) (bs ds:C!) (_:HH! x (qH! y1 y2 y3)) (_:HH! y1 SR!) (_:BC H as S.1) (_:HH! y2 bs) (_:E4! (iM K H) bs Jr!) (_:HH! y3 ds) (_:E4! (iO K H) ds S.2.2)
universe S
variable {K:W.Frag}{H H':Hp}
theorem iM.keep(k:p?){v:V}{r:Gt!}(h:iM K H v r):iM K H' v r:=by obtain⟨a,t,hd,cs,e,e1,e2,e3,th⟩:=h;exact⟨a,t,hd,cs,e,k.sq e1,TE!,k.sq e3,BC.keep k th⟩
theorem iO.keep(k:p?){v:V}{q:Bi!}(h:iO K H v q):iO K H' v q:=by obtain⟨a,t,e,e1,e2⟩:=h;exact⟨a,t,e,k.sq e1,TE!⟩
theorem X_.keep(k:p?){x:Addr}{S:HS}(h:Hr! x S):X_ K H' x S:=by obtain⟨y1,y2,y3,as,bs,ds,e,e1,t1,e2,t2,e3,t3⟩:=h;exact⟨y1,y2,y3,as,bs,ds,k.sq e,k.sq e1,BC.keep k t1,k.sq e2,SV! (r.keep k) t2,k.sq e3,SV! (r.keep k) t3⟩
universe E
universe S
variable {p:Addr}{b:T2->Bool}{ts:List T2}{H:Hp}{tt:TT}{caps:List (Str×Nat)}{σ:L2.St}{Q:Hp->Prop}
theorem Tc{K:W.Frag}{l:Addr}{as:M!}(hp:Pi!)(hz:gl!)(hl:HH! l SR!)(th:A9!)(ht:sR! (t∈ts))(k:∀(H2:Hp) (bs:M!),Jn!->jL! p bs.map->p6! ts.filter->DH!) : T7! (Jv! Oh! Fq! (e_ K l).stop DH! (e_ K l).go (e_ K l).ZQ (Ue! (re! (A! x) vZ!))):=by
 have lt:=KV!;refine Kq (K:=K) (a:=l) (p:=p) (xs:=ZD!) (caps:=caps) (QZ! (ne! i H2)) (JP.start hp) (λi ys H2 _ pv=>?_) (λi x ys H2 N hx pv n=>?_) λys H2 pv=>?_;.obtain⟨bs,_,sm,GV,_⟩:=pv;exact⟨(EI sm).sq hl,GV⟩
 .rw[ZH] at hx;cases ea:Qb! with | none=>rw[ea] at hx;cases hx | some a =>rw[ea] at hx;have hx:gk!:=ZO hx;subst hx;obtain⟨t,et⟩:=qM!;have ha:=rf! et;obtain⟨bs,e0,sm,GV,ZX⟩:=id pv;exact xM hp hz ht pv et (X! sm ha) n
 .obtain⟨bs,ey,sm,GV,ZX⟩:=pv;rw[ZA,lt,BL] at ZX;exact k H2 bs sm (f9! GV) ZX
universe E
inductive Jgk(K:W.Frag)(x:V)(vs:C!)(H:Hp)(Q:VK):Prop
 | mk l b xs zs (_:XV!) (_:vs=[Uf]) (_:Ok!) (_:HH! b zs) (_:At! (xs.length+zs.length)) (_:Q .EO (Sh! (xs++zs)))
theorem R5{X:G!}:pM X "list.extend" (Jgk Kx):=by
 intro AA s σ H x vs v us Q I rx rv h;obtain⟨l,b,xs,zs,rfl,rfl,hH,hB,hz,q⟩:=h;cases rx;obtain⟨u,rfl,ru⟩:=rv.one;cases ru;obtain⟨z,its,n,r,hl,e⟩:=bd!;obtain⟨QW,r2,⟨o2,e2,c2,n2,q2⟩,z2⟩:=I.tuple hB;have l1:=r.length;have l2:=r2.length;have hsz:At! fk!:=W2! AZ AZ
 have fV:¬AT! (!its.toArray.isEmpty&&Builtin.List.listTooLong (fk!)):=ga (Z4 hsz) Bool.and_false AR
 refine DG F.slot_list_extend ZE! F.entry_list_extend ?_ (F.args_list_extend_2 _ _);show Vp! (Builtin.List.listExtendWith (Y! l) FN! l?);unfold Builtin.List.listExtendWith;refine ZR (wpAny_typeOf (T:=AJ!) ⟨o2,e2,c2⟩ ?_);have ht:AT! (Q7! AJ! == Q7! AJ!):=by rfl
 rw[AF (DL! ht)];refine OS! listItems_at e2 q2 (listItems_at e rfl ?_);rw[AB fV];refine ZR (listUpdate_at e rfl ?_ (Dk! AZ) (show(its.toArray++QW.toArray).size<=sizeLine+1 by rw[Array.size_append];exact GO! E9!));refine ZS (KF (DR! .EO _ (sE! (its++QW) Db (r.append r2)) q));rw[ZE];assumption
def rowsOf(L:Bz!):EQ:=XA! L.flatMap
def Hs(l:V!)(t:T2):Int:=bF! l.find? hf!
def addW(a:V!)(q:Bi!):V!:=Bp a q.1 (Hs a q.1+q.2)
def Dh(L:Bz!):V!:=(L.flatMap Cm!).foldl addW []
inductive Led(L:Bz!):n?
 | hand {S:HS} {t:T2} (h:S∈L) (m:t∈S.1):LG!
 | out {r:Gt!} (h:ge!) (m:u?≠Hs (Dh L) r.1):Led L r.1
 | step {r:Gt!} {u:T2} (h:ge!) (m:u∈SL) (l:Led L r.1):Led L u
structure Found(L:Bz!)(ts:D!):Prop where
 pw:ts.Pairwise IY
 mem:ob! mD! (¬LG!)
theorem P5(a:T2):¬IY a a:=λh=>by rw[Fj] at h;lia
theorem Rf:∀{l m:D!},l.Pairwise IY->m.Pairwise IY->(∀t,E2!↔t∈m)->l=m
 | [],[],_,_,_=>rfl
 | [],b::m,_,_,h=>by have:=(h b).mpr (Ai!);cases this
 | a::l,[],_,_,h=>by have:=(h a).mp (Ai!);cases this
 | a::l,b::m,h1,h2,h=>by have mU:=DT.mp h1;have dW:=DT.mp h2;(have e:a=b:=by rcases ZM ((h a).mp (Ai!)) with e|ha;(.exact e);.rcases ZM ((h b).mpr (Ai!)) with e|hb;(.exact e.symm);.exact KN! (Sh (mU.1 b hb) (dW.1 a ha)) P5 a);subst e;congr 1;refine Rf mU.2 dW.2 λt=>⟨λht=>?_,λht=>?_⟩;(.rcases ZM ((h t).mp (Aj! ht)) with e|hm;(.rw[e] at ht;exact KN! (mU.1 a ht) P5 a);.exact hm);.rcases ZM ((h t).mpr (Aj! ht)) with e|hm;(.rw[e] at ht;exact KN! (dW.1 a ht) P5 a);.exact hm
theorem Found.one(a:Found L ts)(b:Found L us):ts=us:=Rf a.pw b.pw λt=>(a.mem t).trans (b.mem t).symm
universe E FX
universe N K45
open PySem L2 FX
def J7(t:T2)(rs:V!):Int:=(rs.map λq=>fz! GE q.2).sum
theorem Vb(t:T2):∀(rs a:V!),Hs (rs.foldl addW a) t=Hs a t+J7 t rs
 | [],a=>by simp[J7]
 | q::rs,a=>by rw[List.foldl_cons,Vb t rs];have e:Hs (addW a q) t=AA! (Bp a q.1 (Hs a q.1+q.2)):=rfl;rw[e,Ds];unfold J7;rw[AI,CV];by_cases c:t=q.1;(.rw[IN,AF c.symm,c];lia);.rw[NE,AB (L8! c)];show Hs a t+_=_;lia
theorem Jft(t:T2)(a b:V!):J7 t BV!=J7 t a+J7 t b:=by unfold J7;rw[ZF,LX]
theorem Uk(t:T2):∀(L:Bz!),J7 t (L.flatMap Cm!)=(L.map λS=>J7 t S.2.2).sum
 | []=>rfl
 | S::L=>by rw[B_,Jft,Uk t L,AI,CV]
theorem Va(t:T2)(L:Bz!):Hs (Dh L) t=(L.map λS=>J7 t S.2.2).sum:=by unfold Dh;rw[Vb,Uk];show 0+_=_;lia
theorem Yw{t:T2}:∀{rs:V!},YU!->J7 t rs=AA! rs
 | [],_=>rfl
 | q::rs,nd=>by have NR:=Bd!;have ih:=Yw (t:=t) NR.2;rw[Jap];unfold J7 at *;rw[AI,CV,ih];by_cases c:GE;(.rw[IN,IN,s8! Fm c NR.1];lia);.rw[NE,NE];lia
theorem Lg{α:Type}{f:α->Int}{b:SI!}:∀{l:U!},(∀x∈l,0<=f x)->d1! l.filter b f<=Xw! f/\∀j∈l,r? (b j)->d1! l.filter b f+f j<=Xw! f
 | [],_=>⟨x!,λj hj=>AL! hj⟩
 | a::l,h=>by obtain⟨i1,i2⟩:=Lg (f:=f) (b:=b) (l:=l) λx hx=>h x (Aj! hx);have h0:=Eq! a;rw[DX];cases c:b a with | true =>rw[e?,AI,CV,AI,CV];refine V2! (λj hj bj=>?_);rcases ZM hj with e|hj;(.rw[e,c] at bj;cases bj);.have:=i2 j hj bj;lia | false =>rw[AB AR,AI,CV];refine V2! (λj hj bj=>?_);rcases ZM hj with e|hj;(.rw[e];lia);.have:=i2 j hj bj;lia
def bS(t:T2)(qs:B?)(h:Nat):Int:=(qs[h]?.map λp=>AA! p.2.AJ).getD 0
def cV(t:T2)(qs:B?)(h:Nat):Int:=(qs[h]?.map λp=>AA! p.2.AG).getD 0
theorem Qh(t:T2):∀(qs:B?),Ib t qs=Wa! qs.length (λh=>bS t qs h)-Wa! qs.length (λh=>mM!)
 | []=>by simp[Ib]
 | p::qs=>by have ih:=Qh t qs;rw[BM,List.range_succ_eq_map];simp only[AI,AN,CV];(have e1:((λh=>bS t (p::qs) h) ∘ Nat.succ)=λh=>bS t qs h:=by funext h;simp[bS]);(have e2:((λh=>cV t (p::qs) h) ∘ Nat.succ)=λh=>mM!:=by funext h;simp[cV]);rw[e1,e2];show WH! p.2 qs=_;rw[ih];unfold OT;(have e3:bS t (p::qs) 0=AA! p.2.AJ:=by simp[bS]);(have e4:cV t (p::qs) 0=AA! p.2.AG:=by simp[cV]);rw[e3,e4];lia
theorem Jcr{f:C7!}{h0:Nat}:∀{m:Nat},h0<m->(∀h,h≠h0->f h=0)->kx! f=f h0
 | 0,hl,_=>B!
 | m+1,hl,h=>by rw[DM,ZF,LX];simp only[AI,DW,CV,List.sum_nil];by_cases c:h0=m;(.subst c;(have:∀k,k<=h0->Wa! k f=0:=λk=>by induction k with | zero=>intro _;simp | succ k ih =>intro hk;rw[DM,ZF,LX,Cn! ih];simp only[AI,DW,CV,List.sum_nil];rw[h k F!];lia);rw[this h0 ci];lia);.rw[Jcr (m:=m) F! h,h m (ZH!)];lia
structure tU(G:BZ)(S:HS):Prop where
 hand:PF! (t∈S.1)
 row:∀t∈EH!,∃r∈Jr!,r.1=t
 ya:∀r∈Jr!,r.1∈EH!/\u?=Aj G.AG r.1
 yb:∀r∈Jr!,O5! (q.1=r.1->∀t∈FS,t∈SL)
 AJ:∀t,J7 t S.2.2=Az!
 JFi:∀t∈S.1,I7!
 JFg:∀r∈Jr!,gf! (t∈De G.holds r.1)
def Lb(m:Nat)(b:SF!)(S1:GE!):Bz!:=(mJ! b).map S1
def GS(m:Nat)(b:SF!)(S1:GE!)(t:T2):Prop:=AB! (rowsOf (Lb m b S1)).map/\¬Led (Lb m b S1) t
theorem bM{m:Nat}{b:SF!}{S1:GE!}{S:HS}:S∈Lb m b S1↔∃h,h<m/\b h=true/\S1 h=S:=by
 unfold Lb;rw[AH];constructor;.rintro⟨h,hh,e⟩;obtain⟨h1,h2⟩:=AD.mp hh;exact⟨h,BN.mp h1,h2,e⟩
 .rintro⟨h,h1,h2,e⟩;exact⟨h,Ek! (BN.mpr h1) h2,e⟩
theorem JQ{L:Bz!}{r:Gt!}:ge!↔∃S∈L,r∈Jr!:=by unfold rowsOf;exact BG
universe S
variable {D:T2->Prop}{m n:Nat}{sh:Int}{qs:List (Addr×BZ)}{ls:List LT}
theorem Wg.snap(x:Be!){b:SF!}{S1:GE!}(hs:∀(h:Nat) q G,Cl! (qs[h]?)->b h=true->tU G (S1 h)):Le! (GS m b S1):=by
 have lm:=x.wl.len;have key:∀t,GS m b S1 t->(∃(h:Nat)(q:Addr)(G:BZ),Cl! (qs[h]?)/\b h=true/\t.1=BN!/\G9!)/\Dg t ls=0/\og! (r? (b j)) (Az!=0):=λt ⟨ht,nl⟩=>by obtain⟨r,hr,e⟩:=ZN ht;obtain⟨S,hS,JR⟩:=JQ.mp hr;obtain⟨h,hm,bh,e2⟩:=bM.mp hS;subst e2;obtain⟨⟨q,G⟩,eq⟩:=Qf! qs h;have T:=hs h q G eq bh;obtain⟨o1,o2⟩:=T.ya r JR;obtain⟨s,nu⟩:=x.num eq;rw[e] at o1 o2;(have t1:t.1=BN!:=z! (mI! o1) nu);have ew:u?=Hs (Dh (Lb m b S1)) r.1:=Classical.byContradiction (X? nl (XT! (.out hr z)));rw[e,Va] at ew;(have eR:∀k,k<m->∃q G,Cl! (qs[k]?)/\ac!=Az!/\cV t qs k=JE!:=λk hk=>by obtain⟨⟨q,G⟩,eq⟩:=Qf! qs k;exact⟨q,G,eq,by unfold bS;rw[eq];rfl,by unfold cV;rw[eq];rfl⟩);(have eA:((Lb m b S1).map λS=>J7 t S.2.2).sum=d1! mJ! b (λk=>ac!):=by unfold Lb;rw[AN];congr 1;refine CL Xk!;obtain⟨h1,h2⟩:=AD.mp hk;obtain⟨q',G',VN,e3,_⟩:=eR k (BN.mp h1);show J7 t (S1 k).2.2=ac!;rw[e3,(hs k q' G' VN h2).AJ t]);rw[eA] at ew;(have nnR:∀k∈List.range m,0<=ac!:=λk hk=>by obtain⟨q',G',VN,e3,_⟩:=eR k (BN.mp hk);rw[e3];exact Lx (x.num VN).1.nn t);(have sO:kx! (λk=>cV t qs k)=mM!:=Jcr hm λk nk=>by by_cases hk:k<m;(.obtain⟨q',G',VN,_,e4⟩:=eR k hk;rw[e4];exact x.wl.p7 (r:=(q',G')) VN (Dk! t1));.unfold cV;rw[Cn! DP];rfl);(have oh:mM!=JE!:=by unfold cV;rw[eq];rfl);have sm:=x.wl.sum t (TD ⟨h,q,G,eq,o1⟩);rw[Qh,lm,sO,oh,<-o2] at sm;have l0:=P0 (t:=t) x.wl.ok;obtain⟨f1,f2⟩:=q? Lg f (λk=>ac!) b b nnR;refine⟨⟨h,q,G,eq,bh,t1,o1⟩,B!,λj q' G' VN bj=>?_⟩;(have hj:j<m:=HD! lm VN);have f3:=f2 j (BN.mpr hj) bj;(have e5:bS t qs j=AA! G'.AJ:=by unfold bS;rw[VN];rfl);have nn5:=nnR j (BN.mpr hj);rw[e5] at f3 nn5;lia
 have nol:∀t,GS m b S1 t->CF! (l.th≠t):=λt ht l hl e=>by have:=Yy x.wl.ok hl;rw[e,(key t ht).2.1] at this;lia
 have far:∀t,GS m b S1 t->og! (r? (b j)) (¬DC!):=λt ht j q G eq bj hd=>by obtain⟨⟨h,q',G',VN,bh,t1,_⟩,_,z⟩:=key t ht;(have nj:l4!:=λy=>by (have:h=j:=B!);rw[this,bj] at bh;cases bh);rcases x.rc j q G eq t hd nj with r|⟨l,hl,e,_⟩;(.have:=z j q G eq bj;lia);.exact nol t ht l hl e
 refine⟨λj q G eq t ht gs=>?_,λl hl _ gs=>nol _ gs l hl rfl,λj q G eq r0 ZZ t ht gs=>?_,λj q G eq t gs tj=>?_⟩;.cases bj:b j with | false=>exact far t gs j q G eq bj (AD! ht) | true =>(have hj:j<m:=HD! lm eq);exact gs.2 (.hand (bM.mpr ⟨j,hj,bj,rfl⟩) ((hs j q G eq bj).hand t ht))
 .cases bj:b j with | false=>exact ME! J? ⟨r0,ZZ,ht⟩ (far t gs j q G eq bj) | true =>(have hj:j<m:=HD! lm eq);have T:=hs j q G eq bj;obtain⟨s,nu⟩:=x.num eq;obtain⟨r,hr,e⟩:=T.row r0.1 (gA! s.ok.ke r0 ZZ);have mr:r∈rowsOf (Lb m b S1):=JQ.mpr (jp (bM.mpr ⟨j,hj,bj,rfl⟩) hr);refine⟨VW! r mr e,λld=>gs.2 ?_⟩;exact .step mr (T.yb r hr r0 ZZ e.symm t ht) (HX! ld)
 .obtain⟨⟨h,q',G',VN,bh,t1,o1⟩,_⟩:=key t gs;(have:h=j:=B!);subst this;have e:(q',G')=E3!:=ZO (VN.symm.trans eq);obtain⟨s,nu⟩:=x.num eq;exact(s.ok.new t (EX! (Wu! e) o1)).2
universe E
def G0(G:BZ)(ts:D!):BZ:=lM!
universe S
variable {D F:T2->Prop}{m n:Nat}{sh:Int}{qs:List (Addr×BZ)}{ls:List LT}{i:Nat}{q:Addr}{G:BZ}{ts:List T2}
theorem Xy{t:T2}(h:VH Qv! t):DC!/\LB!=true:=by
 rcases h with h|⟨r,hr,h⟩;.have h:I7!:=h;exact⟨G?,by unfold Bn;rw[MT! (show t∈(Al G ts).hand from h)];rfl⟩
 .have hr:r∈(Al G ts).holds:=hr;refine Ch (m9! H7!);unfold Bn;have:ft! (Al G ts).holds.any:=IT.mpr ⟨r,hr,UF⟩;rw[this,Bool.or_true]
theorem Joq(ok:FB)(h1:PF! (t∉ts))(h2:∀r∈G.holds,r.1∉ts->gf! (t∉ts)):TA!:=by
 have sub:(G.AG.filter (At Hd!)).Sublist G.AG:=EU;refine⟨ok.hn,ok.hz,ok.on.sublist (sub.map _),AV sub.length_le ok.oz,?_,ok.rn,ok.rz,ii (ok.ln r H7!),sB (ok.new t ((sub.map _).subset ht)),M2!,λr hr t ht e=>?_,ok.rk⟩;.show pW! Hd! Hd!;(have e1:jf! (G.holds.filter (At Hd!)).map (G.holds.map (·.1)).filter:=be JH);(have e2:jf! (G.AG.filter (At Hd!)).map Zs!:=be JH);rw[e1,e2,ok.ke]
 .have m:=ok.hk t ht e;obtain⟨o,ho,eo⟩:=Dr!;exact VW! o (Ek! ho (by rw[eo];simpa using h1 t ht)) eo
 .obtain⟨HC,JR⟩:=AD.mp hr;have m:=ok.lk r HC t ht e;obtain⟨o,ho,eo⟩:=Dr!;exact VW! o (Ek! ho (by rw[eo];simpa using h2 r HC (by simpa using JR) t ht)) eo
theorem Joa(x:Bf!)(dw:TA!):Di! Qv!:=by refine Tc! (dw.HN.mono (EW n)) (I! ⟨q,ee!,ht⟩) (am! x.nn) mi! (λt ht hk=>?_);obtain⟨q,hq,e⟩:=ZN hk;refine i1! (oD! hq) e;rw[e];exact(q? Xy G G ts ts ht).2
theorem Wg.zG(x:Be!)(hi:f?)(sF:Le! F)(fD:∀t,F t->D t)(ht:ob! (F t) (t.1=l!)){rs:V!}(pm:Es!) : uq! (JC! Dw!) (ve! ol)/\jh! Dw! ol/\TA!:=by
 obtain⟨s,nu⟩:=ID!;have rV:TA!:=Joq s.ok (λt m z=>aO! sF.hand m ((ht t).mp z).1) λr hr nr t m z=>nr ((ht r.1).mpr ⟨sF.hold i q G hi r hr t m ((ht t).mp z).1,z! (s.ok.new r.1 (EX! s.ok.ke (Pv! r hr))).1 nu⟩);have st:jh! Dw! ol:=UB! KS.less (λt ht=>ht) (λl hl nb=>by rcases Hs! with h|h;(.exact h);.obtain⟨y,_,rfl⟩:=ZN h;exact Fh! nb) (eV! H7!);have gone:∀t∈ts,¬(¬D t\/iB (JC! Dw!) t):=λt m z=>by obtain⟨f,t1⟩:=(ht t).mp m;rcases z with z|⟨j,q',G2,e,o⟩;(.exact z (fD t f));.rcases Fc e with⟨_,e2,_⟩|⟨nj,e⟩;(.rw[e2] at o;obtain⟨y,hy,ey⟩:=ZN o;have:=QM! hy;rw[ey] at this;exact(BU this) m);.obtain⟨s2,nu2⟩:=x.num e;have:=(s2.ok.new t o).1;lia
 have C':∀t,(¬D t\/iB (JC! Dw!) t)->(¬D t\/iB qs t):=λt h=>by rcases h with h|h;(.exact G?);.rcases h.set hi with h|h;(.exact AZ!);.exact I! ⟨i,q,G,hi,QV! h⟩
 refine⟨⟨(x.wl.mono C').next hi (Joa s rV) rfl fr! (λt ct=>?_) ?_,st D x.sD,x.rc.less hi (M5!) λt ht ne=>?_⟩,st,rV⟩;.rcases A7! with hz|hz;(.exact CY! x.wl.ok);.obtain⟨y,hy,rfl⟩:=BZ!;obtain⟨vI,vH⟩:=AD.mp hy;have vG:=pm.mem_iff.mp (FC! vI);have im:=s.ir y.1 (AH.mpr (C1! y vG));exact⟨im.1.1,im.2,im,Hl! (BO! (by have:=BU vH;show 1<=y.2;lia) rfl)⟩
 .rw[Ie];have gE:YU!:=fq! pm.map s.ok.rn;have e1:Dg t ((Cd ol rs).map (Jg l!))=Aj (rs.filter λq=>! Ft!) t :=To l! t (gE.sublist (List.filter_sublist.map _)) (ii (s.nn r (pm.mem_iff.mp H7!)));rw[e1,Ey rs (λt=>! LB!) t,Su pm s.ok.rn];show MP! (mS! Ft!-Aj (G.AG.filter (At Hd!)) t+_);rw[mZ! LB!,Ey G.AG (WW!) t];rw[AF (decide_eq_true (Mw! (t∈ts) (λz=>gone t z ct)))];cases LB!;(.rw[C6!,AF (by rfl)];lia);.rw[e?,C6!];lia
 .rw[ZE,ZA];have h1:cH! ol Ft!:=Kg!;have h2:=(pm.filter λq=>! Ft!).length_eq;have h3:=Nd (PA! Ft!) G.AJ;show SZ G.AJ.filter (λq=>Ft!)+_<=_;lia
 .obtain⟨h1,h2⟩:=Xy ht;refine Ch h1;show Az!<=mS! Ft!;rw[mZ! LB!,AF h2];exact BU!
theorem Wg.more(x:Be!)(sF:Le! F):VQ! Wg (λt=>D t\/F t) n :=⟨x.wl.mono λt h=>by rcases h with h|h;(.exact J! (JF! h Z!));.exact AZ!,⟨λj q G e t ht z=>z.elim (x.sD.hand j q G e t ht) (sF.hand j q G e t ht),λl hl nb z=>z.elim (x.sD.aF l hl nb) (sF.aF l hl nb),λj q G e r hr t ht z=>z.elim (X? Z! (x.sD.hold j q G e r hr t ht z)) (X? J? (sF.hold j q G e r hr t ht z)),λj q G e t z tj=>z.elim (λz=>x.sD.old j q G e t z tj) λz=>sF.old j q G e t z tj⟩,x.rc⟩
universe E
universe E K45
universe N FX
open PySem PySem.Spec PyProof.Rows L2
def rg(n:Nat):j!:=Sv! n (Gg! AF!)
theorem Du(n:Nat):SZ rg n=n:=by unfold rg;rw[ZA,BW]
theorem KG:x∈rg n↔(0<=x/\x<n):=by
 unfold rg;rw[AH];constructor;.rintro⟨k,hk,rfl⟩;have:=BN.mp hk;lia
 .rintro⟨h1,h2⟩;exact⟨x.toNat,YS!,J1! BO⟩
universe S
universe E
universe E FX
universe N K45
open PySem L2 FX
inductive LL where
 | w (l:LT)
 | ask (s g n u:Int)
 | HQ (s g n u tick:Int) (S:HS)
 | lt (s g:Int) (ts:D!)
def rC:LL->Go! LT
 | .w l=>A! l
 | _=>none
def kO(n u:Int):LL->Go! Int
 | .ask _ g n' u'=>uV! (n'=n) (u'=u) g
 | _=>none
def Pq(n u:Int):LL->Option (gQ!)
 | .HQ s _ n' u' tick S=>uV! (n'=n) (u'=u) QP!
 | _=>none
def C3(al:S!)(n u:Int):j!:=al.filterMap (kO n u)
def Bi(al:S!)(n u:Int):B6!:=al.filterMap (Pq n u)
def JL(al:S!):T?:=al.filterMap rC
theorem Cq(a b:S!)(n u:Int):Qj! u=OJ! a++OJ! b:=VB ..
theorem A9(a b:S!)(n u:Int):IJ! u=K7! a++K7! b:=VB ..
theorem Dx(a b:S!):Zu!=JL a++JL b:=VB ..
theorem Gi(z:LL)(b:S!)(n u:Int):C3 (z::b) n u=(kO n u z).toList++OJ! b:=by unfold C3;rw[G_];cases kO n u z<;>rfl
theorem Dj(z:LL)(b:S!)(n u:Int):Bi (z::b) n u=(Pq n u z).toList++K7! b:=by unfold Bi;rw[G_];cases Pq n u z<;>rfl
def Jrf(al:S!):Prop:=∀n u,IB!=[]/\Kc! u
theorem Jo:∀ls:T?,Jrf (ls.map .w)
 | []=>λn u=>BP!
 | l::ls=>λn u=>⟨by rw[AI,Gi];exact(Jo ls n u).1,by rw[AI,Dj];exact RB! ls⟩
theorem xp:∀ls:T?,JL (ls.map .w)=ls
 | []=>rfl
 | l::ls=>by show l::JL (ls.map .w)=_;rw[xp ls]
structure pJ(h:Int)(S:HS):Prop where
 nd:o? S.2.1.map
 hz:S.1.length<=60
 rz:S.2.2.length<=60
 oz:∀w∈Jr!,w.1.1=h/\0<=w.1.2/\w.2.2.length<=60
structure Jw(qs:B?)(r:gQ!):Prop where
 tk:og! (r.1=BS!) (u?<=G.AU/\(u?=G.AU->tU G SL))
 so:pJ r.1 SL
 nw:og! (r.1=BS!) (∀w∈r.2.2.2.1,w.1.2<G.AY)
def Gb(fi:B6!)(h:Nat):Int:=((fi.find? LR!).map Gl!).getD 0
def Jj(fi:B6!)(h:Nat):HS:=((fi.find? LR!).map Cm!).getD ([],[],[])
def Still(qs:B?)(al:S!)(n:Int)(fi:B6!)(se:CT!)(h:Nat):Prop :=
 (∃r∈se,bZ! DF!)\/(∃r∈Pf! 2,r.1=BN!/\u?=DF!)\/(BN!∈Ks!/\∃q G,Cl! (qs[h]?)/\G.AU=DF!)
structure OJ(m:Nat)(qs:B?)(ls:T?)(al:S!)(n:Int)(fi:B6!)(se:CT!):Prop where
 t1:Zi! Y8! al 1 Hk!
 t2:(fi.length<m/\Ks!=[]/\Kc! 2/\se=[])\/(Ot!/\Zi! Ks! al 2 KI!)
 f1:∀r∈fi,bJ!
 f2:∀r∈jQ!,bJ!
 s2:Ot!->∀b:SF!,(∀h:Nat,h<m->b h=true->Still qs al n fi se h)->Le! (GS m b (Jj fi))
theorem Jlj{m:Nat}{fi:B6!}(pm:TI! fi.map){h:Nat}(hh:h<m):∃r∈fi,r.1=BN!/\DF!=u?/\bx!=SL:=by have m1:BN!∈Hk!:=pm.mem_iff.mpr (KG.mpr Z1!);obtain⟨r0,ZZ,e0⟩:=ZN m1;cases e:fi.find? LR! with | none =>have:=pv!;simp[e0] at this | some r =>refine Bw! r (AW e) XY! ?_;(.unfold Gb;rw[e];rfl);.unfold Jj;rw[e];rfl
universe S
variable {m:Nat}{qs qs':List (Addr×BZ)}{ls OI:List LT}{al al':List LL}{n:Int}{fi:List (Int×Int×HS)}{se:List (Int×Int)}{i:Nat}{q:Addr}{G G':BZ}
theorem OJ.whole(x:Dv!)(e:Ot!):Y8!=[]/\Kc! 1/\TI! fi.map:=by have l:=x.t1.length_eq;rw[ZE,ZE,ZA,ZA,Du] at l;have e1:Y8!=[]:=GD!;have e2:Kc! 1:=GD!;refine GM e1 e2;have t:=x.t1;rw[e1,e2] at t;exact t
theorem OJ.ko(x:Dv!)(ha:∀u,OJ! al'=IB!)(hb:∀u,K7! al'=Pf! u)(st:PR! qs OI):OJ m qs OI al' n fi se:=by refine⟨oW! x.t1,oW! x.t2,x.f1,H! hb x.f2,λe b hs=>st _ (x.s2 e b hA!)⟩;have:=ch!;unfold Still at *;rw[ha,hb] at this;exact this
theorem OJ.fK(x:Dv!)(hi:f?)(tk:Wz!)(md:Ip!)(ha:∀u,OJ! al'=IB!)(hb:∀u,K7! al'=Pf! u)(st:iv! OI):OJ m ET! OI al' n fi se:=by
 have fo:∀r,bJ!->Jw ET! r:=λr h=>⟨λj q2 G2 e ej=>by rcases Fc e with⟨e1,e2,_⟩|⟨_,e⟩;(.have:=h.tk i q G hi (z! ej e1);rw[e2];exact V2! (λz=>B!));.exact h.tk j q2 G2 e ej,h.so,λj q2 G2 e ej w9 hw=>by rcases Fc e with⟨e1,e2,_⟩|⟨_,e⟩;(.have:=h.nw i q G hi (HU! ej e1) w9 hw;rw[e2];lia);.exact h.nw j q2 G2 e ej w9 hw⟩;refine⟨oW! x.t1,oW! x.t2,ii (fo r (x.f1 r hr)),ii (fo r (x.f2 r (EX! hb hr))),λe b hs=>st _ (x.s2 e b hA!)⟩;have:=ch!;unfold Still at *;rw[ha,hb] at this;rcases this with h1|h1|⟨h1,q2,G2,e2,e3⟩;.exact J! h1
 .exact Bs! h1
 .rcases Fc e2 with⟨e4,e5,_⟩|⟨_,e4⟩;(.exfalso;obtain⟨r,hr,er,et,_⟩:=Jlj (x.whole e).2.2 hh;have:=((x.f1 r hr).tk i q G hi (z! er e4)).1;rw[e5] at e3;lia);.exact Ap! ⟨h1,q2,G2,e4,e3⟩
theorem OJ.asked(x:Dv!)(es:FY! (D2! s g n' u))(g0:Do!)(hi:Cl! (qs[g.toNat]?))(et:tick=G.AU)(tl:tU G S)(so:pJ g S)(nw:∀w9∈Jr!,w9.1.2<G.AY):vt! (Kk! cW!) fi:=by
 have A:∀n u2,C3 (Fr! cW!) n u2=Qj! u2:=λn u2=>by rw[Cq];show _++[]=_;rw[AE]
 have A0:∀u2,C3 al n u2=C3 a n u2++(en! (n'=n) (u=u2) g++C3 b n u2):=λu2=>Iy! es Cq Gi
 have B:∀u2,Bi (Fr! cW!) n u2=Pf! u2++en! (n'=n) (u=u2) ZU!:=λu2=>by rw[A9,A9,es,A9,Dj,Dj];show _++(en! (n'=n) (u=u2) ZU!++[])=_;rw[AE];rfl
 have eG:∀(j:Nat) q2 G2,pc (qs[j]?) q2 G2->g=BS!->G=G2:=λj q2 G2 e ej=>by (have:j=g.toNat:=B!);rw[this,hi] at e;exact qv! e
 have fo:Jw qs ZU!:=⟨λj q2 G2 e ej=>by rw[<-eG j q2 G2 e ej];exact⟨bn (tick<=G.AU),λ_=>tl⟩,so,λj q2 G2 e ej w9 hw=>S? (eG j q2 G2 e ej) (nw w9 hw)⟩;have pmv:∀(P9 Q R T:j!)(y:Int),(P9++([y]++Q)++R++T).Perm (P9++Q++(R++[y])++T):=λP9 Q R T y=>by refine RC T ?_;have h1:(P9++([y]++Q)).Perm (y::(P9++Q)):=QK;(have h2:(P9++Q++(R++[y])).Perm (y::(P9++Q++R)):=f8! (C_ (l₂:=[y])));exact(h1.append_right R).trans h2.symm
 have tok:∀u2 (T:j!),(eb! (C3 al n u2) al u2++T).Perm (rg m)->(eb! (C3 (Fr! cW!) n u2) (Kk! cW!) u2++T).Perm (rg m):=λu2 T h=>by rw[A,B,Cq,ZF];rw[A0] at h;by_cases c:n'=n/\u=u2;(.rw[IN] at h ⊢;exact(pmv _ _ _ _ g).symm.trans h);.rw[NE] at h ⊢;simpa using h
 refine⟨tok 1 _ x.t1,?_,x.f1,F1!,λe bb hs=>x.s2 e bb hA!⟩;.rcases x.t2 with⟨z1,z2,z3,z4⟩|⟨z1,z2⟩;(.rw[A0] at z2;(have nc:¬(n'=n/\u=2):=λc=>by rw[IN] at z2;simp at z2);rw[AB nc] at z2;refine J! ⟨z1,?_,?_,z4⟩;(.rw[A,Cq];simpa using z2);.rw[B,AB nc,z3];rfl);.exact wS z1 (tok 2 _ z2)
 .rw[B] at hr;rcases Eh! with hr|hr;(.exact x.f2 r hr);.by_cases c:n'=n/\u=1;(.rw[IN] at hr;(have:r=ZU!:=by simpa using hr);rw[this];exact fo);.rw[NE] at hr;cases hr
 .have:=ch!;unfold Still at *;rcases this with h1|⟨r,hr,e1,e2⟩|⟨h1,h2⟩;(.exact J! h1);(.rw[B] at hr;rcases Eh! with hr|hr;(.exact Bs! ⟨r,hr,e1,e2⟩);.by_cases c:n'=n/\u=2;(.rw[IN] at hr;(have er:r=ZU!:=by simpa using hr);rw[er] at e1 e2;have e1:g=BN!:=e1;have e2:tick=DF!:=e2;(have eh:h=g.toNat:=B!);refine Ap! ⟨?_,q,G,H! eh hi,O9! e2 et⟩;rw[A0,IN,<-e1];exact ZC _ (ZB _ (CS.mpr rfl)));.rw[NE] at hr;cases hr);.rw[A,Cq] at h1;refine Ap! (Ja! h2);rw[A0];rcases ZI h1 with h1|h1;(.exact o0 h1);.exact ZC _ (ZC _ h1)
universe E
universe S
def Cp(m:Nat)(g n u:Int):S!:=Sv! m (λi:Nat=>pN! D2! g)
theorem Gh:C3 (Cp m g n u) n2 u2=v6 (n=n2/\u=u2) (rg m) []:=by
 unfold C3 Cp;rw[List.filterMap_map];by_cases c:n=n2/\u=u2;.rw[IN];(have:(kO n2 u2 ∘ λi:Nat=>pN! LL.ask g)=λi:Nat=>A! l!:=by funext i;show(uV! (n=n2) (u=u2) l!)=_;rw[IN]);rw[this];unfold rg;exact congrFun List.filterMap_eq_map' _
 .rw[NE];(have:(kO n2 u2 ∘ λi:Nat=>pN! LL.ask g)=λ_:Nat=>none:=by funext i;show(uV! (n=n2) (u=u2) l!)=_;rw[NE]);rw[this];simp
theorem Fb:Bi (Cp m g n u) n2 u2=[]:=by simp_all [Bi,Cp,Pq]
theorem Jdx:JL (T2! u)=[]:=by simp_all [JL,Cp,rC]
theorem Uu(m:Nat):CQ! rg m:=by unfold rg List.Nodup;rw[EA];exact X7! (λ{a b} (h:a<b)=>B!) RB
theorem Jro(m1:1<=m)(h1:∀u,IB!=[])(h2:∀u,Kc! u)(g:Int):OJ m qs ls (al++T2! 1) n [] []:=by
 have A:∀u,C3 (al++T2! 1) n u=vA! (rg m) []:=λu=>by rw[Cq,h1,Gh];by_cases c:u=1;(.rw[AF (x? c.symm),IN];rfl);.rw[AB (λz=>c z.2.symm),NE];rfl
 have B:∀u,Bi (al++T2! 1) n u=[]:=λu=>Iy! A9 h2 Fb
 refine⟨?_,J! ⟨bn (0<m),?_,B 2,rfl⟩,ii (I2! hr),F1!,Ms!⟩;.rw[A,B,e?];simp
 .rw[A,Fe!]
 .rw[B] at hr;cases hr
 .have:0=m:=e;lia
theorem OJ.first(x:Dv!)(es:FY! (.HQ s g n 1 tick S)) : fi.length<m/\s∉Hk!/\(hB!≠m->vt! BV! (M6!))/\(hB!=m->VQ! Wg D N->∀g,vt! (m?++T2! 2) (M6!)):=by
 have A:∀u,IB!=Qj! u:=λu=>by rw[es,Cq,Gi,Cq];rfl
 have B1:jQ!=Bi a n 1++QP!::Bi b n 1:=by rw[es,A9,Dj];show qn! (Ec!=1);rw[dy!];rfl
 have B2:Pf! 2=IJ! 2:=by rw[es,A9,Dj,A9];show qn! (Ec!=2);rw[AB (λz=>jK! z.2)];rfl
 have pm:Zi! kf! BV! 1 (C? (M6!).map):=by refine List.Perm.trans ?_ x.t1;rw[A,B1,A9];simp only[ZF,AI,DW];generalize kf!=P9;generalize Vo! a 1=Q;generalize Vo! b 1=R;generalize Hk!=T;(have h1:(e4!++(T++[s])).Perm (s::kl!):=f8! (C_ (l₂:=[s])));(have h2:(jq!++T).Perm (s::kl!):=by (have:(jq!).Perm (s::(e4!)):=s2! AK AK QK);exact this.append_right T);exact h1.trans h2.symm
 have nd:Hy! M6!:=by have h1:=(pm.nodup_iff).mpr (Uu m);exact km! h1
 have sn:s∉Hk!:=λz=>by rw[ZF] at nd;exact lX! s z s uh!
 have lt:fi.length<m:=by have:=pm.length_eq;rw[ZE,ZE,ZA,ZA,Du,ZE] at this;have e:[(QP!:gQ!)].length=1:=rfl;lia
 have z2:Ks!=[]/\Kc! 2/\se=[]:=by rcases x.t2 with⟨_,h⟩|⟨h,_⟩;(.exact h);.lia
 obtain⟨z2a,z2b,uB⟩:=z2;have f1:∀r∈M6!,bJ!:=ii (by rcases Eh! with h|h;(.exact x.f1 r h);.rw[ZK h];exact x.f2 _ (hl! B1))
 have f2:∀r∈IJ! 1,bJ!:=ii (x.f2 r (by rw[B1];rw[A9] at hr;rcases Eh! with h|h;(.exact FK!);.exact LC!));have ln:AU! M6!=hB!:=be ZE
 refine⟨lt,sn,λne=>⟨pm,J! ⟨B!,S? A z2a,S? B2 z2b,uB⟩,f1,f2,λe=>B!⟩,λee wg g2=>?_⟩;have A1:C3 (r7!) n 1=kf!:=by rw[Cq,Gh,AB (λz=>D6! z.2),AE]
 have A2:C3 (r7!) n 2=rg m:=by rw[Cq,Gh,dy!,<-A,z2a];rfl
 have C:∀u,Bi (r7!) n u=IJ! u:=λu=>Tf! Fb
 have C2:Bi (r7!) n 2=[]:=by rw[C,<-B2,z2b]
 have pf:TI! (M6!).map:=by have l:=pm.length_eq;rw[ZE,ZE,ZA,ZA,Du,ln] at l;have e1:kf!=[]:=GD!;have e2:IJ! 1=[]:=GD!;have t:=pm;rw[e1,e2] at t;exact t
 refine⟨ga A1 C pm,wS B! (by rw[A2,C2,uB];simp),f1,H! C f2,λ_ bb hs=>wg.snap λh q G eq bh=>?_⟩;have hh:h<m:=HD! wg.wl.len eq
 rcases ch! with⟨r,hr,_⟩|⟨r,hr,_⟩|⟨_,q2,G2,e2,e3⟩;.rw[uB] at hr;cases hr
 .rw[C2] at hr;cases hr
 .rw[eq] at e2;have eG:G=G2:=qv! e2;obtain⟨r,hr,er,et,e4⟩:=Jlj pf hh;rw[e4];exact((f1 r hr).tk h q G eq er).2 (by rw[<-et,<-e3,eG])
theorem OJ.second(x:Dv!)(es:FY! (.HQ s g n 2 tick S)) : Ot!/\se.length<m/\s∉KI!/\OJ m qs ls BV! n fi (se++[(s,tick)]):=by
 have A:∀u,IB!=Qj! u:=λu=>by rw[es,Cq,Gi,Cq];rfl
 have B2:Pf! 2=Bi a n 2++QP!::Bi b n 2:=by rw[es,A9,Dj];show qn! (c? 2=2);rw[dy!];rfl
 have B1:jQ!=IJ! 1:=by rw[es,A9,Dj,A9];show qn! (c? 2=1);rw[AB (λz=>jK! z.2)];rfl
 have t2:Ot!/\Zi! Ks! al 2 KI!:=by rcases x.t2 with⟨_,_,h,_⟩|h;(.rw[B2] at h;simp at h);.exact h
 have pm:Zi! (Qj! 2) BV! 2 (C? (se++[(s,tick)]).map):=by refine List.Perm.trans ?_ t2.2;rw[A,B2,A9];simp only[ZF,AI,DW];generalize Qj! 2=P9;generalize Vo! a 2=Q;generalize Vo! b 2=R;generalize KI!=T;(have h1:(e4!++(T++[s])).Perm (s::kl!):=f8! (C_ (l₂:=[s])));(have h2:(jq!++T).Perm (s::kl!):=by (have:(jq!).Perm (s::(e4!)):=s2! AK AK QK);exact this.append_right T);exact h1.trans h2.symm
 have nd:Hy! (se++[(s,tick)]):=by have h1:=(pm.nodup_iff).mpr (Uu m);exact km! h1
 have sn:s∉KI!:=λz=>by rw[ZF] at nd;exact lX! s z s uh!
 have lt:se.length<m:=by have:=pm.length_eq;rw[ZE,ZE,ZA,ZA,Du,ZE] at this;have e:[((s,tick):Int×Int)].length=1:=rfl;lia
 refine⟨t2.1,lt,sn,⟨s2! A B1 x.t1,wS t2.1 pm,x.f1,S? B1 x.f2,λe bb hs=>x.s2 e bb hA!⟩⟩;rcases ch! with⟨r,hr,e1,e2⟩|⟨r,hr,e1,e2⟩|⟨h1,h2⟩;.rcases Eh! with hr|hr;(.exact J! ⟨r,hr,e1,e2⟩);.have er:=ZK hr;rw[er] at e1 e2;exact Bs! ⟨QP!,H! B2 Vf!,e1,e2⟩
 .refine Bs! ⟨r,?_,e1,e2⟩;rw[B2];rw[A9] at hr;rcases Eh! with h|h;(.exact FK!);.exact LC!
 .exact jA! (H! A h1) h2
theorem OJ.done(x:Dv!)(e:Ot!){c:C7!}(hc:∀h,h<m->∃r∈se,bZ! (c h)):Le! (GS m (λh=>Av! DF! (c h)) (Jj fi)) :=x.s2 e _ λh hh bh=>by obtain⟨r,hr,e1,e2⟩:=hc h hh;exact J! ⟨r,hr,e1,Gd! e2 (Bx! BU bh)⟩
universe E
universe S
inductive Jcy(vs:C!)(H:Hp)(Q:VK)(E:XK):Prop
 | mk (p ta:Addr) (G:BZ) (as:M!) (ts:D!) (_:ii! ta) (_:R?) (_:OT!) (_:aZ! ta) (_:A9!) (_:Eu! ol)
theorem Jhb(F:h! "lose" "House.lose" Q6)(T:Txt):Bt! HF! Jcy:=by
 refine Y? iE;obtain⟨p,ta,G,as,ts,rfl,S,ke,et,th,k⟩:=h;refine W!;have hu:=I?;have lt:=KV!;refine Ae! (Af (n0! (ST! 1) (H2! iE.nd) (Ym! (Lp hu R! W?) (Ac (Bf me!) (Df! me!)))));refine JW! ta Cv! ?_;refine ej! Qa ta ZD! (λi σ H2=>∃u2:Ar!,σ=g1! (i? ta)/\A0! H2 (Al G (ts.take i))/\FR! H2) (HP! (ga IK Tf S) (λb o e _ _=>e)) (λi σ H2 _ h=>eZ! (CA.of (va! fr et et et))) ?_;.rintro i x σ H2 hx ⟨u2,rfl,S2,LZ⟩;rw[ZH] at hx;cases ea:Qb! with | none=>rw[ea] at hx;cases hx | some a =>rw[ea] at hx;have hx:gk!:=ZO hx;subst hx;obtain⟨t,ht⟩:=qM!;have ha:=rf! ht;have dQ:=rX! LZ;obtain⟨IZ,GV⟩:=S2.ob;obtain⟨o,g,eo⟩:=Of (k:=An!) (f:=Dc!) (AD! S2.dO) dQ;have f1:=F5 (An!) G.AG ht;have f2:=F5 (DX!) G.holds ht;refine vh! C IZ GV T.cl T.nO (D4 _) G.o o g;rw[eo];(have ks:MY! (Al G (ts.take i)).holds.map g2!:=by show pW! jl! jl!;rw[Ea (DX!) G.holds (lf!),p8! lf!,ke]);by_cases h:AB! g2!;(.rw[Rs!];obtain⟨v1,vP⟩:=sS! Rb! Dc! h;obtain⟨v2,vO⟩:=sS! RT! d0! (q! ks h);refine Ck (qp! IZ GV T.nO (D4 _) G.o S2.dO S2.dO dQ vP);rw[Gz (k:=An!) (f:=Dc!)];have S3:=op! S2.J_;(have RH:FR! sU!:=Cc! (eP! (NN! h2) LZ));have ow:=rX! RH;rw[D4! (HO.dT ((L9! (At Lz!)).map Ej!)=op! Dt)];have S3:A0! sU! oe!:=S3;generalize upd H2 G.o (Dt (L9! wJ!))=H3 at S3 RH ow;obtain⟨QC,QR⟩:=S3.ob;refine qp! QC QR T.nL (E5 _) G.l S3.dl S3.dl ow vO;have e3:Ej ((oe!:BZ).holds.map Hc!) QN!=(J7! (At Lz!)).map Hc! :=Gz (k:=DX!) (f:=d0!) _ t;rw[e3];have S4:=S3.aP (hl:=G0! J7! Lz!) EU;(have eG:oJ! { e8! with AG:=ex! L9!,holds:=ex! J7! }:=by unfold Al;rw[f1,f2]);refine jv! S4 (Cc! ?_);rw[Ad (X? h2 (by rw[z];show gY!;simp[BQ]))];exact dz! RH e);.rw[YB!];have uj:g3! Rb!:=PB! (ZX! WC!);have ui:g3! RT!:=PB! (jD! ks (i1! hq z));(have eG:oJ! e8!:=by (have a1:fw! L9! Rb!:=qD! uj);(have a2:fw! J7! RT!:=qD! ui);unfold Al at a1 a2 ⊢;rw[f1,f2,a1,a2]);exact Cc (jv! S2 LZ)
 .rintro σ H2 ⟨u2,rfl,S2,LZ⟩;rw[ZA,lt,BL] at S2;exact k H2 S2 LZ
inductive yG(vs:C!)(H:Hp)(Q:VK)(E:XK):Prop
 | mk (p ta:Addr) (G:BZ) (n:Nat) (rs:V!) (ts:D!) (as:M!) (_:ii! ta) (_:R?) (_:FB) (_:n<=62) (_:ak!) (_:bf!) (_:Es!) (_:IY!) (_:aZ! ta) (_:A9!) (_:TA!) (_:∀(x:Addr)(as:M!)(H':Hp),pA! (nl!) (Ti! x) (I_ H' as (Cd ol rs)) (JE (HN ol)) DW!)
theorem Joe:A? HF! HF! Zc:={}
theorem Jjv(F:h! Cz! tu! Zc)(T:Txt)(Tx:tM)(ML:rU! fL dL)(MG:rD! fG dG) : GZ! HF! yG:=by
 have GL:Co! fL dL HF! Jcy:=Jhb ML.fn T;have GG:SJ! fG dG yF:=Jc7 MG.fn T Tx;refine Y? Joe;obtain⟨p,ta,G,n,rs,ts,as,rfl,S,ok,zn,gp,gn,pm,pw,et,th,dw,k⟩:=h;refine W!;have hu:=I?;obtain⟨dx,hp⟩:=S.ob;refine Ih! (uF! T.cl ML.mt GL hr ML.bd d!) (Ac DJ! (wT (C4 a? T.cl MG.mt GG hr MG.bd L! A7)));refine⟨_,rfl,p,dx,_,rfl,hp,Sc,_,rfl,p,ta,G,as,ts,rfl,S,ok.ke,et,th,λH9 S9 wA=>?_⟩;obtain⟨cp,gr⟩:=S9.ob;refine Pw! cp gr cp gr;rw[By];have eY:=S9.fld cp (Al G ts).AY ((Al G ts).AU+1);have bF:FR! (p5! { Al G ts with AU:=(Al G ts).AU+1 }):=Cc! (wj! wA)
 have eY:A0! (p5! { Al G ts with AU:=(Al G ts).AU+1 }) (JE ol):=eY;generalize upd H9 p (Qp! cp { Al G ts with AU:=(Al G ts).AU+1 })=b_ at eY bF;obtain⟨lJ,lC⟩:=eY.ob;refine⟨_,rfl,p,lJ,_,rfl,lC,Cw _ ZV,p,JE ol,n,rs,rfl,eY,dw.JE,zn,gp,am! gn,pm,pw,λx as kS hx ex ba xJ lG=>?_⟩;have vL:nl!:=Cc! (Am (dz! bF e) hx);exact k x as kS vL ex ba xJ (Cc! (lG _ _ (bF _ _ e h1 h2) h1 λz=>h2 (Jr1 ts z)))
universe E
inductive OD(H:Hp)(t:Addr)(k:Int)(kind:Str)(s g n u:Int):Prop
 | mk a (_:ZA! (a4! (T! k) Os)) (_:Kt! [ML!,T! u])
inductive UW(H:Hp)(t:Addr)(k s g:Int)(ts:D!):Prop
 | mk (a:Addr) (as:M!) (_:ZA! [T! k,Ak! Cz!,T! s,T! g,Os]) (_:aZ! a) (_:A9!)
theorem OD.keep(h:ai! k kind)(kt:p?):OD H' t k kind s g n u:=let⟨a,e1,e2⟩:=h;⟨a,HN! e1,HN! e2⟩
theorem UW.keep(h:qO! k)(kt:p?):UW H' t k s g ts:=let⟨a,as,e1,e2,th⟩:=h;⟨a,as,HN! e1,HN! e2,Zb! th⟩
structure OC(H:Hp)(c b n turn:Int)(L:k!)(m:Nat):Prop where
 num:EV! L.map (List.range m).map of!
 MA:G6! (λ(y:Int×Addr)(i:Nat)=>OD H y.2 y.1 Rs b l! n turn) L List.range m
theorem OC.len(x:OC H c b n turn L m):fV!:=jk! (y! x.MA)
universe S
theorem Jr6(x:CZ!):XJ! (Qy! W.en) { W with EF:=l } (JD! (Qy! W.en)):=by
 obtain⟨⟨a1,a2,a3,a4,a5,a6⟩,⟨b1,b2,b3,b4,b5⟩,⟨c1,c2,c3,c4⟩,⟨d1,d2,d3⟩,⟨g1,g2⟩⟩:=x.iC;have f:iZ! (b≠W.en) (Qy! W.en):=λb o e h=>m2!
 refine ql! (o! f e (VR! g1)) (St! x.hs g2) Tk! (x.po.keep (RM! a6) (RM! b5)) (o! f x.iq c4) (o! f x.fi d3) Ab Tk!;.rintro rfl;have h:=cN! W.en;exact b8!
 .rintro rfl;exact Ze!
theorem Jr8(x:CZ!):XJ! (Qy! W.fi) { W with FK:=l } (JD! (Qy! W.fi)):=by
 obtain⟨⟨a1,a2,a3,a4,a5,a6⟩,⟨b1,b2,b3,b4,b5⟩,⟨c1,c2,c3,c4⟩,⟨d1,d2,d3⟩,⟨g1,g2⟩⟩:=x.iC;have f:iZ! (b≠W.fi) (Qy! W.fi):=λb o e h=>m2!
 refine ql! (o! f e (VR! d1)) (St! x.hs d2) Tk! (x.po.keep (RM! a5) (RM! b4)) (o! f x.iq c3) Ab (St! x.en d3) Tk!;.rintro rfl;have h:=cN! W.fi;exact b8!
 .rintro rfl;exact Ze!
universe E
universe S
inductive Ih(vs:C!)(H:Hp)(Q:VK)(E:XK):Prop
 | mk (p:Addr) (b n turn:Int) (W:EE) (_:vs=[y?,T! b,T! n,T! turn]) (_:IR) (_:Xx!) (_:F3!) (_:∀(l:Addr)(L:k!)(H':Hp),HA! (Xs! Bb!)->OC H' W.c b n turn L W.qs.length->KX! HG! (wP! l) (l≠W.hs) (Yo p W H l) l)
theorem Jee:A? QY! QY! Ip:={}
theorem Jbw(F:h! "ask_all" "World.ask_all" Ip)(T:Txt)(TW:F9)(TP:Nm)(M3:Ug!) : GZ! QY! Ih:=by
 have G3:cU!:=cI!;refine Y? Jee;obtain⟨p,b,n,turn,W,rfl,S,z1,z2,k⟩:=h;refine W!;obtain⟨dx,hp⟩:=S.ob;refine Ig! (ah! (Qg CP "put" (Hm) [] E0 (V5 K (Ca 1) CG!) (U3! Rs (Ca 2) Kq! (Yv (ce! (Ca 3) (Ca 4))))) [jZ!,(t4!,1),("n",2),("turn",3)] (El rfl T.range (ca pi!)) (WU! rfl rfl trivial) (Jq4 z? z? z? z? h) ⟨Aw!,Aw!,Aw!,Aw!,trivial⟩ (n8! (Aq d! rfl) (kJ! a? (Zq! j?))));have e0:c? (SZ W.qs.map LM!)=W.qs.length:=x!
 refine⟨_,rfl,p,CW,dx,_,_,rfl,hp,TW.cl,TW.nH,Ek W,W.hs,_,rfl,kq!,Rm!,(AM! e0),B!,B!,Hf!⟩;rw[CQ];have s0:=K0!;have S0:=FF! s0;have S0':dP! C jx! (ey! Z2! (W.ls++[])):=RS! (aW! (Z2!=W.c)) S0
 refine sp! W.qs.length (Qg CP "put" (Hm) [] E0 (V5 K (Ca 1) CG!) (U3! Rs (Ca 2) Kq! (Yv (ce! (Ca 3) (Ca 4))))) [jZ!,(t4!,1),("n",2),("turn",3)] [AV!,Go b,iL!,Go turn] (nV! W0! (∃L,ys=L.map (MI!)/\Ff! (Xs! t3!)/\OC H2 W.c b n turn L i/\JD! H2)) ⟨Ab,rfl,[],rfl,S0',x? L!,RV! s0⟩;.rintro i ys H2 N hi ⟨er,ly,L,wF,W2,l2,QB⟩ hN;refine Ba!;have l_:r∉Cb p (Xs! t3!):=λm=>S.PY E_ m;obtain⟨IZ,GV⟩:=W2.ob;obtain⟨QC,gH⟩:=W2.po.ob;refine sq! IZ GV (E6 _) QC gH _ rfl _ rfl _ Bc! gc!;have s3:=Bp! (Ql! n turn) ha;have W3:=kk!;refine eY! _ _ W3.po (XC! ZE l2.len) (λt H4 ht et S4 cj=>?_);obtain⟨W4,VI⟩:=W3.JO S4 cj;have VF:=EI s3;have LF:=nL!;have ar:uK! H4:=o! VI (MU! er) l_;refine HV! ar L6! ⟨Ab,vD! ly,L++[(Eg!,t)],RU! wF,?_,?_,?_⟩;(·(have e1:V3! (i+1)=Eg!:=B!);rw[e1,<-AK];exact oF! W4.keep (KY! l_ hb));(·(have kq:e2! H4 H4 r [Bo! Eg!]:=iw!);have kk:=(VF.trans LF).trans kq;refine Ch (by rw[ZF,l2.num,DM,ZF];congr 1;show [Eg!]=[SC+l!];congr 1;lia);rw[DM];refine G8 ?_ (An (λ_ _ rr=>rr.keep kk) l2.MA);have ea:=E! LF.BB (show DI! H2 a (Ql! n turn) a (Ql! n turn) from Ab);(have e2:Z0!:=B!);rw[e2] at et;exact⟨a,Rp! et,Rp! ea⟩);.intro b' o' e' IX;(have ot:b'≠r:=λz=>by rw[z] at e';rw[E_] at e';cases e');rw[Ad ot];exact VI b' o' (MU! (ei! QB)) IX
 .rintro ys H2 ⟨er,ly,L,wF,W2,l2,QB⟩;exact k r L H2 W2 l2 QB (EX! wF er) (λz=>by rw[z,S.hs] at E_;cases E_) λb o e _=>Am e E_
universe E
structure Tells(G:BZ)(hs:D!)(os:EQ)(rs:V!):Prop where
 z1:G.hand.length<64
 z2:G.AG.length<64
 z3:G.AJ.length<64
 pm:hs.Perm G.hand
 pw:is!
 PM:ou!
 pr:Es!
 wr:IY!
theorem dA.sta{H:Hp}{x:Addr}{hs:D!}{os:EQ}{rs:V!}(h:dA H x hs os rs):Hr! x MG!:=by obtain⟨y1,y2,y3,as,bs,ds,e,e1,t1,e2,t2,⟨ob,e3,_⟩,t3⟩:=h;refine⟨y1,y2,y3,as,bs,BR! ds.map,CA.of e,Qe!,t1,d? e2,An (λv r h9=>by obtain⟨a,t,hd,cs,e,e1,e2,e3,th⟩:=h9;exact⟨a,t,hd,cs,e,Qe!,e2,d? e3,th⟩) t2,S0! e3,?_⟩;clear e e1 t1 e2 t2 e3;induction t3 with | nil=>exact L! | cons r _ ih =>obtain⟨ka,e1,e2⟩:=r;exact K6! (A1! ka rfl Qe! e2)
universe S
inductive Gm(vs:C!)(H:Hp)(Q:VK)(E:XK):Prop
 | mk (p t:Addr) (W:EE) (k s g n u:Int) (q:Addr) (G:BZ) (hs:D!) (os:EQ) (rs:V!) (_:Fn!) (_:IR) (_:ai! k Rs) (_:NS!) (_:Tells G hs os rs) (_:F3!) (_:W1! 900) (_:(∀e∈W.EF,e.1≠SC)) (_:∀(x t1 e xs:Addr)(H':Hp),HA! (bq! J8!)->OD H' t1 Qa! BD! g s n u->Nq! e (nZ! G.AU)->X_ K H' xs MG!->vO! (Z9! [a! (SC)]) Qz! fI!)
theorem cH:YL! [Bu!,VA!,"asked",dR!,Dy!] Io:={}
theorem Zy(F:h! tw! tx! Io)(T:Txt)(TW:F9)(TP:Nm)(M1:b5! JP! dp! Ur)(M2:JO! G8! do! Ny f2 d2)(G2:pF! UV Mc)(M3:Ug!):UX! AS! Gm:=by
 have G1:SJ! f1 d1 Qm:=Jc6 M1.fn T;have G3:cU!:=cI!;refine Uo! cH;.obtain⟨p,t,W,k,s,g,n,u,q,G,hs,os,rs,rfl,_⟩:=h;rfl
 .obtain⟨p,t,W,k,s,g,n,u,q,G,hs,os,rs,rfl,S,⟨a,et,ea⟩,i,tl,z1,z2,ne,kk⟩:=h;have hu:=I?;have HC:ap:=M?;obtain⟨dx,hp⟩:=S.ob;refine TS! cH.nd (GR! 3 cH.nd (aJ! R!) (MX! 4 cH.nd (qJ! M3.mt G3 M3.bd A7 (kJ! Gv! Gv!)) (eG! j? (QB! (aU! T.cl M1.mt G1 HC M1.bd) (aU! T.cl M2.mt G2 hr M2.bd))) (Af (Ar (E2 (ca j?))))));refine r8! 3 g;refine⟨_,rfl,p,CW,dx,_,_,rfl,hp,TW.cl,TW.nH,Ek W,_,rfl,W.hs,_,_,Q? q,rfl,rfl,Ye!,i.RK,?_⟩;obtain⟨cq,jr⟩:=S.po.ob;refine⟨_,rfl,p,CW,dx,_,_,rfl,hp,TW.cl,TW.nP,E6 _,W.po,cq,_,rfl,jr,Mb!,_,rfl,_,rfl,t,_,2,O? s,rfl,rfl,Cv!,rfl,_,rfl,t,_,4,PT!,rfl,rfl,Cv!,rfl,?_⟩;refine Ua! S.po B! (λt1 H1 ht1 wM S1 LH=>?_);obtain⟨W1,HP⟩:=S.JO S1 LH;have NS:=OA!;have HA:=i.at (W:=ey! SC J8!) W1;obtain⟨hV,sI⟩:=HA.ob;refine⟨_,rfl,q,hV,_,rfl,sI,Sc,q,G,rfl,HA,?_⟩;refine⟨_,rfl,q,hV,_,rfl,sI,Sc,q,G,hs,os,rs,rfl,HA,tl.z1,tl.z2,tl.z3,tl.pm,tl.pw,tl.PM,tl.pr,tl.wr,λxs H2 s2 sx=>?_⟩;refine⟨(Vw! gI!),Mx!⟩;have s3:=Bp! lR! he;have ee:DI! H2 e lR! e lR!:=Ab;generalize Cw! H2 e lR!=H3 at s3 ee;have uW:=Ai s2 s3;have W3:=W1.same uW;obtain⟨YZ,bZ⟩:=W3.ob;refine⟨_,rfl,p,CW,YZ,_,_,rfl,bZ,TW.cl,TW.nE,Jfi _,_,rfl,W.en,_,rfl,jw! SC W3.en (q! M0 (Sx! (W1! _))),?_⟩;have ek:qL! W.EF (hq! SC) e Pj!:=X0 ne;show _;rw[show qL! (ey! SC J8!:EE).EF (hq! SC) e Pj! from ek];obtain⟨W4,VI⟩:=Jr6 W3 (l:=Pj!);have LF:=nL!;have dY:JD! cp!:=Gi! (MV! VI (X! uW j6!));have ka:BD H cp!:=FD! S dY;have ek1:BD H1 cp!:=(EI uW).trans LF;have W4:dP! C cp! (bq! J8!):=W4;show _;generalize cp!=H4 at W4 LF dY ka ek1;refine HP! (Vw! (At! 1)) EZ!;have s5:=h2! Xa! hx;have k5:=EI s5;refine kk x t1 e xs _ (W4.same s5) ⟨a,Bn! k5.BB ek1.BB wM,Bn! k5.BB ka.BB ea⟩ (X! k5.BB (X! LF.BB ee)) (((((dA.sta sx:X_ K H2 xs MG!).keep (EI s3)).keep LF).keep k5)) (Gi! (E! s5 (dY b o eb hb))) Ab (AX!) (Gi! (Am (MV! dY eb) hx));have:=W4.hs;rw[Lu! ((bq! J8!:EE).hs=W.hs),<-z,hx] at this;cases this
theorem Sy:∀b∈BQ (JE (HN ol)),Mr!:=N? (Jr1 ts hb)
inductive Gk(vs:C!)(H:Hp)(Q:VK)(E:XK):Prop
 | mk (p t:Addr) (W:EE) (k s g:Int) (ts:D!) (q:Addr) (G:BZ) (n:Nat) (rs:V!) (_:Fn!) (_:IR) (_:qO! k) (_:NS!) (_:FB) (_:n<=62) (_:ak!) (_:bf!) (_:Es!) (_:IY!) (_:TA!) (_:k3! ol) (_:F3!) (_:g5! (lb! (eo! g.toNat lM! (W.c+((Cd ol rs).length:Nat)) D1!) (tS H' W.c g L (Cd ol rs)) Tx!))
theorem jL:YL! [Bu!,VA!,"h"] Il:={}
theorem Zx(F:h! t1! t2! Il)(T:Txt)(TW:F9)(M1:vG! Cz! tu! Zc f1 d1)(G1:pE! HF! yG)(M2:r2! f2 d2)(G2:pF! Qm! P2):UX! AS! Gk:=by
 refine Uo! jL;.obtain⟨p,t,W,k,s,g,ts,q,G,n,rs,rfl,_⟩:=h;rfl
 .obtain⟨p,t,W,k,s,g,ts,q,G,n,rs,rfl,S,⟨a,pI,et,ea,th⟩,i,ok,zn,gp,gn,pm,pw,dw,zb,zl,kk⟩:=h;obtain⟨dx,hp⟩:=S.ob;obtain⟨FC,hq⟩:=Ev!;refine TS! jL.nd (wT (kX! M2.mt G2 hr M2.bd (YK! (fN! (aJ! R!) A7 (ca Gv!)))));refine r8! 3 g;refine⟨_,rfl,p,dx,_,rfl,hp,EN!,_,rfl,_,rfl,p,CW,dx,_,_,rfl,hp,TW.cl,TW.nH,Ek W,_,rfl,W.hs,_,_,Q? q,rfl,rfl,Ye!,i.RK,q,FC,_,rfl,hq,Sc,_,rfl,t,_,4,PT!,rfl,rfl,Cv!,rfl,q,a,G,n,rs,ts,pI,rfl,GP!,ok,zn,gp,gn,pm,pw,ea,th,dw,λx as H1 nx ex bk S1 LH=>?_⟩;obtain⟨W1,HP⟩:=S.step i.2 S1 LH (N? (hS! Sy));have oV:=S.IQ (b:=W.hs) (sk!) (ZP i.2);have jT:Qz!:=λz=>nx _ _ S.hs oV.1 oV.2 z.symm;(have sub:∀b,CR!->b∉Cb p (PD! (jg! lM!)):=λb hb m=>by rcases ZI m with m|m;(.exact hb Yn!);.obtain⟨z,hz,hm⟩:=DB.mp m;have hz:z∈jg! lM!:=hz;rcases PD hz with hz|rfl;(.exact jy! (Ia! hm));.refine jy! (GM E3! (ZP i.2));exact hm.imp id λz=>Sy b z);refine⟨p,x,g,_,as,_,rfl,W1,ex,W1.YL ex jT,bk,zb,zl,λy L H2 W2 b2 QB jS jR ey=>?_⟩;exact kk y L H2 W2 b2 (pn! QB) jS (pn! jR) ey
universe E
universe E K45
universe N K45F
open PySem L2 FX K45
theorem HW(h:n<=20000):n<sizeLine:=Vb! JK h
structure jO(H:Hp)(d:Addr)(L:Nl!):Prop where
 ob:QK! d L.map (λq=>(J! q.1,F? E?))
 st:∀q∈L,Hr! E? FS
universe S
theorem Hh(hd:GA! d l)(ht:Er!):Tl! (wz! (th∈l)):=Pq! aj! Hv
theorem Wy(hd:ho! d l)(ht:Er!)(f:d3! He!=A! q):Tl! (L4! E?):=Ea! aj! cF! f
def QP(H:Hp)(hl:HL):Prop:=∀q∈hl,∃cs:M!,HH! E? (cs.map V.ref)/\BC H cs FS
theorem QP.keep(k:p?)(h:QP H hl):QP H' hl:=No (let⟨cs,e,th⟩:=h q hq;⟨cs,k.sq e,BC.keep k th⟩)
inductive Ii(vs:C!)(H:Hp)(Q:VK)(E:XK):Prop
 | mk (sa l:Addr) (as:M!) (ts:D!) (hl:HL) (n:Nat) (R:D!) (_:vs=[F? sa,P8!]) (_:vY! sa) (_:A9!) (_:gl!) (_:I3! l Fq hl) (_:hl.length<=900) (_:QP H hl) (_:(∀q∈hl,q.2.2.length<=900)) (_:rO! (ts.filter Kf!)) (_:n<=6000) (_:QD! (h? x->KM->jO! x R->DW!))
theorem gY:A? ["starts",BG!,"found",MC!,"ahead"] GV! F3:={}
theorem Lq(F:h! MF! MF! F3):Bt! GV! Ii:=by
 refine Y? gY;obtain⟨sa,l,as,ts,hl,n,R,rfl,es,th,zt,el,zl,hq,hz,ub,zn,k⟩:=h;refine W!;have hu:=I?;refine eH! gY.nd Fh (Y4! (qT! te (Ca 0) i 4 K9! gY.nd (H3! 0) Jp! p7! Vr!) (Rh PassesOwn.never (Rg j? (Cg!)) (FQ! (Yb! gY.nd (N4 CG PySem.F.slot_list_pop PySem.F.type_list_pop Jhj j?)) (Ym! (Em hu P? R!) (Ac (L5! R! P? E1) (Df! (Lj CG JC JB Uz j? (Aa (sC! K9! (Gq (ic! P?)) Jp! p7!) Ae))))))) 2);intro fa eF;have s1:=Yo! eF;have e1:lc! (AP! fa .dT []) []:=Ab;generalize ZG! H fa=H1 at s1 e1;have nY:b6! H1:=B8! s1 th;refine JW! sa (eB! s1 es) (λaa eJ=>?_);refine K7 (b:=Kf!) (caps:=K9!) eJ F! (X! s1 es) nY (λH2 a t Q' sm ha ht q=>?_) λH2 bs sm ea tb=>?_;.obtain⟨o,g,eo⟩:=rb! (X! sm (X! s1 el));refine rP!;rw[eo];exact SN!
 have jk:h? aa:=by cases c:H aa with | none=>rfl | some o=>rw[E! s1 c] at eJ;cases eJ
 have gk:fa≠aa:=λz=>by rw[<-z,e1] at eJ;cases eJ
 refine GM (λm σ H'=>∃(ahead found:D!)(JZ:M!)(u3:Ar!),σ=[i? sa,Rx!,i? fa,u3,i? aa]/\KM/\jO! fa found/\ui! aa JZ.map/\BC H' JZ ahead/\NZ (RF hl) m ahead found R/\found.length+m<=6000/\dY! Ps!) ⟨n,_,[],bs,_,rfl,Ai s1 sm,Ef! e1,ea,tb,ub,by simpa using zn,sB m3!⟩;rintro m σ H' ⟨ahead,found,JZ,u3,rfl,sh,ef,cn,dM,rc,zm,hk⟩;refine A1! rfl _ (J! (EP! (E8! cn))) ?_;cases m with | zero =>obtain⟨e0,eR⟩:=rc;rw[e0] at dM;have e2:JZ=[]:=BR.mp (Paired.length dM);rw[e2];refine in! (k fa H' eF sh ?_);rw[eR];exact ef | succ m =>have uA:=rc.len;obtain⟨a,t,bt,rc⟩:=rc;rw[bt] at dM uA;obtain⟨KW,c,e2,uM,ec⟩:=Yu dM;subst e2;(have em:(KW++[c]).map V.ref=BR! KW.map++Jc! c:=RH!);rw[em] at cn ⊢;rw[show AT! (!(BR! KW.map++[Q? c]).isEmpty) by cases KW<;>rfl];refine Ck (Ae! (λEV H' h=>⟨m,IS m,h⟩));refine⟨_,rfl,Ey! cn,aa,_,_,rfl,rfl,cn,Jdb _ _,?_⟩;rw[VK! ((BR! KW.map++[Q? c]).dropLast=KW.map V.ref)];(have s3:BQ! Gb!:=a7! jk sh);(have VF:BD H' Gb!:=re cn);(have YY:lc! Gb! found:=i! gk ef);have kD:pH! Gb!:=Ab;have az:BC Gb! KW a:=JY! VF uM;have hJ:=E! VF.BB ec;generalize upd H' aa (aX! KW.map)=H3 at s3 VF YY kD az hJ;refine PP! _ rfl fa _ rfl (Hh YY hJ) _ ?_;rcases rc with⟨hf,rc⟩|⟨hf,rc⟩;(.rw[AF hf];exact Cc ⟨a,found,KW,_,rfl,s3,YY,kD,az,rc,B!,BE! qo!⟩);.rw[AB hf];refine Ck (Td! fa (Vh! t YY hJ (Cn! HW)));rw[Fv,show Ct found t=JG! by unfold Ct;rw[AB hf]];(have s4:BQ! Lj!:=a7! eF s3);(have LF:BD H3 Lj!:=re YY);have hG:im! H3 fa Bm Pn! fa Pn!:=Ab;(have hU:pH! Lj!:=i! gk.symm kD);have ay:BC Lj! KW a:=JY! LF az;have pC:=E! LF.BB hJ;rw[D4! (HO.dT ((JG!).map B9!)=Bm (JG!))];generalize wP H3 fa Bm Pn!=H4 at s4 LF hG hU ay pC;have uK:Ps!:=hk t (q! bt iG!);obtain⟨ad,o3⟩:=Qb uK;have mq:=AW o3;obtain⟨cs,q1,q2⟩:=hq _ mq;have q1:HH! ad (cs.map V.ref):=q1;have q2:BC H cs Mc!:=q2;have q3:(De hl t).length<=900:=hz _ mq;refine⟨_,rfl,Ey! hU,_,rfl,_,rfl,l,_,rfl,Wy (X! s4 el) pC o3,ad,rfl,D? ((EI s4).sq q1),λpl VL=>?_⟩;refine Tc (K:=K) (b:=JZ! gi!) (caps:=K9!) VL F! ((EI s4).sq q1) (UP! s4 q2) (λH2 a' u Q' uP ha hu' q=>?_) λH6 hZ s6 sY ZW=>?_;(.obtain⟨o,g,eo⟩:=rb! (uP l (Fq hl) (X! s4 el));refine rP!;rw[eo];exact SN!);.have ZW:BC H6 hZ (RF hl t):=ZW;have zz:=rc.len;rw[ZE] at zz;have l1:=y! ay;have l2:=y! ZW;refine⟨aa,pl,_,_,rfl,rfl,kW!,sY,b3! HW,?_⟩;rw[<-ZF];(have XT:BD H6 (Ly! H6 aa (KW++hZ).map):=re kW!);refine⟨a++RF hl t,JG!,KW++hZ,_,rfl,Dl!,?_,Ab,R2! XT Py (UP! s6 ay) ZW,rc,?_,J0!⟩;(.rw[Pr! jk];exact Jm! s6 s4);(.rw[Ad gk];exact E! s6 hG);(.rw[ZE];show found.length+1+m<=6000;lia);.rcases ZI hu with hu|hu;(.exact qo!);.have:=QM! hu;simpa using this
universe E
theorem Jaq(a:V!)(t:T2):((B4 (a.map Ej!) (tk t)).getD (a! 0))=a! (Hs a t):=by rw[ph!];unfold Hs;cases G0! a.find? GE with | none=>rfl | some r=>rfl
theorem Jig(a:V!)(q:Bi!):Cq! addW a q gn!:=by have lp:=F4 (a.map Ej!) (tk q.1) (a! (Hs a q.1+q.2));rw[Fe,ZA,ZA] at lp;exact lp
theorem Vg:∀(l a:V!),Cq! l.foldl addW a (a.length+l.length)
 | [],a=>AC
 | q::l,a=>by have h1:=Vg l (addW a q);have h2:=Jig a q;show(l.foldl addW (addW a q)).length<=_;simp only[BM];lia
abbrev GB(L:Nl!):Bz!:=L.map Cm!
theorem Jr9{H:Hp}{d:Addr}{L:Nl!}{i:Nat}{k:Key}{v:V}(h:pc ((L.map MD!)[i]?) k v):∃q,L[i]?=A! q/\v=F? E?:=by rw[ZH] at h;cases e:L[i]? with | none=>rw[e] at h;cases h | some q =>rw[e] at h;have h:((J! q.1:Key),s1!)=(k,v):=ZO h;exact⟨q,rfl,(Prod.mk.inj h).2.symm⟩
universe S
theorem fA:A? [Dj!,"weights",G8!,MC!,dn!] Jb! Ir:={}
inductive Qn(vs:C!)(H:Hp)(Q:VK)(E:XK):Prop
 | mk (d:Addr) (L:Nl!) (_:vs=[VX!]) (_:jO H d L) (_:((GB L).flatMap Cm!).length<=1200) (_:W3! (C5!->KM->ZN! r HQ!->Gs! r))
theorem Zz{f:Addr}{fd:FuncData}(F:h! dv! dv! Ir):Bt! Jb! Qn:=by
 refine Y? fA;obtain⟨d,L,rfl,S,zl,k⟩:=h;refine W!;have hu:=I?;refine Kx! fA.nd Fh (Ac (N7! Uw (N4 DE JD P_ Oa a?) (H2! fA.nd) (Af (N7! Gq Hu! (Jm rfl (Bk (Yk! fA.nd) (Bk (Kh! fA.nd) Gd))) (iT! d! P? (Bh Dv (Rl hu d! P? Ah Aw!) j?))))) (QE.YB (Af (Ar (pv 1)))));intro r ZZ;have s1:=Yo! ZZ;have e1:bv (AP! r .dT []) r Dt []:=Ab;generalize ZG! H r=H1 at s1 e1;have wk:=E! s1 S.ob;refine⟨_,rfl,Hl! (x? (YA! wk)),d,_,rfl,rfl,wk,FV!⟩;have s2:=Ag (o:=Jx p d) hp;have e2:L? (upd H1 p IZ!) p IZ!:=Ab;generalize upd H1 p IZ!=H2 at s2 e2;have ed2:=E! s2 wk;have sX:=E! s2 e1;have gE:r≠d:=λz=>by rw[z,S.ob] at ZZ;cases ZZ
 refine⟨p,d,_,rfl,e2,ed2,λo=>?_⟩;have kd:∀{H':Hp} {u:HO},Ts! H' L.map MD!->BD H' (upd H' d u):=λ{H'} {u} e=>BD.upd (ca! e)
 refine n6! Sw d o (∃(u2 u3 u4:Ar!),σ=[Rw!,hg!,u2,u3,u4]/\r5!/\ZN! r ((J6! Cm!).foldl addW [])/\BD H2 H'/\rZ!) ⟨_,_,_,rfl,Ab,i! gE sX,kd ed2,Lp! (i! n (Jm! s2 s1))⟩ (λi σ H' _ h9=>by obtain⟨_,_,_,_,e,_⟩:=h9;exact e);.rintro i kk v σ H3 hi ⟨u2,u3,u4,rfl,ef,er,kt,fr⟩;obtain⟨q,eq,rfl⟩:=q? Jr9 H H d d hi;have mq:=ZP eq;have bf:=CK! eq;have lq:=((S.st q mq).keep ((EI s1).trans (EI s2))).keep kt;obtain⟨y1,y2,y3,as,bs,ds,f0,f1,t1,f2,t2,f3,t3⟩:=lq;refine⟨_,rfl,E?,_,2,Q? y3,rfl,rfl,f0,rfl,y3,rfl,D? f3,?_⟩;(have JE:JH! L.take=L.take i++[q]:=M0! eq);(have lT:SZ J6! Cm!+q.2.2.2.2.length<=1200:=by (have e5:GB L=lj!++GB (L.drop KE):=O9! ZF EB);rw[e5,BY,ZE,JE] at zl;rw[show GB (L.take i++[q])=GB (L.take i)++[FS] by unfold GB;rw[ZF];rfl,BY,ZE] at zl;simp only[B_,HH,AE] at zl;lia);refine ej! Qa y3 ds (λj σ H'=>∃(w3 w4:Ar!),σ=[Rw!,hg!,i? E?,w3,w4]/\r5!/\ZN! r (((J6! Cm!)++q.2.2.2.2.take j).foldl addW [])/\BD H2 H'/\BD H3 H'/\rZ!) ⟨_,_,rfl,ef,RS! IK er,kt,YD!,fr⟩ (λj σ H' _ h9=>by obtain⟨_,_,_,_,_,_,k3,_⟩:=h9;exact k3.sq f3) ?_;(.rintro j v σ H4 hj ⟨w3,w4,rfl,hG,ar,LF,vD,cj⟩;obtain⟨x,ex⟩:=av! q.2.2.2.2 t3;obtain⟨a,t,rfl,g1,g2⟩:=(Ax t3 j v x hj ex).keep vD;have gx:=CK! ex;refine⟨a,_,rfl,g1,rfl,_,_,rfl,_,_,rfl,rfl,?_⟩;refine⟨_,rfl,r,rfl,QT! ar,_,rfl,_,DS.t (k:=tk x.1) ar g2,_,rfl,_,x.2,Jaq _ _,rfl,_,rfl,_,rfl,r,_,rfl,FZ.t (k:=tk x.1) ar g2 (by rw[ZA];have:=Vg ((J6! Cm!)++q.2.2.2.2.take j) [];rw[ZE,CD] at this;simp only[BS] at this;exact Cn! HW),?_⟩;rw[Fe];(have bX:∀u:HO,BD H4 (upd H4 r u):=λu=>iw!);refine⟨_,_,rfl,Mq! gE hG,?_,LF.trans (bX _),vD.trans (bX _),Lp! (ed! ZZ (o! cj e n))⟩;(have e7:∀l:V!,(l++[x]).foldl addW []=addW (l.foldl addW []) x:=λl=>be List.foldl_append);(have e8:J6! Cm!++F6! q.2.2.2.2.take=(J6! Cm!++q.2.2.2.2.take j)++[x]:=by rw[CO,ex,<-AK];rfl);rw[e8,e7];exact Ab);.rintro σ H4 ⟨w3,w4,rfl,hG,ar,LF,vD,cj⟩;rw[y! t3,BL] at ar;refine⟨_,_,_,rfl,hG,?_,LF,cj⟩;rw[JE,show GB (L.take i++[q])=GB (L.take i)++[FS] by unfold GB;rw[ZF];rfl,BY];simp only[B_,HH,AE];exact ar
 .rintro σ H3 ⟨u2,u3,u4,rfl,ef,er,kt,fr⟩;rw[ZA,BL] at er;refine GM (Kz! H3 d L.map MD!) ⟨d,o,_,ef,λob v z=>?_,rfl⟩;(.have z:Cx! (.FQ ob v):=z;rw[S.ob] at z;cases z);refine KF (k r _ ZZ (VG! ?_) (i! gE er));by_cases hb:b=d;(.rw[hb,Ab];rw[hb,S.ob] at e;exact e);.rw[BT!];exact fr b ob e hb
universe E
structure PR(L:Bz!):Prop where
 nd:o? (rowsOf L).map
 rz:(rowsOf L).length<=60
 hz:(L.flatMap (·.1)).length<=800
 oz:∀r∈rowsOf L,r.2.2.length<=60
 tz:(L.flatMap Cm!).length<=1200
def Dp(ws:V!)(L:Bz!):D!:=L.flatMap λS=>S.1++Gn! (S.2.1.filter λr=>! Av! u? (Hs ws r.1)).map
theorem Ji(ws:V!):∀L:Bz!,Cq! Dp ws L ((L.flatMap (·.1)).length+SZ rowsOf L)
 | []=>by simp[Dp]
 | S::L=>by have ih:=Ji ws L;have h:=AO (SX! (! Av! u? (Hs ws r.1))) Jr!;unfold Dp rowsOf at *;simp only[B_,ZE,ZA] at *;lia
theorem O_:t∈Dp ws L↔(∃S∈L,t∈S.1)\/∃r∈rowsOf L,r.1=t/\u?≠Hs ws r.1:=by
 unfold Dp rowsOf;simp only[BG,LY,AH,AD];constructor;.rintro⟨S,hS,(h|⟨r,⟨hr,c⟩,e⟩)⟩;(.exact J! ⟨S,hS,h⟩);.exact Zc! r ⟨S,hS,hr⟩ L3!
 .rintro(⟨S,hS,h⟩|⟨r,⟨S,hS,hr⟩,e,c⟩);(.exact⟨S,hS,G?⟩);.exact⟨S,hS,I! ⟨r,⟨hr,L3!⟩,e⟩⟩
def QH(hl:HL)(rows:EQ):Prop:=hl.map (λq=>(q.1,FS))=rows.map λr=>(r.1,SL)
theorem QH.keys(h:QH hl rows):MY! hl.map rows.map:=Ea! (congrArg (List.map Prod.fst) h) AN AN
theorem QH.get(h:QH hl rows)(nd:o? rows.map)(hr:r∈rows):De hl r.1=SL:=by
 have m:(r.1,SL)∈hl.map λq=>(q.1,FS):=H! h (Pv! r hr)
 obtain⟨q,hq,e⟩:=Dr!;have e1:=(Prod.mk.inj e).1;have e2:=Wu! e;unfold De;rw[<-e1,FX.HF (k:=DX!) (q! h.keys nd) hq];exact e2
theorem Jj9(nd:o? (rowsOf L).map)(h:QH hl (rowsOf L))(rc:rO! ((Dp (Dh L) L).filter Kf!)) : ∀t,mD!->(Cp!↔LG!):=by
 have start:∀t,t∈Dp (Dh L) L->LG!:=sB (by rcases O_.mp ht with⟨S,hS,m⟩|⟨r,hr,e,c⟩;(.exact .hand hS m);.rw[<-e];exact .out hr c)
 have row:∀t,Ps!->∃r∈rowsOf L,r.1=t:=sB (by rw[h.keys] at ht;obtain⟨r,hr,e⟩:=ZN ht;exact Jo! e)
 have cl:∀t∈R,LG!:=NZ.least (S:=λt=>LG!) (λt lt u hu=>by have oU:=AD.mp hu;by_cases c:Ps!;(.obtain⟨r,hr,e⟩:=row t c;subst e;have hu1:=oU.1;rw[h.get nd hr] at hu1;exact .step hr hu1 lt);.exfalso;(have:De hl t=[]:=VL! (cR! Lz! c));rw[this] at oU;exact absurd oU.1 (DD)) rc (Ag! (AL! ht)) (sB (start t (FC! ht)));have closed:=NZ.closed rc (sB (AL! ht));have sub:=(NZ.sub rc).2;have back:∀t,LG!->mD!->Cp!:=λt lt=>by induction lt with | hand hS m=>intro ht;exact sub _ (AD.mpr ⟨O_.mpr (Z! (jp hS m)),by rw[h.keys];simpa using ht⟩) | out hr c=>intro ht;exact sub _ (AD.mpr ⟨O_.mpr (J? (Au! _ hr c)),by rw[h.keys];simpa using ht⟩) | @step r u hr m _ ih =>intro ht;refine closed _ (ih (AH.mpr (EP! hr))) u (AD.mpr ⟨H! (h.get nd hr) m,by rw[h.keys];simpa using ht⟩)
 exact sB ⟨λm=>cl t m,λl=>back t l ht⟩
theorem Jgh(F:PR L)(h:QH hl (rowsOf L)):∃n R,n<=6000/\rO! ((Dp (Dh L) L).filter Kf!):=by
 have lk:(hl.map (·.1)).length<=60:=ga h.keys ZA F.rz
 have ls:=Ji (Dh L) L;have l2:=AO (Kf!) (Dp (Dh L) L);have sz:∀t,(RF hl t).length<=60:=λt=>by refine Sq! ?_;by_cases c:Ps!;(.rw[h.keys] at c;obtain⟨r,hr,e⟩:=ZN c;rw[<-e,h.get F.nd hr];exact F.oz r hr);·(have:De hl t=[]:=VL! (cR! Lz! c));rw[this];simp
 have:=F.rz;have:=F.hz;obtain⟨n,R,h1,h2⟩:=NZ.ex (nx:=RF hl) (keys:=C? hl.map) (B:=60) (Jhh hl) sz 6000 ((Dp (Dh L) L).filter Kf!) [] (Ag! m3!) (by have:((hl.map (·.1)).filter (vI! Sc!)).length<=60:=Sq! lk;have:=GO (60+1) this;lia);exact⟨n,R,B!,h2⟩
universe S
theorem YC:A? [Dj!,"weights",BG!,"starts",G8!,MC!,"out","held","kept"] Jb! Gp:={}
inductive NQ(vs:C!)(H:Hp)(Q:VK)(E:XK):Prop
 | mk (d:Addr) (L:Nl!) (_:vs=[VX!]) (_:jO H d L) (_:PR (GB L)) (_:∀(x:Addr)(as:M!)(ts:D!)(H':Hp),ju! lp! LQ! (OZ! GB L))
theorem QH.snoc(h:QH hl rows)(r:Gt!)(a:Addr):QH (hl++[(r.1,a,SL)]) (rows++[r]):=by unfold QH at *;rw[ZF,ZF,h];rfl
theorem YV(F:h! dt! dt! Gp)(T:Jpb)(MR:WF MF! F3 GV! fR dR)(MD:ip! dv! Ir fD dD):GZ! Jb! NQ:=by
 have GR:Co! fR dR GV! Ii:=Lq MR.fn;have GD:Co! fD dD Jb! Qn:=Zz MD.fn;refine Y? YC;obtain⟨d,L,rfl,S,fi,k⟩:=h;refine W!;have hu:=I?;have HC:ap:=M?;refine Kx! YC.nd (PQ! GD HC MD.mg MD.fn.kp MD.bd WS!) (GR! 2 YC.nd Fh (kG! YC.nd LW! (N7! Uw (N4 DE JD P_ Oa a?) (Kh! YC.nd) (jm! (Lj CG JC JB R5 P? (ca (Af! j?))) (N7! Gq (Af! j?) (qB! (JB! 5 YC.nd) (JB! 6 YC.nd) (JB! 7 YC.nd)) (FQ! (L5! R! WP C3!) (Bj (Yd! B0! (Rl hu d! WP Ah Aw!)) (rW! P? (ca WP)) A5))))) (QE.YB (Ac (dQ! 8 YC.nd (Or.inr rfl) (PQ! GR HC MR.mg MR.fn.kp MR.bd (Ck! P? R!))) (wT (cu! T.tuple (sC! (hb! 8) (Dz (cT! R!)) Jp! (vW! (Em hu a? d!)))))))));refine ax! d L S fi.tz (λws H1 hws s1 ew=>?_);intro hd mP;have s2:=Yo! mP;have e2:bv (CH! H1 hd .dT []) hd Fq []:=Ab;generalize ZG! H1 hd=H2 at s2 e2;refine eN! (λsl cY=>?_);have s3:=FI! cY;have e3:PG! (vj! sl) sl []:=Ab;generalize ZF! H2 sl=H3 at s3 e3;have uY:=LY! s1 s2 s3;have ew3:=iJ! s3 ew;have eh3:=F7! e2;have rb:h? hd:=Cm s1 mP;have rY:h? sl:=Cm s1 (Cm s2 cY);have nwh:ws≠hd:=Am ew mP;have rW:ws≠sl:=Am (X! s2 ew) cY;have uo:hd≠sl:=Am e2 cY;have gT:=E! uY S.ob;have uu:hd≠d:=λz=>by rw[z,S.ob] at rb;cases rb
 have cW:sl≠d:=λz=>by rw[z,S.ob] at rY;cases rY
 have ndw:ws≠d:=λz=>by rw[z,S.ob] at hws;cases hws
 refine⟨_,rfl,Hl! (x? (YA! gT)),d,_,rfl,rfl,gT,FV!⟩;have s4:=Ag (o:=Jx p d) hp;have e4:L? (upd H3 p IZ!) p IZ!:=Ab;generalize upd H3 p IZ!=H4 at s4 e4;have ed4:=Ee! gT;refine⟨p,d,_,rfl,e4,ed4,λo=>?_⟩;have JFf:∀i,Ui!=J6! Gl!:=λi=>rfl;have rH:∀{i:Nat} {q:Int×Addr×HS},L[i]?=A! q->lj!=GB (L.take i)++[FS]:=λ{i q} eq=>by rw[CO,eq];show List.map _ (L.take i++[q])=_;rw[ZF];rfl
 refine n6! Sw d o (∃(u4 u5 u6 u7:Ar!)(hl:HL)(as:M!),σ=[Rw!,i? ws,hh!,i? sl,u4,u5,u6,u7,none]/\r5!/\ZN! ws HQ!/\bv H' hd Fq hl/\QH hl (rowsOf d5!)/\QP H' hl/\Ti! sl/\BC H' as (Dp HQ! d5!)/\BD H4 H'/\rZ!) ⟨_,_,_,_,[],[],rfl,Ab,i! ndw (Ee! ew3),i! uu (Ee! eh3),rfl,(No (AL! hq)),i! cW (Ee! e3),L!,BD.upd (ca! ed4),Lp! (i! n (Jm! s4 uY))⟩ (λi σ H' _ h9=>by obtain⟨_,_,_,_,_,_,_,e,_⟩:=h9;exact e);.rintro i kk v σ H5 hi ⟨u4,u5,u6,u7,hl,as,rfl,ef,ew5,wb,gM,vj,o7,f_,bX,dZ⟩;obtain⟨q,eq,rfl⟩:=q? Jr9 H H d d hi;have mq:=ZP eq;have iW:=((S.st q mq).keep ((EI uY).trans (EI s4))).keep bX;obtain⟨y1,y2,y3,KL,bs,ds,f0,f1,t1,f2,t2,f3,t3⟩:=iW;(have spl:rowsOf (GB L)=Ui!++(q.2.2.2.1++rowsOf (GB (L.drop KE))):=by (have e5:GB L=lj!++GB (L.drop KE):=O9! ZF EB);rw[e5,rH eq];unfold rowsOf;simp only[BY,B_,HH,AE,AK]);(have yU:C? (GB L).flatMap=C? J6!++(q.2.2.1++C? (GB (L.drop KE)).flatMap):=by (have e5:GB L=lj!++GB (L.drop KE):=O9! ZF EB);rw[e5,rH eq];simp only[BY,B_,HH,AE,AK]);have zr:=fi.rz;have zh:=fi.hz;have ls:=Ji HQ! d5!;have lth:=y! f_;have l1:=y! t1;rw[spl,ZE,ZE] at zr;rw[yU,ZE,ZE] at zh;have nd:=fi.nd;rw[spl] at nd;refine⟨_,rfl,Ey! o7,_,rfl,E?,_,0,Q? y1,rfl,rfl,f0,rfl,sl,y1,_,_,rfl,rfl,o7,f1,b3! HW,?_⟩;rw[<-ZF];(have bW:BD H5 rV!:=re o7);(have ao:∀b ob,KG! H5->b≠sl->KG! rV!:=Lp! Nj!);have o5:ES! rV! sl (as++KL).map:=Ab;have ZW:BC rV! (as++KL) (Dp HQ! d5!++q.2.2.1):=R2! bW Py f_ t1;generalize OK! H5 sl (as++KL).map=H6 at bW ao o5 ZW;refine⟨_,rfl,E?,_,1,Q? y2,rfl,rfl,bW.sq f0,rfl,y2,rfl,D? (bW.sq f2),?_⟩;refine ej! Qa y2 bs (λj σ H'=>∃(w5 w6 w7:Ar!)(hl:HL)(as:M!),σ=[Rw!,i? ws,hh!,i? sl,i? E?,w5,w6,w7,none]/\r5!/\ZN! ws HQ!/\bv H' hd Fq hl/\QH hl (Ui!++q.2.2.2.1.take j)/\QP H' hl/\Ti! sl/\BC H' as ((Dp HQ! d5!++q.2.2.1)++C? ((Xh! j).filter λr=>mc!).map)/\BD H6 H'/\rZ!) ⟨_,_,_,hl,as++KL,rfl,Ho! ao ef cW,o! ao ew5 rW,o! ao wb uo,RS! IK gM,vj.keep bW,o5,by rw[IK];simpa using ZW,YD!,Lp! (o! ao (dZ _ _ e n) (Am e rY))⟩ (λj σ H' _ h9=>by obtain⟨_,_,_,_,_,_,_,_,_,_,_,_,_,k3,_⟩:=h9;exact(bW.trans k3).sq f2) ?_;(.rintro j v σ H7 hj ⟨w5,w6,w7,Z_,pH,rfl,wc,wI,mf,bD,lE,wO,jW,oP,VM⟩;obtain⟨r,er⟩:=av! q.2.2.2.1 t2;obtain⟨a,t,ha,cs,rfl,g1,g2,g3,g4⟩:=(Ax t2 j v r hj er).keep (bW.trans oP);have gx:=CK! er;(have JE:F6! Xh!=q.2.2.2.1.take j++[r]:=M0! er);(have YW:r.1∉C? Z_.map:=by rw[bD.keys];intro z;have e9:q.2.2.2.1=F6! Xh!++F6! q.2.2.2.1.drop:=(EB _ _).symm;rw[e9,JE,<-AK,<-AK,<-AK,AK (Ui!++q.2.2.2.1.take j++[r])] at nd;(have gF:o? (Ui!++q.2.2.2.1.take j++[r]).map:=by rw[ZF] at nd;exact YF! nd);rw[ZF] at gF;exact(AM.mp gF).2.2 r.1 z r.1 Db rfl);(have lh:Z_.length<=60:=by have:=Nv! bD.keys;rw[ZA,ZA,ZE,CD] at this;lia);have lf:=AO (SX! mc!) (Xh! j);rw[CD] at lf;have la7:=y! jW;rw[ZE,ZE,ZA] at la7;refine sv! a g1;refine⟨_,rfl,_,rfl,_,rfl,hd,_,rfl,Vh! r.1 mf g2 (Cn! HW),?_⟩;rw[Ku (V.ref ha) (PB! (HI! YW WC!))];rw[show(Z_.map Ko!)++[(tk r.1,Q? ha)]=(QG!).map Ko! by rw[ZF];rfl];(have XY:BD H7 (CH! H7 hd Fq XG!):=re mf);(have mV:∀b ob,KG! H7->b≠hd->KG! (CH! H7 hd Fq XG!):=Lp! Nj!);have wY:bv (CH! H7 hd Fq XG!) hd Fq XG!:=Ab;rw[D4! (HO.dT ((QG!).map Ko!)=Fq (QG!))];generalize wP H7 hd Fq XG!=H8 at XY mV wY;(have qH:QP H8 (QG!):=λq' eE=>by rcases ZI eE with eE|eE;(.exact(lE.keep XY) q' eE);.rw[ZK eE];exact⟨cs,XY.sq g3,JY! XY g4⟩);(have qJ:QH (QG!) (Ui!++F6! Xh!):=by rw[JE,<-AK];exact bD.snoc r ha);have sS:=o! mV wI nwh;have sW:=Ho! mV wO uo;have ef8:=Ho! mV wc uu;have g28:=E! XY.BB g2;have nX:=JY! XY jW;refine⟨_,rfl,_,rfl,ws,rfl,QT! sS,_,rfl,_,DS.t (k:=tk r.1) sS g28,?_⟩;rw[Jaq];refine Au! rfl _ ?_;refine X7 (Xq!) (Xq!);(·(have c:¬u?=Hs HQ! r.1:=λz=>by rw[z] at c;simp at c);refine⟨_,rfl,Ey! sW,_,rfl,sl,_,_,rfl,rfl,sW,HW (Hb!),?_⟩;(have iu:JR! H8 H8 sl (BR! pH.map++[Q? t]):=re sW);refine⟨_,_,_,QG!,pH++[t],rfl,Mq! cW ef8,i! rW sS,i! uo wY,qJ,qH.keep iu,H! ZF Ab,?_,(oP.trans XY).trans iu,Lp! (ed! rY (o! mV (VM _ _ e n) (Am e rb)))⟩;rw[JE,CU,ZF,<-AK];(have mj:([r].filter λr=>mc!)=[r]:=by simp[c]);rw[mj];exact Jn (BC.keep iu nX) (X! iu.BB g28));·(have c:u?=Hs HQ! r.1:=L3!);refine⟨_,_,_,QG!,pH,rfl,ef8,sS,wY,qJ,qH,sW,?_,oP.trans XY,Lp! (o! mV (VM _ _ e n) (Am e rb))⟩;rw[JE,CU];(have mj:([r].filter λr=>mc!)=[]:=by simp[c]);rw[mj,AE];exact nX);.rintro σ H7 ⟨w5,w6,w7,Z_,pH,rfl,wc,wI,mf,bD,lE,wO,jW,oP,VM⟩;rw[y! t2,BL] at bD jW;refine⟨_,_,_,_,Z_,pH,rfl,wc,wI,mf,?_,lE,wO,?_,(bX.trans bW).trans oP,VM⟩;(.rw[rH eq];unfold rowsOf at bD ⊢;simp only[BY,B_,HH,AE];exact bD);.rw[rH eq];unfold Dp at jW ⊢;simp only[BY,B_,HH,AE];rw[AK] at jW;exact jW
 .rintro σ H5 ⟨u4,u5,u6,u7,hl,as,rfl,ef,ew5,wb,gM,vj,o7,f_,bX,dZ⟩;rw[ZA,BL] at gM f_;refine GM (Kz! H5 d L.map MD!) ⟨d,o,_,ef,λob v z=>?_,rfl⟩;(.have z:Cx! (.FQ ob v):=z;rw[S.ob] at z;cases z);(have s6:BQ! Uy!:=VG! (by by_cases hb:b=d;(.rw[hb,Ab];rw[hb,S.ob] at e;exact e);.rw[BT!];exact dZ b ob e hb));(have sq6:∀{b:Addr} {xs:C!},CA K H5 b xs->CA K Uy! b xs:=λ{b xs} z=>by rcases z with(z|⟨ob,z⟩)|z;(.exact df! (q! (Ad (λy=>by rw[y,ef] at z;cases z)) z));(.exact S0! (Pp! (λy=>by rw[y,ef] at z;cases z) z));.exact ND!);have ZW:∀{as:M!} {ts:D!},b6! H5->b6! Uy!:=λ{as ts} z=>An (λb t e=>e3! (λy=>vp! y ef)) z;(have qI:QP Uy! hl:=No (by obtain⟨cs,e,t⟩:=vj q hq;exact⟨cs,sq6 e,ZW t⟩));have pV:=ZW f_;(have o5:ES! Uy! sl as.map:=i! cW o7);(have wZ:bv Uy! hd Fq hl:=i! uu wb);clear sq6 ZW;generalize Kz! H5 d L.map MD!=H6 at s6 qI pV o5 wZ;obtain⟨n,R,zn,rc⟩:=Jgh fi gM;have ls:=Ji HQ! (GB L);have zr:=fi.rz;have zh:=fi.hz;(have lh:hl.length=(rowsOf (GB L)).length:=Ea! (Nv! gM.keys) ZA ZA);refine⟨_,rfl,_,rfl,sl,hd,as,_,hl,n,R,rfl,o5,pV,B!,wZ,B!,qI,AY!,rc,zn,λx H7 hx s7 ex=>?_⟩;(·(have m:q.1∈C? (rowsOf (GB L)).map:=gA! gM.keys q hq);(have e8:De hl q.1=FS:=VL! (FX.HF (k:=DX!) (q! gM.keys fi.nd) hq));obtain⟨r,E_,e⟩:=Dr!;rw[<-e,gM.get fi.nd E_] at e8;rw[<-e8];exact GO! (fi.oz r E_));have mf:=E! s7 wZ;obtain⟨so,pm,pw⟩:=FX.sorts (λt:T2=>t) (l:=C? (rowsOf (GB L)).map) (q! JT fi.nd);(have pw:so.Pairwise IY:=by simpa using pw);(have dr:Rd H7 hd (.dT ((hl.map λq=>(q.1,s1!)).map Kn!)):=by (have e:Gu! hl.map (λq=>(q.1,s1!)) Kn!=hl.map Ko!:=F0!);rw[e];exact J! mf);refine⟨_,rfl,hd,_,so,rfl,dr,Hb!,?_,pw,λr2 Z' JR ZX=>?_⟩;(.rw[AN];show so.Perm (hl.map CD!);rw[gM.keys];exact pm);have s8:=LA! Z'.map JR;have e8:ES! (w2! H7) r2 Z'.map:=Ab;have nX:=B8! s8 ZX;generalize OK! H7 r2 Z'.map=H8 at s8 e8 nX;have ex8:=E! s8 ex;refine l1! r2 e8 (λp2 GV=>?_);(have lso:so.length<=60:=ga pm.length_eq ZA zr);refine K7 (b:=λt=>Ha! Cp!) (caps:=hb! 8) GV F! e8 nX (λH9 a t Q' sm ha ht q=>?_) λH9 bs sm ea tb=>?_;(.refine PP! _ rfl x _ rfl (Hh (X! sm ex8) ha) _ ?_;by_cases c:Cp!;(.rw[IN];rw[show AE! (Ha! Cp!) by simp[c]] at q;exact q);.rw[NE];rw[show AT! (Ha! Cp!) by simp[c]] at q;exact q);.refine Nx! p2 ea (λtt htt=>?_);have s9:=TB! bs.map htt;refine k tt bs _ _ (Ai s6 (Ai s7 (Ai s8 (Ai sm s9)))) Ab (UP! s9 tb) ⟨pw.filter _,λt=>?_⟩;have li:=Jj9 fi.nd gM rc;rw[AD];constructor;(.rintro⟨h1,h2⟩;have m:=pm.mem_iff.mp h1;exact Mp! m (by rw[(li t m).mpr z |> decide_eq_true] at h2;simp at h2));.rintro⟨h1,h2⟩;exact⟨pm.mem_iff.mpr h1,by have:t∉R:=JF! h2 (li t h1).mp;simp[this]⟩
universe E
universe E K45F
universe N FX
open PySem PySem.Spec PyProof.Rows L2
theorem Rm:∀{es:Bl! DictEntry} {vs:hP!} {ns:j!},Pairs Js! es vs->EV! vs.map ns.map Sum.inl->IntsAre (es.map Oy!) ns
 | _,_,ns,.nil,e=>by cases ns with | nil=>exact L! | cons n ns=>cases e
 | _,_,ns,.cons (e:=d) (kv:=kv) h _ t,e=>by cases ns with | nil=>cases e | cons n ns =>have e:kv.1::_=ev!::ns.map Sum.inl:=e;obtain⟨e1,e2⟩:=List.cons.inj e;have ih:=Rm t e2;rcases q? C9 k kv.1 v d.key h with⟨i,tk,e3,e4⟩|⟨x,tk,e3,e4⟩;(.rw[e1] at e3;have:n=i:=Sum.inl.inj e3;rw[AI,e4,<-this];exact K? n tk ih);.rw[e1] at e3;cases e3
theorem Jih{es:C9!}{acc:Dg!}(ha:ItemsOf (qy!) acc es.size):iQ! (es.toList.map Oy!):=by
 refine qS!;by_cases hj:hM!;·(have h1:j<acc.size:=H! ha.1 hj);obtain⟨e2,e3,e4⟩:=ha.2 j acc[j] (iW!);(have e5:es[j]?=A! (es[j]):=hQ!);rw[e5] at e3;cases e3;(have h2:acc.toList[j]?=A! (acc[j]):=iW!);(have h3:es.toList[j]?=A! (es[j]):=hQ!);rw[h2,ZH,h3,e4];rfl
 .rw[DP (ga CM ha.1 Se!),DP (ga ZA CM Se!)]
universe S
variable {X:Cx Kx}
inductive L3(xs:C!)(H:Hp)(Q:VK):Prop
 | mk (d:Addr) (kvs:k?) (ns:j!) (_:j0!) (_:S3!) (_:EV! kvs.map ns.map Sum.inl) (_:ns.length<64) (_:∀(r:Addr)(ms:j!),C5!->ms.Perm ns->ms.Pairwise (·<=·)->BH! r (nE! r ms.map V.int))
theorem Nl(hc:BB!):li! L3:=by
 intro AA s σ H xs us Q I rv h;obtain⟨d,kvs,ns,rfl,hd,ek,cg,q⟩:=h;obtain⟨u,rfl,rx⟩:=vals1 rv;cases rx;obtain⟨z,lo,vs,rel,o,es,ep,g1,g2,g3,g4,g5,g6⟩:=fX! aV! hd;have ev:∀{a:k?} {b:hP!},KV a b->MY! b.map a.map:=λ{a b} r=>by induction r with | nil=>rfl | cons h _ ih=>rw[AI,AI,ih,h.1]
 have hI:IntsAre (es.toList.map Oy!) ns:=Rm g5 (z! (ev rel) ek);have hl:es.size=ns.length:=Ea! (IntsAre.length hI) ZA CM
 refine RD kind_sorted plain_sorted entry_sorted (args_sorted1 _) (by unfold Builtin.«sorted»;refine ZR (m:=checkCount O3! 1 1 _) (IQ! (W.kdu_collect (Wz lo (es:=es) (ep:=ep)) (DU! _ (I.ok.hd hc)) ⟨o,g1,g2,g3⟩ (XC! hl DR) λh1 tk acc kp ha=>?_));rw[Jih ha];have I1:I1! { s with heap:=h1,toks:=tk }:=I.kept kp;refine ZR (wpAny_newList ?_ (by rw[ZA,CM,hl,DR];lia));have e1:jY! (h1.push (seqObj SB (P7! es.toList.map Oy!) 0)).get? h1.objs.size (P7! es.toList.map Oy!):=CM!;refine NV! (DG slot_list_sort (EP! e1) entry_list_sort (list_sort_tree e1 hI (dV! ZA CM hl cg) λout ms a1 a2 a3=>hp!) (args_list_sort _));have hn:h? h1.objs.size:=ZB!;obtain⟨c,ec⟩:=sortedHeap_at (out:=out) e1;(have old:∀b ob,KG! h1.get?->KG! (sortedHeap (h1.push (seqObj SB (P7! es.toList.map Oy!) 0)) h1.objs.size (es.toList.map Oy!) out).get?:=λb ob hb=>by have KH:=A_ hb;rw[sortedHeap_old (BV KH) (q! size_push' (Nat.lt_succ_of_lt KH))];exact ZT _ hb);refine ZS (IT! (F? h1.objs.size) (I1.laid (a:=h1.objs.size) (o:=.BJ (ms.map V.int)) (t':=tk) old ci ⟨?_,out.toList,c,Ue a1,by simpa using ec⟩) rfl (q _ ms hn a2 a3));rw[ZA,a2.length_eq,DR];lia)
universe E
universe E FX
universe N K45F
open PySem L2 FX K45
def iN(os:C2!):C!:=os.map (Gg! (O? AF!))
theorem Joi(n:Nat):(rg n).map V.int=ko! iN:=by unfold rg iN;rw[AN];rfl
theorem Jd5{L:Nl!}{h:Int}(n:h∉C? L.map):B4 (L.map MD!) SD!=none:=by
 unfold B4;rw[List.find?_map,BH.mpr];.rfl
 .intro q hq z;(have z:EI! q.1=G?:=Lt!);injection z with z;exact HI! n WC!
theorem q1:KB FP! JV!:=ZV
theorem q2:KB FP! HJ!:=ZV
theorem q3:KB FP! Dj!:=ZV
theorem q4:KB Dj! JV!:=ZV
theorem q5:KB Dj! HJ!:=ZV
theorem q6:KB HJ! JV!:=ZV
def Hg(m:Int)(sd fd cd:Addr):BW!:=BI JV! (Y! cd) (BI HJ! (Y! fd) (BI Dj! (Y! sd) (BI FP! (Op m) [])))
universe S
theorem Jdj:bv (Hg m sd fd cd).lookup (FP!:Str) a! m:=by unfold Hg;rw[Bl,AB q1,Bl,AB q2,Bl,AB q3,Bl,e?]
theorem Vh:Pa! (Hg m sd fd cd).lookup (Dj!:Str) sd:=by unfold Hg;rw[Bl,AB q4,Bl,AB q5,Bl,e?]
theorem Nb:Pa! (Hg m sd fd cd).lookup (HJ!:Str) fd:=by unfold Hg;rw[Bl,AB q6,Bl,e?]
theorem Ol:Pa! (Hg m sd fd cd).lookup (JV!:Str) cd:=by unfold Hg;rw[Bl,e?]
theorem cL{x:Str}(h1:¬x=JV!)(h2:¬x=HJ!)(h3:¬x=Dj!)(h4:¬x=FP!):FM (Hg m sd fd cd).lookup x:=by unfold Hg;rw[Bl,AB h1,Bl,AB h2,Bl,AB h3,Bl,AB h4];rfl
universe E
structure Iq where
 m:Int
 sd:Addr
 fd:Addr
 cd:Addr
 ss:k?
 fs:k?
 cs:k?
structure FV(H:Hp)(p:Addr)(I:Iq):Prop where
 ob:∃dx,ZK! CI sT!
 s:I3! I.sd .dK I.ss
 f:I3! I.fd .dK I.fs
 c:I3! I.cd .dK I.cs
 sf:I.sd≠I.fd
 sc:I.sd≠I.cd
 fc:I.fd≠I.cd
theorem FV.keep(x:Uc!)(k:r6! (b=p) (∀o,Gr!->Fc!)):FV H' p I :=⟨WO! (k p Cr! _ e),k _ Y6! _ x.s,k _ (TD Y6!) _ x.f,k _ (TD (GF! rfl)) _ x.c,x.sf,x.sc,x.fc⟩
theorem FV.same(x:Uc!)(s:KM):FV H' p I:=x.keep λb _ o e=>s b o e
universe S
inductive OW(vs:C!)(H:Hp)(Q:VK)(E:XK):Prop
 | mk (p dx:Addr) (n:Int) (_:SZ!) (_:ZK! CI []) (_:∀(H':Hp)(I:Iq),(LP! H')->FV H' p I->I.m=n->I.ss=[]->I.fs=[]->I.cs=[]->h? I.sd->h? I.fd->h? I.cd->Pu!)
theorem Jqi:A? NF! NF! Q7:={}
theorem YT(F:h0! to! Q7)(T:Ym):Bt! NF! OW:=by
 refine Y? Jqi;obtain⟨p,dx,n,rfl,hp,k⟩:=h;refine W!;refine KT! (MB! d!) (Ac Nr! (Ac Nr! (Af Nr!)));have l1:=A8 FP! dg! [];refine⟨_,rfl,_,rfl,p,CI,dx,[],rfl,hp,T.cl,T.nM,o7!,λd1 h1=>?_⟩;have ij:p≠d1:=Am Ab h1;have l2:=λv=>A8 Dj! v (BI FP! dg! []);refine uG! CI (kM! ij) T.cl T.nS (by simp only[BS] at l1;lia) (λd2 h2=>?_);have mC:p≠d2:=Am Ab h2;have l3:=λv u=>A8 HJ! u (BI Dj! v (BI FP! dg! []));refine uG! CI (kM! mC) T.cl T.nF (by have:=l2 (As! d1);simp only[BS] at l1;lia) (λd3 h3=>?_);have oI:p≠d3:=Am Ab h3;refine uG! CI (kM! oI) T.cl T.nT (by have:=l2 (As! d1);have:=l3 (Y! d1) (Y! d2);simp only[BS] at l1;lia) ?_;have g1:h? d1:=by rw[Nc!] at h1;exact h1
 have gm:d1≠d2:=λz=>by rw[<-z,Nc!,Ab] at h2;cases h2
 have g2:h? d2:=by rw[Yw!,db! gm,Yw!] at h2;exact h2
 have jm:d2≠d3:=λz=>by rw[<-z,Yw!,Ab] at h3;cases h3
 have jn:d1≠d3:=λz=>by rw[<-z,Nc!,Ad gm,Nc!,Ab] at h3;cases h3
 have g3:h? d3:=by rw[iq!,db! jm,iq!,db! jn,iq!] at h3;exact h3
 refine k _ ⟨n,d1,d2,d3,[],[],[]⟩ (λb u e hb=>?_) ⟨G1! Ab,?_,?_,?_,gm,jn,jm⟩ rfl rfl rfl rfl g1 g2 g3;.have m1:=Am e g1;have m2:=Am e g2;have m3:=Am e g3;rw[BT!,Ad m3,BT!,Ad m2,BT!,Ad m1,BT!];exact e
 .rw[Nc!,Ad jn,Nc!,Ad gm,Nc!];exact Ab
 .rw[Yw!,Ad jm,Yw!];exact Ab
 .rw[iq!];exact Ab
inductive cO(vs:C!)(H:Hp)(Q:VK)(E:XK):Prop
 | mk (p:Addr) (I:Iq) (h t:Int) (v:V) (_:vs=[y?,pt,T! t,v]) (_:Uc!) (_:I.fs.length<=500) (_:I.ss.length<=500) (_:∀H',FV H' p { I with ss:=putK I.ss SD! v,fs:=dj! I.fs SD! t }->(QQ! (b≠I.sd) (b≠I.fd) Fc!)->Q (T1! (O? (c? (putK I.fs (.inl h) (.int t)).length)=O? I.m)) H')
theorem uS:A? Of! Of! Ml:={}
theorem fm(F:h! FL! tp! Ml)(T:Ym)(hl:ZI!):Bt! Of! cO:=by
 refine Y? uS;obtain⟨p,I,h,t,v,rfl,S,zf,zs,k⟩:=h;refine W!;have hu:=I?;obtain⟨dx,hp⟩:=S.ob;refine L1! (sB! R!) (Ac (TR! P?) (wT (bC! (v0! Ot hl W?) W?)));have npf:p≠I.fd:=λz=>by rw[z,S.f] at hp;cases hp
 have nps:p≠I.sd:=λz=>by rw[z,S.s] at hp;cases hp
 refine so! CI dx hp T.cl T.nF Nb I.fd Rr! S.f (HW F!);have HM:Pc! (AP! I.fd .dK (Vi! I.fs)) CI sT!:=i! npf hp
 have s1:TQ! I.fd I.fs I.sd I.ss:=i! S.sf S.s
 have c1:TQ! I.fd I.fs I.cd I.cs:=Mq! S.fc S.c
 have f1:TQ! I.fd I.fs I.fd vk!:=Ab;have k1:QQ! (b≠I.sd) (b≠I.fd) (Ad! (AP! I.fd .dK (Vi! I.fs))):=λb o e _ n=>Nj!
 generalize wP H I.fd .dK vk!=H1 at HM s1 c1 f1 k1;refine so! CI dx HM T.cl T.nS Vh I.sd Rr! s1 (HW F!);have GV:Pc! (CH! H1 I.sd .dK Op!) CI sT!:=i! nps HM
 have s2:ue! H1 I.sd Op! I.sd Op!:=Ab;have c2:ue! H1 I.sd Op! I.cd I.cs:=Mq! S.sc c1
 have f2:ue! H1 I.sd Op! I.fd vk!:=Mq! S.sf f1
 have k2:QQ! (b≠I.sd) (b≠I.fd) (Ad! (CH! H1 I.sd .dK Op!)):=λb o e n1 n2=>i! n1 (k1 b o e n1 n2)
 generalize wP H1 I.sd .dK Op!=H2 at GV s2 c2 f2 k2;exact⟨_,rfl,p,CI,dx,_,_,rfl,GV,T.cl,T.nF,Nb,I.fd,_,rfl,f2,_,rfl,p,CI,dx,_,_,rfl,GV,T.cl,T.nM,Jdj,rfl,k H2 ⟨G1! GV,s2,f2,c2,S.sf,S.sc,S.fc⟩ k2⟩
inductive aQ(vs:C!)(H:Hp)(Q:VK)(E:XK):Prop
 | mk (p:Addr) (I:Iq) (h t:Int) (_:vs=[y?,pt,T! t]) (_:Uc!) (_:I.cs.length<=500) (_:∀H',FV H' p { I with cs:=dj! I.cs SD! t }->(N3! (b≠I.cd))->Q (T1! (O? (c? (putK I.cs (.inl h) (.int t)).length)=O? I.m)) H')
theorem lu:A? Ns! Ns! Ke:={}
theorem dC(F:h! JS! tq! Ke)(T:Ym)(hl:ZI!):Bt! Ns! aQ:=by
 refine Y? lu;obtain⟨p,I,h,t,rfl,S,zc,k⟩:=h;refine W!;have hu:=I?;obtain⟨dx,hp⟩:=S.ob;refine L1! (sB! R!) (wT (bC! (v0! Ot hl W?) W?));have npc:p≠I.cd:=λz=>by rw[z,S.c] at hp;cases hp
 refine so! CI dx hp T.cl T.nT Ol I.cd Rr! S.c (HW F!);have HM:Pc! (AP! I.cd .dK (Vi! I.cs)) CI sT!:=i! npc hp
 have s1:TQ! I.cd I.cs I.sd I.ss:=i! S.sc S.s
 have c1:TQ! I.cd I.cs I.cd (Vi! I.cs):=Ab;have f1:TQ! I.cd I.cs I.fd I.fs:=i! S.fc S.f
 have k1:iZ! (b≠I.cd) (AP! I.cd .dK (Vi! I.cs)):=λb o e n=>Nj!
 generalize wP H I.cd .dK (Vi! I.cs)=H1 at HM s1 c1 f1 k1;exact⟨_,rfl,p,CI,dx,_,_,rfl,HM,T.cl,T.nT,Ol,I.cd,_,rfl,c1,_,rfl,p,CI,dx,_,_,rfl,HM,T.cl,T.nM,Jdj,rfl,k H1 ⟨G1! HM,s1,f1,c1,S.sf,S.sc,S.fc⟩ k1⟩
structure Full(I:Iq)(n:Nat)(f c:C7!)(a:KZ!):Prop where
 ks:∃os:C2!,ko! os.Perm/\EV! I.fs.map os.map (Gg! (EI! AF!))
 fs:∀k<n,B4 I.fs (Z! AF!)=A! (a! (f k))
 cs:∀k<n,B4 I.cs (Z! AF!)=A! (a! (c k))
 ss:∀k<n,B4 I.ss (Z! AF!)=A! (As! (a k))
def Dy(n:Nat)(f c:C7!):C2!:=(List.range n).filter λk=>w! (f k=c k)
theorem Jec:∀{ms:j!} {n:Nat},ms.Perm (rg n)->ms.Pairwise (·<=·)->ms=rg n:=λ{ms n} pm pw=>by (have pr:(rg n).Pairwise (·<=·):=by unfold rg;rw[EA];exact X7! (λ{a b} (h:a<b)=>B!) RB);exact pm.eq_of_pairwise (λa b _ _ h1 h2=>B!) pw pr
inductive YO(vs:C!)(H:Hp)(Q:VK)(E:XK):Prop
 | mk (p:Addr) (I:Iq) (n:Nat) (f c:C7!) (a:KZ!) (_:GK!) (_:Uc!) (_:n<=60) (_:Full I n f c a) (_:∀(l:Addr)(H':Hp),Jh!->KM->if! iN (Dy n f c)->Gs! l)
theorem Jp8:Z8! Mj:={}
def Jnp:TT:=J6 (RP jd (ct! HJ!) (ct! JV!))
theorem fk(F:h! "still" ts! Mj)(T:Ym)(hso:CO! O3!):Sn! YO:=by
 refine Y? Jp8;obtain⟨p,I,n,f,c,a,rfl,S,hz,fu,k⟩:=h;refine W!;have hu:=I?;obtain⟨dx,hp⟩:=S.ob;refine Ig! (oB! Jnp Ky! (Dz (Bv (Nl rfl) DQ! hso ED (ca W?))) b2! b2!);obtain⟨os,pm,ek⟩:=fu.ks;have lo:os.length=n:=z! pm.length_eq BW
 refine⟨_,rfl,p,CI,dx,_,_,rfl,hp,T.cl,T.nF,Nb,I.fd,I.fs,os.map (Gg! AF!),rfl,S.f,gT! ek,Hb!,λr ms E_ uc pw=>?_⟩;have em:ms=rg n:=Jec (uc.trans (pm.map _)) pw;subst em;rw[Joi];have s1:=h2! fY! E_;have e1:PG! (AP! r .BJ fY!) r fY!:=Ab;generalize wP H r .BJ fY!=H1 at s1 e1;refine⟨r,rfl,vF! e1,RW!⟩;refine Fa (K:=K) (a:=r) (xs:=ko! iN) (tt:=Jnp) (te:=Ca 0) (caps:=Ky!) (λi ys H'=>PM! H' l/\Bu H1 H'/\ys=iN (Dy i f c)) (C1! Ab (Ag hl)) (λi ys H' _ z=>Mo! z.2.1 e1 z.1) ?_ ?_;.rintro i v ys H2 N hi ⟨el,s2,rfl⟩ hN;have bf:=CK! hi;(have li:(iN (List.range n)).length=n:=by unfold iN;rw[ZA,BW]);rw[li] at bf;(have hi:O? l!=v:=by unfold iN at hi;rw[ZH,List.getElem?_range bf] at hi;exact ZO hi);subst hi;have jc:=Tj!;have S2:=FF! jc;obtain⟨IZ,GV⟩:=S2.ob;(have gf:aB! I.fd l! (some (a! (f i))):=jj! l! S2.f (fu.fs i bf));(have gc:aB! I.cd l! (some (a! (c i))):=jj! l! S2.c (fu.cs i bf));(have BJ:(Dy i f c).length<=i:=jk! (AO (λk=>w! (f k=c k)) (List.range i)));(have st1:Dy (i+1) f c=Dy i f c++TJ! (f i=c i) [i]:=by unfold Dy;rw[DM,CU];congr 1;by_cases z:f i=c i;(.rw[AF z];simp[z]);.rw[AB z];simp[z]);refine⟨_,rfl,p,CI,IZ,_,_,rfl,GV,T.cl,T.nF,Nb,_,rfl,I.fd,_,rfl,gf,_,rfl,p,CI,IZ,_,_,rfl,GV,T.cl,T.nT,Ol,_,rfl,I.cd,_,rfl,gc,rfl,_,rfl,?_⟩;refine X7 (AX!) (AX!);(·(have z:f i=c i:=by have:=BU z;injection this);refine kr! el (HW (by unfold iN;rw[ZA];lia)) (GM Ab (Ab! (ed! hl (s2 b o e))));rw[st1,AF z];unfold iN;rw[ZF];rfl);.have z:¬f i=c i:=λy=>z (DL! y);refine E! hN (GM el s2);rw[st1,AB z,AE]
 .rintro ys H2 ⟨el,s2,rfl⟩;(have li:(iN (List.range n)).length=n:=by unfold iN;rw[ZA,BW]);rw[li] at el;exact k l H2 (Cm s1 hl) (Ai s1 s2) el
def KZ(n:Nat)(f c:C7!)(a:KZ!)(S:GE!):Nl!:=(Dy n f c).map (Gg! (AF!,a k,S k))
inductive U_(vs:C!)(H:Hp)(Q:VK)(E:XK):Prop
 | mk (p:Addr) (I:Iq) (n:Nat) (f c:C7!) (a:KZ!) (S:GE!) (_:GK!) (_:Uc!) (_:n<=60) (_:Full I n f c a) (_:(∀k<n,Hr! (a k) (S k))) (_:PR (GB (KZ n f c a S))) (_:∀(x:Addr)(as:M!)(ts:D!)(H':Hp),ju! lp! LQ! (OZ! GB (KZ n f c a S)))
theorem fN:V6! [Bu!,Dj!,"h"] Kf:={}
theorem Jiq{a:KZ!}{S:GE!}{ks:C2!}{k:Nat}(h:k∉ks):B4 ((ks.map (Gg! (AF!,a k,S k))).map MD!) (AD! AF!)=none:=by refine Jd5 Jz!;rw[AN] at m;obtain⟨j,hj,e⟩:=Dr!;have e:BS!=AF!:=e;exact h (H! (Ls! (k=j)) hj)
theorem Jfv(n:Nat)(f c:C7!):(Dy n f c).Nodup:=List.nodup_range.filter _
theorem dE{f fS fU:Addr}{fd dS dU:FuncData}(F:h! "result" tt! Kf)(T:Ym)(MS:TL! "still" ts! Mj fS dS)(GS:SJ! fS dS YO)(MU:ip! dt! Gp fU dU)(GU:DQ 2 fU dU Jb! (NQ)):UX! UV U_:=by
 refine Y? fN;obtain⟨p,I,n,f,c,a,Sf,rfl,S,hz,fu,st,fi,k⟩:=h;refine W!;have hu:=I?;have HC:ap:=M?;have JR:Kd!:=M?;obtain⟨dx,hp⟩:=S.ob;refine Kx! fN.nd Ei (Ac (eD! (Dz (QC! a? T.cl MS.mt GS HC MS.bd)) (H2! fN.nd) (iT! d! R! (eA! R!))) (wT (PQ! GU JR MU.mg MU.fn.kp MU.bd (ca d!))));intro d hd;have s1:=H5! hd;have e1:eE! (AP! d .dK []) d []:=Ab;generalize GL! H d=H1 at s1 e1;have S1:=IF!;obtain⟨FC,HM⟩:=S1.ob;refine⟨_,rfl,p,FC,_,rfl,HM,rn! cL,p,I,n,f,c,a,rfl,S1,hz,fu,λl H2 hl s2 el=>?_⟩;refine A2! l rfl (vF! el);have mD:d≠l:=λz=>by rw[z] at e1;rw[e1] at hl;cases hl
 have ls:SZ iN (Dy n f c)=(Dy n f c).length:=by unfold iN;rw[ZA]
 have lz:(Dy n f c).length<=n:=jk! (AO (λk=>w! (f k=c k)) (List.range n))
 refine ag! l (iN (Dy n f c)) (λj σ H'=>∃u2,σ=g1! Rw!/\KM/\if! iN (Dy n f c)/\bv H' d .dK (((Dy n f c).take j).map (Gg! (AF!,a k,Sf k)) |>.map MD!)) (A1! rfl Tj! el (E! s2 e1)) (λj σ H' _ h9=>by obtain⟨_,_,_,z,_⟩:=h9;exact E8! z);.rintro j v σ H3 hj ⟨u2,rfl,s3,eQ,gT⟩;have gx:=Yf!;rw[ls] at gx;obtain⟨kk,si⟩:=Au (xs:=Dy n f c) gx;(have hj:O? (c? kk)=v:=by unfold iN at hj;rw[ZH,si] at hj;exact ZO hj);subst hj;have mk:=ZP si;have hk:kk<n:=BN.mp (FC! mk);have S3:=FF! s3;obtain⟨QC,QR⟩:=S3.ob;(have gs:DS H3 I.sd (Op (c? kk)) (some (As! (a kk))):=jj! (c? kk) S3.s (fu.ss kk hk));(have YW:kk∉(Dy n f c).take j:=λz=>by obtain⟨i,hi,e⟩:=List.mem_iff_getElem.mp z;rw[CD] at hi;rw[List.getElem_take] at e;have e3:=(ZJ si).2;have:=(FN (Jfv n f c)).mp (e.trans e3.symm);lia);refine ss! CI QC QR T.nS Vh I.sd gs rfl d _ rfl (FZ.k (k:=J! (c? kk)) gT (HW (VJ! ZA ZA CD)));rw[E4 _ (Jiq YW)];refine A1! rfl (a7! hd s3) (Mq! mD eQ) ?_;rw[Ab,CO,si];simp only[Option.toList_some,ZF,AI,DW]
 .rintro σ H3 ⟨u2,rfl,s3,eQ,gT⟩;rw[ls,BL] at gT;refine ax! d (KZ n f c a Sf) ⟨gT,AY!⟩ fi (λx as ts H4 s4 ex th fo=>k x as ts H4 (Ai s3 s4) ex th fo);obtain⟨j,hj,rfl⟩:=ZN hq;exact A5! (st j (BN.mp (FC! hj))).keep s3
universe E
universe E K45F
universe N K45
open PySem L2 FX
theorem Gv:∀{R U:D!},R.Nodup->(∀t∈R,t∈U)->R.length<=U.length
 | [],U,_,_=>wn
 | a::R,U,nd,h=>by have NR:=Bd!;have ha:=Eq! a;have ih:=Gv (R:=R) (U:=U.erase a) NR.2 (sB ((List.mem_erase_of_ne (KY! NR.1 ht)).mpr (h t (ZD _ ht))));rw[List.length_erase_of_mem ha] at ih;have:=DI ha;simp only[BM];lia
def xa(p:Addr)(W:EE)(io:Addr)(I:K45F.Iq):Prop:=r6! (b=io) CR!
structure m8(H:Hp)(c b:Int)(ts:D!)(L:k!)(m:Nat):Prop where
 num:EV! L.map (List.range m).map of!
 MA:G6! (λ(y:Int×Addr)(i:Nat)=>UW H y.2 y.1 b l! (ts.filter OV!)) L List.range m
theorem m8.len(x:m8 H c b ts L m):fV!:=jk! (y! x.MA)
universe S
inductive Nr(vs:C!)(H:Hp)(Q:VK)(E:XK):Prop
 | mk (p:Addr) (b n:Int) (W:EE) (io:Addr) (I:K45F.Iq) (m:Nat) (f c:C7!) (a:KZ!) (S:GE!) (_:vs=[y?,T! b,ML!]) (_:IR) (_:Zw! W.LG (AD! n) io) (_:K45F.FV H io I) (_:m<=60) (_:K45F.Full I m f c a) (_:(∀k<m,Hr! (a k) (S k))) (_:Rk! K45F.GB qQ!) (_:Xx!) (_:F3!) (_:W.FK.length<=900) (_:(∀e∈W.FK,e.1≠n)) (_:∀(x xf:Addr)(as:M!)(ts:D!)(L:k!)(H':Hp),OZ! K45F.GB qQ!->HA! { W with c:=Bb!,ls:=D1!,FK:=GS! }->m8 H' W.c b ts L W.qs.length->vX! xf->LQ!->vO! Tx! Qz! fI!)
theorem aJ:A? [Bu!,t4!,"n","found","went","h","there"] Ob! Kb:={}
def Jns:TT:=c4! jd
theorem Jbv(F:h! t7! uA! Kb)(T:Txt)(TW:F9)(TP:Nm)(TI:Ym)(M1:TL! "result" tt! Kf f1 d1)(G1:DQ 3 f1 d1 UV (K45F.U_))(M3:Ug!):DQ 4 f fd Ob! (Nr):=by
 have G3:cU!:=cI!;refine Y? aJ;obtain⟨p,b,n,W,io,I,m,f,c,a,Sf,rfl,S,vi,SI,zm,fu,st,fi,z1,z2,z3,nf,k⟩:=h;refine W!;have hu:=I?;have HC:ap:=M?;obtain⟨dx,hp⟩:=S.ob;obtain⟨jD,mO⟩:=SI.ob;refine vq! 3 aJ.nd (QC! (eA! R!) TI.cl M1.mt G1 hr M1.bd) (Ac (eG! R! P?) (MX! 4 aJ.nd LW! (eD! (El rfl T.range (ca pi!)) (iO! 5 aJ.nd) (GR! 6 aJ.nd (cu! T.tuple (oB! Jns [("h",5)] (ST! 3) Ht! d!)) (rW! j? (Aa (Ao (pl:=_) W? TP.cl M3.mt G3 HC M3.bd L! A7 (TP! WP B0!)) Ae)))) (V0! 4)));have gi:DS H W.iq dg! (L4! io):=jj! n S.iq vi
 refine⟨_,rfl,p,CW,dx,_,_,rfl,hp,TW.cl,TW.nI,Nq W,_,rfl,W.iq,_,rfl,gi,io,jD,_,rfl,mO,rn! K45F.cL,io,I,m,f,c,a,Sf,rfl,SI,zm,fu,st,fi,λxf as ts H1 s1 aq th fo=>?_⟩;have W1:=IF!;obtain⟨FC,HM⟩:=W1.ob;refine so! CW FC HM TW.cl TW.nF (Qd W) W.fi ev! W1.fi (Ry! M0);rw[X0 nf];obtain⟨W2,QB⟩:=Jr8 W1 (l:=GS!);have ix:=FD! W1 QB;have dY:JD! (u0! H1 W.fi GS!):=Gi! (MV! QB (X! s1 eb));have lH:=E! ix.BB aq;have ZX:=JY! ix th;generalize Kz! H1 W.fi kvsOf (GS!)=H2 at W2 ix dY lH ZX;refine eN! Hf!;have s3:=K0!;have e3:PG! (vj! r) r []:=Ab;have W3:=kk!;generalize ZF! H2 r=H3 at s3 e3 W3;have pq:∀W':EE,P0!=L0!->r∉P0!:=λW' e m=>by rw[e] at m;exact W2.PY E_ m
 obtain⟨QC,QR⟩:=W3.ob;have e0:c? (SZ W.qs.map LM!)=W.qs.length:=x!
 refine⟨_,rfl,p,CW,QC,_,_,rfl,QR,TW.cl,TW.nH,Ek _,W.hs,_,rfl,WT! W3.hs,Rm!,(by rw[<-e0]),B!,B!,?_⟩;rw[CQ];have bV:as.length=ts.length:=y! ZX;have zE:ts.length<=60:=by have nd:ts.Nodup:=X7! (λ{a b} (h:IY a b) (z:a=b)=>oZ!) fo.pw;have:=Gv nd (sB ((fo.mem t).mp ht).1);rw[ZA] at this;exact AV this fi.rz
 refine Oj (lo:=0) (n:=W.qs.length) (λi σ H'=>∃(u5 u6:Ar!)(L:k!),σ=[AV!,Go b,iL!,i? xf,hg!,u5,u6]/\wP! r/\HA! { W with c:=t3!,ls:=D1!,FK:=GS! }/\m8 H' W.c b ts L i/\BD H3 H'/\HG!) ⟨_,_,[],rfl,e3,by (have e:({ W with c:=Z2!,ls:=W.ls++[],FK:=GS! }:EE)={ W with FK:=GS! }:=x!);rw[e];exact W3,x? L!,YD!,Gi! (F7! (dY b o eb hb))⟩ ?_ ?_;.rintro i σ H4 hi ⟨u5,u6,L,rfl,er,W4,l4,k4,VI⟩;rw[Ir! Z0!];have qQ:=iK! k4.BB lH;have cU:=R2! k4 BC.keep (EI s3) ZX;refine JW! xf (d? qQ) AY!;refine Tc (K:=K) (b:=OV!) (caps:=[("h",5)]) hq F! (CA.of qQ) cU (λH5 a5 t5 Q' sm ha ht qq=>?_) λH5 bs sm ep tb=>?_;(.refine⟨_,rfl,a5,_,0,O? t5.1,rfl,rfl,d? ha,rfl,_,rfl,rfl,_,rfl,?_⟩;rw[show WF! t5.1 l!=Av! t5.1 l! by by_cases z:t5.1=l!;(.rw[z];simp);.rw[decide_eq_false z,Ax! (λy=>z (by injection y))]];exact qq);refine Nx! q ep (λx6 hx6=>?_);have s6:=TB! bs.map hx6;have e6:kK! H5 x6 bs.map x6 bs.map:=Ab;have tb6:=B8! s6 tb;have ag:=Ai sm s6;generalize ia! H5 x6 bs.map=H6 at s6 e6 tb6 ag;have W6:=W4.same ag;obtain⟨YZ,bZ⟩:=W6.ob;obtain⟨kF,hq7⟩:=W6.po.ob;have er6:=E! ag er;refine⟨_,rfl,Ey! er6,_,rfl,p,CW,YZ,_,_,rfl,bZ,TW.cl,TW.nP,E6 _,W.po,kF,_,rfl,hq7,Mb!,_,rfl,_,rfl,_,rfl,?_⟩;refine eY! _ _ W6.po (XC! ZE l4.len) (λt7 H7 ht7 wK S7 VM=>?_);obtain⟨W7,lZ⟩:=W6.JO S7 VM;have XT:=FD! W6 lZ;have er7:h5! H7 r MI!:=o! lZ er6 (pq _ rfl);refine cr! r er7 (ea! l4.len);(have kq:JR! H7 H7 r (L.map (MI!)++[Bo! Eg!]):=re er7);have kk:=((EI ag).trans XT).trans kq;refine⟨_,_,L++[(Eg!,t7)],rfl,H! ZF Ab,?_,Fj!,k4.trans kk,?_⟩;(·(have e1:V3! (i+1)=Eg!:=B!);rw[e1,<-AK];exact oF! W7.keep (λz=>pq _ rfl (fs! hb)));(.rw[ZF,l4.num,DM,ZF];congr 1;show [Eg!]=[SC+l!];congr 1;lia);(.rw[DM];exact G8 ⟨x6,bs,Rp! wK,Bn! kq.BB XT.BB e6,R2! kq BC.keep XT tb6⟩ (An (λ_ _ rr=>rr.keep kk) l4.MA));.intro b' o' e' IX;have ot:b'≠r:=Am (dY b' o' e' IX) E_;rw[Ad ot];exact lZ b' o' (X! ag (ei! VI)) IX
 .rintro σ H4 ⟨u5,u6,L,rfl,er,W4,l4,k4,VI⟩;exact KF (k r xf as ts L H4 fo W4 l4 (X! k4.BB (MU! lH)) (BC.keep k4 (BC.keep (EI s3) ZX)) VI er (λz=>by have:=W2.hs;rw[Lu! (({ W with FK:=GS! }:EE).hs=W.hs),<-z,E_] at this;cases this) (Gi! (Am (MV! dY eb) E_)))
universe E
def aB(p:Addr)(W:EE)(I:K45F.Iq)(H H':Hp):Prop:=qE! (b≠I.sd) (b≠I.fd) (b≠I.cd) Fc!
universe S
theorem aB.DJ(x:IR)(y:K45F.FV H io I)(f:aw!):p?:=by
 have ne:∀{b:Addr} {o:HO} {d:Addr} {kvs:k?},Gr!->(∀kvs,o≠.dK kvs)->S3!->b≠d:=λ{b o d kvs} e n ed z=>by rw[z,ed] at e;injection e with e;exact n _ e.symm
 exact RC! (f a _ e (x.fb e) (Un! y.s) (Un! y.f) (Un! y.c)) (λa ob u e=>f a _ e (λm=>by obtain⟨o,e',_,h⟩:=i8!;rw[e] at e';cases e';exact E! h rfl) (Un! y.s) (Un! y.f) (Un! y.c))
theorem AQ.off(x:IR)(f:N3! XR!):s5! H':=x.keep λb o m e=>Br! f m
theorem Jdo(nd:Hy! m5!):B4 (kvsOf (m5!)) (AD! k)=A! (Y! e)/\Ej (kvsOf (m5!)) (AD! k)=kvsOf (AK!):=⟨Xj! (Jas nd),Jaw nd⟩
universe E
universe S
inductive Ql(vs:C!)(H:Hp)(Q:VK)(E:XK):Prop
 | mk (p t:Addr) (W:EE) (k s g n u:Int) (e1 e2:k!) (e xs:Addr) (tick:Int) (io:Addr) (I:K45F.Iq) (_:Fn!) (_:IR) (_:ai! k BD!) (_:W.EF=m5!) (_:o? W.EF.map) (_:G2! e (nZ! tick)) (_:Zw! W.LG (AD! n) io) (_:K45F.FV H io I) (_:xa p W io I) (_:I.fs.length<=500) (_:I.ss.length<=500) (_:I.cs.length<=500) (_:Xx!) (_:F3!) (_:((u=1/\(fC! I.fs≠I.m->QD! (HA! Xy!->b1! { I with ss:=vb! I.ss,fs:=dq! I.fs }->aw!->Z9! []->DW!))/\(hC! I.fs->g5! (HA! { W with EF:=AK!,c:=Bb!,ls:=D1! }->OC H' W.c g n 2 L W.qs.length->b1! { I with ss:=vb! I.ss,fs:=dq! I.fs }->aw!->Tx!->DW!)))\/(u≠1/\(fC! I.cs≠I.m->QD! (HA! Xy!->b1! { I with cs:=dq! I.cs }->aw!->Z9! []->DW!))/\(hC! I.cs->∃(m:Nat)(f c:C7!)(a:KZ!)(S:GE!),m<=60/\K45F.Full { I with cs:=dq! I.cs } m f c a/\(∀k<m,Hr! (a k) (S k))/\Rk! K45F.GB qQ!/\W.FK.length<=900/\(∀e∈W.FK,e.1≠n)/\∀(x xf:Addr)(as:M!)(ts:D!)(L:k!)(H':Hp),OZ! K45F.GB qQ!->HA! { W with EF:=AK!,c:=Bb!,ls:=D1!,FK:=GS! }->m8 H' W.c g ts L W.qs.length->vX! xf->LQ!->b1! { I with cs:=dq! I.cs }->aw!->Tx!->DW!))))
theorem UY:YL! [Bu!,VA!,"sender",t4!,"n",O7!,"last"] Fd:={}
theorem Jjo(F:h! tz! t0! Fd)(T:Txt)(TW:F9)(TI:Ym)(M1:CJ K CI FL! tp! Ml Of! f1 d1)(M2:CJ K CI JS! tq! Ke Ns! f2 d2)(M3:r3! f3 d3)(G3:DQ 2 f3 d3 QY! (Ih))(M4:E5! t7! uA! Kb Ob! f4 d4)(G4:DQ 4 f4 d4 Ob! (Nr)) : DQ 5 f fd AS! (Ql):=by
 have G1:Co! f1 d1 Of! K45F.cO:=K45F.fm M1.fn TI T.len;have G2:Co! f2 d2 Ns! K45F.aQ:=K45F.dC M2.fn TI T.len;refine Uo! UY;.obtain⟨p,t,W,k,s,g,n,u,e1,e2,e,xs,tick,io,I,rfl,_⟩:=h;rfl
 .obtain⟨p,t,W,k,s,g,n,u,e1,e2,e,xs,tick,io,I,rfl,S,⟨a,et,ea⟩,ee,nde,he,vi,SI,off,zf,zs,zc,z1,z2,kk⟩:=h;have hu:=I?;have HC:ap:=M?;have JR:Kd!:=M?;obtain⟨dx,hp⟩:=S.ob;refine TS! UY.nd (GR! 3 UY.nd Gv! (FM! (CJ! 4 UY.nd R3!) (iF! UY.nd (Zu W? Gv! Aw!)) (Bj (Si! R3!) (GR! 6 UY.nd (Lx! (eA! j?) TI.cl M1.mt G1 HC M1.bd A7 (Ji! R! (Af! WP) (Af! WP))) (wT (Zt (Jl (pv 6)) (kX! M3.mt G3 JR M3.bd (Ji! P? j? Ah)) LW!))) A5) (CJ! 6 UY.nd (Lx! (eA! j?) TI.cl M2.mt G2 HC M2.bd A7 (YK! (Af! WP)))) (wT (Zt (Jl (pv 6)) (kX! M4.mt G4 hr M4.bd (Ck! P? j?)) LW!))));have p9:=nde;rw[ee] at p9;obtain⟨ev,ed⟩:=Jdo p9;refine r8! 2 s;refine r8! 3 g;refine⟨_,rfl,t,_,4,PT!,rfl,rfl,Cv!,rfl,a,_,0,O? n,rfl,rfl,YJ!,rfl,?_⟩;have wU:=S.en;rw[ee] at wU;refine⟨_,rfl,p,CW,dx,_,_,rfl,hp,TW.cl,TW.nE,Jfi W,W.en,rfl,YA! (J! wU),_,rfl,t,_,0,O? k,rfl,rfl,Cv!,rfl,_,Sum.inl k,_,wU,rfl,ev,?_⟩;rw[ed];obtain⟨W1,HP⟩:=Jr6 S (l:=AK!);have NS:=OA!;have sr:K45F.FV (upd H W.en (.dK (kvsOf (AK!)))) io I:=SI.keep (cb! HP);generalize upd H W.en (.dK (kvsOf (AK!)))=H1 at W1 HP NS sr;have wM:=E! NS.BB et;have wo:=E! NS.BB ea;have mR:=E! NS.BB he;obtain⟨FC,HM⟩:=W1.ob;obtain⟨jD,mO⟩:=sr.ob;(have gi:DS H1 W.iq dg! (L4! io):=Ea! (DS.k (k:=J! n) W1.iq) (Lu! ((Xy!:EE).LG=W.LG)) vi);refine⟨_,rfl,t,_,4,PT!,rfl,rfl,d? wM,rfl,a,_,1,O? u,rfl,rfl,d? wo,rfl,rfl,_,rfl,?_⟩;have c6:=off I.sd Y6!;have yt:=off I.fd (J? Y6!);have yu:=off I.cd (J? (GF! rfl));rcases kk with⟨u1,k1,k2⟩|⟨u1,k1,k2⟩;(.subst u1;refine Ba!;refine⟨_,rfl,p,CW,FC,_,_,rfl,HM,TW.cl,TW.nI,Nq _,_,rfl,W.iq,_,rfl,gi,io,jD,_,rfl,mO,rn! K45F.cL,_,rfl,_,rfl,e,_,0,O? tick,rfl,rfl,d? mR,rfl,_,rfl,e,_,1,Q? xs,rfl,rfl,d? mR,rfl,?_⟩;refine⟨io,I,s,tick,F? xs,rfl,sr,zf,zs,λH2 m7 LZ=>?_⟩;have W2:Ff! Xy!:=AQ.off W1 (Gi! (LZ b o eb (X? c6 (Vd! hb)) (KY! yt hb)));have mW:aB p W I H H2:=U5! (LZ b o j6! n1 n2);obtain⟨IZ,GV⟩:=W2.ob;refine np!;by_cases c:hC! I.fs;(.rw[mN!];refine Ba!;refine qR! IZ GV (Cr _ ZV) g n 2 _ W2 z1 z2 (λx L H3 W3 l3 bR ex _ _=>?_);refine k2 c x L H3 W3 l3 (m7.keep (cb! bR)) (U5! (MV! bR qq!)) ex);.rw[Dp! (X? c (by injection z))];refine Cc (eN! EZ!);have s3:=FI! hx;exact k1 c x _ (W2.same s3) (m7.same s3) (U5! (F7! qq!)) Ab);.rw[Dp! (X? u1 (by injection z))];refine B3!;refine⟨_,rfl,p,CW,FC,_,_,rfl,HM,TW.cl,TW.nI,Nq _,_,rfl,W.iq,_,rfl,gi,io,jD,_,rfl,mO,rn! K45F.cL,_,rfl,_,rfl,e,_,0,O? tick,rfl,rfl,d? mR,rfl,?_⟩;refine⟨io,I,s,tick,rfl,sr,zc,λH2 m7 LZ=>?_⟩;have W2:Ff! Xy!:=AQ.off W1 (Gi! (LZ b o eb (X? yu (Vd! hb))));have mW:aB p W I H H2:=U5! (LZ b o j6! n3);obtain⟨IZ,GV⟩:=W2.ob;refine np!;by_cases c:hC! I.cs;(.rw[mN!];refine Ba!;obtain⟨m,f,cf,af,Sf,zm,fu,st,fi,z3,nf,k3⟩:=k2 c;have kt:=aB.DJ S SI mW;refine⟨_,rfl,p,IZ,_,rfl,GV,Cr _ ZV,_,rfl,_,rfl,p,g,n,_,io,_,m,f,cf,af,Sf,rfl,W2,vi,m7,zm,fu,λj hj=>(st j hj).keep kt,fi,z1,z2,z3,nf,λx xf as ts L H3 fo W3 l3 aq th bR ex _ _=>?_⟩;exact k3 x xf as ts L H3 fo W3 l3 aq th (m7.keep (cb! bR)) (U5! (MV! bR qq!)) ex);.rw[Dp! (X? c (by injection z))];refine Cc (eN! EZ!);have s3:=FI! hx;exact k1 c x _ (W2.same s3) (m7.same s3) (U5! (F7! qq!)) Ab
inductive Qk(vs:C!)(H:Hp)(Q:VK)(E:XK):Prop
 | mk (p:Addr) (h:Int) (W:EE) (q:Addr) (G:BZ) (_:SY!) (_:IR) (_:pi) (_:Xx!) (_:F3!) (_:W.LG.length<=400) (_:(∀l∈W.LG,l.1≠V9!)) (_:∀(io:Addr)(I:K45F.Iq)(L:k!)(H':Hp),HA! { W with LG:=a3!,c:=Bb!,ls:=D1! }->OC H' W.c h (V9!) 1 L W.qs.length->b1! I->xa p W io I->(r6! (b=io) t?)->I.m=Rm!->I.ss=[]->I.fs=[]->I.cs=[]->HG!->Th! (V9!))
theorem fe:A? [Bu!,"h","n"] BJ! Y6:={}
theorem Jjn(F:h! Rs tv! Y6)(T:Txt)(TW:F9)(TI:Ym)(MH:Gc!)(pN:Mk K CI fI)(FI:NJ! to! Q7 fI dI)(bI:MQ! dI NF!)(M1:r3! f1 d1)(G1:pE! QY! Ih):Sr! BJ! Qk:=by
 have GH:Il!:=Im!;have GI:b? 1 fI dI NF! K45F.OW:=SC! K45F.YT FI TI;have G1':b? 2 f1 d1 QY! Ih:=Q8! G1;refine AI! fe;obtain⟨p,h,W,q,G,rfl,S,i,z1,z2,z3,h1,k⟩:=h;refine W!;have hu:=I?;have HC:ap:=M?;obtain⟨dx,hp⟩:=S.ob;refine Ih! Wf! (GR! 2 fe.nd (H1! (v0! Ot T.len W?)) (Y4! (eG! R! (Xa pN GI hr DQ! TI.jo bI L! Cf (ca pi!))) (Bf (Lx! a? TW.cl M1.mt G1' hr M1.bd Cf (Ji! d! R! Ah))) 2));refine wL! (I! (A2! q G i));refine⟨_,rfl,p,CW,dx,_,_,rfl,hp,TW.cl,TW.nI,Nq W,W.iq,_,rfl,S.iq,_,_,rfl,rfl,?_⟩;rw[M0];refine sH! CW dx hp TW.cl TW.nH (Ek W) W.hs kq! (λio jD um ik uq=>?_);refine⟨io,jD,_,rfl,Ab,λH1 I rm A1 im is vF ic n1 n2 n3=>Hn!⟩;have s0:BQ! (upd (AP! jD Cb! io) io (.ins CI jD [])):=rp! um ik
 have s1:BQ! H1:=qW! rm s0 um;have EO:r6! (b=io) t?:=N? (by rcases hb with rfl|rfl|rfl|rfl;(.exact um);(.exact Cm s0 n1);(.exact Cm s0 n2);.exact Cm s0 n3)
 have off:xa p W io I:=N? (S.PY (EO b hb));have S1:=IF!;obtain⟨FC,HM⟩:=S1.ob;refine⟨_,rfl,p,CW,FC,_,_,rfl,HM,TW.cl,TW.nI,Nq W,_,rfl,W.iq,_,rfl,jw! V9! S1.iq (Ry! M0),?_⟩;rw[X0 h1];obtain⟨W2,QB⟩:=S1.zP (l:=a3!);have A2:K45F.FV (u0! H1 W.iq a3!) io I:=A1.keep (cb! QB);have dY:JD! (u0! H1 W.iq a3!):=Gi! (MV! QB (X! s1 eb));generalize Kz! H1 W.iq kvsOf (a3!)=H2 at W2 QB A2 dY;obtain⟨IZ,GV⟩:=W2.ob;refine qR! IZ GV (Cr _ ZV) h V9! 1 _ W2 z1 z2 (λx L H3 W3 l3 bR _ _ _=>?_);refine KF (k io I L H3 W3 l3 (A2.keep (cb! bR)) off EO ?_ is vF ic (Gi! (MV! bR (dY b o eb hb))));rw[im];simp
universe E
universe S
inductive Qj(vs:C!)(H:Hp)(Q:VK)(E:XK):Prop
 | mk (p:Addr) (n:Int) (W:EE) (l1 l2:k!) (t:Addr) (m s g:Int) (kind:Str) (v:V) (_:SZ!) (_:IR) (_:kP!) (_:ZA! [T! m,Ak! kind,T! s,T! g,v]) (_:∀H1,YQ! { W with ls:=I0! }->NZ!->((BC! wE/\nq! Ma)\/(BC! Rs/\nq! Gm)\/(BC! BD!/\nq! Ql)\/(BC! Cz!/\nq! Gk)\/((Jy! wE/\Jy! Rs/\Jy! BD!/\Jy! Cz!)/\Ig [y?,PV!] H1 (λ_ H2=>∀r,FM H2 r->BH! r (vj! r)) E)))
theorem Jjm(F:h! HE! ta! Im)(TW:F9)(TP:Nm)(M1:CJ K CP "taken" tV! Mi CP! f1 d1)(M2:CV! tb! tc! Ka f2 d2)(G2:DQ 3 f2 d2 AS! (Ig))(M3:CV! td! te! Qx f3 d3)(G3:DQ 2 f3 d3 AS! (Ma))(M4:CV! tw! tx! Io f4 d4)(G4:DQ 3 f4 d4 AS! (Gm))(M5:CV! tz! t0! Fd f5 d5)(G5:DQ 5 f5 d5 AS! (Ql))(M6:CV! t1! t2! Il f6 d6)(G6:DQ 3 f6 d6 AS! (Gk)):b? 6 f fd CP! Qj:=by
 have G1:b? 1 f1 d1 CP! Y5:=Jep M1.fn TP;have yQ:b? 3 f2 d2 AS! Ig:=Q8! G2;have G3':b? 2 f3 d3 AS! Ma:=Q8! G3;have G4':b? 3 f4 d4 AS! Gm:=Q8! G4;have G5':b? 5 f5 d5 AS! Ql:=Q8! G5;have G6':b? 3 f6 d6 AS! Gk:=Q8! G6;refine ok1 F OZ (λvs H Q E h=>?_) (λD_ A outer s H vs Q E hr h=>?_);.obtain⟨p,n,W,l1,l2,t,m,s,g,kind,v,rfl,_⟩:=h;rfl
 .obtain⟨p,n,W,l1,l2,t,m,s,g,kind,v,rfl,S,el,et,k⟩:=h;have HC:ap:=M?;have JR:Kd!:=M?;have eC:Cn 3 _:=M?;obtain⟨dx,hp⟩:=S.ob;obtain⟨FC,hq⟩:=S.po.ob;refine eH! OZ.nd (qJ! M1.mt G1 M1.bd Cf (ca d!)) (kG! OZ.nd Hu! (pR! M3.mt G3' JR M3.bd) (FM! (pR! M4.mt G4' eC M4.bd) (pR! M5.mt G5' hr M5.bd) (pR! M6.mt G6' eC M6.bd) (Bf (vo! TW.cl M2.mt yQ eC M2.bd R!)) (Af (Ar (E2 Ae)))));refine sq! dx hp (E6 W) FC hq W.po W.pd W.c W.ls n S.po ?_;refine J! ⟨l1,l2,t,el,Vz!⟩;obtain⟨W1,HP⟩:=S.JO S1 (Cc! (Br! LH h2));have NS:=OA!;obtain⟨IZ,GV⟩:=W1.ob;refine v7! t (Nb! NS.BB et) ?_;have k2:=k H1 W1 HP;clear k;rcases k2 with⟨rfl,k⟩|⟨rfl,k⟩|⟨rfl,k⟩|⟨rfl,k⟩|⟨nk,k⟩;(.exact L4 n7!);(.exact JI (L4 n7!));(.exact JI (JI (L4 n7!)));(.exact JI (JI (JI (L4 n7!))));.refine JI (ne:=nk.1) (JI (ne:=nk.2.1) (JI (ne:=nk.2.2.1) (JI (ne:=nk.2.2.2) (vf! IZ GV (Cr _ ZV) ?_))));obtain⟨p',t',W',n',s',g',qk,tb,wt,q,G,G',e1,h1,h2,h3,h4,h5,h6⟩:=k;exact⟨p',t',W',n',s',g',qk,tb,wt,q,G,G',e1,h1,h2,h3,h4,h5,λH2 a1 a2=>⟨wn,h6 H2 a1 a2⟩⟩
universe E
def Dk(qs:B?):Int:=(qs.map λq=>q.2.AY).sum
theorem Ob:∀{l:B?} {i:Nat} {q r:VI!},Nu!->Dk ao!=Dk l-q.2.AY+r.2.AY
 | [],i,q,r,h=>Ce!
 | a::l,0,q,r,h=>by (have e:a=q:=UF);subst e;simp only[List.set_cons_zero,Dk,AI,CV];lia
 | a::l,i+1,q,r,h=>by have ih:=Ob (l:=l) (i:=i) (q:=q) (r:=r) (UF);simp only[List.set_cons_succ,Dk,AI,CV] at *;lia
def RR(qs:B?)(h:Nat):Int:=(qs[h]?.map λq=>q.2.AY).getD 0
theorem Gx:∀{qs:B?},(de! SL!)->s? (Wa! qs.length (bo! qs))=Dk qs
 | [],_=>by simp[Dk]
 | q::qs,nn=>by have ih:=Gx (qs:=qs) (u3! nn);rw[BM,List.range_succ_eq_map];simp only[AI,AN,CV];(have e1:((λh=>(RR (q::qs) h).toNat) ∘ Nat.succ)=bo! qs:=by funext h;simp[RR]);rw[e1];(have e2:RR (q::qs) 0=q.2.AY:=by simp[RR]);have:=nn q (Ai!);rw[e2];show _=q.2.AY+Dk qs;lia
def rD(m:Nat)(mx:Nat->Nat):D!:=(List.range m).flatMap (Gg! ((List.range (mx k)).map λj:Nat=>((AF!,BS!):T2)))
theorem Jco(m:Nat)(mx:Nat->Nat):(rD m mx).length=kx! mx:=by simp_all [rD]
theorem Jcs{f:Nat->Nat}:∀{l:C2!} {x:Nat},x∈l->f x<=Xw! f
 | y::l,x,h=>by rw[AI,CV];rcases ZM h with rfl|h;(.lia);.have:=Jcs (f:=f) h;lia
def LP(qs:B?)(t:T2):Prop:=∃(j:Nat)(q:Addr)(G:BZ),v2!/\t.1=BS!/\0<=t.2/\t.2<G.AY
theorem LP.set{qs:B?}{i:Nat}{q:Addr}{G G':BZ}{t:T2}(hi:f?)(md:Ip!)(h:LP qs t):LP ET! t:=by
 obtain⟨j,r,M,e,h1,h2,h3⟩:=h;by_cases c:j=i;.subst c;rw[hi] at e;cases e;exact⟨j,q,G',f7! FJ hi,h1,h2,B!⟩
 .exact⟨j,r,M,H! (LD (Ne.symm c)) e,h1,h2,h3⟩
theorem Mx{qs:B?}{l:D!}(nd:l.Nodup)(h:∀t∈l,LP qs t)(m0:de! SL!):c? l.length<=Dk qs:=by
 have:=Gv (U:=rD qs.length (bo! qs)) nd (sB (by obtain⟨j,r,M,e,h1,h2,h3⟩:=h t ht;have jl:j<qs.length:=CK! e;(have em:RR qs j=M.AY:=fe! e);refine BG.mpr ⟨j,BN.mpr jl,VW! t.2.toNat (BN.mpr (by show _<(RR qs j).toNat;rw[em];lia)) ?_⟩;exact Prod.ext h1.symm (Q3! (s? t.2.toNat=t.2))))
 rw[Jco] at this;have e:=Gx m0;lia
def PH(G:BZ)(t:T2):Prop:=DC!\/hy!
structure Mk(qs:B?)(ls:T?):Prop where
 has:Xu! (∀t,CX!->LP qs t)
 lt:CF! (LP qs l.th)
theorem Mk.next{qs:B?}{ls OI:T?}{i:Nat}{q:Addr}{G G':BZ}(x:Mk qs ls)(hi:f?)(md:Ip!)(h1:jG! (CX!\/LP ET! t))(h2:∀l∈OI,Io!\/LP qs l.th):mx! Mk :=⟨λj r M e t ht=>by rcases Fc e with⟨_,e2,_⟩|⟨_,e⟩;(.subst e2;rcases h1 t ht with h|h;(.exact(x.has i q G hi t h).set hi md);.exact h);.exact(x.has j r M e t ht).set hi md,EC! (by rcases h2 l hl with h|h;(.exact(x.lt l h).set hi md);.exact h.set hi md)⟩
theorem Ok.dn{qs:B?}{i:Nat}{q:Addr}{G:BZ}{ls:T?}{n k:Nat}(ok:Ok G k)(x:Mk qs ls)(hi:f?)(nu:g8!)(ob:Xn! (0<=t.2))(m0:de! SL!)(h:Dk qs<=n):FB:=by have a1:=qt! ok.hn (x.has i q G hi t (Z! (Z! ht)));have a2:=qt! ok.on ⟨i,q,G,hi,z! (ok.new t ht).1 nu,ob t ht,(ok.new t ht).2⟩;have a3:=qt! ok.rn (x.has i q G hi t (TD ht));rw[ZA] at a2 a3;refine⟨ok.hn,B!,ok.on,B!,ok.ke,ok.rn,B!,ii (Ch (ok.ln r hr).1),ok.new,ok.hk,ok.lk,ok.rk⟩;have a4:=qt! (ok.ln r hr).1 (x.has i q G hi t (Z! (J? j5!)));lia
def IA(H:Hp)(EF:k!)(y:dO!):BI! LL
 | .w l=>sZ! H
 | .ask s g n u=>OD H y.2 y.1 Rs s g n u
 | .HQ s g n u tick S=>OD H y.2 y.1 BD! s g n u/\∃e xs,(y.1,e)∈EF/\G2! e (nZ! tick)/\Hr! xs S
 | .lt s g ts=>UW H y.2 y.1 s g ts
theorem IA.keep(h:bV!)(k:p?):IA H' EF y z:=by cases z with | w l=>exact KD.keep h k | ask s g n u=>exact OD.keep h k | HQ s g n u tick S =>obtain⟨h1,e,xs,h2,h3,h4⟩:=h;exact⟨h1.keep k,e,xs,h2,E! k.BB h3,h4.keep k⟩ | lt s g ts=>exact UW.keep h k
theorem IA.more(h:bV!)(sb:∀e,(y.1,e)∈EF->(y.1,e)∈JAE):IA H JAE y z:=by cases z with | w l=>exact h | ask s g n u=>exact h | HQ s g n u tick S =>obtain⟨h1,e,xs,h2,h3,h4⟩:=h;exact⟨h1,e,xs,sb e h2,h3,h4⟩ | lt s g ts=>exact h
theorem Bq(x:dX! H EF ys al)(k:p?):dX! H' EF ys al:=SV! (r.keep k) x
structure Qy where
 n:Int
 io:Addr
 I:K45F.Iq
 fi:B6!
 se:CT!
def C1(y:Qy):M!:=[y.io,y.I.sd,y.I.fd,y.I.cd]
theorem FE:b∈C1 y↔(b=y.io\/b=y.I.sd\/b=y.I.fd\/b=y.I.cd):=by simp[C1]
structure UU(H:Hp)(m:Nat)(y:Qy):Prop where
 at_:K45F.FV H y.io y.I
 many:y.I.m=AR!
 fs:y.I.fs=y.fi.map (TT! ha!)
 cs:y.I.cs=y.se.map (TT! (O? r.2))
 ss:C4! (λ(kv:Key×V)(r:Int×Int×HS)=>rr!) y.I.ss y.fi
universe S
variable {H H':Hp}{m:Nat}{y:Qy}
theorem UU.has(x:UU H m y)(hb:b∈C1 y):∃o,Gr!/\(∀xs,o≠.BB xs)/\(∀xs,o≠.BJ xs)/\(∀ob u,o≠.FQ ob u):=by
 rcases FE.mp hb with rfl|rfl|rfl|rfl;.obtain⟨dx,e⟩:=x.at_.ob;exact rA! e
 .exact rA! x.at_.s
 .exact rA! x.at_.f
 .exact rA! x.at_.c
theorem UU.keep(x:UU H m y)(k:Zo! (b∈C1 y))(kt:p?):UU H' m y :=⟨x.at_.keep λb hb o e=>k b o (FE.mpr hb) e,x.many,x.fs,x.cs,ie! (by obtain⟨a,e,s⟩:=h9;exact⟨a,e,s.keep kt⟩) x.ss⟩
universe E
def Kn(ns:j!):BI! LL
 | .ask _ _ n u=>cK! (n∈ns)
 | .HQ _ _ n u _ _=>cK! (n∈ns)
 | _=>True
def aZ(l:LT):Nat:=v6 J9! 5 (v6 g6! 1 2)
def gD(w:Nat):LL->Nat
 | .w l=>w*aZ l
 | .ask _ _ _ u=>pz!
 | .HQ _ _ _ u _ _=>vA! 4 2
 | .lt _ _ _=>1
def Gy(m:Nat)(y:Qy):Nat:=v6 (y.fi.length<m) (3*y.fi.length) (if y.se.length<m then y.se.length else 0)
def Fg(w:Nat)(al:S!):Nat:=(al.map (gD w)).sum
def Lc(m:Nat)(ys:H?):Nat:=(ys.map (Gy m)).sum
def oB(w m:Nat)(qs:B?)(al:S!)(ys:H?):Nat:=Fg w al+Lc m ys+w*N1 qs
def PB(m A B:Nat)(qs:B?)(al:S!)(ys:H?):Prop:=A<=oB 0 m qs al ys/\oB 1 m qs al ys<=B
theorem Eg(w9:Nat)(a b:S!):Fg w9 (m?)=IG! a+IG! b:=by unfold Fg;rw[ZF,LX]
theorem Iy(w9:Nat)(a b:S!)(z:LL):Fg w9 (M3!)=Fg w9 (m?)+gD w9 z:=by rw[Eg,Eg];show IG! a+(gD w9 z+IG! b)=_;lia
theorem x5(w9:Nat)(ls:T?):Fg w9 (ls.map .w)=w9*nW!:=by induction ls with | nil=>simp[Fg] | cons l ls ih =>show w9*aZ l+Fg w9 (ls.map .w)=w9*(aZ l+nW!);rw[ih,Nat.mul_add]
theorem Zq:∀al:S!,al.length<=Fg 1 al
 | []=>wn
 | z::al=>by have ih:=Zq al;(have h:1<=gD 1 z:=by cases z with | w l=>show 1<=1*aZ l;unfold aZ;split<;>(try split)<;>decide | ask s g n u=>show 1<=pz!;split<;>decide | HQ s g n u t S=>show 1<=vA! 4 2;split<;>decide | lt s g ts=>exact ZG 1);show al.length+1<=gD 1 z+Fg 1 al;lia
theorem Jjc{qs:B?}{i:Nat}{q:Addr}{G G':BZ}(hi:f?):It! (N1 ET!)=Xz! (N1 qs):=Zl (r:=E6!) hi
theorem PB.next{m A B A' B':Nat}{qs:B?}{al al':S!}{ys:H?}{i:Nat}{q:Addr}{G G':BZ}(x:PB m A B qs al ys)(hi:f?)(h0:A'=0\/Fg 0 al+A'<=Fg 0 al'+A)(h1:Xz! (Fg 1 al')+B<=It! (Fg 1 al)+B'):PB m A' B' ET! al' ys:=by have h2:=Jjc (G':=G') hi;obtain⟨x1,x2⟩:=x;unfold PB oB at *;refine Ja! B!;rcases h0 with h0|h0<;>lia
structure WI(H:Hp)(p:Addr)(W:EE)(D:n?)(m n d A B:Nat)(al:S!)(ys:H?):Prop where
 wa:IR
 wg:Wg D m n W.share W.qs MZ!
 md:Te!<=n
 ob:∀(j:Nat) q G,Cl! (W.qs[j]?)->Xn! (0<=t.2)
 m1:1<=m
 m5:m<=12
 lw:VZ! W.ls al
 en:o? W.EF.map
 ec:∀e∈W.EF,e.1<=W.c
 ez:W.EF.length<=d
 fz:W.FK.length<=d
 ma:Mk W.qs (JL al)
 pb:PB m A B W.qs al ys
 iz:ys.length<=n
 iq:W.LG=ys.map gG!
 i4:ys.map E0!=(List.range ys.length).map λ(j:Nat)=>c? j+1
 nd:CQ! ys.flatMap C1
 off:O0! (∀b∈C1 y,CR!)
 at_:O0! (UU H m y)
 iv:O0! (OJ m W.qs MZ! al y.n y.fi y.se)
 kn:∀z∈al,Kn (ys.map E0!) z
 ff:∀e∈W.FK,∃y∈ys,y.n=e.1/\X2!
 lt:∀s g ts,n3!∈al->Do!/\g<m/\∃F,QG W.qs MZ! F/\(∀t,F t->D t)/\ob! (F t) (t.1=g)
def Pr(p:Addr)(W:EE)(ys:H?)(H H':Hp):Prop:=QQ! CR! IN! Fc!
universe S
variable {p:Addr}{H H1:Hp}{W W':EE}{D:T2->Prop}{m n:Nat}{al al':List LL}{ys:List Qy}
theorem WI.same(x:g?)(s:BQ! H1):w4! H1 :={ x with wa:=x.wa.same s,lw:=Bq x.lw (EI s),at_:=Ch! ((x.at_ y hy).keep (λb o _ e=>Am! s) (EI s)) }
theorem WI.len(x:g?):W.ls.length=al.length/\al.length<=B:=by have h1:=y! x.lw;have h2:=Zq al;have h3:=x.pb.2;unfold oB at h3;lia
theorem WI.RT(x:g?)(hB:A4!):F3!:=by have:=x.len;lia
theorem WI.dn(x:WI H p W D m BM! d A B al ys)(h:Te!<=n)(hy:ys.length<=n):g?:=by
 have m0:se! SL!:=No (by obtain⟨j,hj⟩:=DA.mp hq;exact(x.wg.wl.sd j q.1 q.2 hj).1.m0)
 refine{ x with wg:=⟨⟨x.wg.wl.len,x.wg.wl.dy,λi q G e=>?_,x.wg.wl.ok,x.wg.wl.sum,x.wg.wl.sh⟩,x.wg.sD,x.wg.rc⟩,md:=h,iz:=hy };obtain⟨s,nu⟩:=x.wg.wl.sd i q G e;refine⟨⟨Ok.dn s.ok x.ma e nu (x.ob i q G e) m0 h,s.nn,s.ip,s.rk,s.ir,s.n0,s.n1,s.m0,?_⟩,nu⟩;have e2:=Gx m0;have:(RR W.qs i).toNat<=Wa! W.qs.length (bo! W.qs):=Jcs (f:=bo! W.qs) (BN.mpr (CK! e));have em:RR W.qs i=G.AY:=fe! e
 rw[em] at this;lia
theorem Yq{i:Nat}{q:Addr}{G G':BZ}{c:Int}{Ls:k!}(hi:SB!)(nw:OM!):∀b∈Cb p (fg! UN!),b∈L0!\/t?:=N? (by rcases KR! with hb|hb;(.exact J! (ZB _ hb));.obtain⟨z,hz,hm⟩:=DB.mp hb;have hz:z∈UN!:=hz;rcases PD hz with hz|rfl;(.exact J! (fF! (Ia! hm)));.have mq:=ZP hi;rcases hm with hm|hm;(.exact J! (fF! ⟨E3!,mq,J! hm⟩));.rcases nw b hm with h|h;(.exact J! (fF! ⟨E3!,mq,AZ!⟩));.exact AZ!)
theorem HD.wi(f:NZ!):Pr p W ys H H1:=λb o e h _=>Br! f h
theorem WI.cI(x:g?)(f:NZ!)(hy:y∈ys):UU H1 m y:=(x.at_ y hy).keep (CE! (Br! f (x.off y hy b hb))) (HD.DJ x.wa f)
theorem WI.ye(x:g?)(sub:∀b∈P0!,b∈L0!\/t?):O0! (∀b∈C1 y,My!):=λy hy b hb m=>by rcases sub b m with h|h;(.exact x.off y hy b hb h);.obtain⟨o,e,_⟩:=(x.at_ y hy).has hb;rw[e] at h;cases h
theorem WI.fK(x:g?){j:Nat}{q:Addr}{G G':BZ}{c:Int}{Ls:k!}(hi:Cl! (W.qs[j]?))(W1:YQ! (fg! (uL! j)))(wf:NZ!)(nw:OM!)(tk:Wz!)(md:Ip!)(mk:hD!)(ou:nn!)(wg:nr! fj! (JL al'))(st:o9! fj! (JL al'))(hA:∀n u,OJ! al'=IB!)(hB:∀n u,K7! al'=Pf! u)(lw:dX! H1 W.EF Ls al')(mk':Mk fj! (JL al'))(pb':PB m A' B' fj! al' ys)(hc:W.c<=c)(sub:∀z∈al',z∈al\/∃l,z=.w l):WI H1 p (fg! (uL! j)) D m BM! Fx! A' B' al' ys:=by
 have a1:=x.md;have a2:=x.ez;have a3:=x.fz;have a4:=x.iz;refine⟨W1,wg,?_,λj2 q2 G2 e2 t ht=>?_,x.m1,x.m5,lw,x.en,D5! (Int.le_trans (x.ec e he) hc),bn (W1! (d+1)),gO! (d+1),mk',pb',B!,x.iq,x.i4,x.nd,x.ye (Yq hi nw),Ch! (x.cI wf hy),Ch! ((x.iv y hy).fK hi tk md (hA y.n) (hB y.n) st),ER!,x.ff,U6! ?_⟩;.show Dk (W.qs.set j E6!)<=_;rw[Ob hi];show Te!-G.AY+G'.AY<=s? (n+1);lia
 .have e2:pc ((W.qs.set j (q,G'))[j2]?) q2 G2:=e2;rcases Fc e2 with⟨_,e3,_⟩|⟨_,e3⟩;(.rw[e3] at ht;rcases ou t ht with h|h;(.exact x.ob j q G hi t h);.exact h);.exact x.ob j2 q2 G2 e3 t ht
 .rcases CY! sub with h|⟨l,rfl⟩;(.exact x.kn z h);.trivial
 .rcases sub _ hz with h|⟨l,h⟩;(.obtain⟨g0,g1,F,sF,fD,ht⟩:=no!;exact⟨g0,g1,F,st F sF,fD,ht⟩);.cases h
universe E
inductive Dd where
 | make (h:Int)
 | three (w:Str) (h:Int) (a b:Addr)
 | free (h:Int) (b:Addr)
 | send (h g:Int) (b:Addr)
 | clean (h:Int)
 | ask (h:Int)
 | deliver (n:Int)
def sj:Dd->C!
 | .make h=>[Ak! FG!,pt]
 | .three w h a b=>[Ak! w,pt,Os,Uf]
 | .free h b=>[Ak! FH!,pt,Uf]
 | .send h g b=>[Ak! Ph!,pt,T! g,Uf]
 | .clean h=>[Ak! FJ!,pt]
 | .ask h=>[Ak! Rs,pt]
 | .deliver n=>[Ak! HE!,T! n]
universe S
structure Wm(f1 f2 f3 f4 f5 f6 f7 f8 f9:Addr)(d1 d2 d3 d4 d5 d6 d7 d8 d9:FuncData):Prop where
 make:DV! FG! tW! Qz f1 d1
 hold:Hw! Z? tf! Q0 f2 d2
 drop:Hw! Da! tg! Q2 f3 d3
 take:Hw! Db! th! Qv f4 d4
 free:E5! FH! tX! Q1 NT! f5 d5
 send:E5! Ph! tY! Qw Nd! f6 d6
 clean:DV! FJ! tZ! Mg f7 d7
 ask:DV! Rs tv! Y6 f9 d9
 deliver:YP! HE! ta! Im f8 d8
 qv:b? 5 f1 d1 BJ! Wb
 qw:b? 5 f2 d2 EQ! Wc
 qz:b? 5 f3 d3 EQ! We
 qt:b? 5 f4 d4 EQ! V9
 qx:b? 5 f5 d5 NT! Wd
 qu:b? 5 f6 d6 Nd! P1
 lV:b? 5 f7 d7 BJ! Mb
 zv:b? 5 f9 d9 BJ! Qk
 fw:b? 6 f8 d8 CP! Qj
def cE(p:Addr)(H:Hp)(Q:VK)(E:XK):BI! Dd
 | .make h=>jB! Wb pt
 | .three x h a b=>(x=Z?/\Wc [y?,pt,Os,Uf] H Q E)\/(x=Da!/\We [y?,pt,Os,Uf] H Q E)\/(x=Db!/\V9 [y?,pt,Os,Uf] H Q E)
 | .free h b=>Wd [y?,pt,Uf] H Q E
 | .send h g b=>P1 [y?,pt,T! g,Uf] H Q E
 | .clean h=>jB! Mb pt
 | .ask h=>jB! Qk pt
 | .deliver n=>jB! Qj ML!
inductive Jn7(vs:C!)(H:Hp)(Q:VK)(E:XK):Prop
 | mk (p x dx:Addr) (fs:BW!) (dd:Dd) (_:dW! MJ!) (_:PH! x sj dd) (_:uz! H fs) (_:(∀n:Str,Tk ([FG!,Z?,Da!,Db!,FH!,Ph!,FJ!,Rs,HE!]:U?).contains n->FM fs.lookup n)) (_:Oq! dd)
theorem ph:A? [Cy!,"_law_deed_here","_law_word"] H8! rM:={}
theorem Jop(F:h! tn! tn! rM)(TW:F9)(M:Wm f1 f2 f3 f4 f5 f6 f7 f8 f9 d1 d2 d3 d4 d5 d6 d7 d8 d9) : b? 7 f fd H8! Jn7:=by refine AI! ph;obtain⟨p,x,dx,fs,dd,rfl,ex,hp,fl,k⟩:=h;refine W!;have i5:Cn 5 _:=M?;refine TS! ph.nd (FM! (e6! (jS! M.make.mt M.qv i5 M.make.bd)) (rj! M.hold.mt M.qw M.hold.bd) (rj! M.drop.mt M.qz M.drop.bd) (rj! M.take.mt M.qt M.take.bd) (FM! (e6! (Lx! a? TW.cl M.free.mt M.qx i5 M.free.bd Cf (Ck! Gv! Gv!))) (rj! M.send.mt M.qu M.send.bd) (e6! (jS! M.clean.mt M.lV i5 M.clean.bd)) (e6! (jS! M.ask.mt M.zv i5 M.ask.bd)) (wT (jS! M.deliver.mt M.fw hr M.deliver.bd))));cases dd with | make h =>refine Wl! (L4 ?_);exact sy! | three wd h a b =>rcases k with⟨rfl,k⟩|⟨rfl,k⟩|⟨rfl,k⟩;(.refine Wl! (JI (L4 ?_));exact s0!);(.refine Wl! (JI (JI (L4 ?_)));exact s0!);.refine k4! bK!;exact s0! | free h b =>refine Wl! (JI (JI (JI bK!)));exact⟨_,rfl,p,dx,_,rfl,hp,fl _ ZV,_,rfl,x,_,_,_,rfl,rfl,d? ex,rfl,_,rfl,x,_,_,_,rfl,rfl,d? ex,rfl,k⟩ | send h g b =>refine k4! (Nz! bK!);exact s0! | clean h =>refine Wl! (JI (JI (JI (Nz! bK!))));exact sy! | ask h =>refine k4! (Nz! (Nz! bK!));exact sy! | deliver n =>refine k4! (Nz! (Nz! (Nz! ?_)));exact sy!
universe E
theorem Ci{as:U!}{bs:Aq!}{cs:U!}{ds:Aq!}(p:pG!)(q:L7! cs ds):Paired R (as++cs) (bs++ds):=tO p q
theorem Eu{α β γ:Type}{f:β->γ}{R:AN! α γ}{l:U!}{m:Aq!}(p:C4! (λa b=>R a (f b)) l m):G6! R l m.map f:=Jld (g:=f) (λ_ _ h=>h) p
theorem Vj(h:B4!):pc IS! t Hp!:=by unfold Aj;cases e:Y9! GE with | none =>obtain⟨q,hq,e2⟩:=ZN h;have:=pu!;simp[e2] at this | some q =>have:=DV e;have:GE:=BU this;rw[<-this];rfl
def nums(c:Int)(k:Nat):j!:=Sv! k of!
theorem Z3(c:Int):[c+1]=nums c 1:=by unfold nums;simp
theorem Jor(c:Int):[c+1,c+1+1]=nums c 2:=by unfold nums;simp[DM]
structure Nv(W W':EE)(VE L:k!):Prop where
 ls:W'.ls=VE++L
 nu:C? L.map=nt!
 c:W'.c=Rc! L.length
structure Nw(W W':EE)(VE L:k!):Prop extends kc! where
 fi:Iu!
theorem Nv.zero{W W':EE}{VE:k!}(h:W'.ls=VE)(c:W'.c=W.c):Nv W W' VE []:=FT! (z! h AE) (DL! c)
theorem Nv.one{W W':EE}{VE:k!}{t:Addr}(h:W'.ls=VE++Yp!)(c:W'.c=SC):Nv W W' VE Yp!:=⟨h,Z3 _,c⟩
def Fp(p:Addr)(W:EE)(ys:H?)(W':EE)(EN:H?)(H:Hp):Prop:=∀b,(b∈P0!\/b∈EN.flatMap C1)->XR!\/b∈ys.flatMap C1\/t?
theorem xy{p:Addr}{W:EE}{ys:H?}{H:Hp}{i:Nat}{q:Addr}{G G':BZ}{c:Int}{Ls:k!}(hi:SB!)(nw:OM!):Fp p W ys (fg! UN!) ys H:=N? (by rcases hb with h|h;(.rcases Yq hi nw b h with h|h;(.exact G?);.exact Ap! h);.exact Nm!)
theorem Yd{p:Addr}{W W':EE}{ys i1 i2:H?}{y y':Qy}{H:Hp}(ey:bp!)(qf:C1 y'=C1 y)(ew:P0!=L0!):Fp p W ys W' (Hg!) H:=N? (by rcases hb with h|h;(.exact Sl! ew h);.refine Bs! ?_;rw[ey,BY,B_,<-qf];rw[BY,B_] at h;exact h)
def KT(p:Addr)(K:W.Frag)(W:EE)(m n d A' B':Nat)(ys:H?)(H:Hp)(Q:VK)(R:V->EE->S!->I4! H?):Prop:=∀(v:V)(W':EE)(D':n?)(al':S!)(EN:H?)(H':Hp),R v W' al' EN H'->Tm!->cS! H' BM! Fx! al' EN->T3!->fh!->Na!
universe S
variable {p:Addr}{H H1:Hp}{W W':EE}{D:T2->Prop}{m n:Nat}{al:List LL}{ys:List Qy}{Q:VK}{E:XK}{h:Int}{q:Addr}{G G':BZ}
theorem Jkl{a:Addr}(ha:NH!):v4! (BQ (JE WG!)):=N? (by rw[Jh0] at hb;rcases KR! with hb|hb;(.exact Vn!);.rw[ZK hb];exact I! ha)
theorem Ve(ta:T2)(l:D!):BQ { G with AU:=Bm!,holds:=La G.holds ta l }=BQ G:=by unfold BQ;show G.h::G.o::G.l::G.r::XA! (La G.holds ta l).map=_;rw[Jf4]
theorem tJ(ok:FB):NO!:=H! ok.ke ok.on
theorem Jhu{a:Addr}(h:PH (JE WG!) t):CX!\/J3!:=by
 rcases h with(h|⟨r,hr,ht⟩)|h;.have h:Xm!:=h;rcases ZI h with h|h;(.exact af!);.exact J? (UF)
 .have hr:r∈IV!:=hr;rcases Eh! with hr|hr;(.exact J! (Z! (J? j5!)));·(have e:r=(Ah!,a,[]):=by simpa using hr);rw[e] at ht;cases ht
 .exact Sz!
theorem Jhv(hb:BA!)(h:PH (Td G ta tb) t):CX!:=by
 rcases h with(h|⟨r,hr,ht⟩)|h;.exact Y5!
 .rcases Iz hr with⟨_,e⟩|hr;(.rw[e] at ht;rcases DE! with h|h;(.exact Z! (Hi h));.rw[h];exact i0!);.exact ty! j5!
 .exact AZ!
theorem Jhw(h:PH (Pf G ta tb) t):CX!:=by
 rcases h with(h|⟨r,hr,ht⟩)|h;.exact Y5!
 .rcases Iz hr with⟨_,e⟩|hr;(.rw[e] at ht;exact Z! (Hi OI!));.exact ty! j5!
 .exact AZ!
theorem Jao{l:D!}(hl:∀t∈l,CX!)(h:PH (JE { G with hand:=l }) t):CX!:=by
 rcases h with(h|h)|h;.exact hl t h
 .exact Sz!
 .exact AZ!
theorem Jdg{v:Int}(hr:gj!)(h:PH (Ng G tb v) t):CX!:=by
 rcases h with h|h;.exact G?
 .rcases ub! t h with h|h;(.rw[h];exact I! hr);.exact AZ!
theorem Je6(h:PH (Ko G R) t):CX!:=by
 rcases h with h|h;.exact J! (Jai h).1
 .exact I6! QV! h
theorem Jki(h:PH Qv! t):CX!:=by
 rcases h with h|h;.exact J! (Xy h).1
 .exact I6! QV! h
theorem Ja1{X:BZ}{rs:V!}(pm:rs.Perm X.AJ):(Cd X rs).length+(HN X).AJ.length<=X.AJ.length:=by have h1:cH! X (Bn X q.1):=Kg!;have h2:=(pm.filter λq=>! Bn X q.1).length_eq;have h3:=Nd (PA! (Bn X q.1)) X.AJ;show _+SZ X.AJ.filter (λq=>Bn X q.1)<=_;lia
theorem Qc{f:Bi!->LT}(hf:∀r,(f r).kind=Bg!):∀rs:V!,d1! rs.map f aZ=rs.length
 | []=>rfl
 | r::rs=>by have ih:=Qc hf rs;(have e:aZ (f r)=1:=by unfold aZ;rw[hf];rfl);show aZ (f r)+d1! rs.map f aZ=rs.length+1;lia
theorem Vy{G:BZ}{rs bs:V!}{f:Bi!->LT}(hf:∀r,(f r).th=r.1)(pm:Es!)(sub:∀z∈bs,z∈rs):∀l∈bs.map f,PH G l.th:=EC! (by obtain⟨r,hr,rfl⟩:=ZN hl;rw[hf];exact I! (BE (pm.mem_iff.mp (sub r hr))))
theorem WI.aM(x:g?)(i:pi)(W1:YQ! (PD! uj!))(wf:NZ!)(nw:OM!)(tk:Wz!)(md:Ip!)(mk:hD!)(ou:nn!)(wg:nr! N5! MZ!)(hs:jG! (CX!\/LP N5! t))(rl:G'.AJ=G.AJ)(cA:D7!)(cB:Iv!)(st:o9! N5! MZ!)(k:CA!)(v:V)(hr:∀W',Nw W W' W.ls []->WE! al H1):Q v H1 :=ny! v (PD! uj!) al H1 (hr _ (pK! Nv.zero)) (xy (c:=W.c) (Ls:=W.ls) i.2 nw) (x.fK (c:=W.c) (Ls:=W.ls) i.2 W1 wf nw tk md mk ou wg st XD! XD! (Bq x.lw (HD.DJ x.wa wf)) (x.ma.next i.2 md hs (EC! (J! hl))) (x.pb.next i.2 (J? F!) (Dk! rl)) Gz! (AT (J! hz)))
theorem Jkq(x:g?)(hn:sK)(hB:A4!)(i:pi)(cA:D7!)(cB:Iv!)(k:CA!)(hR:cc!):cE p H Q E (.make h):=by
 obtain⟨s,nu⟩:=IP!;have z1:=s.ok.hz;have z2:=s.ok.oz;have z3:=s.ok.RT;refine⟨p,h,W,rfl,x.wa,Uw! G rfl ZR! B! B! B! s.ok.fresh.1 s.ok.fresh.2.1 s.ok.fresh.2.2 (λt a H1 ht ha et S1 LH=>?_)⟩;have bU:=Jkl (G:=G) ha;obtain⟨W1,HP⟩:=c6! ZW!;refine x.aM i W1 HP bU uQ! uP! Gz! Hx! (x.wg.make i.2 hn a) (Ag! ((Jhu ht).imp id Ms!)) rfl cA cB (Yz i.2 nu a) k _ λW' c=>o! hR _ c;rotate_left;.exact⟨h.toNat,q,ZW!,f7! FJ i.2,HX! nu,HX! s.m0,Wo! e (G.AY<EK!)⟩
 have ht:t∈(G.AG++[((Ah!,0):Bi!)]).map (An!):=ht;rw[ZF] at ht;rcases KS! with h|h;.exact G?
 ·(have e:J3!:=UF);rw[e];exact I! s.m0
theorem Jkr(x:g?)(hn:sK)(hB:A4!)(i:pi)(ea:IL!)(eb:PP)(ha:FS!)(hb:BA!)(hh:RY!)(cA:D7!)(cB:Iv!)(k:CA!)(hR:cc!):Oq! (.three Z? h a b):=by obtain⟨s,nu⟩:=IP!;obtain⟨ad,fd⟩:=s.ok.find ha hh;have z1:=(s.ok.get ta).2.1;refine J! ⟨rfl,p,h,_,_,W,rfl,x.wa,Uw! a b G ta tb rfl ZR! ea eb (Ap! ⟨ha,hb,hh,ad,_,fd,B!,Vz!⟩)⟩;rw[Uq (Jd1 (i.at x.wa).nd) (tJ s.ok) fd] at S1;have bU:v4! (BQ (Td G ta tb)):=N? (Sl! (Ve (G:=G) ta (Ct Lh! tb)) hb);obtain⟨W1,HP⟩:=c6! (Td G ta tb);obtain⟨g1,g2⟩:=x.wg.hold i.2 (ta:=ta) hb;exact sj! (VY! (Jhv hb ht))
theorem Jkt(x:g?)(hn:sK)(hB:A4!)(i:pi)(ea:IL!)(eb:PP)(ha:FS!)(hb:cZ!)(hh:RY!)(cA:D7!)(cB:Iv!)(k:CA!)(hR:cc!):Oq! (.three Da! h a b):=by obtain⟨s,nu⟩:=IP!;obtain⟨ad,fd⟩:=s.ok.find ha hh;refine Bs! ⟨rfl,p,h,_,_,W,rfl,x.wa,Uw! a b G ta tb rfl ZR! ea eb (Ap! ⟨ha,hh,ad,_,fd,Ya! hb⟩)⟩;rw[Uq (Jd1 (i.at x.wa).nd) (tJ s.ok) fd] at S1;have bU:v4! (BQ (Pf G ta tb)):=N? (Sl! (Ve (G:=G) ta (Jt Lh! tb)) hb);obtain⟨W1,HP⟩:=c6! (Pf G ta tb);obtain⟨g1,g2⟩:=x.wg.drop i.2 ta tb;exact sj! (Ag! (Z! (Jhw ht)))
theorem Jko(x:g?)(hn:sK)(hB:A4!)(i:pi)(ea:IL!)(eb:PP)(ha:FS!)(hb:cZ!)(hh:RY!)(cA:D7!)(cB:Iv!)(k:CA!)(hR:cc!):Oq! (.three Db! h a b):=by obtain⟨s,nu⟩:=IP!;obtain⟨ad,fd⟩:=s.ok.find ha hh;have z1:=s.ok.hz;refine Ap! ⟨rfl,p,h,_,_,W,rfl,x.wa,I! ⟨q,G,i,q,a,b,G,ta,tb,rfl,ZR!,ea,eb,B!,Ap! ⟨ha,hh,ad,_,fd,Ya! hb⟩⟩⟩;have bU:wK! (Vl G tb):=N? Vn!;obtain⟨W1,HP⟩:=c6! (Vl G tb);obtain⟨g1,g2⟩:=x.wg.take i.2 ha hb;exact sj! (VY! (Jao (BE! ((DC.mp hu).elim (λz=>df! z) λz=>Jx! (Z! (Hi hb)))) ht))
theorem Jks(x:g?)(hn:sK)(hB:A4!)(i:pi)(eb:PP)(hb:BA!)(cA:D7!)(cB:Iv!)(k:CA!)(hR:cc!):Oq! (Jt! h b):=by refine⟨p,h,_,W,rfl,x.wa,I! ⟨q,G,i,q,b,G,tb,rfl,ZR!,eb,Ya! hb⟩⟩;have bU:wK! (Vm G tb):=N? Vn!;obtain⟨W1,HP⟩:=c6! (Vm G tb);obtain⟨g1,g2⟩:=x.wg.free i.2 tb;exact sj! (VY! (Jao (BE! (df! (HE.mp hu).1)) ht))
theorem WI.iD(x:g?)(i:pi){c:Int}{L:k!}{ls:T?}(W1:YQ! (Rh! D1!))(wf:NZ!)(nw:OM!)(tk:Wz!)(md:Ip!)(mk:hD!)(ou:nn!)(wg:nr! N5! (JL al++ls))(st:o9! N5! (JL al++ls))(hs:jG! CX!)(lm:CF! (PH G l.th))(cA:D7!)(cB:Xz! nW!+B<=G.AJ.length+B')(hc:W.c<=c)(nu:C? L.map=nt!)(ec:c=Rc! L.length)(lw:C4! (λ(y:Int×Addr) (l:LT)=>sZ! H1) L ls)(k:CA!)(v:V)(hr:∀W',Qo!->WE! (al++Ku!) H1):Q v H1:=by
 have e:JL (al++Ku!)=JL al++ls:=z! Dx xp
 refine ny! v (Rh! D1!) (al++Ku!) H1 (hr (Rh! D1!) (JN! (BO! nu ec))) (xy i.2 nw) (x.fK (al':=al++Ku!) i.2 W1 wf nw tk md mk ou (P2! wg) (P2! st) (λn u=>by rw[Cq,(Jo ls n u).1,AE]) (λn u=>Tf! (RB! ls)) (Ci (Bq x.lw (HD.DJ x.wa wf)) (q? Eu f LL.w R (IA H1 W.EF) lw)) ?_ ?_ hc ER!);.rw[e];refine x.ma.next i.2 md (i9! hs) RW!;rcases Hs! with h|h;(.exact G?);.exact J? (x.ma.has _ q G i.2 _ (lm l h))
 .refine x.pb.next i.2 (TD ?_) ?_;(.rw[Eg];lia);.rw[Eg,x5];lia
 .rcases A7! with h|h;(.exact G?);.obtain⟨l,_,rfl⟩:=ZN h;exact SG! l
theorem Jkp(x:g?)(hn:sK)(hB:A4!)(i:pi){g:Int}(g0:Do!)(g1:g<m){b:Addr}{tb:T2}(eb:PP)(hb:BA!)(cA:D7!)(cB:B+5<=B')(k:CA!)(hR:∀v W' (bs:T?) H' L,Qo!->WE! (al++QO!) H')(kE:jJ!):Oq! (.send h g b):=by
 obtain⟨s,nu⟩:=IP!;have z1:=s.ok.oz;have z2:=s.ok.rz;have z3:=OB!;have hN:s? h.toNat=h:=BO i.1;have ig:∃q2 G2,JF W g q2 G2:=by obtain⟨y,hy⟩:=qh!;exact⟨y.1,y.2,g0,hy⟩
 refine⟨p,b,h,g,W,tb,q,G,rfl,x.wa,eb,i,ig,B!,B!,B!,?_⟩;by_cases near:RX!;.have ho:=s.ok.hk tb hb near;refine Bs! ⟨hb,near,_,Vj ho,BH.mpr ER!,λt H1 W1 l1 HP=>?_⟩;(.have:=s.ok.rk z.1 (AH.mpr (C1! z hz));have:¬z.1=tb:=λe=>this (HX! near);simpa using this);obtain⟨wg,st⟩:=x.wg.VA i.2 hb near g0 g1;rw[hN] at wg st;exact sx! (kP G tb (P9!+W.share)) ZM! (Ag! (Z! (by rcases Np! with h|h;(.rw[h];exact ho);.exact h))) (λt h=>h) (EC! (H! (ZK hl) i0!)) (FA! (It! 2+B<=_)) (Z3 _) rfl (Ny! l1)
 .have hr:=s.rk tb h6! near;have nn:=Lx s.nn tb;refine Ap! (Bw! hb near _ (Vj hr));by_cases w0:Ki!=0;(.exact Al! w0 kE);.by_cases w1:Ki!=1;(.refine Bs! ⟨w1,λt H1 W1 l1 HP=>?_⟩;obtain⟨wg,st⟩:=x.wg.U' i.2 hb near g0 g1 w1;rw[hN] at wg st;exact sx! (Ng G tb 0) ZM! vz! (λt=>Jdg hr) (EC! (H! (ZK hl) i0!)) (Wo! (Nf hr) (It! 5+B<=_)) (Z3 _) rfl (Ny! l1));·(have w2:2<=Ki!:=B!);refine jA! w2 (λt H1 W1 l1 HP=>?_);obtain⟨wg,st⟩:=x.wg.YR i.2 hb near g0 g1 w2;rw[hN] at wg st;exact sx! (Ng G tb (Ki!-Ki! / 2)) ZM! vz! (λt=>Jdg hr) (EC! (H! (ZK hl) i0!)) (Wo! (Nf hr) (It! 2+B<=_)) (Z3 _) rfl (Ny! l1)
theorem Jh8(x:g?)(hn:sK)(hB:A4!)(i:pi)(cA:D7!)(cB:Iv!)(k:CA!)(hR:∀v W' (bs:T?) H' L,Qo!->WE! (al++QO!) H'):cE p H Q E (.clean h):=by
 obtain⟨s,nu⟩:=IP!;have z3:=OB!;have hN:s? h.toNat=h:=BO i.1;obtain⟨hs,os,rs,JM⟩:=q4! x.wg.wl.good;obtain⟨kk,R,hk,rc⟩:=FX.NZ.ofN s.ok F!;have zb:k3! AQ!:=by have h1:cH! AQ! II!:=Kg!;have h2:=AO (PA! (! II!)) rs;have h3:=JM.pr.length_eq;have h4:=s.ok.rz;lia
 refine⟨p,h,W,q,G,n,kk,rs,R,rfl,x.wa,i,s.ok,B!,sB (s.ip t (Z! ht)).1,λz hz t ht=>(s.ip t (J? (Ia! ht))).1,JM.pr,JM.wr,rc,hk,FX.Ok.clean s.ok rc,zb,B!,λy L H1 W1 bk HP jS jR ey=>?_⟩;obtain⟨wg,st⟩:=x.wg.clean i.2 rc JM.pr;rw[hN] at wg st;exact sx! (Ko G R) (Ct! (hS! Ly)) mi! (λt=>Je6) (Vy (Cg!) JM.pr (AT (FC! (FC! hz)))) (by rw[Qc (Cg!)];have:=Ja1 (X:=Z6!) JM.pr;show _+(HN AQ!).AJ.length+B<=_;have e:(keepR G R).AJ.length=G.AJ.length:=rfl;lia) (ZV! hv! bk.num) (AM! hv!) (Eu bk.MA)
universe E
theorem Y2{l1:k!}{al:S!}(h:L7! (l1++y::l2) al):∃(a:S!)(z:LL)(b:S!),al=M3!/\L7! l1 a/\R y z/\L7! l2 b:=by induction l1 generalizing al with | nil=>(cases h with|cons r pr=>exact⟨[],_,_,rfl,L!,r,pr⟩) | cons x l1 ih=>cases h with | cons r pr =>obtain⟨a,z,b,e,p1,p2,p3⟩:=ih pr;subst e;exact⟨_::a,z,b,rfl,K? r p1,p2,p3⟩
universe S
theorem mN{l:B?}{j:Nat}{q:Addr}{G G':BZ}(hi:Cl! (l[j]?))(e:fA!):Dk (l.set j E6!)=Dk l:=Wo! (Ob hi) (Dk l-G.AY+G'.AY=_)
theorem Ok.sz(ok:FB)(hn:sK):Sz G:=by grind [Ok,Sz]
theorem WI.got(x:g?)(i:pi)(es:al=M3!)(p1:Lc!)(p3:Ld!)(W1:YQ! (Rh! FZ!))(wf:NZ!)(nw:OM!)(tk:Wz!)(md:Ip!)(mk:hD!)(ou:nn!)(wg:nr! N5! (Zu!++ls))(st:o9! N5! (Zu!++ls))(hc:W.c<=c)(nu:C? L.map=nt!)(ec:c=Rc! L.length)(lw:C4! (λ(y:Int×Addr) (l:LT)=>sZ! H1) L ls)(mu:∀n u,kO n u z=none/\Pq n u z=none)(hs:jG! (CX!\/LP W.qs t))(lm:CF! (LP W.qs l.th))(z0:gD 0 z<=1)(cw:Xz! nW!+1<=It! (gD 1 z))(cA:Id!)(cB:Ic!)(k:CA!)(v:V)(hr:∀W',K2!->W'.qs=uj!->WE! (m?++Ku!) H1):Q v H1:=by
 have e:JL (m?++Ku!)=Zu!++ls:=z! Dx xp
 have kt:=FD! x.wa wf;refine ny! v (Rh! FZ!) (m?++Ku!) H1 (hr (Rh! FZ!) (JN! (BO! nu ec)) rfl) (xy i.2 nw) (x.fK (al':=m?++Ku!) i.2 W1 wf nw tk md mk ou (P2! wg) (P2! st) (λn u=>?_) (λn u=>?_) (Ci (Ci (Bq p1 kt) (Bq p3 kt)) (q? Eu f LL.w R (IA H1 W.EF) lw)) ?_ ?_ hc ER!);.rw[Cq,(Jo ls n u).1,AE,es,Cq,Cq,Gi,(mu n u).1];rfl
 .rw[A9,RB! ls,AE,es,A9,A9,Dj,(mu n u).2];rfl
 .rw[e];refine x.ma.next i.2 md (Ag! ((hs t ht).imp id λh=>h.set i.2 md)) RW!;rcases Hs! with h|h;(.refine J! ?_;rw[es,Dx];rw[Dx] at h;rcases ZI h with h|h;(.exact FK!);.refine ZC _ ?_;show l∈(z::b).filterMap rC;rw[G_];cases rC z with | none=>exact h | some _=>exact ZD _ h);.exact I! (lm l h)
 .have e0:=Iy 0 a b z;have e1:=Iy 1 a b z;rw[<-es] at e0 e1;refine x.pb.next i.2 ?_ ?_;(.rw[Eg,x5];lia);.rw[Eg,x5];lia
 .rcases A7! with h|h;(.refine J! ?_;rw[es];rcases ZI h with h|h;(.exact FK!);.exact LC!);.obtain⟨l,_,rfl⟩:=ZN h;exact SG! l
theorem Jfg(es:FY! (LL.w l)):JL al=JL a++l::JL b:=DM! es Dx
theorem Jqx(ok:KN g0 l)(e:l.kind=kind)(np:kind≠wE):Jy! wE/\Jy! Rs/\Jy! BD!/\Jy! Cz!:=by
 obtain⟨_,_,_,kk⟩:=ok;rw[e] at kk;rcases kk with⟨e,_⟩|⟨e,_⟩|⟨e,_⟩|⟨e,_⟩;.rw[e];exact⟨ZV,ZV,ZV,ZV⟩
 .rw[e];exact⟨ZV,ZV,ZV,ZV⟩
 .rw[e];exact⟨ZV,ZV,ZV,ZV⟩
 .exact BK! e np
theorem Jan{GY:Bool}{sh:Int}{P9:n?}(h:PH (G7 G th sh GY) t)(k:P9 th):CX!\/P9 t:=by
 rcases h with(h|h)|h;.have h:t∈dt G th GY:=h;cases GY with | true =>rcases YC! with h|h;(.exact af!);.rw[h];exact I! k | false=>exact af!
 .exact u4! J?
 .exact Sz!
theorem Wt.has(w9:bS! x)(h:PH G' t):CX!\/DO!:=by
 have hd:∀{M:BZ},(t∈Ct M.hand tb->t∈M.hand\/DO!):=λh=>YC!;rcases w9 with⟨_,⟨_,o,_,rfl⟩|⟨_,rfl⟩⟩|⟨_,rfl⟩|⟨_,rfl⟩;.rcases h with(h|h)|h;(.rcases hd h with h|h;(.exact af!);.exact AZ!);(.exact u4! J?);.exact Sz!
 .rcases h with(h|h)|h;(.rcases hd h with h|h;(.exact af!);.exact AZ!);(.exact u4! J?);.rcases ub! t h with h|h;(.exact AZ!);.exact Sz!
 .rcases h with h|h;(.exact Y5!);.rcases ub! t h with h|h;(.exact AZ!);.exact Sz!
 .exact G?
theorem Wt.cost(w9:bS! x):(Xz! (([]:T?).map aZ).sum+1:Nat)<=It! (gD 1 (.w ⟨kind,s,g,tb,x⟩)):=by
 rcases w9 with⟨rfl,⟨_,o,_,rfl⟩|⟨_,rfl⟩⟩|⟨rfl,rfl⟩|⟨rfl,rfl⟩;.show md! 0 2;lia
 .have:=Kv G.AJ tb (Xv!);show 0+(Bp G.AJ tb (Xv!)).length+1<=It! (1*2);lia
 .have:=Kv G.AJ tb (Xv!);show 0+(Bp G.AJ tb (Xv!)).length+1<=It! (1*2);lia
 .show md! 0 1;lia
theorem Vn(x:g?)(hn:sK)(hB:A4!)(el:N9!)(es:FY! (LL.w l))(p1:Lc!)(p2:cA! (.w l))(p3:Ld!)(cA:Id!)(cB:Ic!)(k:CA!)(hR:∀y L (bs:T?) W' H',K2!->cz!->LE!->R Hh! W' (m?++QO!) ys H'):qC!:=by
 have z3:=OB!;have ew:=Jfg es;have hl:l∈JL al:=HY! Vf!
 have lok:=x.wg.wl.ok _ hl;obtain⟨kind,sn,g,th,xx⟩:=l;obtain⟨g0,g1,ib,kk⟩:=lok;have g0:Do!:=g0;have g1:g<m:=g1;obtain⟨⟨q,G⟩,hi⟩:=qh!;have i:NS!:=XO! g0;obtain⟨s,nu⟩:=IP!;have bB:o2!:=r0!
 have p2:KD H t num kind sn g th xx:=p2;obtain⟨a0,b0,et,_⟩:=id p2;refine su! sn kind;have NS:=kS!;have mu:∀n u,kO n u (.w ⟨kind,sn,g,th,xx⟩)=none/\Pq n u (.w ⟨kind,sn,g,th,xx⟩)=none:=λ_ _=>BP!;by_cases hp:BC! wE;.refine hT! hp;subst hp;(have gt:g=th.1:=by rcases kk with⟨e,_⟩|⟨e,_⟩|⟨e,_⟩|⟨_,e,_⟩;(.exact BK! e.symm D9);(.exact BK! e.symm Fk);(.exact BK! e.symm Fl);.exact e);subst gt;obtain⟨mem,wlS,wlO⟩:=x.wg.pass ew rfl hi;have mem:th∈EH!:=mem;rw[<-Dx] at wlS wlO;refine⟨p,t,_,num,sn,th.1,xx,th,q,G,rfl,W1,lv!,i,Ok.sz s.ok hn,mem,bB,?_⟩;by_cases same:xx=th.1;(.subst same;refine X9! (λy t1 H2 W2 m1 QB jS jR ey=>?_);obtain⟨wg,st⟩:=wlS rfl;exact x.got i (ls:=[⟨Cd!,th.1,sn,th,W.share⟩]) es p1 p3 W2 (ek! mO!) ZM! uQ! Gz! uP! (r4! mem) wg st (FA! (W.c<=SC)) (Z3 _) rfl (Ny! m1) mu (Ag! (Jan ht (x.ma.lt _ hl))) (λl h=>Gd! (ZK h) (DU! (LP W.qs th) (x.ma.lt _ hl))) (Nat.le_of_ble_eq_true rfl) (FA! (md! 2 5)) cA cB k _ λ_ c e=>hR _ _ _ _ _ c (P2! (mN i.2 rfl)) ey);.refine wS same (λy t1 t2 H2 W2 m1 m2 QB jS jR ey=>?_);obtain⟨wg,st⟩:=wlO same;rw[AK (JL (m?))] at wg st;(have W2:Ff! (eo! th.1.toNat (j4! th false) Fd! (I0!++(uS!++[(Fd!,t2)]))):=f8! W2);have lw:C4! (λ(y:Int×Addr)(l:LT)=>sZ! H2) [(SC,t1),(Fd!,t2)] [⟨Z?,th.1,xx,th,W.share⟩,⟨Cd!,th.1,sn,th,W.share⟩]:=K? m1 (K? m2 L!);exact x.got i (ls:=[(⟨Z?,th.1,xx,th,W.share⟩:LT)]++[(⟨Cd!,th.1,sn,th,W.share⟩:LT)]) es p1 p3 W2 (ek! mO!) ZM! uQ! Gz! uP! (r4! mem) wg st (FA! (W.c<=Fd!)) (Jor _) (FA! (Fd!=V3! 2)) lw mu (Ag! (Jan ht (x.ma.lt _ hl))) (λl h=>by have e:l.th=th:=by{ rcases ZM h with h|h;{ rw[h] };{ rw[ZK h] } };rw[e];exact x.ma.lt _ hl) (Nat.le_of_ble_eq_true rfl) (FA! (md! 4 5)) cA cB k _ λ_ c e=>hR _ _ _ _ _ c (P2! (mN i.2 rfl)) ey
 .obtain⟨G',wt,wg,st⟩:=x.wg.wt ew hp hi;rw[<-Dx] at wg st;have wt:Wt kind G th xx G':=wt;refine Ap! (GF! ⟨Jqx (x.wg.wl.ok _ hl) rfl hp,p,t,_,num,sn,g,kind,th,xx,q,G,G',rfl,W1,lv!,i,wt,Ok.sz s.ok hn,λH2 W2 QB r hr=>?_⟩);have s3:=FI! hr;obtain⟨_,_,h3,_,h5,_,h6,_⟩:=wt.pU;(have W2:Ff! { W with qs:=uL! g.toNat,c:=W.c,ls:=I0!++[] }:=H! AE W2);exact x.got i (ls:=[]) es p1 p3 (W2.same s3) (ek! (F7! (QB b o (HP b o e hb) hb))) (Ct! (Sl! wt.BQ hb)) F! F! F! (i9! h6) (YI! wg) (YI! st) Gz! rfl Db L! mu (Ag! ((wt.has ht).imp id λe=>HX! (x.ma.lt _ hl))) (λ_ h=>Dn!) (FA! (0*_<=1)) wt.cost cA cB k _ λ_ c e=>hR r [] [] _ _ c (P2! (mN i.2 h3)) Ab
theorem Jh7(x:g?)(hn:sK)(hB:A4!)(el:N9!)(es:FY! n3!)(p1:Lc!)(p2:cA! (.lt s g ts))(p3:Ld!)(cA:Id!)(cB:Ic!)(k:CA!)(hR:∀y L W' H' q G hs os rs,YO!->Du!->K2!->W'.qs=jg! Dw!->LE!->R Hh! W' (m?++((Cd ol rs).map λr=>U1! g).map .w) ys H'):qC!:=by
 have z3:=OB!;have ew:JL al=Zu!:=Iy! es Dx Dx
 obtain⟨g0,g1,F,sF,fD,ht⟩:=x.lt s g ts (hl! es);obtain⟨⟨q,G⟩,hi⟩:=qh!;have i:NS!:=XO! g0;obtain⟨sd,nu⟩:=IP!;have hN:s? g.toNat=g:=K4!;have bB:o2!:=r0!
 have p2:qO! num:=p2;obtain⟨a0,pI,et,_⟩:=id p2;refine su! s Cz!;have NS:=kS!;refine Ap! (PS! Hn!);obtain⟨hs,os,rs,JM⟩:=q4! x.wg.wl.good;obtain⟨wg,st,rV⟩:=x.wg.zG i.2 sF fD (q! hN ht) JM.pr;rw[hN,ew] at wg st;have zb:k3! ol:=by have h1:cH! ol Ft!:=Kg!;have h2:=AO (PA! (! Ft!)) rs;have h3:=JM.pr.length_eq;have h4:=sd.ok.rz;lia
 refine⟨p,t,_,num,s,g,ts,q,G,n,rs,rfl,W1,lv!,i,sd.ok,B!,sB (sd.ip t (Z! ht)).1,λz hz t ht=>(sd.ip t (J? (Ia! ht))).1,JM.pr,JM.wr,rV,zb,bB,λy L H2 W2 bk QB jS jR ey=>?_⟩;exact x.got (G':=Dw!) i es p1 p3 W2 (ek! mO!) (Ct! (hS! Sy)) uQ! Gz! uP! mi! wg (q! ew st) (FA! (W.c<=W.c+_)) (ZV! hv! bk.num) (AM! hv!) (Eu bk.MA) (λ_ _=>BP!) (Ag! (Z! (Jki ht))) (λl h=>x.ma.has _ q G i.2 _ (Vy (Cg!) JM.pr (AT (FC! (FC! hz))) l h)) (ZG 1) (by rw[Qc (Cg!)];have:=Ja1 (X:=Al G ts) JM.pr;show _+(HN ol).AJ.length+1<=1+_;have e:(Al G ts).AJ.length=G.AJ.length:=rfl;lia) cA cB k _ λ_ c e=>hR _ _ _ _ _ _ hs os rs i.2 JM c e ey
universe E
theorem Jhi:∀{l:Ac! (T2×α)},YT!->∀{a b:T2×α},a∈l->b∈l->bh!->a=b
 | [],_,a,b,ha,_,_=>AL! ha
 | c::l,nd,a,b,ha,hb,e=>by rw[AI] at nd;obtain⟨n1,n2⟩:=Bd!;rcases ZM ha with ha|ha;(.rcases Fm! with hb|hb;(.rw[ha,hb]);.exact jb! ⟨b,hb,gb! ha⟩ n1);.rcases Fm! with hb|hb;(.exact jb! ⟨a,ha,z! e hb⟩ n1);.exact Jhi n2 ha hb e
universe S
variable {G:BZ}{hs:List T2}{os:List (T2×Int×List T2)}{rs:List (T2×Int)}{n:Nat}
theorem Told.qe(t:Du!)(ok:FB):tU G MG!:=by
 have kn:NO!:=tJ ok;refine⟨BE! (t.pm.mem_iff.mpr hu),J0!,ii Fj!,λr hr q hq e u hu=>?_,λu=>?_,BE! (t.pm.mem_iff.mp hu),λr hr u hu=>?_⟩;.obtain⟨r,hr,e⟩:=ZN (t.PM.pm.mem_iff.mpr hu);exact Jo! e
 .exact HI! t.PM.pm.mem_iff.mp (Jo! rfl)
 .unfold Aj;rw[(t.PM.at_ r hr).1];rfl
 .obtain⟨_,a,hl,f,_,pm,_⟩:=t.PM.at_ r hr;refine pm.mem_iff.mpr ?_;have f2:=DV f;have m2:=AW f;(have:q=(r.1,a,hl):=by have h1:q.1=(r.1,a,hl).1:=e;exact Jhi kn hq m2 h1);rw[this] at hu;exact hu
 .have nd:YU!:=fq! t.pr.map ok.rn;show J7 u rs=_;rw[Yw nd,Su t.pr ok.rn]
 .obtain⟨_,a,hl,f,_,pm,_⟩:=t.PM.at_ r hr;unfold De;rw[f];exact pm.mem_iff.mp hu
theorem Told.rK(t:Du!)(ok:FB)(hn:n<=60)(ob:Xn! (0<=t.2)):pJ G.num MG!/\∀w9∈os,w9.1.2<G.AY:=by
 have h1:=t.pm.length_eq;have h2:=t.pr.length_eq;have z1:=ok.hz;have z2:=ok.rz;have key:∀w9∈os,w9.1∈EH!:=λw9 hw=>HI! t.PM.pm.mem_iff.mp (C1! w9 hw);refine⟨⟨?_,bn (hs.length<=60),bn (rs.length<=60),λw9 hw=>GM (ok.new w9.1 (key w9 hw)).1 (ob _ (key w9 hw))⟩,λw9 hw=>(ok.new w9.1 (key w9 hw)).2⟩;.exact t.PM.pm.nodup_iff.mpr ok.on
 .obtain⟨_,a,hl,f,_,pm,_⟩:=t.PM.at_ w9 hw;have:=(ok.ln _ (AW f)).2;have:=pm.length_eq;(have e:hl.length<=n:=hz!);lia
theorem Told.tells(t:Du!)(ok:FB)(hn:n<=60):Tells G hs os rs:=by have z1:=ok.hz;have z2:=ok.rz;have z3:=ok.oz;exact⟨B!,B!,B!,t.pm,t.pw,t.PM,t.pr,t.wr⟩
universe E
theorem Jdi(kn:∀z∈al,Kn ns z)(h:n∉ns)(u:Int):IB!=[]/\Kc! u:=by
 refine⟨GA.mpr ER!,GA.mpr ER!⟩;.have k:=CY! kn;cases z with | ask s g n' u'=>exact AB (X? h (S? z.1 k.1)) | w l=>rfl | HQ s g n' u' tk S=>rfl | lt s g ts=>rfl
 .have k:=CY! kn;cases z with | HQ s g n' u' tk S=>exact AB (X? h (S? z.1 k.1)) | w l=>rfl | ask s g n' u'=>rfl | lt s g ts=>rfl
universe S
theorem OJ.qb(x:Dv!)(hu:u=1\/u=2)(h:g∈IB!):Do!/\g<m:=by
 rcases hu with rfl|rfl;.exact KG.mp (x.t1.mem_iff.mp (ZB _ (ZB _ h)))
 .rcases x.t2 with⟨_,e,_⟩|⟨_,pm⟩;(.rw[e] at h;cases h);.exact KG.mp (pm.mem_iff.mp (ZB _ (ZB _ h)))
universe E
theorem Wg.up(x:Be!):VQ! Wg D BM!:=⟨x.wl.up,x.sD,x.rc⟩
universe S
theorem PB.same{qs:B?}{ys EN:H?}(x:PB m A B qs al ys)(h0:A'=0\/Fg 0 al+Lc m ys+A'<=Fg 0 al'+Lc m EN+A)(h1:Fg 1 al'+Lc m EN+B<=Fg 1 al+Lc m ys+B'):PB m A' B' qs al' EN:=by obtain⟨x1,x2⟩:=x;unfold PB oB at *;refine Ja! B!;rcases h0 with h0|h0<;>lia
theorem Uv(w9 m:Nat)(g n u:Int):IG! (Cp m g n u)=m*Vu! (u=1) 5 3:=by
 unfold Fg Cp;rw[AN];have h:∀l:C2!,Xw! (λ_=>pz!)=l.length*Vu! (u=1) 5 3:=λl=>by induction l with | nil=>rw[BS,Nat.zero_mul];rfl | cons _ l ih=>rw[AI,CV,ih,BM,Nat.succ_mul,Nat.add_comm]
 exact(h (List.range m)).trans (AM! BW)
theorem Mq(m:Nat)(a b:H?):Lc m (m?)=Lc m a+Lc m b:=by unfold Lc;rw[ZF,LX]
theorem Jau(x:g?)(hn:sK)(hB:A4!)(hd:d<900)(el:N9!)(es:FY! (LL.ask s g n' u))(p1:Lc!)(p2:cA! rg!)(p3:Ld!)(cA:Id!)(cB:Ic!)(k:CA!)(hR:∀y L W' H' q G hs os rs,YO!->Du!->K2!->Iw!->LE!->R Hh! W' (Kk! mV!) ys H'):qC!:=by
 have z3:=OB!;have z4:=x.ez;have hz:LL.ask s g n' u∈al:=N8!
 obtain⟨k1,ku⟩:=x.kn _ hz;obtain⟨y0,sC,o4⟩:=ZN k1;have mg:g∈C3 al n' u:=CT.mpr wi!;obtain⟨g0,g1⟩:=HO! (x.iv y0 sC).qb ku o4 mg;obtain⟨⟨q,G⟩,hi⟩:=qh!;have i:NS!:=XO! g0;obtain⟨sd,nu⟩:=IP!;have hN:s? g.toNat=g:=K4!;have bB:o2!:=r0!
 have p2:OD H t num Rs s g n' u:=p2;obtain⟨a0,et,_⟩:=id p2;refine su! s Rs;have NS:=kS!;refine Bs! Hn!;obtain⟨hs,os,rs,JM⟩:=q4! x.wg.wl.good;refine⟨p,t,_,num,s,g,n',u,q,G,hs,os,rs,rfl,W1,lv!,i,JM.tells sd.ok F!,bB,bn (W1! 900),D5! (by have:=x.ec e he;show e.1≠SC;lia),λy t1 e xs H2 W2 m4 he st QB eyl _ _=>?_⟩;have wf:JD! H2:=E1! mO!;have kt:=FD! x.wa wf;have ew:JL (Fr! mV!)=JL al:=by rw[es,Dx,Dx,Dx];show _++_++[]=_;rw[AE];rfl
 have mo:∀{L:k!} {c:S!},VZ! L c->Yr! H2 (Pj!) c:=λpp=>SV! ((r.keep kt).more (D5! (o0 he))) pp;have fB:∀z∈Fr! (us! LL.HQ n'),z∈al\/z=us! LL.HQ n':=AT (by rcases A7! with h|h;(.refine J! ?_;rw[es];rcases ZI h with h|h;(.exact FK!);.exact LC!);.exact I6! ZK h)
 obtain⟨rK,nw⟩:=JM.rK sd.ok F! (x.ob _ _ _ hi);rw[nu,hN] at rK;have a1:=x.md;have a3:=x.fz;have a4:=x.iz;refine ny! Hh! (bq! (I0!++uS!)) (Kk! mV!) H2 (hR y uS! (bq! (I0!++uS!)) _ q G hs os rs hi JM (pK! Nv.one) rfl eyl) (Ct! (pU! Nm!)) ⟨W2,HY! x.wg.up,bn (Te!<=_),x.ob,x.m1,x.m5,?_,?_,?_,?_,gO! (d+1),HY! x.ma,?_,B!,x.iq,x.i4,x.nd,x.off,Ch! (x.cI wf hy),FW!,ER!,x.ff,U6! ?_⟩;.exact uc! (Ci (mo p1) (mo p3)) ⟨m4,e,xs,SH!,he,st⟩
 .show Hy! Pj!;rw[ZF];refine mQ! x.en x!;obtain⟨w9,hw,ew⟩:=ZN hu;have:=x.ec w9 hw;have hv:v=SC:=ZK hv;lia
 .intro w9 hw;have hw:w9∈Pj!:=hw;show w9.1<=SC;rcases ZI hw with hw|hw;(.have:=x.ec w9 hw;lia);.rw[ZK hw];exact BU!
 .show(Pj!).length<=d+1;rw[ZE];show W.EF.length+1<=d+1;lia
 .have e0:=Iy 0 a b rg!;have e1:=Iy 1 a b rg!;rw[<-es] at e0 e1;(have pa:∀w9,gD w9 rg!=IG! [mV!]+1:=λw9=>by show(pz!)=Vu! (u=1) 4 2+0+1;split<;>rfl);rw[pa] at e0 e1;refine x.pb.same ?_ ?_;(.rw[Eg];lia);.rw[Eg];lia
 .rw[ew];exact(x.iv y hy).asked es g0 hi rfl (JM.qe sd.ok) rK nw
 .rcases CY! fB with h|rfl;(.exact x.kn z h);.exact⟨k1,ku⟩
 .rcases fB _ hz with h|h;(.rw[ew];exact no!);.cases h
theorem WI.lQ(x:g?):O0! (1<=y.n/\y.n<=c? ys.length):=Ch! (by have:y.n∈ms!:=nR!;rw[x.i4] at this;obtain⟨j,hj,e⟩:=ZN this;have:=Zz!;lia)
theorem Jm5(x:g?)(hn:sK)(hB:A4!)(hd:d<900)(i:pi)(cA:A'<=A+5*m)(cB:B+5*m<=B')(k:CA!)(hR:∀W' L H' io I,Qo!->fV!->Iw!->R (Op (Cu!)) W' (al++cv!) (ys++sA! Cu!) H'):cE p H Q E (D2! h):=by
 have z3:=OB!;have a1:=x.md;have a2:=x.ez;have a3:=x.fz;have a4:=x.iz;have a5:=x.m5;have br:O1!:=x.wg.wl.len;have mZ:W.LG.length=ys.length:=z! x.iq ZA
 have YW:Cu!∉ms!:=λz=>by obtain⟨y,hy,e⟩:=ZN z;have:=x.lQ y hy;lia
 refine⟨p,h,W,q,G,rfl,x.wa,i,B!,B!,B!,λl hl e=>?_,λio I L H1 W1 kK bx yv EO im is vF ic wf=>?_⟩;.rw[mZ] at e;rw[x.iq] at hl;obtain⟨y,hy,e2⟩:=ZN hl;rw[<-e2] at e;exact HI! YW ⟨y,hy,e⟩
 rw[br] at kK;rw[mZ] at W1 kK;have kt:=FD! x.wa wf;have ew:JL (al++cv!)=JL al:=by rw[Dx,Jdx,AE]
 let y1:Qy:=⟨Cu!,io,I,[],[]⟩;have fB:∀z∈al++cv!,z∈al\/∃g,z=LL.ask h g (Cu!) 1:=AT (by rcases A7! with h|h;(.exact G?);.obtain⟨j,_,e⟩:=ZN h;exact I! (D? e.symm))
 have atY:UU H1 m y1:=⟨bx,gr! (I.m=_) im,vF,ic,qV! (Paired _ I.ss []) is L!⟩;have ndY:CQ! C1 y1:=by obtain⟨dx,e⟩:=bx.ob;(have n1:io≠I.sd:=G3! bx.s);(have n2:io≠I.fd:=G3! bx.f);(have n3:io≠I.cd:=G3! bx.c);show [io,I.sd,I.fd,I.cd].Nodup;simp[n1,n2,n3,bx.sf,bx.sc,bx.fc]
 refine k _ { W with LG:=W.LG++[(Cu!,io)],c:=Bb!,ls:=D1! } D (al++cv!) (ys++[y1]) H1 (q! mZ (hR { W with LG:=W.LG++[(Cu!,io)],c:=Bb!,ls:=D1! } L _ io I (JN! (BO! (ZV! kK.len kK.num) (gr! (Bb!=_) kK.len))) kK.len rfl)) (Ct! (pU! (by rw[BY] at h;rcases ZI h with h|h;(.exact Nm!);.exact Ap! (EO b (FE.mp (UF)))))) ⟨W1,HY! x.wg.up,bn (Te!<=_),x.ob,x.m1,x.m5,?_,x.en,Mx!,bn (W1! (d+1)),gO! (d+1),HY! x.ma,?_,?_,?_,?_,?_,FW!,FW!,FW!,ER!,Mx!,U6! ?_⟩ (HD.wi wf) rfl;.exact Ci (Bq x.lw kt) (q? Eu f (λi:Nat=>LL.ask h l! (Cu!) 1) R (IA H1 W.EF) kK.MA)
 .have:=x.ec e he;show e.1<=Bb!;lia
 ·(have q0:Lc m [y1]=0:=by show Gy m y1+0=0;unfold Gy;have:(y1.fi.length:Nat)=0:=rfl;split<;>(try split)<;>simp_all [y1]);have q1:∀w9,IG! (Cp m h (Cu!) 1)=m*5:=λw9=>Uv w9 m h _ 1;refine x.pb.same (J? ?_) ?_;(.rw[Eg,Mq,q0,q1];lia);.rw[Eg,Mq,q0,q1];lia
 .rw[ZE];show ys.length+1<=n+1;lia
 .show W.LG++_=_;rw[x.iq,ZF];rfl
 .rw[ZF,ZE,x.i4];show _++[Cu!]=(List.range (ys.length+1)).map _;rw[DM,ZF];rfl
 .rw[BY];refine mQ! x.nd (by simpa using ndY);obtain⟨y,hy,hb⟩:=BG.mp hu;obtain⟨o,e,_⟩:=(x.at_ y hy).has hb;(have hv:v∈C1 y1:=by simpa using hv);have:=EO v (FE.mp hv);rw[<-z,e] at this;cases this
 .rcases ZI hy with hy|hy;(.exact x.off y hy);.rw[ZK hy];exact N? (yv b (FE.mp hb))
 .rcases ZI hy with hy|hy;(.exact x.cI wf hy);.rw[ZK hy];exact atY
 .rcases ZI hy with hy|hy;(.have ne:¬Cu!=y.n:=V8! YW ⟨y,hy,z.symm⟩;refine(x.iv y hy).ko (λu=>?_) (λu=>?_) (HY! (KS.refl _ _));(.rw[Cq,Gh,AB (λz=>ne z.1),AE]);.rw[A9,Fb,AE]);.rw[ZK hy];exact Jro x.m1 (λu=>(Jdi x.kn YW u).1) (λu=>(Jdi x.kn YW u).2) h
 .rcases CY! fB with h|⟨g,rfl⟩;(.have kz:=x.kn z h;rw[ZF];cases z with | w l=>trivial | ask s g n' u=>exact⟨o0 kz.1,kz.2⟩ | HQ s g n' u tk S=>exact⟨o0 kz.1,kz.2⟩ | lt s g ts=>trivial);.exact⟨Pv! y1 SH!,Ed!⟩
 .obtain⟨y,hy,e1,e2⟩:=x.ff e he;exact⟨y,o0 hy,e1,e2⟩
 .rcases fB _ hz with h|⟨_,h⟩;(.rw[ew];exact no!);.cases h
universe E
theorem Jbt{as:U!}{bs:Aq!}(h:∀a∈as,∀b,R a b->S a b)(p:pG!):E4! S as bs:=by revert h;induction p with | nil=>exact λ_=>L! | cons r _ ih=>exact λh=>K? (h _ Gy! _ r) (ih λa ha=>h a (Aj! ha))
universe S
variable {p:Addr}{H H2:Hp}{W:EE}{D D':T2->Prop}{m n:Nat}{al a b new:List LL}{ys i1 i2:List Qy}{y y':Qy}
theorem Jh2(ey:bp!)(nd:CQ! ys.flatMap C1):∀z,(z∈i1\/z∈i2)->∀b∈C1 z,b∉C1 y:=λz hz b hb hb2=>by rw[ey,BY,B_] at nd;obtain⟨_,n2,n3⟩:=AM.mp nd;rcases hz with hz|hz;(.exact n3 b (BG.mpr (Ia! hb)) b (ZB _ hb2) rfl);.exact(AM.mp n2).2.2 b hb2 b (BG.mpr (Ia! hb)) rfl
theorem Xi(ey:bp!)(nd:CQ! ys.map E0!):∀z,(z∈i1\/z∈i2)->z.n≠y.n:=λz hz e=>by rw[ey,ZF,AI] at nd;obtain⟨_,n2,n3⟩:=AM.mp nd;rcases hz with hz|hz;(.exact n3 z.n (AH.mpr (C1! z hz)) y.n (Ai!) e);.exact HI! (AX.mp n2).1 (Ia! e)
theorem WI.ji(x:g?):CQ! ys.map E0!:=by rw[x.i4];unfold List.Nodup;rw[EA];exact X7! (λ{a b} (h:a<b)=>B!) RB
theorem WI.answer(x:g?){num s g u tick:Int}{S:HS}{t e:Addr}{l1 l2 L e1 e2 gQ:k!}{c':Int}(el:N9!)(es:FY! (.HQ s g y.n u tick S))(p1:Lc!)(p3:Ld!)(ey:bp!)(ee:W.EF=e1++(num,e)::e2)(W2:Ff! { W with c:=c',ls:=FZ!,EF:=AK!,FK:=gQ })(fr:pa!)(en:y'.n=y.n)(eo:y'.io=y.io)(qf:C1 y'=C1 y)(at2:UU H2 m y')(hc:W.c<=c')(hw:Wg D' m n W.share W.qs MZ!)(hD:∀t,D t->D' t)(lw:Yr! H2 (AK!) new)(pn:∀w9,nz! (IG! new) (gD w9 (.HQ s g y.n u tick S)))(cA:Id!)(cB:Ic!)(rW:JL new=[])(nkn:∀z∈new,Kn (ys.map E0!) z)(nas:∀k u,k≠y.n->C3 new k u=[])(nan:∀k u,Bi new k u=[])(nlt:∀s g ts,n3!∈new->Do!/\g<m/\∃F,QG W.qs MZ! F/\(∀t,F t->D' t)/\ob! (F t) (t.1=g))(iv':OJ m W.qs MZ! Mj! y'.n y'.fi y'.se)(ff':∀e∈gQ,e∈W.FK\/(e.1=y.n/\y'.se.length=m))(fz':gQ.length<=d+1)(se:X2!->y'.se.length=m) : WI H2 p { W with c:=c',ls:=FZ!,EF:=AK!,FK:=gQ } D' m BM! Fx! A' B' Mj! (Hg!)/\Pr p W ys H H2:=by
 have hy:y∈ys:=H! ey Vf!
 have kt:BD H H2:=aB.DJ x.wa (x.at_ y hy).at_ fr;have ew:JL (Py!)=JL al:=by rw[es,Dx,Dx,rW,Dx,AE];rfl
 have em:∀{α:Type} (f:Qy->α),f y'=f y->(Hg!).map f=ys.map f:=λf ef=>by rw[ey,ZF,AI,ZF,AI,ef]
 have emn:=em E0! en;have mD:=x.wa.po.nd;rw[el,ZF,AI] at mD;obtain⟨_,nl2,nl3⟩:=AM.mp mD;have oN:∀z∈l1,z.1≠num:=AT (nl3 z.1 (AH.mpr (C1! z hz)) num Gy!);have gF:∀z∈l2,z.1≠num:=λz hz q=>HI! (AX.mp nl2).1 (Ia! q);have mo:∀{L:k!} {c:S!},(∀z∈L,z.1≠num)->VZ! L c->Yr! H2 (AK!) c:=λgw pp=>Jbt (λz hz r hr=>(hr.keep kt).more λe' he'=>by rw[ee] at he';rcases ZI he' with h|h;(.exact FK!);.rcases ZM h with h|h;(.exact absurd (Prod.mk.inj h).1 (gw z hz));.exact ZC _ h) pp;have mid:∀z∈Hg!,z=y'\/(z∈ys/\(z∈i1\/z∈i2)):=AT (by rcases A7! with h|h;(.exact wS (H! ey FK!) G?);.rcases ZM h with h|h;(.exact G?);.exact wS (H! ey LC!) AZ!)
 have p_:∀z∈Py!,z∈al\/z∈new:=AT (by rcases A7! with h|h;(.refine J! ?_;rw[es];rcases ZI h with h|h;(.exact FK!);.exact LC!);.exact AZ!)
 have kW:(AK!).Sublist W.EF:=H! ee (List.Sublist.append_left (List.sublist_cons_self _ _) _)
 have a1:=x.md;have a2:=x.ez;have a4:=x.iz;have a5:=kW.length_le;have eqf:(Hg!).flatMap C1=ys.flatMap C1:=by rw[ey,BY,B_,BY,B_,qf]
 refine Ch ⟨W2,HY! hw.up,bn (Te!<=_),x.ob,x.m1,x.m5,Ci (Ci (mo oN p1) (mo gF p3)) lw,x.en.sublist (kW.map _),D5! (Int.le_trans (x.ec e (kW.subset he)) hc),Q3! ((AK!).length<=d+1),fz',HY! x.ma,?_,?_,?_,?_,H! eqf x.nd,ER!,ER!,ER!,ER!,Mx!,U6! ?_⟩;.have f0:=Iy 0 a b (.HQ s g y.n u tick S);have f1:=Iy 1 a b (.HQ s g y.n u tick S);rw[<-es] at f0 f1;have q0:=pn 0;have q1:=pn 1;(have qy:Lc m (Hg!)+Gy m y=Lc m ys+Gy m y':=by rw[ey,Mq,Mq];show Lc m i1+(Gy m y'+Lc m i2)+Gy m y=Lc m i1+(Gy m y+Lc m i2)+Gy m y';lia);refine x.pb.same ?_ ?_;(.rw[Eg];lia);.rw[Eg];lia
 ·(have:AU! Hg!=ys.length:=DL! ey);lia
 .show W.LG=_;rw[x.iq];exact(em (gG!) (HU! en eo)).symm
 ·(have:AU! Hg!=ys.length:=DL! ey);rw[emn,x.i4,this]
 .rcases CY! mid with rfl|⟨h,_⟩;(.rw[qf];exact x.off y hy);.exact x.off z h
 .rcases CY! mid with rfl|⟨h,h2⟩;(.exact at2);.refine(x.at_ z h).keep (λb o hb eb=>?_) kt;have nb:=Jh2 ey x.nd z h2 b hb;exact fr b o eb (x.off z h b hb) (λq=>nb (FE.mpr i2!)) (oL! nb i2!) (oL! nb (GF! q))
 .rcases CY! mid with rfl|⟨h,h2⟩;(.rw[ew];exact iv');.have ne:=Xi ey x.ji z h2;refine(x.iv z h).ko (λv=>?_) (λv=>?_) (HY! (KS.refl _ _));(.rw[Cq,E! nas ne,AE,es,Cq,Cq,Gi];rfl);.rw[A9,nan,AE,es,A9,A9,Dj];show _=_++(en! (y.n=z.n) (u=v) QP!++_);rw[AB λq=>ne q.1.symm];rfl
 .rw[emn];rcases CY! p_ with h|h;(.exact x.kn z h);.exact nkn z h
 .rcases ff' e he with h|⟨h1,h2⟩;(.obtain⟨z,hz,q1,q2⟩:=x.ff e h;rw[ey] at hz;rcases A7! with hz|hz;(.exact⟨z,o0 hz,q1,q2⟩);.rcases ZM hz with rfl|hz;(.exact⟨y',Vf!,H! en q1,se q2⟩);.exact⟨z,uO! hz,q1,q2⟩);.exact⟨y',Vf!,H! en h1.symm,h2⟩
 .rw[ew];rcases p_ _ hz with h|h;(.obtain⟨g0,g1,F,sF,fD,ht⟩:=no!;exact⟨g0,g1,F,sF,λt ft=>hD t (fD t ft),ht⟩);.exact nlt s g ts h
 .intro b o eb h1 h2;have hq:b∉C1 y:=λq=>h2 (BG.mpr ⟨y,hy,q⟩);exact fr b o eb h1 (λq=>hq (FE.mpr i2!)) (oL! hq i2!) (oL! hq (GF! q))
universe E
theorem Ta{α:Type}{f:HS->U!}{c:Nat}:∀{L:Bz!},(∀S∈L,SZ f S<=c)->(L.flatMap f).length<=L.length*c
 | [],_=>x!
 | S::L,h=>by have ih:=Ta (f:=f) (c:=c) (L:=L) ae!;have:=Eq! S;rw[B_,ZE,BM,Nat.succ_mul];lia
theorem Jc3:∀{ks:C2!},ks.Nodup->(∀k∈ks,pJ AF! (S k))->o? (rowsOf (ks.map S)).map
 | [],_,_=>by simp[rowsOf]
 | k::ks,nd,h=>by obtain⟨n1,n2⟩:=Bd!;have ih:=Jc3 (S:=S) n2 ae!;have so:=Eq! k;(have e:rowsOf ((k::ks).map S)=(S k).2.1++rowsOf (ks.map S):=by unfold rowsOf;rw[AI,B_]);rw[e,ZF];refine mQ! so.nd ih;obtain⟨r,hr,e1⟩:=ZN hu;obtain⟨r2,JR,e2⟩:=ZN hv;obtain⟨S2,hS,eC⟩:=JQ.mp JR;obtain⟨k2,hk2,e3⟩:=ZN hS;have c1:=(so.oz r hr).1;subst e3;have c2:=((h k2 (ZD _ hk2)).oz r2 eC).1;(have:k=k2:=by rw[e1] at c1;rw[e2] at c2;rw[z] at c1;lia);rw[this] at n1;exact n1 hk2
theorem Jdl{ks:C2!}{S:GE!}{mx:Nat->Nat}{m:Nat}(nd:ks.Nodup)(kz:ks.length<=12)(km:∀k∈ks,k<m)(so:∀k∈ks,pJ AF! (S k))(nw:∀k∈ks,∀w9∈(S k).2.1,w9.1.2<mx k)(sm:kx! mx<=60):Rk! ks.map S:=by
 have gE:=Jc3 nd so;refine Bw! gE ?_ ?_ F1!;·(have:=Gv (U:=rD m mx) gE (sB (by obtain⟨r,hr,e⟩:=ZN ht;obtain⟨S2,hS,JR⟩:=JQ.mp hr;obtain⟨k,hk,e2⟩:=ZN hS;subst e2;obtain⟨c1,c2,_⟩:=(so k hk).oz r JR;have c3:=nw k hk r JR;rw[e] at c1 c2 c3;refine BG.mpr ⟨k,BN.mpr (km k hk),VW! t.2.toNat YS! ?_⟩;exact Prod.ext c1.symm (Q3! (s? t.2.toNat=t.2)))));rw[Jco,ZA] at this;lia
 ·(have:=Ta (f:=λS=>S.1) (c:=60) (L:=ks.map S) (AT (by obtain⟨k,hk,e2⟩:=BZ!;subst e2;exact(so k hk).hz)));rw[ZA] at this;have:ks.length*60<=12*60:=GO 60 kz;lia
 .obtain⟨S2,hS,JR⟩:=JQ.mp hr;obtain⟨k,hk,e2⟩:=ZN hS;subst e2;exact((so k hk).oz r JR).2.2
 ·(have:=Ta (f:=λS=>S.2.2) (c:=60) (L:=ks.map S) (AT (by obtain⟨k,hk,e2⟩:=BZ!;subst e2;exact(so k hk).rz)));rw[ZA] at this;have:ks.length*60<=12*60:=GO 60 kz;lia
theorem Jr{α:Type}{l:U!}{k:α->Int}{f:Fi!}{n:Int}:B4 (l.map pL!) (Sum.inl n)=(l.find? (MO! (k r=n))).map f:=by
 unfold B4;rw[List.find?_map,Option.map_map];congr 1;congr 1;funext r;show j9! (Sum.inl (k r):Key) Sum.inl n (k r=n);by_cases e:k r=n;.rw[e];simp
 .rw[F9!,Ax! (V1! Sum.inl.inj)]
theorem K6{α:Type}{l:U!}{k:α->Int}{f:Fi!}{r:α}(h:k r∉l.map k):putK (Gx! pL!) (Sum.inl (k r)) (f r)=(l++[r]).map pL!:=by
 have e:B4 (l.map pL!) (Sum.inl (k r))=none:=by rw[Jr];(have:l.find? (λz=>w! (k z=k r))=none:=BH.mpr (AT (by have:k z≠k r:=λe=>Kv! h (BE hz);simpa using this)));rw[this];rfl
 rw[E4 _ e,ZF];rfl
theorem Jh1{se:CT!}{h:Int}(m:h∈KI!):∃r∈se,r.1=h/\se.find? (MO! (r.1=h))=A! r:=by cases e:XB! se.find? (r.1=h) with | none =>obtain⟨r0,ZZ,e0⟩:=Dr!;have:=pv!;simp[e0] at this | some r=>exact⟨r,AW e,XY!,rfl⟩
theorem Jl0{ss:k?}{fi:B6!}(p:C4! (λ(kv:Key×V) (r:Int×Int×HS)=>rr!) ss fi){h:Int}{r:gQ!}(e:fi.find? (MO! (r.1=h))=A! r):∃a,B4 ss (Sum.inl h)=A! T0/\X_ K H a SL:=by induction p with | nil=>simp at e | @cons kv r0 ss fi q pp ih =>obtain⟨a,ea,st⟩:=q;subst ea;unfold B4;rw[BP] at e ⊢;by_cases c:r0.1=h;(.rw[IA!] at e;have e:r0=r:=ZO e;rw[show Av! (EI! r0.1) Rr!=true by rw[c];simp];exact FT! a (XT! st));.rw[GG!] at e;rw[Dp! (Mw! (EI! r0.1=Rr!) (Yu! Sum.inl.inj))];exact ih e
theorem Jiu{ss:k?}{fi:B6!}(p:C4! (λ(kv:Key×V) (r:Int×Int×HS)=>rr!) ss fi):EV! ss.map fi.map (λr=>EI! r.1) :=(xc (by rintro kv r ⟨a,e,_⟩;rw[e]) p).symm
theorem Jl1(pp:C4! (λ(kv:Key×V) (r:Int×Int×HS)=>rr!) ss fi)(h:s∉Hk!)(v:V):putK ss (Sum.inl s) v=ss++[(I5! s,v)]:=by refine E4 _ ?_;unfold B4;rw[BH.mpr λkv hkv=>?_];rfl;have:kv.1∈C? ss.map:=BE hkv;rw[Jiu pp] at this;obtain⟨r,hr,e⟩:=ZN this;have ne:¬kv.1=Sum.inl s:=X? h (by rw[z] at e;rw[<-Sum.inl.inj e];exact BE hr);simpa using ne
theorem Hk{m:Nat}{fi:B6!}(pm:TI! fi.map){h:Nat}(hh:h<m):∃r∈fi,r.1=BN!/\fi.find? (LR!)=A! r/\DF!=u?/\bx!=SL:=by have m1:BN!∈Hk!:=pm.mem_iff.mpr (KG.mpr Z1!);obtain⟨r0,ZZ,e0⟩:=ZN m1;cases e:fi.find? LR! with | none =>have:=pv!;simp[e0] at this | some r =>refine⟨r,AW e,XY!,rfl,?_,?_⟩;(.unfold Gb;rw[e];rfl);.unfold Jj;rw[e];rfl
def Ga(m:Nat)(g:Int)(ts:D!):S!:=Sv! m (λi:Nat=>.lt g l! (ts.filter OV!))
theorem U3:OJ! (Ga m g ts)=[]:=GA.mpr (AT (by obtain⟨i,_,e⟩:=BZ!;rw[<-e];rfl))
theorem K3:K7! (Ga m g ts)=[]:=GA.mpr (AT (by obtain⟨i,_,e⟩:=BZ!;rw[<-e];rfl))
theorem Jj6:JL (Ga m g ts)=[]:=GA.mpr (AT (by obtain⟨i,_,e⟩:=BZ!;rw[<-e];rfl))
theorem Jgr{l:j!}{m:Nat}(pm:l.Perm (rg m)):(l.map fm!).Perm (List.range m):=by
 have:=pm.map fm!;have e:(rg m).map fm!=List.range m:=by unfold rg;rw[AN];(have:((λx:Int=>x.toNat) ∘ Gg! AF!)=id:=by funext k;simp);rw[this,List.map_id]
 rw[e] at this;exact this
universe S
theorem Jek(w9 m:Nat)(g:Int)(ts:D!):IG! (Ga m g ts)=m:=by
 unfold Fg Ga;rw[AN];have h:∀l:C2!,Xw! (λ_=>1)=l.length:=λl=>by induction l with | nil=>rfl | cons _ l ih=>rw[AI,CV,ih,BM,Nat.add_comm]
 exact(h (List.range m)).trans BW
theorem Jq1{y y':Qy}(h:y'.fi.length=M7!)(l:M7!<m):nz! 0 4:=by unfold Gy;rw[Fg!,Fg!];lia
theorem Jq0{y y':Qy}(h:y'.fi.length=m)(hs:y'.se.length=0)(m1:1<=m)(e:M7!=m):nz! (m*3) 4:=by unfold Gy;rw[Ei!,Fg!,Fg!,hs];lia
theorem Jqz{y y':Qy}(h:y'.fi.length=m)(h2:bg!)(hs:y'.se.length=F4!)(l:F4!<m):nz! 0 2:=by unfold Gy;rw[Ei!,Fg!,Ei!,Fg!];lia
theorem Jqy{y y':Qy}(h:y'.fi.length=m)(h2:bg!)(hs:y'.se.length=m)(l:F4!=m):m+Gy m y'+1=2+Gy m y:=by unfold Gy;rw[Ei!,Ei!,Ei!,Fg!];lia
inductive xN(m:Nat)(W W':EE)(a b al':S!)(ys EN:H?)(H':Hp)(s g n u tick:Int)(S:HS):Prop
 | mk (y y':Qy) (i1 i2:H?) (new:S!) (e1:bp!) (e2:EN=Hg!) (e3:y.n=n) (e4:y'.n=n) (e5:al'=Py!) (e6:(u=1/\y'.se=y.se/\y'.fi=ep!/\Iu!/\((new=[]/\M7!≠m)\/(new=T2! 2/\M7!=m)))\/(u=2/\y'.fi=y.fi/\y'.se=HL!/\((new=[]/\F4!≠m/\Iu!)\/(F4!=m/\∃(ts:D!)(xf:Addr)(as:M!),new=Ga m g ts/\W'.FK=GS!/\vX! xf/\LQ!/\∃cf:C7!,(∀h:Nat,h<m->∃r∈y'.se,bZ! (cf h))/\Found (Lb m (gS!) l9!) ts))))
theorem Vo(x:g?)(hn:sK)(hB:A4!)(hd:d<900){num:Int}{l1 l2:k!}{t:Addr}{s g n' u tick:Int}{S:HS}(el:N9!)(es:FY! (LL.HQ s g n' u tick S))(p1:Lc!)(p2:cA! (.HQ s g n' u tick S))(p3:Ld!)(cA:Id!)(cB:Ic!)(k:CA!)(hR:∀v L W' al' EN H',Iw!->TZ!->wD! v->xN m W W' a b al' ys EN H' s g n' u tick S->R X4! W' al' EN H'):qC!:=by
 have z3:=OB!;have z5:=x.fz;have br:O1!:=x.wg.wl.len;have m5:=x.m5;have hz:LL.HQ s g n' u tick S∈al:=N8!
 obtain⟨k1,ku⟩:=x.kn _ hz;obtain⟨y,hy,o4⟩:=ZN k1;have o4:y.n=n':=o4;subst o4;obtain⟨i1,i2,ey⟩:=HV hy;obtain⟨pA,e,xs,me,he,st⟩:=p2;obtain⟨e1,e2,ee⟩:=HV me;have pA:OD H t num BD! s g y.n u:=pA;have iv:=x.iv y hy;have XU:=x.at_ y hy;have lf:y.fi.length<=m:=by have:=iv.t1.length_eq;rw[ZE,ZE,ZA,ZA,Du] at this;lia
 have lse:y.se.length<=m:=by rcases iv.t2 with⟨_,_,_,e⟩|⟨_,pm⟩;(.rw[e];exact wn);.have:=pm.length_eq;rw[ZE,ZE,ZA,ZA,Du] at this;lia
 have lfs:y.I.fs.length=y.fi.length:=z! XU.fs ZA
 have lcs:y.I.cs.length=y.se.length:=z! XU.cs ZA
 have lss:y.I.ss.length=y.fi.length:=y! XU.ss;have bB:o2!:=r0!
 obtain⟨a0,et,_⟩:=id pA;refine su! s BD!;have NS:=kS!;have bx:=x.cI HP hy;have vi:Zw! W.LG (AD! y.n) y.io:=by (have e1:W.LG=(i1.map gG!)++(y.n,y.io)::i2.map gG!:=by rw[x.iq,ey,ZF,AI]);(have nd:o? W.LG.map:=ga x.iq AN x.ji);rw[e1] at nd ⊢;exact(Jdo nd).1
 refine Hl! Hn!;refine⟨p,t,_,num,s,g,y.n,u,e1,e2,e,xs,tick,y.io,y.I,rfl,W1,pA.keep NS,ee,x.en,E! NS.BB he,vi,bx.at_,N? (x.off y hy b (FE.mpr hb)),B!,B!,B!,bn Xx!,bB,?_⟩;have sQ:∀{H2:Hp},aB p W y.I H1 H2->pa!:=λfr b o eb hb n1 n2 n3=>fr b o j6! hb n1 n2 n3;rcases ku with rfl|rfl;· obtain⟨lt,sn,ivA,ivB⟩:=iv.first (D:=D) (N:=n) (sh:=W.share) es;(have ef:wf!=(ep!).map (TT! ha!):=H! XU.fs (cx! X0! (λr=>ha!) QP! sn));(have lef:fC! y.I.fs=c? y.fi.length+1:=Iy! ef ZA ZE);(have pG:∀{H2:Hp},pa!->K45F.FV H2 y.io { y.I with ss:=vb! y.I.ss,fs:=wf! }->UU H2 m oh!:=λfr at2=>by have kt:=aB.DJ x.wa XU.at_ fr;refine Bw! at2 XU.many ef XU.cs;show Paired _ (putK y.I.ss (Z! s) (Y! xs)) _;rw[Jl1 XU.ss sn];exact uc! (An (λ_ _ h9=>by obtain⟨a,e,s⟩:=h9;exact⟨a,e,s.keep kt⟩) XU.ss) (FT! xs (st.keep kt)));refine J! (BO! (λne v H2 W2 at2 LZ j_=>?_) (λeq v L H2 W2 bV at2 LZ j_=>?_));(.have ne':M7!≠m:=X? ne (W2! lef XU.many);have fr:=sQ LZ;(have kL:Ff! oi!:=H! AE W2);obtain⟨wi,JY⟩:=sz! [] D oh! Gz! x.wg NG! L! (Jq1 (by show AU! ep!=_;rw[ZE];rfl) F!) rfl mw! (λ_ _ _=>rfl) XD! (λ_ _ _ hz=>AL! hz) (YI! (ivA ne')) (D5! (J! he)) F! (λh=>h);refine k _ _ D _ _ H2 ?_ ?_ wi JY rfl;(.exact sn! [] oi! (Nv.zero (AE _) rfl) [] (J! (WU! rfl rfl (X9! ne'))));.exact rY!);·(have VN:M7!=m:=by rw[lef,XU.many] at eq;lia);(have uR:y.se=[]:=by rcases iv.t2 with⟨_,_,_,e⟩|⟨e,_⟩;(.exact e);.lia);have fr:=sQ LZ;(have bV:OC H2 W.c g y.n 2 L m:=S? br bV);have kL:Ff! { W with c:=Bb!,ls:=FZ!,EF:=AK!,FK:=W.FK }:=W2;refine(λ(A:_/\_)=>k X4! { W with c:=Bb!,ls:=FZ!,EF:=AK!,FK:=W.FK } D (m?++Cp m g y.n 2) (i1++oh!::i2) H2 (sn! L { W with c:=Bb!,ls:=FZ!,EF:=AK!,FK:=W.FK } (BO! (ZV! bV.len bV.num) (gr! (Bb!=_) bV.len)) _ (J! (WU! rfl rfl (I! (x? VN))))) (MN! rY!) A.1 A.2 rfl) (sz! (Cp m g y.n 2) D oh! F! x.wg NG! (q? Eu f (λi:Nat=>LL.ask g l! y.n 2) R (IA H2 (AK!)) bV.MA) (H! Uv (Jq0 (by show AU! ep!=m;rw[ZE];exact VN) (by show y.se.length=0;rw[uR];rfl) x.m1 VN)) Jdx fr! (λk u ne=>z! Gh (AB λz=>ne z.1.symm)) (λ_ _=>Fb) (U6! ?_) (ivB VN x.wg g) (D5! (J! he)) F! (λh=>h));(.obtain⟨j,_,ez⟩:=BZ!;rw[<-ez];exact⟨nR!,YE!⟩);.obtain⟨j,_,ez⟩:=BZ!;cases ez
 · obtain⟨fl,lt,sn,rq⟩:=iv.second es;have pf:=(iv.whole fl).2.2;(have ec:wg!=(HL!).map (TT! (O? r.2)):=H! XU.cs (cx! Ri! gp! (s,tick) sn));(have lec:fC! y.I.cs=c? y.se.length+1:=Iy! ec ZA ZE);(have ky:AU! HL!=F4!:=be ZE);(have pG:∀{H2:Hp},pa!->K45F.FV H2 y.io { y.I with cs:=wg! }->UU H2 m oj!:=λfr at2=>by have kt:=aB.DJ x.wa XU.at_ fr;exact⟨at2,XU.many,XU.fs,ec,ie! (by obtain⟨a,e,s⟩:=h9;exact⟨a,e,s.keep kt⟩) XU.ss⟩);refine I! ⟨w?,λne v H2 W2 at2 LZ j_=>?_,λeq=>?_⟩;(.have ne':F4!≠m:=X? ne (W2! lec XU.many);have fr:=sQ LZ;(have kL:Ff! oi!:=H! AE W2);obtain⟨wi,JY⟩:=sz! [] D oj! Gz! x.wg NG! L! (Jqz fl fl ky F!) rfl mw! (λ_ _ _=>rfl) XD! (λ_ _ _ hz=>AL! hz) (YI! rq) (D5! (J! he)) F! (λh=>B!);refine k _ _ D _ _ H2 ?_ ?_ wi JY rfl;(.exact sn! [] oi! (Nv.zero (AE _) rfl) [] (I! (Au! rfl rfl (J! (BO! ne' rfl)))));.exact rY!);·(have VN:AU! HL!=m:=by rw[lec,XU.many] at eq;lia);(have ps:TI! (HL!).map:=by rcases rq.t2 with⟨h,_⟩|⟨_,pm⟩;(.lia);.have l:=pm.length_eq;rw[ZE,ZE,ZA,ZA,Du] at l;have q1:C3 (m?) y.n 2=[]:=GD!;have q2:Bi (m?) y.n 2=[]:=GD!;rw[q1,q2] at pm;exact pm);(have pF:∀h:Nat,∃ah:Addr,h<m->B4 y.I.ss (Z! BN!)=A! (Y! ah)/\X_ K H1 ah (Jj y.fi h):=λh=>by by_cases hh:h<m;(.obtain⟨r,_,_,ef,_,es2⟩:=Hk pf hh;obtain⟨ah,va,sa⟩:=Jl0 bx.ss ef;exact⟨ah,λ_=>⟨va,H! es2 sa⟩⟩);.exact Mp! e (BK! z hh));let cf:C7!:=λh=>bF! (HL!).find? LR!;(have i_:∀h:Nat,h<m->∃r∈HL!,r.1=BN!/\(HL!).find? (LR!)=A! r/\r.2=cf h:=λh hh=>by obtain⟨r,hr,er,ef⟩:=q? Jh1 se HL! h BN! (ps.mem_iff.mpr (KG.mpr Z1!));exact⟨r,hr,er,ef,by show r.2=((((HL!).find? LR!).map db).getD 0);rw[ef];rfl⟩);(have sF:=rq.done fl (c:=cf) λh hh=>by obtain⟨r,hr,er,_,ev⟩:=i_ h hh;exact⟨r,hr,er,ev⟩);(have eL:K45F.GB (K45F.KZ m (Gb y.fi) cf (λh=>Classical.choose (pF h)) l9!)=Lb m (λh=>eu! (Gb y.fi h)) (Jj y.fi):=by show List.map _ (List.map _ _)=_;rw[AN];rfl);(have fF:Rk! K45F.GB (K45F.KZ m (Gb y.fi) cf (λh=>Classical.choose (pF h)) l9!):=by rw[eL];have ZY:∀k∈mJ! (gS!),k<m:=λk hk=>BN.mp (FC! hk);(have nn:se! SL!:=No (by obtain⟨j,hj⟩:=DA.mp hq;exact(q? x.wg.num q q.1 G q.2 hj).1.m0));refine Jdl (mx:=λk=>(RR W.qs k).toNat) (m:=m) (List.nodup_range.filter _) ?_ ZY (Xk!) (λk hk w9 hw=>?_) ?_;(.have:=AO (gS!) (List.range m);rw[BW] at this;lia);(.obtain⟨r,hr,er,_,_,e4⟩:=sG!;have:=(iv.f1 r hr).so;rw[er,<-e4] at this;exact this);(.obtain⟨r,hr,er,_,_,e4⟩:=sG!;obtain⟨⟨q,G⟩,hi⟩:=vK! k (D6! (ZY k hk));rw[e4] at hw;have h1:=(iv.f1 r hr).nw k q G hi er w9 hw;(have h2:RR W.qs k=G.AY:=fe! hi);have h3:=(x.wg.num hi).1.m0;show w9.1.2<s? (RR W.qs k).toNat;rw[h2];lia);.have h1:=Gx nn;have h2:=x.md;rw[br] at h1;lia);refine⟨m,Gb y.fi,cf,λh=>Classical.choose (pF h),Jj y.fi,B!,⟨GM ((y.fi.map CD!).map fm!) (Jgr pf),Xk!,Xk!,λk hk=>((Classical.choose_spec (pF k)) hk).1⟩,λk hk=>((Classical.choose_spec (pF k)) hk).2,fF,gO! 900,λe he z=>?_,λv xf as ts L H2 fo W2 bV aq th at2 LZ j_=>?_⟩;(.show C? y.I.fs.map=_;rw[XU.fs,AN,AN,AN];refine CL F1!;have:=KG.mp (pf.mem_iff.mp (AH.mpr (Jo! rfl)));show EI! r.1=Sum.inl (s? r.1.toNat);rw[BO this.1]);(.show B4 y.I.fs _=_;obtain⟨r,_,_,ef,e3,_⟩:=Hk pf hk;rw[XU.fs,Sp! X0! (λr=>ha!),ef,e3];rfl);(.show B4 (putK y.I.cs (Z! s) (Op tick)) _=_;obtain⟨r,_,_,ef,e3⟩:=i_ k hk;rw[ec,Sp! Ri! gp!,ef,<-e3];rfl);(.obtain⟨y0,sC,q1,q2⟩:=x.ff e he;(have:y0=y:=by rw[ey] at sC;rcases ZI sC with h|h;(.exact EL! (z! q1 z) (Xi ey x.ji y0 SD!));.rcases ZM h with h|h;(.exact h);.exact EL! (z! q1 z) (Xi ey x.ji y0 (TD h)));rw[this] at q2;lia);.have fr:=sQ LZ;rw[eL] at fo;(have bV:m8 H2 W.c g ts L m:=S? br bV);have kL:Ff! { W with c:=Bb!,ls:=FZ!,EF:=AK!,FK:=W.FK++[(y.n,xf)] }:=W2;refine(λ(A:_/\_)=>k X4! { W with c:=Bb!,ls:=FZ!,EF:=AK!,FK:=W.FK++[(y.n,xf)] } _ (m?++Ga m g ts) (i1++oj!::i2) H2 (sn! L { W with c:=Bb!,ls:=FZ!,EF:=AK!,FK:=W.FK++[(y.n,xf)] } (BO! (ZV! bV.len bV.num) (gr! (Bb!=_) bV.len)) _ (I! (Au! rfl rfl (I! ⟨S? ky VN,ts,xf,as,rfl,rfl,aq,th,cf,λh hh=>(let⟨r,hr,er,_,ev⟩:=i_ h hh;⟨r,hr,er,ev⟩),fo⟩)))) (MN! rY!) A.1 A.2 rfl) (sz! (Ga m g ts) (λt=>D t\/GS m (gS!) l9! t) oj! F! (x.wg.more sF) (λ_ h=>G?) (q? Eu f (λi:Nat=>LL.lt g l! (ts.filter OV!)) R (IA H2 (AK!)) bV.MA) (H! Jek (Jqy fl fl VN (EX! ky VN))) Jj6 fr! (λ_ _ _=>U3) (λ_ _=>K3) (λs0 g0 ts0 hz=>?_) (rq.ko (λu=>by rw[Cq,U3,AE]) (λu=>Tf! K3) (KS.refl _ _)) (Mx!) ?_ (λh=>B!));(.obtain⟨j,_,ez⟩:=BZ!;rw[<-ez];trivial);(.obtain⟨j,hj,ez⟩:=BZ!;injection ez with q1 q2 q3;have hj:=Zz!;refine⟨B!,B!,_,sF,λt h=>AZ!,λt=>?_⟩;rw[<-q3,<-q2,AD,fo.mem];constructor;(.rintro⟨h1,h2⟩;exact⟨h1,BU h2⟩);.rintro⟨h1,h2⟩;exact⟨h1,EM! h2⟩);(.rcases ZI he with he|he;(.exact J! he);.rw[ZK he];exact I! (x? VN));.rw[ZE];show W.FK.length+1<=d+1;lia
universe E
def Val(W:EE)(m:Nat)(H:Hp):BI! Dd
 | .make h=>∃q G,pi
 | .three w h a b=>∃q G ta tb,pi/\IL!/\PP/\FS!/\RY!/\((w=Z?/\BA!)\/((w=Da!\/w=Db!)/\cZ!))
 | .free h b=>∃q G tb,pi/\PP/\BA!
 | .send h g b=>∃q G tb,pi/\Do!/\g<m/\PP/\BA!
 | .clean h=>∃q G,pi
 | .ask h=>∃q G,pi
 | .deliver n=>∃l1 l2 t,kP!
universe S
def pT(m A B A' B':Nat):BI! Dd
 | .ask _=>A'<=A+5*m/\B+5*m<=B'
 | .deliver _=>Id!/\Ic!
 | .send _ _ _=>D7!/\B+5<=B'
 | _=>D7!/\Iv!
def EfL(m:Nat)(W W':EE)(a b al':S!)(ys EN:H?)(H':Hp):BI! LL
 | .w _=>Gj!/\Iu!/\cz!/\∃bs:T?,al'=m?++QO!
 | .lt _ g ts=>Gj!/\Iu!/\∃q G hs os rs,YO!/\Du!/\W'.qs=jg! Dw!/\al'=m?++((Cd ol rs).map λr=>U1! g).map .w
 | .ask s g n u=>Gj!/\Iu!/\Iw!/\∃q G hs os rs,YO!/\Du!/\al'=Fr! (wl! n)
 | .HQ s g n u tick S=>Iw!/\xN m W W' a b al' ys EN H' s g n u tick S
def Ef(m:Nat)(W:EE)(al:S!)(H:Hp)(v:V)(W':EE)(al':S!)(ys EN:H?)(H':Hp):BI! Dd
 | .ask h=>v=a! (Cu!)/\al'=al++cv!/\(∃io I,EN=ys++sA! Cu!)/\Iw!/\∃L,Qo!/\fV!
 | .deliver n=>∃l1 l2 t a z b L y,kP!/\al=M3!/\Lc!/\IA H W.EF (n,t) z/\Ld!/\TZ!/\v=F? y/\LE!/\EfL m W W' a b al' ys EN H' z
 | _=>rE! Gj!
theorem Jh9(x:g?)(hn:sK)(hB:A4!)(hd:d<900)(v:Val W m H dd)(cs:pT m A B A' B' dd)(k:CA!)(hR:∀v W' al' EN H',sP! H v->R v W' al' EN H')(kE:(∃h g b,dd=.send h g b)->jJ!):Oq! dd:=by cases dd with | make h=>obtain⟨q,G,i⟩:=v;exact Jkq x hn hB i cs.1 cs.2 k br! | three w9 h a b =>obtain⟨q,G,ta,tb,i,ea,eb,ha,hh,v⟩:=v;rcases v with⟨rfl,hb⟩|⟨rfl|rfl,hb⟩;(.exact cw! Jkr i ea eb ha hb hh br!);(.exact cw! Jkt i ea eb ha hb hh br!);.exact cw! Jko i ea eb ha hb hh br! | free h b=>obtain⟨q,G,tb,i,eb,hb⟩:=v;exact Jks x hn hB i eb hb cs.1 cs.2 k br! | send h g b=>obtain⟨q,G,tb,i,g0,g1,eb,hb⟩:=v;exact Jkp x hn hB i g0 g1 eb hb cs.1 cs.2 k (λ_ _ bs _ _ c=>wb! (JN! bs)) (kE nh!) | clean h=>obtain⟨q,G,i⟩:=v;exact Jh8 x hn hB i cs.1 cs.2 k λ_ _ bs _ _ c=>wb! (JN! bs) | ask h=>obtain⟨q,G,i⟩:=v;exact Jm5 x hn hB hd i cs.1 cs.2 k λ_ L _ io I c e1 e2=>du! ⟨rfl,rfl,C1! io I,e2,L,c,e1⟩ | deliver num =>obtain⟨l1,l2,t,el⟩:=v;have lw:=x.lw;rw[el] at lw;obtain⟨a,z,b,es,p1,p2,p3⟩:=Y2 lw;cases z with | w l=>exact Vn x hn hB el es p1 p2 p3 cs.1 cs.2 k λy L bs _ _ c mk e=>du! ⟨_,_,_,_,_,_,L,y,el,es,p1,p2,p3,c.toNv,rfl,e,rfl,c.fi,mk,bs,rfl⟩ | ask s g n' u=>exact cw! Jau hd el es p1 p2 p3 (λy L _ _ q G hs os rs hi tl c e1 e2=>du! ⟨_,_,_,_,_,_,L,y,el,es,p1,p2,p3,c.toNv,rfl,e2,rfl,c.fi,e1,q,G,hs,os,rs,hi,tl,rfl⟩) | HQ s g n' u tk S=>exact cw! Vo hd el es p1 p2 p3 (λy L _ _ _ _ e1 c e2 e3=>du! ⟨_,_,_,_,_,_,L,y,el,es,p1,p2,p3,c,rfl,e2,e1,e3⟩) | lt s g ts=>exact Jh7 x hn hB el es p1 p2 p3 cs.1 cs.2 k λy L _ _ q G hs os rs hi tl c e1 e2=>du! ⟨_,_,_,_,_,_,L,y,el,es,p1,p2,p3,c.toNv,rfl,e2,rfl,c.fi,q,G,hs,os,rs,hi,tl,e1,rfl⟩
theorem Jfj(W:EE)(n:Str)(h:Tk ([FG!,Z?,Da!,Db!,FH!,Ph!,FJ!,Rs,HE!]:U?).contains n):FM (Fs W).lookup n:=by simp only[OF,List.contains_nil,Bool.or_false,Bool.or_eq_true,OE] at h;rcases h with h|h|h|h|h|h|h|h|h<;>(rw[h];exact EN!)
theorem WI.upn(x:g?)(cA:D7!)(cB:Iv!):WI H p W D m BM! Fx! A' B' al ys:=by have a1:=x.md;have a2:=x.ez;have a3:=x.fz;have a4:=x.iz;exact{ x with wg:=x.wg.up,md:=B!,ez:=B!,fz:=B!,iz:=B!,pb:=⟨AV cA x.pb.1,AV x.pb.2 cB⟩ }
universe E
universe S
theorem fM:A? [Pl!,Vj!,"_law_number"] oS! Y9:={}
inductive Jfx(vs:C!)(H:Hp)(Q:VK)(E:XK):Prop
 | mk (c:Int) (b:Bool) (_:vs=[T! c,.bl b]) (_:∀v:Int,K5! v)
theorem Jjr(F:h! tj! tj! Y9):DQ 1 f fd oS! Jfx:=by refine Y? fM;obtain⟨c,b,rfl,k⟩:=h;refine W!;refine KT! (LJ! (Jl (pv 1)) (Ar (pv 0))) (MX! 2 fM.nd (DB! (NW! (DB! a?))) (CJ! 2 fM.nd (DB! (NW! (DB! (Bh Gu R! (H1! R!)))))) (wT (Bh Dv R! (NW! (DB! a?)))));refine np!;cases b with | true=>exact Ck (KF (k _)) | false =>refine B3!;refine⟨_,rfl,_,_,rfl,rfl,Bv! 2147483647,_,_,rfl,rfl,OR!,_,_,rfl,rfl,Bv! 2147483647,?_⟩;have n0:=CN (c % 2147483647*48271) (a9! 2147483647);have n1:=CF (c % 2147483647*48271) (dk! 2147483647);generalize c % 2147483647*48271 % 2147483647=z at n0 n1;refine⟨_,rfl,_,rfl,_,_,rfl,rfl,_,_,rfl,rfl,Al! B! B!,_,_,rfl,rfl,Bv! 2147483629,_,_,rfl,rfl,OR!,_,_,rfl,rfl,Bv! 2147483587,?_⟩;exact⟨_,rfl,_,rfl,_,_,rfl,rfl,Bv! 1000003,_,_,rfl,rfl,OR!,_,_,rfl,rfl,k _⟩
theorem Jir:PyData.eqv (NY t) (NY u)=w! (t=u):=by obtain⟨a,b⟩:=t;obtain⟨c,d⟩:=u;unfold NY;simp only[PyData.eqv,PyData.eqvAll,Prod.mk.injEq];by_cases h1:a=c<;>by_cases h2:b=d<;>simp[h1,h2,PyData.eqv]
theorem iF:A? [dr!,"_law_a","_law_thing","_law_out",cq!] oT! Kg:={}
inductive Uo(vs:C!)(H:Hp)(Q:VK)(E:XK):Prop
 | mk (y2 a:Addr) (bs:C!) (os:EQ) (ta:T2) (_:vs=[F? y2,Os]) (_:G2! y2 bs) (_:mL! H bs) (_:IL!) (_:ta∈C? os.map) (_:∀(hd:Addr)(cs:M!)(o:Int)(hl:D!),(ta,o,hl)∈os->uy! hd cs.map->BC H cs hl->BH! hd H)
theorem Jbx(F:h! tl! tl! Kg):DQ 1 f fd oT! Uo:=by
 refine Uo! iF;.obtain⟨y2,a,bs,os,ta,rfl,_⟩:=h;rfl
 .obtain⟨y2,a,bs,os,ta,rfl,e2,rows,ea,mem,k⟩:=h;refine L1! (n0! (ST! 0) (qB! (H2! iF.nd) (Yk! iF.nd) (Kh! iF.nd)) (LJ! (wB! Rp R! d!) (Ar (pv 4)))) (Af (Ar (Ce Ae)));refine JW! y2 (d? e2) ?_;refine ej! Qa y2 bs (λj σ H2=>H2=H/\(∃u1 u2 u3,σ=[i? y2,EW!,u1,u2,u3])/\ta∉C? (os.take j).map) (BO! nh! x!) (λj σ H2 _ h=>H! h.1 (d? e2)) (λσ H2 h=>?_);(.rintro j v σ H2 hj ⟨rfl,⟨u1,u2,u3,rfl⟩,no⟩;obtain⟨r,E_⟩:=av! os rows;obtain⟨a',t,hd,cs,rfl,e3,e4,e5,e6⟩:=Ax rows j v r hj E_;refine sv! a' (d? e3);refine⟨_,rfl,_,rfl,NY r.1,NY ta,.one (Jh e4),.one (Jh ea),Pz r.1,Pz ta,_,rfl,?_⟩;rw[Jir];refine X7 (Xq!) (Xq!);(.have c:r.1=ta:=BU c;exact KF (k hd cs u? SL (EX! c (ZP E_)) e5 e6));·(have c:¬r.1=ta:=L3!);refine GM rfl nh!;rw[CO,E_,ZF,LY];rintro(z|z);(.exact no z);·(have:ta=r.1:=Lt!);exact c this.symm);.exfalso;obtain⟨_,_,no⟩:=h;rw[y! rows,BL] at no;exact no mem
example:A? [Cy!,MH!,Pl!,"_law_asks_here",Vj!,VB!,Vm!,fn!,dr!,fo!,fp!,"_law_b","_law_near","_law_a",cq!] cX! Zh:={}
universe E
def nC(n:Int)(kind:Str)(s g:Int)(th:T2)(x:Int):PyData:=EO! (a4! ML! (Kr! (NY th) x))
def kN(n:Int)(kind:Str)(s g k u:Int):PyData:=EO! (a4! ML! (Kr! (T! k) u))
def mF(n s g:Int)(ts:D!):PyData:=EO! [ML!,Ak! Cz!,T! s,T! g,a1!]
theorem Jj7{H:Hp}{t:Addr}{n:Int}{kind:Str}{s g:Int}{tb:T2}{x:Int}(h:KD H t n kind s g tb x):B2! JU! (nC n kind s g tb x):=by obtain⟨a,b,e1,e2,e3⟩:=h;exact Za! e1 PL! (wI! (uk! e2 (Jh e3)))
theorem Jdy{H:Hp}{t:Addr}{n:Int}{kind:Str}{s g k u:Int}(h:OD H t n kind s g k u):B2! JU! (kN n kind s g k u):=by obtain⟨a,e1,e2⟩:=h;exact Za! e1 PL! (wI! (uk! e2 PL!))
theorem Jmo{H:Hp}{t:Addr}{n s g:Int}{ts:D!}(h:qO! n):B2! JU! (mF n s g ts):=by obtain⟨a,as,e1,e2,th⟩:=h;exact Za! e1 PL! (wI! (vS! e2 th))
theorem Jj8{n:Int}{kind:Str}{s g:Int}{th:T2}{x:Int}(hk:BC! Z?\/BC! Cd!\/BC! Bg!\/BC! wE):(nC n kind s g th x).canLay0=true/\(nC n kind s g th x).depth<=20:=by
 have t1:(NY th).canLay0=true:=(Pz th).1;refine Fj!;.rcases hk with rfl|rfl|rfl|rfl;all_goals unfold nC;simp only[PyData.canLay0,PyData.canLayAll0,t1,H_,HZ];decide +kernel
 .unfold nC;simp[PyData.depth,PyData.depthAll,NY]
theorem Jdz{n:Int}{kind:Str}{s g k u:Int}(hk:BC! Rs\/BC! BD!):(kN n kind s g k u).canLay0=true/\(kN n kind s g k u).depth<=20:=by
 refine Fj!;.rcases hk with rfl|rfl;all_goals unfold kN;simp only[PyData.canLay0,PyData.canLayAll0,H_,HZ];decide +kernel
 .unfold kN;simp[PyData.depth,PyData.depthAll]
theorem Jfq(ts:D!):∀d∈ts.map NY,T0!:=λd hd=>by obtain⟨t,_,rfl⟩:=ZN hd;exact⟨(Gj t).1,GO! (Gj t).2⟩
theorem V2(ts:D!):∀d∈ts.map NY,wR! 5:=λd hd=>by obtain⟨t,_,rfl⟩:=ZN hd;exact⟨(Gj t).1,by unfold NY;simp[PyData.depth,PyData.depthAll]⟩
theorem Jmp{n s g:Int}{ts:D!}:(mF n s g ts).canLay0=true/\(mF n s g ts).depth<=20:=by
 obtain⟨h1,h2⟩:=tN (V2 ts);refine Fj!;.unfold mF;simp only[PyData.canLay0,PyData.canLayAll0,h1,H_,HZ];decide +kernel
 .unfold mF;simp only[PyData.depth,PyData.depthAll];lia
theorem KN.kd{m:Nat}{l:LT}(h:IM!):l.kind=Z?\/g7!\/g6!\/J9!:=by
 rcases h.2.2.2 with⟨h,_⟩|⟨h,_⟩|⟨h,_⟩|⟨h,_⟩;.exact G?
 .exact Nm!
 .exact Hl! h
 .exact I! (GF! h)
def llD(n:Int):LL->PyData
 | .w l=>nC n l.kind l.s l.g l.th l.x
 | .ask s g k u=>kN n Rs s g k u
 | .HQ s g k u _ _=>kN n BD! s g k u
 | .lt s g ts=>mF n s g ts
def pR:j!->S!->Eb!
 | n::ns,l::ls=>llD n l::pR ns ls
 | _,_=>[]
theorem Jmr{H:Hp}{EF:k!}{y:dO!}{z:LL}(h:bV!):B2! (Y! y.2) (llD y.1 z):=by cases z with | w l=>exact Jj7 h | ask s g k u=>exact Jdy h | HQ s g k u t S=>exact Jdy h.1 | lt s g ts=>exact Jmo h
theorem My{H:Hp}{EF:k!}{ys:k!}{ls:S!}(p:dX! H EF ys ls):o1! (ys.map λy=>Q? y.2) (pR (Gn! ys.map) ls):=by induction p with | nil=>exact L! | cons h _ ih=>exact K? (Jmr h) ih
theorem Kk{m:Nat}:∀{ns:j!} {ls:S!},(∀l∈JL ls,IM!)->∀d∈pR ns ls,T0!
 | [],_,_,d,h=>Dn!
 | _::_,[],_,d,h=>Dn!
 | n::ns,l::ls,k,d,h=>by rcases ZM h with rfl|h;(.cases l with | w l=>exact Jj8 (k l Gy!).kd | ask s g k u=>exact Jdz (Z! rfl) | HQ s g k u t S=>exact Jdz (J? rfl) | lt s g ts=>exact Jmp);.refine Kk (AT (k z ?_)) d h;cases l with | w l=>exact ZD _ hz | ask s g k u=>exact hz | HQ s g k u t S=>exact hz | lt s g ts=>exact hz
theorem U2{R:AN! dO! LL}{ys:k!}{ls:S!}(p:L7! ys ls)(ne:ys≠[]):r? (pR (Gn! ys.map) ls).isEmpty:=by cases p with | nil=>exact Fh! ne | cons _ _=>rfl
theorem Oc{ls:S!}:(pR (Gn! ([]:k!).map) ls).isEmpty=true:=by cases ls<;>rfl
theorem IA.BB{H:Hp}{EF:k!}{y:dO!}{z:LL}(h:bV!):∃xs,G2! y.2 (T! y.1::xs):=by cases z with | w l=>obtain⟨a,b,e,_⟩:=h;exact AH! | ask s g k u=>obtain⟨a,e,_⟩:=h;exact AH! | HQ s g k u t S=>obtain⟨⟨a,e,_⟩,_⟩:=h;exact AH! | lt s g ts=>obtain⟨a,as,e,_⟩:=h;exact AH!
universe S
theorem PQ:A? [Cy!,MH!,Pl!,"_law_asks_here",Vj!,VB!,Vm!,fn!,dr!,fo!,fp!,"_law_b","_law_near","_law_a",cq!] cX! Zh:={}
inductive Jfz(vs:C!)(H:Hp)(Q:VK)(E:XK):Prop
 | mk (p:Addr) (W:EE) (D:n?) (m n:Nat) (al:S!) (ys:H?) (c:Int) (ak fr:Bool) (_:vs=[y?,T! AR!,T! c,.bl ak,.bl fr]) (_:g?) (_:sK) (_:∀(x:Addr)(H':Hp)(dd:Dd),ju! (dm! H' x sj dd) (Val W m H' dd) (∀h,dd=D2! h->ak=true))
def Jnq:TT:=c4! jd
theorem Jfe:∀{zs:Ac! (Addr×T2)},(∀z∈zs,dU! z.1 z.2)->ke! (zs.map λz=>Q? z.1) zs.map (λz=>NY z.2)
 | [],_=>L!
 | z::zs,h=>K? (Jh (h z Gy!)) (Jfe (Ch! (h y iH!)))
theorem Jnn(zs:Ac! (Addr×T2)):∀d∈zs.map (λz=>NY z.2),T0!:=λd hd=>by obtain⟨t,_,rfl⟩:=ZN hd;exact⟨(Gj t.2).1,GO! (Gj t.2).2⟩
theorem isE(h:l≠[]):r? (l.map f).isEmpty:=by cases l with | nil=>exact ap! | cons a b=>rfl
theorem Jo5(a0 a1 a2 a3 a4 v kd h c2 y1 y2 y3:V):(((((((L2.start [Cy!,MH!,Pl!,"_law_asks_here",Vj!,VB!,Vm!,fn!,dr!,fo!,fp!,"_law_b","_law_near","_law_a",cq!] [a0,a1,a2,a3,a4]).set 2 (some v)).set 5 (some kd)).set 6 (some h)).set 2 (some c2)).set 7 (some y1)).set 8 (some y2)).set 9 (some y3)=[A! a0,A! a1,A! c2,A! a3,A! a4,A! kd,A! h,A! y1,A! y2,A! y3,none,none,none,none,none]:=rfl
set_option maxHeartbeats 20000000 in
theorem Jjz(F:FF K "_law_deed" "_law_deed" Zh f fd)(T:Txt)(TW:F9)(MP:OU K mg "_law_spun" Y9 ["_law_cell_here","_law_free"] fP dP)(MH:OU K mg "_law_holding" Kg ["_law_things","_law_a"] fH dH)(MS:CJ K CW "state" "World.state" Mf ["self","h"] fS dS)(GS':FO 3 fS dS ["self","h"] (J8))(ML:CJ K CW "letters" "World.letters" Ik ["self"] fL dL)(GL:DQ 2 fL dL ["self"] (Ln)) :
 DQ 4 f fd ["_law_world","_law_many","_law_cell_here","_law_asks_here","_law_free"] (Jfz):=by
 have GP:DQ 1 fP dP ["_law_cell_here","_law_free"] Jfx:=Jjr MP.fn
 have GH:DQ 1 fH dH ["_law_things","_law_a"] Uo:=Jbx MH.fn
 have GS:DQ 3 fS dS ["self","h"] (λvs H Q _=>J8 vs H Q E0):=FX.EJ.no GS'
 refine F.IV PQ λvs H Q E h=>?_
 obtain⟨p,W,D,m,n,ls,ys,c,ak,fr,rfl,S,hn,k⟩:=h
 refine⟨rfl,λD_ A outer s hr=>?_⟩
 have HC:Cn 1 _:=hr.mono (by decide)
 have JR:Cn 2 _:=hr.mono (by decide)
 have eC:Cn 3 _:=hr.mono (by decide)
 refine⟨_,Ac (Av (i:=2) PQ.nd rfl (Or.inl rfl) (Bw GP HC (by rfl) MP.mg MP.fn.kp MP.bd .nil A7 (Aa (pv 2) (Aa (pv 4) Ae))))
  (Ac (Av (i:=5) PQ.nd rfl (Or.inl rfl) (Bh C8 (pv 2) Ah))
  (Ac (Av (i:=6) PQ.nd rfl (Or.inr rfl) (Bh C8 (Bh E7 (pv 2) Ah) (pv 1)))
  (Ac (Av (i:=2) PQ.nd rfl (Or.inl rfl) (Bh E7 (Bh E7 (pv 2) Ah) (pv 1)))
  (Ac (Ri (Ao (pl:=_) (pv 0) TW.cl MS.mt GS eC MS.bd .nil A7 (Aa (pv 6) Ae)) (Jm rfl (Bk (Bg (i:=7) PQ.nd rfl (Or.inl rfl)) (Bk (Bg (i:=8) PQ.nd rfl (Or.inl rfl)) (Bk (Bg (i:=9) PQ.nd rfl (Or.inl rfl)) Gd)))))
  (Ac (Av (i:=10) PQ.nd rfl (Or.inl rfl) (C4 (pl:=_) (pv 0) TW.cl ML.mt GL JR ML.bd .nil A7))
  (Ac (Bj (cv (N2 (Aw Ro (pv 5) Ah (A4 _)) (Mm (Aw (Gs (Hr hr)) (pv 10) (E2 Ae) (A4 _))))) (Af (Ar (Ce (Aa Be (Aa (Az Ay (Az Ec (pv 10) (Bh C8 (pv 2) (Bv Bt (by rfl) T.len CC (Aa (pv 10) Ae)))) Ah) Ae))))) A5)
  (Ac (Bj (cv (N2 (Aw C6 (pv 5) Ah (A4 _)) (N2 (Jl (pv 3)) (Mm (Aw C6 (Bh C8 (pv 2) Ah) Ah (A4 _)))))) (Af (Ar (Ce (Aa Be (Aa (pv 6) Ae))))) A5)
  (Ac (Bj (Aw Ro (pv 5) Ah (A4 _)) (Af (Ar (Ce (Aa Be (Aa (pv 6) Ae))))) A5)
  (Ac (Bj (cv (O0 (Aw O7 (pv 5) Ah (A4 _)) (Kh (Aw (Rp (Hr hr)) (pv 7) (Ce Ae) (A4 _))))) (Af (Ar (Ce (Aa Be (Aa (pv 6) Ae))))) A5)
  (Ac (Av (i:=11) PQ.nd rfl (Or.inl rfl) (Az Ay (pv 7) (Bh C8 (pv 2) (Bv Bt (by rfl) T.len CC (Aa (pv 7) Ae)))))
  (Ac (Av (i:=2) PQ.nd rfl (Or.inl rfl) (Bh E7 (pv 2) (Bv Bt (by rfl) T.len CC (Aa (pv 7) Ae))))
  (Ac (Fx (i:=12) (tt:=Jnq) (te:=Ca 0) (caps:=[("_law_h",6)]) PQ.nd rfl rfl rfl rfl (Gq (pv 7)) rfl ZV rfl ZV rfl ⟨rfl,trivial⟩ (λy h=>JS ⟨_,rfl⟩ h) ⟨⟨rfl,rfl,rfl,rfl⟩,trivial⟩ ZV (λ_ _ _ _ _=>Dq (Aw C6 (Az Ay (pv 0) Ah) (pv 1) (A4 _))) (λ_ _ _ _ _=>pv 0))
  (Ac (Bj (Aw O7 (pv 5) Ah (A4 _)) (Af (Ar (Ce (Aa Be (Aa (pv 6) (Aa (Bh C8 (pv 2) (pv 1)) (Aa (pv 11) Ae))))))) A5)
  (Ac (Bj (cv (O0 (Aw Ro (pv 5) Ah (A4 _)) (Kh (Aw (Rp (Hr hr)) (pv 12) (E2 Ae) (A4 _))))) (Af (Ar (Ce (Aa Be (Aa (pv 6) (Aa (pv 11) Ae)))))) A5)
  (Ac (Av (i:=13) PQ.nd rfl (Or.inl rfl) (Az Ec (pv 12) (Bh C8 (pv 2) (Bv Bt (by rfl) T.len CC (Aa (pv 12) Ae)))))
  (Ac (Av (i:=14) PQ.nd rfl (Or.inl rfl) (Bw GH HC (by rfl) MH.mg MH.fn.kp MH.bd .nil A7 (Aa (pv 8) (Aa (pv 13) Ae))))
  (Ac (Bj (cv (O0 (Aw O7 (pv 5) Ah (A4 _)) (Kh (Aw (Rp (Hr hr)) (pv 14) (Ce Ae) (A4 _))))) (Af (Ar (Ce (Aa Be (Aa (pv 6) (Aa (pv 13) (Aa (pv 11) Ae))))))) A5)
  (Af (Ar (Ce (Aa (Az Ec (E2 (Aa Be (Aa Be Ae))) (Bh Xd (pv 5) Ah)) (Aa (pv 6) (Aa (pv 13) (Aa (Az Ay (pv 14) (Bh C8 (Bh E7 (pv 2) (Bv Bt (by rfl) T.len CC (Aa (pv 12) Ae))) (Bv Bt (by rfl) T.len CC (Aa (pv 14) Ae)))) Ae)))))))))))))))))))))))),?_⟩
 have aE:(0:Int)<(m:Int):=by have:=S.m1;lia
 have dy:=S.wg.wl.dy
 refine⟨_,rfl,_,rfl,c,fr,rfl,λv=>?_⟩
 refine⟨_,rfl,_,_,rfl,rfl,(show(0:Int)<17 by decide),?_⟩
 refine⟨_,rfl,_,_,rfl,rfl,⟨by decide,by decide⟩,_,rfl,_,_,rfl,rfl,aE,?_⟩
 refine⟨_,rfl,_,_,rfl,rfl,⟨by decide,by decide⟩,_,rfl,_,_,rfl,rfl,⟨aE,by lia⟩,?_⟩
 have k0:=CN v (show(17:Int)≠0 by decide)
 have k1:=CF v (show(0:Int)<17 by decide)
 have h0:=CN (v / 17) (show(m:Int)≠0 by lia)
 have h1:=CF (v / 17) aE
 generalize v / 17 % (m:Int)=h at h0 h1
 generalize v / 17 / (m:Int)=c2
 generalize v % 17=kd at k0 k1
 obtain⟨⟨q,G⟩,hq⟩:=Au (xs:=W.qs) (j:=h.toNat) (by rw[S.wg.wl.len];lia)
 have i:JF W h q G:=⟨h0,hq⟩
 obtain⟨sd,nu⟩:=S.wg.wl.sd _ q G hq
 have hN:((h.toNat:Nat):Int)=h:=BO h0
 rw[hN] at nu
 have gd:=S.wg.wl.good (by lia) hq
 obtain⟨hs,os,rs,JM⟩:=gd.told
 obtain⟨dx,hp⟩:=S.wa.ob
 refine⟨_,rfl,p,dx,_,rfl,hp,Cr W ZV,_,rfl,p,h,W,rfl,S.wa,.inr ⟨q,G,i,q,G,hs,os,rs,rfl,i.at S.wa,gd.h2,gd.o2,gd.r2,JM.pm,JM.pw,JM.PM,JM.pr,JM.wr,λx H1 s1 st=>?_⟩⟩
 obtain⟨y1,y2,y3,as,bs,ds,ex,e1,t1,e2,r2,⟨ob,e3,pl⟩,r3⟩:=st
 refine⟨x,_,rfl,CA.of ex,rfl,_,_,rfl,_,_,rfl,_,_,rfl,rfl,?_⟩
 obtain⟨FC,HM⟩:=(S.wa.same s1).ob
 refine⟨_,rfl,p,FC,_,rfl,HM,Cr W ZV,p,W,rfl,S.wa.same s1,λl H2 hl el s2=>?_⟩
 have RE:=Ai s1 s2
 have S2:=S.same RE
 have e1:=s2 _ _ e1
 have t1:=BC.keep (EI s2) t1
 have e2:=s2 _ _ e2
 have r2:Paired (LV H2) bs os:=An (λ_ _ r=>r.keep (EI s2)) r2
 have las:as.length=hs.length:=Paired.length t1
 have lhs:=JM.pm.length_eq
 have zhd:=gd.h2
 clear ex e3 pl r3 s1 s2 hp HM
 rw[Jo5]
 by_cases sk:10<kd
 .by_cases cd:11<kd/\W.ls≠[]
  .refine⟨_,rfl,_,_,rfl,rfl,_,rfl,?_⟩
   rw[decide_eq_true cd.1]
   refine Ck ⟨_,rfl,BK _,λr E_=>⟨_,_,.BJ (DY.of (Ag E_ _ _ el)) (My (Bq S2.lw (EI (Ag E_)))),.BJ (DY.of Ab) .nil,Fi (Kk S.wg.wl.ok),Rr,_,rfl,?_⟩⟩
   rw[Je,U2 S2.lw cd.2]
   refine Ck ?_
   have s3:=Ag (o:=.BJ []) E_
   generalize upd H2 r (.BJ [])=H3 at s3
   have eQ:=s3 _ _ el
   have YG:(0:Int)<(((W.ls.map λx=>V.ref x.2).length:Nat):Int):=by
    rw[ZA]
    have:=ET.mpr cd.2
    lia
   have j0:=CN c2 (show(((W.ls.map λx=>V.ref x.2).length:Nat):Int)≠0 by lia)
   have j1:=CF c2 YG
   obtain⟨⟨num,t⟩,hy⟩:=Au (xs:=W.ls) (j:=(c2 % (((W.ls.map λx=>V.ref x.2).length:Nat):Int)).toNat) (by rw[ZA] at j0 j1 ⊢;lia)
   have jA:RK (W.ls.map λx=>V.ref x.2) (c2 % (((W.ls.map λx=>V.ref x.2).length:Nat):Int))=some (.ref t):=Ee j0 (by rw[ZH,hy];rfl)
   obtain⟨lt,KH⟩:=Au (xs:=ls) (j:=(c2 % (((W.ls.map λx=>V.ref x.2).length:Nat):Int)).toNat) (by rw[<-Paired.length S.lw];exact(ZJ hy).1)
   obtain⟨a1,et⟩:=IA.BB (Ax S2.lw _ _ _ hy KH)
   have et:H2 t=some (.BB (V.int num::a1)):=et
   obtain⟨l1,l2,sV⟩:=HV (ZP hy)
   refine⟨_,rfl,_,rfl,_,rfl,l,_,rfl,.inl (DY.of eQ),_,_,rfl,rfl,YG,l,_,_,_,rfl,rfl,DY.of eQ,jA,t,_,0,_,rfl,rfl,CA.of (s3 _ _ et),Ee (by decide) rfl,(by show 2<=sizeLine;decide),λx hx=>?_⟩
   exact k x _ (.deliver num) (Ai RE (Ai s3 (Ag hx))) Ab ⟨l1,l2,t,sV⟩ (λ_ z=>by cases z)
  .have cl:∀{H3:Hp},Bu H2 H3->∀x,H3 x=none->Q (.ref x) (upd H3 x (.BB [.str "clean",.int h])):=λ{H3} s3 x hx=>k x _ (.clean h) (Ai RE (Ai s3 (Ag hx))) Ab ⟨q,G,i⟩ (λ_ z=>by cases z)
   have rf:Bu H2 H2:=λb o e=>e
   by_cases w8:11<kd
   .have e0:W.ls=[]:=Classical.byContradiction λz=>cd ⟨w8,z⟩
    refine⟨_,rfl,_,_,rfl,rfl,_,rfl,?_⟩
    rw[decide_eq_true w8]
    refine Ck ⟨_,rfl,BK _,λr E_=>⟨_,_,.BJ (DY.of (Ag E_ _ _ el)) (My (Bq S2.lw (EI (Ag E_)))),.BJ (DY.of Ab) .nil,Fi (Kk S.wg.wl.ok),Rr,_,rfl,?_⟩⟩
    rw[Je,e0,Oc]
    refine Cc ?_
    refine⟨_,rfl,rfl,_,rfl,?_⟩
    rw[decide_eq_false (show ¬V.int kd=V.int 11 from λz=>by have:=V.int.inj z;lia)]
    refine Cc (Cc ?_)
    refine⟨_,rfl,_,_,rfl,rfl,_,rfl,?_⟩
    rw[decide_eq_true sk]
    exact Ck ⟨_,rfl,(by show 2<=sizeLine;decide),λx hx=>cl (Ag E_) x hx⟩
   .have mv:kd=11:=by lia
    refine⟨_,rfl,_,_,rfl,rfl,_,rfl,?_⟩
    rw[decide_eq_false w8]
    refine Cc (Cc ?_)
    refine⟨_,rfl,rfl,_,rfl,?_⟩
    rw[decide_eq_true (show V.int kd=V.int 11 by rw[mv])]
    cases ak with
    | false =>
      refine Ck ⟨_,rfl,_,rfl,Cc (Cc ?_)⟩
      refine⟨_,rfl,_,_,rfl,rfl,_,rfl,?_⟩
      rw[decide_eq_true sk]
      exact Ck ⟨_,rfl,(by show 2<=sizeLine;decide),λx hx=>cl rf x hx⟩
    | true =>
      refine Ck ⟨_,rfl,_,rfl,Ck ⟨_,rfl,_,_,rfl,rfl,(show(0:Int)<2 by decide),rfl,_,rfl,?_⟩⟩
      refine X7 (λcc=>?_) (λcc=>?_)
      .exact⟨_,rfl,(by show 2<=sizeLine;decide),λx hx=>k x _ (.ask h) (Ai RE (Ag hx)) Ab ⟨q,G,i⟩ λ_ _=>rfl⟩
      .refine⟨_,rfl,_,_,rfl,rfl,_,rfl,?_⟩
       rw[decide_eq_true sk]
       exact Ck ⟨_,rfl,(by show 2<=sizeLine;decide),λx hx=>cl rf x hx⟩
 .have n11:¬11<kd:=by lia
  refine⟨_,rfl,_,_,rfl,rfl,_,rfl,?_⟩
  rw[decide_eq_false n11]
  refine Cc (Cc ?_)
  refine⟨_,rfl,rfl,_,rfl,?_⟩
  rw[decide_eq_false (show ¬V.int kd=V.int 11 from λz=>by have:=V.int.inj z;lia)]
  refine Cc (Cc ?_)
  refine⟨_,rfl,_,_,rfl,rfl,_,rfl,?_⟩
  rw[decide_eq_false sk]
  refine Cc ?_
  have mk:∀{H3:Hp},Bu H2 H3->∀x,H3 x=none->Q (.ref x) (upd H3 x (.BB [.str "make",.int h])):=λ{H3} s3 x hx=>k x _ (.make h) (Ai RE (Ai s3 (Ag hx))) Ab ⟨q,G,i⟩ (λ_ z=>by cases z)
  have rf:Bu H2 H2:=λb o e=>e
  by_cases c2':kd<2
  .refine⟨_,rfl,_,_,rfl,rfl,_,rfl,?_⟩
   rw[decide_eq_true c2']
   exact Ck (Ck ⟨_,rfl,(by show 2<=sizeLine;decide),λx hx=>mk rf x hx⟩)
  .refine⟨_,rfl,_,_,rfl,rfl,_,rfl,?_⟩
   rw[decide_eq_false c2']
   refine Cc ⟨_,rfl,BK _,λr E_=>⟨_,_,.one (.tupP (CA.of (Ag E_ _ _ e1)) (Fw (BC.keep (EI (Ag E_)) t1))),.one (.tupP (CA.of Ab) .nil),Kz (Jfq hs),Kz (λ_ h=>by cases h),_,rfl,?_⟩⟩
   have s3:=Ag (o:=.BB []) E_
   generalize upd H2 r (.BB [])=H3 at s3
   rw[Jat]
   by_cases e0:hs=[]
   .rw[e0]
    exact Ck ⟨_,rfl,(by show 2<=sizeLine;decide),λx hx=>mk s3 x hx⟩
   .have ne:(hs.map NY).isEmpty=false:=by cases hs with
     | nil=>exact absurd rfl e0
     | cons a b=>rfl
    rw[ne]
    refine Cc ?_
    have e1:=s3 _ _ e1
    have t1:=BC.keep (EI s3) t1
    have e2:=s3 _ _ e2
    have r2:Paired (LV H3) bs os:=An (λ_ _ r=>r.keep (EI s3)) r2
    have s13:=Ai RE s3
    clear S2 E_ el hl
    have fC:=ET.mpr e0
    have lmap:(as.map V.ref).length=as.length:=ZA ..
    have YG:(0:Int)<(((as.map V.ref).length:Nat):Int):=by rw[lmap];lia
    have j0:=CN c2 (show(((as.map V.ref).length:Nat):Int)≠0 by lia)
    have j1:=CF c2 YG
    obtain⟨b,hb⟩:=Au (xs:=as) (j:=(c2 % (((as.map V.ref).length:Nat):Int)).toNat) (by rw[lmap] at j0 j1 ⊢;lia)
    obtain⟨tb,vS⟩:=Au (xs:=hs) (j:=(c2 % (((as.map V.ref).length:Nat):Int)).toNat) (by rw[<-las];exact(ZJ hb).1)
    have eb:H3 b=some (.BB (tv tb)):=Ax t1 _ _ _ hb vS
    have vx:tb∈G.hand:=JM.pm.mem_iff.mp (ZP vS)
    have jA:RK (as.map V.ref) (c2 % (((as.map V.ref).length:Nat):Int))=some (.ref b):=Ee j0 (by rw[ZH,hb];rfl)
    refine⟨_,rfl,_,rfl,_,rfl,y1,_,rfl,.inr (CA.of e1),_,_,rfl,rfl,YG,y1,_,_,_,rfl,rfl,CA.of e1,jA,?_⟩
    refine⟨_,rfl,_,rfl,y1,_,rfl,.inr (CA.of e1),_,_,rfl,rfl,⟨YG,by rw[lmap];lia⟩,?_⟩
    clear j0 j1 jA hb vS
    generalize c2 / (((as.map V.ref).length:Nat):Int)=c3
    refine⟨_,rfl,y1,rfl,⟨_,CA.of e1⟩,λnr vc=>?_⟩
    have s4:=Ag (o:=.BJ []) vc
    refine Kq (K:=K) (a:=y1) (xs:=as.map V.ref) (tt:=Jnq) (te:=Ca 0) (caps:=[("_law_h",6)])
     (λj ys Hc=>Bu H3 Hc/\Hc nr=some (.BJ ys)/\∃zs:List (Addr×T2),ys=zs.map (λz=>V.ref z.1)/\zs.length<=j/\∀z∈zs,H3 z.1=some (.BB (tv z.2))/\z.2∈hs/\z.2.1=h)
     ⟨s4,Ab,[],rfl,ZG _,λz hz=>by cases hz⟩ (λj ys Hc _ hc=>⟨CA.of (hc.1 _ _ e1),hc.2.1⟩) ?_ ?_
    .rintro j x' ys Hc N hj ⟨sc,en,zs,rfl,zl,al⟩ j5
     rw[ZH] at hj
     cases bg:as[j]? with
     | none=>rw[bg] at hj;cases hj
     | some aj =>
       rw[bg] at hj
       cases hj
       have og:=(ZJ bg).1
       obtain⟨tj,htj⟩:=Au (xs:=hs) (j:=j) (by rw[<-las];exact og)
       have ej:H3 aj=some (.BB (tv tj)):=Ax t1 _ _ _ bg htj
       refine⟨_,rfl,aj,_,_,_,rfl,rfl,CA.of (sc _ _ ej),rfl,_,rfl,rfl,_,rfl,?_⟩
       refine X7 (λcc=>?_) (λcc=>?_)
       .have cc:V.int tj.1=V.int h:=BU cc
        have cc:=V.int.inj cc
        refine⟨_,rfl,en,A6 (by rw[ZA];lia),j5 _ _ ⟨λb o e=>?_,Ab,zs++[(aj,tj)],by rw[ZF];rfl,by rw[ZE,EC];lia,λz hz=>?_⟩⟩
        .rw[Ad (Am e vc)];exact sc b o e
        .rcases ZI hz with hz|hz
         .exact al z hz
         .rw[ZK hz];exact⟨ej,ZP htj,cc⟩
       .exact j5 _ _ ⟨sc,en,zs,rfl,by lia,al⟩
    .rintro ys H4 ⟨l7,en,zs,rfl,zl,al⟩
     have iY:=Ai s13 l7
     have eb:=l7 _ _ eb
     have e2:=l7 _ _ e2
     have r2:Paired (LV H4) bs os:=An (λ_ _ r=>r.keep (EI l7)) r2
     have al:∀z∈zs,H4 z.1=some (.BB (tv z.2))/\z.2∈hs/\z.2.1=h:=λz hz=>⟨l7 _ _ (al z hz).1,(al z hz).2⟩
     have zl:zs.length<=64:=by rw[lmap] at zl;lia
     clear s4 l7 t1 e1 vc
     have fr:∀{H5:Hp},Bu H4 H5->∀x,H5 x=none->Q (.ref x) (upd H5 x (.BB [.str "free",.int h,.ref b])):=λ{H5} s5 x hx=>k x _ (.free h b) (Ai iY (Ai s5 (Ag hx))) Ab ⟨q,G,tb,i,Ag hx _ _ (s5 _ _ eb),vx⟩ (λ_ z=>by cases z)
     by_cases c5:kd<5
     .refine⟨_,rfl,_,_,rfl,rfl,_,rfl,?_⟩
      rw[decide_eq_true c5]
      refine Ck ⟨_,rfl,_,rfl,_,rfl,_,_,rfl,rfl,aE,_,rfl,(by show 4<=sizeLine;decide),λx hx=>?_⟩
      exact k x _ (.send h (c3 % (m:Int)) b) (Ai iY (Ag hx)) Ab ⟨q,G,tb,i,CN c3 (show(m:Int)≠0 by lia),CF c3 aE,Ag hx _ _ eb,vx⟩ (λ_ z=>by cases z)
     .refine⟨_,rfl,_,_,rfl,rfl,_,rfl,?_⟩
      rw[decide_eq_false c5]
      refine Cc ?_
      by_cases c8:8<kd
      .refine⟨_,rfl,_,_,rfl,rfl,_,rfl,?_⟩
       rw[decide_eq_true c8]
       exact Ck (Ck ⟨_,rfl,_,rfl,(by show 3<=sizeLine;decide),λx hx=>fr (λb o e=>e) x hx⟩)
      .refine⟨_,rfl,_,_,rfl,rfl,_,rfl,?_⟩
       rw[decide_eq_false c8]
       refine Cc ⟨_,rfl,BK _,λr' E_=>⟨_,_,.BJ (DY.of (Ag E_ _ _ en)) (Jfe λz hz=>Ag E_ _ _ (al z hz).1),.BJ (DY.of Ab) .nil,Fi (Jnn zs),Rr,_,rfl,?_⟩⟩
       have s5:=Ag (o:=.BJ []) E_
       generalize upd H4 r' (.BJ [])=H5 at s5
       rw[Je]
       by_cases z0:zs=[]
       .rw[z0]
        exact Ck ⟨_,rfl,_,rfl,(by show 3<=sizeLine;decide),λx hx=>fr s5 x hx⟩
       .rw[isE z0]
        refine Cc ?_
        have s15:=Ai iY s5
        have eb:=s5 _ _ eb
        have e2:=s5 _ _ e2
        have en:=s5 _ _ en
        have r2:Paired (LV H5) bs os:=An (λ_ _ r=>r.keep (EI s5)) r2
        have JQs:=ET.mpr z0
        have kT:(zs.map λz=>V.ref z.1).length=zs.length:=ZA ..
        have fO:(0:Int)<(((zs.map λz=>V.ref z.1).length:Nat):Int):=by rw[kT];lia
        have j0:=CN c3 (show(((zs.map λz=>V.ref z.1).length:Nat):Int)≠0 by lia)
        have j1:=CF c3 fO
        obtain⟨⟨a,ta⟩,ha⟩:=Au (xs:=zs) (j:=(c3 % (((zs.map λz=>V.ref z.1).length:Nat):Int)).toNat) (by rw[kT] at j0 j1 ⊢;lia)
        have jA:RK (zs.map λz=>V.ref z.1) (c3 % (((zs.map λz=>V.ref z.1).length:Nat):Int))=some (.ref a):=Ee j0 (by rw[ZH,ha];rfl)
        obtain⟨ea,hta,near⟩:=al _ (ZP ha)
        have ea:H5 a=some (.BB (tv ta)):=s5 _ _ ea
        have vz:ta∈G.hand:=JM.pm.mem_iff.mp hta
        have near:ta.1=G.num:=by rw[nu];exact near
        have mem:ta∈os.map (·.1):=JM.PM.pm.mem_iff.mpr (sd.ok.hk ta vz near)
        refine⟨_,rfl,_,rfl,_,rfl,nr,_,rfl,.inl (DY.of en),_,_,rfl,rfl,fO,nr,_,_,_,rfl,rfl,DY.of en,jA,?_⟩
        refine⟨_,rfl,_,rfl,y2,a,bs,os,ta,rfl,e2,r2,ea,mem,λhd cs o hl hm wX uL=>?_⟩
        have hld:∀{H6:Hp},Bu H5 H6->∀x,H6 x=none->Q (.ref x) (upd H6 x (.BB [.str "hold",.int h,.ref a,.ref b])):=λ{H6} s6 x hx=>k x _ (.three "hold" h a b) (Ai s15 (Ai s6 (Ag hx))) Ab ⟨q,G,ta,tb,i,Ag hx _ _ (s6 _ _ ea),Ag hx _ _ (s6 _ _ eb),vz,near,.inl ⟨rfl,vx⟩⟩ (λ_ z=>by cases z)
        by_cases c7:kd<7
        .refine⟨_,rfl,_,_,rfl,rfl,_,rfl,?_⟩
         rw[decide_eq_true c7]
         exact Ck (Ck ⟨_,rfl,_,rfl,_,rfl,(by show 4<=sizeLine;decide),λx hx=>hld (λb o e=>e) x hx⟩)
        .refine⟨_,rfl,_,_,rfl,rfl,_,rfl,?_⟩
         rw[decide_eq_false c7]
         refine Cc ⟨_,rfl,BK _,λr6 mI=>⟨_,_,.one (.tupP (CA.of (Ag mI _ _ wX)) (Fw (BC.keep (EI (Ag mI)) uL))),.one (.tupP (CA.of Ab) .nil),Kz (Jfq hl),Kz (λ_ h=>by cases h),_,rfl,?_⟩⟩
         have s6:=Ag (o:=.BB []) mI
         generalize upd H5 r6 (.BB [])=H6 at s6
         rw[Jat]
         by_cases v9:hl=[]
         .rw[v9]
          exact Ck ⟨_,rfl,_,rfl,_,rfl,(by show 4<=sizeLine;decide),λx hx=>hld s6 x hx⟩
         .rw[isE v9]
          refine Cc ?_
          obtain⟨_,a0,hl0,fd0,z64,pmh,_⟩:=JM.PM.at_ _ hm
          have lcs:cs.length=hl.length:=Paired.length uL
          have HR:=ET.mpr v9
          have qW:(cs.map V.ref).length=cs.length:=ZA ..
          have jN:(0:Int)<(((cs.map V.ref).length:Nat):Int):=by rw[qW];lia
          have i0:=CN (c3 / (((zs.map λz=>V.ref z.1).length:Nat):Int)) (show(((cs.map V.ref).length:Nat):Int)≠0 by lia)
          have i1:=CF (c3 / (((zs.map λz=>V.ref z.1).length:Nat):Int)) jN
          obtain⟨cb,vq⟩:=Au (xs:=cs) (j:=(c3 / (((zs.map λz=>V.ref z.1).length:Nat):Int) % (((cs.map V.ref).length:Nat):Int)).toNat) (by rw[qW] at i0 i1 ⊢;lia)
          obtain⟨tc,htc⟩:=Au (xs:=hl) (j:=(c3 / (((zs.map λz=>V.ref z.1).length:Nat):Int) % (((cs.map V.ref).length:Nat):Int)).toNat) (by rw[<-lcs];exact(ZJ vq).1)
          have ec:H5 cb=some (.BB (tv tc)):=Ax uL _ _ _ vq htc
          have zq:RK (cs.map V.ref) (c3 / (((zs.map λz=>V.ref z.1).length:Nat):Int) % (((cs.map V.ref).length:Nat):Int))=some (.ref cb):=Ee i0 (by rw[ZH,vq];rfl)
          have inH:tc∈De G.holds ta:=by rw[Jkk fd0];exact pmh.mem_iff.mp (ZP htc)
          refine⟨(by show 2<=sizeLine;decide),λwl oS=>?_⟩
          have s7:=Ag (o:=.BJ [.str "drop",.str "take"]) oS
          have ewl:(upd H6 wl (.BJ [.str "drop",.str "take"])) wl=some (.BJ [.str "drop",.str "take"]):=Ab
          generalize upd H6 wl (.BJ [.str "drop",.str "take"])=H7 at s7 ewl
          have l6:=Ai s6 s7
          obtain⟨wd,hwd,hw⟩:∃wd:Str,RK [V.str "drop",V.str "take"] (kd-7)=some (.str wd)/\(wd="drop"\/wd="take"):=by
           rcases(show kd=7\/kd=8 by lia) with e|e<;>rw[e]
           .exact⟨"drop",Ee (by decide) rfl,.inl rfl⟩
           .exact⟨"take",Ee (by decide) rfl,.inr rfl⟩
          refine⟨_,rfl,_,_,rfl,rfl,wl,_,_,_,rfl,rfl,DY.of ewl,hwd,?_⟩
          refine⟨_,rfl,?_⟩
          refine⟨_,rfl,?_⟩
          refine⟨_,rfl,?_⟩
          refine⟨_,rfl,?_⟩
          refine⟨_,rfl,nr,_,rfl,.inl (DY.of (l6 _ _ en)),?_⟩
          refine⟨_,_,rfl,rfl,⟨fO,by rw[kT];lia⟩,?_⟩
          refine⟨_,rfl,hd,_,rfl,.inr (CA.of (l6 _ _ wX)),?_⟩
          refine⟨_,_,rfl,rfl,jN,?_⟩
          refine⟨hd,_,_,_,rfl,rfl,CA.of (l6 _ _ wX),zq,?_⟩
          refine⟨(by show 4<=sizeLine;decide),λx hx=>?_⟩
          exact k x _ (.three wd h a cb) (Ai s15 (Ai l6 (Ag hx))) Ab ⟨q,G,ta,tc,i,Ag hx _ _ (l6 _ _ ea),Ag hx _ _ (l6 _ _ ec),vz,near,.inr ⟨hw,inH⟩⟩ (λ_ z=>by cases z)
universe E
universe E K45
universe N FX
open PySem PySem.Spec PyProof.Rows L2
def Jps(K:W.Frag)(D:Addr)(tb:(oH!)->TS)(ts:TS):TS:=λE σ H=>tb (λEV cls _ H'=>∃C,Jnl K D cls C/\ts E EV H') E σ H
universe S
theorem Jma{X:G!}(c9:X.stack=Mf!)(i9:X.env.frame=A! X.env.locals)(hex:X.ex=[])(hg:GU!)(cD:Yl Kx X.mg x D)(hb:∀(AA:v!) (E:V?) (ES:oH!),Yn fZ! ES->QE fZ! body (tb ES))(hs:∀ex,QE (oQ X ex) (qY::jK) ts)(hd:Et!:=by decide) : PS X (.Try body [.ExceptHandler (nI! x np) none (qY::jK) fC] [] [] pos) (Jps Kx D tb ts):=by
 intro AA s σ H E I h;refine wpAny_Try_except (EZ (hb AA (λe s1=>Zj! (noteFrame e X.env) (λ_ s2=>Zj! (setFlight e none) (λ_ s3=>uM! (handleBy e X.env [.ExceptHandler (nI! x np) none (qY::jK) fC]) (SP X AA E) s3) s2) s1) _ ?_ [] s σ H E (Je0 I) h) (λf s1 q=>?_) λe s1 q=>q);· intro aL EV H0 s0 e s' I0 ⟨ex,cls,H',he,xt,⟨C,⟨fE,lB⟩,hE⟩,ho,hga,u,ok⟩;subst he fE;have I1:Inv X AA EV H0 s0:=Jb I0;(have frn:∀b∈NT (Mf!),MM!:=N? (by have:=HO! I1.RL b c9 hb;obtain⟨o,e1,_⟩:=(I1.stack.mem (hk! c9)).2;exact u.free b o e1 this (x!)));(have frg:∀b∈NT (Mf!),¬(Ay! s0.heap.get?/\MM!):=λb hb z=>by obtain⟨o,e1,_⟩:=(I1.stack.mem (hk! c9)).2;rw[e1] at z;cases z.1);have I2:ul!:=I1.cN (ch:=[]) ho u ok hga (Ct! (by simp at hb));(have fl:s'.heap.FunFrames X.base (Mf!):=by have:=I2.stack;rwa [c9] at this);(have hfm:X.A.frames=some (Mf!):=z! I1.ok.frames c9);(have none_:∀b,Ay! s'.heap.get?->Ay! s0.heap.get?/\MM!:=λb q=>by constructor;(.cases q2:s0.heap.get? b with | none=>rfl | some o =>obtain⟨o',e1⟩:=u.there b o q2 Db;rw[q] at e1;cases e1);.cases q2:H' b with | none=>rfl | some o =>obtain⟨ob,e1⟩:=Oh ok q2;rw[q] at e1;cases e1);(have back:∀{h':Heap} (t:Nat),NM (NT (Mf!)) (λb=>Ay! s0.heap.get?/\MM!) s'.heap h'->uJ! EV { s' with heap:=h',toks:=t }:=λ{h'} t as=>by refine I1.cN (s':={ s' with heap:=h',toks:=t }) (ch:=[]) ho ?_ (U7 ok as frn λb z=>z.2) hga (Ct! (by simp at hb));have u':Un (NT X.stack) [] H0 H' s0.heap s'.heap:=u;exact Yr u' as (λb o e1 z=>by rw[e1] at z;cases z.1) (λb o e1 m=>H! c9 m) frn);refine Jmq (base:=X.base) (L:=X.env.locals) hfm fl i9 xt none_ λh1 x1 KL=>?_;have J1:=back s'.toks KL;obtain⟨oe,vs,a0,T,oT,gV,b1,b2,b3,_⟩:=x1.2;refine wpAny_handleBy_cons (codeAny_handlers_test (K5 (X:=oQ X ex) (Jdd J1) hg cD.mg ?_ hd)) (by intro q;cases q);refine Jlm J1.YX cD.ex lB b1 b2 ?_;refine codeAny_handlers_suite (Jmt (s:={ s' with heap:=h1 }) x1 frg λh2 x2 Z'=>?_);have J2:=back s'.toks (KL.trans Z');refine EZ (hs ex AA _ _ _ E (Jdd J2) hE) (λf s5 q=>?_) λ_ _ z=>z.elim;cases f with | next=>obtain⟨t_,H5,J5,q5⟩:=q;exact⟨_,H5,qr!,q5⟩ | brk=>obtain⟨t_,H5,J5,q5⟩:=q;exact⟨_,H5,qr!,q5⟩ | cont=>obtain⟨t_,H5,J5,q5⟩:=q;exact⟨_,H5,qr!,q5⟩ | ret v=>obtain⟨v5,t_,H5,J5,r5,q5⟩:=q;exact⟨v5,_,H5,qr!,r5,q5⟩
 .cases f with | next=>obtain⟨bQ,H1,I1,q1⟩:=q;exact OY ⟨bQ,H1,Jb I1,q1⟩ | brk=>obtain⟨bQ,H1,I1,q1⟩:=q;exact⟨bQ,H1,Jb I1,q1⟩ | cont=>obtain⟨bQ,H1,I1,q1⟩:=q;exact⟨bQ,H1,Jb I1,q1⟩ | ret v=>obtain⟨v1,bQ,H1,I1,r1,q1⟩:=q;exact⟨v1,bQ,H1,Jb I1,r1,q1⟩
universe E
universe E FX
universe N K45
open PySem L2 FX
theorem gSt(g:GG):DQ 2 RZ TQ UV Mc:=Jg6 g.mSt.fn g.T g.mTo.fn g.mTo.bd g.mTo.mt
theorem Jo1(g:GG):FO 3 LI LM BJ! J8:=nX! Jen g.mWSt.fn g.mSt (FX.EJ.aS (gSt g))
theorem gTi(g:GG):DQ 1 RW TL UV Qm:=Jc6 g.mTi.fn g.T
theorem gCa(g:GG):DQ 2 SU UL FB! yE:=Jj1 g.mCa.fn g.T g.mNe g.mAR
theorem gAd(g:GG):DQ 2 TC US FB! Wq:=Jhe g.mAd.fn g.T g.mAR
theorem gWe(g:GG):DQ 3 MC MY AS! Ig:=Jbu g.mWWe.fn g.T g.TW g.mCa (gCa g) g.mAd (gAd g) g.mGi
theorem Jq6(g:GG):DQ 2 MJ M' AS! Ma:=Jgz g.mWPa.fn g.T g.TW g.TP g.mPs g.mPP
theorem gPt(g:GG):FO 3 SD TV NX! yH:=Jjs g.mPa.fn g.T g.mNe g.mQH g.mPR g.mP1
theorem gSd(g:GG):FO 4 MF M_ Nd! P1:=Jgy g.mWSe.fn g.T g.TW g.TP g.mWH g.mPa (gPt g) g.mSp g.mPP
theorem j6(g:GG):DQ 2 MK NA UV Ln:=Zw g.mWLe.fn g.TW g.TP g.mPL
theorem gFr(g:GG):FO 2 SM UE MK! Wn:=Jjx g.mFr.fn g.T g.mQH
theorem gHo(g:GG):FO 3 SK UD EJ! Wk:=Jjw g.mHo.fn g.T g.mNe g.mQH g.mQN
theorem gDr(g:GG):FO 4 SO UH EJ! Wo:=Jjy g.mDr.fn g.T g.mNe g.mQH g.mQN g.mQG
theorem gTa(g:GG):FO 4 RY TN EJ! Wf:=Jjq g.mTa.fn g.T g.mNe g.mQH g.mQN g.mQG
theorem gMk(g:GG):FO 1 eP eW UV Wj:=SC! Jjt g.mM.fn g.T
theorem gCh(g:GG):DQ 2 SS UK UV Wp:=Jhd g.mCl.fn g.T g.Tx g.mR1 g.mLo g.mGb
theorem gWG(g:GG):DQ 2 MQ NF Qm! P2:=Jg3 g.mWGb.fn g.TW g.TP g.mPP
theorem gWC(g:GG):DQ 3 MT NG BJ! Mb:=Jeo g.mWCl.fn g.T g.TW g.mWH g.mCl (gCh g) g.mWGb (gWG g)
theorem gAa(g:GG):DQ 2 MX NK QY! Ih:=Jbw g.mWAa.fn g.T g.TW g.TP g.mPP
theorem gAc(g:GG):DQ 3 MW NJ AS! Gm:=Zy g.mWAc.fn g.T g.TW g.TP g.mTi g.mSt (gSt g) g.mPP
theorem gLh(g:GG):DQ 2 SG T_ HF! yG:=Jjv g.mLH.fn g.T g.Tx g.mLo g.mGb
theorem gLc(g:GG):DQ 3 MM NB AS! Gk:=Zx g.mWLc.fn g.T g.TW g.mLH (gLh g) g.mWGb (gWG g)
theorem gUn(g:GG):DQ 2 RU TJ Jb! K45F.NQ:=K45F.YV g.mUn.fn g.TF g.mR1 g.mRc
theorem gIL(g:GG):DQ 1 SJ UB UV K45F.YO:=K45F.fk g.mIL.fn g.TI g.T.sorted
theorem gIR(g:GG):DQ 3 SH UA UV K45F.U_:=K45F.dE g.mIR.fn g.TI g.mIL (gIL g) g.mUn (gUn g)
theorem gLa(g:GG):DQ 4 MN NC Ob! Nr:=Jbv g.mWLa.fn g.T g.TW g.TP g.TI g.mIR (gIR g) g.mPP
theorem gAn(g:GG):DQ 5 MV NI AS! Ql:=Jjo g.mWAn.fn g.T g.TW g.TI g.mIF g.mIS g.mWAa (gAa g) g.mWLa (gLa g)
theorem gAs(g:GG):FO 3 LK LO BJ! Qk:=Jjn g.mWAs.fn g.T g.TW g.TI g.mWH g.lN g.ti g.xD g.mWAa (gAa g)
theorem gDl(g:GG):FO 6 LJ LN CP! Qj:=Jjm g.mWDe.fn g.TW g.TP g.mPT g.mWWe (gWe g) g.mWPa (Jq6 g) g.mWAc (gAc g) g.mWAn (gAn g) g.mWLc (gLc g)
theorem gDo(g:GG):FO 7 SQ UI H8! Jn7:=Jop g.mDo.fn g.TW ⟨g.mWM,g.mWHo,g.mWDr,g.mWTa,g.mWFr,g.mWSe,g.mWCl,g.mWAs,g.mWDe,PI! (Jg0 g.mWM.fn g.T g.TW g.mWH g.mM (gMk g)).mono,PI! (Jg2 g.mWHo.fn g.T g.TW g.mWH g.mHo (gHo g)).mono,nX! Jg5 g.mWDr.fn g.mDr (gDr g),nX! Jgx g.mWTa.fn g.mTa (gTa g),PI! (Jg4 g.mWFr.fn g.T g.TW g.mWH g.mFr (gFr g)).mono,PI! (gSd g).mono,PI! (FX.EJ.aS (gWC g)).mono,PI! (gAs g).mono,(gDl g)⟩
theorem gDe(g:GG):DQ 4 SR UJ cX! Jfz:=Jjz g.mDe.fn g.T g.TW g.mSu g.mHg g.mWSt (Jo1 g) g.mWLe NK!
theorem pe:A? [Pk!,Pl!] EY! yC:={}
inductive Jiw(vs:C!)(H:Hp)(Q:VK)(E:XK):Prop
 | mk (a:Addr) (ns:j!) (_:vs=[Os]) (_:mH!) (_:gs!) (_:∀(v:Int)(H':Hp),KM->2<=v->Th! v)
theorem j7(g:GG):DQ 1 SV UM a8! Jf0:=Jj0 g.mC1.fn g.T.len
theorem gSh(g:GG):DQ 2 SA TU EY! Jiw:=by
 refine CI! g.mSh.fn.IV pe;obtain⟨a,ns,rfl,hS,hlen,k⟩:=h;refine W!;refine Kx! pe.nd (eI! j7 hr g.mC1.mg g.mC1.fn.kp g.mC1.bd Ah) (wT (Az Ec (E2 (PY! Ah Ah Ah (TN! (Bh C8 (SQ! d!) (Bh Jmi Ah Ah))))) (DB! d!)));refine⟨_,rfl,a,ns,1,rfl,hS,hlen,w?,w?,λv=>?_⟩;refine⟨_,rfl,_,_,rfl,rfl,TX!,_,_,rfl,rfl,⟨w?,w?,w?⟩,_,_,rfl,rfl,Bv! (10 ^ 59),_,_,rfl,rfl,il!,λsl cY=>?_⟩;obtain⟨x,hx⟩:∃x,O? x=Bo! (2+v / 4 % wt!):=z?;have x2:2<=x:=by have:=V.int.inj hx;have e:=CN (v / 4) (show wt!≠0 by decide);lia
 have s1:=h2! ry! cY;have wN:PG! (AP! sl .BJ ry!) sl ry!:=Ab;obtain⟨sh,vU,uQ⟩:∃sh:Int,RK ry! (v % 4)=A! (Op sh)/\2<=sh:=by rw[<-hx];rcases(Ls! (v % 4=0\/v % 4=1\/v % 4=2\/v % 4=3)) with e|e|e|e<;>rw[e];(.exact fy! 2 w?);(.exact fy! 2 w?);(.exact fy! 3 w?);.exact fy! x x2
 exact⟨_,rfl,_,_,rfl,rfl,Bv! 4,sl,_,_,O? sh,rfl,rfl,E8! wN,vU,k sh _ s1 uQ⟩
theorem kX:A? [Cy!,"_law_deed_here","_law_thin"] H8! xY:={}
def xb(m:Nat)(W:EE)(al:S!)(H:Hp)(W':EE)(al':S!)(ys EN:H?)(H':Hp)(dd:Dd):Prop:=(∃u,sP! H u)\/(W'=W/\al'=al/\Gj!/\∃h g b,dd=.send h g b)
inductive Jla(vs:C!)(H:Hp)(Q:VK)(E:XK):Prop
 | mk (p x:Addr) (W:EE) (D:n?) (m n d A B A' B':Nat) (al:S!) (ys:H?) (dd:Dd) (_:dW! MJ!) (_:PH! x sj dd) (_:g?) (_:sK) (_:A4!) (_:d<900) (_:Val W m H dd) (_:pT m A B A' B' dd)
   (_:∀(v:V)(H':Hp)(W':EE)(D':n?)(al':S!)(EN:H?),cS! H' BM! Fx! al' EN->T3!->Tm!->fh!->xb m W al H W' al' ys EN H' dd->Na!)
theorem gTy(g:GG):DQ 8 RV TK H8! Jla:=by
 refine CI! g.mTy.fn.IV kX;obtain⟨p,x,W,D,m,n,d,nA,nB,A',B',al,ys,dd,rfl,ex,S,hn,hB,hd,va,cs,k⟩:=h;refine W!;have vW:Cn 7 _:=hr;refine eH! kX.nd E1 (FQ! (Jma rfl rfl rfl rfl g.T.cNW (λAA E ES hES=>Af (Bf (Jgu (gDo g) vW DQ! g.mDo.mg g.mDo.fn.kp g.mDo.bd hES (Ck! a? d!)))) (λex=>Af (dQ! 2 kX.nd (Or.inl rfl) E1))) (Ar (pv 2)));obtain⟨dx,hp⟩:=S.wa.ob;refine⟨_,rfl,_,rfl,p,x,dx,_,dd,rfl,ex,hp,Jfj W,?_⟩;refine Jh9 (R:=λ_ W' al' EN H'=>xb m W al H W' al' ys EN H' dd) S hn hB hd va cs (λv W' D' al' EN H' r fp wi JY eS=>?_) (λ_ _ _ _ _ e=>J! AH!) ?_;.exact KF (k _ H' W' D' al' EN wi JY fp eS r)
 .rintro⟨h,g',b,rfl⟩;exact DR! NW (x? g.sNW) _ (k _ H W D al ys (S.upn cs.1 (AV (E' ..) cs.2)) (λb o e _ _=>e) (Ct! (pU! Nm!)) rfl (TD ⟨rfl,rfl,rfl,_,_,_,rfl⟩))
theorem jG(g:GG):DQ 2 ME MZ BJ! (OW! V8):=FX.EJ.no (nX! Jgw g.mWTi.fn g.mTi (FX.EJ.aS (gTi g)))
theorem Jl4:A? CP! CP! Nu:={}
inductive Jl2(vs:C!)(H:Hp)(Q:VK)(E:XK):Prop
 | mk (p:Addr) (n:Int) (W:EE) (_:SZ!) (_:IR) (_:∃l∈W.LG,MS!) (_:(Ml! W.FK H4!/\∀(x e:Addr)(H':Hp),KM->Nq! x [.bl false,F? e]->Nq! e []->DW!)\/∃y,B4 (kvsOf W.FK) H4!=A! Hh!/\QD! (KM->Nq! x [.bl true,F? y]->DW!))
theorem Jkb{ls:k!}{n:Int}(h:∃l∈ls,MS!):∃y,Zw! ls H4! y:=by obtain⟨l,hl,e⟩:=h;rw[Jq];cases q:ls.find? m4! with | none=>exact absurd e (Ge! (BH.mp q l hl)) | some v=>exact z?
theorem Jo2(g:GG):DQ 1 MO ND CP! Jl2:=by
 refine CI! g.mWIn.fn.IV Jl4;obtain⟨p,n,W,rfl,S,h1,k⟩:=h;refine W!;have hu:=I?;obtain⟨dx,hp⟩:=S.ob;refine KT! (Ym! pf! Jej) (FQ! (ns! pf! (mR! E1 (Ce Ae))) (mR! E1 N4!));obtain⟨y1,e1⟩:=Jkb h1;refine n2! CW g.TW.cl g.TW.nI (Nq W) W.iq (kL! S.iq);rw[e1];refine Cc (n2! CW g.TW.cl g.TW.nF (Qd W) W.fi (kL! S.fi));rcases k with⟨e2,k⟩|⟨y,e2,k⟩;.rw[e2];refine Ck (lV! (D5! ⟨Bc!,EZ!⟩));have s1:=Ag (o:=.BB []) he;have s2:=Vt! (.bl false) (F? e) hx;exact k x e _ (λb o z=>Bn! s2 s1 z) Ab (X! s2 Ab)
 .rw[e2];refine Cc ⟨_,rfl,p,CW,dx,_,_,rfl,hp,g.TW.cl,g.TW.nF,Qd W,_,rfl,W.fi,_,rfl,S? e2 (kL! S.fi),Bc!,EZ!⟩;exact k x _ (Ag hx) Ab
def L_:LL->PyData
 | .w l=>i5! l.kind l.s l.g (Kr! (NY l.th) l.x)
 | .ask s g k u=>i5! Rs s g (Kr! (T! k) u)
 | .HQ s g k u _ _=>i5! BD! s g (Kr! (T! k) u)
 | .lt s g ts=>i5! Cz! s g a1!
theorem IA.body{H:Hp}{EF:k!}{y:dO!}{z:LL}(h:bV!):∃kind s g a,G2! y.2 (a4! (T! y.1) Os)/\∀H' q,p?->Nq! q [Ak! kind,T! s,T! g,Os]->FL K H' (Y! q) (L_ z):=by cases z with | w l=>obtain⟨a,b,e1,e2,e3⟩:=h;exact qA! (wm! e nA! (Jh (X! k.BB e3))) | ask s g n u=>obtain⟨a,e1,e2⟩:=h;exact qA! (mX! e nA!) | HQ s g n u t S=>obtain⟨⟨a,e1,e2⟩,_⟩:=h;exact qA! (mX! e nA!) | lt s g ts=>obtain⟨a,as,e1,e2,th⟩:=h;exact qA! (wQ! e (Iz! (CA.of nA!) (Fw (th.keep k))))
theorem Jqh:A? Yy! Yy! Wv:={}
def Jk8:TT:=c4! jd
inductive Jlb(vs:C!)(H:Hp)(Q:VK)(E:XK):Prop
 | mk (p:Addr) (n:Int) (W:EE) (al:S!) (l1 l2:k!) (t:Addr) (_:SZ!) (_:IR) (_:VZ! W.ls al) (_:kP!) (_:∀H',KM->Gs! t)
theorem gLt(g:GG):DQ 3 SE TY Yy! Jlb:=by
 refine CI! g.mLe.fn.IV Jqh;obtain⟨p,n,W,al,l1,l2,t,rfl,S,lw,el,k⟩:=h;refine W!;refine k9! (Az Ec (oB! Jk8 [(JT!,1)] (Dz (QC! a? g.TW.cl g.mWLe.mt NK! hr g.mWLe.bd)) Ht! d!) Ah);obtain⟨dx,hp⟩:=S.ob;have lnd:o? W.ls.map:=S.po.nd;refine⟨_,rfl,p,dx,_,rfl,hp,EN!,p,W,rfl,S,λla H1 mL ela s1=>l1! la ela (λpl VL=>?_)⟩;have lw:=Bq lw (EI s1);have s2:=FI! VL;refine Fa (K:=K) (a:=la) (p:=pl) (xs:=W.ls.map Dh!) (tt:=Jk8) (te:=Ca 0) (caps:=[(JT!,1)]) (σ:=[AV!,iL!]) (QZ! (ys=TJ! (l1.length<i) (Jc! t)/\PM! H2 pl/\Bu H1 H2)) (BO! Ab s2) (el! (Mo! h.2.2 ela h.2.1)) ?_ ?_;.rintro i v ys H2 N' hi ⟨ey,ep,sm⟩ hN;rw[ZH] at hi;cases hy:W.ls[i]? with | none=>rw[hy] at hi;cases hi | some y =>rw[hy] at hi;cases hi;obtain⟨z,hz⟩:=eQ! al (HD! (y! lw) hy);obtain⟨kind,s',g',a,j9,_⟩:=(Ax lw i y z hy hz).body;refine⟨_,rfl,y.2,_,0,_,rfl,rfl,Nb! sm j9,Wm!,_,rfl,rfl,_,rfl,?_⟩;(have bx:pc (W.ls[l1.length]?) n t:=Iy! el (FU (ZG _)) Nat.sub_self);by_cases c:i=l1.length;(.subst c;rw[bx] at hy;cases hy;rw[Y1!];rw[AB (DN _)] at ey;subst ey;refine Ck (kr! ep (Gq! (0<sizeLine)) ⟨be (AF (IS _)),Ab,Dl!⟩);rw[hY! VL];exact Am! sm);.have ne:¬O? y.1=O? n:=X? c (by have z:=V.int.inj z;(have a1:(W.ls.map (·.1))[i]?=A! n:=by rw[ZH,hy,<-z];rfl);(have a2:(W.ls.map (·.1))[l1.length]?=A! n:=CS! bx);obtain⟨p1,g1⟩:=ZJ a1;obtain⟨p2,g2⟩:=ZJ a2;exact(FN lnd).mp (g1.trans g2.symm));rw[iU!];refine nK! ⟨?_,ep,sm⟩;rw[ey];by_cases c2:l1.length<i;(.rw[AF c2,Fg!]);.rw[AB c2,Ei!]
 .rintro ys H2 ⟨ey,ep,sm⟩;rw[ZA,AF (VJ! el ZE BM)] at ey;subst ey;exact⟨pl,_,0,_,rfl,rfl,E8! ep,Wm!,k _ (Ai s1 sm)⟩
theorem Joz{a b c d:Str}{k:NameKind}{cl:BX!}{y:Str}(hd:q2!)(h:Lg! (oa! (c,NameKind.globalImplicit) (d,k)) (oa! (c,NameKind.globalImplicit) (d,k))):Ib! :=Om! (by simp only[CB,DD,JA] at hp;rcases hp with rfl|rfl|rfl|rfl;(.rcases hk with hk|hk<;>cases hk);(.rcases hk with hk|hk<;>cases hk);(.rcases hk with hk|hk<;>cases hk);.exact hd)
theorem Jq5{a b c d e:Str}{k1 k2 k3:NameKind}{cl:BX!}{y:Str}(hc:aS!)(hd:q2!)(he:eh! e)(h:Lg! [Vk!,Vl!,S6!,Tr!,(e,k3)] [Vk!,Vl!,S6!,Tr!,(e,k3)]):Ib! :=Om! (by simp only[CB,DD,JA] at hp;rcases hp with rfl|rfl|rfl|rfl|rfl;(.rcases hk with hk|hk<;>cases hk);(.rcases hk with hk|hk<;>cases hk);(.exact hc);(.exact hd);.exact he)
theorem Jqk:A? Yz! Yz! Ww:={}
inductive Jn8(vs:C!)(H:Hp)(Q:VK)(E:XK):Prop
 | mk (p l:Addr) (W:EE) (al new:S!) (VE L:k!) (_:dW! P8!) (_:IR) (_:d9! l L.map MI!) (_:VZ! W.ls al) (_:W.ls=VE++L) (_:VZ! L new) (_:hE!) (_:W3! (KM->Rep K H' (Y! r) (D8! (new.map L_))->Gs! r))
def Jnv:TE:=uN (xX K) (Jk9 Jlb [] E0 (ce! Sf! Kq!)) (xn (tC (a! 1))) V4
theorem gBo(g:GG):DQ 4 SW UN Yz! Jn8:=by
 refine CI! g.mBo.fn.IV Jqk;obtain⟨p,l,W,al,new,VE,L,rfl,S,el,lw,o9,pn,zL,k⟩:=h;refine W!;refine Ig! (u7! Jnv jP! (H3! 1) JJ! (λy h=>Joz z? h) JL! (Ms Jf1 (vy! gLt hr g.mLe.mg g.mLe.fn.kp g.mLe.bd d! a?) (Mr Ah) W9));refine S5! l el Hf!;have s0:=K0!;refine si! l (L.map MI!) Jnv jP! [AV!,Rx!] (QZ! (Wb!/\Jn!/\W0!/\aG! H2 (new.take i).map L_)) (Au! Ab s0 L!) (el! (Mo! h.2.1 el h.1));.rintro i v ys H2 N hi ⟨er,sm,ez,pr⟩ hN;refine Ba!;rw[ZH] at hi;cases hy:L[i]? with | none=>rw[hy] at hi;cases hi | some y =>rw[hy] at hi;cases hi;have vh:=CK! hy;obtain⟨z,hz⟩:=eQ! new (S? hu! vh);have kt:=EI sm;obtain⟨kind,s',g',a,j9,rep⟩:=(Ax (Bq pn kt) i y z hy hz).body;obtain⟨L1,L2,eL⟩:=HV (ZP hy);refine⟨_,rfl,_,rfl,p,y.1,W,al,VE++L1,L2,y.2,rfl,FF! sm,Bq lw kt,by rw[o9,eL,AK],λH3 s3=>?_⟩;refine⟨1,rfl,y.2,_,rfl,Nb! s3 j9,Gq! (¬(nY! 5 1=0/\HT.IB 5 5 none=5)),AY!⟩;have s4:=Bp! Uj! hq;have s5:=Ai s3 s4;have bX:=EI s5;have o8:=E! s5 er;refine HV! o8 (Ry! ez) (A2! Ab Dl! lY!);(·(have hb:b≠r:=G3! E_);rw[BT!];exact j3! sm);·(have ku:mW! (js! q Uj!) (js! q Uj!) q:=re o8);rw[JU,hz,ZF];refine cP! bX.trans ((rep _ q bX Ab).keep ku)
 .rintro ys H2 ⟨er,sm,ez,pr⟩;rw[ZA,hu!,BL] at pr;exact k r H2 sm (.BJ (DY.of er) pr)
def KY(H:Hp)(r:Addr)(ds:Eb!):Prop:=∃xs,I3! r .BJ xs/\o1! xs ds
theorem KY.rep{H:Hp}{r:Addr}{ds:Eb!}(h:KY H r ds):Hq! (Y! r) (D8! ds):=by obtain⟨xs,e,p⟩:=h;exact LX! e p
theorem KY.keep{H H':Hp}{r:Addr}{ds:Eb!}(h:KY H r ds)(k:∀v,HM! r v->L? H' r v)(kt:p?):KY H' r ds:=by obtain⟨xs,e,p⟩:=h;exact⟨xs,k _ e,An (λ_ _ z=>z.keep kt) p⟩
theorem Jql:A? cn! cn! xj:={}
inductive Jn9(vs:C!)(H:Hp)(Q:VK)(E:XK):Prop
 | mk (h n u:Int) (m:Nat) (_:vs=[pt,T! AR!,T! n,T! u]) (_:m<=60) (_:W3! (C5!->KM->pj! (Cp m h n u).map->Gs! r))
def Jny:TE:=Yv (U3! Rs Sf! Kq! (Yv (ce! (Ca 2) (Ca 3))))
theorem Jo4(g:GG):DQ 1 SY UP cn! Jn9:=by
 refine CI! g.mAs.fn.IV Jql;obtain⟨h,n,u,m,rfl,zm,k⟩:=h;refine W!;refine Ig! (ah! Jny [(Vm!,0),(JT!,2),("_law_turn",3)] (OH! d!) (Au! rfl rfl trivial) (Jq5 z? z? z? h) ⟨Aw!,Aw!,Aw!,trivial⟩ (Ce (TP! a? (QB! R! P?))));refine n5! Hf!;rw[CQ];have s0:=K0!;refine sp! m Jny [(Vm!,0),(JT!,2),("_law_turn",3)] [Go h,Fk!,iL!,Go u] (QZ! (Wb!/\W0!/\Jn!/\aG! H2 (Cp i h n u).map L_)) ⟨Ab,rfl,s0,L!⟩;.rintro i ys H2 N hi ⟨er,ez,sm,pr⟩ hN;refine Ba!;refine⟨_,rfl,_,rfl,_,rfl,_,rfl,Bc!,λa ha=>vB! 4 AY!⟩;have s3:=Bp! lk! ha;have e3:DI! H2 a lk! a lk!:=Ab;generalize Cw! H2 a lk!=H3 at s3 e3 hq;have s4:=Bp! r9! hq;have e4:DI! H3 q r9! q r9!:=Ab;refine HV! (iK! s4 er) (Ry! ez) (A2! Ab lY! Dl!);(·(have hb:b≠r:=G3! E_);rw[BT!];exact iK! s4 (X! sm e));.generalize Cw! H3 q r9!=H4 at s4 e4;have ar:=iK! s4 er;have e34:=Ee! e3;(have ku:mW! H4 H4 q:=iw!);(have e:Cp KE h n u=Cp i h n u++[pN! D2! h]:=by unfold Cp;rw[DM,ZF];rfl);rw[e,ZF];refine cP! (EI (Ai s3 s4)).trans ?_;rw[Int.zero_add] at e4;have rp:FL K H4 (Y! q) (L_ (D2! h l! n u)):=mX! e4 e34;exact rp.keep ku
 .rintro ys H2 ⟨er,ez,sm,pr⟩;exact k r H2 E_ sm (jp er pr)
structure FR where
 h:Int
 a:Addr
 t:Int
 x:Addr
 S:HS
structure KC where
 fd:Addr
 sd:Addr
 fl:X3!
 sl:CT!
 cnt:Int
 dv:V
def LQ(O:KC):k?:=[UT!,UU!,p4!,(I! Gk!,O.dv)]
def ck(l:X3!):k?:=l.map λr=>(EI! r.h,Q? r.a)
def jZ(l:CT!):k?:=l.map (TT! (O? r.2))
structure EX(H:Hp)(o:Addr)(O:KC):Prop where
 ob:QK! o LQ O
 f:QK! O.fd ck O.fl
 s:QK! O.sd jZ O.sl
 st:c8! (G2! r.a [T! r.t,F? r.x]/\Hr! r.x r.S)
 nf:CQ! O.fl.map VD!
 ns:o? O.sl.map
 ie:o≠O.fd
 os:o≠O.sd
 fs:O.fd≠O.sd
def Do(o:Addr)(O:KC):M!:=[o,O.fd,O.sd]
theorem EX.keep{H H':Hp}{o:Addr}{O:KC}(x:Ik!)(k:uB! (b∈Do o O) JQ! H')(kt:p?):LZ! O :=⟨o! k (hG!) x.ob,o! k (hG!) x.f,o! k (hG!) x.s,ii qU!,x.nf,x.ns,x.ie,x.os,x.fs⟩
theorem EX.same{H H':Hp}{o:Addr}{O:KC}(x:Ik!)(s:KM):LZ! O:=nO! x.keep (s b u e) s
theorem Hj{α β:Type}[DecidableEq β]{k:NQ!}{r:α}:∀{l:U!},Mm! k->r∈l->l.find? (λz=>w! (k z=k r))=A! r
 | [],_,h=>Dn!
 | a::l,nd,h=>by obtain⟨n1,n2⟩:=Bd!;rw[BP];rcases ZM h with e|h;(.rw[<-e,Y1!]);.have ne:¬k a=k r:=X? n1 (Jx! (BE h));rw[iU!];exact Hj n2 h
def aT(sl:CT!)(h:Int):Int:=bF! sl.find? (MO! (r.1=h))
def VJ(sl:CT!)(fl:X3!):X3!:=XB! fl.filter (r.t=aT sl r.h)
theorem Jl3{sl:CT!}{h:Int}(m:h∈C? sl.map):B4 (jZ sl) (Rr!:Key)=A! (Op (aT sl h)):=by unfold jZ;rw[Sp! Ri! gp!];unfold aT;cases e:XB! sl.find? (r.1=h) with | none =>obtain⟨r0,ZZ,e0⟩:=Dr!;have:=pv!;simp[e0] at this | some r=>rfl
theorem Jm3{fl:X3!}{r:FR}(nd:CQ! fl.map VD!)(hr:r∈fl):Zv! ck fl (EI! r.h) r.a:=by unfold ck;rw[Sp! hI! (Ra! r.a),Hj (k:=hI!) nd hr];rfl
theorem Jex{H4 H:Hp}{d:Addr}{o:Obj}{u:HO}(k:BD H4 H)(ef:Cx! Dt!)(n4:∀o u,H4 d≠A! Dt!):BD H4 (upd H d u) :=⟨λb xs e=>Pp! (λy=>by have:=Am! k.BB;rw[y,ef] at this;cases this) (Am! k.BB),λb ob v e=>by by_cases y:b=d;(.rw[y] at e;exact BK! e (n4 _ _));.rw[Ad y];exact o! k.FQ _ e⟩
theorem kf:A? [uD!,"_law_states","_law_g"] gC! yB:={}
inductive Jn6(vs:C!)(H:Hp)(Q:VK)(E:XK):Prop
 | mk (o:Addr) (O:KC) (_:vs=[F? o]) (_:Ik!) (_:c8! (r.h∈Rq!)) (_:O.fl.length<=60) (_:Rk! Dx! Ix!) (_:∀(x:Addr)(as:M!)(ts:D!)(H':Hp),ju! lp! LQ! (OZ! Dx! Ix!))
theorem K2(O:KC):Zv! LQ O (KU! FL!) O.fd:=by unfold LQ B4;simp[BP]
theorem Rq(O:KC):Zv! LQ O (KU! JS!) O.sd:=by unfold LQ B4;simp only[BP];rw[NU!];simp
theorem N6(O:KC):B4 (LQ O) (KU! Lq!)=A! (Op O.cnt):=by unfold LQ B4;simp only[BP];rw[NU!,NU!];simp
theorem Z2(O:KC):B4 (LQ O) (KU! Gk!)=A! O.dv:=by unfold LQ B4;simp only[BP];rw[NU!,NU!,NU!];simp
theorem eZ{H:Hp}{o:Addr}{O:KC}(e:QK! o LQ O){k:Str}{v:V}(h:CN! (B4 (LQ O) (Sum.inr k:Key))):DS H o (CC! k) Km!:=S? h (DS.k (k:=Sum.inr k) e)
theorem gFo(g:GG):DQ 3 SN UG gC! Jn6:=by
 refine CI! g.mFo.fn.IV kf;obtain⟨o,O,rfl,S,hs,zf,fF,k⟩:=h;refine W!;have hu:=I?;refine Kx! kf.nd Ei (Ac (N7! Zr LD! (H2! kf.nd) (Af (LJ! (VN! C6 (Af! (Br hu LD! R!)) (Br hu LD! R!)) (L5! d! R! (Af! (Br hu LD! R!)))))) (QE.YB (wT (PQ! (gUn g) hr g.mUn.mg g.mUn.fn.kp g.mUn.bd (ca d!)))));intro d hd;have s1:=H5! hd;have e1:Ts! (AP! d .dK []) (VJ O.sl (O.fl.take 0)).map nw!:=Ab;generalize GL! H d=H1 at s1 e1;have S1:=IF!;have uv:d≠O.fd:=λz=>by rw[z,S.f] at hd;cases hd
 have oN:d≠o:=λz=>by rw[z,S.ob] at hd;cases hd
 have gF:d≠O.sd:=λz=>by rw[z,S.s] at hd;cases hd
 refine⟨_,rfl,o,_,rfl,LN! S1.ob K2,O.fd,_,rfl,S1.f,λob=>?_⟩;refine n6! Vd O.fd ob ((∃u2,σ=[Rv!,Rw!,u2])/\L? H' O.fd (.FQ ob (.dK (ck O.fl)))/\Ts! H' (VJ O.sl (O.fl.take i)).map nw!/\BD H1 H'/\∀b u,JA! H1->b≠O.fd->b≠d->JA! H') ⟨z?,Ab,i! uv e1,BD.upd (ca! S1.f),λb u e n _=>Nj!⟩ (λi σ H' _ z=>z.2.1);.rintro i kk v σ H2 hi ⟨⟨u2,rfl⟩,ef,ed,kt,fr⟩;unfold ck at hi;rw[ZH] at hi;cases dN:O.fl[i]? with | none=>rw[dN] at hi;cases hi | some r =>rw[dN] at hi;cases hi;have mr:=ZP dN;have eo:=fr _ _ S1.ob S1.ie oN.symm;have es:=fr _ _ S1.s S1.fs.symm gF.symm;have ea:=HN! (S1.st r mr).1;(have gf:aB! O.fd r.h (L4! r.a):=S? (Jm3 S.nf mr) (J! (DR! _ (J! r.h) (iC! ef) rfl)));(have gs:aB! O.sd r.h (some (a! (aT O.sl r.h))):=S? (Jl3 (hs r mr)) (DS.k (k:=I5! r.h) es));(have dJ:JH! O.fl.take=O.fl.take i++[r]:=M0! dN);(have zt:SZ (VJ O.sl (O.fl.take i)).map nw!<sizeLine:=by have h1:=AO (λr:FR=>w! (r.t=aT O.sl r.h)) (O.fl.take i);(have h2:SE! O.fl.take<=O.fl.length:=Xe!);rw[ZA];exact A6 (by unfold VJ;lia));(have YW:r.h∉(VJ O.sl (O.fl.take i)).map VD!:=λz=>by have h1:r.h∈(O.fl.take i).map VD!:=QV! z;have h2:=S.nf;rw[<-EB (i+1) O.fl,dJ,ZF,ZF] at h2;exact(AM.mp (YF! h2)).2.2 _ h1 _ Db rfl);refine⟨_,rfl,o,_,rfl,LN! eo K2,_,rfl,O.fd,_,rfl,gf,r.a,_,0,_,rfl,rfl,YJ!,rfl,_,rfl,o,_,rfl,LN! eo Rq,_,rfl,O.sd,_,rfl,gs,rfl,_,rfl,?_⟩;by_cases c:r.t=aT O.sl r.h;(.rw[mN!];refine Ck ⟨_,rfl,o,_,rfl,LN! eo K2,_,rfl,O.fd,_,rfl,gf,r.a,_,1,_,rfl,rfl,YJ!,rfl,_,rfl,_,rfl,d,_,rfl,FZ.k (k:=I5! r.h) ed zt,?_⟩;refine⟨z?,i! uv.symm ef,?_,kt.trans (BD.upd (ca! ed)),λb u e n1 n2=>i! n2 (fr b u e n1 n2)⟩;rw[Ab,dJ,q? K6 k hI! f (Ra! r.x) YW];unfold VJ;rw[CU,Z3!,GC]);.rw[Dp! (Yu! V.int.inj)];refine Cc ⟨z?,ef,?_,kt,fr⟩;rw[dJ];unfold VJ at ed ⊢;rw[CU,Z4!,GC,AE];exact ed
 .rintro σ H2 ⟨⟨u2,rfl⟩,ef,ed,kt,fr⟩;unfold ck at ef ed;rw[ZA,BL] at ed;refine le! (Kz! H2 O.fd ck O.fl) O.fd ef (λug v z=>?_);(.have z:HM! O.fd (.FQ ug v):=z;rw[S.f] at z;cases z);(have n4:∀o u,H1 O.fd≠A! Dt!:=λo u z=>by rw[S1.f] at z;cases z);have VF:=Jex kt ef n4;(have gT:Ts! (upd H2 O.fd (.dK (ck O.fl))) Dx! nw!:=i! uv ed);(have sm:BQ! (upd H2 O.fd (.dK (ck O.fl))):=λb u e=>by have e':=Am! s1;by_cases z:b=O.fd;(.rw[z,Ab,<-S.f,<-z];exact e);.rw[Ad z];exact fr b u e' z λz2=>vp! z2 hd);refine ax! d (Dx! (UI! r.x)) ⟨H! AN gT,AY!⟩ ?_ ?_;(.obtain⟨r,hr,e⟩:=ZN hq;rw[<-e];exact(S1.st r H7!).2.keep VF);(.rw[show K45F.GB (Dx! (UI! r.x))=Dx! Ix! by unfold K45F.GB;rw[AN];rfl];exact fF);.intro x as ts H' s2 ex th fo;rw[show K45F.GB (Dx! (UI! r.x))=Dx! Ix! by unfold K45F.GB;rw[AN];rfl] at fo;exact k x as ts H' (Ai sm s2) ex th fo
theorem xT(g:GG):DQ 3 LI LM BJ! (OW! J8):=FX.EJ.no (Jo1 g)
theorem Fz{H:Hp}{d:Addr}{kvs:k?}{o:HO}(e:S3!):BD H (Pt! d):=BD.upd (ca! e)
theorem EX.BI{H:Hp}{o:Addr}{O:KC}{g t:Int}{a xs:Addr}{S:HS}(x:Ik!)(YW:g∉mv!)(ea:Kt! (nZ! t))(st:Hr! xs S) : EX (rC! O.fd ck O.fl T0) o { O with fl:=O.fl++[⟨g,a,t,xs,S⟩] }:=by
 have kt:BD H (rC! O.fd ck O.fl T0):=Fz x.f;refine⟨i! x.ie x.ob,?_,i! x.fs.symm x.s,F1!,?_,x.ns,x.ie,x.os,x.fs⟩;.rw[Ab];unfold ck;rw[cx! hI! (Ra! r.a) ⟨g,a,t,xs,S⟩ YW]
 .rcases Eh! with hr|hr;(.exact qU!);.rw[ZK hr];exact⟨HN! ea,st.keep kt⟩
 .show CQ! (O.fl++[(⟨g,a,t,xs,S⟩:FR)]).map VD!;rw[ZF];exact QL! x.nf x! (λu hu v hv z=>YW (DU! (u=g) (z.trans (ZK hv))▸hu))
theorem EX.yg{H:Hp}{o:Addr}{O:KC}{g t:Int}(x:Ik!)(YW:g∉Rq!) : EX (rC! O.sd jZ O.sl (Op t)) o { O with sl:=O.sl++[(g,t)] }:=by
 have kt:BD H (rC! O.sd jZ O.sl (Op t)):=Fz x.s;refine⟨i! x.os x.ob,i! x.fs x.f,?_,ii qU!,x.nf,?_,x.ie,x.os,x.fs⟩;.rw[Ab];unfold jZ;rw[cx! Ri! gp! (g,t) YW]
 .show Hy! (O.sl++[((g,t):Int×Int)]);rw[ZF];exact QL! x.ns x! (λu hu v hv z=>YW (DU! (u=g) (z.trans (ZK hv))▸hu))
inductive t8(O O':KC)(g u tick:Int)(S:HS):Prop
 | one (a x:Addr) (e:u=1) (h:O'={ O with fl:=O.fl++[⟨g,a,tick,x,S⟩] })
 | two (e:u≠1) (h:O'={ O with sl:=O.sl++[(g,tick)] })
theorem cz:A? [Cy!,uD!,dx!,JT!,VB!,"_law_sender",dC!,dD!] p0! xi:={}
inductive Jp5(vs:C!)(H:Hp)(Q:VK)(E:XK):Prop
 | mk (p o t:Addr) (W:EE) (O:KC) (num s g n u:Int) (q:Addr) (G:BZ) (hs:D!) (os:EQ) (rs:V!) (_:vs=[y?,F? o,PV!]) (_:IR) (_:Ik!) (_:ai! num Rs) (_:NS!) (_:Tells G hs os rs) (_:u=1->g∉mv!) (_:u≠1->g∉Rq!) (_:O.fl.length<=60) (_:O.sl.length<=60)
   (_:∀(r:Addr)(O':KC)(H':Hp),C5!->LZ! O'->KX! (t8 O O' g u G.AU MG!) (∀b v,hw!->b≠O.fd->b≠O.sd->Pe! v) p? (KY H' r [L_ (wl! n)]) r)
theorem gAC(g:GG):DQ 4 TH UT p0! Jp5:=by
 refine CI! g.mAc.fn.IV cz;obtain⟨p,o,t,W,O,num,s0,g0,n,u,q,G,hs,os,rs,rfl,S,O1,al,i,tl,n1,n2,z1,z2,k⟩:=h;refine W!;have hu:=I?;have JR:Kd!:=M?;refine Ae! (Ac (Ri R! (Jm rfl (Bk (Yk! cz.nd) (Bk (Kh! cz.nd) (Bk (JB! 5 cz.nd) (Bk (JB! 6 cz.nd) (Bk (JB! 7 cz.nd) Gd))))))) (FQ! (Bj (Si! (Af! C3!)) (Af (L5! (Br hu d! Be) B0! (QB! (sD! B0!) (QW! g.mWSt.mt xT hr g.mWSt.bd B0!)))) (iT! (Br hu d! Be) B0! (sD! B0!))) (Ar (E2 (ca (Ce (PY! Be B0! WP C3!)))))));obtain⟨a,et,ea⟩:=al;obtain⟨dx,hp⟩:=S.ob;refine⟨_,rfl,t,_,rfl,Cv!,rfl,_,_,rfl,_,_,rfl,_,_,rfl,_,_,rfl,_,_,rfl,rfl,?_⟩;have fin:∀(O':KC)(H1:Hp),EX H1 o O'->t8 O O' g0 u G.AU MG!->(∀b v,hw!->b≠O.fd->b≠O.sd->Cj! H1 v)->BD H H1->Jn0 (Jn1 (Cv (Yv (U3! BD! (Ca 6) (Ca 5) (Ca 7))) Ia)) { nx:=λ_ H'=>Pu!,rt:=Q } [AV!,Rv!,Ru!,Go num,i7! Rs,Go s0,Go g0,EW!] H1:=by intro O' H1 o1 ac fr kt;refine pZ! _ rfl il! (λx hx=>vB! 1 Hf!);have s1:=Bp! rI! hx;have e1:DI! H1 x rI! x rI!:=Ab;generalize Cw! H1 x rI!=H2 at s1 e1 E_;have s2:=h2! (Jc! x) E_;have RE:=Tj!;(have nr:C5!:=by have h1:=Cm s1 E_;(have ef:dE!/\dF!:=by cases ac with|one _ _ _ h=>rw[h];exact BP!|two _ h=>rw[h];exact BP!);cases e:H r with | none=>rfl | some v =>by_cases c1:r=O.fd;(.rw[c1,<-ef.1,o1.f] at h1;cases h1);.by_cases c2:r=O.sd;(.rw[c2,<-ef.2,o1.s] at h1;cases h1);.rw[fr r v e c1 c2] at h1;cases h1);refine k r O' _ nr (o1.same RE) ac (λb v e n1 n2=>E! RE (fr b v e n1 n2)) (kt.trans (EI RE)) (jp Ab (K? ?_ L!));exact mX! (X! s2 e1) (X! RE (X! kt.BB ea))
 refine sO! a YJ!;by_cases c:u=1;.rw[mN!];refine Ck (v5! g0 (I! ⟨q,G,i,q,G,rfl,GP!,?_⟩));refine v5! g0 (I! ⟨q,G,i,q,G,hs,os,rs,rfl,GP!,tl.z1,tl.z2,tl.z3,tl.pm,tl.pw,tl.PM,tl.pr,tl.wr,λx H1 s1 st=>⟨Bc!,FW!⟩⟩);have s2:=Bp! lQ! hy;have e2:DI! H1 y lQ! y lQ!:=Ab;generalize Cw! H1 y lQ!=H2 at s2 e2;have RE:=Tj!;have O2:=O1.same RE;refine⟨_,rfl,o,_,rfl,LN! O2.ob K2,_,rfl,O.fd,_,rfl,FZ.k (k:=I5! g0) O2.f (by unfold ck;rw[ZA];exact L6!),?_⟩;exact fin _ _ (O2.BI (n1 c) e2 (st.sta.keep (EI s2))) (.one y x c rfl) (λb v e n1 _=>i! n1 (Am! RE)) ((EI RE).trans (Fz O2.f))
 .rw[Dp! (Yu! V.int.inj)];refine Cc (v5! g0 (I! ⟨q,G,i,q,G,rfl,GP!,?_⟩));refine⟨_,rfl,o,_,rfl,LN! O1.ob Rq,_,rfl,O.sd,_,rfl,FZ.k (k:=I5! g0) O1.s (by unfold jZ;rw[ZA];exact L6!),?_⟩;exact fin _ _ (O1.yg (n2 c)) (.two c rfl) (λb v e _ n2=>VV! n2) (Fz O1.s)
theorem Jhg(O:KC)(c:Int):dj! (LQ O) (KU! Lq!) c=LQ { O with cnt:=c }:=by unfold putK LQ;rw[AF (x!)];simp only[AI,DW];rw[AB ZV,AB ZV,AF trivial,AB ZV]
theorem Jhf(O:KC)(v:V):putK (LQ O) (KU! Gk!) v=LQ { O with dv:=v }:=by unfold putK LQ;rw[AF (x!)];simp only[AI,DW];rw[AB ZV,AB ZV,AB ZV,AF trivial]
theorem EX.ups{H:Hp}{o:Addr}{O:KC}(x:Ik!)(c:Int)(v:V):EX (kj! { O with cnt:=c,dv:=v }) o { O with cnt:=c,dv:=v }:=by have kt:BD H (kj! { O with cnt:=c,dv:=v }):=Fz x.ob;exact⟨Ab,i! x.ie.symm x.f,i! x.os.symm x.s,ii qU!,x.nf,x.ns,x.ie,x.os,x.fs⟩
theorem YD:A? [uD!,dx!,MH!,JT!,VB!,"_law_sender",dC!,dD!,"_law_lets","_law_g","_law_lying"] qX! xh:={}
def kM(o:Addr)(H H':Hp):Prop:=(∀b v,hw!->b≠o->Pe! v)/\p?
theorem kM.none{o r:Addr}{O:KC}{H H':Hp}(f:mj!)(x:LZ! O)(h:FM H' r):C5!:=by cases e:H r with | none=>rfl | some v =>by_cases c:r=o;(.rw[c,x.ob] at h;cases h);.rw[f.1 r v e c] at h;cases h
inductive Jp4(vs:C!)(H:Hp)(Q:VK)(E:XK):Prop
 | mk (o t:Addr) (O:KC) (num s g n u:Int) (m:Nat) (_:vs=[F? o,PV!,T! AR!]) (_:Ik!) (_:ai! num BD!) (_:m<=60)
   (_:Gw!=AR!->W3! (KX! C5! (LZ! F5!) mj! (pj! (Cp m g n 2).map) r))
   (_:oO!->bm!->W3! (KX! C5! (LZ! F5!) mj! (KY H' r []) r))
   (_:oO!->¬bm!->(c8! (r.h∈Rq!))/\O.fl.length<=60/\Rk! Dx! Ix!/\∀(r x:Addr)(as:M!)(ts:D!)(H':Hp),C5!->LZ! LV!->mj!->KX! lp! LQ! (OZ! Dx! Ix!) (pj! (Ga m g ts).map) r)
theorem gAN(g:GG):DQ 4 S_ UQ qX! Jp4:=by
 refine CI! g.mAn.fn.IV YD;obtain⟨o,t,O,num,s0,g0,n,u,m,rfl,O1,al,zm,ka,kb,kc⟩:=h;refine W!;have hu:=I?;have HC:ap:=M?;refine Ae! (Ac (Ri d! (Jm rfl (Bk (Yk! YD.nd) (Bk (Kh! YD.nd) (Bk (JB! 5 YD.nd) (Bk (JB! 6 YD.nd) (Bk (JB! 7 YD.nd) Gd))))))) (Y3! (L5! a? Be (H1! LD!)) (VU! (VN! C6 LD! R!) (i4! Jo4 HC g.mAs.mg g.mAs.fn.kp g.mAs.bd B0! R! (Af! C3!) Ah)) (LJ! (Yc! LD! (Bh Gu Ah R!)) (Ar (E2 Ae))) (L5! a? Be (PQ! (gFo g) hr g.mFo.mg g.mFo.fn.kp g.mFo.bd WS!)) (CJ! 8 YD.nd LW!) (eD! (OH! R!) (iO! 9 YD.nd) (GR! 10 YD.nd (cu! g.T.tuple (oB! Jns [("_law_g",9)] (Gq LD!) Ht! d!)) (rW! KD! (ca (Ce (PY! Be B0! (pv 9) Rl!)))))) (V0! 8)));obtain⟨a,et,ea⟩:=al;refine⟨_,rfl,t,_,rfl,Cv!,rfl,_,_,rfl,_,_,rfl,_,_,rfl,_,_,rfl,_,_,rfl,rfl,?_⟩;refine⟨_,rfl,o,_,rfl,LN! O1.ob N6,_,_,rfl,rfl,_,rfl,o,_,rfl,FZ.k (k:=Sum.inr Lq!) O1.ob (Gq! (4<sizeLine)),?_⟩;rw[Cf! (dj! (LQ O) (KU! Lq!) (Gw!)=LQ F5!) (Jhg O _)];have O2:EX (kj! F5!) o F5!:=O1.ups (Gw!) O.dv;have f2:kM o H (kj! F5!):=XN! Nj! (Fz O1.ob);generalize upd H o (.dK (LQ F5!))=H2 at O2 f2;refine⟨_,rfl,o,_,rfl,eZ O2.ob (N6 _),_,rfl,rfl,_,rfl,?_⟩;by_cases c1:Gw!=AR!;.rw[MT! (AM! c1)];refine Ck ⟨_,rfl,_,rfl,_,rfl,a,_,0,_,rfl,rfl,Nb! f2.2.BB ea,rfl,g0,n,2,m,rfl,zm,λr H' E_ sm rp=>?_⟩;exact ka c1 r H' (f2.none O2 E_) (O2.same sm) (XN! (Ef! (f2.1 b v e n)) (A5! f2.2.trans sm)) rp
 .rw[Dp! (JF! c1 V.int.inj)];refine Cc ⟨_,rfl,o,_,rfl,eZ O2.ob (N6 _),_,rfl,_,_,rfl,rfl,Al! w? w?,_,_,rfl,rfl,_,rfl,?_⟩;by_cases c2:bm!;(.rw[EM! c2];refine Ck (lV! Hf!);have sm:=K0!;exact kb c1 c2 r _ (f2.none O2 E_) (O2.same sm) (XN! (Ef! (f2.1 b v e n)) (A5! f2.2.trans sm)) (jp Ab L!));.rw[Ax! c2];obtain⟨k1,k2,k3,k4⟩:=kc c1 c2;refine Cc ⟨_,rfl,o,_,rfl,O2,k1,k2,k3,λx as ts H3 s3 ex th fo=>?_⟩;have O3:=O2.same s3;refine IT! o rfl (FZ.k (k:=Sum.inr Gk!) O3.ob (Gq! (4<sizeLine))) ?_;rw[Cf! (putK (LQ F5!) (KU! Gk!) (Y! x)=LQ LV!) (Jhf _ _)];have O4:EX (WJ! H3 LV!) o LV!:=O3.ups (Gw!) X5!;have vC:BD H3 (WJ! H3 LV!):=Fz O3.ob;have f4:kM o H (WJ! H3 LV!):=XN! (i! n (F7! (f2.1 b v e n))) ((f2.2.trans (EI s3)).trans vC);have g8:=E! vC.BB ex;have cU:=JY! vC th;generalize Kz! H3 o LQ LV!=H4 at O4 f4 g8 cU;refine lV! Hf!;have s5:=K0!;have e5:PG! (PK! H4 r []) r []:=Ab;generalize ZF! H4 r=H5 at s5 e5;(have zE:ts.length<=60:=by have nd:ts.Nodup:=X7! (λ{a b} (h:IY a b) (z:a=b)=>oZ!) fo.pw;have:=Gv nd (sB ((fo.mem t).mp ht).1);rw[ZA] at this;exact AV this k3.rz);refine n5! ?_;rw[CQ];refine Oj (lo:=0) (n:=m) (λi σ H'=>∃(u9 iT:Ar!)(ys:C!),σ=[Rv!,Ru!,Fk!,Go num,i7! BD!,Go s0,Go g0,EW!,hg!,u9,iT]/\uK! H'/\W0!/\Bu H4 H'/\aG! H' (Ga i g0 ts).map L_) ⟨_,_,[],rfl,e5,rfl,s5,L!⟩ ?_ ?_;(.rintro i σ H6 hi ⟨u9,iT,ys,rfl,er,ez,sm,pr⟩;rw[Ir! Z0!];have O6:=O4.same sm;have ex6:=Ef! g8;have ZW:=B8! sm cU;refine⟨_,rfl,o,_,rfl,eZ O6.ob (Z2 _),x,rfl,D? (d? ex6),AY!⟩;refine Tc (K:=K) (b:=OV!) (caps:=[("_law_g",9)]) hq F! (CA.of ex6) ZW (λH7 a7 t7 Q' jY ha ht qq=>?_) λH7 bs jY ep tb=>?_;(.refine⟨_,rfl,a7,_,0,O? t7.1,rfl,rfl,d? ha,rfl,_,rfl,rfl,_,rfl,?_⟩;rw[show WF! t7.1 l!=Av! t7.1 l! by by_cases z:t7.1=l!;(.rw[z];simp);.rw[decide_eq_false z,Ax! (λy=>z (by injection y))]];exact qq);refine Nx! q ep (λx8 hx8=>?_);have s8:=TB! bs.map hx8;have e8:kK! H7 x8 bs.map x8 bs.map:=Ab;have tb8:=B8! s8 tb;have uT:=Ai jY s8;generalize ia! H7 x8 bs.map=H8 at s8 e8 tb8 uT;have er8:=E! uT er;refine⟨_,rfl,Ey! er8,_,rfl,_,rfl,_,rfl,il!,FW!⟩;have s9:=Bp! rR! hy;have e9:DI! H8 y rR! y rR!:=Ab;generalize Cw! H8 y rR!=H9 at s9 e9;have s69:=Ai uT s9;have er9:=E! s9 er8;refine cr! r er9 (Gh! ez);(have ku:mW! H9 H9 y:=re er9);refine⟨_,_,ys++Jc! y,rfl,Ab,lY!,λb v e=>?_,?_⟩;(·(have hb:b≠r:=G3! E_);rw[BT!];exact Jm! s69 sm);·(have e:Ga (i+1) g0 ts=Ga i g0 ts++[.lt g0 l! (ts.filter OV!)]:=by unfold Ga;rw[DM,ZF];rfl);rw[e,ZF];refine cP! (EI s69).trans ?_;have rp:FL K H9 Hh! (L_ (.lt g0 l! (ts.filter OV!))):=wQ! e9 (ll! s9 e8 (UP! s9 tb8));exact rp.keep ku);.rintro σ H6 ⟨u9,iT,ys,rfl,er,ez,sm,pr⟩;exact KF (k4 r x as ts H6 (f4.none O4 E_) (O4.same sm) (XN! (Ef! (f4.1 b v e n)) (A5! f4.2.trans sm)) (X! sm g8) (UP! sm cU) fo (jp er pr))
universe E K45
universe N FX
open PySem PySem.Spec PyProof.Rows L2
universe S
variable {X:Cx Kx}
inductive Jok(K:W.Frag)(neg:Bool)(x y:V)(H:Hp)(Q:VK):Prop
 | mk (b l:Addr) (tb:T2) (as:M!) (ts:D!) (_:x=Uf) (_:y=P8!) (_:PP) (_:HH! l SR!) (_:A9!) (_:at! (if neg then Ha! dN! else w! dN!))
theorem Jbb{AA:v!}{σ:L2.St}{H:Hp}{s:Shared}(hu:IH!){l b:Addr}{tb:T2}{as:M!}{ts:D!}(I:K!)(hb:PP)(hl:CA Kx H l SR!)(th:A9!) : s.heap.IsTuple l Je!/\∀y,y∈Je!->SeqAt.EqAt X.A.in1 s y FN! (bY H tb y):=by
 obtain⟨its,rv,it,_⟩:=I.tuple hl;have ei:=Ud rv;subst ei;refine⟨it,FW!⟩;have hy:y∈a6!:=by simpa using hy
 obtain⟨a,ha,rfl⟩:=ZN hy;obtain⟨j,hj⟩:=DA.mp ha;obtain⟨t,ht⟩:=wY! ts KV!;exact Jdn (FA! Fs!) I (Ax th j a t hj ht) hb
theorem N5(hu:IH!):N1! Mg! (Jok Kx true):=by intro AA s σ H x y v u Q I rx ry h;obtain⟨b,l,tb,as,ts,rfl,rfl,hb,hl,th,q⟩:=h;cases rx;cases ry;obtain⟨a1,a2⟩:=Jbb hu I hb hl th;refine SeqAt.notIn_tupleAt Oe! a1 a2 au!;rw[VK! ((as.map Value.ref).toArray.any (bY H tb)=gJ! Oe!),Yj th];exact q
universe E
universe E FX
universe N K45
open PySem L2 FX
def Bs(os:EQ)(ts:D!):EQ:=XB! os.filter (r.1∉ts)
def Eo(hs:D!)(ls:EQ):D!:=hs++ls.flatMap Cm!
theorem Om{α β:Type}[DecidableEq β]{k:NQ!}{b:Fy! β}{x:β}(hb:Tk b x):ga! ((l.filter (JF! b k)).find? (λz=>w! (k z=x))=l.find? λz=>w! (k z=x))
 | []=>rfl
 | a::l=>by have ih:=Om (k:=k) hb l;by_cases c:b (k a)=true;(.rw[Z3!,BP,BP,ih]);.rw[Z4!,BP,ih];have ne:¬k a=x:=X? c (Jx! hb);rw[iU!]
theorem Se{α β:Type}{k:NQ!}{b:Fy! β}:ga! ((l.filter (JF! b k)).map k=(l.map k).filter b)
 | []=>rfl
 | a::l=>by have ih:=q? Se k k b b l;rw[AI];by_cases c:b (k a)=true;(.rw[Z3!,EG c,AI,ih]);.rw[Z4!,EH c,ih]
theorem Jef{G:BZ}{os:EQ}{ts:D!}(h:ou!):Rows Qv! (Bs os ts):=by
 have e1:jf! (Bs os ts).map (os.map (·.1)).filter:=q? Se k (SX! r.1) b WW! os;have e2:jf! (G0 G ts).AG.map Zs!:=q? Se k (λr:T2×Int=>r.1) b WW! G.AG;refine⟨ga e1 e2 (h.pm.filter _),XQ! (h.pw.sublist EU),AY!⟩;obtain⟨hq,hb⟩:=AD.mp hq;obtain⟨a1,a,hl,a2,a3⟩:=h.at_ q hq;refine⟨?_,a,hl,?_,a3⟩;.rw[<-a1];exact Om (k:=λr:T2×Int=>r.1) (b:=WW!) hb G.AG
 .rw[<-a2];exact Om (k:=λr:T2×Addr×List T2=>r.1) (b:=WW!) hb G.holds
theorem Jal{G:BZ}{hs:D!}{os:EQ}{rs:V!}{ts:D!}(tl:Du!)(ke:OT!)(nk:NO!)(t:T2):LB!=w! (t∈Oo!):=by
 have hi:LB!=true↔t∈Oo!:=by unfold Bn Eo;rw[Bool.or_eq_true,decide_eq_true_iff,LY,IT,BG];refine or_congr (tl.pm.mem_iff.symm) Fj!;(.rintro⟨q,hq,ht⟩;have hq:q∈G0! G.holds.filter Hd!:=hq;obtain⟨hq,hb⟩:=AD.mp hq;have m1:q.1∈C? os.map:=s8! tl.PM.pm.mem_iff.mpr ke (BE hq);obtain⟨r,hr,er⟩:=ZN m1;obtain⟨_,a,hl,a2,_,a4,_⟩:=tl.PM.at_ r hr;have eq:=Hj (k:=λz:T2×Addr×List T2=>z.1) nk hq;rw[er] at a2;rw[eq] at a2;have e3:q=(q.1,a,hl):=ZO a2;refine⟨r,Ek! hr (H! er hb),a4.mem_iff.mpr ?_⟩;(have e4:FS=hl:=AM! e3);rw[<-e4];exact BU ht);.rintro⟨r,hr,ht⟩;obtain⟨hr,hb⟩:=AD.mp hr;obtain⟨_,a,hl,a2,_,a4,_⟩:=tl.PM.at_ r hr;have m2:=AW a2;exact⟨(r.1,a,hl),Ek! m2 hb,decide_eq_true (a4.mem_iff.mp ht)⟩
 by_cases c:t∈Oo!;.rw[IA!,hi.mpr c]
 .rw[GG!];cases e:LB! with | false=>rfl | true=>exact ME! hi.mp e c
def Gc(hs:D!)(ls:EQ)(rs:V!):V!:=G0! rs.filter (q.1∈Eo hs ls)
def F8(hs:D!)(ls:EQ)(rs:V!):V!:=rs.filter λq=>Ha! (q.1∈Eo hs ls)&&w! Kp!
theorem Jfo{G:BZ}{hs:D!}{os:EQ}{rs:V!}{ts:D!}(tl:Du!)(ke:OT!)(nk:NO!):Told Qv! hs JI! bL!:=by have e:(PA! Ft!)=At (q.1∈Oo!):=funext λq=>Jal tl ke nk q.1;refine⟨tl.pm,tl.pw,Jef tl.PM,?_,iM! tl.wr.sublist⟩;show(rs.filter _).Perm (G.AJ.filter λq=>Ft!);rw[e];exact tl.pr.filter _
theorem Jfd{G:BZ}{hs:D!}{os:EQ}{rs:V!}{ts:D!}(tl:Du!)(ke:OT!)(nk:NO!):Cd ol rs=F8 hs JI! rs:=by unfold Cd F8;rw[List.filter_filter];refine GN λq _=>?_;rw[Jal tl ke nk,Bool.and_comm]
theorem Sa{α β:Type}{f:NQ!}:∀{l m:U!},l.map f=m.map f->(∀a∈l,∀b∈m,f a=f b->a=b)->l=m
 | [],[],_,_=>rfl
 | [],_::_,h,_=>Dn!
 | _::_,[],h,_=>Dn!
 | a::l,b::m,h,k=>by rw[AI,AI] at h;injection h with h1 h2;rw[k a Gy! b (Ai!) h1,Sa h2 λx hx y hy=>k x (Aj! hx) y iH!]
theorem Told.one{G:BZ}{hs mH:D!}{os rS:EQ}{rs rs':V!}(a:Du!)(b:Told G mH rS rs'):hs=mH/\os=rS/\rs=rs':=by
 have asy:∀x y:T2,IY x y->IY y x->False:=λx y h1 h2=>P5 x (Sh h1 h2);refine GM (Rf a.pw b.pw λt=>a.pm.mem_iff.trans b.pm.mem_iff.symm) ?_;.refine Sa (f:=SX! r.1) (Rf a.PM.pw b.PM.pw λt=>a.PM.pm.mem_iff.trans b.PM.pm.mem_iff.symm) λx hx y hy e=>?_;have e:x.1=y.1:=e;obtain⟨x1,_,hl,x2,_,x3,x4⟩:=a.PM.at_ x hx;obtain⟨y1,_,jx,y2,_,y3,y4⟩:=b.PM.at_ y hy;rw[e] at x1 x2;rw[y1] at x1;rw[y2] at x2;have z1:y.2.1=HK!:=qv! x1;have z2:jx=hl:=Wu! (qv! x2);subst z2;exact Prod.ext e (Prod.ext z1.symm (Rf x4 y4 λt=>x3.mem_iff.trans y3.mem_iff.symm))
 .refine List.Perm.eq_of_pairwise (le:=λx y:T2×Int=>IY x.1 y.1) (λx y _ _ h1 h2=>(asy _ _ h1 h2).elim) (EA.mp a.wr) (EA.mp b.wr) (a.pr.trans b.pr.symm)
theorem WI.DJ{H H':Hp}{p:Addr}{W:EE}{D:n?}{m n d A B:Nat}{al:S!}{ys:H?}(x:g?)(f:T3!):p?:=by
 have no:xL (Gr!->((∃xs,o=.BB xs)\/∃ob u,o=.FQ ob u)->CR!/\IN!):=λb o e c=>by refine⟨AX!,AX!⟩;(.obtain⟨o',e',h1,h2⟩:=x.wa.some_at z;rw[e] at e';cases e';rcases c with⟨xs,c⟩|⟨ob,u,c⟩;(.exact h1 _ c);.exact E! h2 c);.obtain⟨y,hy,hb⟩:=SM!;obtain⟨o',e',h1,_,h2⟩:=(x.at_ y hy).has hb;rw[e] at e';cases e';rcases c with⟨xs,c⟩|⟨ob,u,c⟩;(.exact h1 _ c);.exact E! h2 c
 exact RC! (f a _ e (no a _ e (AD! (JN! xs))).1 (no a _ e (AD! (JN! xs))).2) (λa o u e=>f a _ e (no a _ e (TD (Bq! u rfl))).1 (no a _ e (TD (Bq! u rfl))).2)
theorem tP{A B:TS}{D:Ends}{σ:L2.St}{H:Hp}(R:GB!)(h1:∀nx,(∀EV H',R EV H'->nx EV H')->A { D with nx:=nx } σ H)(h2:∀EV H',R EV H'->B D EV H'):Jnz A B D σ H:=h1 _ h2
theorem xS(g:GG):DQ 6 LJ LN CP! (OW! Qj):=FX.EJ.no (gDl g)
theorem LU:A? [Cy!,dx!,JT!,VB!,"_law_sender",dC!,dD!,fn!,dr!,fo!,"_law_tick","_law_left",dG!,"_law_thing","_law_out",cq!,"_law_stays","_law_backs",uC!] it! xk:={}
def Jnr:TT:=c4! (Jok K true)
def Jno:TT:=c4! (xW false)
def Jnx:TE:=Yv (U3! Bg! Sf! (RP (Tv K) wc! uZ!) Kq!)
inductive Jp1(vs:C!)(H:Hp)(Q:VK)(E:XK):Prop
 | mk (p t:Addr) (W:EE) (D:n?) (m n d A B A' B':Nat) (al a b:S!) (ys:H?) (l1 l2:k!) (num s g:Int) (ts:D!) (_:Fn!) (_:g?) (_:sK) (_:A4!) (_:N9!) (_:FY! n3!) (_:Lc!) (_:cA! (.lt s g ts)) (_:Ld!) (_:Id!) (_:Ic!)
   (_:∀(y:Addr)(H':Hp)(W':EE)(D':n?)(L:k!)(bs:T?),WI H' p W' D' m BM! Fx! A' B' (m?++QO!) ys->cz!->T3!->KX! (um! ys) fh! K2! LE! y)
theorem Ky{α β:Type}{R:GQ!}:∀{x:U!} {y:Aq!} {l:U!} {m:Aq!},Paired R (x++l) (y++m)->x.length=y.length->L7! l m
 | [],[],_,_,h,_=>h
 | [],_::_,_,_,_,e=>AL! e
 | _::_,[],_,_,_,e=>AL! e
 | _::x,_::y,_,_,h,e=>by cases h with | cons _ h=>exact Ky (x:=x) (y:=y) h (Nat.succ.inj e)
theorem Jnd{z:LL}(h:∀l,z=.w l->l.kind=Z?\/g7!\/g6!\/J9!):(L_ z).canLay0=true/\(L_ z).depth<=20:=by cases z with | w l =>have t1:(NY l.th).canLay0=true:=(Pz l.th).1;refine Ja! (by unfold L_;simp[PyData.depth,PyData.depthAll,NY]);show(PyData.tuple [Ak! l.kind,T! l.s,T! l.g,Kr! (NY l.th) l.x]).canLay0=true;(rcases h l rfl with e|e|e|e<;>(rw[e];simp only[PyData.canLay0,PyData.canLayAll0,t1,H_,HZ];decide +kernel)) | ask s g k u=>exact⟨by unfold L_;simp only[PyData.canLay0,PyData.canLayAll0,H_,HZ];decide +kernel,by unfold L_;simp[PyData.depth,PyData.depthAll]⟩ | HQ s g k u t S=>exact⟨by unfold L_;simp only[PyData.canLay0,PyData.canLayAll0,H_,HZ];decide +kernel,by unfold L_;simp[PyData.depth,PyData.depthAll]⟩ | lt s g ts =>obtain⟨h1,h2⟩:=tN (V2 ts);refine Fj!;(.unfold L_;simp only[PyData.canLay0,PyData.canLayAll0,h1,H_,HZ];decide +kernel);.unfold L_;simp only[PyData.depth,PyData.depthAll];lia
theorem Tn{l:S!}(h:∀z∈l,∀k,z=.w k->Lr! Z?\/Lr! Cd!\/Lr! Bg!\/Lr! wE):bz! l.map L_:=Fi λd hd=>by obtain⟨z,hz,rfl⟩:=ZN hd;exact Jnd (h z hz)
theorem So{hs:D!}:∀{ls:EQ},(∀r∈ls,r.2.2.length<=64)->Cq! Eo hs ls (hs.length+64*ls.length)
 | [],_=>by unfold Eo;simp
 | r::ls,h=>by have ih:=q? So hs hs ls ls ae!;have:=Eq! r;unfold Eo at *;rw[B_,ZE,ZE,BM];rw[ZE] at ih;lia
theorem Je3{hs:D!}{ls:EQ}{r:Gt!}:Eo hs (ls++[r])=Eo hs ls++SL:=by unfold Eo;rw[BY,B_,HH,AE,AK]
theorem Zm{H H':Hp}{a:Addr}{r:Bi!}(x:RecAt H a r)(k:p?):RecAt H' a r:=by obtain⟨ka,e1,e2⟩:=x;exact⟨ka,j2!,TE!⟩
theorem gLC(g:GG):DQ 7 SF TZ it! Jp1:=by
 refine CI! g.mLc.fn.IV LU;obtain⟨p,t,W,D,m,n,d,nA,nB,A',B',al,a,b,ys,l1,l2,num,s0,g0,ts,rfl,S,hn,hB,el,es,p1,p2,p3,cA,cB,k⟩:=h;refine W!;have hu:=I?;have JR:Kd!:=M?;have eC:Cn 3 _:=M?;have d_:Cn 4 _:=M?;refine Ae! (Ac (Ri d! (Jm rfl (Bk (H2! LU.nd) (Bk (NY! 3) (Bk (Kh! LU.nd) (Bk (iO! 5 LU.nd) (Bk (iO! 6 LU.nd) Gd))))))) (Y3! (Ri (Ao (pl:=_) a? g.TW.cl g.mWSt.mt (xT g) eC g.mWSt.bd L! A7 (ca WP)) (qB! (NY! 7) (NY! 8) (NY! 9))) (CJ! 10 LU.nd (sD! WP)) (Fx (i:=11) (tt:=Jnr) (te:=Ca 0) (caps:=[(dD!,6)]) LU.nd rfl rfl rfl rfl (ST! 8) rfl ZV rfl ZV rfl JJ! Jp! JL! ZV (fL! (N5 (Hr hr)) Ht! d! rfl) Vr!) (dQ! 12 LU.nd (Or.inr rfl) (kt! Yi g.Tx.list C3!)) (eD! (H3! 11) (qB! (NY! 13) (NY! 14) (NY! 15)) (Df! (Lj CG JC JB R5 (pv 12) (ca (pv 15))))) (CJ! 16 LU.nd (cu! g.T.tuple (Dm (tt:=Jno) (te:=Ca 0) (caps:=[(dG!,12)]) rfl (ST! 9) rfl ZV rfl ZV rfl JJ! Jp! JL! ZV (fL! (Xf (Hr hr)) Ht! d! rfl) Vr!))) (FM! (Fx (i:=17) (te:=Jnx) (caps:=[(dC!,5),(dG!,12)]) LU.nd rfl rfl rfl rfl (ST! 9) rfl ZV rfl ZV rfl (id! trivial) (λy h=>FX.qL z? z? h) ⟨Aw!,Aw!,trivial⟩ ZV (VO! (Dq (cv (N2 (Aw (Ph (Hr hr)) Ht! R! rfl) (Mm (VN! Ro Ht! Ah)))))) (VO! (Ce (TP! (Af! Ht!) a?)))) (CJ! 18 LU.nd (QW! g.mWDe.mt xS hr g.mWDe.bd R!)) (qK! (Yd! (sD! WP) (H1! Rl!)) (QW! g.mWSt.mt xT eC g.mWSt.bd WP) (Ce (Ji! C3! (ks! Di g.T.tuple (pv 11)) (pv 16))) N3) (iy! (eI! gBo d_ g.mBo.mg g.mBo.fn.kp g.mBo.bd (pv 18)) (pv 17) N3) (V0! 18))));obtain⟨a0,pI,et,bt,dM⟩:=on! (UW H t num s0 g0 ts);obtain⟨sP,g01,F,sF,fD,ht⟩:=S.lt s0 g0 ts (hl! es);obtain⟨⟨q,G⟩,hi⟩:=vK! g0.toNat (Gh! S.wg.wl.len);have i:JF W g0 q G:=XO! sP;obtain⟨sd,nu⟩:=S.wg.num i.2;have gd:=KF! S.wg.wl.good i.2;obtain⟨hs,os,rs,JM⟩:=gd.told;obtain⟨dx,hp⟩:=S.wa.ob;refine⟨_,rfl,t,_,rfl,Cv!,rfl,_,_,rfl,_,_,rfl,_,_,rfl,_,_,rfl,_,_,rfl,rfl,?_⟩;refine w6! g0 S.wa (I! ⟨q,G,i,q,G,hs,os,rs,rfl,i.at S.wa,gd.h2,gd.o2,gd.r2,JM.pm,JM.pw,JM.PM,JM.pr,JM.wr,λx H1 s1 st=>?_⟩);obtain⟨y1,y2,y3,as,bs,ds,ex,e1,t1,e2,r2,⟨ob,e3,pl⟩,r3⟩:=st;refine sv! x (d? ex);have S1:=IF!;obtain⟨FC,HM⟩:=S1.wa.ob;refine⟨_,rfl,p,FC,_,rfl,HM,EN!,_,rfl,p,g0,W,rfl,S1.wa,I! ⟨q,G,i,q,G,rfl,i.at S1.wa,?_⟩⟩;have lo:=JM.PM.pm.length_eq;have lr:=JM.pr.length_eq;have lh:=JM.pm.length_eq;have uy:=y! r2;have rj:=y! r3;have z1:=gd.h2;have z2:=gd.o2;have z3:=gd.r2;rw[ZA,ZA] at lo;have wo:=E! s1 bt;have nY:=B8! s1 dM;clear hp HM ex;refine JW! y2 (d? e2) (λlf ve=>?_);have s2:=FI! ve;refine Kq (K:=K) (a:=y2) (xs:=bs) (tt:=Jnr) (te:=Ca 0) (caps:=[(dD!,6)]) (λj ys Hc=>Bu H1 Hc/\PM! Hc lf/\ys.length<=j/\E4! (LV Hc) ys (Bs (os.take j) ts)) ⟨s2,Ab,AC,L!⟩ (λj ys Hc _ hc=>⟨Nb! hc.1 e2,hc.2.1⟩) ?_ ?_;.rintro j v zs Hc N hj ⟨sc,en,zl,pr⟩ hN;have jy:=Yf!;obtain⟨r,E_⟩:=kR! os uy;obtain⟨av,uH,RG,cs,rfl,ev,g9,eh,rF⟩:=A5! (Ax r2 j v r hj E_).keep sc;have rv:LV Hc (Y! av) r:=⟨av,uH,RG,cs,rfl,ev,g9,eh,rF⟩;(have dJ:F6! os.take=os.take j++[r]:=M0! E_);refine⟨_,rfl,av,_,0,_,rfl,rfl,Rz!,rfl,_,rfl,uH,a0,r.1,pI,ts,rfl,rfl,g9,Nb! sc wo,B8! sc nY,_,rfl,?_⟩;by_cases c:r.1∈ts;(.rw[e?,IA!];refine nK! (A2! sc en B!);rw[dJ];unfold Bs;rw[CU,Z4!,GC,AE];exact pr);.rw[e?,GG!];(have ku:JR! Hc Hc lf (zs++Jc! av):=re en);refine Ck (kr! en L6! (A2! hF! Ab (g4! (zs.length+1<=j+1))));(.rw[Ni! ve];exact Am! sc);.rw[dJ];unfold Bs;rw[CU,Z3!,GC];exact wZ! (h.keep ku) (rv.keep ku)
 rintro ls H2 ⟨RE,wV,zlf,rR⟩;rw[uy,BL] at rR;rw[uy] at zlf;refine IT! y1 rfl (I6! CA.of (X! RE e1)) (λhl hhl=>?_);have s3:=LA! as.map hhl;have ehl:ES! (Ly! H2 hl as.map) hl as.map:=Ab;generalize OK! H2 hl as.map=H3 at s3 ehl;have lz:∀r∈Bs os ts,r.2.2.length<=64:=ii (by obtain⟨_,_,jx,_,h1,h2,_⟩:=JM.PM.at_ r H7!;have:=h2.length_eq;lia)
 have ll:ls.length=(Bs os ts).length:=y! rR;refine JW! lf (eB! s3 wV) ?_;refine ag! lf ls (λj σ H'=>∃(uF uE uD:Ar!)(cs:M!),σ=[AV!,Ru!,Go num,i7! Cz!,Go s0,Go g0,i? a0,i? y1,i? y2,i? y3,Go G.AU,i? lf,i? hl,uF,uE,uD,none,none,none]/\Bu H2 H'/\ui! hl cs.map/\BC H' cs (Eo hs ((Bs os ts).take j))) ⟨_,_,_,as,rfl,s3,ehl,by rw[IK];show E! BC (hs++[]);rw[AE];exact B8! (Ai RE s3) t1⟩ (λj σ H' _ h=>by obtain⟨_,_,_,_,_,h,_⟩:=h;exact eB! h wV);.rintro j v σ H4 hj ⟨uF,uE,uD,cs,rfl,s4,mh,cU⟩;have jy:=Yf!;obtain⟨r,E_⟩:=kR! (Bs os ts) ll;obtain⟨av,uH,RG,ds',rfl,ev,g9,eh,rF⟩:=A5! (Ax rR j v r hj E_).keep s4;have mr:=ZP E_;refine sv! av Rz!;have q1:=q? So hs hs ls ((Bs os ts).take j) (AT (lz z (List.mem_of_mem_take hz)));have q2:=y! cU;have q3:=y! rF;have q4:=lz r mr;(have q5:((Bs os ts).take j).length<=64:=by have h1:=AO (SX! (w! (r.1∉ts))) os;rw[CD];unfold Bs;lia);refine⟨_,rfl,Ey! mh,_,rfl,hl,RG,_,_,rfl,rfl,mh,d? eh,b3! K45F.HW,?_⟩;rw[<-ZF];(have ku:BD H4 (Ly! H4 hl (cs++ds').map):=re mh);refine⟨_,_,_,cs++ds',rfl,hF!,Ab,?_⟩;(.rw[Ni! hhl];exact Am! s4);.rw[CO,E_];show E! BC (Eo hs ((Bs os ts).take j++[r]));rw[Je3];exact Ci (BC.keep ku cU) (BC.keep ku rF)
 rintro σ H4 ⟨uF,uE,uD,cs,rfl,s4,mh,cU⟩;rw[ll,BL] at cU;have iY:=Ai RE s4;have lcs:cs.length<=64+64*64:=by have q1:=q? So hs hs ls (Bs os ts) lz;have q2:=y! cU;have h1:=AO (SX! (w! (r.1∉ts))) os;(have:Cq! Bs os ts 64:=by unfold Bs;lia);lia
 refine JW! y3 (S0! (E! iY e3)) (λsl cY=>?_);have s5:=FI! cY;refine Kq (K:=K) (a:=y3) (xs:=BR! ds.map) (tt:=Jno) (te:=Ca 0) (caps:=[(dG!,12)]) (λj ys Hc=>Bu H4 Hc/\PM! Hc sl/\∃zs:M!,ys=BR! zs.map/\zs.length<=j/\WZ! Hc zs (Gc hs JI! (rs.take j))) ⟨s5,Ab,[],rfl,AC,L!⟩ (λj ys Hc _ hc=>⟨S0! (Bn! hc.1 iY e3),hc.2.1⟩) ?_ ?_;.rintro j v zs Hc N hj ⟨sc,en,rA,rfl,zl,pr⟩ hN;rw[ZH] at hj;cases bg:ds[j]? with | none=>rw[bg] at hj;cases hj | some av =>rw[bg] at hj;cases hj;have jy:=CK! bg;obtain⟨r,E_⟩:=kR! rs rj;have rv:=Zm (Ax r3 j av r bg E_) (EI (Ai iY sc));obtain⟨ka,ev,g9⟩:=id rv;(have dJ:F6! rs.take=rs.take j++[r]:=M0! E_);refine⟨_,rfl,av,_,0,_,rfl,rfl,Rz!,rfl,_,rfl,ka,hl,r.1,cs,_,rfl,rfl,g9,E! sc mh,B8! sc cU,_,rfl,?_⟩;by_cases c:r.1∈Oo!;(.rw[AB (Vw! (¬(Wy!))),IA!];(have ku:JR! Hc Hc sl (BR! rA.map++[Q? av]):=re en);refine Ck (kr! en (A6 (Hb!)) ⟨hF!,Ab,rA++[av],RH!,g4! (rA.length+1<=j+1),?_⟩);(.rw[Ni! cY];exact Am! sc);.rw[dJ];unfold Gc;rw[CU,Z3!,GC];exact wZ! (Zm h ku) (Zm rv ku));.rw[AB (Vw! (¬(Wy!))),GG!];refine nK! ⟨sc,en,rA,rfl,B!,?_⟩;rw[dJ];unfold Gc;rw[CU,Z4!,GC,AE];exact pr
 rintro ys5 H5 ⟨s45,wN,jP,rfl,zl5,rQ⟩;rw[ZA,rj,BL] at rQ;refine Nx! sl wN (λsy hsy=>?_);have s6:=TB! jP.map hsy;have esy:kK! H5 sy jP.map sy jP.map:=Ab;have p5:WZ! (upd H5 sy (.BB (jP.map V.ref))) jP bL!:=SW! (Zm h (EI s6)) rQ;have ag:=Ai s45 s6;generalize ia! H5 sy jP.map=H6 at s6 esy p5 ag;have n_:=Ai iY ag;refine JW! y3 (S0! (E! n_ e3)) (λbl gP=>?_);have s7:=FI! gP;refine Kq (K:=K) (a:=y3) (xs:=BR! ds.map) (te:=Jnx) (caps:=[(dC!,5),(dG!,12)]) (λj ys Hc=>Bu H6 Hc/\PM! Hc bl/\ys.length<=j/\aG! Hc (F8 hs JI! (rs.take j)).map (λr=>L_ (.w sI!))) ⟨s7,Ab,AC,L!⟩ (λj ys Hc _ hc=>⟨S0! (Bn! hc.1 n_ e3),hc.2.1⟩) ?_ ?_;.rintro j v zs Hc N hj ⟨sc,en,zl,pr⟩ hN;rw[ZH] at hj;cases bg:ds[j]? with | none=>rw[bg] at hj;cases hj | some av =>rw[bg] at hj;cases hj;have jy:=CK! bg;obtain⟨r,E_⟩:=kR! rs rj;obtain⟨ka,ev,g9⟩:=Zm (Ax r3 j av r bg E_) (EI (Ai n_ sc));(have dJ:F6! rs.take=rs.take j++[r]:=M0! E_);have no:AE! (Ha! (r.1∈Oo!)&&w! (0<r.2))->N zs Hc:=λz=>E! hN ⟨sc,en,B!,by rw[dJ];unfold F8;rw[CU,EH (Wn! z),GC,AE];exact pr⟩;refine⟨_,rfl,av,_,0,_,rfl,rfl,Rz!,rfl,_,rfl,ka,hl,r.1,cs,_,rfl,rfl,g9,Bn! sc ag mh,B8! (Ai ag sc) cU,_,rfl,?_⟩;by_cases c:r.1∈Oo!;(.rw[e?,IA!];exact Cc (Cc (no (be IA!))));.rw[e?,GG!];refine Ck ⟨_,rfl,av,_,1,_,rfl,rfl,Rz!,rfl,_,_,rfl,rfl,_,rfl,?_⟩;by_cases c2:0<r.2;(.rw[EM! c2];refine Ck ⟨_,rfl,_,rfl,av,_,0,_,rfl,rfl,Rz!,rfl,ka,_,0,_,rfl,rfl,d? g9,rfl,_,rfl,il!,FW!⟩;have s8:=Bp! rS! hy;have e8:DI! Hc y rS! y rS!:=Ab;generalize Cw! Hc y rS!=H8 at s8 e8;have en8:=E! s8 en;(have ku:JR! H8 H8 bl (zs++Jc! y):=re en8);refine HV! en8 L6! (A2! hF! Ab (g4! (zs.length+1<=j+1)));(.rw[Ni! gP];exact Jm! s8 sc);.rw[dJ];unfold F8;rw[CU,EG (DM! GG! (EM! c2)),GC,ZF];refine cP! (EI s8).trans ?_;have rp:FL K H8 Hh! (L_ (.w sI!)):=wm! e8 (X! s8 ev) (Jh (X! s8 g9));exact rp.keep ku);.rw[Ax! c2];exact Cc (no (DM! GG! (Ax! c2)))
 rintro ys7 H7 ⟨n8,ebl,zl7,prb⟩;rw[ZA,rj,BL] at prb;have uX:=Ai n_ n8;have rO:=Ai s1 uX;have S7:=FF! rO;have XT:=EI rO;obtain⟨kF,gI⟩:=S7.wa.ob;have ke:=sd.ok.ke;have nk:=tJ sd.ok;refine vf! kF gI EN! ?_;refine Jh7 (R:=dH! (∃y L,v=F? y/\Gj!/\K2!/\W'.qs=t5! g0.toNat Dw!/\LE!/\al'=m?++(UC! λr=>U1! g0).map .w)) S7 hn hB el es (Bq p1 XT) (ol! XT) (Bq p3 XT) cA cB (λv W8 D8 al8 ys8 H8 r fp wi JY eS=>?_) λy L W' H' q1 G1 gq mB l9 gL nV nw e1 e2=>?_;rotate_left;.rw[hi] at gL;cases gL;obtain⟨_,_,e3⟩:=JM.one nV;subst e3;exact⟨y,L,rfl,rfl,nw,e1,e2,AM! (Jfd JM ke nk)⟩
 obtain⟨y,L,rfl,rfl,nw,eq8,ey8,rfl⟩:=r;have i8:JF W8 g0 q Qv!:=⟨sP,by rw[eq8,FJ];exact CK! hi⟩;have XY:=S7.DJ JY;have nU:=Jfo (ts:=ts) JM ke nk;have v_:=KF! wi.wg.wl.good i8.2;obtain⟨dx8,hp8⟩:=wi.wa.ob;have nlf:∀{b':Addr} {o:HO},h? b'->Fa! H7 b'->Fa! H8 b':=λ{b' o} h0 h7=>JY _ _ h7 (λm=>by obtain⟨o',e,_⟩:=S.wa.some_at m;rw[h0] at e;cases e) (λm=>by obtain⟨y',oR,hb⟩:=BG.mp m;obtain⟨o',e,_⟩:=(S.at_ y' oR).has hb;rw[h0] at e;cases e);have JAF:=nlf (Cm s1 ve) (X! n8 (X! ag (X! s4 wV)));have JAH:=nlf (Cm (Ai s1 n_) gP) ebl;have e18:=Bn! XY.BB uX e1;have JAB:=Bn! XY.BB n8 esy;have t18:=R2! XY BC.keep (EI uX) t1;have yk:E4! (LV H8) ls JI!:=SW! ((h.keep (EI (Ai s4 (Ai ag n8)))).keep XY) rR;have yh:WZ! H8 jP bL!:=SW! (Zm (Zm h (EI n8)) XY) p5;have p6:G6! (FL K H8) ys7 UC! (λr=>L_ (.w sI!)):=SW! (h.keep XY) prb;refine⟨_,rfl,p,dx8,_,rfl,hp8,Cr W8 ZV,_,rfl,p,g0,W8,rfl,wi.wa,I! ⟨q,Dw!,i8,q,Dw!,rfl,i8.at wi.wa,_,rfl,_,_,rfl,rfl,rfl,_,rfl,?_⟩⟩;rw[show AE! (! Av! (O? (G0 G ts).AU) (Bo! Bm!)) by rw[MT! (D4! (O? (G0 G ts).AU=Bo! Bm!))];rfl];refine Cc ⟨_,rfl,p,dx8,_,rfl,hp8,Cr W8 ZV,_,rfl,p,g0,W8,rfl,wi.wa,I! ⟨q,Dw!,i8,q,Dw!,hs,Bs os ts,Gc hs JI! rs,rfl,i8.at wi.wa,v_.h2,v_.o2,v_.r2,nU.pm,nU.pw,nU.PM,nU.pr,nU.wr,λx9 H9 s9 st9=>?_⟩⟩;refine pZ! lf _ rfl (Al! (eB! s9 JAF) (λjU zT=>?_));have dq:=Bp! ls zT;have e10:DI! H9 jU ls jU ls:=Ab;generalize Cw! H9 jU ls=b_ at dq e10;refine HP! (vn! 3) (λrB zS=>?_);have jb:=Bp! ri! zS;have mv:DI! b_ rB ri! rB ri!:=Ab;generalize Cw! b_ rB ri!=kS at jb mv;have lx:=LY! s9 dq jb;have bC:=EI lx;have rp1:FL K kS (Y! x9) (jX hs JI! bL!):=A5! st9.rep.keep (Ai dq jb);have rp2:FL K kS (Y! rB) (jX hs JI! bL!):=Za! mv (ll! lx e18 (BC.keep bC t18)) (tk! (Iz! (CA.of (X! jb e10)) (Rb (An (λ_ _ h=>h.keep bC) yk))) (Iz! (CA.of (X! lx JAB)) (Re (An (λ_ _ h=>Zm h bC) yh))));refine Oi! (.one rp1) (.one rp2) (E! V7 _) (E! V7 _);rw[Fn (E! V7 _)];refine B3!;have lw8:=wi.lw;have uw:l1.length=a.length:=y! p1;have zF:l2.length=b.length:=y! p3;have pn8:G6! (IA H8 W8.EF) L (UC! λr=>U1! g0).map .w:=by rw[nw.ls] at lw8;exact Ky lw8 (by rw[ZE,ZE,uw,zF])
 have zL:hE!:=by have h1:=wi.len;(have h2:W8.ls.length=i6!+L.length:=z! nw.ls ZE);have h3:=y! pn8;rw[ZA,ZA] at h3;have h4:(F8 hs JI! rs).length<=rs.length:=Kg!;lia
 refine⟨_,rfl,_,rfl,p,y,W8,_,_,I0!,L,rfl,wi.wa.same lx,E! lx ey8,Bq wi.lw bC,nw.ls,Bq pn8 bC,zL,λr12 H12 yY yZ=>?_⟩;have nq:=Ai lx yY;have bk:∀z∈Gu! UC! (λr=>U1! g0) LL.w,∀k,z=.w k->Lr! Z?\/Lr! Cd!\/Lr! Bg!\/Lr! wE:=λz hz k e=>by obtain⟨l,jx,rfl⟩:=BZ!;obtain⟨r,_,rfl⟩:=ZN jx;cases e;exact Hl! rfl
 have eD:(UC! λr=>L_ (.w sI!))=((UC! λr=>U1! g0).map LL.w).map L_:=gT! AN
 refine PP! _ _ yZ (LX! (X! nq JAH) (by rw[eD] at p6;exact SW! (A5! h.keep nq) p6)) (Tn bk) (Tn bk) _ ?_;rw[Fn (Tn bk)];refine in! (k y H12 W8 D8 L _ (wi.same nq) (q! eq8 (mN hi rfl)) (λb' o e h1 h2=>E! nq (JY _ _ (X! rO e) h1 h2)) (λb' hb=>(fp b' hb).imp id λh=>h.imp id λh=>Cm rO h) eS nw (X! nq ey8))
theorem fj{l m:j!}(h:l.Perm m):l.sum=m.sum:=by induction h with | nil=>rfl | cons x _ ih=>rw[CV,CV,ih] | swap x y l=>simp only[CV];lia | trans _ _ h1 h2=>exact h1.trans h2
theorem Led.perm{L L':Bz!}(p:lu!){t:T2}(h:LG!):Led L' t:=by
 have QM:∀{r},ge!->r∈rowsOf L':=λ{r} h=>by obtain⟨S,hS,hr⟩:=JQ.mp h;exact JQ.mpr ⟨S,p.mem_iff.mp hS,hr⟩
 induction h with | hand h m=>exact .hand (p.mem_iff.mp h) m | @out r h m =>refine .out (QM h) ?_;rw[Va] at m ⊢;rw[<-fj (p.map λS=>J7 r.1 S.2.2)];exact m | step h m _ ih=>exact .step (QM h) m ih
theorem Found.perm{L L':Bz!}{ts:D!}(p:lu!)(h:Found L ts):Found L' ts:=by refine⟨h.pw,λt=>(h.mem t).trans ?_⟩;have e:mD!↔AB! (rowsOf L').map:=(List.Perm.map _ (JN _ p)).mem_iff;exact and_congr e (not_congr ⟨Led.perm p,Led.perm p.symm⟩)
theorem PR.perm{L L':Bz!}(p:lu!)(h:K45F.PR L):K45F.PR L':=by have pr:(rowsOf L).Perm (rowsOf L'):=JN _ p;exact⟨(pr.map _).nodup_iff.mp h.nd,S? pr.length_eq h.rz,S? (JN _ p).length_eq h.hz,ii (h.oz r (pr.mem_iff.mpr hr)),S? (JN _ p).length_eq h.tz⟩
theorem WI.fF{H:Hp}{p:Addr}{W:EE}{D:n?}{m n d A B:Nat}{al:S!}{ys:H?}(x:g?)(hn:sK){y:Qy}(hy:y∈ys)(fl:bg!)(bb:SF!):K45F.PR (Lb m bb (Jj y.fi)):=by
 have iv:=x.iv y hy;have pf:=(iv.whole fl).2.2;have br:O1!:=x.wg.wl.len;have m5:=x.m5;have ZY:∀k∈mJ! bb,k<m:=λk hk=>BN.mp (FC! hk);have nn:se! SL!:=No (by obtain⟨j,hj⟩:=DA.mp hq;exact(q? x.wg.num q q.1 G q.2 hj).1.m0)
 refine Jdl (mx:=λk=>(RR W.qs k).toNat) (m:=m) (List.nodup_range.filter _) ?_ ZY (Xk!) (λk hk w9 hw=>?_) ?_;.have:=AO bb (List.range m);rw[BW] at this;lia
 .obtain⟨r,hr,er,_,_,e4⟩:=sG!;have:=(iv.f1 r hr).so;rw[er,<-e4] at this;exact this
 .obtain⟨r,hr,er,_,_,e4⟩:=sG!;obtain⟨⟨q,G⟩,hi⟩:=vK! k (D6! (ZY k hk));rw[e4] at hw;have h1:=(iv.f1 r hr).nw k q G hi er w9 hw;(have h2:RR W.qs k=G.AY:=fe! hi);have h3:=(x.wg.num hi).1.m0;show w9.1.2<s? (RR W.qs k).toNat;rw[h2];lia
 .have h1:=Gx nn;have h2:=x.md;rw[br] at h1;lia
structure Lk(al:S!)(n:Int)(fi:B6!)(se:CT!)(O:KC):Prop where
 f:(O.fl.map (UI! r.t)).Perm (jQ!++fi)
 s:O.sl.Perm ((Bi al n 2).map (λr=>(r.1,u?))++se)
 c:O.cnt=c? fi.length+c? se.length
universe S
variable {m:Nat}{qs:List (Addr×BZ)}{ls:List LT}{al:List LL}{n:Int}{fi:List (Int×Int×HS)}{se:List (Int×Int)}{O:KC}
theorem Lk.keys(l:Os!):(O.fl.map VD!).Perm (Vo! al 1++Hk!):=Ea! (C? l.f.map) AN ZF
theorem Lk.fQ(l:Os!):(O.sl.map (·.1)).Perm (Vo! al 2++KI!):=Ea! (C? l.s.map) ZF AN
theorem Lk.lX(l:Os!)(iv:Dv!)(h:g∈Y8!):g∉mv!:=λz=>by have nd:(eb! Y8! al 1++Hk!).Nodup:=iv.t1.nodup_iff.mpr (Uu m);rw[AK] at nd;exact lX! g h g (l.keys.mem_iff.mp z)
theorem Lk.lW(l:Os!)(iv:Dv!)(h:g∈Ks!):g∉Rq!:=λz=>by rcases iv.t2 with⟨_,e,_⟩|⟨_,pm⟩;(.rw[e] at h;cases h);have nd:(eb! Ks! al 2++KI!).Nodup:=pm.nodup_iff.mpr (Uu m);rw[AK] at nd;exact lX! g h g (l.fQ.mem_iff.mp z)
theorem Lk.zJ(l:Os!)(iv:Dv!):O.fl.length<=m:=by have h1:=l.keys.length_eq;have h2:=iv.t1.length_eq;simp only[ZE,ZA,Du] at h1 h2;lia
theorem Lk.zI(l:Os!)(iv:Dv!):O.sl.length<=m:=by
 have h1:=l.fQ.length_eq;rcases iv.t2 with⟨_,_,e2,e3⟩|⟨_,pm⟩;.rw[e2,e3] at h1;simp only[ZE,ZA,BS,DW] at h1;lia
 .have h2:=pm.length_eq;simp only[ZE,ZA,Du] at h1 h2;lia
theorem Lk.last{s1 g1 tick:Int}{S1:HS}{a b:S!}(l:Os!)(iv:Dv!)(es:FY! (LL.HQ s1 g1 n 2 tick S1))(fl:Ot!)(BJ:se.length+1=m)(ns:o? O.sl.map) : (c8! (r.h∈Rq!))/\(∃cf:C7!,∀h:Nat,h<m->∃r∈se++jE!,bZ! (cf h))/\∀cf:C7!,(∀h:Nat,h<m->∃r∈se++jE!,bZ! (cf h))->(Dx! Ix!).Perm (Lb m (λh=>eu! DF!) (Jj fi)):=by
 have pf:=(iv.whole fl).2.2;have e1:Kc! 1:=by have h:=iv.t1.length_eq;simp only[ZE,ZA,Du] at h;exact GD!
 have lf:=l.f;rw[e1,RN] at lf;have pa:(Bi al n 2).Perm ((s1,tick,S1)::IJ! 2):=by rw[es,A9,Dj,A9];have:(Pq n 2 (.HQ s1 g1 n 2 tick S1))=A! (s1,tick,S1):=dy!;rw[this];exact QK
 have e2:IJ! 2=[]:=by rcases iv.t2 with⟨h,_⟩|⟨_,pm⟩;(.lia);.have h:=pm.length_eq;have h2:=pa.length_eq;simp only[ZE,ZA,BM,Du] at h h2;exact GD!
 rw[e2] at pa;have ps:O.sl.Perm (se++jE!):=by refine l.s.trans ?_;(have:(Bi al n 2).map (λr=>(r.1,u?))=jE!:=be (List.perm_singleton.mp pa));rw[this];exact C_
 have pk:TI! O.sl.map:=by rcases iv.t2 with⟨h,_⟩|⟨_,pm⟩;(.lia);·(have e3:Ks!=[]:=by have h:=pm.length_eq;have h2:=pa.length_eq;simp only[ZE,ZA,BM,BS,Du] at h h2;exact GD!);rw[e3,RN] at pm;exact l.fQ.trans pm
 have hk:c8! (∃h:Nat,h<m/\r.h=BN!):=ii (by have:r.h∈mv!:=BE hr;have:=l.keys.mem_iff.mp this;rw[e1] at this;have:=KG.mp (pf.mem_iff.mp this);exact⟨r.h.toNat,B!,B!⟩)
 refine⟨ii (pk.mem_iff.mpr ?_),⟨λh=>mb!,λh hh=>?_⟩,λcf i_=>?_⟩;rotate_left;.obtain⟨r,hr,er⟩:=ZN (pk.mem_iff.mpr (KG.mpr ⟨B!,B!⟩:BN!∈rg m));refine A2! r (ps.mem_iff.mp hr) er;have:=Hj (k:=Ri!) ns hr;show r.2=mb!;unfold aT;rw[<-er,this];rfl
 rotate_left;.obtain⟨h,h1,h2⟩:=hk r hr;exact KG.mpr ⟨B!,B!⟩
 have tk:∀h:Nat,h<m->mb!=cf h:=λh hh=>by obtain⟨r,hr,er,ec⟩:=i_ h hh;have:=Hj (k:=Ri!) ns (ps.mem_iff.mpr hr);unfold aT;rw[<-er,this];exact ec
 have uc:(O.fl.map (UI! r.t)).Perm ((List.range m).map λh:Nat=>(BN!,DF!,bx!)):=by refine lf.trans ?_;have oN:fi.Nodup:=List.Pairwise.of_map (X0!) (λa b h z=>h (AM! z)) (pf.nodup_iff.mpr (Uu m));have gF:((List.range m).map λh:Nat=>(BN!,DF!,bx!)).Nodup:=List.Pairwise.map _ (λa b (h:a≠b) z=>h (by have:=Px! CD! z;have:c? a=c? b:=this;lia)) (List.nodup_range (n:=m));refine(List.perm_ext_iff_of_nodup oN gF).mpr λr=>⟨λhr=>?_,λhr=>?_⟩;(.have:=KG.mp (pf.mem_iff.mp (BE (f:=X0!) hr));obtain⟨r',E_,wQ,f',t',s'⟩:=Hk pf (h:=r.1.toNat) F!;(have e0:r'.1=r.1:=Gh! wQ);(have:r'=r:=by have z:=Hj (k:=X0!) (pf.nodup_iff.mpr (Uu m)) hr;rw[Ir! (s? r.1.toNat=r.1),z] at f';exact Bx! ZO f');subst this;exact VW! r'.1.toNat YS! (by rw[t',s',Ir! (s? r'.1.toNat=r'.1)]));.obtain⟨h,hh,rfl⟩:=ZN hr;obtain⟨r',E_,wQ,f',t',s'⟩:=Hk pf (BN.mp hh);rw[t',s',<-wQ];exact E_
 have pm3:=uc.filter λr=>Av! u? (aT O.sl r.1);have pm4:=pm3.map λr:Int×Int×HS=>SL;have eA:((O.fl.map (UI! r.t)).filter λr=>Av! u? (aT O.sl r.1)).map (λr:Int×Int×HS=>SL)=Dx! Ix!:=by unfold VJ;rw[JH,AN];rfl
 have eB:(((List.range m).map λh:Nat=>(BN!,DF!,bx!)).filter λr=>Av! u? (aT O.sl r.1)).map (λr:Int×Int×HS=>SL)=Lb m (λh=>eu! DF!) (Jj fi):=by unfold Lb;rw[JH,AN];refine congrArg (List.map _) (GN λh hh=>?_);show Av! DF! mb!=eu! DF!;rw[tk h (BN.mp hh)]
 rw[eA,eB] at pm4;exact pm4
universe E
abbrev AL:=Ac! (Int×Addr×KC)
def XZ(As:AL):k?:=As.map (TT! (Q? u?))
def QD(As:AL):M!:=As.flatMap λr=>Do u? SL
structure XX(H:Hp)(ad:Addr)(As:AL):Prop where
 ob:QK! ad XZ As
 on:∀r∈As,EX H u? SL
 nd:CQ! QD As
 off:ad∉QD As
theorem XX.keep{H H':Hp}{ad:Addr}{As:AL}(x:XX H ad As)(k:uB! (b=ad\/Wj!) JQ! H')(kt:p?):XX H' ad As :=⟨o! k Cr! x.ob,ii ((x.on r hr).keep (O4! (k b u (iR! (Jo! hb)) e)) kt),x.nd,x.off⟩
structure Dn(H:Hp)(W:EE)(m:Nat)(y:Qy)(O:KC):Prop where
 no:y.se.length≠m->Ml! W.FK ib!
 yes:X2!->∃(ts:D!)(x xf:Addr)(as JZ:M!),O.dv=MJ!/\aZ! x/\A9!/\Zw! W.FK ib! xf/\uy! xf JZ.map/\BC H JZ ts
theorem Dn.keep{H H':Hp}{W W':EE}{m:Nat}{y:Qy}{O:KC}(x:sK! O)(kt:p?)(e:Iu!):Dn H' W' m y O :=⟨λh=>HX! (x.no h),λh=>by obtain⟨ts,x1,xf,as,JZ,e1,e2,e3,e4,e5,e6⟩:=x.yes h;exact⟨ts,x1,xf,as,JZ,e1,HN! e2,Zb! e3,HX! e4,HN! e5,Zb! e6⟩⟩
def LkR(H:Hp)(W:EE)(m:Nat)(al:S!)(y:Qy)(r:Int×Addr×KC):Prop:=y.n=r.1/\Lk al y.n y.fi y.se SL/\sK! SL
structure Bo(H:Hp)(p:Addr)(W:EE)(D:n?)(m n d A B:Nat)(al:S!)(ys:H?)(ad:Addr)(As:AL):Prop where
 wi:g?
 ak:XX H ad As
 lk:E4! (LkR H W m al) ys As
 off:lD! CR! IN!
universe S
variable {H H':Hp}{p:Addr}{W W':EE}{D D':T2->Prop}{m n d A B n' d' A' B':Nat}{al al':List LL}{ys EN:List Qy}{ad:Addr}{As aY:AL}
theorem WI.keep(x:g?)(k:Zo! (b∈L0!\/b∈ys.flatMap C1))(kt:p?):w4! H' :={ x with wa:=x.wa.keep (WM! k h6!),lw:=Bq x.lw kt,at_:=Ch! ((x.at_ y hy).keep (WM! k (iR! ⟨y,hy,hb⟩)) kt) }
theorem Bo.has(x:Fv!)(h:b=ad\/Wj!):∃o,Gr!:=by
 rcases h with rfl|h;.exact D? x.ak.ob
 .obtain⟨r,hr,hb⟩:=BG.mp h;have o1:=x.ak.on r hr;(have hb:b=u?\/b=r.2.2.fd\/b=r.2.2.sd:=by simpa [Do] using hb);rcases hb with rfl|rfl|rfl;(.exact D? o1.ob);(.exact D? o1.f);.exact D? o1.s
theorem Bo.c6(x:Fv!)(fp:Tm!):lD! My! (b∉EN.flatMap C1):=N? (by obtain⟨o,e⟩:=x.has hb;obtain⟨h1,h2⟩:=DD! x.off;(have no:¬(b∈P0!\/b∈EN.flatMap C1):=λz=>by rcases fp b z with h|h|h;(.exact h1 h);(.exact h2 h);.rw[e] at h;cases h);exact⟨io! Z!,io! J?⟩)
theorem Bo.same(x:Fv!)(s:KM):Bo H' p W D m n d A B al ys ad As :=⟨x.wi.same s,nO! x.ak.keep (Am! s) s,SW! ⟨h.1,h.2.1,h.2.2.keep (EI s) rfl⟩ x.lk,x.off⟩
theorem Bo.quiet(x:Fv!)(wi:WI H' p W' D' m n' d' A' B' al' ys)(f:T3!)(fp:um! ys)(ea:∀n u,(Bi al' n u).Perm (Bi al n u))(ef:Iu!):nd! H' n' d' ys As:=by have kt:=x.wi.DJ f;refine⟨wi,x.ak.keep (O4! (f b u e (Po! x.off) (x.off b hb).2)) kt,An (λy r h=>⟨h.1,⟨h.2.1.f.trans ((ea _ _).symm.append_right _),h.2.1.s.trans (((ea _ _).symm.map _).append_right _),h.2.1.c⟩,h.2.2.keep kt ef⟩) x.lk,x.c6 fp⟩
universe E
def nG:TE:=Qg CW JP! (OW! V8) [] E0 Sf! qm!
theorem Px{j:Nat}{σ:L2.St}{r p:Addr}{H:Hp}{W:EE}{m:Nat}{Q:NL!}(hσ:σ[j]?=A! (L4! p))(S:IR)(em:O1!)(dy:m<=60)(hr:C5!)(k:∀H',KM->L? H' r (.BJ (W.qs.map oK!))->Q H') : ur! jx! (∀i m' ys H2,Jv! (W i m' ys H2) Wb! (di 0 m).stop DH! (di 0 m).go (di 0 m).ZQ (ov! (wG!:TT) or! H3 (wA! (ov! nG or! H4 (λv H5=>uK! H5/\ys.length<sizeLine/\ok! dh! (PK! H5 r dh!))) (ok! ys H4)))):=by
 have s0:=FI! hr;have ec:Ed σ or!=[AV!]:=by unfold Ed;simp[hσ]
 refine sp! m nG or! σ (nV! (ys=(W.qs.take i).map (oK!)) Jn!) (FT! Ab s0);.rintro i ys H2 N hi ⟨er,ey,sm⟩ hN;refine Ba!;rw[ec];obtain⟨⟨q,G⟩,hq⟩:=q? Au xs W.qs j i (q! em hi);have S2:=FF! sm;obtain⟨dx,hp⟩:=S2.ob;have i':JF W (0+l!) q G:=V2! (H! (Ir! ((0+l!).toNat=i)) hq);refine w6! (0+l!) S2 (I! ⟨q,G,i',q,G,rfl,i'.at S2,er,A6 (VJ! ey ZA CD),E! hN ⟨Ab,?_,Dl!⟩⟩);(.rw[ey,CO,hq,ZF];rfl);.rw[Ni! hr];exact Am! sm
 .rintro ys H2 ⟨er,ey,sm⟩;rw[<-em,BL] at ey;exact k H2 sm (f9! er)
theorem Kr{H:Hp}{r:Addr}{qs:B?}(e:d9! r qs.map oK!):Hq! (Y! r) (D8! (qs.map λq=>PyData.int q.2.AU)):=by refine LX! e ?_;clear e;induction qs with | nil=>exact L! | cons q qs ih=>exact K? (a! _) ih
theorem Hw(qs:B?):bz! qs.map (λq=>PyData.int q.2.AU):=Fi λd hd=>by obtain⟨q,_,rfl⟩:=ZN hd;exact x? (by simp[PyData.depth])
theorem Ij{α:Type}:∀{l:U!} {j:Nat} {a:α},l[j]?=A! a->l.set j a=l
 | [],_,_,h=>Ce!
 | x::l,0,a,h=>by cases h;rfl
 | x::l,j+1,a,h=>z! List.set_cons_succ (q? Ij l l j j h)
theorem Xh{As:AL}{j:Nat}{n:Int}{o:Addr}{O O':KC}(h:As[j]?=A! (n,o,O))(e1:dE!)(e2:dF!):QD (As.set j (n,o,O'))=QD As:=by unfold QD;rw[List.flatMap_def,List.flatMap_def,List.map_set];congr 1;refine Ij ?_;rw[ZH,h];show A! (Do o O)=A! (Do o O');unfold Do;rw[e1,e2]
theorem Rn{α β:Type}{R R':GQ!}:∀{l:U!} {m:Aq!} {j:Nat} {a:α} {b:β},L7! l m->(∀i x y,i≠j->l[i]?=A! x->m[i]?=A! y->R x y->R' x y)->R' a b->E4! R' (l.set j a) (m.set j b)
 | _,_,_,_,_,.nil,_,_=>L!
 | _,_,0,_,_,.cons h t,k,r=>by refine K? r ?_;refine E9 (Paired.length t) λi x y e1 e2=>k KE x y F! e1 e2 (Ax t i x y e1 e2)
 | _,_,j+1,_,_,.cons h t,k,r=>K? (k 0 _ _ F! rfl rfl h) (Rn t (λi x y ne e1 e2 q=>k KE x y F! e1 e2 q) r)
theorem Jj2{As:AL}{j:Nat}{r:Int×Addr×KC}(nd:CQ! QD As)(h:As[j]?=A! r){i:Nat}{r':Int×Addr×KC}(h':As[i]?=A! r')(ne:i≠j){b:Addr}(hb:b∈Do r'.2.1 r'.2.2):b∉Do u? SL:=by induction As generalizing i j with | nil=>simp at h | cons x As ih =>have nd:(Do HK! x.2.2++QD As).Nodup:=nd;obtain⟨_,n2,n3⟩:=AM.mp nd;cases j with | zero =>cases h;(cases i with | zero=>exact Fh! ne | succ i=>exact λz=>n3 b z b (BG.mpr ⟨r',ZP h',hb⟩) rfl) | succ j =>cases i with | zero =>cases h';exact λz=>n3 b hb b (BG.mpr ⟨r,ZP h,z⟩) rfl | succ i=>exact ih n2 h h' (X? ne (AM! z))
universe S
variable {H H':Hp}{p:Addr}{W W':EE}{D D':T2->Prop}{m n d A B n' d' A' B':Nat}{al al':List LL}{ys:List Qy}{ad o:Addr}{As:AL}{j:Nat}{y y':Qy}{O O':KC}{N:Int}
theorem Bo.nums(x:Fv!):EV! As.map ys.map E0!:=by have h:=x.lk;clear x;induction h with | nil=>rfl | cons h _ ih=>rw[AI,AI,ih,h.1]
theorem Bo.akn(x:Fv!):o? As.map:=H! x.nums x.wi.ji
theorem Bo.upd(x:Fv!)(hy:ys[j]?=A! y)(hr:As[j]?=A! (N,o,O))(wi:cS! H' n' d' al' (ys.set j y'))(e1:dE!)(e2:dF!)(en:y'.n=y.n)(o1:LZ! O')(l1:Lk al' y'.n y'.fi y'.se O')(d1:Dn H' W' m y' O')(kt:p?)(fr:∀b u,JQ!->(b=ad\/Wj!)->gL!->JA! H')(ea:∀k u,k≠y.n->(Bi al' k u).Perm (Bi al k u))(ef:∀k:Int,k≠y.n->Sm! W'.FK=Sm! W.FK)(off:lD! My! (b∉(ys.set j y').flatMap C1)):nd! H' n' d' (ys.set j y') (As.set j (N,o,O')):=by
 have eo:=Xh hr e1 e2;have yr:y.n=N:=(Ax x.lk j y _ hy hr).1;have dno:ad∉Do o O:=λz=>x.ak.off (BG.mpr (jp (ZP hr) z));refine⟨wi,⟨?_,λr hm=>?_,H! eo x.ak.nd,H! eo x.ak.off⟩,?_,N? (off b (by rw[eo] at hb;exact hb))⟩;·(have e:XZ (As.set j (N,o,O'))=XZ As:=by unfold XZ;rw[List.map_set];exact Ij (CS! hr));rw[e];exact fr _ _ x.ak.ob Cr! dno
 .obtain⟨i,hi⟩:=DA.mp hm;by_cases c:i=j;(.subst c;rw[FJ (CK! hr)] at hi;cases hi;exact o1);.rw[LD (ZH!)] at hi;have mr:=ZP hi;exact(x.ak.on r mr).keep (O4! (fr b u e (iR! ⟨r,mr,hb⟩) (Jj2 x.ak.nd hr hi c hb))) kt
 .refine Rn x.lk (λi y1 r1 ne h1 h2 q=>?_) ⟨en.trans yr,l1,d1⟩;have nn:y1.n≠y.n:=X? ne (by (have a1:(ys.map E0!)[i]?=A! y1.n:=CS! h1);(have a2:(ys.map E0!)[j]?=A! y1.n:=Iy! ZH hy z);obtain⟨p1,g1⟩:=ZJ a1;obtain⟨p2,g2⟩:=ZJ a2;exact(FN x.wi.ji).mp (g1.trans g2.symm));obtain⟨q1,⟨qf,qs,qc⟩,q3⟩:=q;refine⟨q1,⟨qf.trans ((ea _ _ nn).symm.append_right _),qs.trans (((ea _ _ nn).symm.map _).append_right _),qc⟩,⟨λh=>H! (ef _ nn) (q3.no h),λh=>?_⟩⟩;obtain⟨ts,x1,xf,as,JZ,b1,b2,b3,b4,b5,b6⟩:=q3.yes h;exact⟨ts,x1,xf,as,JZ,b1,HN! b2,Zb! b3,H! (ef _ nn) b4,HN! b5,Zb! b6⟩
theorem OJ.qh{qs:B?}{ls:T?}{k:Int}{fi:B6!}{se:CT!}(iv:OJ m qs ls al k fi se)(m1:1<=m)(h:(∃s g u,cK! (LL.ask s g k u∈al))\/∃s g u t S,cK! (LL.HQ s g k u t S∈al)):se.length≠m:=λz=>by have t1:=iv.t1.length_eq;simp only[ZE,ZA,Du] at t1;(have cM:∀{j:Nat},(fK! C3 k 1\/fK! Bi k 1\/fK! C3 k 2\/fK! Bi k 2)->False:=λ{j} c=>by rcases iv.t2 with⟨h1,h2,h3,h4⟩|⟨h1,pm⟩;(.rw[h4] at z;simp only[BS] at z;lia);.have t2:=pm.length_eq;simp only[ZE,ZA,Du] at t2;rcases c with c|c|c|c<;>lia);rcases h with⟨s,g,u,hm,rfl|rfl⟩|⟨s,g,u,t,S,hm,rfl|rfl⟩;(.exact cM (j:=0) (AD! q5!));(.exact cM (j:=0) (TD (PS! q5!)));(.exact cM (j:=0) (PS! q5!));.exact cM (j:=0) (TD (GF! q5!))
universe E
theorem Jpa(s g n u t:Int)(S:HS)(k:Int):Bi [LT!] n k=v6 (u=k) [(s,t,S)] []:=by
 rw[Dj];by_cases e:u=k;.rw[Cf! (Pq n k (LT!)=A! (s,t,S)) (AF (x? e)),sw];rfl
 .rw[Cf! (Pq n k (LT!)=none) (AB λz=>e z.2),XV];rfl
theorem iL{a b:S!}{s g n u t k:Int}{S:HS}:(Bi (a++LT!::b) n k).Perm (TJ! (u=k) [(s,t,S)]++IJ! k):=by
 have e:a++LT!::b=a++[LT!]++b:=x!
 rw[e,A9,A9,A9,Jpa,<-AK];exact List.perm_append_comm.append_right _
theorem xP{a b new:S!}{z:LL}{n k:Int}(h:Pq n k z=none)(h2:Bi new n k=[]):Bi (Py!) n k=Bi (M3!) n k:=by
 have e:M3!=a++[z]++b:=x!
 rw[e,A9,A9,h2,AE,A9,A9];have:Bi [z] n k=[]:=by unfold Bi;simp[h]
 rw[this,AE]
theorem Lk.asked{a b:S!}{s1 g1 N u t:Int}{S1:HS}{fi:B6!}{se:CT!}{O O':KC}(l:Lk (a++LL.ask s1 g1 N u::b) N fi se O)(ac:t8 O O' g1 u t S1)(ku:u=1\/u=2):Lk (Kk! (LL.HQ g1 s1 N u t S1)) N fi se O':=by
 have e:∀k,Bi (Fr! (LL.HQ g1 s1 N u t S1)) N k=Bi (a++LL.ask s1 g1 N u::b) N k++TJ! (u=k) [(g1,t,S1)]:=λk=>by rw[A9,Jpa,<-xP (new:=[]) (z:=LL.ask s1 g1 N u) (n:=N) (k:=k) rfl rfl,AE]
 cases ac with | one a' x e1 h =>subst h;subst e1;refine⟨?_,?_,l.c⟩;(.rw[e,e?];show((O.fl++[_]).map _).Perm _;rw[ZF,AK];exact(l.f.append_right _).trans (Gd! AK ((C_).append_left _)));.rw[e,Fe!,AE];exact l.s | two e1 h =>subst h;have e2:u=2:=ku.resolve_left e1;subst e2;refine⟨?_,?_,l.c⟩;(.rw[e,Fe!,AE];exact l.f);.rw[e,e?,ZF,AK];show(O.sl++[(g1,t)]).Perm _;exact(l.s.append_right _).trans (Gd! AK ((C_).append_left _))
theorem Lk.first{a b new:S!}{s1 g1 N t:Int}{S1:HS}{fi:B6!}{se:CT!}{O:KC}{v:V}(l:Lk (a++LL.HQ s1 g1 N 1 t S1::b) N fi se O)(hn:∀k,Bi new N k=[]):Lk Mj! N (fi++[(s1,t,S1)]) se { O with cnt:=Gw!,dv:=v }:=by
 have e:∀k,Bi (Py!) N k=Bi (m?) N k:=λk=>Tf! hn
 refine GM ?_ ?_;.rw[e];refine l.f.trans ((iL.append_right _).trans ?_);rw[e?,<-AK,AK];exact C_
 .rw[e];refine l.s.trans (((iL (k:=2)).map _).append_right _ |>.trans ?_);rw[Fe!,RN]
 .show Gw!=_;rw[l.c,ZE];show _=s? hB!+_;lia
theorem Lk.second{a b new:S!}{s1 g1 N t:Int}{S1:HS}{fi:B6!}{se:CT!}{O:KC}{v:V}(l:Lk (a++LL.HQ s1 g1 N 2 t S1::b) N fi se O)(hn:∀k,Bi new N k=[]):Lk Mj! N fi (se++[(s1,t)]) { O with cnt:=Gw!,dv:=v }:=by
 have e:∀k,Bi (Py!) N k=Bi (m?) N k:=λk=>Tf! hn
 refine GM ?_ ?_;.rw[e];refine l.f.trans (((iL (k:=1)).append_right _).trans ?_);rw[Fe!,RN]
 .rw[e];refine l.s.trans (((iL.map _).append_right _).trans ?_);rw[e?,ZF,<-AK,AK];exact C_
 .show Gw!=_;rw[l.c,ZE];show _=_+s? (se.length+1);lia
theorem cx:A? [Cy!,uE!,dx!,MH!,"_law_ticks",uD!,"_law_due",uC!] rx! xl:={}
def su(p:Addr)(W:EE)(ys:H?)(ad:Addr)(As:AL)(H H':Hp):Prop:=qE! IN! O6! bH! Fc!
inductive Jp0(vs:C!)(H:Hp)(Q:VK)(E:XK):Prop
 | mk (p ad t:Addr) (W:EE) (D:n?) (m n d A B A' B':Nat) (al:S!) (ys:H?) (As:AL) (l1 l2:k!) (num:Int) (_:vs=[y?,F? ad,PV!,T! AR!]) (_:Fv!) (_:sK) (_:A4!) (_:d<900) (_:N9!) (_:Id!) (_:Ic!)
   (_:∀(y:Addr)(H':Hp)(W':EE)(D':n?)(al':S!)(EN:H?)(aY:AL)(L:k!),nd! H' BM! Fx! EN aY->sf! H'->cz!->KX! (EN.length=ys.length) (qE! IN! O6! bH! (My!/\b∉EN.flatMap C1/\b∉QD aY)) TZ! LE! y)
def Due(m:Nat)(W:EE)(H3:Hp)(O O':KC)(aV:Addr):BI! LL
 | .ask s g n u=>∃q G hs os rs,YO!/\Du!/\t8 O O' g u G.AU MG!/\mT! [us! LL.HQ n].map
 | .HQ s g n u tick S=>(Gw!=AR!/\O'=F5!/\mT! (Cp m g n 2).map)\/(oO!/\bm!/\O'=F5!/\mT! ([]:S!).map)\/(oO!/\¬bm!/\∃(x:Addr)(as:M!)(ts:D!),O'=LV!/\dm! H3 x as.map V.ref/\b6! H3/\OZ! Dx! Ix!/\mT! (Ga m g ts).map)
 | _=>False
theorem Jd0{a b new:S!}{z:LL}{n u:Int}(h:Pq n u z=none)(h2:K7! new=[]):(Bi Mj! n u).Perm (Bi (M3!) n u):=by rw[A9,A9,h2,AE,A9,Dj,h];exact List.Perm.refl _
theorem Jo9{s g n u t k u':Int}{S:HS}(ne:n≠k):Bi [LT!] k u'=[]:=DM! Dj (Cf! (Pq k u' (LT!)=none) (AB λz=>ne z.1))
theorem Jdk{l:k!}{n k:Int}{x:Addr}(h:Ml! l H4!):Sm! (l++[(n,x)])=Lm! ((Sum.inl k:Key)=Sum.inl n) (i? x) (Sm! l):=by
 have e:kvsOf (l++[(n,x)])=kvsOf l++[(H4!,Q? x)]:=by unfold kvsOf;rw[ZF];rfl
 rw[e];exact Ug _ _ _ _ h
theorem gSq(g:GG):DQ 8 R_ TR rx! Jp0:=by
 refine CI! g.mSq.fn.IV cx;obtain⟨p,ad,t,W,D,m,n,d,nA,nB,A',B',al,ys,As,l1,l2,num,rfl,B,hn,hB,hd,el,cA,cB,k⟩:=h;refine W!;have hu:=I?;have HC:ap:=M?;have JR:Kd!:=M?;have d_:Cn 4 _:=M?;have mI:Cn 6 _:=M?;refine Ae! (Ac (VU! (t9! Hu!) (eI! gLC hr g.mLc.mg g.mLc.fn.kp g.mLc.bd R!)) (Ac (VU! (Aw Xe Hu! (QB! Be Be) rfl) (QW! g.mWDe.mt xS mI g.mWDe.bd Hu!)) (Y3! (qT! i 4 te nG jP! cx.nd (OH! P?) Jp! v8! (VO! sh!)) (iF! cx.nd (ic! (Af! Hu!))) (iy! (QW! g.mWIn.mt Jo2 HC g.mWIn.bd (Af! Hu!)) (QB! E1 (Ce Ae)) N3) (Bj (t9! Hu!) (Af (CJ! 6 cx.nd (i3! gAC g.mAc.mg g.mAc.fn.kp g.mAc.bd (Ji! a? WP R!)))) (Af (CJ! 6 cx.nd (i3! gAN g.mAn.mg g.mAn.fn.kp g.mAn.bd (Ji! WP R! P?))))) (CJ! 7 cx.nd (QW! g.mWDe.mt xS mI g.mWDe.bd Hu!)) (qK! (wB! Gs j? (u7! nG jP! (OH! P?) JJ! Jp! JL! sh!)) (eI! gBo d_ g.mBo.mg g.mBo.fn.kp g.mBo.bd C3!) B0! N3) (V0! 7))));have lw:=B.wi.lw;rw[el] at lw;obtain⟨a,z,b,es,p1,p2,p3⟩:=Y2 lw;have hz:z∈al:=N8!
 have XW:∀{W':EE} {EN:H?},Tm!->qE! IN! O6! bH! (My!/\b∉EN.flatMap C1):=λ{W' EN} fp b o e h1 h2 _ _=>by (have no:¬(b∈P0!\/b∈EN.flatMap C1):=λz=>by rcases fp b z with h|h|h;(.exact h1 h);(.exact h2 h);.rw[e] at h;cases h);exact⟨io! Z!,io! J?⟩
 have cls:(∃s g ts,z=.lt s g ts)\/(∃l,z=.w l)\/∃kd s0 g0 n' u a0,ZA! [T! num,Ak! kd,T! s0,T! g0,F? a0]/\G2! a0 [T! n',T! u]/\((kd=Rs/\z=D2! s0 g0 n' u)\/(kd=BD!/\∃tick S,z=.HQ s0 g0 n' u tick S)):=by cases z with | lt s g ts=>exact J! nh! | w l=>exact Bs! z? | ask s0 g0 n' u=>obtain⟨a0,e1,e2⟩:=on! (OD H t num Rs s0 g0 n' u);exact Ap! ⟨_,_,_,_,_,_,e1,e2,J! BP!⟩ | HQ s0 g0 n' u tick S=>obtain⟨⟨a0,e1,e2⟩,_⟩:=id p2;exact Ap! ⟨_,_,_,_,_,_,e1,e2,I! ⟨rfl,_,_,rfl⟩⟩
 rcases cls with⟨s0,g0,ts,rfl⟩|⟨l,rfl⟩|⟨kd,s0,g0,n',u,a0,et,bt,hk⟩;· obtain⟨a0,pI,et,bt,dM⟩:=on! (UW H t num s0 g0 ts);refine⟨_,rfl,t,_,1,_,rfl,rfl,Cv!,rfl,rfl,_,rfl,Ck ⟨_,rfl,_,rfl,p,t,W,D,m,n,d,nA,nB,A',B',al,a,b,ys,l1,l2,num,s0,g0,ts,rfl,B.wi,hn,hB,el,es,p1,p2,p3,cA,cB,λy H' W' D' L bs wi mk JY fp eS nw ey=>?_⟩⟩;exact k y H' W' D' _ ys As L (B.quiet wi JY fp (λn u=>uY! (Jd0 rfl (RB! bs))) nw.fi) (λb o e h1 h2 _ _=>JY b o e h1 h2) mk rfl (λb o e h1 h2 h3 h4=>⟨(XW fp b o e h1 h2 h3 h4).1,(XW fp b o e h1 h2 h3 h4).2,h4⟩) nw.toNv ey
 · obtain⟨a0,b0,et,_⟩:=on! (KD H t num l.kind l.s l.g l.th l.x);(have hl:l∈JL al:=H! (Jfg es) Vf!);have kd:=(B.wi.wg.wl.ok _ hl).kd;refine sO! t Cv!;(have c1:¬V.str l.kind=V.str Cz!:=λz=>by have z:=V.str.inj z;rw[z] at kd;revert kd;decide +kernel);rw[Ax! c1];refine Cc (ZL! t _ 1 Cv! rfl Bc! (No ⟨q,_,rfl,I6! CA.of Ab,rfl,rfl,_,rfl,?_⟩));have s1:=Vt! (V.str Rs) (V.str BD!) hq;generalize jV! q oU!=H1 at s1;rw[e?,show r? (r_ (V.str l.kind) oU!) by rcases kd with e|e|e|e<;>(rw[e];decide +kernel)];have B1:=B.same s1;have NS:=EI s1;obtain⟨dx,hp⟩:=B1.wi.wa.ob;refine Ck ⟨_,rfl,p,dx,_,rfl,hp,EN!,_,rfl,t,_,0,_,rfl,rfl,Nb! s1 et,rfl,?_⟩;refine Vn (R:=dH! (∃y L,∃bs:T?,v=F? y/\Gj!/\K2!/\cz!/\LE!/\al'=m?++QO!)) B1.wi hn hB el es (Bq p1 NS) (ol! NS) (Bq p3 NS) cA cB (λv W' D' al' EN H' r fp wi JY eS=>?_) λy L bs W' H' nw mk ey=>⟨y,L,bs,rfl,rfl,nw,mk,ey,rfl⟩;obtain⟨y,L,bs,rfl,rfl,nw,mk,ey,rfl⟩:=r;have j8:Fp p W EN W' EN H:=N? ((fp b hb).imp id λh=>h.imp id λh=>Cm s1 h);exact k y H' W' D' _ EN As L (B1.quiet wi JY fp (λn u=>uY! (Jd0 rfl (RB! bs))) nw.fi) (λb o e h1 h2 _ _=>JY b o kB! h1 h2) mk rfl (λb o e h1 h2 h3 h4=>⟨(XW j8 b o e h1 h2 h3 h4).1,(XW j8 b o e h1 h2 h3 h4).2,h4⟩) nw.toNv ey
 · (have kn:cK! (n'∈ms!):=by have:=CY! B.wi.kn;rcases hk with⟨_,rfl⟩|⟨_,_,_,rfl⟩<;>exact this);obtain⟨kn,ku⟩:=kn;obtain⟨y,hy,ey⟩:=ZN kn;have ey:y.n=n':=ey;subst ey;obtain⟨j,hj⟩:=DA.mp hy;obtain⟨⟨N,o,O⟩,E_⟩:=av! As B.lk;obtain⟨yN,lk,dn⟩:=Ax B.lk j y _ hj E_;have yN:y.n=N:=yN;have lk:Lk al y.n y.fi y.se O:=lk;have dn:sK! O:=dn;have iv:=B.wi.iv y hy;have mo:=ZP E_;have op:y.se.length≠m:=iv.qh B.wi.m1 (by rcases hk with⟨_,rfl⟩|⟨_,_,_,rfl⟩;(.exact J! (A1! _ _ hz ku));.exact I! ⟨_,_,_,_,_,hz,ku⟩);have br:O1!:=B.wi.wg.wl.len;have m5:=B.wi.m5;refine sO! t Cv!;(have c1:¬V.str kd=V.str Cz!:=λz=>by have z:=V.str.inj z;rcases hk with⟨e,_⟩|⟨e,_⟩<;>(rw[e] at z;revert z;decide +kernel));rw[Ax! c1];refine Cc (ZL! t _ 1 Cv! rfl Bc! (No ⟨q,_,rfl,I6! CA.of Ab,rfl,rfl,_,rfl,?_⟩));have s1:=Vt! (V.str Rs) (V.str BD!) hq;generalize jV! q oU!=H1 at s1;rw[e?,show r_ (V.str kd) oU!=true by rcases hk with⟨e,_⟩|⟨e,_⟩<;>(rw[e];decide +kernel)];have B1:=B.same s1;refine Cc (n5! (λiU mG=>?_));rw[CQ];refine po! B1.wi.wa br mG (λH2 s2 wJ=>?_);have RE:=Tj!;have B2:=B.same RE;obtain⟨IZ,GV⟩:=B2.wi.wa.ob;have wL:=E! RE et;have wm:=E! RE bt;have O2:=B2.ak.on _ mo;have O2:EX H2 o O:=O2;(have gd:aB! ad y.n (L4! o):=by (have e:Zv! XZ As ib! o:=by unfold XZ;rw[Sp! X1! (Ra! u?),yN,Hj (k:=X1!) (r:=(N,o,O)) B.akn mo];rfl);rw[<-e];exact DS.k (k:=I5! y.n) B2.ak.ob);refine⟨_,rfl,_,rfl,t,_,4,_,rfl,rfl,d? wL,rfl,a0,_,0,_,rfl,rfl,d? wm,rfl,ad,_,rfl,gd,?_⟩;refine⟨_,rfl,p,IZ,_,rfl,GV,EN!,_,rfl,t,_,4,_,rfl,rfl,d? wL,rfl,a0,_,0,_,rfl,rfl,d? wm,rfl,p,y.n,W,rfl,B2.wi.wa,C1! (y.n,y.io) (H! B.wi.iq nR!),Al! (dn.no op) (λx e H3 s3 ex ee=>lV! (λe1 mR=>⟨Bc!,λe2 vp=>?_⟩))⟩;have s4:=Ag (o:=.BB []) mR;have wj:DI! H3 e1 [] e1 []:=Ab;generalize wP H3 e1 .BB []=H4 at s4 wj vp;have s5:=Vt! (V.bl false) (Q? e1) vp;have we:DI! H4 e2 [V.bl false,Q? e1] e2 [V.bl false,Q? e1]:=Ab;generalize Cw! H4 e2 [V.bl false,Q? e1]=H5 at s5 we;have rN:=Ai s4 s5;have ud:aA (D9! [bi false,EO! []]):=⟨ZV,ZV⟩;refine⟨EO! [bi false,EO! []],EO! [bi false,EO! []],lt! (X! rN ex) (Iz! (CA.of (X! rN ee)) L!),lt! we (Iz! (CA.of (X! s5 wj)) L!),ud,ud,_,rfl,?_⟩;rw[Fn ud];refine B3!;have l8:=Ai s3 rN;have B5:=B2.same l8;have O5:=O2.same l8;have sU:=E! l8 wL;have ea5:=E! l8 wm;have z_:=E! l8 wJ;have oA:=Ai RE l8;have oF:h? iU:=Cm s1 mG;clear ex ee wj we s4 s5 rN s3 GV gd mR vp mG hq;dsimp only [tW];refine tP (λEV H6=>∃aV O',EV=[AV!,KO!,Ru!,Fk!,i? iU,Rv!,i? aV,none]/\EX H6 o O'/\dE!/\dF!/\(∀b v,Cj! H5 v->gL!->Cj! H6 v)/\BD H5 H6/\FM H5 aV/\Due m W H6 O O' aV z) ?_ ?_;(.intro nx hx;refine sO! t (d? sU);have nf:∀{b:Addr},gL!->b≠o/\b≠O.fd/\b≠O.sd:=λ{b} h=>⟨X? h (by rw[z];simp[Do]),X? h (by rw[z];simp[Do]),X? h (by rw[z];simp[Do])⟩;have z1:=lk.zJ iv;have z2:=lk.zI iv;rcases hk with⟨rfl,rfl⟩|⟨rfl,tick,S,rfl⟩;(.rw[Y1!];have mg:g0∈C3 al y.n u:=CT.mpr wi!;obtain⟨sP,g01⟩:=iv.qb ku mg;obtain⟨⟨q,G⟩,hi⟩:=Qf! W.qs g0.toNat;have i:JF W g0 q G:=XO! sP;obtain⟨sd,nu⟩:=B.wi.wg.num i.2;obtain⟨hs,os,rs,JM⟩:=q4! B.wi.wg.wl.good;refine Ck ⟨_,rfl,_,rfl,_,rfl,p,o,t,W,O,num,s0,g0,y.n,u,q,G,hs,os,rs,rfl,B5.wi.wa,O5,⟨a0,sU,ea5⟩,i,JM.tells sd.ok F!,Ms!,Ms!,B!,B!,λr O' H6 nr o6 ac fr kt rp=>?_⟩;(.subst e;exact lk.lX iv mg);(.rcases ku with e2|e2;(.exact BK! e2 e);.subst e2;exact lk.lW iv mg);·(have ef:dE!/\dF!:=by cases ac with|one _ _ _ h=>rw[h];exact BP!|two _ h=>rw[h];exact BP!);exact KH! ⟨r,O',rfl,o6,ef.1,ef.2,λb v e hb=>fr b v e (nf hb).2.1 (nf hb).2.2,kt,nr,q,G,hs,os,rs,hi,JM,ac,rp⟩);.rw[NU!];refine Cc ⟨_,rfl,_,rfl,_,rfl,o,t,O,num,s0,g0,y.n,u,m,rfl,O5,⟨a0,sU,ea5⟩,B!,λc r H6 nr o6 fr rp=>?_,λc1 c2 r H6 nr o6 fr rp=>?_,λc1 c2=>?_⟩;(.exact KH! ⟨r,_,rfl,o6,rfl,rfl,λb v e hb=>fr.1 b v e (nf hb).1,fr.2,nr,J! (FT! c rp)⟩);(.exact KH! ⟨r,_,rfl,o6,rfl,rfl,λb v e hb=>fr.1 b v e (nf hb).1,fr.2,nr,Bs! (Au! c1 c2 rp)⟩);.have lc:=lk.c;have m1:=B.wi.m1;have t1:=iv.t1.length_eq;simp only[ZE,ZA,Du] at t1;(have fs:bg!/\F4!=m:=by rcases iv.t2 with⟨h1,_,_,h4⟩|⟨h1,pm⟩;(.rw[h4] at lc;simp only[BS] at lc;lia);.have t2:=pm.length_eq;simp only[ZE,ZA,Du] at t2;lia);(have u2:u=2:=by rcases ku with e|e;(.subst e;have:ma! 1:=q6!;lia);.exact e);subst u2;obtain⟨a1,⟨cf,a2⟩,a3⟩:=lk.last iv es fs.1 fs.2 O5.ns;refine⟨a1,B!,PR.perm (a3 cf a2).symm (B.wi.fF hn hy fs.1 _),λr x as ts H6 nr o6 fr ex th fo rp=>?_⟩;exact KH! ⟨r,_,rfl,o6,rfl,rfl,λb v e hb=>fr.1 b v e (nf hb).1,fr.2,nr,Ap! ⟨c1,c2,x,as,ts,rfl,ex,th,fo,rp⟩⟩);.rintro EV H6 ⟨aV,O',rfl,o6,e1,e2,ao,bW,nd6,du⟩;have iG:∀b,b∈Do o O->CR!/\IN!:=N? (B.off b (iR! (jp mo hb)));have iS:WI H6 p W D m n d nA nB al ys:=B5.wi.keep (λb v hb e=>ao b v e λz=>hb.elim (iG b z).1 (iG b z).2) bW;have et6:=E! bW.BB sU;obtain⟨YZ,bZ⟩:=iS.wa.ob;have aG:=(EI oA).trans bW;have ndu:h? aV:=Cm oA nd6;have gb:∀{b:Addr},t?->CR!/\IN!:=λ{b} h0=>Mp! (λz=>(by obtain⟨o',e,_⟩:=B.wi.wa.some_at z;rw[h0] at e;cases e)) (by obtain⟨y',oR,hb⟩:=SM!;obtain⟨o',e,_⟩:=(B.wi.at_ y' oR).has hb;rw[h0] at e;cases e);(have yx:iU∉Do o O:=λz=>by obtain⟨v,e⟩:=B.has (J? (BG.mpr (jp mo z)));rw[oF] at e;cases e);have qT:=o! ao z_ yx;(have j8:∀{W':EE} {EN:H?},Fp p W ys W' EN H6->Tm!:=λ{W' EN} fp b hb=>(fp b hb).imp id λh=>h.imp id λh=>by cases e:H b with | none=>rfl | some v =>by_cases c:b∈Do o O;(·(have:b=o\/b=O.fd\/b=O.sd:=by simpa [Do] using c);rcases this with z|z|z;(.rw[z,o6.ob] at h;cases h);(.rw[z,<-e1,o6.f] at h;cases h);.rw[z,<-e2,o6.s] at h;cases h);.rw[ao b v (X! oA e) c] at h;cases h);have sfr:∀{H7:Hp},Pr p W ys H6 H7->sf! H7:=λ{H7} f b v e h1 h2 _ h4=>f b v (ao b v (X! oA e) λz=>h4 (BG.mpr (jp mo z))) h1 h2;have akf:∀{H7:Hp},Pr p W ys H6 H7->∀b v,hw!->(b=ad\/Wj!)->gL!->Cj! H7 v:=λ{H7} f b v e hb hn=>f b v (ao b v (X! oA e) hn) (Po! B.off) (B.off b hb).2;have o67:∀{H7:Hp},Pr p W ys H6 H7->EX H7 o O':=λ{H7} f=>o6.keep (λb v hb e=>f b v e (iG b (by unfold Do at *;rw[e1,e2] at hb;exact hb)).1 (iG b (by unfold Do at *;rw[e1,e2] at hb;exact hb)).2) (iS.DJ f);have p4:∀{H7:Hp} {ds:Eb!},Pr p W ys H6 H7->KY H6 aV ds->KY H7 aV ds:=λ{H7 ds} f r=>r.keep (λv e=>f _ _ e (gb ndu).1 (gb ndu).2) (iS.DJ f);refine tP (λEV H7=>∃(y7:Addr)(W':EE)(D':n?)(al':S!)(EN:H?)(aY:AL)(L:k!)(new:S!),EV=[AV!,KO!,Ru!,Fk!,i? iU,Rv!,i? aV,i? y7]/\nd! H7 BM! Fx! EN aY/\Iw!/\EN.length=ys.length/\QD aY=QD As/\Tm!/\TZ!/\h5! H7 y7 dw!/\al'=Py!/\(∀z∈new,ml!)/\KY H7 aV (new.map L_)/\L? H7 iU (.BJ (W.qs.map oK!))/\sf! H7/\L.length<=12) ?_ ?_;(.intro nx hx;refine⟨_,rfl,p,YZ,_,rfl,bZ,EN!,_,rfl,t,_,0,_,rfl,rfl,d? et6,rfl,?_⟩;(have qC:∀{W':EE} {D':n?} {H7:Hp} {EN:H?} {L:k!} {new:S!},cS! H7 BM! Fx! Mj! EN->TZ!->new.length<=12->L.length<=12:=λ{W' D' H7 EN L new} wi nv h=>by have h1:=wi.len.1;rw[nv.ls,ZE,ZE,ZE,ZE,y! p1,y! p3] at h1;lia);rcases hk with⟨rfl,rfl⟩|⟨rfl,tick,S,rfl⟩;(.refine Jau (R:=dH! (∃y7 L q1 G1 gq mB l9,v=F? y7/\Gj!/\pc (W.qs[g0.toNat]?) q1 G1/\Told G1 gq mB l9/\K2!/\Iw!/\wD! y7/\al'=Fr! (LL.HQ g0 s0 y.n u G1.AU (gq,mB,l9)))) iS hn hB hd el es (Bq p1 aG) (ol! aG) (Bq p3 aG) cA cB (λv W' D' al' EN H7 r fp wi JY eS=>?_) λy7 L W' H' q1 G1 gq mB l9 gL nV nw e1 e2=>⟨y7,L,q1,G1,gq,mB,l9,rfl,rfl,gL,nV,nw,e1,e2,rfl⟩;obtain⟨y7,L,q1,G1,gq,mB,l9,rfl,rfl,gL,nV,nw,kA,mX,rfl⟩:=r;obtain⟨q,G,hs,os,rs,hi,JM,ac,rp⟩:=du;rw[hi] at gL;cases gL;obtain⟨rfl,rfl,rfl⟩:=JM.one nV;have bo:=B.upd (y':=y) (O':=O') hj E_ (q! (Ij hj) wi) e1 e2 rfl (o67 JY) (by rw[es] at lk;exact lk.asked ac ku) ⟨λh=>H! nw.fi (dn.no h),λh=>NP! op⟩ (aG.trans (iS.DJ JY)) (akf JY) (λk u' ne=>z! es (xP (z:=LL.ask s0 g0 y.n u) rfl (Jo9 (L8! ne)))) (oG! nw.fi) (q! (Ij hj) (B.c6 (j8 fp)));rw[Ij hj] at bo;exact KH! ⟨y7,W',D',_,EN,_,L,[LL.HQ g0 s0 y.n u _ _],rfl,bo,kA,rfl,Xh E_ e1 e2,j8 fp,nw.toNv,mX,rfl,(λz hz k e=>by rw[ZK hz] at e;cases e),p4 JY rp,JY _ _ qT (gb oF).1 (gb oF).2,sfr JY,qC wi nw.toNv (dJ! (1<=12))⟩);.refine Vo (R:=dH! (∃y7 L,v=F? y7/\Iw!/\TZ!/\wD! y7/\xN m W W' a b al' ys EN H' s0 g0 y.n u tick S)) iS hn hB hd el es (Bq p1 aG) (ol! aG) (Bq p3 aG) cA cB (λv W' D' al' EN H7 r fp wi JY eS=>?_) λv L W' al' EN H' e1 nv e2 ae=>⟨v,L,rfl,e1,nv,e2,ae⟩;obtain⟨y7,L,rfl,kA,jg,mX,y0,y',i1,i2,new,f1,f2,f3,f4,f5,f6⟩:=r;(have vf:ys[i1.length]?=A! y0:=Iy! f1 (FU (ZG _)) Nat.sub_self);(have jj:j=i1.length:=by (have a1:(ys.map E0!)[j]?=A! y.n:=CS! hj);(have a2:(ys.map E0!)[i1.length]?=A! y.n:=by rw[ZH,vf,<-f3];rfl);obtain⟨q1,g1⟩:=ZJ a1;obtain⟨q2,g2⟩:=ZJ a2;exact(FN B.wi.ji).mp (g1.trans g2.symm));subst jj;rw[hj] at vf;cases vf;(have f2':EN=ys.set i1.length y':=by rw[f2,f1];simp);subst f2';subst f5;have lc:=lk.c;have m1:=B.wi.m1;have t1:=iv.t1.length_eq;simp only[ZE,ZA,Du] at t1;(have fin:∀(hL:Lk Mj! y'.n y'.fi y'.se O')(hD:Dn H7 W' m y' O')(hm:∀k u',Bi new k u'=[])(hw:∀z∈new,ml!)(hl:new.length<=12)(rp:KY H6 aV (new.map L_))(ef:∀k:Int,k≠y.n->Sm! W'.FK=Sm! W.FK),nx [AV!,KO!,Ru!,Fk!,i? iU,Rv!,i? aV,i? y7] H7:=by intro hL hD hm hw hl rp ef;have bo:=B.upd (y':=y') (O':=O') hj E_ wi e1 e2 f4 (o67 JY) hL hD (aG.trans (iS.DJ JY)) (akf JY) (λk u' ne=>by rw[es,<-xP (new:=new) (z:=LL.HQ s0 g0 y.n u tick S) (AB λz=>ne z.1.symm) (hm k u')]) ef (B.c6 (j8 fp));exact KH! ⟨y7,W',D',_,_,_,L,new,rfl,bo,kA,AM! List.length_set,Xh E_ e1 e2,j8 fp,jg,mX,rfl,hw,p4 JY rp,JY _ _ qT (gb oF).1 (gb oF).2,sfr JY,qC wi jg hl⟩);(have aw:∀{c:Int} {k':Int},∀z∈Cp m c k' 2,ml!:=λ{c k'} z hz k e=>by obtain⟨i,_,rfl⟩:=BZ!;cases e);(have tw:∀{ts:D!},∀z∈Ga m g0 ts,ml!:=λ{ts} z hz k e=>by obtain⟨i,_,rfl⟩:=BZ!;cases e);rcases f6 with⟨rfl,g1,g2,g3,g4⟩|⟨rfl,g1,g2,g4⟩;(.have an:ma! 1:=q6!;(have uR:y.se=[]:=by rcases iv.t2 with⟨_,_,_,h⟩|⟨h,_⟩;(.exact h);.lia);(have sl0:y.se.length=0:=be uR);have hD:∀O',Dn H7 W' m y' O':=λO'=>⟨λ_=>ga g3 f4 (dn.no op),λh=>EL! (by rw[g1] at h;exact h) op⟩;rw[es] at lk;rcases g4 with⟨rfl,g5⟩|⟨rfl,g5⟩;(.rcases du with⟨h,_⟩|⟨h1,h2,rfl,rp⟩|⟨_,h,_⟩;(.lia);(.exact sg! lk.first O.dv Cg! (hD _) fd! mw! (Gq! (0<=12)) (oG! g3));.lia);.rcases du with⟨h,rfl,rp⟩|⟨h1,_⟩|⟨h1,_⟩;(.exact sg! lk.first O.dv (λ_=>Fb) (hD _) (λ_ _=>Fb) aw (by unfold Cp;rw[ZA,BW];exact m5) (oG! g3));(.lia);.lia);·(have fl:bg!:=by rcases iv.t2 with⟨_,_,h,_⟩|⟨h,_⟩;(.have:ma! 2:=q6!;rw[h] at this;cases this);.exact h);(have sm:F4!<=m:=by rcases iv.t2 with⟨h,_⟩|⟨_,pm⟩;(.lia);.have t2:=pm.length_eq;simp only[ZE,ZA,Du] at t2;have:ma! 2:=q6!;lia);(have rL:y'.se.length=F4!:=DM! g2 ZE);rcases g4 with⟨rfl,g5,g6⟩|⟨g5,ts,xf,JZ,rfl,g6,aq,thf,cf,i_,fo⟩;(.rcases du with⟨h,_⟩|⟨h1,h2,rfl,rp⟩|⟨_,h,_⟩;(.lia);(.rw[es] at lk;exact sg! lk.second O.dv Cg! ⟨λ_=>ga g6 f4 (dn.no op),λh=>HO! absurd h rL g5⟩ fd! mw! (Gq! (0<=12)) (oG! g6));.lia);.rcases du with⟨h,_⟩|⟨_,h,_⟩|⟨_,_,x,as,gV,rfl,ex,th,fo',rp⟩;(.lia);(.lia);.obtain⟨_,_,a3⟩:=lk.last iv es fl g5 O5.ns;rw[g2] at i_;have ee:gV=ts:=(Found.perm (a3 cf i_) fo').one fo;subst ee;have XT:=iS.DJ JY;rw[es] at lk;exact sg! lk.second MJ! (λ_=>K3) ⟨λh=>ME! rL.trans g5 h,λ_=>⟨gV,x,xf,as,JZ,rfl,E! XT.BB ex,JY! XT th,by rw[g6,f4,Jdk (dn.no op),e?],aq,thf⟩⟩ (λ_ _=>K3) tw (by unfold Ga;rw[ZA,BW];exact m5) (λk ne=>by rw[g6,Jdk (dn.no op),AB (JF! ne Sum.inl.inj)]));.rintro EV H7 ⟨y7,W',D',al',EN,aY,L,new,rfl,B7,kA,ln7,eo7,fp7,jg,mX,ea7,nw7,ua,zy,sf7,hz7⟩;refine⟨_,rfl,_,rfl,AR!,rfl,B!,B!,λJQt k_=>?_⟩;rw[CQ];refine po! B7.wi.wa (q! kA br) k_ (λH8 s8 qS=>?_);rw[kA] at qS;refine Oi! (Kr (E! s8 zy)) (Kr qS) (Hw _) (Hw _);rw[Fn (Hw _)];have B8:=B7.same s8;(have uw:i6!=AU! m?:=by rw[ZE,ZE,y! p1,y! p3]);(have pn:Yr! H8 W'.EF new:=by have:=B8.wi.lw;rw[jg.ls,ea7] at this;exact Ky this uw);(have zL:hE!:=by have h1:=B8.wi.len;(have h2:W'.ls.length=i6!+L.length:=z! jg.ls ZE);have h3:=hz7;lia);have ok:bz! new.map L_:=Tn λz hz k e=>(nw7 z hz k e).elim;refine Cc ⟨_,rfl,_,rfl,p,y7,W',al',new,I0!,L,rfl,B8.wi.wa,E! s8 mX,B8.wi.lw,jg.ls,pn,zL,λr9 H9 s9 rp9=>?_⟩;have ny:=Ai s8 s9;refine PP! _ _ rp9 (ua.keep (λv e=>Am! ny) (EI ny)).rep ok ok _ ?_;rw[Fn ok];refine in! (k y7 H9 W' D' al' EN aY L (B7.same ny) (λb' v e h1 h2 h3 h4=>E! ny (sf7 b' v e h1 h2 h3 h4)) (AM! kA) ln7 (λb' v e h1 h2 h3 h4=>⟨(XW fp7 b' v e h1 h2 h3 h4).1,(XW fp7 b' v e h1 h2 h3 h4).2,H! eo7 h4⟩) jg (X! ny mX))
theorem pZ:A? [Cy!,uE!,JT!] iu! xq:={}
inductive Jpz(vs:C!)(H:Hp)(Q:VK)(E:XK):Prop
 | mk (p ad:Addr) (W:EE) (D:n?) (m n d A B:Nat) (al:S!) (ys:H?) (As:AL) (_:ii! ad) (_:Fv!) (_:O0! X2!) (_:∀H',Q (.bl true) H')
theorem xw(ts:D!):aA (D9! [SK!,a1!]):=by
 obtain⟨h1,h2⟩:=tN (V2 ts);refine Fj!;.simp only[PyData.canLay0,PyData.canLayAll0,h1,H_,HZ]
 .simp only[PyData.depth,PyData.depthAll];lia
theorem gTd(g:GG):DQ 2 RX TM iu! Jpz:=by
 refine CI! g.mTd.fn.IV pZ;obtain⟨p,ad,W,D,m,n,d,nA,nB,al,ys,As,rfl,B,dn,k⟩:=h;refine W!;have hu:=I?;refine L1! (n0! (Zr (pv 1)) (H2! pZ.nd) (iy! (QW! g.mWIn.mt Jo2 hr g.mWIn.bd R!) (QB! E1 (Br hu (ic! R!) Be)) E1)) (QE.YB (wT E1));refine IT! ad rfl B.ak.ob (λob=>?_);refine n6! Vd ad ob ((∃u2,σ=g1! KO!)/\L? H' ad (.FQ ob (.dK (XZ As)))/\p?/\uB! JQ! O6! H') ⟨z?,Ab,Fz B.ak.ob,λb u e n=>Nj!⟩ (λi σ H' _ z=>z.2.1);.rintro i kk v σ H2 hi ⟨⟨u2,rfl⟩,ef,kt,fr⟩;unfold XZ at hi;rw[ZH] at hi;cases dN:As[i]? with | none=>rw[dN] at hi;cases hi | some r =>rw[dN] at hi;cases hi;obtain⟨N,o,O⟩:=r;have mo:=ZP dN;obtain⟨y,hy⟩:=eQ! ys (f7! (y! B.lk) dN);have my:=ZP hy;obtain⟨yN,_,wy⟩:=Ax B.lk i y _ hy dN;have yN:y.n=N:=yN;have wy:sK! O:=wy;subst yN;obtain⟨ts,x,xf,as,JZ,e1,e2,e3,e4,e5,e6⟩:=wy.yes (dn y my);have o1:Ik!:=B.ak.on _ mo;have nao:o≠ad:=KY! B.ak.off (BG.mpr (jp mo hG!));have wa2:s5! H2:=B.wi.wa.keep λb v hb e=>fr b v e λz=>(B.off b (Z! z)).1 hb;obtain⟨dx,hp⟩:=wa2.ob;(have gd:∀{H3:Hp},Bu H2 H3->DS H3 ad (Op y.n) (L4! o):=λ{H3} s3=>by (have e:Zv! XZ As ib! o:=by unfold XZ;rw[Sp! X1! (Ra! u?),Hj (k:=X1!) (r:=(y.n,o,O)) B.akn mo];rfl);rw[<-e];exact J! (DR! _ (J! y.n) (iC! (F7! ef)) rfl));refine⟨_,rfl,p,dx,_,rfl,hp,EN!,_,rfl,p,y.n,W,rfl,wa2,C1! (y.n,y.io) (H! B.wi.iq (Pv! y my)),I! ⟨xf,e4,λq H3 s3 eq=>?_⟩⟩;refine⟨_,rfl,_,rfl,ad,_,rfl,gd s3,o,_,rfl,(by have z:=LN! (MU! (fr _ _ o1.ob nao)) Z2;rw[e1] at z;exact z),Bc!,λq2 gH=>?_⟩;have s4:=Vt! (V.bl true) (Q? x) gH;have uV:=Ai s3 s4;have LF:=A5! kt.trans uV;refine⟨EO! [SK!,a1!],EO! [SK!,a1!],lt! (X! s4 eq) (ll! LF.BB e5 (BC.keep LF e6)),lt! Ab (ll! LF.BB e2 (BC.keep LF e3)),xw ts,xw ts,_,rfl,?_⟩;rw[Fn (xw ts)];exact Cc ⟨z?,E! uV ef,LF,λb u e n=>E! uV (fr b u e n)⟩
 .rintro σ H2 ⟨⟨u2,rfl⟩,ef,kt,fr⟩;refine⟨Kz! H2 ad XZ As,⟨ad,ob,_,ef,λug v z=>?_,rfl⟩,k _⟩;have z:HM! ad (.FQ ug v):=z;rw[B.ak.ob] at z;cases z
theorem pj:A? [Cy!,MH!,Pl!,Vj!,"_law_deed_here"] rQ! xg:={}
inductive Jp3(vs:C!)(H:Hp)(Q:VK)(E:XK):Prop
 | mk (p:Addr) (W:EE) (D:n?) (m n d A B:Nat) (al:S!) (ys:H?) (c:Int) (fr:Bool) (_:vs=[y?,T! AR!,T! c,.bl fr]) (_:g?) (_:sK) (_:A4!) (_:d<900)
   (_:∀(v:V)(H':Hp)(W':EE)(D':n?)(bs:T?)(L:k!),WI H' p W' D' m BM! Fx! A (B+5) (al++QO!) ys->T3!->um! ys->Qo!->Na!)
theorem gAm(g:GG):DQ 9 TB UR rQ! Jp3:=by
 refine CI! g.mAm.fn.IV pj;obtain⟨p,W,D,m,n,d,nA,nB,al,ys,c,fr,rfl,S,hn,hB,hd,k⟩:=h;refine W!;have d_:Cn 4 _:=M?;refine vq! 4 pj.nd (i3! gDe g.mDe.mg g.mDe.fn.kp g.mDe.bd (Aa a? (PY! d! R! E1 P?))) (Af (Bj (Yd! (Af! j?) Be) (Df! (eI! gTy hr g.mTy.mg g.mTy.fn.kp g.mTy.bd j?)) A5));refine⟨_,rfl,_,rfl,_,rfl,_,rfl,p,W,D,m,n,al,ys,c,false,fr,rfl,S,hn,λx H1 dd s1 ex va na=>?_⟩;have S1:=IF!;have fp1:Fp p W ys W ys H:=N? (pU! Nm!);have N_:∀v,Q v H1:=λv=>k v H1 W D [] [] (RS! DW (S1.upn (ZG _) (E' ..))) (λb o e _ _=>Am! s1) fp1 (pK! Nv.zero);have go:pT m nA nB nA (nB+5) dd->(∀u W' al' EN H',sP! H1 u->rE! Gj!)->Jla [y?,MJ!] H1 (λv H'=>∀v,Na!) E:=λcs he=>by refine⟨p,x,W,D,m,n,d,nA,nB,nA,nB+5,al,ys,dd,rfl,ex,S1,hn,hB,hd,va,cs,λv H' W' D' al' EN wi JY fp eS td v=>?_⟩;rcases td with⟨u,e⟩|⟨rfl,rfl,rfl,_⟩;(.obtain⟨rfl,⟨bs,rfl⟩,L,nw⟩:=he _ _ _ _ _ e;exact k v H' W' D' bs L wi (Cc! (JY b o kB! h1 h2)) (Ct! ((fp b hb).imp id (Or.imp id λh=>by cases z:H b with | none=>rfl | some o=>rw[E! s1 z] at h;cases h))) nw);.exact k v H' W' D' [] [] (RS! DW wi) (Cc! (JY b o kB! h1 h2)) fp1 (pK! Nv.zero)
 obtain⟨wd,r,e,hw⟩:∃wd r,sj dd=Ak! wd::r/\(wd=HE!\/(¬wd=HE!/\pT m nA nB nA (nB+5) dd/\∀u W' al' EN H',sP! H1 u->rE! Gj!)):=by have c0:nA<=nA/\nB<=nB+5:=al!;cases dd with | make h=>exact nk! c0 | three w9 h a b =>obtain⟨q,G,ta,tb,i,ea,eb,ha,hh,v⟩:=va;refine Au! _ _ (I! ⟨?_,c0,λ_ _ _ _ _ z=>z⟩);(rcases v with⟨rfl,hb⟩|⟨rfl|rfl,hb⟩<;>decide +kernel) | free h b=>exact nk! c0 | send h g b=>exact nk! ⟨AC,AC⟩ | clean h=>exact nk! c0 | ask h=>cases na h rfl | deliver n=>exact Au! _ _ Ed!
 have wH:=ex;rw[e] at wH;refine⟨_,rfl,x,_,0,Ak! wd,rfl,rfl,d? wH,Wm!,rfl,_,rfl,?_⟩;rcases hw with rfl|⟨ne,cs,he⟩;.rw[Y1!];exact Cc (N_ _)
 .rw[Dp! (Mw! (V.str wd=V.str HE!) (JF! ne V.str.inj))];refine Ck np!;obtain⟨p',x',W0,D0,m0,n0,d0,A0,B0,A1,B1,al0,ys0,dd0,h1,h2,h3,h4,h5,h6,h7,h8,h9⟩:=go cs he;exact⟨p',x',W0,D0,m0,n0,d0,A0,B0,A1,B1,al0,ys0,dd0,h1,h2,h3,h4,h5,h6,h7,h8,λv H' W' D' al' EN a1 a2 a3 a4 a5=>h9 v H' W' D' al' EN a1 a2 a3 a4 a5 _⟩
theorem Joy{a b:Str}{cl:BX!}{y:Str}(h:Lg! [Vk!,Vl!] [Vk!,Vl!]):Ib! :=Om! (by simp only[CB,DD,JA] at hp;rcases hp with rfl|rfl<;>rcases hk with hk|hk<;>cases hk)
theorem Jra(g:GG):DQ 3 LK LO BJ! (OW! Qk):=FX.EJ.no (gAs g)
theorem a_:A? [Pk!,Cy!,MH!,uE!,"_law_k",Vm!,"_law_before","_law_ticks",JT!,uC!] rw! yA:={}
def xV:TE:=uN (xX K) Kq! (xn (tC (a! 1))) V4
theorem Jid{xs ys:C!}:Ht (xs++ys) (some (c? xs.length)) none=ys:=by
 have e:nY! (AU! (xs++ys)) (c? xs.length)=xs.length:=by unfold HT.IB;simp only[ZE];rw[Ei!];lia
 unfold Ht;rw[e];show((xs++ys).drop xs.length).take (AU! (xs++ys)-xs.length)=ys;rw[List.drop_left,ZE,Nat.add_sub_cancel_left,BL]
theorem Jkw{σ:L2.St}{l r:Addr}{H:Hp}{EF:k!}{L:k!}{new:S!}{Q:NL!}(el:d9! l L.map (λy=>Q? y.2))(pn:dX! H EF L new)(zL:hE!)(hr:C5!)(k:∀H',KM->pj! new.map->Q H') : ur! jx! (∀i m' ys H2,Jv! (W i m' ys H2) Wb! (bz K l).stop DH! (bz K l).go (bz K l).ZQ (ov! (wG!:TT) [] H3 (wA! (ov! xV [] H4 (λv H5=>uK! H5/\ys.length<sizeLine/\ok! dh! (PK! H5 r dh!))) (ok! ys H4)))):=by
 have s0:=FI! hr;refine si! l (L.map λy=>Q? y.2) xV [] σ (QZ! (Wb!/\Jn!/\W0!/\aG! H2 (new.take i).map L_)) (Au! Ab s0 L!) (el! (Mo! h.2.1 el h.1));.rintro i v ys H2 N hi ⟨er,sm,ez,pr⟩ hN;refine Ba!;rw[ZH] at hi;cases hy:L[i]? with | none=>rw[hy] at hi;cases hi | some y =>rw[hy] at hi;cases hi;have vh:=CK! hy;obtain⟨z,hz⟩:=eQ! new (S? hu! vh);have kt:=EI sm;obtain⟨kind,s',g',a,j9,rep⟩:=(Ax (Bq pn kt) i y z hy hz).body;refine⟨_,rfl,1,rfl,y.2,_,rfl,d? j9,Gq! (¬(nY! 5 1=0/\HT.IB 5 5 none=5)),AY!⟩;have s5:=Bp! Uj! hq;have bX:=EI s5;have o8:=E! s5 er;refine HV! o8 (Ry! ez) (A2! Ab Dl! lY!);(·(have hb:b≠r:=G3! hr);rw[BT!];exact j3! sm);·(have ku:mW! (HR! q .BB Uj!) (HR! q .BB Uj!) q:=re o8);rw[JU,hz,ZF];refine cP! bX.trans ((rep _ q bX Ab).keep ku)
 .rintro ys H2 ⟨er,sm,ez,pr⟩;rw[ZA,hu!,BL] at pr;exact k H2 sm ⟨ys,er,pr⟩
universe S
variable {H Hf:Hp}{p:Addr}{W W':EE}{D D':T2->Prop}{m n d A B n' d' A' B':Nat}{al:List LL}{ys:List Qy}{ad:Addr}{As:AL}{N h:Int}{io:Addr}{I:K45F.Iq}{o fd sd:Addr}
theorem Bo.fresh(wi:g?)(ak:XX H ad As)(b:Addr)(e:t?):bH!/\O6!/\CR!/\IN!:=by
 refine⟨AX!,(G3! ak.ob),AX!,AX!⟩;.obtain⟨r,hr,hb⟩:=SM!;have o1:=ak.on r hr;(have hb:b=u?\/b=r.2.2.fd\/b=r.2.2.sd:=by simpa [Do] using hb);rcases hb with rfl|rfl|rfl;(.rw[o1.ob] at e;cases e);(.rw[o1.f] at e;cases e);.rw[o1.s] at e;cases e
 .obtain⟨v,h,_⟩:=wi.wa.some_at z;rw[h] at e;cases e
 .obtain⟨y,hy,hb⟩:=SM!;obtain⟨v,h,_⟩:=(wi.at_ y hy).has hb;rw[h] at e;cases e
theorem Bo.more(x:Fv!)(eN:N=Cu!)(wi:cS! Hf n' d' (al++U0!) (ys++sA! N))(kt:BD H Hf)(ef:Iu!)(kp:uB! Wj! JQ! Hf)(ea:L? Hf ad (.dK (XZ (As++bE! N))))(on:EX Hf o QH!)(fr:∀b,b=o\/b=fd\/b=sd->bH!/\O6!/\My!/\b∉(ys++[(⟨N,io,I,[],[]⟩:Qy)]).flatMap C1)(off:lD! My! (b∉(ys++[(⟨N,io,I,[],[]⟩:Qy)]).flatMap C1)) : Bo Hf p W' D' m n' d' A' B' (al++U0!) (ys++sA! N) ad (As++bE! N):=by
 have eo:QD (As++[(N,o,(QH!:KC))])=QD As++[o,fd,sd]:=by unfold QD;rw[BY];simp[Do]
 have m1:=wi.m1;have iv:=wi.iv ⟨N,io,I,[],[]⟩ (ZC _ (CS.mpr rfl));have t1:=iv.t1.length_eq;have t2:Bi (al++U0!) N 2=[]:=by rcases iv.t2 with⟨_,_,e,_⟩|⟨e,_⟩;(.exact e);.have e:0=m:=e;lia
 have t1':Bi (al++U0!) N 1=[]:=by have t1:(C3 (al++U0!) N 1++C? (Bi (al++U0!) N 1).map++Gn! ([]:B6!).map).length=SZ rg m:=t1;rw[Cq,Gh,dy!] at t1;simp only[ZE,ZA,Du,BS] at t1;exact GD!
 refine⟨wi,A2! ea F1! ?_,?_,P6!⟩;.rcases Eh! with hr|hr;(.exact(x.ak.on r hr).keep (O4! (kp b u (BG.mpr (Jo! hb)) e)) kt);.rw[ZK hr];exact on
 .rw[eo];refine mQ! x.ak.nd ?_;(.have h1:o≠fd:=on.ie;have h2:o≠sd:=on.os;have h3:fd≠sd:=on.fs;simp[h1,h2,h3]);.rw[z] at hu;exact(fr v (by simpa using hv)).1 hu
 .rw[eo];intro z;rcases ZI z with z|z;(.exact x.ak.off z);.exact(fr ad (Lt!)).2.1 rfl
 .refine uc! (An (λy r hh=>⟨hh.1,⟨dV! A9 Fb AE hh.2.1.f,dV! A9 Fb AE hh.2.1.s,hh.2.1.c⟩,hh.2.2.keep kt ef⟩) x.lk) (BO! (C1! ?l1 ?l2) (Mp! (λ_=>?l3) ?l4));(case l1 =>show([]:Bl! FR).map _ |>.Perm (Bi (al++Cp m _ N 1) N 1++[]);rw[t1'];exact List.Perm.refl _);(case l2 =>show([]:CT!).Perm ((Bi (al++Cp m _ N 1) N 2).map _++[]);rw[t2];exact List.Perm.refl _);(case l3 =>show Ml! W'.FK (EI! N);rw[ef,Jq];cases q:W.FK.find? λl=>w! (l.1=N) with | none=>rfl | some e =>obtain⟨y,hy,e1,_⟩:=x.wi.ff e (AW q);(have e2:e.1=N:=by have:=DV q;exact BU this);have:y.n∈ms!:=nR!;rw[x.wi.i4] at this;obtain⟨j,hj,ej⟩:=ZN this;have:=Zz!;lia);case l4 =>have z:0=m:=z;lia
 .rw[eo] at hb;rcases hb with hb|hb;(.exact pV! off);.rcases KR! with hb|hb;(.exact off b (J? hb));.exact(fr b (Bh!)).2.2
universe E
theorem Jj3(O:KC):Lr [] (LQ O)=LQ O:=by have n1:KB FL! JS!:=ZV;have n2:KB FL! Lq!:=ZV;have n3:KB JS! Lq!:=ZV;have n4:KB FL! Gk!:=ZV;have n5:KB JS! Gk!:=ZV;have n6:KB Lq! Gk!:=ZV;have kn:∀{a b:Str},¬a=b->¬(Sum.inr a:Key)=Sum.inr b:=λh z=>h (Sum.inr.inj z);have e0:putK ([]:k?) (TD FL!) (Y! O.fd)=[(I! FL!,F? O.fd)]:=E4 _ rfl;have e1:putK ([(I! FL!,F? O.fd)]:k?) (TD JS!) (Y! O.sd)=[UT!,UU!]:=E4 _ (by unfold B4;simp[n1]);have e2:dj! ([UT!,UU!]:k?) (TD Lq!) O.cnt=[UT!,UU!,p4!]:=E4 _ (by unfold B4;simp[n2,n3]);have e3:putK ([UT!,UU!,p4!]:k?) (TD Gk!) O.dv=[UT!,UU!,p4!,(I! Gk!,O.dv)]:=E4 _ (by unfold B4;simp[n4,n5,n6]);unfold Lr LQ;simp only[List.foldl_cons,List.foldl_nil];rw[e0,e1,e2,e3]
def Num(W:EE):Prop:=0<=W.c/\∀l∈W.ls,l.1<=W.c
theorem Nv.num{W W':EE}{VE L:k!}(x:kc!)(h:Num W)(sub:∀l∈VE,l∈W.ls):LL!:=by
 have h0:=h.1;have ec:=x.c;refine V2! RW!;rw[x.ls] at hl;rcases Hs! with hl|hl;.have:=h.2 l (sub l hl);lia
 ·(have:l.1∈nt!:=gA! x.nu l hl);unfold nums at this;obtain⟨j,hj,ej⟩:=ZN this;have:=Zz!;lia
theorem Nv.last{W W':EE}{VE L:k!}(x:kc!)(ne:L≠[]):∃l t,W'.ls=l++[(W'.c,t)]:=by
 rcases List.eq_nil_or_concat L with e|⟨L',z,e⟩;.exact BK! e ne
 .rw[List.concat_eq_append] at e;subst e;have nu:=x.nu;have ec:=x.c;rw[ZE] at nu ec;(have e2:nums W.c (L'.length+[z].length)=nums W.c L'.length++[SC+c? L'.length]:=by unfold nums;rw[D4! (L'.length+[z].length=L'.length+1),DM,ZF];rfl);rw[e2,ZF] at nu;have h1:=(List.append_inj nu (by rw[ZA];unfold nums;rw[ZA,BW])).2;have h1:[z.1]=[SC+c? L'.length]:=h1;have h1:z.1=SC+c? L'.length:=(List.cons.inj h1).1;have ec:W'.c=V3! (L'.length+1):=ec;refine GM (VE++L') z.2;rw[x.ls,AK,show(W'.c,z.2)=z from Prod.ext (bn (W'.c=z.1)) rfl]
inductive Jp2(vs:C!)(H:Hp)(Q:VK)(E:XK):Prop
 | mk (a p ad:Addr) (ns:j!) (W:EE) (D:n?) (m n d B:Nat) (al:S!) (_:vs=[Os,y?,T! AR!,F? ad]) (_:gU K H a Qr!) (_:gs!) (_:Bo H p W D m n d 0 B al [] ad []) (_:n<=15) (_:B<=75) (_:d<=15) (_:Num W)
   (_:∀(c:Nat)(H':Hp)(W':EE)(D':n?)(al':S!)(EN:H?)(aY:AL),c<=3->Bo H' p W' D' m (n+c) (d+c) 0 (B+60*c) al' EN ad aY->LL!->W'.c<=W.c+12*c->(∃l t,W'.ls=l++[(W'.c,t)])->p?->Q (.bl true) H')
theorem gBe(g:GG):DQ 4 SX UO rw! Jp2:=by
 refine CI! g.mBe.fn.IV a_;obtain⟨a,p,ad,ns,W,D,m,n,d,nB,al,rfl,hS,hlen,B,hn,hB,hd,nm,k⟩:=h;refine W!;have hu:=I?;have HC:ap:=M?;have JR:Kd!:=M?;refine L1! (Et PassesOwn.never rfl (OH! (TN! (DB! mg!))) (Kh! a_.nd) (GR! 5 a_.nd (Bh C8 (wr! (TN! j?)) R!) (MX! 6 a_.nd (Bv Bt DQ! g.T.len CC (Aa (QC! d! g.TW.cl g.mWLe.mt NK! JR g.mWLe.bd) Ae)) (qT! i 7 te nG [(Cy!,1)] a_.nd (OH! R!) Jp! v8! (VO! sh!)) (FM! (CJ! 8 a_.nd (Lx! d! g.TW.cl g.mWAs.mt (Jra g) hr g.mWAs.bd A7 (ca WP))) (CJ! 9 a_.nd (Ms Jc0 (QC! d! g.TW.cl g.mWLe.mt NK! JR g.mWLe.bd) (Mr (pv 6)) W9)) (qK! (Yd! KD! (H1! j?)) (ah! xV [] (H3! 9) trivial (Joy h) trivial (Ms Jf1 a? (Mr Ah) W9)) (i4! Jo4 HC g.mAs.mg g.mAs.fn.kp g.mAs.bd WP R! KD! Ah) E1) (iy! C3! (u7! nG [(Cy!,1)] (OH! R!) JJ! Jp! JL! sh!) E1) (iT! P? KD! (Jjj (Mp Be Ei (Mp Be Ei (Mp Be Ah (Mp Be N3 Jjg)))) rfl rfl (by intro z;cases z) (w?))))))) (wT E1);have JQu:O1!:=B.wi.wg.wl.len;have m1:=B.wi.m1;have dy:=B.wi.m5;have aE:PN!<AR!:=B!
 refine oA! 17 (λv0=>⟨_,_,rfl,rfl,Bv! 3,_,_,rfl,rfl,?_⟩);have sJ:=CN v0 (a9! 3);have hm1:=CF v0 (dk! 3);obtain⟨c,ec,c1,c3⟩:∃c:Nat,Bo! (1+v0 % 3)=O? Jg!/\1<=c/\c<=3:=⟨(1+v0 % 3).toNat,AM! (Cn! BO),B!,B!⟩;rw[ec];refine Bw! Jg! rfl B! B!;refine Oj (lo:=0) (n:=c) (λi σ Hc=>∃(W':EE)(D':n?)(al':S!)(EN:H?)(aY:AL)(u4 u5 u6 u7 u8 u9:Ar!),σ=[EW!,AV!,Fk!,KO!,u4,u5,u6,u7,u8,u9]/\Bo Hc p W' D' m (n+i) (d+i) 0 (nB+60*i) al' EN ad aY/\EN.length=i/\LL!/\W'.c<=W.c+12*i/\(1<=i->∃l t,W'.ls=l++[(W'.c,t)])/\BD H Hc) ⟨W,D,al,[],[],none,none,none,none,none,none,rfl,B,rfl,nm,x!,(λz=>B!),YD!⟩ ?_ ?_;.rintro i σ Hc hi ⟨W1,D1,kJ,dF,jJ,u4,u5,u6,u7,u8,u9,rfl,B1,ly,oM,xA,ne,kt⟩;rw[Ir! Z0!];have mS:=hS.keep kt;refine⟨_,rfl,_,rfl,_,_,rfl,rfl,a,ns,18+l!,rfl,mS.sq,hlen,B!,B!,λv1=>ax! _ _ rfl aE ?_⟩;have g0:=CN v1 (Ir! (AR!≠0));have g1:=CF v1 aE;generalize v1 % AR!=h at g0 g1;have ql:W1.qs.length=m:=B1.wi.wg.wl.len;obtain⟨⟨q,G⟩,hq⟩:=Qf! W1.qs h.toNat;have iw:JF W1 h q G:=⟨g0,hq⟩;obtain⟨FC,HM⟩:=B1.wi.wa.ob;refine bc! FC HM W1 W1 B1.wi.wa (λl1 H2 hl1 sZ s2=>Bw! l1 _ rfl (WT! sZ));have B2:=B1.same s2;refine n5! (λiU mG=>?_);rw[CQ];refine po! B2.wi.wa ql mG (λH3 s3 wJ=>?_);have B3:=B2.same s3;obtain⟨QC,QR⟩:=B3.wi.wa.ob;refine vf! QC QR (Cr W1 ZV) ?_;refine Jh9 (dd:=D2! h) (A':=0) (B':=nB+60*KE) (R:=dH! (Ef m W1 kJ H3 v W' al' dF EN H' (D2! h))) B3.wi F! F! F! ⟨q,G,iw⟩ Z1! (λv W2 D2 m4 uC H4 r fp wi JY eS=>?_) (λ_ _ _ _ _ e=>e) (λz=>by obtain⟨_,_,_,z⟩:=z;cases z);obtain⟨rfl,rfl,⟨io,I,rfl⟩,eq2,L,nw,lL⟩:=r;obtain⟨cq,js⟩:=wi.wa.ob;refine bc! cq js W2 W2 wi.wa (λl5 H5 hl5 mY s5=>?_);(have JAG:Ht (W2.ls.map Dh!) (some (vH! W1.ls.map Dh!)) none=L.map Dh!:=ga nw.ls ZF Jid);refine Td! l5 (E8! mY);rw[JAG];intro cl gN;have s6:=Ag (o:=.BJ (L.map Dh!)) gN;have ml:h5! (upd H5 cl (.BJ (L.map Dh!))) cl Dh!:=Ab;generalize upd H5 cl (.BJ (L.map Dh!))=H6 at s6 ml;have ag:=Ai s5 s6;(have pn:Yr! H6 W2.EF (Cp m h (Fl!) 1):=f5! (wi.same ag).lw nw.ls (Ky this (Paired.length B1.wi.lw)));(have ok:bz! (Cp m h (Fl!) 1).map L_:=Tn λz hz k e=>by unfold Cp at hz;obtain⟨j,_,ej⟩:=BZ!;rw[e] at ej;cases ej);refine ZL! _ rfl _ rfl _ rfl ?_;rw[MT! (show Bo! Fl!=Bo! (l!+1) by rw[ly])];refine Cc (S5! cl ml (λr7 vW=>Jkw ml pn F! vW λH7 s7 ua=>?_));refine⟨_,rfl,_,rfl,_,rfl,h,Fl!,1,m,rfl,B!,λr8 H8 nr8 s8 rp8=>Oi! (ua.keep (λv e=>Am! s8) (EI s8)).rep rp8.rep ok ok⟩;rw[Fn ok];have uU:=LY! ag s7 s8;have wi8:=wi.same uU;obtain⟨_,_,nt1,nt2⟩:=Bo.fresh B2.wi B2.ak iU mG;have JAA:=JY _ _ wJ nt1 nt2;refine Cc ⟨_,rfl,_,rfl,AR!,rfl,B!,B!,λaT k_=>?_⟩;rw[CQ];refine po! wi8.wa (q! eq2 ql) k_ (λH9 s9 qR=>?_);rw[eq2] at qR;refine Oi! (Kr (Bn! s9 uU JAA)) (Kr qR) (Hw _) (Hw _);rw[Fn (Hw _)];have n9:=Ai uU s9;have wi9:=wi.same n9;have k6:=B3.wi.DJ JY;have ak4:XX H4 ad jJ:=B3.ak.keep (O4! (JY b u e (Po! B3.off) (B3.off b hb).2)) k6;have ak9:=nO! ak4.keep (Am! n9) n9;refine Cc λo ho fd oj sd jq=>?_;have sa:=H5! ho;have sb:=H5! oj;have ja:=H5! jq;have eo:Oj! H9 o o:=Ab;have ef:Oj! (bu! H9 o) fd fd:=Ab;have es:Oj! (bu! (bu! H9 o) fd) sd sd:=Ab;(have gb:fd≠o:=λz=>by rw[z,eo] at oj;cases oj);(have rZ:sd≠o:=λz=>by rw[z,E! sb eo] at jq;cases jq);(have nfs:sd≠fd:=λz=>by rw[z,ef] at jq;cases jq);(have qj:∀b,b=o\/b=fd\/b=sd->Ay! H9:=N? (by cases c:H9 b with | none=>rfl | some v =>rcases hb with rfl|rfl|rfl;(.rw[ho] at c;cases c);(.rw[E! sa c] at oj;cases oj);.rw[Bn! sb sa c] at jq;cases jq));have wR:=Bn! ja sb eo;have YY:=E! ja ef;have ni:=LY! sa sb ja;refine Bw! wR (LQ QH!) rfl (Gq! (4<=15));rw[Jj3];generalize GL! (bu! (bu! H9 o) fd) sd=b_ at wR YY es ni;have JAK:=nO! ak9.keep (Am! ni) ni;have ff:=N? (Bo.fresh wi9 ak9 b (qj b hb));have nad:ad≠o:=L8! (ff o (Z! rfl)).2.1;(have YW:Fl!∉C? jJ.map:=λz=>by rw[B1.nums,B1.wi.i4] at z;obtain⟨j,hj,ej⟩:=ZN z;have:=Zz!;lia);(have lA:jJ.length=i:=S? (y! B1.lk) ly);(have pD:L? (WJ! b_ QH!) ad (.dK (XZ jJ)):=i! nad JAK.ob);refine Td! ad (jw! Fl! pD (by unfold XZ;rw[ZA];exact L6!));(have ep:putK (XZ jJ) (Sum.inl (Fl!)) (V.ref o)=XZ (jJ++bE! Fl!):=by unfold XZ;rw[cx! X1! (Ra! u?) (Fl!,o,QH!) YW]);rw[ep];have zK:BD b_ (WJ! b_ QH!):=Fz wR;have bC:=Fz (o:=.dK (XZ (jJ++bE! Fl!))) pD;have uz:=(EI n9).trans ((EI ni).trans (zK.trans bC));(have kpf:∀b u,b≠o->O6!->JA! H4->JA! (upd (WJ! b_ QH!) ad (.dK (XZ (jJ++bE! Fl!)))):=λb u n1 n2 e=>ga (Ad n2) (Ad n1) (Jm! ni n9));have ue:=B3.c6 fp;have wif:=wi.keep (O4! (kpf b u (λz=>hb.elim (oX! (ff o (Z! rfl)).2.2.1) (oX! (ff o (Z! rfl)).2.2.2)) (λz=>hb.elim (oX! (ue ad (Z! rfl)).1) (oX! (ue ad (Z! rfl)).2)) e)) uz;refine⟨W2,D2,_,_,_,_,_,_,_,_,_,rfl,B3.more rfl wif (k6.trans uz) nw.fi (O4! ?_) Ab ?_ ff ue,vD! ly,nw.toNv.num oM (NG!),by rw[nw.c,lL];push_cast;lia,λ_=>nw.toNv.last ?_,kt.trans ((EI s2).trans ((EI s3).trans (k6.trans uz)))⟩;(.exact kpf b u (X? (ff o (Z! rfl)).1 (z▸hb)) (X? B3.ak.off (z▸hb)) (JY b u e (B3.off b (J? hb)).1 (B3.off b (J? hb)).2));(.have gk:fd≠ad:=(ff fd Y6!).2.1;have nsa:sd≠ad:=(ff sd (GF! rfl)).2.1;refine⟨z! (Ad nad.symm) Ab,?_,?_,(ii (AL! hr)),List.Pairwise.nil,List.Pairwise.nil,gb.symm,rZ.symm,nfs.symm⟩;(.show(upd (upd b_ o _) ad _) fd=_;rw[Ad gk,Ad gb];exact YY);.show(upd (upd b_ o _) ad _) sd=_;rw[Ad nsa,Ad rZ];exact es);.intro z;rw[z] at lL;have lL:0=m:=lL;lia
 .rintro σ Hc ⟨W',D',al',EN,aY,u4,u5,u6,u7,u8,u9,rfl,B',ly,nm',bc',ne,kt⟩;exact k c Hc W' D' al' EN aY c3 B' nm' bc' (ne c1) kt
theorem Jic(ns:j!)(lo hi:ut):∃cs:j!,Ht Qr! lo hi=cs.map V.int:=by unfold Ht;exact D? (by rw[<-List.map_drop,<-List.map_take])
theorem Uj{l:B?}(h:∀z∈l,z.2.AJ=[]/\z.2.AG=[]):Ib t l=0/\N1 l=0:=by induction l with | nil=>exact BP! | cons z l ih =>obtain⟨h1,h2⟩:=ih (Ch! (h y iH!));obtain⟨h3,h4⟩:=Eq! z;refine Fj!;(.show WH! z.2 l=0;unfold OT;rw[h1,h3,h4];rfl);.show z.2.AJ.length+N1 l=0;rw[h2,h3];rfl
theorem tX{n mm tk:Int}{h o l r:Addr}{t:T2}(ht:VH ⟨n,mm,tk,h,o,l,r,[],[],[],[]⟩ t):False:=by
 rcases ht with ht|⟨q,hq,_⟩;.cases ht
 .cases hq
theorem Jf5{i m:Nat}{h o l r:Addr}(hi:i<m):Sd m (ud! r) 0 :=⟨⟨DL,AC,DL,AC,rfl,DL,AC,UH!,UH!,UH!,UH!,UH!⟩,UH!,sB pd!,sB pd!,sB (I2! ht),Q3! (PN!<=l!),Q3! (l!<AR!),BU!,BU!⟩
theorem Jb1{l:B?}(h:∀z∈l,z.2.AY=0):Dk l=0:=by induction l with | nil=>rfl | cons z l ih =>have ih:=ih (Ch! (h y iH!));have:=Eq! z;show z.2.AY+Dk l=0;lia
universe S
variable {p:Addr}{H H1:Hp}{W:EE}{D:T2->Prop}{m n d A B:Nat}{ys:List Qy}
theorem WI.start(S:s5! H1)(e2:W.c=0)(e3:W.ls=[])(e4:W.LG=[])(e5:W.FK=[])(e6:W.EF=[])(e7:O1!)(e8:∀i q G,SB!->xZ G i)(m1:1<=m)(m5:m<=12)(sh:2<=W.share):WI H1 p W (λ_=>False) m 0 0 0 0 [] []:=by
 have ee:∀(i:Nat) q G,SB!->∃h o l r,G=ud! r:=λi q G hi=>by obtain⟨h,o,l,r,e⟩:=e8 i q G hi;exact⟨h,o,l,r,e⟩
 have em:∀z∈W.qs,z.2.AJ=[]/\z.2.AG=[]/\z.2.AY=0:=AT (by obtain⟨i,hi⟩:=DA.mp hz;obtain⟨_,_,_,_,e⟩:=ee i z.1 z.2 hi;rw[e];exact id! rfl)
 have r0:=(Uj (t:=(0,0)) (AT ⟨(em z hz).1,(em z hz).2.1⟩)).2;refine⟨S,⟨⟨e7,B!,λi q G hi=>?_,EC! (I2! hl),λt _=>?_,sh⟩,⟨λ_ _ _ _ _ _ z=>z,λ_ _ _ z=>z,λ_ _ _ _ _ _ _ _ z=>z,λ_ _ _ _ _ z=>z.elim⟩,λj q G hj t ht _=>?_⟩,?_,λj q G hj t ht=>?_,m1,m5,H! e3 L!,H! e6 DL,Mx!,H! e6 AC,H! e5 AC,⟨λj q G hj t ht=>?_,EC! (AL! hl)⟩,Ch wn,AC,e4,rfl,DL,Ch! (I2! hy),Ch! (I2! hy),Ch! (I2! hy),AT (I2! hz),Mx!,U6! (I2! hz)⟩;·(have hl:i<m:=HD! e7 hi);obtain⟨_,_,_,_,e⟩:=ee i q G hi;rw[e];exact JN! (Jf5 hl)
 .rw[(Uj (t:=t) (AT ⟨(em z hz).1,(em z hz).2.1⟩)).1];rfl
 .obtain⟨_,_,_,_,e⟩:=ee j q G hj;rw[e] at ht;exact pd!
 .rw[Jb1 (AT (em z hz).2.2)];exact BU!
 .obtain⟨_,_,_,_,e⟩:=ee j q G hj;rw[e] at ht;cases ht
 .rw[e6] at he;cases he
 .obtain⟨_,_,_,_,e⟩:=ee j q G hj;rw[e] at ht;rcases ht with ht|ht;(.exact pd!);.cases ht
 .show 0+0+1*N1 W.qs<=0;rw[r0];exact AC
 .rw[e5] at he;cases he
universe E
theorem Jo8(xs:C!):(Ht xs (some 2) (some 17)).length<=15:=by unfold Ht;rw[CD,Cf! (HT.IB xs.length xs.length (some 17)=min 17 xs.length) (E! HT.cQ 17),Cf! (nY! xs.length 2=min 2 xs.length) (E! HT.cQ 2)];lia
theorem WI.fg{H:Hp}{p:Addr}{W:EE}{D:n?}{m n d A B:Nat}{ys:H?}(x:WI H p W D m n d A B [] ys):O0! X2!:=Ch! (by have iv:=x.iv y hy;have t1:=iv.t1.length_eq;simp only[ZE,ZA,Du] at t1;have t1:0+0+y.fi.length=m:=t1;rcases iv.t2 with⟨h,_⟩|⟨_,pm⟩;(.lia);.have t2:=pm.length_eq;simp only[ZE,ZA,Du] at t2;have t2:0+0+y.se.length=m:=t2;lia)
universe E K45
universe N FX
open PySem PySem.Spec PyProof.Rows L2
def Zk(p:Addr)(a b:Int):HO:=.ext λh=>∃t u v,IsRange h p a b 1 t u v
def gB(a:Int)(n:Nat):j!:=Sv! n (Gg! (a+AF!))
theorem Wx(a:Int)(n:Nat):(gB a n).length=n:=by unfold gB;rw[ZA,BW]
theorem Jja(h:k<n):(gB a n)[k]?=some (a+AF!):=by unfold gB;rw[ZH,List.getElem?_range h];rfl
universe S
inductive T8(xs:C!)(H:Hp)(Q:VK):Prop
 | mk (i j:Int) (_:xs=[Pz!,T! j]) (_:GT! (upd H p (Zk p i j)))
theorem Yh:Zp! DK! T8:=by intro AA s σ H xs us Q I r h;obtain⟨i,j,rfl,q⟩:=h;obtain⟨u,w',rfl,⟨t,rfl⟩,⟨t',rfl⟩⟩:=vals2 r;have hn:KL!:=IC!;refine call_range_2 (ad! (I.laid (a:=s.heap.objs.size) (o:=Zk s.heap.objs.size i j) (t':=s.toks+1) (Fz!) ci ?_));exact⟨⟨_,_,_,IsRange.new ..⟩,D? CM!,λh1 h2 ⟨t,u,v,e⟩ k=>⟨t,u,v,k _ e⟩⟩
inductive Pt(xs:C!)(H:Hp)(Q:VK):Prop
 | mk (p:Addr) (a:Int) (n:Nat) (_:TD!) (_:H p=some (Zk p a (a+n))) (_:n<=1000) (_:0<=a) (_:a<=1000000000) (_:qx! (nE! l (gB a n).map V.int))
theorem Tj(hc:BB!):Zp! SB Pt:=by
 intro AA s σ H xs us Q I r h;obtain⟨p,a,n,rfl,hp,hz,a0,a1,q⟩:=h;obtain⟨u,rfl,rx⟩:=GH!;cases rx;obtain⟨⟨t,u,v,hr⟩,_⟩:=Zh! hp;have hsz:Builtin.Range.rangeSize a (a+DZ!) 1=n:=by rw[rangeSize_one];split<;>lia
 refine call_list_range (n:=n) GW! hr (small_one F! F! F! F!) hsz (AV hz JX!) λh' tk c_ c' kp e it=>?_;have hn:KL!:=IC!;have lv:Vals ((gB a n).map V.int) c_.toList:=E9 (dV! ZA Wx CM it.1.symm) λj x u e1 e2=>by have hj:=CK! e1;rw[ZA,Wx] at hj;rw[ZH,Jja hj] at e1;have e1:Bo! (a+BS!)=x:=ZO e1;subst e1;obtain⟨t,et⟩:=it.2 j u (S? VC e2);exact⟨t,by rw[et];congr 1;lia⟩
 refine ad! (ra! tk (.BJ ((gB a n).map V.int)) ⟨?_,c_.toList,c',lv,EA!⟩);rw[ZA,Wx,DR];exact GO! E9!
universe E
universe E FX
universe N K45
open PySem L2 FX
theorem LR:A? [Pk!,MH!,Vj!,Cy!,Pl!,uE!,"_law_count",fp!,"_law_last",dx!,uC!] EY! kQ:={}
theorem Jq7(g:GG):DQ 3 QF QZ UM! Jcu:=Jg1 g.tZ g.T g.TW g.TP g.pN g.FI g.bI g.lM g.tf g.xC
theorem Jrc{m B:Nat}{dd:Dd}(na:∀h,dd≠D2! h):pT m 0 B 0 (B+5) dd:=by cases dd with | ask h=>exact KN! rfl na h | deliver n=>exact⟨wn,B!⟩ | send h g b=>exact⟨AC,AC⟩ | make h=>exact al! | three w h a b=>exact al! | free h b=>exact al! | clean h=>exact al!
theorem Jd9{H H':Hp}{p:Addr}{W W':EE}{D:n?}{m n d A B:Nat}{al al':S!}{EN:H?}{dd:Dd}(wi:WI H p W D m n d A B al ([]:H?))(na:∀h,dd≠D2! h)(nm:Num W)(t:xb m W al H W' al' [] EN H' dd):LL!/\W'.c<=Rc! W'.ls.length/\EN=[]:=by
 have of:∀{VE L},kc!->(∀l∈VE,l∈W.ls)->LL!/\W'.c<=Rc! W'.ls.length:=λx sub=>⟨x.num nm sub,by rw[x.c,x.ls,ZE];push_cast;lia⟩;have of2:(rE! (EN=[]))->LL!/\W'.c<=Rc! W'.ls.length/\EN=[]:=λ⟨e1,_,L,nw⟩=>by obtain⟨h1,h2⟩:=of nw.toNv NG!;exact⟨h1,h2,e1⟩
 rcases t with⟨u,e⟩|⟨rfl,_,e,_⟩;.cases dd with | ask h=>exact KN! rfl na h | deliver k =>obtain⟨l1,l2,t,a,z,b,L,y,el,es,_,_,_,nv,_,_,ef⟩:=e;obtain⟨h1,h2⟩:=of nv (EC! (by rw[el];rcases Hs! with h|h;(.exact FK!);.exact LC!));refine GM h1 h2;(cases z with | w l=>exact ef.1 | lt s g ts=>exact ef.1 | ask s g n u=>exact ef.1 | HQ s g n u t S =>have:=wi.kn _ (hl! es);simp[Kn] at this) | make h=>exact of2 e | three w h a b=>exact of2 e | free h b=>exact of2 e | send h g b=>exact of2 e | clean h=>exact of2 e
 .exact⟨nm,B!,e⟩
theorem Bo.DJ{H H':Hp}{p:Addr}{W:EE}{D:n?}{m n d A B:Nat}{al:S!}{ys:H?}{ad:Addr}{As:AL}(x:Fv!)(f:sf! H'):p?:=by
 have go:N3! ((∃xs,o=.BB xs)\/∃ob u,o=.FQ ob u):=λb o e ho=>by refine f b o e (AX!) (AX!) (AX!) AX!;(.obtain⟨o2,e2,n1,n2⟩:=x.wi.wa.some_at z;rw[e] at e2;cases e2;rcases ho with⟨xs,rfl⟩|⟨ob,u,rfl⟩;(.exact n1 _ rfl);.exact E! n2 rfl);(.obtain⟨y,hy,hb⟩:=SM!;obtain⟨o2,e2,n1,_,n2⟩:=(x.wi.at_ y hy).has hb;rw[e] at e2;cases e2;rcases ho with⟨xs,rfl⟩|⟨ob,u,rfl⟩;(.exact n1 _ rfl);.exact E! n2 rfl);(.rw[z,x.ak.ob] at e;cases e;rcases ho with⟨xs,z⟩|⟨ob,u,z⟩<;>cases z);.obtain⟨r,hr,hb⟩:=SM!;have o1:=x.ak.on r hr;(have hb:b=u?\/b=r.2.2.fd\/b=r.2.2.sd:=by simpa [Do] using hb);(have:∃l,EU! .dK l:=by rcases hb with rfl|rfl|rfl;(.exact D? o1.ob);(.exact D? o1.f);.exact D? o1.s);obtain⟨l,e2⟩:=this;rw[e] at e2;cases e2;rcases ho with⟨xs,z⟩|⟨ob,u,z⟩<;>cases z
 exact RC! (go a _ e (AD! z?)) (λa o u e=>go a _ e (TD (EP! _)))
theorem Ja2{α:Type}(xs:U!)(v:α):CN! (RK (xs++[v]) (-1)):=by
 have e:iy (AU! (xs++[v])) (-1)=A! xs.length:=by unfold iy;rw[Fe!,ZE,AF (bn (-c? ((xs.length+1:Nat))<=-1))];congr 1;show(-1+s? (xs.length+1)).toNat=xs.length;lia
 unfold RK;rw[e];show CN! ((xs++[v])[xs.length]?);rw[FU (ZG _),Nat.sub_self];rfl
theorem ints_rep{H:Hp}{r:Addr}{ns:j!}(e:d9! r ns.map V.int):Hq! (Y! r) (D8! (ns.map PyData.int)):=by refine LX! e ?_;clear e;induction ns with | nil=>exact L! | cons q qs ih=>exact K? (a! _) ih
theorem X9(ns:j!):bz! ns.map PyData.int:=Fi λd hd=>by obtain⟨q,_,rfl⟩:=ZN hd;exact x? (by simp[PyData.depth])
theorem gW(g:GG):DQ 12 bp bu EY! TY!:=by
 refine CI! g.FW.IV LR;obtain⟨a,ns,rfl,hS,hlen,k⟩:=h;refine W!;have hu:=I?;have HC:ap:=M?;have JR:Kd!:=M?;have d_:Cn 4 _:=M?;have hr8:Cn 8 _:=M?;have hr9:Cn 9 _:=M?;refine Kx! LR.nd (TN! (DB! mg!)) (Y3! (C8! 2 (bC! (DB! (SQ! mg!)) Ah)) (LJ! (Si! (DB! (SQ! mg!))) (C8! 1 Ah)) (C8! 3 (Xa g.lK (Jq7 g) d_ DQ! g.TW.jo g.xB L! A7 (Ck! d! (PQ! (gSh g) JR g.mSh.mg g.mSh.fn.kp g.mSh.bd WS!)))) (N7! Dz (Ms Jc0 a? (Mr Ah) (Mr Ah)) (Kh! LR.nd) (Df! (vy! gTy hr8 g.mTy.mg g.mTy.fn.kp g.mTy.bd P? (i3! gDe g.mDe.mg g.mDe.fn.kp g.mDe.bd (Aa P? (PY! d! j? E1 R!)))))) (C8! 5 Ei) (VU! (Jgm (Rg (Bw (gBe g) d_ DQ! g.mBe.mg g.mBe.fn.kp g.mBe.bd L! A7 (PY! a? P? d! WP)) (Cg!))) E1) (FM! (C8! 6 Ah) (C8! 7 (aU! g.TW.cl g.mWLe.mt NK! JR g.mWLe.bd)) (C8! 8 (Af! (Az Ec C3! (Jlf Jfm Ah)))) (Rh PassesOwn.never (cv (N2 (wB! Gs C3! LW!) (Mm (Yc! B0! Ah)))) (GR! 4 LR.nd (wr! (TN! (DB! B0!))) (Y3! (Bj (cv (N2 (Yc! B0! Ah) (Mm (Si! (DB! j?))))) (Ac (Bf (i4! gAm hr9 g.mAm.mg g.mAm.fn.kp g.mAm.bd P? d! (SQ! j?) R!)) (Ac (C8! 7 (aU! g.TW.cl g.mWLe.mt NK! JR g.mWLe.bd)) (Af (C8! 8 (Bv (Jfb rfl) DQ! g.y7 PyProof.Rows.boot_max (Ck! KD! (Af! (Az Ec C3! (Jlf Jfm Ah))))))))) A5) (C8! 9 (Az Ec C3! (Bh C8 (Bh E7 j? (TN! (SQ! B0!))) (Qq! g.T.len C3!)))) (C8! 10 (i4! gSq hr8 g.mSq.mg g.mSq.fn.kp g.mSq.bd P? WP (pv 9) d!)) (qK! (VN! Jmj Rl! N3) Rl! (kt! (Tj rfl) g.y5 (C5 Yh DQ! g.T.range PyProof.Rows.boot_range (Ck! (H1! KD!) (Bh Dv (H1! KD!) (Qq! g.T.len Rl!))))) E1) (C8! 8 (Bh Dv KD! (Qq! g.T.len Rl!))) (C8! 6 (H1! B0!)) (Af (C8! 7 (aU! g.TW.cl g.mWLe.mt NK! JR g.mWLe.bd)))))) (wT (Jmf (Kw (Rp (Hr hr)) C3! LW! (A4 _)) (Jmd (vy! gTd JR g.mTd.mg g.mTd.fn.kp g.mTd.bd P? WP))))));refine oA! 0 (λv0=>⟨_,_,rfl,rfl,Bv! 5,_,_,rfl,rfl,?_⟩);have sJ:=CN v0 (a9! 5);have hm1:=CF v0 (dk! 5);refine oA! 0 (λv1=>⟨_,_,rfl,rfl,TX!,_,_,rfl,rfl,Bv! 2,rfl,?_⟩);generalize Av! (Bo! (v1 / 30 % 2)) (O? 1)=fr;dsimp only [tW];refine tP (λEV H'=>H'=H/\∃m:Nat,EV=[EW!,Fk!,bI!,none,none,none,none,none,none,none,none]/\1<=m/\m<=12) ?_ ?_;.intro nx hx;refine oA! 0 (λv2=>⟨_,_,rfl,rfl,TX!,_,_,rfl,rfl,Bv! 6,rfl,_,rfl,?_⟩);by_cases c:Bo! (v2 / 5 % 6)=O? 1;(.rw[IA!];exact Ck (E! hx ⟨rfl,12,rfl,w?,w?⟩));.rw[GG!];exact Cc (E! hx ⟨rfl,(1+v0 % 5).toNat,be (Cn! BO),B!,B!⟩)
 rintro EV H' ⟨rfl,m,rfl,m1,dy⟩;refine⟨_,rfl,_,rfl,a,ns,rfl,hS.sq,hlen,λsh H1 s1 uQ=>?_⟩;have mS:=A5! hS.keep s1;intro p dx np ik uq;refine⟨p,dx,AR!,sh,rfl,Ab,B!,B!,λW H2 S1 e1 e2 e3 e4 e5 e6 e7 e8 rm=>Hn!⟩;have s01:Bu H1 (upd (CH! H1 dx Cb! p) p (tK! [])):=rp! np ik
 have s2:Bu H1 H2:=qW! rm s01 np;have hS2:=A5! mS.keep s2;clear s01 rm np ik uq;rw[CQ] at e7;have W0:WI H2 p W (λ_=>False) m 0 0 0 0 [] []:=WI.start S1 e2 e3 e4 e5 e6 e7 e8 m1 dy (q! e1 uQ);have N0:Num W:=⟨Wn! e2,EC! (by rw[e3] at hl;cases hl)⟩;refine⟨_,rfl,2,rfl,17,rfl,a,_,rfl,hS2.sq,λcl gN=>A2! cl rfl (vF! Ab)⟩;have s5:=Ag (o:=.BJ (Ht Qr! (some 2) (some 17))) gN;have ml:PG! (PK! H2 cl fc!) cl fc!:=Ab;generalize wP H2 cl .BJ fc!=H5 at s5 ml;have q3:cl≠W.hs:=λz=>by rw[z] at gN;rw[W0.wa.hs] at gN;cases gN
 have z15:=Jo8 (ns.map V.int);obtain⟨cs,ecs⟩:=Jic ns (some 2) (some 17);have hS5:=A5! hS2.keep s5;refine ag! cl (Ht Qr! (some 2) (some 17)) (λj σ Hc=>∃(W':EE)(D':n?)(al':S!)(u4:Ar!),σ=[EW!,Fk!,bI!,AV!,u4,none,none,none,none,none,none]/\WI Hc p W' D' m j j 0 (5*j) al' []/\LL!/\W'.c<=480*BS!/\fh!/\PG! Hc cl fc!/\BD H5 Hc) ⟨W,_,[],none,rfl,W0.same s5,N0,Wn! e2,rfl,ml,YD!⟩ (λj σ Hc _ h=>by obtain⟨_,_,_,_,_,_,_,_,_,h,_⟩:=h;exact DY.of h);.rintro j x σ Hc hj ⟨W1,D1,kJ,u4,rfl,Sj,oM,xA,ew,ec,ktj⟩;have JQz:j<15:=BX Yf! z15;(obtain⟨c,rfl⟩:∃c,x=O? c:=by rw[ecs,ZH] at hj;cases hc:cs[j]? with | none=>rw[hc] at hj;cases hj | some c=>rw[hc] at hj;exact⟨c,Bx! ZO hj⟩);refine⟨_,rfl,_,rfl,_,rfl,_,rfl,_,rfl,p,W1,D1,m,j,kJ,[],c,false,fr,rfl,Sj,B!,λx1 Hb dd sb ex va hak=>?_⟩;(have na:∀h,dd≠D2! h:=λh z=>AL! (hak h z));have Sb:=Sj.same sb;refine⟨p,x1,W1,D1,m,j,j,0,5*j,0,5*j+5,kJ,[],dd,rfl,ex,Sb,B!,B!,B!,va,Jrc na,λv Hd W2 D2 m4 uC wi JY fp eS td=>?_⟩;obtain⟨uk,bc2,rfl⟩:=Jd9 Sb na oM td;have ecb:=E! sb ec;have o1:=HO! Sb.wa.YL ecb ew q3;have hl:=wi.len;exact⟨W2,D2,m4,_,rfl,wi,uk,by push_cast;lia,z! eS ew,JY cl _ ecb o1 (λz=>Vv!),ktj.trans ((EI sb).trans (Sb.DJ JY))⟩
 rintro σ Hc ⟨W1,D1,kJ,u4,rfl,xK,oM,xA,ew,ec,NS⟩;have oZ:(Ht (ns.map V.int) (some 2) (some 17)).length<=15:=z15;generalize (Ht (ns.map V.int) (some 2) (some 17)).length=n1 at oZ xK xA;have hS6:=hS5.keep NS;intro ad vy;have s6:=H5! vy;have pD:Oj! Hc ad ad:=Ab;generalize GL! Hc ad=H6 at s6 pD;have B0:Bo H6 p W1 D1 m n1 n1 0 (5*n1) kJ [] ad []:=by refine⟨xK.same s6,⟨pD,(ii (AL! hr)),List.Pairwise.nil,(λz=>Vv!)⟩,L!,N? (Mp! AX! Vv!)⟩;rcases hb with rfl|hb;(.obtain⟨v,h,_⟩:=xK.wa.some_at z;rw[h] at vy;cases vy);.cases hb
 refine⟨_,rfl,_,rfl,_,rfl,_,rfl,a,p,ad,ns,W1,D1,m,n1,n1,5*n1,kJ,rfl,A5! hS6.keep s6,hlen,B0,oZ,B!,oZ,oM,λc H7 W2 D2 m4 uC As2 c3 B2 uk bc2 ls2 ix=>⟨true,?_,B3!⟩⟩;.exact rfl
 have hS7:=(hS6.keep (EI s6)).keep ix;obtain⟨lh,tl,o9⟩:=ls2;obtain⟨kF,gI⟩:=B2.wi.wa.ob;refine bc! kF gI W2 W2 B2.wi.wa (λl H8 hl8 wW s8=>?_);have B8:=B2.same s8;have BB:∀{H3:Hp} {W3:EE} {D3:n?} {n3 d3 A3 B3:Nat} {kI:S!} {jQ:H?} {num:Int} {t:Addr},WI H3 p W3 D3 m n3 d3 A3 B3 kI jQ->(num,t)∈W3.ls->∃a1,bv H3 t .BB (O? num::a1):=λ{H3 W3 D3 n3 d3 A3 B3 kI jQ num t} x hm=>by obtain⟨j,hj⟩:=DA.mp hm;obtain⟨z,hz⟩:=av! kI x.lw;exact IA.BB (Ax x.lw _ _ _ hj hz)
 obtain⟨a8,et8⟩:=BB (num:=W2.c) (t:=tl) B8.wi (q! o9 SH!);refine⟨_,rfl,_,rfl,l,_,-1,Q? tl,rfl,rfl,E8! wW,(ga o9 ZF (Ja2 _ _)),tl,_,0,O? W2.c,rfl,rfl,d? et8,Wm!,?_⟩;refine GM (λmm σ Hc=>∃(c q n' d' B':Nat)(W':EE)(D':n?)(al':S!)(EN:H?)(aY:AL)(l:Addr)(u4 u9 iT:Ar!),σ=[EW!,Fk!,bI!,AV!,u4,KO!,Go Jg!,Rx!,Go W'.c,u9,iT]/\mm=600-c/\q<=40/\q<=c/\n'<=18+q/\d'<=18+c+q/\B'+c<=255+5*q/\Bo Hc p W' D' m n' d' 0 B' al' EN ad aY/\LL!/\W'.c<=10000+1000*Jg!/\BD H7 Hc/\L? Hc l (.BJ (W'.ls.map Dh!))) ⟨600,0,0,_,_,_,W2,D2,m4,uC,As2,l,_,none,none,rfl,rfl,wn,wn,B!,B!,B!,B8,uk,by push_cast;lia,EI s8,wW⟩;clear s8 wW hl8 gI et8 o9 B8;rintro mm σ Hc ⟨c,q,n',d',B',W3,D3,kI,jQ,yR,l,u4',u9,iT,rfl,rfl,q40,qc,vd,RG,hB',Bc,nm3,bc3,VF,el⟩;refine HP! wn (λr E_=>Oi! (LX! (Ag E_ _ _ el) (My (Bq Bc.wi.lw (EI (Ag E_))))) (LX! Ab L!) (Fi (Kk Bc.wi.wg.wl.ok)) Rr);have s9:=K0!;generalize ZF! Hc r=H9 at s9;have B9:=Bc.same s9;have iu:=A5! VF.trans s9;have el9:=E! s9 el;by_cases e0:W3.ls=[];.rw[Je,e0,Oc];(have ea:kI=[]:=f5! (y! Bc.wi.lw) e0 (BR.mp this.symm));subst ea;refine Cc (Cc (HP! wn (λr2 JR=>Oi! (LX! (Ag JR _ _ el9) (My (Bq B9.wi.lw (EI (Ag JR))))) (LX! Ab L!) (Fi (Kk B9.wi.wg.wl.ok)) Rr)));rw[Je,e0,Oc];exact Ck ⟨_,rfl,_,rfl,p,ad,W3,D3,m,n',d',0,B',[],jQ,yR,rfl,B9.same (Ag JR),B9.wi.fg,λH'=>k H'⟩
 .rw[Je,U2 Bc.wi.lw e0];(have z1:1<=B':=by have h1:=B9.wi.len;have h2:=ET.mpr e0;lia);refine Ck ⟨_,rfl,_,_,rfl,rfl,_,rfl,?_⟩;rw[MT! (Ir! (s? c<600))];refine Ck (Ae! (λEV H' h=>⟨600-(c+1),B!,h⟩));have c0:=CN Jg! (a9! 42);have c1:=CF Jg! (dk! 42);have hS9:=hS7.keep iu;refine⟨_,rfl,_,rfl,_,_,rfl,rfl,Bv! 42,_,_,rfl,rfl,a,ns,_,rfl,hS9.sq,hlen,B!,B!,λv=>?_⟩;dsimp only [tW];refine tP (λEV Hx=>∃(q2 n2 d2 B5:Nat)(W5:EE)(D5:n?)(xF:S!)(l5:Addr),EV=[EW!,Fk!,bI!,AV!,Go v,KO!,Go Jg!,i? l5,Go W5.c,u9,iT]/\q2<=40/\q2<=c+1/\n2<=18+q2/\d2<=18+c+q2/\B5+c<=255+5*q2/\Bo Hx p W5 D5 m n2 d2 0 B5 xF jQ ad yR/\Num W5/\W5.c<=10480+1000*Jg!/\W5.ls≠[]/\BD H7 Hx/\L? Hx l5 (.BJ (W5.ls.map Dh!))) ?_ ?_;(.intro nx hx;have N_:nx [EW!,Fk!,bI!,AV!,Go v,KO!,Go Jg!,Rx!,Go W3.c,u9,iT] H9:=KH! ⟨q,n',d',B',W3,D3,kI,l,rfl,q40,B!,vd,RG,hB',B9,nm3,B!,e0,iu,el9⟩;refine⟨_,rfl,_,_,rfl,rfl,_,rfl,?_⟩;by_cases c40:s? c<40;(.rw[EM! c40];refine Ck (PP! _ _ rfl rfl (Bv! 4) rfl _ ?_);by_cases e:Bo! (v % 4)=O? 1;(.rw[YH!];refine Ck ⟨_,rfl,_,rfl,_,rfl,_,_,rfl,rfl,TX!,_,rfl,p,W3,D3,m,n',d',0,B',kI,jQ,v / 4,fr,rfl,B9.wi,B!,B!,B!,λvv Ha Wa Da bs L wi JY fp nw=>?_⟩;have Ba:=B9.quiet wi JY fp (λn u=>Tf! (RB! bs)) nw.fi;have nma:=nw.toNv.num nm3 NG!;have nea:Wa.ls≠[]:=λz=>e0 (List.append_eq_nil_iff.mp (nw.ls▸z)).1;obtain⟨dxa,hpa⟩:=Ba.wi.wa.ob;refine bc! dxa hpa Wa Wa Ba.wi.wa (λlb Hb hlb elb sb=>?_);have Bb:=Ba.same sb;(obtain⟨Lh,⟨num,t⟩,eL⟩:∃Lh z,Wa.ls=Lh++[z]:=by rcases List.eq_nil_or_concat Wa.ls with z|⟨x,y,z⟩;(.exact BK! z nea);.exact⟨x,y,z! z List.concat_eq_append⟩);obtain⟨ab,etb⟩:=BB (num:=num) (t:=t) Bb.wi (q! eL SH!);(have emax:(if num > W3.c then num else W3.c)=Wa.c:=by have hc:=nw.c;have hle:=HO! nma.2 (num,t) eL SH!;by_cases zL:L=[];(.subst zL;have hc:Wa.c=W3.c+0:=hc;have hle:num<=Wa.c:=hle;rw[Ei!];lia);.obtain⟨l',t',e'⟩:=nw.toNv.last zL;rw[eL] at e';have:=(List.append_inj' e' rfl).2;have:num=Wa.c:=Px! Prod.fst (List.cons.inj this).1;have hp:=ET.mpr zL;rw[Fg!];exact this);refine⟨_,rfl,_,rfl,_,rfl,lb,_,-1,Q? t,rfl,rfl,E8! elb,(ga eL ZF (Ja2 _ _)),t,_,0,O? num,rfl,rfl,d? etb,Wm!,_,_,rfl,?_⟩;rw[emax];have hl:=Ba.wi.len;(have hl2:Wa.c<=W3.c+c? Wa.ls.length:=by rw[nw.c,nw.ls,ZE];push_cast;lia);exact KH! ⟨q+1,n'+1,d'+1,B'+5,Wa,Da,_,lb,rfl,B!,B!,B!,B!,B!,Bb,nma,B!,nea,iu.trans ((B9.wi.DJ JY).trans (EI sb)),elb⟩);.rw[F9!];exact Cc N_);.rw[Ax! c40];exact Cc (Cc N_));.rintro EV Hx ⟨q2,n2,d2,B5,W5,D5,xF,l5,rfl,yf,q2c,gK,hd2,hB5,Bx,nm5,bc5,ne5,bX,mY⟩;(have YG:PN!<na!:=by rw[ZA];have:=ET.mpr ne5;lia);(have zB5:1<=B5:=by have h1:=Bx.wi.len;have h2:=ET.mpr ne5;lia);have j0:=CN (v / pC!) (Ir! (na!≠0));have j1:=CF (v / pC!) YG;obtain⟨⟨num,t⟩,hy⟩:=q? Au xs W5.ls j (v / pC! % na!).toNat (by rw[ZA] at j0 j1 ⊢;lia);have jA:RK (W5.ls.map Dh!) (v / pC! % na!)=A! JU!:=Ee j0 (CS! hy);obtain⟨l1,l2,sV⟩:=HV (ZP hy);refine⟨_,rfl,_,rfl,_,rfl,_,_,rfl,rfl,TX!,_,_,rfl,rfl,_,_,rfl,rfl,Z1!,_,rfl,l5,_,rfl,WT! mY,_,_,rfl,rfl,YG,l5,_,_,_,rfl,rfl,E8! mY,jA,?_⟩;refine⟨_,rfl,_,rfl,_,rfl,_,rfl,p,ad,t,W5,D5,m,n2,d2,0,B5,0,B5-1,xF,jQ,yR,l1,l2,num,rfl,Bx,B!,B!,B!,sV,wn,B!,λy Hy W6 D6 al6 ys6 As6 L B6 sf mk ly6 _ nv ey=>?_⟩;(have nm6:=nv.num nm5 (AT (by rw[sV];rcases A7! with h|h;(.exact FK!);.exact LC!)));have bW:=bX.trans (Bx.DJ sf);have B6':Bo Hy p W6 D6 m n2 (d2+1) 0 (B5-1) al6 ys6 ad As6:=⟨B6.wi.dn (H! mk Bx.wi.md) (q! ly6 Bx.wi.iz),B6.ak,B6.lk,B6.off⟩;have hl6:=B6.wi.len;(have eL6:W6.ls.length=i6!+L.length:=z! nv.ls ZE);(have ei:(L.map dw!)=(gB (KA!) L.length).map V.int:=by (have:(L.map dw!)=(L.map CD!).map V.int:=F0!);rw[this,nv.nu];rfl);have c05:=nm5.1;refine⟨_,rfl,rfl,_,rfl,?_⟩;rw[Dp! (Mw! (Q? y=V.EO) (λz=>Vv!))];refine Cc ⟨_,rfl,_,rfl,_,_,rfl,rfl,_,rfl,_,_,rfl,rfl,_,rfl,y,_,rfl,WT! ey,_,_,rfl,rfl,_,_,rfl,λpr hpr=>?_⟩;have dq:=Ag (o:=Zk pr (KA!) (KA!+vH! L.map dw!)) hpr;refine⟨pr,KA!,L.length,rfl,FU! Ab,B!,B!,B!,λlr hlr=>?_⟩;have jb:=Ag (o:=.BJ ((gB (KA!) L.length).map V.int)) hlr;have aK:=Ai dq jb;have j9:=(aK _ _ ey).trans (congrArg (λx=>FE! HO.BJ x) ei);refine Oi! (ints_rep j9) (ints_rep Ab) (X9 _) (X9 _);rw[Fn (X9 _)];have ey3:=E! aK ey;generalize upd (upd Hy pr (Zk pr (KA!) (KA!+vH! L.map dw!))) lr (.BJ ((gB (KA!) L.length).map V.int))=Hz at aK ey3;refine Cc ⟨_,rfl,_,rfl,y,_,rfl,WT! ey3,_,_,rfl,rfl,_,rfl,_,_,rfl,rfl,?_⟩;have Bz:=B6'.same aK;obtain⟨dxz,hpz⟩:=Bz.wi.wa.ob;refine bc! dxz hpz W6 W6 Bz.wi.wa (λle He hle ele se=>?_);exact⟨c+1,q2,n2,d2+1,B5-1,W6,D6,al6,ys6,As6,le,_,_,_,DM! nv.c ZA,rfl,yf,q2c,gK,B!,B!,Bz.same se,nm6,by rw[nv.c];push_cast;lia,bW.trans ((EI aK).trans (EI se)),ele⟩
universe E K45
universe N K45
open PySem L2 FX
theorem goal_of{P:Program}{w:World}{K:W.Frag}{mg:v?}{C CW CP CI NH YA aW MI NL NW de QX QF eP SM SD SU TC WM V' SS RZ VS WG VU VZ WB WO WH WN SK SO RY VY V_ RW WC WD WA VQ OM MF MT LJ LI MK VR MC MJ MQ OL ON OK WE VX SV VT WL SR SQ SA QY WK WJ SJ SH SG LK MW MV MM MX MN RU VW MO ME RV SE SW SY SN S_ TH SF R_ RX SX TB bp:Addr}{eX TX QZ eW UE TV UL US XN XA UK TQ WT XG WV WZ XC XQ XH XO UD UH TN WY W_ TL XD XE XB WR OQ M_ NG LN LM NA WS MY M' NF OP OR OO XF WX UM WU XM UJ UI TU UC XJ XI UB UA T_ LO NJ NI NB NK NC TJ WW ND MZ TK TY UN UP UG UQ UT TZ TR TM UO UR bu:FuncData}:Gl (∀base:Heap,sW! cG 12 bp bu EY! TY!) K mg C CW CP CI NH YA aW MI NL NW de QX QF eP SM SD SU TC WM V' SS RZ VS WG VU VZ WB WO WH WN SK SO RY VY V_ RW WC WD WA VQ OM MF MT LJ LI MK VR MC MJ MQ OL ON OK WE VX SV VT WL SR SQ SA QY WK WJ SJ SH SG LK MW MV MM MX MN RU VW MO ME RV SE SW SY SN S_ TH SF R_ RX SX TB bp eX TX QZ eW UE TV UL US XN XA UK TQ WT XG WV WZ XC XQ XH XO UD UH TN WY W_ TL XD XE XB WR OQ M_ NG LN LM NA WS MY M' NF OP OR OO XF WX UM WU XM UJ UI TU UC XJ XI UB UA T_ LO NJ NI NB NK NC TJ WW ND MZ TK TY UN UP UG UQ UT TZ TR TM UO UR bu:=λ_ X G aC aCW aCP aCI aNH aNHd aNNr aMI aNL aNW xNH xNHd xNNr xMI xNL xNW sXW hI hPI hWI mM mFr mPa mCa mAd mGi mPs mCl mSt mTo mNe mSp mQH mPR mAR mLo mGb mHo mDr mTa mQN mQG mTi mPP mPL mPT mWM mWFr mWSe mWCl mWDe mWSt mWLe mWH mWWe mWPa mWGb mWHo mWDr mWTa mP1 mR1 mC1 mSu mHg mDe mDo mSh hII mIF mIS mIL mIR mLH mWAs mWAc mWAn mWLc mWAa mWLa mUn mRc mWIn mWTi mTy mLe mBo mAs mFo mAn mAc mLc mSq mTd mBe mAm hW cC nC0 nC1 nC2 nC3 nC4 nC5 nC6 cCW nCW0 nCW1 nCW2 nCW3 nCW4 nCW5 cCP nCP0 nCP1 cCI nCI0 nCI1 nCI2 nCI3 z0 z1 z2 z3 z4 z5 z6 z7 z8 z9 base=>(Jhx (Jo0 gW) (P,w,K,mg,base,C,CW,CP,CI,NH,YA,aW,MI,NL,NW,λi=>[de,QX,QF,eP,SM,SD,SU,TC,WM,V',SS,RZ,VS,WG,VU,VZ,WB,WO,WH,WN,SK,SO,RY,VY,V_,RW,WC,WD,WA,VQ,OM,MF,MT,LJ,LI,MK,VR,MC,MJ,MQ,OL,ON,OK,WE,VX,SV,VT,WL,SR,SQ,SA,QY,WK,WJ,SJ,SH,SG,LK,MW,MV,MM,MX,MN,RU,VW,MO,ME,RV,SE,SW,SY,SN,S_,TH,SF,R_,RX,SX,TB,bp].getD i 0,λi=>[eX,TX,QZ,eW,UE,TV,UL,US,XN,XA,UK,TQ,WT,XG,WV,WZ,XC,XQ,XH,XO,UD,UH,TN,WY,W_,TL,XD,XE,XB,WR,OQ,M_,NG,LN,LM,NA,WS,MY,M',NF,OP,OR,OO,XF,WX,UM,WU,XM,UJ,UI,TU,UC,XJ,XI,UB,UA,T_,LO,NJ,NI,NB,NK,NC,TJ,WW,ND,MZ,TK,TY,UN,UP,UG,UQ,UT,TZ,TR,TM,UO,UR,bu].getD i default):xO P w K mg base C CW CP CI NH YA aW MI NL NW de QX QF eP SM SD SU TC WM V' SS RZ VS WG VU VZ WB WO WH WN SK SO RY VY V_ RW WC WD WA VQ OM MF MT LJ LI MK VR MC MJ MQ OL ON OK WE VX SV VT WL SR SQ SA QY WK WJ SJ SH SG LK MW MV MM MX MN RU VW MO ME RV SE SW SY SN S_ TH SF R_ RX SX TB bp eX TX QZ eW UE TV UL US XN XA UK TQ WT XG WV WZ XC XQ XH XO UD UH TN WY W_ TL XD XE XB WR OQ M_ NG LN LM NA WS MY M' NF OP OR OO XF WX UM WU XM UJ UI TU UC XJ XI UB UA T_ LO NJ NI NB NK NC TJ WW ND MZ TK TY UN UP UG UQ UT TZ TR TM UO UR bu) X G aC aCW aCP aCI aNH aNHd aNNr aMI aNL aNW xNH xNHd xNNr xMI xNL xNW sXW hI hPI hWI mM mFr mPa mCa mAd mGi mPs mCl mSt mTo mNe mSp mQH mPR mAR mLo mGb mHo mDr mTa mQN mQG mTi mPP mPL mPT mWM mWFr mWSe mWCl mWDe mWSt mWLe mWH mWWe mWPa mWGb mWHo mWDr mWTa mP1 mR1 mC1 mSu mHg mDe mDo mSh hII mIF mIS mIL mIR mLH mWAs mWAc mWAn mWLc mWAa mWLa mUn mRc mWIn mWTi mTy mLe mBo mAs mFo mAn mAc mLc mSq mTd mBe mAm hW cC nC0 nC1 nC2 nC3 nC4 nC5 nC6 cCW nCW0 nCW1 nCW2 nCW3 nCW4 nCW5 cCP nCP0 nCP1 cCI nCI0 nCI1 nCI2 nCI3 z0 z1 z2 z3 z4 z5 z6 z7 z8 z9
theorem all_mk{P:Program}{w:World}{K:W.Frag}{h:Heap}{mg:v?}{fa f:Addr}{d:FuncData}(X:K.In h)(G:QR! h.Ns)(eF:lh! "law")(hW:GI K "law" kQ f d)(A:∀base:Heap,sW! cG 12 f d EY! TY!) : ∃fd:FuncData,(∀(s:Shared)(v:Value),mk! [v] [(Pk!,v)])/\sF! (K.In base) P K cG 12 EY! TY!:=by have e:=eF.symm.trans (NV X G hW.a);cases e;have z:=hW.fn;obtain⟨⟨oc,od,kV,doc,pm,an,D_,ct,je,rfl,lk,cd⟩,kp⟩:=z;exact⟨vi! "law" "law" (Nj kQ) (Hl kQ) (Ak kQ) l?,λs v=>.of_eq rfl,λbase _ _=>A base⟩
theorem walk{l:W.OpenLaw}{q:Program}{loose:U?}{XP:KJ! XF!}{YP:KJ! World}{d:DefRec}{K:Params->W.Frag}(hn:gR! 63)(om:d.params.defaults=[])(hY:∀(w:World) (h:Heap),YP w h->hX!)(F:∀(w:World) (mg:v?) (fa:Addr) (h:Heap),hX!->QR! h.Ns->lh! d.name -> ∃fd:FuncData,(∀(s:Shared) (u:Value),mk! [u] [(Pk!,u)])/\sF! ((K w.params).In base) l.prog uo! cG 12 EY! (Oy (K w.params))) : W.WalkO q loose XP YP l.row.toRowW d [] (λf vs=>PySem.call f vs) :=L2.iP (n:=63) (k:=12) (x:=Pk!) (CX:=λw=>cG) (sp:=λw=>Oy (K w.params)) hn JX! om (BO! w? w?) hY F (λ_ H a ns hl hO hS=>⟨a,ns,rfl,gU.of hO hS,hl,Cg!⟩) λ_ _ _ _ _ z=>z
end
end K45
open PySem PySem.W PyProof.Rows
set_option maxRecDepth 100000 in
set_option maxHeartbeats 0 in
theorem PySem.Challenge.cw_farhold_k45_asks_holds : PySem.Challenge.rw_farhold_k45_asks.Holds := by
 w_on;o_law;k_head;(case hw=>w_witness2)
 k_fill
 refine K45.walk (l:=PySem.Challenge.rw_farhold_k45_asks) rfl rfl (fun w h Y=>W.kIn_of Y) ?F
 case F =>
  intro w mg fa h KX G hmg
  refine' K45.all_mk KX G hmg ?hW (K45.goal_of KX G ?aC ?aCW ?aCP ?aCI ?aNH ?aNHd ?aNNr ?aMI ?aNL ?aNW ?xNH ?xNHd ?xNNr ?xMI ?xNL ?xNW ?sXW ?hI ?hPI ?hWI ?mM ?mFr ?mPa ?mCa ?mAd ?mGi ?mPs ?mCl ?mSt ?mTo ?mNe ?mSp ?mQH ?mPR ?mAR ?mLo ?mGb ?mHo ?mDr ?mTa ?mQN ?mQG ?mTi ?mPP ?mPL ?mPT ?mWM ?mWFr ?mWSe ?mWCl ?mWDe ?mWSt ?mWLe ?mWH ?mWWe ?mWPa ?mWGb ?mWHo ?mWDr ?mWTa ?mP1 ?mR1 ?mC1 ?mSu ?mHg ?mDe ?mDo ?mSh ?hII ?mIF ?mIS ?mIL ?mIR ?mLH ?mWAs ?mWAc ?mWAn ?mWLc ?mWAa ?mWLa ?mUn ?mRc ?mWIn ?mWTi ?mTy ?mLe ?mBo ?mAs ?mFo ?mAn ?mAc ?mLc ?mSq ?mTd ?mBe ?mAm ?hW ?cC ?nC0 ?nC1 ?nC2 ?nC3 ?nC4 ?nC5 ?nC6 ?cCW ?nCW0 ?nCW1 ?nCW2 ?nCW3 ?nCW4 ?nCW5 ?cCP ?nCP0 ?nCP1 ?cCI ?nCI0 ?nCI1 ?nCI2 ?nCI3 ?z0 ?z1 ?z2 ?z3 ?z4 ?z5 ?z6 ?z7 ?z8 ?z9)
  case aC|aCW|aCP|aCI|aNH|aNHd|aNNr|aMI|aNL|aNW=>k_is
  case xNH|xNHd|xNNr|xMI|xNL|xNW=>k_exc
  case hI|hPI|hWI|hII=>exact⟨by k_is,by k_is,⟨⟨_,_,_,_,_,_,_,_,_,rfl,by k_is,by k_is⟩,by k_is⟩⟩
  case mM|mFr|mPa|mCa|mAd|mGi|mPs|mCl|mSt|mTo|mNe|mSp|mQH|mPR|mAR|mLo|mGb|mHo|mDr|mTa|mQN|mQG|mTi|mPP|mPL|mPT|mWM|mWFr|mWSe|mWCl|mWDe|mWSt|mWLe|mWH|mWWe|mWPa|mWGb|mWHo|mWDr|mWTa|mIF|mIS|mIL|mIR|mLH|mWAs|mWAc|mWAn|mWLc|mWAa|mWLa|mWIn|mWTi=>exact K45.MeI.mth ⟨by k_is,by k_is,⟨⟨_,_,_,_,_,_,_,_,_,rfl,by k_is,by k_is⟩,by k_is⟩⟩
  case mP1|mR1|mC1|mSu|mHg|mDe|mDo|mSh|mUn|mRc|mTy|mLe|mBo|mAs|mFo|mAn|mAc|mLc|mSq|mTd|mBe|mAm=>exact K45.GI.gdi ⟨by k_is,⟨⟨_,_,_,_,_,_,_,_,_,rfl,by k_is,by k_is⟩,by k_is⟩⟩
  case hW=>exact⟨by k_is,⟨⟨_,_,_,_,_,_,_,_,_,rfl,by k_is,by k_is⟩,by k_is⟩⟩
  case cC|cCW|cCP|cCI=>constructor<;>k_is
  case sXW|nC0|nC1|nC2|nC3|nC4|nC5|nC6|nCW0|nCW1|nCW2|nCW3|nCW4|nCW5|nCP0|nCP1|nCI0|nCI1|nCI2|nCI3|z0|z1|z2|z3|z4|z5|z6|z7|z8|z9=>k_is
