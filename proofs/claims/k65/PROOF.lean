import PyProof.Rows.All
import Wide.All
import OpenK.AllK
import Wide.FinOn
import Lean
import PyProof.EqAt
import PyProof.EqKinds
import PyProof.TupleCall
import PySem.Challenge.RW_farhold_k65_whole_still_houses
set_option linter.all false
def AB:=@List.mem_filter
def AD:=@if_neg
def AE:=@if_pos
def AG:=@List.mem_map
def AH:=@List.append_nil
def AI:=@List.map_cons
def AK:=@List.nodup_append
def AL:=@Bool.false_ne_true
def AM:=@Int.toNat_natCast
def AN:=@List.length_filter_le
def AQ:=@List.map_map
def AR:=@Nat.le_trans
def AV:=@PySem.Heap.lt_size
def AY:=@Nat.zero_le
def AZ:=@List.nodup_cons
def A_:=@List.mem_of_find?_eq_some
def BC:=@List.mem_map_of_mem
def BD:=@List.find?_eq_none
def BE:=@List.append_assoc
def BH:=@List.size_toArray
def BI:=@List.mem_range
def BJ:=@List.length_eq_zero_iff
def BK:=@of_decide_eq_true
def BN:=@Int.le_refl
def BO:=@List.length_cons
def BP:=@PySem.F.plainAttrs_list
def BQ:=@Nat.ne_of_lt
def BS:=@List.take_length
def BU:=@List.find?_cons
def BW:=@Int.toNat_of_nonneg
def BX:=@List.length_nil
def BY:=@Int.emod_nonneg
def BZ:=@PySem.boot_len
def B_:=@Nat.lt_of_lt_of_le
def CA:=@Int.emod_lt_of_pos
def CB:=@List.length_range
def CC:=@List.mem_singleton
def CD:=@List.map_congr_left
def CF:=@List.flatMap_append
def CG:=@List.length_take
def CJ:=@List.flatMap_cons
def CK:=@List.sum_cons
def CL:=@PySem.wpAny_dictEntries
def CM:=@List.mem_cons
def CN:=@PySem.F.type_list_append
def CO:=@PySem.F.slot_list_append
def CS:=@List.getElem?_eq_none
def CU:=@List.nodup_nil
def CV:=@List.mem_filterMap
def CY:=@Bool.false_eq_true
def CZ:=@PyProof.Rows.boot_sorted
def C_:=@List.mem_iff_getElem?
def DA:=@Array.length_toList
def DB:=@List.mem_append
def DE:=@PySem.F.plainAttrs_dict
def DF:=@PySem.sizeLine_eq
def DG:=@PySem.wpAny_call_entry
def DH:=@List.filter_cons
def DJ:=@Nat.le_of_lt
def DK:=@List.take_add_one
def DP:=@List.pairwise_cons
def DQ:=@Nat.lt_irrefl
def DS:=@List.mem_flatMap
def DU:=@beq_eq_false_iff_ne
def DW:=@List.find?_some
def DX:=@List.not_mem_nil
def DY:=@PyProof.Rows.boot_tuple
def EC:=@List.pairwise_map
def EE:=@List.range_succ
def EG:=@PySem.wpAny_holding
def EH:=@List.getElem?_append_left
def EI:=@PySem.wpAny_newObj_type
def EJ:=@List.take_append_drop
def EK:=@PySem.Heap.get?_update_other
def EO:=@PySem.wpAny_dictEpoch
def ER:=@Nat.ne_of_gt
def ES:=@List.getElem?_set_ne
def ET:=@PySem.tupleKind_room_in1
def EV:=@if_false
def EW:=@List.filter_sublist
def EX:=@List.filter_eq_self
def EY:=@List.map_nil
def EZ:=@List.getElem?_set_self
def E_:=@Nat.le_succ
def FA:=@PySem.wpAny_mono
def FD:=@List.filter_append
def FH:=@PySem.F.slot_dict_get
def FJ:=@PySem.Calls.callWith_builtin
def FN:=@PySem.F.plain_extend_loop
def FO:=@List.filterMap_eq_nil_iff
def FQ:=@PySem.wpAny_setField_rec
def FR:=@Nat.le_succ_of_le
def FU:=@Nat.mul_le_mul_right
def FY:=@Nat.not_lt
def F':=@List.length_pos_iff
def GA:=@List.filterMap_cons
def GJ:=@PySem.W.mg_none_of
def GK:=@PySem.Obj.data_mapDictKeys
def GN:=@PySem.Calls.evalArgs_plain
def GV:=@List.map_id'
def GW:=@Nat.lt_of_le_of_lt
def G_:=@PySem.wpAny_typeNameOfWhole_itemiter
def HD:=@List.perm_append_comm
def HF:=@Nat.lt_succ_of_le
def HG:=@PySem.wpAny_typeNameOfWhole_keyiter
def HH:=@PySem.F.slot_dict_itemiterator_next
def HJ:=@PySem.Calls.spliced_cons
def HM:=@PySem.wpAny_passesOwn
def HN:=@List.getD_eq_getElem?_getD
def HP:=@PySem.F.slot_dict_keyiterator_next
def HW:=@Nat.le_add_right
def HX:=@List.flatMap_nil
def HY:=@Bool.and_eq_true
def HZ:=@PySem.wpAny_notOrdered_dict
def H_:=@PySem.Heap.get?_update_self
def IB:=@PySem.mem_of_lookup
def IG:=@PySem.F.slot_dict_values
def IL:=@PySem.codeAny_mono
def IM:=@List.append_of_mem
def IQ:=@PySem.Calls.call_function_entry
def IW:=@List.take_zero
def IX:=@List.filter_congr
def IY:=@List.ext_getElem?
def IZ:=@PySem.wpAny_typeNameOf_keyiter
def I_:=@PySem.F.entry_dict_get
def JC:=@PySem.size_of_entries
def JF:=@PySem.wpAny_Call_Name_kw
def JH:=@PySem.wpAny_callSpecial?_slot
def JI:=@PySem.F.slot_dict_pop
def JN:=@beq_iff_eq
def JQ:=@Nat.lt_succ_self
def JR:=@List.getElem_inj
def JS:=@List.any_eq_true
def JT:=@Array.isEmpty_iff_size_eq_zero
def JW:=@if_true
def JX:=@List.any_cons
def KA:=@PySem.Calls.spliced_nil
def K':=@PyProof.Rows.get?_update_seq
def LA:=@List.sum_append
def M':=@or_false
def NA:=@PySem.Around.under_plainId
def NS:=@List.mem_or_eq_of_mem_set
def NV:=@PySem.Obj.isFreed_of_dict
def NX:=@Nat.le_of_lt_succ
def N':=@PySem.W.mg_of
def OC:=@PySem.W.KasT.kasWp_bind
def OD:=@PySem.F.type_list_extend
def OE:=@PySem.F.type_dict_values
def OF:=@PySem.F.slot_list_extend
def OV:=@List.range'_succ
def OW:=@List.lookup_cons
def PY:=@Nat.lt_trans
def PZ:=@List.pairwise_lt_range
def P_:=@List.length_pos_of_mem
def P':=@List.Perm.append_right
def QJ:=@PySem.wpAny_truthy_bool
def QK:=@PySem.wpAny_Call_method
def QL:=@List.filter_map
def QM:=@Bool.eq_iff_iff
def TJ:=@PySem.wpAny_newList
def TM:=@List.filterMap_append
def VY:=@PySem.wpAny_forIn_list
def VZ:=@Std.Legacy.Range.forIn_eq_forIn_range'
def WT:=@PySem.call_meetsIn
def WZ:=@PySem.wpAny_isOneOf_itemiter
def XG:=@PySem.wpAny_execs_nil
def XH:=@PySem.codeAny_builtin
def dX:=@PyProof.Rows.entry_list_sort
local macro_rules(kind:=Lean.Parser.Command.mutual)|s=>do
 let c:=s[1].getArgs
 if c[0]![1][1][0].getId != `Z then Lean.Macro.throwUnsupported
 let q:=fun(m:Lean.NameMap (Array Lean.Name×Lean.Syntax))(x:Lean.Syntax)=>x.rewriteBottomUp fun y=>if y.isIdent then match m.find? y.getId with|some (#[],b)=>b|_=>y else if y.isOfKind `Lean.Parser.Term.app then match m.find? y[0].getId with|some (p,b)=>if p.isEmpty then y else b.rewriteBottomUp fun z=>if z.isIdent then match p.findIdx? (·==z.getId) with|some i=>y[1][i]|_=>z else z|_=>y else y
 let e:=c[0]![1][3][1][1].getSepArgs
 let n<-`(noncomputable def a:=1)
 let mut m:={}
 for i in [0:e.size/2] do
  let h:=e[2*i]!
  let b:=q m e[2*i+1]!
  m:=if h.isIdent then m.insert h.getId (#[],b) else m.insert h[0].getId (h[1].getArgs.map (·.getId),b)
 let o<-(c.extract 1 c.size).mapM fun c=>do
  if c.isOfKind `Lean.Parser.Command.universe then
   let a:=c[1].getArgs
   if a[0]!.getId==`T then
    return Lean.mkNullNode ((a.extract 1 a.size).map fun i=>n.raw.rewriteBottomUp fun z=>if z.isIdent then Lean.mkIdent (.str `PySem.W.Fast s!"tw{i.getId.toString.foldl (fun n c=>n*52+if c.toNat<91 then c.toNat-65 else c.toNat-71) 0}") else z)
   else if a[0]!.getId==`S then `(section)
   else if a[0]!.getId==`N then `(namespace $(⟨a[1]!⟩))
   else if a.size==1 then `(end)
   else `(end $(⟨a[1]!⟩))
  else
   let c:=(q m c).rewriteBottomUp (·.setInfo .none)
   if [`Lean.Parser.Command.definition,`Lean.Parser.Command.abbrev,`Lean.Parser.Command.instance].contains c[1].getKind&&c[0].getArgs.all (·.isNone) then return c.setArg 0 n.raw[0] else return c
 return Lean.mkNullNode o
noncomputable section
mutual
def Z:=#[Bl!,Type _,
OL!,as[i]?,
P?,.inl,
y!,.inr,
g!,.int,
re,.str,
Ih!,by grind,
i? a,a=false,
UC!,(nomatch e),
q!,.cons,
sB a b c,if a then b else c,
Dg!,xs.length<=sizeLine,
ON! a b,{ cls:=a,data:=b },
B9!,.type,
ci,"list",
UD!,kvs.length<=sizeLine,
BF!,(·.1),
CA!,.own,
OO!,"range",
KF,.none,
BG!,.ref,
O!,.nil,
OQ!,λ_ _ q=>q,
G! a b,by rw[a];exact b,
cT! a b,by subst z;rw[a] at mu;exact b,
cr a,∀b o,a,
BH! a,by rw[a];simp,
OR!,λz=>z,
OS!,.local,
KM,.cell,
Cq!,.free,
BI!,X.calm=true,
J7!,b≠X.env.locals,
AQ! a,λb o e=>a,
UE!,s.heap.objs.size<=a,
Q? a,λb hb=>a,
R? a b,by rw[a,b],
OT!,{ s with heap:=h',toks:=t' },
B?,by simp,
ce!,(nomatch z),
UG!,λ_ _ e=>e,
Cr!,by simpa using hb,
EQ a,by rw[a];rfl,
EW! a b,by rw[a];exact b,
db,{ s with heap:=h' },
N? a b,by rw[<-a];exact b,
UH!,λ_ _=>False,
ch!,λ_ _ x=>x,
ci!,.Constant,
sK,.bool,
OV!,.NotIn,
a!,by decide,
ck! a,by intro AA s σ H Q I h;exact a,
Cs!,"tuple",
Ct! a,by simpa using a,
M1! a,λD σ H=>a,
M2!,b=true,
PB!,λ_ _ _=>False,
T0,(·.2),
FN! a,∀b∈fp,a,
G8!,"dict_itemiterator",
UK! a,λi h st b hb=>a,
UL!,by simpa using hu,
Dk! a,λb o hb e=>a,
cn!,by simp;lia,
co!,b=s1.heap.objs.size,
A!,by lia,
J8!,i<=xs.length,
RR!,xs.length-i,
UO!,i<xs.length,
cq!,i=xs.length,
cr!,false=true,
UP!,kvs.length=vs.length,
CB!,.builtin,
FP! a,by rw[a];lia,
cs!,"__init__",
FQ! a,{ s with heap:=a },
EX! a,show a from rfl,
Cu!,by simp at h,
x?,by simpa using h,
Sc,.ins,
EY! a b,show a from b,
Av! a,a<=sizeLine,
Sa! a b,by rw[a,b];lia,
M4!,λ_=>none,
Ea! a,λe he=>a,
EZ!,λ_=>rfl,
Uq!,.Attribute,
M5!,A.handled=none,
M6!,us++ds,
V7!,by simpa using h2,
XQ!,by simp[e],
cw!,kvs.length<sizeLine,
BJ! a,by have:=a;lia,
Sd!,.Subscript,
Ya! a,λw' s3 I3 QN=>a,
cy!,kvs.length+more.length,
xz a,by show a;lia,
Zu!,A.units<cLine,
Se!,xs[j]?,
Sf!,j<xs.length,
sw a,(by cases a),
aO! a,show a by simp,
c2!,by simp only[BH]<;>lia,
dG!,its.toArray.size+PO.toArray.size,
ut a b c,by rw[a,b];exact c,
dV!,ns.length<=n,
Dl!,.list,
Bn!,.tuple,
Eb!,by simpa using e,
fd!,by simp at e,
Cw! a,λb o e hb=>a,
Sh! a,λb hb z=>a,
aP!,"dict_keyiterator",
NC!,"StopIteration",
aQ!,by size_fits,
FR!,(·.2.1),
hc!,j<es.size,
aR! a,by have:=a;simpa using this,
hg!,by simp[hj],
Cx! a b,by rw[a,b];rfl,
aS!,λc w' _ q=>q,
hz!,i<kvs.length,
Si!,kvs[i]?,
aT!,by simp[hi],
h5! a,λb ob hb e=>a,
FS! a,by exact a,
iu!,by assumption,
jZ! a,acc.toList=a,
je!,by simp[h1],
kd!,{ s with heap:=hh },
Cy! a,show a by lia,
ls!,j<L.length,
Sj!,i<as.length,
G9! a b c,by rw[a,b,c];rfl,
Cz!,T2×Int,
C0!,"number",
CD!,"made",
Aw!,"ticks",
BK!,"hand",
Ax!,"outs",
Ay!,"holds",
BL!,"records",
Sk! a,by show a;decide,
TD a,λq hq=>a,
ND! a,∀q∈G.holds,a,
FT!,b≠p,
Dm!,by simp[BL],
aV!,by simpa using hq,
Sl!,"dict_items",
Sm!,env::outer,
aW!,by simpa using z,
FU! a,show a from rfl,
pa!,{ s with heap:=h2 },
NE!,{ s with heap:=h1 },
NF! a b,by rw[<-a,b],
p8! a b c,by show a;rw[b];exact c,
p9! b,λj a q e1 e2=>b,
Sn! a,λq:T2×Int=>a,
KD! a,by rw[a],
CE! a,λr hr=>a,
C1!,t∈l,
qA!,λq:T2=>q,
NG! a,λq hq z=>a,
CF!,t=tb,
aX!,tb∈ts,
aY! a,show a by simp,
KE!,"latest",
NH!,"waiting",
So!,Int×Addr,
A0! a,∀l∈ls,a,
C2! a,λl hl=>a,
NI!,l1++l2,
Sp!,Addr×BV,
Dn!,"houses",
Ah!,"share",
AC!,"post",
Do!,"inquiries",
Dp!,"finds",
NJ!,"enclosed",
qB!,by simp[Cg],
KH! a,{ W with qs:=a },
ac!,"house",
C5!,(·.2.2),
ad! a,by unfold Ck;rw[a];rfl,
KI! a,∀t∈G.hand,a,
ag!,by simpa using ht,
Sv! a b c,by rw[<-a,<-b];exact c,
CN!,t∈G.hand,
qF! a,{ G with AF:=a },
S5!,j<QC.size,
NR!,t∈ts,
A7!,t∈R,
ap! a,∀t∈ahead,a,
aq! a b c,by rw[a,b];exact c,
as! a,{ G with AJ:=a },
qH!,i<=kvs.length,
au! a,∀q∈qs,a,
KR!,t∉R,
NV!,by simpa using c,
Es! a,λt h=>a,
h? a,λt ht=>a,
KV! a,us.length=a,
qO!,"House.__init__",
qP!,"Post.__init__",
Nc!,"make",
qQ!,"House.make",
BX!,"self",
Nd!,"free",
qR!,"House.free",
qS!,"House.part",
qT!,"House.came",
az!,"weight",
qV!,"House.added",
qW!,"House.given",
qY!,"House.passed",
Ng!,"clean",
qZ!,"House.clean",
TM!,"state",
TN!,"told",
qa!,"House.told",
KZ!,"thing",
qb!,"is_spent",
qc!,"House.is_spent",
qd!,"part_record",
qe!,"House.part_record",
SL,"hold",
qh!,"House.hold",
qi!,"need_near",
qj!,"House.need_near",
qk!,"House.tick",
Nj!,"letters",
qm!,"Post.letters",
qn!,"Post.taken",
qo!,"weight_came",
qp!,"World.weight_came",
TR!,"letter",
qq!,"pass_came",
qr!,"World.pass_came",
TS!,"parted",
Kc!,"reached",
qs!,"_law_cell",
Kd!,"_law_script",
a4!,"_law_k",
qt!,"Inquiry.__init__",
qv!,"Inquiry.first",
qw!,"Inquiry.second",
qx!,"Inquiry.still",
qy!,"Inquiry.result",
F7!,"let",
q0!,"House.let",
pu,"ask",
q1!,"ask_came",
q2!,"World.ask_came",
q3!,"answer_came",
q4!,"World.answer_came",
q5!,"let_came",
q7!,"World.let_came",
q8!,"beginner",
q9!,"let_all",
rA!,"World.let_all",
a7!,"unreached",
DN!,"states",
a8!,"recorded",
TX!,"_law_cell_here",
Kf!,"_law_world",
a9!,"_law_h",
rD!,"_law_held",
TY!,"_law_p",
TZ!,"_law_q",
Ta!,"_law_r",
bA!,"_law_number",
rF!,"_law_rest_here",
E3!,"many",
GE!,"first_ticks",
HW!,"second_ticks",
bI!,ta∈G.hand,
B8!,tb∈G.hand,
rM! a,show a by decide,
rP! a,∀(x:Addr)(H':Hp),a,
AC a,λz hz=>a,
rc! a,∀(t:Addr)(H':Hp),a,
rf! a,by unfold YH;rw[a],
rp! a,let⟨_,_,_,fr⟩:=h;a,
EV! a,λb o e h1 h2=>a,
Bm!,"back",
Dh!,"more",
Di!,"pass",
RQ!,x≠W.hs,
OP! a b,by rw[a];show b;lia,
cZ! a b,{ W with c:=a,ls:=b },
Dj!,W.ls++L,
ca!,G'.BR=G.BR,
cb!,G'.AW=G.AW,
cc! a,∀t∈G'.hand,a,
UF!,λt _ h=>h,
SZ,a++b,
cd! a b c,by rw[a,b];show c;lia,
L6!,l∈ls,
OU!,λ_ h=>h,
G6!,G.AW<=G'.AW,
cg! a,λr hr t ht=>a,
cj!,G'.holds=G.holds,
UI! a,by unfold OK;rw[a];rfl,
cl! a,by unfold V_;rw[a];rfl,
PH!,t∉ts,
G7! a,λk:Nat=>a,
Pg!,fi.length=m,
UJ!,G.AS<G'.AS,
UN! a,W.EF.length<=a,
FO!,"answer",
Q3! a,λb o eb hb=>a,
J9! a,λb ob e n=>a,
M3!,(·.key),
KA! a,show a by lia,
xL,e1++e2,
Sb! a,λb o eb hb n1 n2 n3=>a,
M7! a,by show a;lia,
M8! a,a+G.AJ.length,
WU! a,a+G'.AJ.length,
Wa!,W.qs[j]?,
KB!,(·.n),
M9! a,∀z∈al,a,
ct! a,{ W with qs:=a,c:=c,ls:=Ls },
NA!,z∈al,
Sc! a,λs g ts hz=>a,
Cv!,W'.ED=W.ED,
NE,W'.hs=W.hs,
YE! a b,by unfold nums;rw[a];exact b,
NB!,W'.qs=W.qs,
cz!,(·.toNat),
CC!,t∈T,
KC! a,∀t∈T,a,
Sg! a,λv W' al' EL H'=>a,
Ec!,t∈S,
aU!,t∈c.Lr,
B! a,some a,
z! a b c,a b=B! c,
S? a,(a:Int),
K? a,(BG! a),
BM! a,List (a),
l! a,BG! a,
a? a,decide (a),
Bo! a c,z! a b c,
H! a,P? a,
G? a,a BF!,
E?,(pv 0),
F! a b,a _ _ b,
H? a,V.int a,
D!,List T2,
C!,(A!),
wE a b,a->b->Prop,
b? a b c d,z! a b (c d),
AT a b,a b=none,
AA! a b c d,(upd a b (c d)),
N! a,y! a,
dj a,(g! a),
m? a,V.ref a,
AB! a,Bo! a o,
P! a b,(G! a b),
E!,List V,
AR! a b,Inv X AA σ a b,
Az! a b,⟨_,a,b⟩,
Q!,(pv 1),
n? a,⟨rfl,a⟩,
R! a,g! a,
T? a,⟨_,a⟩,
FV! a,AR! H a,
AS! a,λq=>a? a,
h! a b c,a _ _ b c,
i! a b,G! (Ac a) b,
HA! a,(a BF!),
p? a,AT H a,
wP a,(Aa a Ae),
No a b,a=S? b,
KF! a b c d e f g,wpAny (model a b) c d e f g,
UF a,B! (K? a),
K!,FV! s,
D?,q.2.1,
v! a b,(a _ _ b),
L!,(pv 2),
Bp! a,Ai a t,
AT! a,t∈G? a,
J!,List Addr,
wT a b,(Aa a (Aa b Ae)),
o? a b,(a b).length,
f8,W.c+1,
C?,(Ao E? rfl),
I!,Cx Kx,
Ai! a b,PE X a b,
FW! a,Option a,
ga a b,absurd a b,
A1! a,(P? a),
M!,List LL,
U?,S? i,
KG!,(by rfl),
aZ! a b c,AO CW a CP b p c,
su!,(sw z),
Ed!,(q,G),
Op,l! p,
Dq! a,wE a Hp,
Bq! a,Az! a ?_,
sv! a b c,As (i:=a) b rfl (Or.inl rfl) c,
S!,List α,
Z!,List Value,
CG! a b c,AA! H a b c,
Ee! a,B9! a,
UV,[BX!],
ii,(G.BR,G.AW),
I? a b c,Aq a b (Al c),
AD!,(q,G'),
AE! a b,¬((a:Str)=b),
Br! a,B! (dj a),
d!,List Int,
Dr! a b,Ah (o:=a) b,
L? a,Paired.length a,
CH! a,a=B! Ed!,
T!,BM! Cz!,
A?,(pv 3),
U! a,(e.2.2.2.2.2.2.2.2.2.2.2.2.2.2.2 a),
V! a,(e0.2.2.2.2.2.2.2.2.2.2.2.2.2.2.2 a),
W! a,(e.2.2.2.2.2.2.2.2.2.2.2.2.2.2.1 a),
X! a,(e0.2.2.2.2.2.2.2.2.2.2.2.2.2.2.1 a),
j! a b c,FL K a b c f fd,
Sq!,S? 0,
Uf a,wE a Shared,
Y!,n? (λDZ A outer s hr=>?_),
WF a,DO.of a,
Tk,l! a,
AU! a b c d,upd a b (c d),
aa! a b c,An (xs:=a) (j:=b) c,
Sr! a b c d e f g h,(Ap (pl:=_) a b c d e f O! g h),
CI! a b c,Paired a b c,
AV!,ZL ..,
Ef! a,H? (S? a),
FB,(i+1),
M? a b,λz=>a (b),
Eg! a b,z! a x b,
FM a,DN.of a,
AW! a,a (A!),
BN! a,S? (a:Nat),
j? a,ZB _ a,
Eh! a b c d e f,DC K CW a b c d e f,
q?,(Am G ts),
o!,BM! So!,
Ss! a b c,b? a b .BF c,
FS,(keepR G R),
FX! a b c,AA! a b .BF c,
qC!,m? D?,
ab! a b c d,z! a b (.BF (c d)),
St! a,No t.1 a,
WP a,CT a _,
k!,hr.mono (a!),
GE,q.2.2,
c? a b,N! ⟨a,b⟩,
NK! a b c,z! H a (.BG (b c)),
y? a,(a (·.1)).Nodup,
z?,q.1=t,
O?,(pv 4),
C3! a b,a b λvs H Q E h=>?_,
Su!,tk q.1,
Bs! a b c,(Ad a (Ad b c)),
C4! a,(h? a),
NL! a b,W.qs.set a b,
A2!,BL G,
wn a,(ZD _ a),
w!,BM! (Addr×Obj),
x!,BM! Sp!,
Bt! a,ZC _ a,
CJ! a b c d,DR 1 a b c (d),
CK! a,(A6 A9 a Af),
GM,(ZG _),
AX! a,(ZJ a).1,
HB!,[BX!,KZ!],
CL!,[BX!,"h"],
Ei! a,Sq!<a,
Go a b,⟨a,b,?_⟩,
NM!,‹_›,
Ds!,List Key,
Dt!,AB! H,
AY! a,i? (a),
d? a,⟨a,?_⟩,
BO! a,λt=>a? a,
F?,List Qy,
HC! b c,z! b a c,
r?,S? h,
W?,H! h,
FY! a b c,(A5 a b c (A7 _)),
CM!,G.AS+1,
HD! a b,a (AS! b),
J?,T2->Prop,
AF!,[BX!,TR!],
s?,p? b,
ae! a b,⟨rfl,rfl,a,b⟩,
Bu! a b,⟨rfl,a,b⟩,
af! a b c e f,WI a b W D m n d c B e f,
HE! a b c,((a b).map c),
V?,Cc hr,
XV,(B?),
BP!,r.2.2,
Sw! a,V.int (a),
X?,List Str,
A3! a b,ZR (a b),
AG!,T? rfl,
BQ! a,Q (K? a) H',
qD! a b,NK! a tv b,
Y? a,C3! F.II a,
k?,Str->FW! Value,
Z?,AU C H p G,
FZ! a b,⟨q,a,b⟩,
Du! a b,a? (a=b),
CO!,G? G.AF.map,
t? a,Az! rfl a,
Sx! a b c,(upd a b (.BF (c V.ref))),
qE! a,a AA s σ H _ I h,
Ej! a,(λ_ _ _ _ _=>a),
Sy! a,(Ne.symm a),
HF! a b,z! a y b,
BR!,ae! rfl rfl,
sw! a,(Sk! a),
KJ!,q.1≠t,
e?,AE rfl,
u?,BM H H',
Sz! a b c,a b m c sh qs ls,
Dv! a b,(Bo a b A8),
sx! a b c,af! a b c al ys,
f?,Ok G n,
Fa! a b c,(sv! a b c),
CP! a b,λi=>a i b,
ah! a,show Ei! a by decide,
ai! a,Br! (S? a),
g?,Uf Value,
HG! a,GC p W H a,
qG!,(as.map Value.ref),
aj! a b,(Bc (i:=a) b rfl (Or.inl rfl)),
C6! a,(l.map a),
Ek! a b,absurd (a) b,
At,ZG _,
AZ!,AY _,
l?,Nat->D!,
BS! a,(Ag (Az a)),
S0! a b,Ss! a b ys,
El!,[BX!,"b",az!],
Em! a b,AU C a p b,
Aa! a,(a)=true,
Dw!,AB! s.heap.get?,
Dx! a b c,ab! a b c V.ref,
sy! a b,sx! H a b,
Dy! a,a V.ref,
Ix a b,a b=true,
Aj! a b c d,⟨_,a,b,c,d⟩,
v?,List LT,
am a b,Q (K? a) b,
Ak!,Bp! G.AJ,
S1!,A1! h,
S2! a b,Bq! (Ad (a) b),
w?,CH! (qs[i]?),
KB,Bl H H',
CQ! a,(Ag (Av a)),
S3! a b c d e f,(Ba a b KG! c d e O! Au f),
Al! a,decide_eq_false a,
Os,l! b,
Am! a b,H! ⟨a,b⟩,
C7! a,AT a b,
S4!,dj sh,
An! a,Bl H a,
CR! a b,a b H Q E,
S6! a,a NM!,
Fb!,(n+1),
En!,(AV!),
NN! a,(ah! a),
HH!,found++[t],
C8!,K? C,
Ch,AE c,
Eo!,Bp! G.AF,
S7! a b,(EM (qE! a) b),
ak! a,Ac (Ne.symm a),
Db,sy! p A,
BT! a b,⟨o,a,b⟩,
be,r.2.1,
S8! a b,λσ H Q=>a σ H b,
al! a,a::El σ caps,
Fc! a b,by have:=a;rw[b] at this;exact this,
Ab!,Sn! q.1,
Ac!,AC ?_,
wp a,(y! a),
IN,(pv 5),
A4!,S? m,
Bv!,(P? rfl),
IR,AD c,
S9! a b c,aa! a b (c),
NO! a,sw! (Av! a),
Ep! a b,GC.CQ a b,
Fd!,KD! e,
Dz!,G.AW+1,
NP!,dj 0,
Fe! a,(AB.mp a).1,
BU! a c,a b o e c,
C9! a,(Sum.inl a:Key),
NQ! a,FZ! hq a,
KE,Cp G ZV,
A5!,(a!),
am! a,vs=[Op,a],
TA! a b,if a then B! b else none,
Ff! a,a (i+1),
PP,K? a,
DA! a b c,F! a (v! b c),
Rs,AD e,
D0! a,Az! a rfl,
KK! a,No a h,
SB,FW! V,
sz! a,aZ! C a W,
SC a,inClass (top 14) a,
ww,Bu (a!) rfl,
an! a b,KF! X.prog X.w X.A a b X.xe s,
TB! a b c d e f g h i,B1 a p0 hd lp lq b m c d e f p q g h i,
s0! a,⟨a!,a⟩,
HI! a b,W'.qs=NL! a b,
Ad! a,P? (a),
A6! a,a t ht,
ao!,dj n,
BV!,AT! G.AF.map,
AH!,Dq! St,
KL! a b c,AG.mpr ⟨a,b,c⟩,
KM!,Bv p W,
TC! a b c d,S2! (sv! a b c) d,
D1! a,(a b o e),
Eq! a b,(EY! a b),
Fg! a b c,⟨a,b,rfl,c⟩,
Fh! a,⟨dx,a⟩,
bi,BM! (Key×V),
HJ!,l! t,
bn,H! rfl,
DB! a b,a σ H1 b,
bv a,inClass (top 23) a,
ca,WP 1,
ar! a,(y! (P? a)),
Fi! a,Bi a q.1,
s1! a,Bo! H (.BG (tv a)),
CS!,ZU _ rfl,
Fj! a,KF! prog w A a Q E s,
Ae! a b c d e,QP K mg a b c d e,
Fk!,(Ar Dn! (K? r) (Ar Ah! S4! [])),
D2! a,decide_eq_true a,
Fl! a b,a (AS! b),
TD! a,(xz a),
Ao! a b,(a b).symm,
DC!,λq:T2×Addr×List T2=>q.1,
Ap!,(pv 7),
DD!,l! d,
lc,AE e,
KN! a,i! a e,
HK! a b,CI! R a b,
NS! a,a I.DM e,
ol,sz! H,
o0,BM! (Ds!×V),
qI!,[Ef! p,Ef! q],
pi,wE T2 T2,
BW! a b,CJ! f fd a b,
Aq! a b c,(a _ _ (b _ _ c)),
pt a,a (B3 I q (B?)),
Fm! a,(a).toNat,
DE!,Ac hb,
D3! a,AT mg a,
Fn! a,ga rfl a,
HL! a c,Bo! H (a c),
KO! a b c,AU! a b .BF c,
TE! a,Eg! a c,
HM! a,(Ay Bj a Af),
at! a,(qs.set i (q,a)),
KP! a,Ai G.AF a,
s2! a b c,(Bg a KG! b BZ (wP c)),
A8!,s0! a!,
uM!,⟨λ_ z=>su!,λ_ _ z=>su!⟩,
Bw! a b c,(a b).map c,
NT! a b,IntsAre a b,
AI!,λz=>?_,
av!,s.heap.objs.size+1,
KQ!,(Am G (ts.take i)).AF.filter,
AJ!,n<60,
NU! a b c,z! a b (K? c),
AK!,BM! (κ×V),
AL!,BN _,
qJ! a,P! ZA a,
HN! a b c,(Aa a (wT b c)),
AM!,T? e,
Er! a b,⟨_,rfl,a,b⟩,
Fo! a,Ai a tb,
KS! a,(Ay Cj a Af),
Fp! a,P? (P? a),
D4!,(qs.set i AD!),
TF! a,(upd H a o),
Fq!,Bw W ZV,
aw! a,(some (BG! a)),
D5! a,EM (a) ?_,
AN!,NO! 2,
Bx!,JV W h q G,
AO!,AX H as ts,
qK! a b,(Sum.inl a,m? b),
AP!,s1! tb,
DF!,(SZ),
s3! a b,(TA! a b),
Et! a,λr=>a? a,
TG!,K? po,
NW! a,Bo! H' a,
Eu! a,Ac (Aj e a),
Af!,AT! l.map,
KT! a b,b? H a .BG b,
KU! a b c d e,DC K C a b c HB! d e,
Ev! a b,Dr! (.BG a) b,
NX! a b c,a p=some (Sc b dx c),
Fr! b,b=B! (a,G),
ax! a b c d e f,S3! (a g) FV b c d (wT e f),
qL!,(x::Hn caps),
Ag! a,UA λo' e=>by rw[a] at e;cases e;exact uM!,
NY!,(e::es),
qM! a,N? z a,
HO! a b c,absurd (a b) c,
Ar!,AE h,
CT!,(AY _),
CU!,[BX!,"n"],
As!,ZI hz,
At!,Cb ?_,
Fs! a,aZ! C H' a,
CV! a b,AB.mpr ⟨a,b⟩,
NZ! a b c d e,Bs! (Fa! a b c) d e,
Na! a,D.nx σ a,
Nb!,CK! Q!,
Ft! b,HC! h.get? b,
Au!,RelV y u,
HP!,ZT _ e,
s4! a,S7! a ?_,
qN! a b,s2! Bf a b,
ay!,λq=>((H! q.1:Key),qC!),
TH! a b,(Ag (Az (a b))),
KW! a b c,(sB a b c),
DG! a,(FP! a),
Fu! a,(FS! a),
DH!,λq=>H? q.2,
DI! a b,(a b).Nodup,
DJ! a,⟨o,a⟩,
Fv!,[Tk],
D6! a b c,o? a b<=c,
A9!,B<=480,
BA!,List β,
BB!,List Nat,
Fw!,l! p0,
D7!,g! h,
BC!,AD h,
D8! a,F! s3 a,
Fx!,[BX!,"things"],
DK!,AB! h.get?,
TI! a b,a b (a!),
DL!,n? rfl,
Ew!,Dq! E!,
BD!,ZN m,
HQ! a b c d e,DC K C a b c UV d e,
KX! a b c d e,Eh! a b c CL! d e,
s5!,Bt! En!,
s6!,Value.ref a,
s7! a,qD! t a,
BE!,W.c+(W.qs.length:Nat),
Fy!,HG! H',
HR!,KK! r.1,
Fz!,B4 G.hand tb,
TJ! a b c d,a->b->c->d->BQ! x,
Ne!,λx=>m? x.2,
Nf!,W.EF++[(f8,e)],
qU!,[(G.BR,G.AW)],
TK! a,(putK a S1! (dj t)),
DM!,c / 4 % 4,
a0! a,putK a (A1! s) (g! tick),
qX!,[BX!,"kind","sender","goal","about"],
F0!,(UH!),
TL! a,(sw a),
BY! a,⟨a,rfl⟩,
HS! a b c,⟨a,G! b c⟩,
D9!,λz=>sw z,
BZ!,x=Tk,
F1!,(as.map Value.ref).toArray,
a1! a,Cx! ZH a,
KY! a b,by rw[<-a];exact AX! b,
a2! a,decide_eq_true (a),
Ba!,List Env,
F2! a b,a (AG.mpr b),
EA!,S? j,
Bb!,S? c.r,
EB!,K? f,
Bc!,BM! (Str×V),
Bd!,y! h,
Ka! a b c,AA! H2 a b c,
Be!,AV e,
qf! a b c d,(Aa a (Aa b (wT c d))),
EC!,UF a,
Kb! a,P? (DO.of a),
Bf!,α->T2,
qg!,W.c+(i:Nat),
Bg!,AZ.mp nd,
Bh! a,a X Gn,
Nh!,(h.lt C!),
Bi! a b,AX.keep (FF a) b,
ED! a b,(Ad a (Ag b)),
Bj!,λq=>(tk q,V.bl true),
Ni! a,E (K? a) none H,
TO! a b c d,GQ.t (k:=tk a) b c (qJ! d),
TP! a,(Dk E? a rfl),
ql! a b c,(Dt PassesOwn.never rfl a b c),
TQ! a b c,(Cm hu a b c rfl),
Bk! a,H! (Bu! _ (WF a)),
By! a,(a).length,
Nk!,(HH!),
F3! a b c d,⟨a,rfl,b,c,d⟩,
a3!,λj=>?_,
Nl! a,decide_eq_false (a),
Ex!,K? b,
Ey!,K? it,
Bz!,BM! (Str×Addr),
Ez!,AT! hl.map,
F4! a b,DN K H a b,
HT! a b,aa! a b C!,
Nm! a b c d,aa! a b (P! c d),
E0!,FM et,
F5! a b c d,(a b c).length<=d,
B0!,j? h,
B1! a b c d e,Eh! a b c AF! d e,
B2! a,B5 (Ne.symm a),
Nn! a b,Q (.bl a) b,
E1!,Array Value,
B3! a,a z hz,
E2!,S? ys.length+1,
B4! a,y! (y! a),
s8!,wE Hp VK,
TT! a,(.Name x a),
s9! a,FY! Cz a Af,
tA!,TE! X.env.cells.lookup,
Ke! a b c d,(Ad (sv! a b c) d),
qu! a b c d e f g,TB! H W a b c d e f g,
a5! a b,a _ _ b h1 h2,
B5!,aZ! CH H W,
tB! a b,CI! (JA H W.EF) a b,
B6!,Sz! Wg D n,
B7!,KV kvs vs,
F6! a,XU p G H a,
qz! a b c d e f,⟨_,rfl,p,a,dx,_,rfl,b,c,d,e,f⟩,
TU! a,MZ a d es ep,
F8! a b,(R? a b),
a6!,λq=>qC!,
q6! a b c,Heap.SameBut a b c,
CW!,u=s6!,
TV! a b,G! (Ac (a)) b,
F9!,Q? ?_,
TW! a,N? e a,
CX!,TD ?_,
HU! a,λu=>a? a,
GA! a b c,by have:=a;rw[b,c] at this;exact this,
GB!,y.se++[(s,tick)],
rB! a,(List.range a),
CY!,S? k,
Kg!,K? t,
rC!,BM! (Str×NameKind),
CZ!,(g! _),
GC!,(BN _),
Kh!,[BX!,"b"],
Ca!,Cy e,
No!,p? p,
Cb!,Nat->Int,
Cc!,ZN hz,
Cd!,Ce ?_,
Ce!,AD (B?),
Cf!,L? th,
rE! a,Eg! a OS!,
Cg!,St! h,
tC! a b c d e f,Sr! E? a b c d e Au f,
Ch!,RelV v u,
HV! a,y! (P? a),
Ci! a,a b hb,
GD! a,z! H d a,
tD! a b,ON! (Ee! a) (.fields b),
Ki!,(Bq P w),
tE! a,b? H a .dK kvs,
rG!,Pv i σ H,
bB! a b,ZR (a (ZR b)),
bC! a b,Sw! a=H? b,
Cj! a,h a (AV!),
Ck!,s7! th,
Kj!,(Cq (FZ L)),
Cl!,MW P w H h,
Cm!,rs.Perm G.AJ,
GF!,(IE al),
GG!,CP! as.getD 0,
tF! a,ax! YU g.mC1.mg g.mC1.fn.kp g.mC1.bd a Af,
Cn! a,⟨z,hz,a⟩,
tG! a b,(backTo a (starEach b X.env)),
Co! a,Lc F a λvs H Q E h=>?_,
GH!,(hs,os,rs),
GI! a,Sd m a (n+1),
Cp!,Sd m G n,
HX! a b,AX.keep a b,
DO! a b,⟨a,rfl,b⟩,
HY!,x.2.1,
HZ! a b,(a,l! b),
Ha!,[DN!],
DP!,λx hx=>?_,
Hb!,(L.map (·.1)).getD,
DQ!,sw h,
Tb!,G.hand++qU!,
Tc!,q.1=tb,
DR!,List HS,
Kk!,l! l,
DS!,ZN h,
DT! a,F! s4 a,
Hc!,I.tok _,
bD!,m? b,
Hd! a b,P! (Ac a) b,
bE! a,AR! H' a,
He!,n? trivial,
DU! a b c,Paired (a) b c,
DV! a b c,a b (P? c),
DW!,UF hd,
DX!,UF p0,
DY!,ZI ht,
DZ! a b,JM K H a b,
Hf!,Dq! Bool,
Da!,AD (a!),
Hg! a c d e f,DC K C a c d El! e f,
Hh!,Q .FC H',
Td!,AW! A4,
rH! a,C4! (H! a),
Te! a b c d,⟨l! a,b,c,rfl,d⟩,
Db!,Array DictEntry,
Kl!,Sw! f8,
Hi!,Ej! (pv 0),
bF! a b c d,Em! (CG! a b c) d,
Dc!,UB G t,
Np! a,Bh G.AF tb (a),
Dd!,BM! (T2×Int×D!),
bG! a b c,DT X.prog X.w a s.heap b c,
Nq! a,NT! a ns,
rI! a,(Bh G.AJ tb a),
Hj! a b c d e,⟨_,rfl,a,b,c,d,e⟩,
Tf! a b,[H? a,H? b],
Hk! a b c,Rd H a (b c),
tH! a,ON lp lq W.hs H a,
De!,Sz! Wl C n,
Hl!,(List.filter_sublist.map _).subset,
Hm!,⟨BR!,trivial⟩,
tI!,(t (qB!)),
Km! a b,Binds K a b [],
Kn! a,KF! X.prog X.w A a Q E s,
Nr! a,z! H a (.BF (as.map V.ref)),
bH!,(FZ (L.take i)),
Df!,KT p K W m n d A' B' ys H Q R,
Ns! a b c d,⟨_,rfl,p,C,a,_,_,rfl,b,T.cl,T.nT,Cv _,_,_,rfl,rfl,c,_,d,Er _,?_⟩,
Hn!,(Ar Do! (K? iq) (Ar AC! TG! Fk!)),
Nt! a,.fields a,
Ko!,(f8),
Nu! a,∀x c,tA!->a,
Kp!,l.1=n,
EE!,[Kd!],
EF!,b∉KM!,
EG!,p.1=k,
EH!,λt=>?_,
rJ! a b,∀t∈G? a,b,
EI!,tb∈CO!,
EJ!,h? ?_,
Tg!,(pv 6),
Th!,S? q,
Kq! a b c,a? (a=b c),
Nv! a,F! k.BG a,
EK!,N! rfl,
tJ! a b,i! (Aj e a) b,
EL!,qg!+1,
Nw! a b,CG! a .dT b,
rK!,Bo! H u,
tK!,CH! (qs[j]?),
Nx! a,P? (y! a),
Kr! a b c,AK.mpr ⟨a,b,c⟩,
EM!,St! c.r,
Ti!,(a,NameKind.local),
Ny!,Cg p W,
Ks!,B6 qs,
EN!,QG G t,
EO!,λq=>(Su!,H? q.2),
Kt! a,S8! t a,
EP!,(cH P w),
Ku! a b,KL! a b rfl,
Nz! a b c,TC! 2 a b c,
N0! a,Dr! (.BF []) a,
rL! a b c,z! a b (.BG (tv c)),
Tj! a b,at! (a G b),
Tk!,(b,NameKind.local),
Tl! a b,((List.range a).map b).sum,
EQ!,Ek! (show cr! from hs) AL,
tL!,Ak!-Eo!,
ER!,(De Ae),
ES!,h! k Bv! e,
N1! a b c d,ql! a (aj! b c) d,
uN! a,s9! (HM! a),
tM! b,G.holds++[(b,a,[])],
Tm! a b c d e f g h i j k,⟨_,rfl,a,b,c,rfl,d,e,_,rfl,f,g,h,i,j,k⟩,
ET!,Q H2,
EU!,Pm p n,
Kv! a,⟨_,a,λ_ z=>su!,λ_ _ z=>su!⟩,
Kw!,h! Do ZV ZV,
Tn! a b,BA x q st a b,
N2!,XO++[(r.1,ha,BP!)],
Ho!,S.2.1,
E4!,λp hp=>?_,
To!,FP! ZA,
N3!,b∉A2!,
tN! a,W.ls++[(f8,a)],
E5!,NI!++L,
N4! a b,a=B! (K? b),
N5! a b,K!->a->b,
E6! a b,a (P? b),
E7!,BM! (K×Addr×Value),
N6! a b c d,a (G! b c) d,
E8! a b c d,H! ⟨a,b,c,d⟩,
N7!,G? l.map,
E9! a,F! a e,
N8!,m? a,
FA!,AB! H',
bJ! a,P! e a,
FB!,p? l,
FC!,Br! c,
N9!,(tk t),
OA!,FM e1,
rN! a,Bt! (wn a),
FD!,α->V,
OB! a,(AB.mp a).2,
FE!,ZM hb,
Tp! b,qD! a b,
tO! a c,cr (a->c->AB! h'.get?),
rO! a b,Dx! a b as.map,
OC!,An! H2,
FF! a,BT! e a,
FG!,DL.mp ht,
Tq! a,cr (Dw!->a),
OD! a,g! a 0,
FH! a,EA K C a,
bK!,S0! H2 p,
FI!,Vals xs us,
Tr! a,λz=>e (a z),
FJ!,X.A.units+1<cLine,
rQ!,(B4 G.hand tb),
FK!,JG qs p q T L E,
tP! a b,ab! H' a L.map b,
tQ! a b c d e,Sr! E? a b c d e Cr (wP Q!),
bL!,(V' G a),
bM! a,QF c c.r a,
OE!,(s,tick,S),
OF! a c d,cr (Dt!->a->c->d),
FL!,E t u,
Kx!,(Ck hl t),
rR! a b,([a,b]:d!),
OG!,(g i j),
bN! a,AX a as ts,
bO!,tF! E?,
tR! a b,PL m qs ls a n b se,
bP! a b c,YM a it d b c ep,
Ts! a,(by rw[z,a] at e;cases e),
rS!,eval e X.env,
OH! a,a mainGlobals mg,
Tt! a b,G? (B8 a n b).map,
FM!,b? H l .BF xs,
tS! a b,qu! n d B a T L b,
OI!,(Ar CD! NP! (Ar C0! ao! [])),
bQ!,(relabel sc X.env).names.lookup,
OJ!,[BX!,q8!,"n","turn"],
bR! a b c d e f g,Dc (pl:=_) a b c d e f O! g,
bS! a b c d e f g,bO a p0 hd lp lq rl lv b m c d e p q T L0 f g S v,
GJ! a,Ne.symm a,
GK! a,s.heap.push a,
GL! a,(show a from r),
rT! a,(show a from ry),
GM!,(d+1),
GN! a,a->Bool,
GO! a b,⟨a,b,rfl⟩,
GP! a,⟨?_,a⟩,
GQ! a,G! e4 a,
Tu! a,Cx! a ZF,
GR!,W.ls.length<=480,
bT! a b,(a (AS! b)),
tT!,(Cu _ _ _).2.2,
bU! a,a (av!),
GS!,Ac b3,
bV! a,F! LB.BG a,
bW!,AB! h'.get?,
uO!,AS! KJ!,
rU! a b,i! a (a5! b e),
GT!,UF p,
GU!,UF rl,
GV!,ZI hr,
GW! a b,b? H a Be b,
GX!,Nat->HS,
bX! a b,I? a UV b,
GY! a b c,AU! a b .BG c,
GZ! a,aZ! C H2 a,
rV! a b,M? a (qM! b),
bY! a b,Ss! a x b,
bZ! b,HC! b o,
ba! a b c d,(Dr a KG! b c (wP d)),
bb!,S? W.JJ.length+1,
Tv! a,λz=>a z.symm,
tU! a,HF! cl.lookup a,
bc! a b,λz=>a (AG.mpr b),
Ga!,ai! p,
Gb!,ai! q,
Tw! a,z! a d o,
rW!,C7! H',
Tx! a,BN! (o? a V.int),
bd! a,a (z.trans e),
be!,NQ! z,
Gc!,am! HJ!,
Ty!,[BX!,"h",BL!],
Tz! a b,b? H' a .BG b,
Gd! a,W.findIn K C8! a=B! none,
Ge!,(.GB o u),
Gf!,vs=[Op],
Gg! a,GJ X Gn a,
T0! a b,G? a=G? b,
Gh! a,⟨r,hr,a⟩,
T1! a,a K C=true,
bf! a,(Ci hu C? a),
Gi!,BM! (Int×Int×HS),
T2! a,OK t qs a,
T3! c,Cf (SZ) n c,
T4! a,wpAny _ _ a _ _ s,
tV! a b c,TO! tb a b c,
rX! a b,TQ! C? a b,
Gj! c,al=a++c::b,
bg! a b,(Co (wT a b)),
Hp!,(Heap.SameBut.update ..),
Gk!,W.ED++[(n,xf)],
T5! a,N! (T? (H! a)),
rY! a b c,(A6 Bk a (Ay Bj b (qN! g.T.len c))),
Gl!,AY! (x==("__debug__":Str)),
rZ! a b,HF! (a:rC!).lookup b,
ra!,CG! p .BF [],
rb! a,q6! a s.heap h',
tW! a,∀b∈a,b∈A2!\/s?,
Gm!,Told G hs os rs,
T6!,RelV x v,
T7!,CR! sp vs,
tX! a,⟨U?,0,0,h,o,l,a,[],[],[],[]⟩,
rd!,[t.1,t.2],
Gn!,["starts",Ay!],
Go!,by rw[AM] at e;exact e,
Gp!,(I.ok.hd hc),
Gq!,Ai! a ta,
T8! a b c,a b (q! c O!),
bh! a b,NI t a+Gs t b,
T9! a b,⟨a,H,I,rfl,b⟩,
Gr! a,W.nsIn K mainGlobals a=B! none,
Gs!,BN! (o? W1.ls.map Ne!),
Gt! a b,DR 2 f fd a (b),
Gu!,KT H kvs xs,
Gv! a b,W.nsIn K mainGlobals a=B! (aw! b),
Gw! a,Done p G H a (Q .FC),
Gx!,hf it (B?),
Gy!,Sx! H' aa JY.map,
Gz!,(C1 E? Af Ep),
re! a b c d e,⟨W.po,W.pd,a,b,_,_,_,_,rfl,c,d,e⟩,
Hq! a,JU.same a,
Hr! a b,(N? a b),
bi!,p.1.map,
Hs! a,G! e a,
tY! a,G! a s5!,
Ht! a,¬kind=a,
Hu!,AQ! HP!,
bj! a c,AQ! (tJ! a c),
Hv!,EQ AQ,
Hw! a,! a? a,
tZ! a,{ s with toks:=s.toks+a },
bk! a,let⟨dx,e⟩:=x.ob;Fh! a,
ta! a,if z? then a else q,
bl!,t∈GE,
bm!,t.1=G.BR,
Hx!,λ(q:T2×Addr×List T2)=>(Su!,qC!),
Hy!,t=ii,
Hz!,q.1∉ts,
H0!,q.1=th,
H1!,λH1 S1 KW=>?_,
H2!,i1++y'::i2,
H3! a b,z! h'.get? a b,
H4!,(pv 9),
bn!,K? fi,
H5!,BM! (Str×Value),
H6!,BM! (Str×Nat),
H7! a b,a (A!) b,
H8! a b c d,Paired a b (c d),
H9! a,F! a e1,
bo!,.refl _,
IA! a,AT H1 a,
bp!,m? lv,
IB!,decide_eq_false e,
IC!,n? ?_,
ID! a b c,h! a b (Sy! c),
IE!,Bp! l,
IF! a b,Bq! (Ad a b),
rg! a b c,⟨a,rfl,T? (WF b),c⟩,
IG!,Q v H',
IH!,AW! AE,
rh!,BN! 0,
bq! b,(qs.set i (a,b)),
II!,C4! ?_,
tb! a b c,FY! (a (Mw hr)) b c,
ri! a,HD! l.find? a,
br! a b c,⟨a,rfl,b,rfl,c⟩,
bs! a,(some (V.int a)),
bt! a,(y! (y! a)),
rj! a b c,((a/\Ni! b)\/c),
bu! a,(eval a X.env),
IJ!,S6! FY.mp,
bv! a b c,Fc! (a b) c,
IK!,xs[i]?=B! x,
rk!,Fe! hq,
rl!,NQ! ht,
bw! a,wE Hp (a),
rm! a,Bh G.AJ tb (a),
rn! a b,DO.of (F! a b),
ro! a b c,z! a b (.BG (c V.ref)),
IL! a,E1 w9 a,
IM!,DN K H a xs,
bx!,t∈L j,
IN! a,N' X Gn a,
by! a b c d e f g,(Av (Ap (pl:=_) E? a b c d e O! f g)),
IO!,Fr! (qs[i]?),
IP!,(rs.map (·.1)).Pairwise HR,
IQ! a b,hh.elim (λe=>a) λe=>b,
tc!,G.AF++[(ii,Sq!)],
IR!,Ai! o td,
td!,NL! h.toNat AD!,
rq! a b c,KF! prog w A a b E c,
IS!,TU! s.heap,
IT!,(by rw[e] at z;cases z),
IU! a b,Dr! (.BF (a V.ref)) b,
IV! a,an! a (EP X AA σ Q),
IW! a,bC! a 1,
bz!,(Et fi),
b0! a b,Kj a P w K mg base N qual scope f b A outer s H E,
IX!,wE α β,
IY!,K_ m l,
IZ!,tM! ii,
Ia! a b c,(Sc CW dx (Ar a b c)),
rr! a,a=tL!+Ct t ls,
te!,(tk ii),
tf! a,Inv X AA EN H' a,
b1! a b,Du! (H? a) (H? b),
G0!,(Ig p d),
OK! a,(upd H a (.dK (kvsOf l))),
G1!,(i.at S).ob,
rs!,(K w.params),
UA! a,Int->Int->a,
G2!,BM! (Ds!×Addr×Value),
G3!,Ai! b tb,
rt! a,j! x a st,
G4!,HK! xs ys,
G5! b,DT P w H h a b,
b2! a,λvs H Q _=>a vs H Q E0,
b3! a b,(Ec rfl a (wP b)),
tg! a b,KX! ac! "World.house" Ex a b,
UB! a,(a b' o' e' IC),
b4! a,I.turned (t':=s.toks) (a) f0 f1 f3 f4 f5,
Ib! a b c,⟨σ,a,b,c⟩,
OM! a,(a r hr).1,
Ic!,o.data=.dict es ep,
Id! a,∀p∈X.pn++AA,a,
Ie!,AQ! ?_,
If!,λy hy=>?_,
Ig! a b,by rw[a,b,AH],
Ii!,λu hu=>?_,
Ij!,λm=>?_,
b5! a b c,(if a/\b then some c else none).toList,
Ik!,CE! ?_,
Il!,C2! ?_,
Im!,tb.1≠G.BR,
In!,q.1∈R,
Io!,(FZ (L.take i)).flatMap,
Ip!,(Am G (ts.take i)).holds.filter,
b6! a,(l.map a).sum,
b7!,y.fi++[(s,tick,S)],
b8! a b,(a (BO! b)),
Iq!,List Expr,
Ir! a b,z! h.get? a b,
Is!,(pv 8),
b9! a,S? (putK a (A1! s) (dj tick)).length,
It! a,Bo! a ob,
Iu!,H! k,
Iv! a,F! a Ab,
Iw! a,wE a Heap,
Ix! a,N! (ar! a),
Iy! a b,absurd a (b),
Iz!,ZI hu,
I0! a b,L2.Mk K a b,
cA! a b,b? H a C5 b,
I1! a b c d,Ai! (a b c pos) d,
I2!,FW! Addr,
I3! a,ga h a,
I4!,Nat->Addr,
ru!,Ee! Cs!,
I5!,ZR ?_,
I6!,AD (A!),
I7!,Z!->Prop,
I8! a b,a=B! (b,G2),
I9!,Uf Unit,
cB!,Sum.inl n,
JA!,AW! BJ.mp,
cC!,sK true,
JB!,St! i,
JC! a,y? (a).map,
JD!,I.list hq,
cD!,AY! (a==sysModules),
JE!,d? ?_,
cE! a,HD! a KJ!,
JF!,RelV x u,
JG! a,Bu! rfl a,
JH!,Array Nat,
JI!,(ZB _ m),
JJ!,vals1 r,
JK!,ai! r,
JL! a,aj! a KZ.nd,
JM! a,Em! H' a,
JN!,Dy! as.map,
JO!,λq=>(Su!,q.2),
JP!,λq=>(Su!,qC!),
th! a,BN! (o? a V.ref),
cF! a b,DA! a b e,
rv! a,HI! h.toNat a,
JQ!,NS! Lv,
cG! a,eval a X.env,
JR!,TF! a,
JS!,DO K H a xs,
JT!,λq=>! Bi G q.1,
JU! a b c,upd a b (.BF (c V.ref)),
JV!,X.A.units+64<cLine,
JW!,Et! HR!,
JX! a,(tC (re a)),
JY!,BM H Hc,
JZ! b c d,b a=some (seqObj ci c d),
Ja! a,AR (AN _ _) a,
rw! a b c,(upd a b (.dK (kvsOf (c)))),
rx! a b c,qf! Ej a b c,
cH! a b,Nl! (EY! (¬a) b),
Jb!,Gk fi h,
cI! a b c,Nm! W.qs a b c,
Jc!,BW g0,
Jd! a,q! a ih,
cJ! a,TV! a e,
cK!,P9++(Q++R),
cL! a,Dv! a (BS! Dw),
Je!,[Kf!,TX!],
Jf!,bE! s',
Jg!,(λy h=>NZ AG! h),
ry! a,AC (a z (wn hz)),
Jh!,TX t l,
Ji!,[(Ay!,1)],
cM!,(model prog w),
Jj!,tN! t1,
cN!,(p.getD i 0),
Jk! a b c,Bs! a b (TH! pv c),
ti! a,tP! a (λy=>H? y.1),
tj! a b c d,tQ! a b c FV d,
Jl! a b,R a W' b ys H',
Jm!,A.units+1<cLine,
cO!,(V.bl true),
Jn! a,ga a (DQ _),
Jo!,(tC (g! 0)),
Jp! a b c,PK X (compareOp a) (b c),
tk! a b,Eq! (bG! H d a) b,
Jq!,ls.map .w,
rz! a,(λq hq t ht=>N! a),
Jr!,λq=>m? q.1,
Js! a b,a (t:=t) b,
r0! a,show S? a≠0 by decide,
cP!,OZ (Sm!),
cQ! a b,k _ a λb' o e h1 h2=>b,
Jt!,c? a! a!,
cR!,Vo p W H x,
r1! a b c,(Bg (a rfl) KG! b CZ (wP c)),
Ju!,Gl X x,
tl! a c d,tt (al! (B! x)) a λb H4 =>sB M2! c d,
cS! a,J3 c a W al ys,
Jv!,tR! al fi,
r2! a b,Go a ⟨b,B?,AZ!,h0⟩,
Jw!,S? p+1+dd,
Jx!,[(BX!,0)],
Jy!,[BX!,"a","b"],
r3! a b,G? (Bh a b v).map,
cU!,Am G (ts.take i),
Jz!,[V.bl true,m? du],
J0! a,N_ qs ls a,
J1! a,∀b u,rK!->FT!->Bo! a u,
J2!,λq=>(tk (k q),f q),
J3!,tS! al E,
r4! a,DV.t (k:=tk th) a ht,
J4!,(Bq X.prog X.w),
cV! b,b a=some (Sc C dx fs),
J5!,AA! H3 fa Be Nk!,
cW! a b,(envOfC qual a s.heap.objs.size f b),
tm! a b,DC K CP "put" "Post.put" J0 qX! a b,
cX! a b,cn a hd lp lq p q b,
J6!,⟨m,p,q,r,ap,aq,Gp,Gq,Gr.AS,L r⟩,
cY! a b c d e f g h,E4 (te:=a) (caps:=b) rfl c rfl ZV rfl ZV rfl d e f ZV g h,
Ky! a,Paired a,
Kz!,(vs++QD),
K0!,(λ_ _ _=>rfl),
tn! a b,i? (G? (backTo a (starEach b X.env)).any),
K1! a,G! z a,
K2! a,G! e2 a,
K3! a b,G! (ak! a) b,
K4!,b∈A2!,
K5! a,N? a z,
K6!,[az!],
r5! a c,Dk! (a b o c e),
K7! a b,a∈G? b,
to!,(as.map Value.ref).getD,
K8!,T2×Int×D!,
tp! a,ND! (∀t∈GE,a),
r6! a b c,{ G with holds:=a G.holds b c },
K9!,by rw[z];simp[BL],
LA!,t∈Tb!,
LB!,G.AJ.length<=500,
LC!,λt ht e=>?_,
LD!,{ G with hand:=Fz! },
LE!,G.AF.length<=500,
LF!,G.BR=U?,
LG!,fi++[(s,tick,S)],
LH!,y.fi.length+1,
LI!,y.se.length+1,
LJ! a b,(AX.keep a b),
LK!,List PyData,
LL! a b,z! s.heap.get? a b,
LM! a b,FX.EB.no (a b),
LN!,K? y,
LO!,N! z,
LP!,[BX!,C0!],
LQ!,[BX!,E3!],
LR! a,Q a db,
r7! a b c,AR! (upd H a b) c,
LS!,FV! s',
LT!,FV! db,
LU!,p? a,
LV!,UF l,
LW!,UF lv,
LX!,Bp! G'.AJ,
LY! a,ga e a,
LZ! a b,Rep K H a b,
La!,Dq! L2.St,
Lb! a b c d,FL K cs! a b c d,
r8! a b c d e,DC K C a b c Fx! d e,
Lc!,Br! z,
Ld!,L? rel,
r9!,CH! (W.qs[i]?),
Le! a,(Ay Eo a Af),
Lf! a,(Ay Ge a Af),
Lg!,WP 2,
Lh!,I.tuple hq,
Li! a b,HT.lexLt a b=true,
sA! a,BO! (t∉a),
Lj!,Bw W1 ZV,
Lk!,[BX!,"b",Ah!],
sB! b,b K H a (ns.map V.int),
Ll!,HG! H1,
Lm! a b c d e,BM a (FX! b c (d++[e])),
Ln!,AN _ _,
sC!,Bo! h.get? u,
Lo!,NN! 2,
Lp!,ak! gU,
Lq! a b c,S9! a (Fm! b) c,
Lr!,X.N[i]?=B! x,
Ls! a b,Aw (λ_ _ e=>a) b,
Lt!,Fe! hr,
Lu!,⟨Fv!,[]⟩,
sD! a b,an! a (b),
Lv!,A6! tT!,
Lw!,[BX!,"h","tick"],
Lx! a,.seq a n,
sE! a b,Fj! (a (BG! b)),
Ly! a,[Fw!,R! a],
Lz!,NS! Lu,
L0!,BM! (T2×Addr×D!),
sF!,Fn! z,
L1! b,KT! a b,
sG! a b c,ID 1 a b HB! (c),
L2! a b,NX! a CW b,
sH!,(Su!,H? q.2),
L3!,I.DM.fresh (ZG _),
sI! a,Fu! (S6! a),
L4!,BM! (Int×Addr×HS),
L5! a,TI! AR a,
sJ! a b c,TJ! Fy! a b c,
L7! a b,a2! (show a by rw[b]),
L8!,G.AF++[(ii,0)],
L9! c,SZ++[c],
MA!,l[i]?=B! q,
MB! a b c d e f g h,Ke! a b c (NZ! d e f g h),
MC! a b c d e f,Sr! a b c d FV e Au f,
MD! a,Cf al n a=[],
ME! a,B8 al n a=[],
MF!,(.GB o (.dK kvs)),
MG!,(.GB o (.dT kvs)),
MH!,CD λq _=>?_,
MI! a b,AU! a b .dK [],
MJ! a,congrArg List.length a,
MK! a,cr (Dt!->a->AB! H'),
tq! a,ON! (Ee! ci) (.seq a),
sK!,HL! .BF xs,
ML!,(W.qs.set h.toNat AD!),
MM!,V->E!->s8!,
MN!,i.at S,
MO!,rN! h,
MP! a,rO! H' a,
MQ!,Ep! S HK,
sL!,(HK b o e hb),
MR!,x.QS hB,
MS!,x.wg.BR i.2,
MT! a,a=B! (k,v),
sM! a b,Te! s.heap.objs.size _ a b,
MU!,tW! (BL G'),
MV!,tX! r',
MW!,Bv p0 W,
sN! a,a X.env.scope x,
MX!,Led L t,
MY! b,HI! c.r (a,b),
cf!,(putK kvs k v),
sO! a b,(Ei (a hu b C?)),
MZ! a,∀p,No!->am p a,
Ma!,(λ_=>[]),
sP! a,∀b u,a->Bo! h'.get? u,
sQ!,λkv=>a? (kv.1=k),
Mb! a b,Fl a b (by intro z;cases z),
Mc!,λq=>(rR! q.1.1 q.1.2,q.2),
Md! a b c d,ZR (a b c (ZR d)),
Me! a,tV! a hb Td!,
Mf!,[BX!,"b",Ah!,"mine"],
sR! b c d e f,b (a:=c) (o:=d) (t':=s.toks) (e) GM f,
Mg! a,Bd x q st a,
sS! a b c d e f,a (s:=db) b c d e f,
Mh!,∃z,tU! z,
Mi!,B<=B'+1,
Mj!,(Lj ry),
Mk!,[BX!,q8!,"n"],
Ml! a b,(AX.keep (FF a) b),
Mm!,Vals QD ds,
sT! a,Fg! r a ht,
Mn! a b c d e,b? (AA! a b .BG c) d .BG e,
Mo!,[BX!,"h","tick",TM!],
tr! a,HS! A! AM a,
sU! a b,HD! a Tc!=B! (tb,b),
Mp!,Tf! 1 2,
sV! a b c,Ai! (.Call a b [] pos) c,
sW! a,LC (OL G.holds) a (startT G) [] R,
sX!,λv H5=>S0! H5 p/\ys.length<sizeLine/\∃m',m'<m/\W FB m' (ys++[v]) (FX! H5 p (ys++[v])),
sY!,(.dK (L.map ay!)),
sZ! a,putK a (A1! s) (K? xs),
sa! a,Ej! (Dj (Ei (a hu E? Q!))),
Mq!,Hl G ta tb,
ts!,[⟨.Name x px,iter,ifs,0⟩],
Mr!,tg! fH dH,
Ms!,x.at_ i a G hi,
sb! a b c,x.next hi a rfl b (λt _=>?_) c,
Mt!,Ie CX X E,
sc! a b c d,a _ _ b (S.tup_ne c).1 (S.tup_ne d).2,
tt! a b,W.excIn K a b "ValueError.__new__"=true,
sd! a,∃z,z! cl.lookup a z,
se!,(start N vs),
sf! a b,(q! a (q! b O!)),
Mu!,(putK I.ss S1! v),
Mv!,starEach (e::es) X.env=(false,rS!)::starEach es X.env,
Mw!,Lz p0 W [] H H',
Mx! a b c d e,((a i H2/\b)\/(c i H2/\∀x H3,d i H2 x H3->e)),
My!,Binds Kx fd ps ds,
sg! b c d,⟨_,rfl,a,ns,b,rfl,c,hlen,a!,a!,d⟩,
Mz!,EB X.prog X.w Kx X.mg X.base CX k f fd ps sp,
M0!,jA p0 lp lq W H H',
sh! a b,hG a W W' al al' ys EL b,
si! a b c d e f,W.fnOf a b c d e f kV doc pm an DZ ct,
sj! a b c d e f g h i,⟨_,rfl,_,rfl,p,a,b,_,_,rfl,c,d,e,f,g,h,rfl,i,_,rfl,?_⟩,
OW! a,Value.type a,
OX! a,FX.EB.aR a,
OY! a b,a (BO! b),
OZ! a b,(Sa! a b),
Oa! a b c d e f,(bR! a b c d e f Au),
Ob! a,bK! /\ a,
Oc! a b c d,⟨a,b,G! c d⟩,
Od! a b,sB (u=1) a b,
Oe! a,(l.map a).Nodup,
Of!,λ_=>V.bl true,
Og! a,⟨z.1,a⟩,
Oh! a b,⟨j? a,b⟩,
Oi! a,G! e3 a,
Oj! a,G! ZA a,
Ok! a,G! ew a,
Ol!,λb o e n hb hx=>?_,
Om!,EQ ZF,
On! a,∃EN H',tf! s'/\a,
Oo! a,λi j=>g! (a),
Op! a b,M1! (a σ H b),
Oq!,FN! rW!,
Or! a,λo e=>h! f e a,
Os!,Ea! ?_,
Ot!,λv hv=>?_,
Ou! a,by simp[Cy! a],
Ov! a b,λu hu=>a u b,
Ow!,(Am G (ts.take i)).holds,
Ox! a,λb o e _=>a b o e,
Oy!,λt=>rd!,
Oz! a,∀t∈CO!,a,
O0!,tb.1=G.BR,
O1! a,qF! (Np! a),
O2!,(Am G (ts.take i)).AF,
O3! a,a % A4!,
O4!,λb' o' e' IC=>?_,
O5!,wt / 2,
O6!,l.kind=Bm!,
O7!,Ai G.AJ l.th+l.x,
O8! a,{ W with qs:=td!,c:=c,ls:=a },
O9! a,∃y,a/\y.n=1,
PA! b c,b=B! (c,a,hl),
PC!,List Keyword,
PD!,S? n,
PE!,S? W.qs.length,
PF!,K? x,
PG!,l! ka,
PI!,H! ?_,
PJ!,G? se.map,
PK!,decide_eq_true h,
PL!,BM.refl _,
PM! a,(q,HE (GO a)),
PN!,m? c,
PO!,T? Ab,
PP! a,(HC.mp a).1,
PQ! a b,((a t).mp b).1,
PR!,p? r,
PS!,p? s.heap.objs.size,
PT! a b,b? H a CA! b,
PU! a,ga h.1 a,
PV!,Nat->Bool,
PW! a c d e f,DC K C a c d Kh! e f,
PX! a,AE! C0! a,
PY! a,AE! CD! a,
PZ! a,AE! Aw! a,
Pa! a,AE! BK! a,
Pb! a,AE! Ax! a,
Pc! a,AE! Ay! a,
Pd! a,AE! BL! a,
Pe!,CH! (W.qs[g.toNat]?),
Pf! a b c,FX.EB.aR (a b c),
tu!,(tc!).map,
Ph! a,c? a rfl,
Pi!,C4! (Fp! ht),
Pj! a b c,CJ! a b UV c,
Pk!,CK! Nb!,
Pl!,α->Bool,
cm! a,(Prod.mk.inj a).2,
Pm!,t? q,
Pn! a c d,cr (AB! a->c->AB! d),
Po! a b,Sx! H a b,
Pp! a,HF! bQ! a,
Pq! a b,Dv! (uN! a) b,
Pr! a b,h! k (wp a) b,
Ps!,Dy! JY.map,
Pt!,Al! c,
Pu!,([]:D!),
Pv!,C7! H1,
Pw!,S6! HF,
Px!,NN! 4,
Py!,(B9 0),
Pz!,JV W g q G,
P0! a b,Aw (λ_ _ r=>a) b,
P1!,⟨us,[]⟩,
P2!,N0 G.hand tb,
P3!,[BX!,"h","b"],
P4! a b c,TC! 1 a b c,
P5! a,EA K CW a,
P6!,ar! rfl,
P7! a b c d,Fj! (a b c d),
P8!,TD! (G.AW<=Dz!),
P9!,TD! (G.AS<CM!),
QA! a b,[R! a,R! b],
tv!,KN! np.symm,
QB!,x.hl q hq,
QC! a,BW! UV a,
QD! a,CG! l .BF a,
QE! a b,ZR (a (ZS b)),
QF!,Vals vs us,
QG!,KS! Tg!,
QH!,KS! bO!,
QI!,TF! l,
QJ!,x.BR hi,
QK! a,A4 (xz a),
QL! a b c,a S=some (seqObj ci b c),
QM!,HE bL!,
QN! a b,h! f a (Sy! b),
QO!,I1.DM.fresh (ZG _),
tw!,s4! ho,
QP! a b c,NU qs ls (Tj! a b) c,
QQ! a b,ab! H' l a b,
tx!,a0! y.I.fs,
ty!,a0! y.I.cs,
QR! a,F2! h a,
QS! a b c,N! ⟨a,b,e,c⟩,
QT! a,HT! a i,
QU! a,B8 al n a,
QV! a,(C9 (pv a)),
QW!,rE! sc.names.lookup,
QX!,tE! a,
QY!,Ok q? n,
QZ!,(Nc K),
Qa! a,Q (g! a) H,
Qb!,Nq! vs,
Qc!,tH! H',
Qd!,l1++(n,t)::l2,
Qe!,Nr! l,
Qf!,2 ^ 62,
Qg! a b c d e,DC K CI a b c UV d e,
Qh!,CT k A,
Qi! a,DB! ty (λy H2=>a),
Qj! a b,PK X (compareOp a) b,
Qk! a b,PK X (binaryOp a) b,
Ql! a,W.findIn K (K? CW) a=B! none,
UM!,(Dp kvs k),
Qm!,[BX!,"h","a","b"],
Qn!,[BX!,"h","g","b"],
Qo! a,Tl! m a,
Qp!,K.In s.heap,
Qq!,S.same s1,
tz!,bJ! True.intro,
Qr!,Bv p W',
Qs! a b c d e,A3 a (K? b) (Ar c d e),
Qt! c,B8 (SZ) n c,
Qu!,bM! G,
Qv!,bN! H',
Qw!,AllBare s'.gens,
Qx! a b c d,b? (CG! a .dK (TK! b)) c .dK d,
t0! a,rU! h1 a,
Qy!,ga k ZV,
Qz! a,rV! a hb,
Q0! a b,BY (a) (KA! (b≠0)),
Q1! a,Up lt p a,
Q2! a,rX! Q! a,
Q4!,rb! d,
Q5!,Cd W.qs,
Q6!,⟨h1,h2⟩,
Q7!,tY! es,
Q8!,tZ! 1,
Q9!,ta! (q.1,v),
RA! a b,tb! Ml a b,
RB!,BU! f ?_,
RC! a b c,Fg! a _ (Am! (WF b) c),
RD!,PA X NY! t,
RE! a,DV H d Kg! a,
RF! a,Wt kind G tb a G',
RG!,Gg Kj! r.1,
RH! a b c,⟨_,rfl,_,rfl,a,b,rfl,c⟩,
RI!,rt! qual,
RJ!,Pv i ys H2,
RK! b c d e f,Hj (K:=K) (a:=b) (xs:=c) (d) e (f) ?_ ?_,
RL!,.BG xs,
RM!,λ_ H Q=>Q true H,
RN!,inr i hi,
RO! a b,Pv (i+1) a b,
RP!,Vals xs its,
t1!,th! cs.map,
t2! a b,S9! a i (BJ! (AX! b)),
t3! a b c,qz! C a T.cl b c ?_,
sk!,(h1.push (seqObj ci F1! 0)),
RS!,ti! x,
RT! a,bP! a i n,
cp! a b,tk! a (I.DM d _ b),
RU! a,Bu j0 (a1! a),
RV! a,C7 m g n a,
RW! a b,a it d i b ep,
RX! a b c d e,Ba (a g) gY KG! b c d O! Au e,
RY!,rowsOf L,
t4! a,d.canLay0=true/\d.depth<=a,
RZ!,(show False from r).elim,
Ra!,W.ls=l1++(BR,t)::l2,
Rb! a,(BQ (AV a)),
sl! a,(lk.trans (OO.same a)),
Rc! a,h! kp tI! a,
Rd!,W.qs.set i AD!,
t5! a,Ss! a sl qI!,
Re! a,Bh a tb v,
Rf! a b c d e f g,WI a p0 b c m d e 0 f g [],
t6! a b c e,bS! a b d c al L e,
Rg!,Dg m p q,
t7! a,te (al! (B! x)) H4 a,
t8! a,(Hf hu C? a BR!),
Rh! a,∃W:Nat->Nat->Ew!,(∃m,W 0 m [] ra!)/\∀i m ys H2,W i m ys H2->a,
Ri! a,wpAny M A a Q E s,
Rj!,(λv W' D' al' EL H' r fp XI fr IS=>?_),
Rk!,h=p\/h=q,
Rl!,(List.range as.length)[j]?,
Rm!,TD (TL! hq),
Rn!,A'<=A-1,
Ro!,AR! H1 s1,
Rp!,(g! i t),
Rq! a b c,Ai! (.Call (Uq! o a apos) b [] GY) c,
Rr!,[BX!,E3!,Ah!],
Rs! a b,Bq! (Ad (Av a) b),
Rt! a b c,(putK (a b) te! c),
Ru! a b,KF! prog w A a b E s,
Rv!,Bo! H (.BG (k.map kV)),
Rw! a b c d e,b? (AA! a b .dK c) d .dK e,
Rx! a b,ZR (FQ a XV b),
Ry!,tB! l1 a,
Rz!,tB! l2 b,
R0! a b c,KF! prog w A a (b) F0! c,
R1!,∃t,u=Value.int i t,
sm! a b,(upd a p (Sc CW dx b)),
R2! a b,DR 3 f fd a (b),
R3! a,a j n1 n2,
R4!,rT! (u=Value.ref b),
R5! a,a (λz=>Du! z.1 q.1),
t9! a,rY! O? a O?,
R6! a b d,re! W.c W.ls a b d,
R7! a,LL.lt s a ts,
R8!,FG H p I,
R9! a b c,OU H t a b s g c u,
uA!,Ka! hd .dK [],
SA! a,tl! H3 a (∃m',m'<m/\W FB m' ys H4),
SB! a b c d e f,tC! g.TW.cl a (b g) cP c (HN! d e f),
SC!,tm! f3 d3,
SD! a b c d e f,⟨_,rfl,p,C,a,_,_,rfl,b,T.cl,c,d,_,rfl,e,_,rfl,f,?_⟩,
SE!,[qK! (S? p) lp,qK! Th! lq],
SF!,rowsOf (FZ (L.take i)),
SG!,ID 1 fH dH CL! (Fc),
SH!,λe'=>h2 (by rw[e'];simp[BL]),
SI!,TE->TE->TE,
SJ! a,Bq! (Ag (Az (a))),
uB! a b c d e,Sr! E? g.TW.cl a (b g) c d Au (wP e),
uC! a b,KU! "is_near" "House.is_near" Nd a b,
SK! a,(ne e (λ_ z=>sw z) a),
SL!,(Ac λz=>by rw[z,e] at q;cases q),
SM!,E9 MH.fn T TW,
uD! d e,rZ! [Ti!,Tk!,(c,d)] e,
SN!,i? (behindInMarks op b),
SO! a b,CQ! (F3 BP CO CN Df a (wP b)),
SP! a b c,∀C s1 H1 fp AA,a (XF X sc cl C qL! s1 H1 fp AA) b c,
uE! a b,a b' o' b (λz=>IC (ZB _ (by rw[z];simp[Cg]))) λz=>IC (ZB _ (by rw[z];simp[Cg])),
SQ!,(upd H5 d (.dK (L.map ay!))),
SR! b,kN h λa _ h=>b (P:=λv=>P (a::v)) h (k a),
SS! a b c d,(a i H/\Na! H)\/(b i H/\∃N:c,(∀EN H',N EN H'->∃m',m'<m/\W FB m' EN H')/\∀x H',d i H x H'->g x σ H' λQA H2=>tb { D with nx:=N,ct:=N,bk:=D.nx } QA H2),
ST!,M_ cmp lt n s,
SU!,tD! OO! (#[g! lo t,g! hi u,g! 1 v]),
SV!,Ns! FK HQ FK HQ,
SW!,tj! TW.cl MH.mt GH MH.bd,
uF! a,Tm! p dx _ hp Fq! p h W rfl S a,
SX! a,YL H rl lp lq W a,
SY! a b,⟨a,_,rfl,b,rfl,_,_,rfl,_,_,rfl,rfl,?_⟩,
SZ! a b,λ_ _ _ _ _ _ us hl=>a (P:=λus=>Tn! b us) (us:=us) hl h _ _ _ _ _ _,
UQ! a,a FR!,
UR! a,W i m σ H -> a,
US!,(EZ!),
UT!,(λ_ _=>rfl),
UU!,(λ_ _ _ _ _=>K7),
UV! a,(AS! a),
UW!,(k?),
UX!,(av!),
UY! a,(a1! a),
UZ!,(N2!),
Ua! a b c,aZ! CH a b/\c,
Ub!,v=Tk,
Uc! a,i? (a? a),
Ud! a b,⟨a,A!,b⟩,
Ue! a b c,⟨a,b,F! hN c⟩,
Uf! a,(a b o e).1,
Ug! a,⟨A!,a⟩,
Uh! a b c,⟨rn! a b,c⟩,
Ui!,λb u e=>?_,
Uj!,b∈Ny!,
Uk!,x≠"__name__",
Ul! a,λz=>Ts! a,
Um! a,λz=>ga z a,
Un! a,R? a ZA,
Uo! a b,EW! a (AX! b),
Up!,λe=>?_,
Ur!,x=Kk!,
Us!,x=R! i,
Ut!,y=R! j,
Uu!,o.cls=ru!,
Uv!,Ct! (DW e),
Uw!,[Kl!],
Ux! a,FN! (Q8 X AA a b),
Uy! a,Dk! (a e),
Uz! a b,∀i σ H,a->rG!->b,
U0!,Av! 2,
U1!,sc.kind=.function,
U2! a,Cx! Jq a,
U3!,λk hk=>?_,
U4!,k q≠t,
U5!,q.2.2.2.1.take,
U6!,ns.length<=63,
U7! a,{ G with AS:=CM!,AJ:=a },
U8!,Fo! G.AF-wt,
U9!,kind=SL,
VA!,W.c+rh!,
VB!,λr JE=>?_,
VC! a,cZ! a Dj!,
VD!,l.kind=Di!,
VE!,l.kind≠Di!,
VF!,KP! l.th-l.x,
VG! a,∀(j:Nat)(q:Addr)(G:BV),tK!->a,
VH!,Ny G.AJ tb+x,
VI!,W.qs.length<=12,
VJ!,{ W with EF:=xL },
VK!,SZ++new,
VL!,(pv 12),
VM!,(pv 10),
VN!,S? 1,
VO!,K? v,
VP!,K? D,
VQ!,BM! (Addr×E!),
VR! a b,x.hl.keep (a) b,
VS! a,H! (T? a),
VT!,G? L.map,
VU!,G? fi.map,
VV! a b,G? (a b).map,
VW!,Sum.inl h,
VX!,decide_eq_false h,
VY!,DN.of e,
VZ! a,P! z a,
Va! a b c,P! a (b c),
Vb! a b c,a=b (AS! c),
Vc! a,i! a x.dr,
Vd! a,No a c.r,
Ve!,f8+1,
Vf!,UF d,
Vg!,AT! G.holds.map,
Vh!,AT! G.AJ.map,
Vi! a,wT Q! a,
Vj! a,o? rs.filter a,
Vk! a,o? a i,
Vl! a b c d e,DR a b c d (b2! e),
Vm! a b c,As (i:=a) b rfl (Or.inr rfl) c,
Vn!,Bq! rfl,
Vo! a b,Bq! (Ag (a b)),
Vp! a b,I? a AF! b,
Vq! a,AE! NJ! a,
Vr!,Hp->Prop,
Vs!,LL->Prop,
Vt!,WF S.hs,
Vu! a b c,CI! (a K H) b c,
Vv! a,aZ! C H1 a,
Vw! a,inClass (top 19) a,
Vx!,.bl true,
Vy!,St! j,
Vz!,(JL++bs).map,
V0!,knd.draws k,
V1!,y? l.map,
V2!,y? rs.map,
V3! a b c,(a t).mpr ⟨b,c⟩,
V4! a,NL! g.toNat a,
V5!,0<=q.2.AW,
V6!,CK! E?,
V8!,AY! (d==sysModules),
V9!,BO! A7!,
WA! b,HC! h'.get? b,
WB!,(as.map V.ref),
WC! a b c,a b m Fb! sh c ls,
WD! a,(.BG (a V.ref)),
sn! a b,Sx! H3 a b,
WE! a b,EM (a AA s1 σ H1 _ I1 q1) b,
WF! a b,Fa! 3 a b,
WG! a b,Ek! (Cy! a) b,
WH!,Al! c1,
WI! a b,Am! a (hd σ H b),
WJ!,ak! jr,
WK!,Se!=B! x,
WL!,am! D7!,
WM!,am! (R! n),
WN!,D0! e,
WO! a b,Ad! (N? a b),
WP!,Pv 0 σ H,
WQ! a,Dr! (.dT []) a,
WR!,D2! c,
WS!,D2! c1,
WT! a b,b? H' a C5 b,
WV!,Ca kvs k=B! v,
WW!,D3! "len",
WX! a b c,DT X.prog X.w a h' b c,
WY! a b,Bw! List.range a b,
WZ! a,Er! AZ! a,
Wb! a,A4 (Sa! ZA a),
Wc!,A4 (To!),
Wd! a b,NX! H a b,
We! a b c,a b=some (seqObj ci c 0),
Wf! a b c,(Ag (a E? b c)),
Wg!,s4! he,
Wh! a,ON lp lq hs H a,
Wi! a b,KW! a b [],
Wj! a b,D6! a b 60,
Wk!,D8! e,
so! a,FX! H2 a [],
Wl!,0<Eo!,
Wm! a,Fo! G.AF+(a),
Wn! a,wpAny _ _ a _ _ _,
Wo!,(g,tick,S),
Wp! a b c,F3! rfl a b c,
Wq!,Sa! ZA DF,
Wr! a,F4! p a,
Ws! a b c,F5! a b r c,
Wt!,TT! pos,
Wu!,F6! H',
Wv! a b,Dr! (.BG (a V.ref)) b,
Ww! a b c d e f,Sr! a b c d hr e Au f,
Wx! a b c d e,tC! a b c hr d e,
Wy!,HV! h,
Wz! a,tD! a (#[DD!]),
W0!,tE! d,
W1!,[bA!,TX!],
W2!,Ai! e te,
W3! a b,AU! a b .dT [],
W4!,rH! ht,
W5! a,Q (g! a) H',
W6!,(λy h=>FX.NZ AG! h),
W7!,(.BF (as.map V.ref)),
W8! a b,Kn! (call (CB! a) b),
W9! a b,NU! (Eu W).lookup (a:Str) b,
XA!,Nt! vs,
XB!,Nu! (c≠b),
XC! a,B! (a b),
XD!,Nv! e2,
XE!,P! es s5!,
XF!,Nx! h,
XG! a,cr (a->Dt!->AB! H'),
XH! a,ON! (Ee! Cs!) (.seq a),
XI! a b,Nz! a Nb! b,
XJ!,N0! JE,
XK!,HL! .BG xs,
cu!,(Ca kvs k),
cv!,(W.qs.set j AD!),
XL! a b c d,N1! (b3! g.T.range a) b c d,
XM!,V->V->s8!,
XN! a,(a (·.1)).Perm (rg m),
XO! a b c d,(a++Tt! b c++d).Perm (rg m),
XP! a b,ID 3 f fd a (b),
XR! a,(q.map a).toArray,
XS!,IE (SZ),
XT!,Tp! t,
XU! a,S8! td (λx H1=>a),
XV!,Tq! bW!,
XW!,Tr! h1.trans,
XX!,λq=>! Fi! FS,
XY!,(sb.2 b hb).trans,
XZ! a b,h? (a t (b ht)),
Xa!,bU! Value.ref,
Xb!,Bi q? t,
Xc!,Bi FS t,
Xd!,bV! hb,
Xe! a,bX! UV a,
Xf! a,bY! H' a,
Xg!,bZ! H,
Xh!,bd! n2,
Xi!,b? H a .dT kvs,
Xj! a,Ca (kvsOf a) (C9! n),
Xk!,bf! Q!,
Xl!,av Kx C,
Xm! a b,⟨λz=>a,λz=>b⟩,
Xn!,(ET hu),
Xo!,(AK.mp nd).2.2,
Xp! a,q.Perm (List.range a),
Xq! a b,BY a (r0! b),
Xr!,No (Sq!+U?) i,
Xs!,I.pin p hp,
Xt! a b,rg! a Ab b,
Xu!,ri! z?,
Xv!,rm! (Ny G.AJ tb+wt),
Xw! a b,rq! a Q b,
Xx!,DV H a y o,
Xy! c,rr! (c+Ct t DF!),
Xz!,OO W.hs H H',
X0! a,b1! goal a,
X1! a b,bB! ZS (CL a b ?_),
X2!,hb (ZB _ (qB!)),
X3!,CP! to! KF,
X4!,(lay H ps),
X5! a b,∀t,NR!↔(a/\b),
X6! a b c,rx! a b (bg! A? c),
X7!,(I1.DM.fresh (ZG _)),
X8!,ry! h,
X9! a,Cd a=Cd W.qs,
YA!,r4! hd,
YB!,x.sd i q G hi,
YC!,F'.mpr e0,
YD!,(KI! (Y' t)),
YF! a,TD (a q rk!),
YG!,keepR G R,
YH!,(l.set i r),
YI! a b c,AT! (a b tb c).map,
YJ!,wT L! A?,
YK! a,Cb (F! hx a),
YL! a,KO! H2 a [],
cx!,(Fk kvs more),
YM!,tq! vs.toArray,
YN! a,Ga X (CB! "sorted") a,
YO!,bh! x.2 l,
YP!,⟨_,CS!,rfl,rfl⟩,
YQ! a,cF a it es as,
YR! a,a b o e n hb hx,
YS! a b c d e,(x.of a rfl rfl b (rz! rl!) c d e).tk,
YT!,W.JJ++[(bb!,io)],
YU! a,(.bl (decide (a))),
YV!,tr! hq,
YW!,(Dg m p q).map,
YX! a,tt! a [Ee! "ValueError",Ee! "Exception",Ee! "BaseException",Ee! "object"],
YY!,as.map Value.ref,
YZ!,(Es! W?),
Yb! a,λw=>⟨w.1,a⟩,
Yc! a b c,Nw W W' W.ls a->rv! b->c,
Yd! a,H! (P? (a h)),
Ye!,(rowsOf L).map,
Yf! a,o? keys.filter (HU! a),
Yg!,qD! ka q.1,
Yh!,(ts.take i).filter,
Yi! a,(Bh G.AF tb (a)),
Yj!,F9 qs r,
sp!,(iN (List.range n)),
Yk!,I.cell x c e,
Yl!,PT X a tA,
Ym! a,ro! H' a as.map,
Yn! a,CT k (A.deeper a),
Yo! a b,CI! (RecAt a) b rs,
Yp!,MM X sc cl caps,
Yq!,IK X.env.cells cl,
Yr!,tn! pos es,
Ys!,Value->Value->Sem Value,
Yt! a,ba! Ds T.tuple DY a,
Yu! a,Yg λi j=>a? a,
Yv!,Du! (Gk y.fi h) (cf h),
Yw! a b,∃W:Nat->Nat->a,(∃m,W 0 m σ H)/\∀i m σ H,b,
Yx!,JA H EF y z,
Yy! a b c d e,a b=some (Sc c dx (d e)),
Yz!,LC nx n ahead found R,
Y0!,RE Rg Rg.length t u,
Y1! a,Sf c T S v L a b,
Y2!,I.aA hH,
Y3!,IY a3!,
Y4! a b,a λ_ _ _ _ _ _ _ q=>b q,
Y5!,(tp! (Y' t)),
Y6! a,l.kind≠Bm!->a,
Y7!,a.1=b.1,
Y8! a b c,⟨a,λi H x H'=>H'=H/\b,c⟩,
Y9! a b,⟨a,a3!,λj n1 n2=>b⟩,
ZA!,∃sl,Bo! h'.get? { o with slots:=sl },
ZB! a,λz=>HO! k.symm.trans z a,
ZC! a,λh' eb=>n? (b4! a),
ZD! a,λ_ _ _ _ _ st h=>a st h,
ZE! a,∀σ H,Pv a σ H->Na! H,
ZF! a b,∀w' s',a->b->Q w' s',
ZG!,[Kd!,a4!],
ZH! a,λh=>(WE a h).toNat,
ZI!,ys=i1++y::i2,
ZJ!,AC (H! hz),
ZK! a,{ W with c:=f8,ls:=a,EF:=Nf! },
ZL! a b,∃as:J!,a/\b,
uG!,(tupleKind Ki!),
ZM! a,q.Pairwise (λi j=>a),
ZN! a,CT (k+1) a,
ZO! a,Ok a (n+1),
ZP!,(model X.prog X.w),
ZQ!,(h=p\/h=q),
ZR!,Ai! i ty,
ZS! a,I? HB! HB! a,
ZT! a b c,Bs! (TP! a) (TP! b) c,
ZU!,(cO H tb),
ZV! a b c,.BF (DO.of a) (b c),
ZW!,(Ci hu (Ao Q! rfl) E?),
ZX!,Km! fd ps,
ZY! a b,Wg D m Fb! sh a b,
ZZ!,Eb (k:=DC!) (f:=a6!),
Za! a b c d,a (EM (b AA s σ H c I h) d),
Zb!,hb.elim h.1 h.2,
Zc! a b,Rd H d (.dT (a b)),
Zd!,J W al ys,
Ze!,.IJ g s n' u tick S,
Zf!,.GB ob u,
Zg!,Jo M3.fn TP,
Zh!,CR! Gb [Op,R! BR],
Zi! a,r1! Cw T.sorted a,
Zj! a b c,r2! (λi m σ H=>m=a/\b/\rG!) c,
Zk!,r3! l t,
Zl! a,W.plainGet K C a=true,
Zm!,(l+r) / 2,
Zn! a,x.HV (b:=a) (qB!) hq,
Zo!,(.ListComp elt ts! sc pos),
Zp! a b,BD.mpr (TD (by have:a:=bc! b be!;simpa using this)),
Zq!,[Kf!,a9!,"_law_thing",rD!],
Zr! a b,(g9 (Wj a (Pd b))),
Zs!,CJ! f3 d3 qX! Gc,
Zt! a b c d e,WI a p0 W' D' m n (b) 0 c d e,
Zv! a,λi j=>.bl (decide (a)),
Zw! a,λb hb o eb=>a b o eb (off b hb),
Zx!,(Jc I.DM eb),
Zy! a,(EM (ha pos AA s σ H _ I h) a),
Zz! a b c,f _ _ a (Sy! b) (Sy! c),
Z0!,hs h hh bh,
uH! a,(backToKw a (keywordEach [] X.env)),
Z1! a b,KU! "need_in_hand" "House.need_in_hand" Ka a b,
Z2! a,F.ok a (λvs H Q E h=>?_) (λDZ A outer s H vs Q E hr h=>?_),
Z3! a,W.findIn K C8! a=B! (aw! f),
Z4! a b,qz! CW a TW.cl b (by simp only[BX] at l1;lia) ?_,
Z5!,(Dg c.m c.p c.q).map,
Z6! a b,a hu I2 g ry b,
Z7! a,g a σ H λQA H2=>tb { D with nx:=Ff! Pv,ct:=Ff! Pv,bk:=D.nx } QA H2,
Z8! a b,Un fs ex H a h b,
Z9!,rw! H3 W.en Nf!,
aA! a b,lt a (p.getD b 0)=true,
aB! a,KF! X.prog X.w X.A a Q E s,
aC! a b c,⟨a,_,_,rfl,rfl,b,c,?_⟩,
aD!,(XF X sc cl s3.heap.objs.size qL! s3 H3 fp AA),
aE! a,nh (λEN H'=>a) ?_ ?_,
aF! a,K _ _ a Nh! _ ?_,
aG!,⟨SL,U?,g,b,sh⟩,
aH! a,(Rc (Te K (B9 1) a) (B9 0)),
aI! a,rj! (nX W h) NH (∃q G,Bx!/\a),
aJ! a,(Ag (Iw rfl rfl a Jl)),
aK! a,HU a H p d c ls,
aL! a b,N! ⟨a,Ff! Pv,λEN H' p'=>⟨b,A!,rfl,JK,p'⟩,λx H' y=>?_⟩,
aM! a b,S3! (mQ g) aV g.mMd.mg g.mMd.fn.kp g.mMd.bd (HN! E? a b),
aN! a b,Turn P w K tg a [it] it (λi h=>b),
c0! a,False.elim a,
c1! a b,(a _).nodup_iff.mpr b,
c3! a,(λi ys H2 _ h=>a),
c4!,(Ac!),
c5! a,(qM! a),
c6! a b c d e f g h i j k l,(Fm (a:=b) (c:=d) (caps:=e) f rfl rfl rfl rfl g rfl ZV rfl ZV rfl h i j ZV k l),
c7! a,K!->a,
c8! a,r9!->a,
c9!,J7 z=true,
dA! a,bT! a bl!=true,
dB!,lt i j=true,
dC! a b,a/\(b key).Pairwise HR,
dD! a b,cE! a=b,
dE! a b c d,⟨a,G! b c,d⟩,
dF! a b,sB (c=true) a b,
dH!,λc q=>?_,
dI! a b,G! (Bm a) b,
dJ! a,G! a h,
dK!,λc xs q=>?_,
dL!,BH! q,
dM!,BH! Bp,
dN!,b∈KM!,
dO! a b,(by have:=a;rw[b] at this;cases this),
dP!,λb o _ e=>s b o e,
dQ!,EQ BE,
dR!,(EK _ _ (Sy! hb)).trans,
dS! a,N? a e,
dT! a b c,N? a (Ku! b c),
dU! a,by cases op<;>first|rfl|exact a,
dW!,[bp!],
dX! a,[⟨a,io,I,[],[]⟩],
dY! a b,λi H=>GD! a/\b,
dZ! a,(λv z=>by rw[a] at z;cases z),
da! a b,λσ H R=>a σ H λx H1=>b,
db!,t.2.toNat,
dc!,v.1.toNat,
dd!,v.2.toNat,
de! a,(a:Int).toNat,
df!,xs.length-FB,
dg!,λy=>(y.n,y.io),
dh!,FP! CG,
di! a b c,if a then(b,v)::r else c,
dj! a,a<=b6! f,
dk! a,∀y∈sc.names,y.2≠a,
dl! a,cP!++a,
dm!,(rel.val k).JP,
dn!,λ_ _ q=>ZT _ q,
do! a,xz (W.ED.length<=a),
dp!,(rel.val k).getD,
dq! a b,ut IW a b,
dr! a b c,ut a (ES b) c,
ds! a,l.most=B! a,
dt! a b,∀u,a al' n u=b,
du! a,Cx! ZE a,
dv! a,Cx! DK a,
dw! a b,G9! a ZH b,
dx! a,λt=>(a,V.bl true),
dy! a b,TD (i! a b),
dz!,G.l∈A2!,
d0! a c,by obtain⟨⟨a1,a2,a3⟩,⟨b1,b2⟩,c1,d1⟩:=x.bF;have np:=x.QR (b:=a) (Dm!);obtain⟨dx,e⟩:=x.ob;exact c,
d1! a,NF! e a,
d2!,λa ha=>?_,
d3! a,∀t∈BP!,a,
d4!,t.1≠G.BR,
d5!,u∈G? hl.map,
d6!,N8!=x,
d7!,ts.length<=900,
d8! a,∀{n:Nat} {ahead found R:D!},a,
d9!,a.length+1,
eA!,u∉HH!,
eB! a,λr=>H? a,
eC! a,λr=>! Du! be a,
eD!,t∉N7!,
eE! a b,by show a;rw[b,fY],
eF!,G.hand.length<=500,
eG! a b,{ G with AS:=CM!,hand:=a,AF:=b },
eH! a,{ G with AS:=CM!,AF:=a },
eI!,Int×Int×HS,
eJ!,hl.length<64,
eK! a b c,rP! (a->b->c),
eL!,{ G with AW:=Dz! },
eM!,λ(q:T2×Int)=>sH!,
eN!,λ(q:T2)=>(tk q,V.bl true),
eO!,(Am G (ts.take i)).AF.map,
eP! a,∀q∈a,KJ!,
eQ! a b d,{ W with qs:=NL! h.toNat a,c:=b,ls:=d },
eR! a,∀(x:Addr)(L:o!)(H':Hp),a,
eS!,l.kind=SL,
eT!,λk=>T2! k,
eU!,λh hh bh=>?_,
eV! a c,Q3! (a b o c hb),
eW! a,b9! a=I.m,
eX!,G'.AW<=Dz!,
eY!,λj t ht=>?_,
eZ! a,(a) % Rg.length,
ea!,FB % Rg.length,
eb!,2<=Rg.length,
ec!,λt ht o eo=>?_,
ed!,x % t1!,
ee! a b,a (TW! b),
ef!,List Stmt,
eg! a b c d,z! a b (.GB ob (c d)),
eh!,S? c.p,
ei!,S? c.q,
ej!,K? d2,
ek!,BM! (κ×Value),
el!,BM! (Key×Value),
em!,BM! (Int×Int),
en! a b,List.Pairwise.imp (a) b,
eo! a,H! (sT! a),
ep!,G? G.AJ.map,
eq!,False.elim h,
er!,(K w.params).In h,
es!,(Classical.propDecidable _),
et! a,wE J! a,
eu! a,(AK.mp a).2.1,
ev!,decide_eq_true e,
ew!,AB! h1.get?,
ex! a,P! fK a,
ey! a,P! YX a,
ez! a,P! DE! a,
e0! a,[("kept",a)],
e1!,(CC.mpr rfl),
e2! a b c d e,(Aa a (qf! b c d e)),
e3!,R! r?,
e4!,R! OG!,
e5!,AE d.symm,
e6!,AE DL!,
e7!,AS! z?,
e8! a,i! hb a,
e9!,p? h1.objs.size,
fA!,wP E?,
fB!,wP Q!,
fC!,Bp! (rI! _),
fD!,AT! tu!,
fE! a b,b? H a .dK b,
fF! a b,b? H a E7 b,
fG!,FW! Value,
fH!,Nat->AH!,
fI!,Dq! It,
fJ! a b c d e f g,Ap (pl:=_) a b c d e f O! Au g,
fK! a,AD (G! a AL),
fL! a,AE! Dp! a,
fM!,Br! sh,
fN!,L? bk.LF,
fO!,L? JU.lw,
fP! a b,j! cs! a b,
fQ!,Ef! h,
fR! a,M? a (z▸m),
fS! a,Eg! X.mg a,
fT! a,Eg! a Cq!,
fU!,AW! BI.mpr,
fV!,AW! decide_eq_true,
fW!,BN! (i+1),
fX! a,inClass (top 21) a,
fY! a,(Sum.inl (a):Key),
fZ! a b c d e,Eh! a b c CU! d e,
fa!,St! p,
fb! a,c? a (λx H3 y=>?_),
fc!,y? G.holds.map,
fe! a b c,Bs! (cL! a) b c,
ff! a b c,s3! (a/\b) c=_,
fg!,Bt! XV,
fh! a c,cr (DK!->a->c),
fi! a b,FY! Z9 a b,
fj! a,HD! G.holds.find? a,
fk!,Str->FW! NameKind,
fl! a,(some (CB! a)),
fm!,(a,Jv G th (KP! th+W.share)),
fn!,(ZB _ hu),
fo! a c,cr (Dt!->a->AB! c),
fp!,[(f8,t)],
fq! a b,Dv! (sO! a Q!) b,
fr! a,JV W r? a G,
fs! a b,(a o ne.symm).trans b,
ft!,Aa! (apos.endLine==GY.line),
fu! a,h! k tI! a,
fv! a b,Dx! a b bs.map,
fw!,Dy! gy.map,
fx!,hs.Pairwise HR,
fy! a b c d e,CQ! (uB! a b c d e),
fz!,x.some_at m,
f0!,([]:M!),
f1!,NN! 2147483629,
f2! a b,S7! a (λv s1 ⟨x,H1,I1,r1,q1⟩=>b),
f3!,ak! lV,
f4! a b c,Fc! (DV.k (k:=H! a) b) c,
f5! a,Fc! a CB,
f6! a b,Aw (λ_ _ h9=>a) b,
f7!,C9! (S? p),
f8!,D0! CS!,
f9!,(x.at_ y hy).has hb,
gA! a,Eq! a ?_,
gB! a,Dr! (.dK []) a,
gC!,ar! q,
gD! a b c d,Ae! a b Ha! c d,
gE! a,∀t,QG G' t->a,
gF! a b,b? H' a Be b,
gG!,KN! h,
gH!,KN! n,
gI!,W2.same s3,
gJ!,Fm! (hi-lo),
gK! a b,DN.of (F! a b),
gL!,D3! "sorted",
gM!,Fn! h,
gN!,CC.mpr rfl,
gO! a b,Er! (G! eG a) b,
gP!,Fp! h,
gQ! a,D5! (a AA s1 σ H1 _ I1 q1),
uI! a,s3! a cO!,
gR!,(BX!,0),
gS!,((0,0),0),
gT! a b c d e f,b? (AA! a b c d) e Be f,
gU! a,KT! t a,
gV! a,Ev! a hx,
gW!,(B4 hl tb),
gX!,(B4 (Ck G.holds ta) tb),
gY!,JG W.qs p q T L E,
gZ! b,JG (bq! b) p q T L E,
ga!,HE (V' G ad),
gb! a c,((a b).map c).sum,
gc! a b,HO! AG.mpr a b,
gd! a b,z! H a (.BF (b V.int)),
ge! a,CV! a ?_,
gf! a b c d,NZ! 3 a b c d,
gg!,Ft! o,
gh!,Ek! (show cr! from fx) AL,
gi!,I2.DM.fresh (ZG _),
gj!,Nat->Nat->Bool,
gk! a b c d f,(a b c).elim (λe=>d) λe=>f,
gl! a,TH! Co a,
gm! a b,NU qs ls (at! a) b,
gn! a,NU qs ls D4! a,
go! a b,KW! (u=1) a b,
gp!,DG! BH,
gq! a,DI! more.map a,
gr!,g! (f8),
gs! a,TI! absurd a,
sq!,TK! I.fs,
gt! a,KY! lm a,
gu! a,a2! (KD! a),
gv!,Kb! S.hs,
gw!,Kb! XY,
gx! a b c d e f,ED! (Av (F3 BP a b c d (wP e))) f,
gy! a,BD.mpr (C2! a),
gz!,q.1∉ts.take i,
g0!,Ai! o ta,
g1! a b c d,Kq! a b c=a? d,
g2! a,∃t,u=a b t,
g3!,TW! c,
g4! a b c d,GA! (a b) c d,
g5!,al=a++z::b,
g6!,P9++(Q++s::R),
g7! a b,(Ad a (BS! b)),
g8! a,an! a (TP X AA σ Q),
g9! a,HX! kt a,
hA! a b,HZ! (N! a) b,
hB!,(Et y.fi),
hC! a,Hd! a Ab,
hD!,Ai! e ty,
hE! a b c,HD! l.find? a=B! (b,c),
hF!,(A6 Bk Ap! Af),
hG! a,rH! (a t ht),
hH!,tH! Hc,
hI! a b,NU! (B7 G).lookup (a:Str) b,
hJ!,(U?+1),
hK!,xs=[Op],
hL!,xs=[DD!],
hM! a,rJ! G.AJ.map a,
hN! a,Kt! (λc H1=>a),
hO! a,DB! tb (λy H2=>a),
hP! a,W.findIn K (K? CI) a=B! none,
hQ! a,Nw W W' (NI!) a,
hR!,uN! (A6 Bk A? Af),
hS! a c,∀b u,a->c->Bo! h'.get? u,
hT! a b,ID 2 f fd a (b),
hU!,Kv! e,
hV!,ts[i]?=B! t,
hW! a,N5! (t σ H Q) a,
hX! a,z! H a (.GB o v),
hY! a,ta σ H λx H1=>a,
hZ! a,S8! ta (λx H1=>a),
ha!,Ep! x.wa HK,
hb!,OD! ep,
hd!,λq=>! Fi! q?,
he!,(HK b o eb hb),
hf!,Bn! [cC!,Bn! (ts.map OX)],
hh! a,Q? (H! (a b hb)),
hi!,Tu! Ab,
hj! a,pure (ForInStep.yield a),
hk!,F! s6 fk,
hl!,F! kq.BG et,
hm!,ga k np,
hn!,Tw! s.heap.get?,
ho!,Tx! (Du W1.ls OJ).map,
hp!,b? H d .dT kvs,
hq! a,Tz! x a,
hr! a b,Ca (kvsOf a) (A1! b),
hs!,T1! W.hasDictIn,
ht!,T3! 1,
hu! a,T4! (a >>= _),
hv! a b c,⟨_,rfl,a,rfl,T? b,c⟩,
hw! a b c,⟨_,rfl,a,rfl,T? (WF b),c⟩,
hx!,(Uq! o m apos),
hy! a,DV.k (k:=cB!) a,
h0!,(cK!++T),
h1!,t.1≠EA!,
h2! a c,bj! a (c b o e),
h3! a b,a (t':=s1.toks) b,
h4!,A4!-1,
h6! a,a (List.range n),
h7!,h _ (I.tok _),
h8! a b,BY a (KA! (b≠0)),
h9!,A3! ZS ?_,
iA! a,A3! ZS (ZR (ZR a)),
iB! a b,A3! ZR (a b (ZS ?_)),
iC!,[p,q].take i,
iD!,(us.map (·.1)).take i,
iE!,bt! rfl,
iF! a b,a b XV o e,
iG! a b,bv! a b IS,
iH!,Cf al n u,
iI!,OO W.hs H Hc,
iJ! a b,bB! ZS (EO a b ?_),
iK! a b c,KF! X.prog X.w X.A a (b) X.xe c,
iL!,UA! V,
iM! a b,⟨a,A!,A!,b⟩,
iN! b c,⟨λa xs e=>b,λa ob u e=>c⟩,
iO!,(G.AF.map (·.1)).filter,
iP! a,(q! a O!),
iQ! a b,AR (a b) A5!,
iR!,λq=>(q.1,H? q.2),
iS! a,cA! d a,
iT! a b c,a->KB->b->BQ! c,
iU! a,cF! a s4,
iV! a b c,GQ.k (k:=a) b (P! Lg c),
iW! a b c,cH! a (λz=>b (c z)),
iX! a b c d,⟨_,rfl,p0,a,_,rfl,b,Bw c ZV,_,rfl,d⟩,
iY! a b c,⟨_,rfl,p0,a,_,rfl,b,Fq!,_,rfl,c⟩,
sr! a b c d e,(Ag (Bo a (CQ! b) (Ag (Bo c (CQ! d) e)))),
iZ!,tO! (b≠a) Dw!,
ia!,tO! (b≠it) Dw!,
ib! a b,Ax th _ _ _ a b,
ic! a,h'.DictOfH knd d a,
id!,cS! false,
ie! a b,⟨_,rfl,_,rfl,a,_,rfl,b,?_⟩,
if!,cV! H,
ig!,ZR (HG tI (ZS ?_)),
ih!,ZR (IZ tI (ZS ?_)),
ii! a b,⟨_,rfl,t,_,a,_,rfl,rfl,b,rfl,?_⟩,
ij! a,EX.mpr (TD (Ct! (a q hq))),
ik!,⟨l! C::us,kw⟩,
il! a,r5! eb a,
im! a b,r6! K2 a b,
in! a b,∀{l:S!},a->b,
io!,(p.map GG!),
ip!,(.dK kvs),
iq! a b c,Fs! a->b->sJ! RQ! cR! c,
ir! a b,b? a fa Be b,
is! a b c,a->u?->b->NE->c,
it! a b,h! fr a (eY b),
iv!,Eg! sc.names.lookup KM,
iw!,sA! (ts.take i),
ix!,sB! cE,
iy! a,cr (AB! X.base.get?->a),
iz! a b,sD! (bu! a) b,
i0! a b c,(upd a b (Sc C c [])),
i1! a,NU! mg a fa,
i2! a b,sG! f2 a b,
i3!,sI! DJ,
i4!,FZ (L.take FB),
i5! b c d e,sM! (sR! I.laid s.heap.objs.size b c d) e,
i6!,sN! Loc,
i7!,Hk! a .dK kvs,
i8!,Lk E L r? t,
i9!,sP! sC!,
jA!,DO K H p xs,
jB! a b c d,a hi b (c) (cg! d) GC!,
jC!,sW! k,
jD!,sa! Kc,
jE!,sd! c,
jF!,(ls++(Bn FS rs).map (Hq U?)),
jG! a,EP X AA σ Q a s,
jH! b c,sg! b hS.sq c,
jI! a,hashInt (S? a),
jJ!,I.kept kp,
jK! a,a (s4! ha),
jL! a,(∃xs,a/\k=!xs.isEmpty),
ss! a,(b0! CX a),
jM!,bm!->BV!,
jN! a c,a->NW! (.BG c),
jO! a,a? (a≠k)=true,
jP! a,H? U?=a,
jQ! a,⟨a,bo!,B?⟩,
jR! c,∀a b,R a b->c,
jS! a,R? (s.ok.new t a).1 nu,
jT!,∀vs H Q E,T7!->vs.length=ps.length,
jU! b,UD!/\cD!/\b,
jV!,P! fq (j? hu),
jW!,o? as.map Value.ref,
st!,(Ks!++[r,p]),
jX! a b,K!->T6!->a->b,
jY! a b,z! H a (.dK (kvsOf b)),
ja! b,NK! a b kV,
jb! a,Q (sK a) s,
jc! a,x.le z (P! es a),
jd! a,Dx! a aa JY.map,
jf! a,KL! r a e,
jg!,Fl! l.find? z?,
jh!,Ao! ZO hi,
ji!,(List.range m).filter,
jj!,D5! (qE! hl),
jk!,W.isFn K EB!=true,
jl!,V_ t qs h,
jm! a b,bF! G.h Be a b,
jn! a b,Kr! a B? (λu hu v hv z=>b),
jo! a,LL.ask s g a u,
jp! a,⟨a,H,Hc!,AG!,q⟩,
jq! a b c,T8! Qx a (v! b c),
jr!,T9! (.bl _) ?_,
js! a b c d e f,by! a b c d e Cr (wP f),
jt! a,lt (p.getD a 0) cN!=true,
ju! a b,Nn! (if neg then a else b) H,
jv! a b,t3! a b ?_,
jw! a,Ea G.AJ (λt=>a) t,
jx!,cX! H L,
jy!,t4! 20,
jz! a b c d e f,TB! H' W' a b c [] d e f,
j0!,t7! sX!,
j1!,t8! L!,
j2!,sh! m H',
j3! a,(A6 Bk C? a),
j4!,(p.getD (a-1) 0),
j5! a b,Bp! (Bh a l.th (b)),
j6! a b c d,Go a ⟨b,c,_,d,λo v z=>?_,rfl⟩,
j7!,Lz p W ys H H',
j8! a b c,PW X (.BoolOp a (b) pos) c,
j9!,t9! (A6 Bk A? Af),
kA! a b,BindsTo s fd ⟨a,[]⟩ b,
kB! a b c,cQ! (a b G.AW (CM!)) (t0! c),
kC!,S.step i.2 S1 KW (Q? (H! hb)),
kD! a,HM hp (EM (a) ?_),
kE! d,uD! k d,
kF! a b,[R! n,re a,R! s,R! g,b],
kG! a b c,uE! a (v! b (UB! c)),
kH! a b,Ej! (Dj (A5 Cz a b (A7 _))),
kI!,uF! ?_,
kJ! a b c,Fq (lo:=0) (n:=a) (λi σ Hc=>b) c ?_ ?_,
kK!,W1.same s2,
kL!,bi! Sum.inl,
kM!,(AC (sw hz)),
kN! a,(M? a (by simp[z])),
kO! a,s.TypeIs a "dict",
kP! a,a D4! NC,
kQ! a,St->bw! a,
kR! a b,⟨λz=>sF!,a,h.AJ,b⟩,
kS! a,Am G (ts.take (i+1))=a,
kT!,⟨q,hq⟩,
kU! a b,G! (Ac (n a)) b,
kV!,[bD!,H? q.2],
kW!,aR! (OB! ht),
kX!,e1++(k,e)::e2,
kY!,(kvs.any sQ!),
kZ! a,(W.instObj C a),
ka! a,z! a y.1 OS!,
kb! a,I.tuple (DN.of a),
kc! a b,a (λ_ _ r=>b) p,
ke! a,N! ⟨r,a,h⟩,
kf!,i! (Aj q hn) q,
kg!,Ai! value tv,
kh! a,I? CL! CL! a,
ki!,AD (show ¬(Aa! (Value.ref d==Value.none)) from AL),
kj!,AD (Tv! d),
kk! a b,a (EU.mpr (y! b)),
kl! a,NK! a as.map V.ref,
km!,C4! (P? (Hl! ht)),
kn! a,absurd (a) (B?),
ko! a b,((a b).map T0).getD 0,
kp! a b c d e,MeI K a cs! b c d e,
kq! a,IsTup h a its,
kr!,Ep! W3 TU,
ks!,BU! I.base.there hx,
kt! a,DA! kq.BG MV.BG a,
ku!,TD! (G.AJ.length+_<=_),
kv! a b c,KO! a x (b++[c]),
kw!,G? G.holds.map=CO!,
kx! a,Ca (l.map a) N9!,
ky! a b,bF! G.o C5 a b,
kz! a b c,PS X (.Assign a b pos) c,
k0! a,rL! H' t a,
k1! a b c d,N4! (QE (a b) (c)) d,
k2!,(ls.map YN).sum,
k3! a b,Wl C m Fb! sh a b,
k4! a,(ZB _ (ZB _ a)),
k5! a b c,CV.mpr (Az! a (by show b;rw[AE c])),
k6! a b,a+1<=M8! (1*b),
uJ!,cW! scope cd,
k7!,vs=[Op,Os,R! wt],
k8! a,sV! (TT! p) NY! a,
k9! a c,GZ p b ts H a ys c,
lA!,q=(ii,a,[]),
lB! a,Sg! (al'=[]/\EL=[]/\a),
lC! a b,a (Sv! b z hu),
lD!,(.done (.ret KF)),
lE!,nK c false z,
lF!,A3 C0! ao! [],
lG!,rJ! G'.AF.map (BV!\/0<=t.2),
lH! a,ZR (TJ ?_ (a)),
lI!,x.lt s g ts h,
lJ!,OF! FT! N3! (b≠x),
lK! a b c d f g,⟨Fh! tv!,i! a x.dh,i! b x.dO,c,d,f,g⟩,
lL!,br! _ _ ?_,
lM! a b,Wg D m Fb! W.share a b,
lN!,λq=>Lm w q.1,
lO! a b c,a _ _ b c (D9!),
lP! a b c,ZR (a (s:=b) c VA ?_),
lQ!,QE xs i=B! v,
lR! a,Ev! [bD!,H? W.share] a,
lS! a b c,Un (OZ a) b H H' s.heap c,
lT! a b c d e f g,k a b D c ys d e f g (GC.wi wf) rfl,
lU! a b,a+F0 m y'+1=b+F0 m y,
lV! a,a [Op,HJ!] H1 Q E,
lW! a b c d e f,sj! a dx hp b c d e _ f,
lX! a b c d e f,⟨⟨a,b⟩,c,x.hp,x.hq,x.tn,d,e,f⟩,
lY! a,Sg! (al'=al/\EL=ys/\Cv!/\a),
lZ! a,t6! H W B a,
la! a,WI H p0 W D c.m n d a B al ys,
lb!,(if Aa! (Value.ref d==Value.none) then _ else _),
lc! a c d,⟨a,H,I1,c,d,TV,Q? (hf b hb).1⟩,
ld!,Ar f v ((k,x)::r),
le! a,WQ H t a s g ts,
lf! a,λx y H Q=>a K x y H Q,
lg!,(k,x)::Ar f v r,
lh!,⟨_,rfl,p,GX,_,rfl,FE,Bw _ ZV,_,rfl,k⟩,
li! a,EB P w K mg base a (k+1) f fd ps sp,
lj!,knd.room A,
lk! a c,a (Dk! (cJ! c)),
ll!,(λv3 W3 D3 qr rU H3 r i0 LD KU U'=>?_),
lm!,b=lp\/b=lq,
ln!,Ix X.fn x\/rE! X.env.scope.names.lookup,
lo! a,⟨xs,a,At⟩,
lp! a b c d,⟨a,b,sb! c lP d⟩,
lq!,show Ft! _ from x,
lr! a c,∀b xs,sK!->a->b≠lp->b≠lq->c,
lt! a,⟨z1,z2.imp id a⟩,
lu!,q.1≠ii,
lv!,(rG ht).elim,
lw! a,λe=>KD! (at_ a e),
lx! a b,intsAre_of (ns:=a) b,
ly!,λy hy=>TL! hy,
lz! a,λkv=>if kv.1=k then a else kv,
l0! a,λx hx=>a x (wn hx),
l1!,[tb.1,tb.2],
l2!,[TX!,"_law_many"],
l3! a,ut ha hb a,
l4! a b,λh=>a id λh=>b,
l5!,{ cls:=Ee! ci,dict:=none,data:=.seq ([]:Z!).toArray },
l6!,by rw[Ef,z] at h;lia,
l7!,λl=>a? Kp!,
l8!,(L0 h).take,
l9! a,h? (by rw[e] at ht;exact a),
mA!,{ cU! with AF:=Fl! KQ! KJ! },
mB!,λ(i:Nat)=>c+1+U?,
mC! a b,∀(j:Nat) q G,tK!->a->b,
mD!,{ y with I:={ y.I with ss:=sZ! y.I.ss,fs:=tx! },fi:=b7! },
mE!,{ W with c:=W.c,ls:=NI!++[],EF:=xL,ED:=W.ED },
mF!,{ y with I:={ y.I with cs:=ty! },se:=GB! },
mG! a,(Kb (CK! a)),
mH! a,(a s.heap I.big),
mI!,L.map (λy=>H? y.1),
mJ! a,reduceHash (Builtin.Tuple.tupleHashOf a),
mK! a,a (KQ! uO!),
mL! a b,.tupP (DN.of a) b,
mM! a b c,setField Ey! a (b c),
mN!,(b∈X.ex\/X.HI.heap.objs.size<=b),
mO!,(V.int (DM!)),
mP! a b d e f g h i,Fs! a->JZ H' b Ko! d e f tb g->h->i,
mQ!,¬(U?<0),
mR! a b c d,KF! prog w a b c d s,
mS! a,I? El! El! a,
mT! a b,.ok (.ret (a b)),
mU! a b c,a AA b σ H2 _ c q2,
mV!,(NI!).length<=480,
mW! a,DP.mpr ⟨Ac!,a⟩,
mX! a b c,(Ar BK! (K? a) (Ar Aw! b c)),
mY! a b,(La Cz a b (A7 _)),
mZ!,Go t1 t2,
uK! a,Sx! a r2 OI.map,
ma!,sw! (0<1000),
mb!,z! H' d (.GB o sY!),
mc! a b,S9! a j (KY! b hj),
md! a b,NU W.qs GF! a b,
me!,HK! as bs,
mf! a b,DR 2 f1 d1 a (b),
mg! a b,DR 2 f2 d2 a (b),
mh! a,KO! a sl qI!,
mi!,AR NM! NM!,
mj!,(.Name y py),
mk!,qN! T.len C?,
ml! a b,ZS (Hj! (l! h1.objs.size) _ a rfl b),
mm!,FX! (FX! uA! lp []) lq [],
mn!,[H? G.AS,m? xs],
mo!,[m? t1,m? t2],
mp!,(qs.set l.g.toNat AD!),
mq! a,DJ (a (Sa! ZA ZA)),
mr! a c,DV H a Ex! (bs! c),
ms! a,a=B! (some v),
mt!,(putK kvs p.1 p.2),
mu!,Nn! true H',
mv!,∃t,u=Value.str x t,
mw! a,GI! (a G tb v),
mx! a b c,Jr I tz! a b c,
my! a,Kj a P w K mg base N qual (Al st) f DZ A outer s H E,
mz!,λq=>(tk (key q),val q),
m0!,XT p W y.I H H2,
m1!,Jv G b (KP! b+sh),
m2!,pure (ps.zip us),
m3! a,F! kq.BG (Aq! MV.BG s3 a),
m4! a,JA H W.EF (BR,t) a,
m5! a b,T0! (G.holds.filter (AS! a)).map (G.AF.filter (AS! b)).map,
m6! a,Ai (G.AJ.filter λq=>Fi! a) t,
m7!,Eb (k:=Ab!) (f:=DH!),
m8! a,Hb! i []=a,
m9! a,λr=>(C9! r.1,H? a),
nA!,λr=>((Sum.inl (k r):Key),f r),
nB! a,(ZC _ (DD.mpr a)),
nC! a,Aj! a rfl _ rfl,
nD!,(WC r ta tb),
nE!,J W' al' ys,
nF!,.IJ g s n' u G.AS GH!,
nG! a,KF! X.prog X.w X.A (f v u) Q X.xe a,
nH!,(q.1::BL q.2),
nI! a,AR (rn.len a) C!,
nJ! a,cI! h a hm,
nK!,s.heap.DictOfH knd d xs,
nL! a b,a (B3 I q (congrArg not b)),
nM! a b,⟨_,rfl,t,_,a,H? b,rfl,rfl,E0!,rfl,?_⟩,
nN! a b c,(λi ys H2=>S0! H2 a/\b/\c),
nO! a,r7! d a s,
nP!,Dr! (.BF qI!) XN,
nQ!,sE! pyNext it,
nR! a,AX H2 bs (a b),
nS!,BD.mp e q hq,
nT! a,(upd H9 p (Sc C YZ (B7 a))),
nU! a,Dh (Ab!) G.AF (a),
nV!,sU! G.AF.find? o,
nW! a,(Cw! (a b o sL! (sub b hb))),
nX!,G! eq3 (mN hq rfl),
nY! a,G! (Ac (Fl e a (by intro z;cases z))) e,
nZ! a b c,codeAny cM! A a b c,
na! a,AQ! (DJ! (Ah a b o e)),
nb! a b c,[l! a,l! b,l! c],
nc! a,Vc (λp hp hk=>a) h,
nd! a b,a b c (OY.look e),
ne!,Sx! H5 sl (as++JL).map,
nf!,cr (Dt!->∃o',NW! o'),
ng! a b c d,Sr! E? g.TW.cl a (b g) c d Au (wP Q!),
nh! a b c d,putK (kvsOf a) b (V.ref c)=kvsOf (d),
ni!,t2! ts ea,
nj! a,t5! (FX! a sl qI!),
nk!,∃t,Rg[1]?=B! t/\St! q,
nl! a b c,.one (.tupP (DN.of a) (sf! (.bl _) (.tupP (DN.of b) (F1 c)))),
nm!,uC! f1 kI,
nn!,(K65F.J_ m f c a S),
no! a b c d e f g h i j k,⟨_,rfl,p,a,_,rfl,b,c,_,rfl,_,rfl,p,d,e,f,g,rfl,h,i,j,k⟩,
np! a c d,AQ! (a b o (D1! c) (Aj e d)),
nq! a,∀j t,bx!↔(t∈L0 j/\a),
nr!,h! h (I.tok _) ?_,
ns!,CG! G.h Be rQ!,
nt!,S9! W.qs g.toNat (FP! x.wg.wl.len),
nu!,knd.is s.heap k a,
nv!,(upd H p (Sc CP dx (E8 (c+1) d))),
nw!,t∈C4 G.hand G.holds,
nx! a b c,WT FH dd.typeIs I_ a b c,
ny! a b,swapsWith a b pos.line X.env=pure false,
nz!,z.holds t u h e,
n0! a b c d,cY! (B9 0) a b He! c Hm! d Hi!,
n1! a c d f g h i j,⟨⟨bk! a,c,TD ((x.ho q hq).keep (Dk! d)),f,g,h,i,x.nd⟩,Cw! j⟩,
n2! a c d e f g,⟨s1.heap.objs.size,[s1.heap.objs.size],_,a,c,rfl,d,e,f,F9!,g⟩,
n3! b c d e f g h i j,⟨_,rfl,p,C,b,_,_,rfl,c,T.cl,d,e,f,rfl,T5! g,_,rfl,_,tk t,_,a,h,rfl,i,j,?_⟩,
n4!,(kK b o eb hb n1 n2 n3),
n5! a,⟨xs,xs[i],a,by simp[JK]⟩,
n6! a b,Lf a (C4! b) m0,
n7! a b,a b x.1 HY! x.2.2,
n8! a b c d,⟨x.step hi a b st (x.rc.less hi (c) λt ht ne=>d),st⟩,
n9! a c,⟨a,(hs.2 b (BQ (B_ (AV e) c))).trans e1⟩,
oA! a b c,a (λt:T2=>t) (l:=b) (P! GV c),
oB! a b c d e,a (t':=b) c GM (show d from e),
oC!,(s',lD,X'),
oD!,λi v=>∃e,es[i]?=B! e/\v=e.key,
oE!,Cy! (QC.size-j=(QC.size-(j+1))+1),
oF! a b c d,λzs H'=>∃m',m'<a/\(m'=b/\c/\d),
oG!,[Kf!,a9!,rD!],
oH!,if D?=a then(q.1,a,h) else q,
oI! a,as! (Fl! G.AJ.filter (q.1∉a)),
oJ! a,(a c.m kp bz!),
oK!,I? N ps st,
oL! a,Aj! a (λ_ z=>su!) (λ_ z=>su!) (λ_ _ z=>su!),
oM!,ON! (Ee! "dict") (.dict #[]),
oN!,A3 Aw! NP! OI!,
oO!,(qG b o e hx),
oP! a b,HQ! TM! "House.state" Mf a b,
oQ! a b,HQ! "give_back" "House.give_back" Rk a b,
uL! a,(A.under (CB! "type.__call__" a)),
oR! a b c d,Dv! (FY! Cz A? Ej) (BS! (Sr! E? TW.cl a b c d Cr (wP L!))),
oS!,Wt l.kind G l.th l.x G',
oT! a c,Hg! "add_to_record" "House.add_to_record" Rl a c,
oU! a,(WC (Wi K) (B9 0) a),
oV! a,ZD _ (wn (ZD _ (ZD _ a))),
oW! a,LC (OL hl) n (b8! a Ez!) [] R,
oX!,λv H5=>S0! H5 p/\ys.length<sizeLine/\N (ys++[v]) (FX! H5 p (ys++[v])),
oY! a,FJ rfl (GN (HJ (EM (he AA s1 σ H1 _ I1 q1) a))),
oZ! a b,a/\k=(S? b != 0),
oa! a,MW X.prog X.w H' a,
ob!,[Kf!,Ta!,rF!,"_law_xs"],
oc! a c,∀b,(a\/b=I.sd\/b=I.fd\/b=I.cd)->c,
od!,⟨_,rfl,_,rfl,l,o,rfl,g,?_⟩,
oe! a b,r8! "lose" "House.lose" O6 a b,
of! a b c,TJ! a (K65F.FG H' io b) (XT p W I H H') c,
og! a b c d,O.tr _ _ _ a Nh! b c d,
oh! a,sc! a ha ha ha,
oi!,∀b ob,Bo! H ob->b≠d->NW! ob,
oj! a b c d,Sr! a b M1.mt G1 c M1.bd Cr d,
ok!,N6! LD.dn iV IH.md CT!,
ol! a b c d e f,⟨_,rfl,a,_,rfl,b,c,_,d,rfl,e,f,?_⟩,
om! a,Mu (k:=DC!) (f:=a6!) (A1! a) ha,
on!,Ve ey rfl rfl,
oo! a b,B9 0 (al! a) H4 b,
op! b,Ax th i a t ea b,
oq! a,aH a x dx C mA,
or!,[Sw! (wt-Hi wt),V.int (Hi wt)],
os!,[Kf!,TX!,TY!,TZ!,rD!],
ot!,kg c e.1 e.2.1 e.2.2,
ou!,(.ask s g n' u),
ov! a b c d e f g h i j k l m,a (A':=0) (B':=b) (R:=c) d e C! iw f g h i (F8! j nu) GM k l (m),
ow! a,attributeBase o a X.env (eval o X.env)=cG! o,
ox! a,(I.base.free b a e n hx),
oy! a,_++(b5! (n=n) a OE!++_)=_,
oz!,C7 m h (E2!) 1,
o0!,A3 CD! NP! (Ar C0! ao! []),
o1! a b,⟨_,_,a,.BF (DO.of Ab) O!,b,Ug,_,rfl,?_⟩,
o2! a b c d e,(Mh a (Iy rfl (By (aj! b c) (By (aj! d e) F2)))),
o3! a,aK P w K mg base a outer s H,
o4! a b,q8 (v:=v) (o:=a) b,
o5! a,∃t,a/\t { nx:=λ_ H'=>Hh!,rt:=Q } se! H,
o6! a,a ZV ZV ZV ZV,
o7! a b c d f,⟨a,Fd!,Fd!,Fd!,Fd!,b,c,d,f⟩,
o8! a c,AQ! (ut (Eu! a) (Eu! c) e),
o9! a c d,AQ! (by by_cases hb:a;(.subst hb;rw[c] at e;rw[Ab];exact e);.rw[DE!];exact d),
pA!,((s.heap.update a (Obj.mapSeq λ_=>(#[]:E1!))).push (seqObj Cs! vs.toArray 0)).push,
pB! a b,step (o:=.dT []) Ab a b,
pC!,λzs H' pz=>Aj! A! rfl JK pz,
pD! a b c d,(MeI.mth (ps:=a) ⟨b,c,d⟩).bd,
pE!,by rw[el,ZE,BO] at z3;rw[ZE];lia,
pF!,(σ.set i (some v)),
pG! a b,wpAny_field (x:=a) e1 rfl rfl b,
pH! a b,a AA s1 σ H1 b I1 q1,
pI! a b,Eh! "give_back" "World.give_back" Me Ty! a b,
pJ! a b,Eh! "ask_all" "World.ask_all" G7 OJ! a b,
pK! a,hb (ZC _ (DD.mpr a)),
pL! a,Cm hu C? Q! a rfl,
pM!,[Kf!,Kd!,"_law_n",Ta!,rF!],
pN! a b,A3! EG (DG slot_list_sort (D0! a) dX b (args_list_sort _)),
pO!,SZ++C7 m g2 n 2,
pP! a b,sS! Xr e c a A5! b,
pQ!,[ci! (re msg) j p1],
pR! a b c d e f g,∀base:Heap,a->OH! base.Ns->EB b w c mg base d e fa fd f g,
pS!,⟨hp,g,d,tk,os⟩,
pT! a b,a ha hb I h λv u s2 x y H2 I2 rx ry q=>b,
pU!,∃a,kv=qK! r.1 a/\XS K H a BP!,
pV! a b c,I.gE (its':=a) hH e b c ?_,
pW! a b c,A3! wpAny_attempt (JH (name:=Str.ofString "__next__") a b c),
pX! a b c d e f g,a AA s2 σ H2 x b v c d I2 e f g,
pY! a,si! x a (Lw st) (F8 st) (Al st) KF,
pZ! a b c d e f g h i j k l m n o,⟨_,rfl,p0,a,_,rfl,b,Bw c ZV,_,rfl,d,e,f,g,h,i,j,k,l,m,n,o,?_⟩,
pb! c,∀(H2:Hp) (a:Addr) (t:T2) (Q':Hf!),OC!->rL! H2 a t->c->Q' (b t) H2->tt (al! EC!) H2 Q',
pc! a b c,Gj (l:=a) (k:=λq=>q.1) (f:=b) c,
pd!,(F6 I.m I.sd I.fd I.cd),
pe! a,IQ kind_sorted plain_sorted entry_sorted (args_sorted1 _) (a),
pf!,(upd H2 G.o (C5 (KQ! uO!))),
pg!,(Ar NJ! (K? en) (Ar Dp! bn! Hn!)),
ph! a b c d e f,EB P w K mg base a b c d e f,
pi! a,⟨_,rfl,_,_,rfl,rfl,a,rfl,_,rfl,?_⟩,
pj!,⟨_,rfl,_,_,rfl,rfl,A8!,?_⟩,
pk!,envOfC qual scope s.heap.objs.size f cd,
pl! a b c d e f g h i,⟨_,rfl,p,a,b,_,_,rfl,c,d,e,f,g,_,rfl,h,i⟩,
pm!,[Kf!,Kd!,TY!,TZ!,Ta!,rD!],
pn! a c d e f,⟨_,rfl,a,c,_,rfl,d,Cp _ ZV,_,rfl,e,b,_,tb,rfl,S1,f,_,rfl,?_⟩,
po! a b,QK m.base m.mR m.line DE a b tw!,
pp! a b,a kindOf ((p,w)::P.zip vs) m b=_,
pq!,Fp p0 W [] W' [] H,
pr! a,ZR (m:=checkCount "sorted" 1 1 _) (ZS (ZR a)),
ps! a b c d e f g h i,a (A':=0) (B':=b) (R:=c) d e f iw GM g h (i),
pt! a,Gm (G1:=a) (Dm!) rfl rfl S1 k,
pu! b c d,⟨_,rfl,_,rfl,a,ns,b,rfl,c,hlen,a!,a!,d⟩,
pv! a b,fin WD LD XI fr IS ⟨_,a,xz (G.AS<=CM!),eq⟩ fi b,
pw! a b c d e f g h i j k l m n o,⟨_,rfl,a,b,c,d,e,f,g,h,i,j,k,l,m,_,rfl,n,_,_,rfl,rfl,_,rfl,o⟩,
px! a b c d e f g i j k l m n o,⟨a,b,c,⟨h0,d,e,f,λt u h=>g,i⟩,j,k,l,m,n,n2,e0,r1,ev,A!,A!,o⟩,
py! a b c d e f g h,⟨_,rfl,_,rfl,p,a,b,_,_,rfl,c,d,e,f,_,rfl,g,_,rfl,h,?_⟩,
pz! a b c d e,hR v a b _ _ _ rfl c fW ⟨y,_,i1,i2,d,ey,rfl,rfl,rfl,rfl,e⟩,
p0! a b c d e f g h i j k l,⟨_,rfl,p,CW,a,_,_,rfl,b,TW.cl,TW.nP,c,W.po,d,_,rfl,e,Kw!,_,rfl,f,g,h,i,j,rfl,k,l⟩,
p1! a b c d e f g h i j k l,⟨_,rfl,p,a,b,_,_,rfl,c,T.cl,d,e,_,rfl,f,_,rfl,g,_,rfl,_,h,i,j,k,l,?_⟩,
p2! a b c d e f g h i j k l m,Fm (a:=b) (tt:=c) (d:=e) (caps:=f) g rfl rfl rfl rfl h rfl ZV rfl ZV rfl i j k ZV l m,
p3! a b c d e f g h i,m_ a p0 hd lp lq rl lv b m c d p q e f g Rg h v r0 i,
p4!,⟨_,rfl,t,_,_,_,rfl,rfl,OA!,rfl,a,_,_,_,rfl,rfl,FM e2,rfl,?_⟩,
p5! a b,⟨p,BR,W,l1,l2,t,BR,a,g,b,_,rfl,x.wa,el,et,λH1 W1 HK=>?_⟩,
p6!,Cb ⟨_,rfl,xl,_,1,_,rfl,rfl,QT s3,ww,_,_,rfl,rfl,NN! 5,rfl,_,rfl,?_⟩,
p7! a b c d f g h i j k l m n o p q r,x.answer (new:=a) (D':=b) (y':=c) el es p1 p3 ey ee i_ fr rfl rfl rfl (m7 fr at2) d f (g) h (λw9=>i) cA cB j k l m (n) o (Ea! p) q r]
theorem ZV{p:Prop}(h:p:=by decide +kernel):p:=h
open PySem PySem.Spec PyProof.Rows in def ZR:=@wpAny_bind
open PySem PySem.Spec PyProof.Rows in def ZS:=@wpAny_pure
open PySem PySem.Spec PyProof.Rows in def ZT:=@Heap.get?_push_of_some
open PySem PySem.Spec PyProof.Rows in def ZU:=@Heap.get?_push_size
universe T BdhCqPfmaauC BYyYxTVjjYgO cHcWXbLrRTv lLEMOjsclmZ nIeYgSuazxO VFMPKCuTurm BdShtpNHVqMq BEKnUgxGydcz GmbDbnMfsRf CPyWHtIiKiUP BFUbrARVPVBW CBCNbldpWllx lNDJRLnTHFY ynvhRAZwdcB BVhZFHUiyLcZ CHWYxIxAqMjP zOnkcFBeRFF BeeFdujeayfQ BRoieoNfvucm BseKigKtfypT FivCwoZaYWr BLyEKLwGyvDy BGpiwpgVMmaU CRGZpfRONuwO CEXDLyIeBRTu oysVHTCUOVK dZNEasmDFrX GjQGejTZmXz BnZNzXQQAXXh lgFgiAvUAMI ofYCLCWdtHr BKahvnBeXzDV KQLnUTlCBGI BGwckFTDqLAp XqnsenuVXYc CMpsTIrRjJFi zetFfAUkneQ DSfTxxAVodJ CAGKiOCdVDoj BQApVrTlxCGN BsKaqHYcOtmW BkSAqihAsmct XxAtPwdgRqk BsbjmahYdFeX BedYycTMxPZA BjtExynrwCXm BaATKrmcRkKi BTTAWYfSpAVQ KWNtekFqSKf CHNTrUuBFHPa CVJUFzgzcKUz HSclrelCXuJ rEyMguxmEhL CJgkJRBwJOi BuwpIPYPbknR BUdiTYaWPpml DLLBHasYvVO vTXYIQtlHza BljmGmphIhCC CQewyrJHBfjB CSfmpkfwVwUC kziGzbtwSuv FkjUnnuUdVw CNKvXLSlwyUM BogjSIKBbOlv PsUiSytBYdw BxojTbmymgSj rYGNVqedAQD MYhszncDdQx BvSfSxMwQKcw DNHFZktIZIf BtBzkMkDUayB BoEjZhtOhcoq BDqkajYFuxES BycfEqqUumgM HtMBxJljmAd BYufTuRfDWDf CSRWgdRfxNGs BBuXDxCZEiuq oZzJFLcvqSO BcmTltmiskfY CSHbxEZclWZO jePBTGSNWZB BiyqWRbFJNdZ BzAsAiBTZbmL ZKFPhiiQyqY BHBLzJthaxPz EdHepSEzsDB BnWGDUShXGPg NXsicXspped MAmQfIccaPV OdmKTtigsQB CKCYjTduXcUi OYaERvimIWm wwwPzzsPdvf CMwjXHwrqhyX CCLRyJzdhMYR jmfpvpVvmnq NjJWrDrJXso CDHKvmNqseCd BtnfrIGdcnc WUiwIyFiiUP zxdrpROIwJP BsZdHyRtirFd BBWrYEfHAWtF BHGSjEngHJag CEtAWctjTJoy OReYDjogzIC BtLUKxNdgAsZ BiqPketDWZGx HQWHXIYnSV CFfLLvdCnbUo BoTFdpTmBYvZ BcbmZBllgohv toDnyrfaTXA BfGozCgueAhG UOIpUPdXzgv zumiYJXGtDD BBiBwUoSPJAD BvLtvagHtdLm BYkBaGWhSOfW BBgqRsUoIRlu oWxtWWJfQWR bCkwKNPqgjS BeJqzZLEdeHS BalZqSFFwGlN XzXXBHKNxJ ZlUweNofgaY wkCfyIKmdwH BHmmbgeHgrXZ XTcmObuyoPB QwQVawCXKrQ BrpzPGqDpnjX clFGHghruJF CABIFEzHTxdN BOJlufwqmJNL CLeBdKbxUJPG CQTrgignNdhN YjIakZynFBj tZWPqfspcOu MdeZpPzedgf BPUPCZgpIIQo BLYsVxaAGjnS CLCIzmUlrlhg cdBvxhPDbkd CNCUTYiTgXoe hoNtSZTZujy kMwWGSBgAbu BDcSAvNsrOnG CRliCgnFGWBv tlCpslbUmhq fqJlfuHUqLc BtuuXBLKEzvv kmYnJqiCHIK BUKSgrWbCEFj BGyWLDTaiVdM BhiOsYrsRUyG BjLEfaxlkSBA BGhWXSKXZVBV ycWskpgzALG mYhSIAYcYZB BhzBfREsaOgu BegDtXDVGfEy BikeMRkXQdIf VMeElgrOLjh CIlbuaYitGYO CNjUCgVvMFmy tNZTcnyVrF BgFUpteKwDcR BUpyadCBwar CLvvRXDeZVkD UZLRIZbXKYP NaCuaimvCmC SOJuDaLOlVC ZbNcRdemvIK BcqwBmPXIzEx BXPrcqLkXANY QajScWFYDDe BgtYKdAVhADH BmcuOmXUmfmr ByQxdIzWxyoc BmZOfDFGltHp shlbGCwFyUE BdFvsoGsFlXy NEitOXDDarl UkEaILEsPQE BzeguNpdEREs qfxUWTRmXCY CEPkVRHEuKnI CKUcTgrNVkcR mCuXSzbCMRl CIcrDLmrnUqd oDaPaKyGSTn BzVBpFjzqrSP CVyoXEbGUbPT BWCJcKSEcVQO BWcCVFtDVEdV BrPnBvrgywzK BljlWcEofRiT CSksCZEwcFpt mAMIwcaGrGg ePuYfgBHRgX ccUiyPkhHRw BkXbbPevUZyZ BhDMWwcYWyMF XhZjCPscTqC lmfnHRNMKjB BSaBdKeEKXJg BgTtgepMYJYe BNPjRRaQjXbX BPESCpwgsCWc CUZNTdNcnfRG BmVMuNANxWiJ BPBCZpECcxVG BHtaQIxQWMBc BryWsadikHOA CFIjQOfoJipP tuhhtBYhflp CKckHYbpqniw SHRqWhmJNaW HLmEfpPnFCe HkgFbzEcRVQ OPoSsNoWgLN CKNMRGtFPsGg ZbKvjLTLMUU CPigivVeRduQ CRuohewYTyfw CJtKObTquNmH tKNatYIkTPZ CMHqlnyxZEwG BIisqlimpAeY BDoTIwzUcckz BiqvhIBkoQcV ZulPYsqCtwn fYqQwDomgmf CNuwEMYnIRqo nwyWjyRDqBH BhAsBAHlxCjQ BiOEUiPOZTVP BEDXYJjXedJY cEyHJLbQZTj PfbHOevMvcg ikTsJQSrzWr BassDpKCVdFI BCepoKmYnGwj BhjqrccibBzH JkxlmfrMnir BNqkIctukgxx iJfVUbFIHX JTHNbOVTaky vxOiwrEChqn bNxBHagaqEO CORFIrNNSFOt vzEgznXEssj oYxoPgaxLyr FKZRgvNAdSD tLGPHlPTbLh SPNrKOTsJx kxkDLaIWudH XXpKHmlDJNC CAdbstcvyptD gxQwHoCHhEn BTxfluXRQLWq BusqibTxaBEY BTXZvjqSkdzK BFMELgbhswzk YJZFBhwQgel ByBoEBEvpSrQ CLxqwWXpMOrH illpnqsGUCy dlIkChXpXZF BVSeaxjBKKQs CNHMUyuzKNqI BXJCfZRHWdIK BGYJYbSzlpbc CDLDZxUtAVsa BRVHfhDRwOXv BxGEdRAwAfma MSvZHmdpnxT COBRzNByKvWm CJnCqplybQUn BqrIIMHmtCre BjYJxnnGCpwr CFxNalejKBVm BqOHTbGARNhC BhVrZXSDAyUz iEpmZGZDruC BRScnaNgRGjC SvhScECgZfR BpmnwsNtnRmd BXoDEMWARgjT zLaPWDFStNg BEOuoCLboymv pjiERXbzQqK ZGHoLwFfAPe BixvWAztnTLN geRVUIZQupM mPpUTdwrugv BDudJWCYgUAI BCZjJqdIfXPi HuNUebFMCUC CERewUPehdS CNBlwXimCfDy vcZZEQuTpke BMAGRZrztYmU BJbiQlBvbWOf kzqiJypLPXy ilnrNUzgtHy ISXiLgypthq CETeHBsVvPkK CGFbnpHsaCxK XLNboKzkbQw CKCvhDUZjUvc BcKwJnIBtPWt BMTcoqUIsWfA BzcGIRDcGLAF BYpWsmlvqOQk CRFuympRvKyo CUrdDKoiFUWC BQmZaOYEpoyn CENhRWqMPOSj EFBvdaRzcUq CIRKCSChDKqz cPeqRhuJADT ZmEarlSdnQm LyJBUbXNBfd ZdPupMmdHQc TYhWGIqrrBN BIIHmPBeQQqn BsJgXltCFUrM XwaHKtVTUMX GclKWaeWbLy BkvudtjGDbfS BLGcjJzovPXC CFYFohNeuqza CHfGyseyofX CSaYaiBOEJzO avyVdMATgDY kkQzDxhUFvS BHwiikDGKNiJ BWkMYQECNRBZ BYOnkSkEAbzn CKpbvdxUPhpX COiIsEyCTQyF QBOjNDNLurv LksISlePDaf MZUkMzaJHkV COzfYKCPbymh CGsrqhuthkXr BFmzjLdFoxXl iiYOLJkmpCr TsqYdIANcHe iESmbMmaVRf BxGCpVQtCqVm rBlRXMRbkvy NrYOPuGDCIS XffcYWNHBoQ xlOnRpDtIzQ ZsIUnXFPUHQ BBXVYIRwGqpu BkbsUXzcGHwg BnnyZkScexKe iUfXrxdpINk JtCYLcsuLYM wDwchKblGQe CEbvTztOqbbV kiJLmEEKXNP eisFYVHjRop BBdAQroxlzMc BpWSMVWKlQCf CSKxlCAtRgSB XfWyVKIlJkO RZkNgwuzPen LnLndKAFiAz aGtEJtTfGwd bBbaKOfqYUX BVHeAKmbAwJp BIHkfkLPEhss BKJQQzEnEDNg BTyQebVGlMHX CVWXUSjmvtdQ BhLMbYjsTjVf BqkATJZdHehR CDrjRvUlNHZz nxaDCxIQUuE BvUkWQJnSzbF CBKCjqCtREKz BXGUkcfJUmZY BoBiEuRmtKUk BzijOzKvlcXF CVYyCwwXrubQ BNVEwKloZepX KhyRtIwdOXJ CGAvUxmcYjQH CMldOvHKyxNr CUkWgtgZVxpq BmZyvajibcqO BlmCkWiBwdao fAsnVKwMhNb UhmEQRNSijn QZhMBvZLGSM BoXFtXvUPnYB CTUQUSKKPaBE BIMQxvZMuzov tUmjpiUGPYG BYlbmojgCLDQ BVVrRrLgQmQt iOnVHDhGWtm CFEIXertblGF BKGrhZlhZFTt BmgVIdvkjzBd CWHyTvxZraSB CDTAZAaeTGFw BHhVfIloLsev SyZppcsfMTA vlfRORhykvU BRdikxfzXVVZ EaTjmcfsxPv BbfCdeTqlbQP
theorem ZA {α β : Bl!} {as : S!} (f : α -> β) : o? as.map f = as.length := List.length_map f
theorem ZB {α : Bl!} {a : α} {as : S!} (bs : S!) (h : a ∈ as) : a ∈ as ++ bs := List.mem_append_left bs h
theorem ZC {α : Bl!} {b : α} {bs : S!} (as : S!) (h : b ∈ bs) : b ∈ as ++ bs := List.mem_append_right as h
theorem ZD {α : Bl!} (y : α) {a : α} {l : S!} (h : a ∈ l) : a ∈ y :: l := List.mem_cons_of_mem y h
theorem ZE {α : Bl!} {as bs : S!} : By! (as ++ bs) = as.length + bs.length := List.length_append
theorem ZF {α β : Bl!} {f : α -> β} {as bs : S!} : (as ++ bs).map f = as.map f ++ bs.map f := List.map_append
theorem ZG (n : Nat) : n <= n := Nat.le_refl n
theorem ZH {α β : Bl!} {f : α -> β} {as : S!} {i : Nat} : (as.map f)[i]? = as[i]?.map f := List.getElem?_map
theorem ZI {α : Bl!} {a : α} {s t : S!} : a ∈ s ++ t -> a ∈ s \/ a ∈ t := DB.mp
theorem ZJ {α : Bl!} {l : S!} {i : Nat} {a : α} : l[i]? = B! a -> ∃ h : i < l.length, l[i] = a := List.getElem?_eq_some_iff.mp
theorem ZK {α : Bl!} {a b : α} : a ∈ [b] -> a = b := CC.mp
theorem ZL {α : Bl!} {a : α} {l : S!} : a ∈ a :: l := List.mem_cons_self
theorem ZM {α : Bl!} {a b : α} {l : S!} : a ∈ b :: l -> a = b \/ a ∈ l := CM.mp
theorem ZN {α β : Bl!} {b : β} {f : α -> β} {l : S!} : b ∈ l.map f -> ∃ a, a ∈ l /\ f a = b := AG.mp
theorem ZO {α : Bl!} {a b : α} : B! a = B! b -> a = b := Option.some.inj
theorem ZP {α : Bl!} {l : S!} {i : Nat} {a : α} : l[i]? = B! a -> a ∈ l := List.mem_of_getElem?
set_option autoImplicit true
set_option Elab.async false
set_option maxRecDepth 100000
set_option maxHeartbeats 4000000
set_option linter.all false
universe N L2
open PySem PySem.Spec PyProof.Rows
abbrev Key:=Sum Int Str
def Rz:Key->Value->Bool
 | .inl k,v=>Value.isInt k v
 | .inr x,v=>Value.isStrOf x v
def Jkw(w:World):Key->Int
 | .inl k=>hashInt k
 | .inr x=>hashStr w x
theorem Cs:∀{k:Key} {v:Value},Rz k v=true->(∃i t,k=Sum.inl i/\v=Value.int i t)\/(∃x t,k=Sum.inr x/\v=Value.str x t)
 | .inl i,v,h=>by obtain⟨t,e⟩:=Value.isInt_shape (k:=i) (v:=v) h;exact H! (Fg! i t e)
 | .inr x,v,h=>by obtain⟨t,e⟩:=Value.isStrOf_shape (x:=x) (v:=v) h;exact N! (Fg! x t e)
theorem Jb0(i:Int)(t:Tok):Rz (P? i) Rp!=true:=by simp[Rz,Value.isInt]
theorem Jbz(x:Str)(t:Tok):Rz (y! x) (re x t)=true:=by simp[Rz,Value.isStrOf]
theorem Jjc(a b:Int):Kq! (C9! a) Sum.inl b=(a==b):=Ih!
theorem Ji9(a b:Str):g1! (Sum.inr a:Key) Sum.inr b (a=b):=Ih!
theorem Jjb(a:Int)(b:Str):i? (Kq! (C9! a) Sum.inr b):=Nl! (λq=>nomatch q)
theorem Jja(a:Str)(b:Int):i? (Kq! (Sum.inr a:Key) Sum.inl b):=Nl! (λq=>nomatch q)
def Bq(prog:Program)(w:World):PySem.KeyKind prog w Key where
 is:=Rz
 hash:=Jkw w
 inj:=λv a b ha hb=>by
  rcases Cs ha with⟨i,t,rfl,rfl⟩|⟨x,t,rfl,rfl⟩
  .rcases Cs hb with⟨j,u,rfl,e⟩|⟨y,u,rfl,e⟩
   .injection e with e1 _;rw[e1]
   .exact UC!
  .rcases Cs hb with⟨j,u,rfl,e⟩|⟨y,u,rfl,e⟩
   .exact UC!
   .injection e with e1 _;rw[e1]
 byValue:=λk v h=>by
  rcases Cs h with⟨i,t,rfl,rfl⟩|⟨x,t,rfl,rfl⟩<;>rfl
 pyHash:=λhv h=>by
  rcases Cs hv with⟨i,t,rfl,rfl⟩|⟨x,t,rfl,rfl⟩
  .exact wpAny_pyHash_int h
  .exact wpAny_pyHash_str h
 eqBool:=λhu hv h=>by
  rcases Cs hu with⟨i,t,rfl,rfl⟩|⟨x,t,rfl,rfl⟩
  .rcases Cs hv with⟨j,u,rfl,rfl⟩|⟨y,u,rfl,rfl⟩
   .rw[Jjc] at h;exact wpAny_eqBool_int h
   .rw[Jjb] at h;exact SeqAt.EqAt.int_str i t y u _ _ _ _ h
  .rcases Cs hv with⟨j,u,rfl,rfl⟩|⟨y,u,rfl,rfl⟩
   .rw[Jja] at h;exact SeqAt.EqAt.str_int x t j u _ _ _ _ h
   .rw[Ji9] at h;exact wpAny_eqBool_str h
 «strs»:=λk x t v h=>by
  rcases Cs h with⟨i,u,rfl,e⟩|⟨y,u,rfl,e⟩
  .exact UC!
  .injection e with e1 _
   subst e1
   cases v<;>rfl
theorem Xh(prog:Program)(w:World)(i:Int)(t:Tok):(Bq prog w).is (P? i) Rp!=true:=Jb0 i t
theorem Xg(prog:Program)(w:World)(x:Str)(t:Tok):(Bq prog w).is (y! x) (re x t)=true:=Jbz x t
inductive V where
 | FC|bl (b:Bool)|int (i:Int)|str (x:Str)|au (b:Array UInt8)|qY (b:UInt64)|ref (a:Addr)|ty (n:String)
 deriving DecidableEq
def RelV:wE V Value
 | .FC,u=>u=Value.none
 | .bl b,u=>u=Value.bool b
 | .int i,u=>R1!
 | .str x,u=>mv!
 | .au b,u=>g2! Value.bytes
 | .qY b,u=>g2! Value.float
 | .ref a,u=>CW!
 | .ty n,u=>u=Value.type n
abbrev Vals:wE E! Z!:=Ky! RelV
theorem Vals.length(r:FI!):xs.length=us.length:=L? r
theorem Vals.get{xs:E!}{us:Z!}{i:Nat}{x:V}(p:FI!):IK!->∃u,us[i]?=B! u/\JF!:=by induction p generalizing i with | nil=>intro e;simp at e | cons r _ ih =>intro e;cases i with | zero=>cases e;exact t? r | succ i=>exact ih e
theorem Vals.append{xs ys:E!}{us ws:Z!}(p:FI!)(q:Vals ys ws):Vals (xs++ys) (us++ws):=by induction p with | nil=>exact q | cons h _ ih=>exact q! h ih
def PX:wE SB fG!
 | some v,some u=>Ch!
 | none,none=>True
 | _,_=>False
def KV{κ:Type}:wE AK! ek!:=Ky! (λ(p:κ×V)(q:κ×Value)=>p.1=q.1/\RelV p.2 q.2)
def kV:Key->V
 | .inl i=>R! i
 | .inr x=>re x
inductive HO where
 | BF (xs:E!)
 | BG (xs:E!)
 | dK (kvs:bi)|dT (kvs:o0)
 | set (S:GN! Int) (n:Nat)
 | ins (C dx:Addr) (fs:Bc!)
 | own (x:Addr)
 | xd (fs:Bc!)
 | met (f x:Addr)
 | p8 (lo hi:Int)
 | GB (o:Obj) (u:HO)
 | eS (ps:E1!)
 | ext (φ:Heap->Prop)
abbrev Hp:=Addr->FW! HO
def upd(H:Hp)(a:Addr)(o:HO):Hp:=λb=>sB (b=a) (B! o) (H b)
theorem Ab{H:Hp}{a:Addr}{o:HO}:upd H a o a=B! o:=by unfold upd;rw[e?]
theorem Ac(h:b≠a):upd H a o b=H b:=by unfold upd;rw[BC!]
theorem Sx:upd JR! a u=upd H a u:=by funext b;unfold upd;split<;>rfl
theorem Fl{H:Hp}{a b:Addr}{o u:HO}(h:Xg!)(h':rK!)(d:o≠u):a≠b:=by intro e;subst e;rw[h] at h';exact d (ZO h')
theorem Aj{H:Hp}{a b:Addr}{o:HO}(h:Xg!)(h':s?):a≠b:=by intro e;subst e;rw[h] at h';cases h'
universe S
variable (P:Program)(w:World)
def DT(H:Hp)(h:Heap)(a:Addr):HO->Prop
 | .BF xs=>Dg!/\∃(its:Z!)(n:Nat),RP!/\Ft! (ON! (Ee! ci) (Lx! its.toArray))
 | .BG xs=>Dg!/\∃its:Z!,RP!/\IsTup h a its.toArray
 | .dK kvs=>jU! (∃vs,B7!/\h.DictOf Ki! a vs)
 | .dT kvs=>jU! (∃xs:G2!,
  DU! (λ(p:List Key×V)(q:List Key×Addr×Value)=>p.1=q.1/\NK! D? bi! kV/\RelV p.2 GE) kvs xs /\
  ∃o es ep,gg!/\o.ExactDict/\Ic!/\es.toList=xs.map (entryOfKey (tupleKind Ki!))/\y? xs.map)
 | .set S n=>h.SetOf (intKind P w) a S n
 | .ins C dx fs=>PT! dx a/\fs.length<=1000/\dx≠a/\Ft! (kZ! dx) /\
  ∃mA,h.Ns1 dx mA/\(∀f,PX (fs.lookup f) (mA f))/\PySem.Within mA (HA! fs.map)
 | .own _=>∃o,gg!
 | .xd fs=>∃mA,h.Ns1 a mA/\∀f,PX (fs.lookup f) (mA f)
 | .p8 lo hi=>∃t u v,Ft! SU!
 | .GB o u=>gg!/\DT H h a u
 | .eS ps=>Ft! (ON! KF (Nt! ps))
 | .met f x=>Ft! (W.methodObj EB! PF!)
 | .ext φ=>φ h/\(∃o,gg!)/\∀h1 h2:Heap,φ h1->(∀o,bZ! h1.get?->bZ! h2.get?)->φ h2
def MW(H:Hp)(h:Heap):Prop:=∀a o,Xg!->G5! o
universe E
universe S
variable {P:Program}{w:World}{H H':Hp}{h h':Heap}{a:Addr}{o:HO}
theorem DT.lt(x:G5! o):a<h.objs.size:=by cases o with | BF xs=>obtain⟨_,_,_,_,e⟩:=x;exact Be! | BG xs=>obtain⟨_,_,_,p⟩:=x;exact p.lt | dK kvs=>obtain⟨_,_,_,_,o,_,_,e,_⟩:=x;exact Be! | dT kvs=>obtain⟨_,_,_,_,o,_,_,e,_⟩:=x;exact Be! | set S n=>obtain⟨o,_,_,_,e,_⟩:=x;exact Be! | ins C dx fs=>obtain⟨_,_,_,e,_⟩:=x;exact Be! | own y=>obtain⟨_,e⟩:=x;exact Be! | xd fs=>obtain⟨_,⟨_,_,_,e,_⟩,_⟩:=x;exact Be! | p8 lo hi=>obtain⟨_,_,_,e⟩:=x;exact Be! | GB ob u=>obtain⟨e,_⟩:=x;exact Be! | eS ps=>exact AV (lq!) | met f y=>exact AV (lq!) | ext φ=>obtain⟨_,⟨_,e⟩,_⟩:=x;exact Be!
theorem Jko{R:IX!}{S:wE γ δ}{f:α->γ}{g:β->δ}(h:jR! (S (f a) (g b))){xs:S!}{ys:BA!}(p:G4!):H8! S (xs.map f) ys.map g:=by induction p with | nil=>exact O! | cons r _ ih=>exact Jd! (v! h r)
theorem Jhz{R:IX!}{S:wE α δ}{g:β->δ}(h:jR! (S a (g b))){xs:S!}{ys:BA!}(p:G4!):H8! S xs ys.map g:=by induction p with | nil=>exact O! | cons r _ ih=>exact Jd! (v! h r)
theorem vK{R:IX!}{f:α->γ}{g:β->γ}(h:jR! (g b=f a)){xs:S!}{ys:BA!}(p:G4!):ys.map g=xs.map f:=by induction p with | nil=>rfl | cons r _ ih=>rw[AI,AI,ih,F! h r]
theorem Qx{R:IX!}{as cs:S!}{bs ds:BA!}(p:me!)(q:HK! cs ds):Paired R (as++cs) (bs++ds):=by induction p with | nil=>exact q | cons h _ ih=>exact q! h ih
theorem Jiu{R:IX!}{xs:S!}{ys:BA!}(p:G4!):∀j,H8! R (xs.eraseIdx j) ys.eraseIdx j:=by induction p with | nil=>exact λ_=>O! | cons r t ih =>intro j;cases j with | zero=>exact t | succ j=>exact q! r (ih j)
theorem Jn6{F G:IX!}{WO:S!}{l₂:BA!}(p:CI! F WO l₂)(f:∀a b,F a b->G a b):CI! G WO l₂:=by induction p with | nil=>exact O! | cons r _ ih=>exact Jd! (v! f r)
theorem DT.NY(x:G5! o)(k:hS! (b=a\/HL! CA! a) sC!)(ho:∀b,HL! CA! a->NW! (CA! a))(ht:∀b xs,jN! XK! xs):DT P w H' h' a o:=by induction o with | BF xs=>obtain⟨z,its,n,r,e⟩:=x;exact⟨z,its,n,r,ES!⟩ | BG xs=>obtain⟨z,its,r,ob,e,c⟩:=x;exact⟨z,its,r,ob,ES!,c⟩ | dK kvs=>obtain⟨z,y,vs,r,ob,es,ep,e,c⟩:=x;exact⟨z,y,vs,r,ob,es,ep,ES!,c⟩ | dT kvs =>obtain⟨z,y,xs,r,ob,es,ep,e,c⟩:=x;exact⟨z,y,xs,Jn6 r λp q z=>⟨z.1,F! ht z.2.1,z.2.2⟩,ob,es,ep,ES!,c⟩ | set S n=>obtain⟨ob,es,ep,t,e,c⟩:=x;exact⟨ob,es,ep,t,ES!,c⟩ | ins C dx fs =>obtain⟨d,z,ne,e,mA,⟨od,es,ep,e2,c⟩,r⟩:=x;exact⟨ho _ d,z,ne,ES!,mA,⟨od,es,ep,Pr! d e2,c⟩,r⟩ | own y=>obtain⟨ob,e⟩:=x;exact⟨ob,ES!⟩ | xd fs=>obtain⟨mA,⟨od,es,ep,e,c⟩,r⟩:=x;exact⟨mA,⟨od,es,ep,ES!,c⟩,r⟩ | p8 lo hi=>obtain⟨t,u,v,e⟩:=x;exact⟨t,u,v,ES!⟩ | GB ob u ih=>obtain⟨e,q⟩:=x;exact⟨ES!,ih q⟩ | eS ps =>have e:Ft! (ON! KF (Nt! ps)):=x;show WA! (ON! KF (Nt! ps));exact k a _ Bv! e | met f y =>have e:Ft! (W.methodObj EB! LN!):=x;show WA! (W.methodObj EB! LN!);exact k a _ Bv! e | ext φ=>obtain⟨p,⟨o,e⟩,st⟩:=x;exact⟨h! st p (λo q=>h! k Bv! q),DJ! ES!,st⟩
theorem MW.lt(x:Cl!)(e:Xg!):a<h.objs.size:=(x a o e).lt
theorem MW.fresh(x:Cl!)(e:h.objs.size<=a):LU!:=by cases q:H a with | none=>rfl | some u=>exact Jn! (B_ (x.lt q) e)
theorem MW.kept(x:Cl!)(k:i9!):MW P w H h':=λa o e =>(x a o e).NY (λb u _ q=>k b u q) (λ_ q=>q) OQ!
theorem MW.laid(x:Cl!)(k:i9!)(hp:h.objs.size<=a)(new:DT P w JR! h' a o):MW P w JR! h':=λb u e=>by have hn:=x.fresh hp;by_cases hb:b=a;(.subst hb;rw[Ab] at e;cases e;exact new);.rw[DE!] at e;exact(x b u e).NY (λc v _ q=>k c v q) (λc q=>kf!) λc xs q=>kf!
universe E
def Rd(H:Hp)(a:Addr)(u:HO):Prop:=HC! H u\/∃o,HC! H Ge!
theorem Rd.ok(r:Rd H a u)(x:Cl!):G5! u:=by
 rcases r with r|⟨o,r⟩;.exact x a u r
 .obtain⟨_,q⟩:=x a _ r;exact q
def nD:FW! HO->Prop
 | some (.BF _)=>True
 | some (.dK _)=>True
 | some (.dT _)=>True
 | some (.set _ _)=>True
 | some (.ins _ _ _)=>True
 | some (.ext _)=>True
 | _=>False
universe S
variable {P:Program}{w:World}{H:Hp}{h h':Heap}{x e:Addr}{o':HO}
theorem MW.write(ok:Cl!)(mu:nD (H x))(he:e=x\/PT! e x)(k:hS! (b≠e) sC!)(kF:∃u,H3! e u)(new:DT P w (upd H x o') h' x o'):MW P w (upd H x o') h':=λb u q=>by (have oH:∀c y,PT! c y->c≠x:=λc y r z=>cT! r mu);(have wH:∀c xs,KT! c xs->c≠x:=λc xs r z=>cT! r mu);by_cases hb:b=x;(.subst hb;rw[Ab] at q;cases q;exact new);.rw[DE!] at q;by_cases iu:b=e;(·(have q':HL! CA! x:=by rcases he with z|z;(.exact HO! iu.trans z hb);.rw[iu];exact z);rw[q] at q';cases q';obtain⟨v,hv⟩:=kF;exact HS! v iu hv);·(refine(ok b u q).NY (λc v hc r=>k c v ?_ r) (λc r=>G! (Ac (oH c b r)) r) λc xs r=>G! (Ac (wH c xs r)) r);rcases hc with rfl|hc;(.exact iu);.rintro rfl;rcases he with z|z;(.exact oH c b hc z);.rw[hc] at z;cases z;exact hb rfl
universe E
structure Un(fs ex:J!)(H H':Hp)(h h':Heap):Prop where
 keep:cr (DK!->s?->b∉fs->b∉ex->bW!)
 slot:cr (DK!->s?->b∈fs->b∉ex->ZA!)
 free:cr (DK!->s?->b∉ex->rW!)
 there:fh! (b∉ex) (∃o',Bo! h'.get? o')
 PM:∀b xs,jN! XK! xs
 NJ:∀b o u,Bo! H Ge!->NW! Ge!
 PN:∀b ps,HL! .eS ps->∃more,NW! (.eS (ps++more))
universe S
variable {fs eD ex ex':List Addr}{H H1 H2:Hp}{h h1 h2 h':Heap}{a x e:Addr}{o:HO}
theorem Un.any(u:Z8! H1 h1)(q:It! h.get?)(n:s?)(hx:b∉ex):∃sl,Bo! h1.get? { ob with slots:=sl }:=by
 by_cases hb:b∈fs;.exact u.slot b ob q n hb hx
 .exact⟨ob.slots,u.keep b ob q n hb hx⟩
theorem Un.kept(k:i9!):Z8! H h' :=⟨λb ob q _ _ _=>k b ob q,λb ob q _ _ _=>⟨ob.slots,k b ob q⟩,λ_ _ _ n _=>n,λb ob q _=>⟨ob,k b ob q⟩,OQ!,λ_ _ _ q=>q,λ_ ps q=>⟨#[],dL!⟩⟩
theorem Un.refl:Z8! H h:=Un.kept OQ!
theorem Un.laid(k:i9!)(hp:h.objs.size<=a)(hn:LU!):Z8! JR! h' where
 keep:=λb u q _ _ _=>k b u q
 slot:=λb u q _ _ _=>⟨u.slots,k b u q⟩
 free:=λb u q n _=>G! (Ac (BQ (B_ (AV q) hp))) n
 there:=λb u q _=>⟨u,k b u q⟩
 PM:=λb xs q=>kf!
 NJ:=λb u xs q=>kf!
 PN:=λb ps q=>⟨#[],by rw[Ac (Aj q hn),q];simp⟩
theorem Un.write(mu:nD (H x))(he:e=x\/PT! e x)(k:hS! (b≠e) sC!)(kF:∃u,H3! e u):Z8! (TF! x) h':=by
 have hx:∀b,s?->b≠x:=λb n z=>cT! n mu
 have hb:∀b,s?->b≠e:=λb n z=>by subst z;rcases he with r|r;(.exact hx b n r);.rw[n] at r;cases r
 have hm:∀b u,rK!->¬nD (some u)->b≠x:=λb u q nm z=>cT! q (nm mu)
 refine⟨λb u q n _ _=>k b u (hb b n) q,λb u q n _ _=>⟨u.slots,k b u (hb b n) q⟩,λb u q n _=>i! (hx b n) n,λb u q _=>?_,λb xs q=>TV! (hm b _ q OR!) q,λb u xs q=>TV! (hm b _ q OR!) q,λb ps q=>⟨#[],by rw[Ac (hm b _ q OR!),q];simp⟩⟩;by_cases iu:b=e;.subst iu;exact kF
 .exact⟨u,k b u iu q⟩
universe E
def pY(h:Heap)(H:Hp):J!:=(List.range h.objs.size).filter λa=>(H a).isSome
def Vb(h:Heap)(H:Hp):Heap:=W.hideAll h (pY h H)
theorem Jb7(h:Heap)(H:Hp):(Vb h H).objs.size=h.objs.size:=W.hideAll_size _ _
theorem Jex(e:DK!)(n:s?):AB! (Vb h H).get? :=W.hideAll_get _ e λhm=>by have q:(H b).isSome=true:=OB! hm;rw[n] at q;simp at q
theorem Jgz(e:AB! (Vb h H).get?):DK!/\s?:=by have e':DK!:=W.of_hideAll (pY h H) e;refine d? e';cases q:H b with | none=>rfl | some x =>have hm:b∈pY h H:=CV! (BI.mpr (AV e')) (by simp[q]);have z:C7! (Vb h H).get?:=W.hideAll_none (pY h H) hm;rw[z] at e;cases e
def Jhp(g h:Heap)(L:Addr):w!:=(List.range h.objs.size).filterMap λa=>if a=L\/(g.get? a).isSome=true then none else Bw! h.get? a (λo=>(a,o))
def rest(g h:Heap)(L d:Addr):w!:=(Jhp g h L).filter λp=>a? (p.1≠d)
structure Mod(K:W.Frag)(mg:k?)(base:Heap):Prop where
 cN:K.In base
 glob:OH! base.Ns
 blt:∃mb,base.Ns builtinsNs mb/\∀x:Str,Uk!->mb x=bootBuiltins x
 nolimit:base.NoLimit
structure Cx(K:W.Frag) where
 prog:Program
 w:World
 mg:k?
 base:Heap
 A:Around
 N:X?
 HI:Shared
 TB:Hp
 env:Env
 outer:Ba!
 stack:Ba!
 ex:J!
 fn:GN! Str
 calm:Bool
 pn:w!
 xe:g?
def OZ(l:Ba!):J!:=l.filterMap (·.frame)
abbrev Cx.fs(X:I!):J!:=OZ X.outer
def uy(sc:Scope)(x:Str):Prop:=QW!\/iv!\/fT! sc.names.lookup
def Loc(sc:Scope)(x:Str):Prop:=QW!\/iv!
def Look(env:Env)(h:Heap)(m:k?)(x:Str)(u:Value):Prop :=
 (rE! env.kindOf/\Eg! m u)\/((Eg! env.kindOf KM\/fT! env.kindOf)/\∃c,TE! env.cells.lookup/\h.IsCell c (some u))
structure Cx.Ok(X:I!):Prop where
 mod:Mod Kx X.mg X.base
 kind:X.env.scope.kind=.function
 glob:X.env.globals=mainGlobals
 blt:X.env.builtins=builtinsNs
 above:X.HI.heap.objs.size<=X.env.locals
 inj:∀x y c,tA!->HF! X.env.cells.lookup c->x=y
 has:∀x,(Eg! X.env.kindOf KM\/fT! X.env.kindOf)->∃c,tA!
 kT:∀x c,Ix X.fn x->tA!->X.HI.heap.objs.size<=c
 hd:BI!->X.A.handled=none
 frames:X.A.frames=B! X.stack
 lH:X.stack=X.outer\/(X.stack=X.env::X.outer/\X.env.frame=B! X.env.locals)
 eF:∀b∈X.ex,J7!/\XB!
 bs:iy! (AB! X.HI.heap.get?/\C7! X.TB)
 eO:X.base.objs.size<=X.HI.heap.objs.size
 bV:iy! (b∉X.ex)
 bc:∀b∈X.ex,b∉X.fs
 OQ:X.HI.heap.FunFrames X.base X.outer
 gn:∀b∈X.fs,C7! X.TB
structure Inv(X:I!)(AA:w!)(σ:List (Option V))(H:Hp)(s:Shared):Prop where
 ok:X.Ok
 os:s.os=X.HI.os
 bare:AllBare s.gens
 base:Un X.fs X.ex X.TB H X.HI.heap s.heap
 loc:∃m,s.heap.Ns X.env.locals m/\∀(i:Nat)(x:Str)(v:V),Lr!->ms! (σ[i]?)->sN! uy->∃u,Ch!/\Look X.env s.heap m x u
 cell:Nu! (∃v,s.heap.IsCell c v)
 free:p? X.env.locals
 KD:Nu! (p? c)
 pin:Id! (LL! p.1 p.2/\p? p.1/\p.1≠X.env.locals/\p.1∉X.fs/\∀v,p.2.data≠KM v)
 DM:MW X.prog X.w H s.heap
 len:σ.length=X.N.length
universe S
variable {X:Cx Kx}{AA:List (Addr×Obj)}{σ:List (Option V)}{H H':Hp}{s:Shared}{h':Heap}
theorem Cx.Ok.wJ(ok:X.Ok){b:Addr}{o:Obj}(e:AB! X.base.get?):b∉X.fs:=λhb=>dO! (ok.OQ.mem hb).1 e
theorem Inv.bs(I:K!):iy! (Dw!/\s?):=λb o e =>⟨I.base.keep b o (Uf! I.ok.bs) (I.ok.bs b o e).2 (I.ok.wJ e) (D1! I.ok.bV),I.base.free b o (Uf! I.ok.bs) (I.ok.bs b o e).2 (D1! I.ok.bV)⟩
theorem Inv.bk(I:K!):iy! Dw!:=AQ! (Uf! I.bs)
theorem Inv.mod{X:I!}(I:K!):Mod Kx X.mg X.base:=I.ok.mod
theorem Inv.YQ{X:I!}(I:K!):Kx.In s.heap:=I.ok.mod.cN.keeps I.bk
theorem Inv.lt(I:K!):X.env.locals<s.heap.objs.size:=let⟨_,hn,_⟩:=I.loc;hn.lt
theorem Inv.sz(I:K!):X.HI.heap.objs.size<=s.heap.objs.size:=AR I.ok.above (DJ I.lt)
theorem Inv.wI(I:K!)(h:UE!):a∉X.fs:=λhb=>by obtain⟨_,o,ho,_⟩:=I.ok.OQ.mem hb;exact Jn! (B_ (AV ho) (AR I.sz h))
theorem Inv.i8(I:K!):Nu! (c≠X.env.locals):=λx c e z=>by obtain⟨v,o,ho,hd⟩:=Yk!;obtain⟨m,⟨o',es,ep,fF,XD,_⟩,_⟩:=I.loc;rw[z,fF] at ho;cases ho;rw[XD] at hd;cases hd
theorem Inv.OQ(I:K!):s.heap.FunFrames X.base X.outer:=by
 have all:∀(l:Ba!),(∀b∈OZ l,b∈X.fs)->X.HI.heap.FunFrames X.base l->s.heap.FunFrames X.base l:=by intro l;induction l with | nil=>intro _ _;trivial | cons env r ih =>intro hs hl;obtain⟨hk,⟨L,o,hf,hn,ho,hd⟩,hr⟩:=hl;have hL:L∈X.fs:=hs L (by unfold OZ;rw[GA,hf];exact ZL);obtain⟨sl,e⟩:=I.base.slot L o ho (I.ok.gn L hL) hL λz=>I.ok.bc L z hL;exact⟨hk,⟨L,_,hf,hn,e,hd⟩,ih (Q? (hs b (by unfold OZ;rw[GA,hf];exact ZD _ hb))) hr⟩
 exact all X.outer (λ_ hb=>hb) I.ok.OQ
theorem Inv.stack(I:K!):s.heap.FunFrames X.base X.stack:=by
 rcases I.ok.lH with e|⟨e,hf⟩;.rw[e];exact I.OQ
 .rw[e];obtain⟨m,hn,_⟩:=I.loc;refine q! (by rw[I.ok.kind];decide) hf hn ?_ I.OQ;exact Heap.get?_none_of_le (AR I.ok.eO I.ok.above)
theorem Inv.WR(I:K!):∀b∈OZ X.stack,b∈X.env.locals::X.fs:=Q? (by rcases I.ok.lH with e|⟨e,hf⟩;(.rw[e] at hb;exact ZD _ hb);.rw[e] at hb;unfold OZ at hb;rw[GA,hf] at hb;exact hb)
theorem Inv.WU(I:K!):∀b∈OZ X.stack,s?:=Q? (by rcases ZM (I.WR b hb) with e|hb;(.rw[e];exact I.free);.obtain⟨_,o,ho,_⟩:=I.ok.OQ.mem hb;exact I.base.free b o ho (I.ok.gn b hb) λz=>I.ok.bc b z hb)
theorem Inv.step{g':Array GenState}{t':Nat}{d':Drawn}{ch:J!}(I:K!)(eC:∀b∈ch,mN!/\J7!/\(XB!)/\Id! (p.1≠b))(keep:cr (J7!->b∉X.fs->b∉ch->Dw!->s?->bW!))(slot:cr (J7!->b∈X.fs->b∉ch->Dw!->s?->ZA!))(free:cr (b∉ch->Dw!->s?->rW!))(there:cr (b∉ch->Dw!->∃o',Bo! h'.get? o'))(PM:∀b xs,jN! XK! xs)(NJ:∀b o u,Bo! H Ge!->NW! Ge!)(PN:∀b ps,HL! .eS ps->∃more,NW! (.eS (ps++more)))(ns:∀m,s.heap.Ns X.env.locals m->h'.Ns X.env.locals m)(DM:oa! h')(hg:AllBare g') : bE! { s with heap:=h',gens:=g',drawn:=d',toks:=t' }:=by
 have yo:cr (AB! X.HI.heap.get?->J7!):=AQ! (BQ (B_ (AV e) I.ok.above));have qG:cr (AB! X.HI.heap.get?->b∉X.ex->b∉ch):=λb o e hx hb=>by rcases(eC b hb).1 with z|z;(.exact hx z);.exact Jn! (B_ (AV e) z)
 have cellK:Nu! (∀v,s.heap.IsCell c v->h'.IsCell c v):=λx c e v ⟨o,ho,hd⟩=>by have lY:c∉ch:=λz=>(eC c z).2.2.1 x c e rfl;by_cases hc:c∈X.fs;(.obtain⟨sl,q⟩:=slot c o (I.i8 x c e) hc lY ho (I.KD x c e);exact Az! q hd);.exact BT! (keep c o (I.i8 x c e) hc lY ho (I.KD x c e)) hd
 refine⟨I.ok,I.os,hg,⟨Ol!,Ol!,λb o e n hx=>?_,λb o e hx=>?_,λb xs e=>PM b xs (I.base.PM b xs e),λb o xs e=>NJ b o xs (I.base.NJ b o xs e),λb ps e=>?_⟩,?_,λx c e=>?_,?_,λx c e=>?_,E4!,DM,I.len⟩;.exact keep b o (D1! yo) hb oO! (I.base.keep b o e n hb hx) (ox! o)
 .obtain⟨sl,e1⟩:=YR! I.base.slot;obtain⟨sl',e2⟩:=slot b _ (D1! yo) hb oO! e1 (ox! o);exact⟨sl',e2⟩
 .obtain⟨o',e1⟩:=ks!;exact free b o' oO! e1 (ox! o)
 .obtain⟨o',e1⟩:=ks!;exact there b o' oO! e1
 .obtain⟨m1,e1⟩:=I.base.PN b ps e;obtain⟨m2,e2⟩:=PN b _ e1;exact⟨m1++m2,R? e2 Array.append_assoc⟩
 .obtain⟨m,hn,hl⟩:=I.loc;refine⟨m,ns m hn,λi x v e1 e2 e3=>?_⟩;obtain⟨u,r,l⟩:=hl i x v e1 e2 e3;refine Go u r;rcases l with l|⟨k,c,e,z⟩;(.exact H! l);.exact QS! k c (cellK x c e _ z)
 .obtain⟨v,z⟩:=Yk!;exact⟨v,cellK x c e v z⟩
 .obtain⟨m,⟨o,_,_,ho,_⟩,_⟩:=I.loc;exact free _ o (λz=>(eC _ z).2.1 rfl) ho I.free
 .obtain⟨v,o,ho,hd⟩:=Yk!;exact free c o (λz=>(eC c z).2.2.1 x c e rfl) ho (I.KD x c e)
 .obtain⟨e,n,ne,nf,d⟩:=Xs!;have lY:p.1∉ch:=λz=>(eC p.1 z).2.2.2 p hp rfl;exact⟨keep p.1 p.2 ne nf lY e n,free p.1 p.2 lY e n,ne,nf,d⟩
theorem Inv.un(I:K!)(u:Un X.fs [] H H' s.heap h')(DM:oa! h'):bE! OT!:=by obtain⟨m,⟨o,es,ep,ho,r⟩,_⟩:=id I.loc;obtain⟨sl,hL⟩:=u.any ho I.free (B?);exact I.step (g':=s.gens) (d':=s.drawn) (ch:=[]) (λ_ z=>ce!) (λb o _ hb _ e n=>u.keep b o e n hb XV) (λb o _ hb _ e n=>u.slot b o e n hb XV) (λb o _ e n=>u.free b o e n (B?)) (λb o _ e=>BU! u.there XV) u.PM u.NJ u.PN (λm' hm=>by obtain⟨o',i4,i5,fF,r'⟩:=hm;rw[ho] at fF;cases fF;exact Aj! i4 i5 hL r') DM I.bare
theorem Inv.call(I:K!)(u:lS! X.stack ch h')(DM:oa! h')(hg:AllBare g')(eC:∀b∈ch,mN!/\J7!/\(XB!)/\Id! (p.1≠b)) : bE! { s with heap:=h',gens:=g',drawn:=d',toks:=t' }:=by obtain⟨m,⟨o,es,ep,ho,r⟩,_⟩:=id I.loc;obtain⟨sl,hL⟩:=u.any ho I.free λz=>(eC _ z).2.1 rfl;exact I.step (ch:=ch) eC (λb o hL hb hc e n=>u.keep b o e n (λz=>(ZM (I.WR b z)).elim hL hb) hc) (λb o _ _ hc e n=>u.any e n hc) (λb o hc e n=>u.free b o e n hc) (λb o hc e=>BU! u.there hc) u.PM u.NJ u.PN (λm' hm=>by obtain⟨o',i4,i5,fF,r'⟩:=hm;rw[ho] at fF;cases fF;exact Aj! i4 i5 hL r') DM hg
theorem Inv.turned{t':Nat}{it:Addr}(I:K!)(k:ia!)(hn:p? it)(hL:it≠X.env.locals)(h1:it∈X.ex\/X.HI.heap.objs.size<=it)(h2:Nu! (c≠it))(h3:Id! (p.1≠it)):FV! OT!:=by
 have ym:∀b u,rK!->b≠it:=λb u e z=>Ts! hn
 refine I.step (g':=s.gens) (d':=s.drawn) (ch:=[it]) (F9!) (λb o _ _ hc e _=>k b o (kN! hc) e) (λb o _ _ hc e _=>⟨o.slots,k b o (kN! hc) e⟩) (λ_ _ _ _ n=>n) (λb o hc e=>DJ! (k b o (kN! hc) e)) (UG!) (λ_ _ _ e=>e) (λb ps e=>⟨#[],BH! e⟩) (λm hm=>?_) (Ui!) I.bare;·(have e:b=it:=Cr!);subst e;exact⟨h1,hL,h2,h3⟩
 .obtain⟨o,es,ep,ho,r⟩:=hm;exact⟨o,es,ep,k _ o (Sy! hL) ho,r⟩
 .refine(I.DM b u e).NY (λc v hc q=>k c v ?_ q) (λ_ q=>q) OQ!;rcases hc with z|z;(.rw[z];exact ym b u e);.exact ym c _ z
theorem Inv.tok(I:K!)(t:Nat):FV! { s with toks:=t }:=I.un (h':=s.heap) (t':=t) Un.refl I.DM
theorem Inv.kept(I:K!)(k:sP! (Bo! s.heap.get? u)):FV! OT!:=I.un (Un.kept k) (I.DM.kept k)
theorem Inv.laid{a:Addr}{o:HO}{t':Nat}(I:K!)(k:sP! (Bo! s.heap.get? u))(hp:UE!)(new:WX! JR! a o) : AR! JR! OT!:=I.un (Un.laid k hp (I.DM.fresh hp)) (I.DM.laid k hp new)
theorem Inv.write{x e:Addr}{o:HO}{t':Nat}(I:K!)(mu:nD (H x))(he:e=x\/PT! e x)(k:hS! (b≠e) (Bo! s.heap.get? u))(kF:∃u,H3! e u)(new:WX! (TF! x) x o):AR! (TF! x) OT!:=I.un (Un.write mu he k kF) (I.DM.write mu he k kF new)
theorem Inv.bA(I:K!)(h:∀p∈dC,LL! p.1 p.2/\p? p.1/\p.1≠X.env.locals/\p.1∉X.fs/\∀v,p.2.data≠KM v):Inv X dC σ H s :=⟨I.ok,I.os,I.bare,I.base,I.loc,I.cell,I.free,I.KD,λp hp=>(ZI hp).elim (λz=>I.pin p (ZB _ z)) (h p),I.DM,I.len⟩
theorem Wy{N:X?}(hN:N.Nodup){i j:Nat}{x:Str}(a:N[i]?=B! x)(b:N[j]?=B! x):i=j:=by obtain⟨h1,e1⟩:=ZJ a;obtain⟨h2,e2⟩:=ZJ b;exact(JR hN).mp (e1.trans e2.symm)
theorem Rh{M:Model}{A:Around}{E:g?}{i:Nat}{x:Str}{v:V}{u:Value}{Q:I9!}(I:K!)(hN:X.N.Nodup)(hi:Lr!)(hx:i6!)(r:Ch!)(h:∀s',Inv X AA pF! H s'->(∃a,q6! a s.heap s'.heap/\(a=X.env.locals\/Eg! X.env.cells.lookup a))->Q () s')(hf:ln!:=by first|exact bn|exact EK!|assumption):Ri! (storeName X.env x u):=by
 obtain⟨m,hn,hl⟩:=id I.loc;have xH:AY! (X.env.scope.kind == .class || (X.env.scope.kind == .module&&X.env.locals != X.env.globals)):=EQ I.ok.kind
 have oW:i<σ.length:=Uo! I.len hi
 have i8:=I.i8;have tracked:∀{a:Addr} {h':Heap},(∃o,bZ! s.heap.get?/\LU!)->rb! a->MW X.prog X.w H h':=λ{a h'} ha hs b ob e=>by obtain⟨_,_,O_⟩:=ha;refine(I.DM b ob e).NY (λc w' hc q=>(hs.2 c ?_).trans q) (λ_ q=>q) OQ!;rintro rfl;rcases hc with rfl|hc;(.rw[O_] at e;cases e);.rw[O_] at hc;cases hc
 rcases hx with hk|hk;.refine wpAny_storeName_local hk hn (λh' hn' hs=>?_) xH;obtain⟨oL,_,_,hoL,_⟩:=id hn;refine h _ ⟨I.ok,I.os,I.bare,⟨Ol!,Ol!,I.base.free,λb o e hx=>?_,I.base.PM,I.base.NJ,I.base.PN⟩,Az! hn' (λj y v' e1 e2 e3=>?_),λy c e=>?_,I.free,I.KD,E4!,tracked ⟨oL,hoL,I.free⟩ hs,by simpa using I.len⟩ (Az! hs bn);(.exact(hs.2 b (BQ (B_ (AV e) I.ok.above))).trans (YR! I.base.keep));(.obtain⟨sl,e1⟩:=YR! I.base.slot;exact n9! sl I.ok.above);(.obtain⟨o',e1⟩:=ks!;exact n9! o' I.ok.above);(.by_cases hj:j=i;(.subst hj;rw[hi] at e1;cases e1;rw[EZ oW] at e2;cases e2;exact⟨u,r,Am! hk B?⟩);.rw[ES (Ne.symm hj)] at e2;obtain⟨u',r',q⟩:=hl j y v' e1 e2 e3;refine Go u' r';rcases q with⟨k,e⟩|⟨k,c,e,z⟩;(.refine H! (d? k);have:y≠x:=λe=>hj (Wy hN e1 (e▸hi));simp[this,e]);.exact QS! k c (z.sameBut hs (i8 y c e)));(.obtain⟨w',z⟩:=I.cell y c e;exact⟨w',z.sameBut hs (i8 y c e)⟩);.obtain⟨e,n,ne,nf,d⟩:=Xs!;exact⟨(hs.2 p.1 ne).trans e,n,ne,nf,d⟩
 ·(have uJ:Ix X.fn x:=by rcases hf with z|z;(.exact z);.rw[z] at hk;cases hk);obtain⟨c,hc⟩:=DV! I.ok.has x hk;obtain⟨w',z⟩:=I.cell x c hc;refine wpAny_storeName_cell I.ok.kind hk hc z (λh' uO hs=>?_);obtain⟨oc,j',xA⟩:=id z;refine h db ⟨I.ok,I.os,I.bare,⟨Ol!,Ol!,I.base.free,λb o e hx=>?_,I.base.PM,I.base.NJ,I.base.PN⟩,⟨m,hn.sameBut hs (Ne.symm (i8 x c hc)),λj y v' e1 e2 e3=>?_⟩,λy c' e=>?_,I.free,I.KD,E4!,tracked ⟨oc,j',I.KD x c hc⟩ hs,by simpa using I.len⟩ ⟨c,hs,N! hc⟩;(.exact(hs.2 b (BQ (B_ (AV e) (I.ok.kT x c uJ hc)))).trans (YR! I.base.keep));(.obtain⟨sl,e1⟩:=YR! I.base.slot;exact n9! sl (I.ok.kT x c uJ hc));(.obtain⟨o',e1⟩:=ks!;exact n9! o' (I.ok.kT x c uJ hc));(.by_cases hj:j=i;(.subst hj;rw[hi] at e1;cases e1;rw[EZ oW] at e2;cases e2;exact⟨u,r,N! ⟨H! hk,c,hc,uO⟩⟩);.rw[ES (Ne.symm hj)] at e2;obtain⟨u',r',q⟩:=hl j y v' e1 e2 e3;refine Go u' r';rcases q with q|⟨k,c',e,z'⟩;(.exact H! q);.refine QS! k c' (z'.sameBut hs ?_);rintro rfl;exact hj (Wy hN e1 (I.ok.inj _ _ _ e hc▸hi)));(.by_cases hcc:c'=c;(.subst hcc;exact T? uO);.obtain⟨w2,z2⟩:=I.cell y c' e;exact⟨w2,z2.sameBut hs hcc⟩);.obtain⟨e,n,ne,nf,d⟩:=Xs!;refine⟨(hs.2 p.1 ?_).trans e,n,ne,nf,d⟩;intro q;rw[q,j'] at e;have q':oc=p.2:=ZO e;exact d w' (N? q' xA)
theorem Vz{M:Model}{A:Around}{E:g?}{i:Nat}{x:Str}{v:V}{u:Value}{Q:I9!}(I:K!)(hN:X.N.Nodup)(hi:Lr!)(hx:i6!)(r:Ch!)(h:∀s',Inv X AA pF! H s'->Q () s')(hf:ln!:=by first|exact bn|exact EK!|assumption):Ri! (storeName X.env x u) :=Rh I hN hi hx r (λs' I' _=>h s' I') hf
theorem Inv.iB{s':Shared}{ch:J!}(I:K!)(ho:s'.os=s.os)(u:lS! X.stack ch s'.heap)(DM:oa! s'.heap)(hg:Qw!)(eC:∀b∈ch,mN!/\J7!/\(XB!)/\Id! (p.1≠b)):Jf!:=by obtain⟨h',g',d',t',o'⟩:=s';have e:o'=s.os:=ho;subst e;exact I.call (g':=g') (t':=t') (d':=d') u DM hg eC
universe E
abbrev XK:=Value->Dq! I2!
abbrev St:=List (Option V)
abbrev VK:=Dq! V
abbrev TE:=St->s8!
abbrev TT:=kQ! Hf!
abbrev TA:=kQ! Ew!
structure Ends where
 nx:AH!
 rt:VK
 bk:AH!:=UH!
 ct:AH!:=UH!
abbrev TS:=Ends->AH!
inductive EP(X:I!)(AA:w!)(σ:St)(Q:VK)(u:Value)(s':Shared):Prop
 | mk v H' (_:Jf!) (_:Ch!) (_:IG!)
inductive TP(X:I!)(AA:w!)(σ:St)(Q:Hf!)(b:Bool)(s':Shared):Prop
 | mk H' (_:Jf!) (_:Q b H')
inductive AP(X:I!)(AA:w!)(σ:St)(Q:Ew!)(us:Z!)(s':Shared):Prop
 | mk vs H' (_:Jf!) (_:QF!) (_:Q vs H')
def SP(X:I!)(AA:w!)(D:Ends)(f:Flow)(s':Shared):Prop :=
 match f with
 | .next=>On! (D.nx EN H')
 | .brk=>On! (D.bk EN H')
 | .cont=>On! (D.ct EN H')
 | .ret u=>∃v EN H',tf! s'/\Ch!/\D.rt v H'
def PE(X:I!)(e:Expr)(t:TE):Prop :=
 ∀(AA:w!)(s:Shared)(σ:St)(H:Hp)(Q:VK),hW! (IV! (eval e X.env))
def PT(X:I!)(e:Expr)(t:TT):Prop :=
 ∀(AA:w!)(s:Shared)(σ:St)(H:Hp)(Q:Hf!),hW! (g8! (isTrue e X.env (eval e X.env)))
def PW(X:I!)(e:Expr)(t:TT):Prop :=
 ∀(whole:Sem Value)(AA:w!)(s:Shared)(σ:St)(H:Hp)(Q:Hf!),hW! (g8! (isTrue e X.env whole))
theorem g9(h:PW X e t):PT X e t:=h _
def PA(X:I!)(es:Iq!)(t:TA):Prop :=
 ∀(pos:Pos)(AA:w!)(s:Shared)(σ:St)(H:Hp)(Q:Ew!),hW! (an! (spliced (tG! pos es)) (AP X AA σ Q))
def PS(X:I!)(st:Stmt)(t:TS):Prop :=
 ∀(AA:w!)(s:Shared)(σ:St)(H:Hp)(D:Ends),N5! (t D σ H) (an! (exec st X.env) (SP X AA D))
def QO(X:I!)(st:ef!)(t:TS):Prop :=
 ∀(AA:w!)(s:Shared)(σ:St)(H:Hp)(D:Ends),N5! (t D σ H) (an! (execs st X.env) (SP X AA D))
theorem EM(h:Ri! t)(hQ:∀a s,Q a s->Q' a s):wpAny M A t Q' E s:=FA h hQ ch!
universe S
variable {X:Cx Kx}
theorem bin{a b:Expr}{ta tb:TE}(ha:Gq!)(hb:G3!){AA:w!}{s:Shared}{σ:St}{H:Hp}{R:V->Dq! V}(I:K!)(h:hY! (hO! (R x y H2))){α:Type}{Q:Uf α}{f:Value->Value->Sem α}(hf:∀v u s2 x y H2,AR! H2 s2->T6!->Au!->R x y H2->nG! s2) : iz! a (λv D_=>iK! (eval b X.env) (λu UD=>nG! UD) D_):=by refine D5! (qE! ha);rintro v s1 ⟨x,H1,I1,r1,q1⟩;refine gQ! hb;rintro u s2 ⟨y,H2,I2,r2,q2⟩;exact hf v u s2 x y H2 I2 r1 r2 q2
inductive Jle(i:Nat)(σ:St)(H:Hp)(Q:VK):Prop
 | mk (v) (e0:ms! (σ[i]?)) (e1:Q v H)
def B9(i:Nat):TE:=λσ H Q=>Jle i σ H Q
def tC(v:V):TE:=λ_ H Q=>Q v H
theorem Jiv(hN:Lr!)(hv:sN! uy)(hd:Gl!:=by decide)(bK:AY! (x==("__classdict__":Str)):=by decide):PE X Wt! (B9 i):=by
 intro AA s σ H Q I h;obtain⟨v,e,h⟩:=h;obtain⟨m,hn,hl⟩:=I.loc;obtain⟨u,r,l⟩:=hl i x v hN e hv;have fin:jG! u:=⟨v,H,I,r,h⟩;rcases l with⟨hk,hm⟩|⟨hk,c,hc,PD⟩;.exact wpAny_Name (wpAny_loadName_local I.ok.kind hk hn hm fin) hd
 .rcases hk with hk|hk;(.exact wpAny_Name (wpAny_loadName_cell I.ok.kind hk hc PD fin) hd);.exact wpAny_Name (wpAny_loadName_free I.ok.kind hk hc PD fin bK) hd
theorem Af:I1! ci! (dj i) j (tC (g! i)):=λ_ _ _ H _ I h=>wpAny_Constant_int ⟨R! i,H,Hc!,AG!,h⟩
theorem Dw:I1! ci! (sK b) j (tC (.bl b)):=λ_ _ _ H _ I h=>Constant_bool (T9! (.bl b) h)
theorem Ej:I1! ci! (re x) j (JX! x):=λ_ _ _ H _ I h=>Calls.Constant_str ⟨re x,H,Hc!,AG!,h⟩
def Gl(X:I!)(x:Str):Prop:=Eg! X.env.kindOf .globalImplicit
theorem Oe{E:g?}{AA:w!}{s:Shared}{σ:St}{H:Hp}{x:Str}{u:Value}{pos:Pos}{Q:g?}(I:K!)(hg:Ju!)(hm:fS! u)(h:Q u s)(hd:Gl!:=by decide):aB! (bu! Wt!) :=Calls.Name_function_global I.ok.kind hg (Calls.loadGlobal_global (Va! I.ok.glob I.mod.glob.keeps I.bk) hm h) hd
theorem Y7(I:K!)(hg:Ju!)(hm:AT X.mg x)(hv:Eg! bootBuiltins u)(h:Q u s)(hn:Uk!:=by decide)(hd:Gl!:=by decide):aB! (bu! Wt!):=by obtain⟨mb,h1,h2⟩:=I.mod.blt;exact Calls.Name_function_global I.ok.kind hg (Calls.loadGlobal_builtin (Va! I.ok.glob I.mod.glob.keeps I.bk) hm (Va! I.ok.blt h1.keeps I.bk) ((h2 x hn).trans hv) h) hd
def t2I(ta tb:TE)(k:Int->Dq! Int):AH!:=λσ H=>hY! (hO! (∃i j,Us!/\Ut!/\k i j H2))
variable {a b:Expr}{ta tb:TE}{pos:Pos}
def PC(X:I!)(op:CmpOp)(a b:Expr)(t:TE):Prop :=
 ∀(AA:w!)(s:Shared)(σ:St)(H:Hp)(Q:VK),c7! (t σ H Q ->
  iz! a (λv D_=>iK! (eval b X.env) (λu UD=>KF! X.prog X.w X.A (compareOp op v u) (EP X AA σ Q) X.xe UD) D_))
theorem Wz(b:Expr)(h:op≠.In)(h2:op≠OV!):SN!:=by
 have e1:AY! (op==CmpOp.In):=dU! gM!
 have e2:AY! (op==CmpOp.NotIn):=dU! (Fn! h2)
 cases b<;>simp[behindInMarks,e1,e2]
def Yg(p:UA! Bool)(ta tb:TE):TE:=λσ H Q=>t2I ta tb (λi j H2=>Nn! (p i j) H2) σ H
abbrev tLt:SI!:=Yu! (i<j)
abbrev tLe:SI!:=Yu! (i<=j)
abbrev tGt:SI!:=Yu! (j<i)
abbrev tGe:SI!:=Yu! (j<=i)
abbrev Jly:SI!:=Yu! (i=j)
abbrev Jnj:SI!:=Yg λi j=>Hw! (i=j)
theorem Jix{op:CmpOp}{p:UA! Bool}(ha:Gq!)(hb:G3!)(rule:∀(i j:Int) (t u:Tok) (Q:g?) (s:Shared),jb! (p i j)->an! (compareOp op Rp! (g! j u)) Q):PC X op a b (Yg p ta tb):=by intro AA s σ H Q I h;refine pT! bin ?_;obtain⟨i,j,rfl,rfl,q⟩:=q;obtain⟨t,rfl⟩:=rx;obtain⟨t',rfl⟩:=ry;exact rule i j t t' _ s2 ⟨.bl _,H2,I2,rfl,q⟩
theorem Jiy(ha:Gq!)(hb:G3!):PC X .Eq a b (Jly ta tb):=Jix ha hb λ_ _ _ _ _ _ h=>eq_int (dJ! Bool.beq_eq_decide_eq)
inductive ItB  (x:V) (H1:Hp) (Q:Hf!):Prop
 | mk (c) (e0:x=.bl c) (e1:Q c H1)
def tB(t:TE):TT:=Kt! (λx H1=>ItB  x H1 Q)
theorem Jiw(h:PC X op a b t)(h1:SN!:=by first|exact Wz _ A5! A5!|rfl):Ai! (.Compare a [op] [b] pos) t:=λAA s σ H Q I hw=>wpAny_Compare1 (h AA s σ H Q I hw) h1
theorem Ei(h:PC X op a b t)(h1:SN!:=by first|exact Wz _ A5! A5!|rfl):PT X (.Compare a [op] [b] pos) (tB t):=by intro AA s σ H Q I hw;refine wpAny_isTrue_Compare1 (EM (h AA s σ H _ I hw) λv s1 h1=>EM h1 λu s2 h2=>EM h2 λc s3 ⟨x,H1,I1,r1,q1⟩=>?_) h1;obtain⟨d,rfl,q⟩:=q1;cases r1;exact QJ ⟨H1,I1,q⟩
theorem Hw(h:Ai! e t)(he:∀whole,isTrue e X.env whole=(do let v <-whole;standAt e.pos;holding [v] (truthy v)):=by intro _;rfl):PT X e (tB t):=by
 intro AA s σ H Q I hw
 refine isTrue_plain (EM (h AA s σ H _ I hw) λv s1 ⟨x,H1,I1,r1,q1⟩=>?_) (he _)
 obtain⟨d,rfl,q⟩:=q1
 cases r1
 exact QJ ⟨H1,I1,q⟩
variable {tA pZ:TT}{rest:List Expr}
def Jl1(t u:TT):TT:=hN! (dF! (DB! u Q) (Q false H1))
def tOr(t u:TT):TT:=hN! (dF! (Q true H1) (DB! u Q))
def Jlv(t:TT):TT:=hN! (Q (!c) H1)
theorem T6(ha:Yl!):PW X (.BoolOp .And [a] pos) tA:=by intro wh AA s σ H Q I h;refine Za! isTrue_and ha Q (λc s1 e=>?_);cases c with | true=>exact isTrue_and_nil e | false=>exact e
theorem Pd(ha:Yl!):PW X (.BoolOp .Or [a] pos) tA:=by intro wh AA s σ H Q I h;refine Za! isTrue_or ha Q (λc s1 e=>?_);cases c with | false=>exact isTrue_or_nil e | true=>exact e
theorem Yu(ha:Yl!)(hb:j8! .And (b::rest) pZ):j8! .And (a::b::rest) (Jl1 tA pZ):=by intro wh AA s σ H Q I h;refine jK! isTrue_and;rintro c s1 ⟨H1,I1,q1⟩;cases c with | true=>exact hb wh AA s1 σ H1 Q I1 q1 | false=>exact⟨H1,I1,q1⟩
theorem Wj(ha:Yl!)(hb:j8! .Or (b::rest) pZ):j8! .Or (a::b::rest) (tOr tA pZ):=by intro wh AA s σ H Q I h;refine jK! isTrue_or;rintro c s1 ⟨H1,I1,q1⟩;cases c with | true=>exact⟨H1,I1,q1⟩ | false=>exact hb wh AA s1 σ H1 Q I1 q1
theorem T7(ha:Yl!):PT X (.UnaryOp .Not a pos) (Jlv tA):=ck! (Za! isTrue_not ha (λc H1=>Q (!c) H1) (λc s1 ⟨H1,I1,q1⟩=>⟨H1,I1,q1⟩))
def tIf(t:TT)(ta tb:TE):TE:=hN! (dF! (DB! ta Q) (DB! tb Q))
theorem Wo(hc:PT X c tA)(ha:Gq!)(hb:G3!):Ai! (.IfExp c a b pos) (tIf tA ta tb):=by intro AA s σ H Q I h;refine wpAny_IfExp (s4! hc);rintro d s1 ⟨H1,I1,q1⟩;cases d with | true=>exact pH! ha Q | false=>exact pH! hb Q
universe E
def DO(K:W.Frag)(H:Hp)(a:Addr)(xs:E!):Prop :=
 Hk! a .BF xs \/
  ∃(o:Obj)(its:E1!)(n:Nat),bZ! K.lookup/\o.cls=Ee! ci/\o.dict=none/\o.data=Lx! its/\its.size<=sizeLine/\Vals xs its.toList
def DN(K:W.Frag)(H:Hp)(a:Addr)(xs:E!):Prop :=
 Hk! a .BG xs \/
  ∃(o:Obj)(its:E1!)(n:Nat),bZ! K.lookup/\Uu!/\o.data=Lx! its/\its.size<=sizeLine/\Vals xs its.toList
def Jm9:Value->FW! V
 | .none=>B! .FC
 | .bool b=>XC! .bl
 | .int i _=>Br! i
 | .str x _=>B! (re x)
 | .bytes b _=>XC! .au
 | .float b _=>XC! .qY
 | .ref a=>EC!
 | .type n=>B! (.ty n)
 | _=>none
theorem RelV.abs(r:JF!):z! Jm9 u x:=by cases x with | FC=>cases r;rfl | bl _=>cases r;rfl | int _=>obtain⟨t,rfl⟩:=r;rfl | str _=>obtain⟨t,rfl⟩:=r;rfl | au _=>obtain⟨t,rfl⟩:=r;rfl | qY _=>obtain⟨t,rfl⟩:=r;rfl | ref _=>cases r;rfl | ty _=>cases r;rfl
theorem RelV.inj(r:JF!)(q:Au!):x=y:=ZO (r.abs.symm.trans q.abs)
theorem Vals.inj{xs:E!}{us:Z!}(p:FI!):∀{ys:E!},Vals ys us->xs=ys:=by induction p with | nil=>intro ys q;cases q;rfl | cons r t ih=>intro ys q;cases q with|cons r' t'=>rw[r.inj r',ih t']
universe S
variable {X:Cx Kx}{AA:List (Addr×Obj)}{σ:St}{H:Hp}{s:Shared}{a:Addr}{xs ys:List V}
theorem DO.of{K:W.Frag}(h:b? H a .BF xs):JS!:=gP!
theorem DN.of{K:W.Frag}(h:L1! xs):IM!:=gP!
theorem Inv.list{X:I!}(I:K!)(h:DO Kx H a xs):∃its:Z!,RP!/\PlainL s.heap a its.toArray/\Dg!:=by
 rcases h with h|⟨o,its,n,hk,hc,hd,hs,hz,r⟩;.obtain⟨z,its,n,r,e⟩:=h.ok I.DM;exact⟨its,r,⟨_,n,e,rfl,rfl,rfl⟩,z⟩
 .refine⟨its.toList,r,⟨o,n,I.YQ a o hk,hc,hd,by simpa using hs⟩,?_⟩;have e:=r.length;simp only[DA] at e;lia
theorem Inv.tuple{X:I!}(I:K!)(h:DN Kx H a xs):∃its:Z!,RP!/\IsTup s.heap a its.toArray/\Dg!:=by
 rcases h with h|⟨o,its,n,hk,hc,hs,hz,r⟩;.obtain⟨z,its,r,p⟩:=h.ok I.DM;exact⟨its,r,p,z⟩
 .refine⟨its.toList,r,⟨o,I.YQ a o hk,hc,n,by simpa using hs⟩,?_⟩;have e:=r.length;simp only[DA] at e;lia
theorem Inv.di{X:I!}(I:K!)(h:DO Kx H a xs)(h':DO Kx H a ys):xs=ys:=by
 obtain⟨its,r,⟨o,n,e,_,_,d⟩,_⟩:=I.list h;obtain⟨its',r',⟨o',n',e',_,_,d'⟩,_⟩:=I.list h';rw[e] at e';cases e';rw[d] at d';injection d' with d1 _;have:its=its':=Ct! (congrArg Array.toList d1)
 subst this;exact r.inj r'
theorem Inv.bf{X:I!}(I:K!)(h:DN Kx H a xs)(h':DN Kx H a ys):xs=ys:=by
 obtain⟨its,r,⟨o,e,_,n,d⟩,_⟩:=I.tuple h;obtain⟨its',r',⟨o',e',_,n',d'⟩,_⟩:=I.tuple h';rw[e] at e';cases e';rw[d] at d';injection d' with d1 _;have:its=its':=Ct! (congrArg Array.toList d1)
 subst this;exact r.inj r'
universe E
abbrev Cx.UC(X:I!)(E:g?):I!:={ X with xe:=E }
abbrev Cx.lW(X:I!):I!:=X.UC UH!
theorem Cx.Ok.UC{X:I!}(ok:X.Ok)(E:g?):(X.UC E).Ok :=⟨ok.mod,ok.kind,ok.glob,ok.blt,ok.above,ok.inj,ok.has,ok.kT,ok.hd,ok.frames,ok.lH,ok.eF,ok.bs,ok.eO,ok.bV,ok.bc,ok.OQ,ok.gn⟩
theorem Cx.Ok.MK{X:I!}{E:g?}(ok:(X.UC E).Ok):X.Ok :=⟨ok.mod,ok.kind,ok.glob,ok.blt,ok.above,ok.inj,ok.has,ok.kT,ok.hd,ok.frames,ok.lH,ok.eF,ok.bs,ok.eO,ok.bV,ok.bc,ok.OQ,ok.gn⟩
universe S
variable {X:Cx Kx}{AA:List (Addr×Obj)}{σ:St}{H:Hp}{s:Shared}{E:Value->Shared->Prop}
theorem Inv.UC(I:K!)(E:g?):Inv (X.UC E) AA σ H s:=⟨I.ok.UC E,I.os,I.bare,I.base,I.loc,I.cell,I.free,I.KD,I.pin,I.DM,I.len⟩
theorem Inv.MK(I:Inv (X.UC E) AA σ H s):K!:=⟨I.ok.MK,I.os,I.bare,I.base,I.loc,I.cell,I.free,I.KD,I.pin,I.DM,I.len⟩
theorem SP.MK(h:SP (X.UC E) AA D f s'):SP X AA D f s':=by cases f with | next=>obtain⟨EN,H',I,q⟩:=h;exact⟨EN,H',I.MK,q⟩ | brk=>obtain⟨EN,H',I,q⟩:=h;exact⟨EN,H',I.MK,q⟩ | cont=>obtain⟨EN,H',I,q⟩:=h;exact⟨EN,H',I.MK,q⟩ | ret u=>obtain⟨v,EN,H',I,r,q⟩:=h;exact⟨v,EN,H',I.MK,r,q⟩
theorem QO.lW{st:ef!}{t:TS}(h:QO X.lW st t):QO X st t:=λAA s σ H D I hw =>FA (h AA s σ H D (I.UC _) hw) (λ_ _ q=>q.MK) λ_ _ z=>False.elim z
universe E
universe S
variable {X:Cx Kx}{st:Stmt}{rest:List Stmt}{t u:TS}{e:Expr}{te:TE}{pos:Pos}
def Zr:TS:=M1! (Na! H)
def Jj8(t u:TS):TS:=M1! (t { D with nx:=u D } σ H)
theorem A8:QO X [] Zr:=λ_ _ σ H _ I h=>XG (Ib! H I h)
theorem Ad(h1:PS X st t)(h2:QO X rest u):QO X (st::rest) (Jj8 t u):=by intro AA s σ H D I h;refine Za! wpAny_execs_cons h1 { D with nx:=u D } (λf s1 q=>?_);cases f with | next =>obtain⟨EN,H',I',q⟩:=q;exact h2 AA s1 EN H' D I' q | ret v=>exact q | brk=>exact q | cont=>exact q
theorem Ag(h1:PS X st t):QO X [st] t:=by intro AA s σ H D I h;refine Za! wpAny_execs_cons h1 D (λf s1 q=>?_);cases f with | next=>exact XG q | ret v=>exact q | brk=>exact q | cont=>exact q
theorem Inv.quiet(I:K!):i? (interactive X.env):=by simp[interactive,I.ok.kind]
def Jj9(te:TE):TS:=Op! te (λ_ H1=>Na! H1)
theorem Av(he:W2!)(hs:ny! e none:=by rfl):PS X (.Expr e pos) (Jj9 te):=by intro AA s σ H D I h;exact wpAny_Expr_any (f2! he (Ib! H1 I1 q1)) I.quiet hs
def Jlu(te:TE):TS:=Op! te D.rt
theorem Az(he:W2!):PS X (.Return (some e) pos) (Jlu te):=by intro AA s σ H D I h;exact wpAny_Return_some (f2! he ⟨x,σ,H1,I1,r1,q1⟩)
def vG(c:TT)(t u:TS):TS:=Op! c (λb H1=>sB M2! (t D σ H1) (u D σ H1))
theorem Bo(hc:PT X c tc)(ha:QO X a t)(hb:QO X b u):PS X (.If c a b pos) (vG tc t u):=by intro AA s σ H D I h;refine wpAny_If (s4! hc);rintro d s1 ⟨H1,I1,q1⟩;cases d with | true=>exact pH! ha D | false=>exact pH! hb D
def Jic:TS:=PB!
theorem Jbj:QO X FZ Jic:=λ_ _ _ _ _ _ h=>h.elim
universe E
abbrev TG:=V->St->bw! AH!
abbrev g8:=E!->St->bw! AH!
def PG(X:I!)(target:Expr)(t:TG):Prop :=
 ∀(AA:w!)(s:Shared)(σ:St)(H:Hp)(v:V)(u:Value)(Q:AH!),N5! Ch! (t v σ H Q ->
  sD! (assign target X.env u) (λ_ s'=>On! (Q EN H')))
def qw(X:I!)(ts:Iq!)(t:g8):Prop :=
 ∀(AA:w!)(s:Shared)(σ:St)(H:Hp)(vs:E!)(us:Z!)(Q:AH!),N5! QF! (t vs σ H Q ->
  sD! (assignInOrder ((assignEach ts X.env).map T0) us) (λ_ s'=>On! (Q EN H')))
abbrev Jnk:=V->V->V->bw! Vr!
abbrev TIp:=XM!
universe S
variable {X:Cx Kx}{pos:Pos}
def Jh3(i:Nat):TG:=λv σ H Q=>Q pF! H
theorem Bc{i:Nat}{x:Str}(hN:X.N.Nodup)(hi:Lr!)(hx:i6!)(hf:ln!:=by first|exact bn|exact EK!|assumption):PG X Wt! (Jh3 i):=by intro AA s σ H v u Q I r h;exact wpAny_assign_Name (Vz I hN hi hx r (λs' I'=>⟨_,H,I',h⟩) hf)
def Jm6:g8:=λvs σ H Q=>vs=[]/\Q σ H
inductive Jjy(t:TG)(u:g8)(vs:E!)(σ:St)(H:Hp)(Q:AH!):Prop
 | mk (v r) (e0:vs=v::r) (e1:t v σ H λEN H'=>u r EN H' Q)
def Jk5(t:TG)(u:g8):g8:=λvs σ H Q=>Jjy t u vs σ H Q
theorem F2:qw X [] Jm6:=by intro AA s σ H vs us Q I r h;obtain⟨e,h⟩:=h;subst e;cases r;exact assignInOrder_nil (Ib! H I h)
theorem By(h1:PG X e t)(h2:qw X es u)(hs:(assignEach (e::es) X.env).map T0=assign e X.env::(assignEach es X.env).map T0:=by rfl):qw X NY! (Jk5 t u):=by intro AA s σ H vs us Q I r h;obtain⟨v,vr,e1,h⟩:=h;subst e1;cases r with | cons r rr =>rw[hs];refine assignInOrder_cons (EM (h1 AA s σ H _ _ _ I r h) ?_);rintro _ s1 ⟨ji,H1,I1,q1⟩;exact h2 AA s1 ji H1 _ _ Q I1 rr q1
inductive Jlo(K:W.Frag)(n:Nat)(t:g8)(v:V)(σ:St)(H:Hp)(Q:AH!):Prop
 | mk (a xs) (e0:Ub!) (e1:IM!) (e2:xs.length=n) (e3:t xs σ H Q)
def Jm5(K:W.Frag)(n:Nat)(t:g8):TG:=λv σ H Q=>Jlo K n t v σ H Q
theorem Iy{X:I!}{es:Iq!}{k:Nat}{t:g8}{n:Nat}(hc:BI!)(h:qw X es t)(hn:(assignEach es X.env).length=n:=by rfl)(t_:G? (assignEach es X.env).findIdx?=none:=by rfl):PG X (.Tuple es k pos) (Jm5 Kx n t):=by intro AA s σ H v u Q I r hw;obtain⟨a,xs,e1,hq,hl,hw⟩:=hw;subst e1;cases r;obtain⟨its,rv,ht,hz⟩:=Lh!;refine assign_Tuple_tuple Gp! ht (by simp[hn,<-hl,rv.length]) t_ λh' hx=>?_;have I1:LT!:=I.kept (t':=s.toks) (AQ! (hx b o (Rb! e) e));exact h AA _ σ H xs _ Q I1 (by simpa using rv) hw
def Jkc(te:TE)(g:TG):TS:=M1! (te σ H λx H1=>g x σ H1 D.nx)
theorem Mh(he:W2!)(hg:PG X tg g)(hs:swapsWithSole [tg] e pos.line X.env=pure false:=by rfl)(hw:swappedStores [tg] e X.env=pure none:=by rfl)(h1:(assignEach [tg] X.env).map T0=[assign tg X.env]:=by rfl):kz! [tg] e (Jkc te g):=by intro AA s σ H D I h;refine wpAny_Assign_stores Wg! hs hw;rintro v s1 ⟨x,H1,I1,r1,q1⟩;rw[h1];exact EM (hg AA s1 σ H1 x v _ I1 r1 q1) λ_ s2 q=>q
theorem As{i:Nat}{x:Str}{e:Expr}{te:TE}{pos':Pos}(hN:X.N.Nodup)(hi:Lr!)(hx:i6!)(he:W2!)(hs:ny! e (some (TT! pos')):=by rfl)(hf:ln!:=by first|exact bn|exact EK!|assumption) : kz! [.Name x pos'] e (Jkc te (Jh3 i)):=by intro AA s σ H D I h;refine wpAny_Assign_Name Wg! hs;rintro v s1 ⟨y,H1,I1,r1,q1⟩;exact Vz I1 hN hi hx r1 (λs2 I2=>⟨_,H1,I2,q1⟩) hf
inductive Jib(c:TT)(tb:TS)(D:Ends)(σ:L2.St)(H:Hp):Prop
 | mk (W:fH!) (_:(∃m,W m σ H)) (_:∀m σ H,W m σ H->c σ H λb H1=>sB M2! (∃N:AH!,(∀EN H',N EN H'->∃m',m'<m/\W m' EN H')/\tb { D with nx:=N,ct:=N,bk:=D.nx } σ H1) (Na! H1))
theorem Pe(hp:PassesOwn ZP! X.A X.env X.xe)(hc:PT X c tc)(hb:QO X body tb):PS X (.While c body [] pos) (Jib tc tb):=by intro AA s σ H D I h;obtain⟨W,⟨m0,w0⟩,turn⟩:=h;refine wpAny_While (codeAny_whileLoop (λn s'=>On! (W n EN H')) ?_ m0 (Ib! H I w0));rintro n s1 ⟨ji,H1,I1,w1⟩;refine kD! (hc AA s1 ji H1 _ I1 (turn n ji H1 w1));rintro b s2 ⟨H2,I2,q2⟩;cases b with | true =>obtain⟨N,hN,q2⟩:=q2;rw[e?];refine HM hp (EM (hb AA s2 ji H2 _ I2 q2) λf s3 q3=>?_);(cases f with | next =>obtain⟨cJ,H3,I3,n3⟩:=q3;obtain⟨m',hm,w3⟩:=hN cJ H3 n3;exact⟨m',hm,cJ,H3,I3,w3⟩ | cont =>obtain⟨cJ,H3,I3,n3⟩:=q3;obtain⟨m',hm,w3⟩:=hN cJ H3 n3;exact⟨m',hm,cJ,H3,I3,w3⟩ | brk=>exact q3 | ret v=>exact q3) | false =>rw[AD AL];exact XG ⟨ji,H2,I2,q2⟩
universe E
structure It where
 go:Dq! Nat
 aP:Nat->Hp->Dq! V
 stop:Dq! Nat
def Q8(X:I!)(AA:w!)(H:Hp)(b:Addr):Prop :=
 s?/\J7!/\b∉X.fs/\mN!/\(XB!)/\Id! (p.1≠b)
theorem Inv.bZ(I:K!)(hb:s.heap.objs.size<=b)(hn:rW!):Q8 X AA H' b:=by
 refine⟨hn,ER (B_ I.lt hb),I.wI hb,N! (AR I.sz hb),λx c e z=>?_,λp hp z=>?_⟩;.obtain⟨v,q⟩:=Yk!;exact Jn! (B_ q.lt (VZ! hb))
 .exact Jn! (B_ (AV (I.pin p hp).1) (VZ! hb))
structure Turn(P:Program)(w:World)(K:W.Frag)(tg:Expr)(J:It)(fp:J!)(it:Addr)(tn:Iw! Nat):Prop where
 mem:it∈fp
 obj:∀i h,tn i h->FN! (∃o,DK!/\∀v,o.data≠KM v)
 keep:∀i h h',tn i h->(FN! (∀o,DK!->bW!))->tn i h'
 item:∀(X:Cx K),X.prog=P->X.w=w->BI!->∀(i:Nat)(AA:w!)(s:Shared)(σ:St)(H:Hp)(E:g?),K!->(FN! (Q8 X AA H b))->tn i s.heap->J.go i H ->
  KF! P w X.A (pyNext (BG! it)) (λr s1=>∃u,r=B! u /\
   KF! P w X.A (letOwnedTupleGo tg Ey! u) (λ_ s2=>∃x H',bE! s2/\JF!/\J.aP i H x H'/\tn (i+1) s2.heap/\Oq!) E s1) E s
 done:∀(X:Cx K),X.prog=P->X.w=w->BI!->∀(i:Nat)(AA:w!)(s:Shared)(σ:St)(H:Hp)(E:g?),K!->(FN! (Q8 X AA H b))->tn i s.heap->J.stop i H ->
  KF! P w X.A (pyNext (BG! it)) (λr s1=>r=none/\FV! s1) E s
 self:∀(A:Around)(i:Nat)(s:Shared)(Q:g?)(E:g?),tn i s.heap->am it s->KF! P w A (pyIter (BG! it)) Q E s
abbrev TI:=kQ! fI!
inductive PIE(X:I!)(AA:w!)(σ:St)(tg:Expr)(R:fI!)(tP:Value)(s2:Shared):Prop
 | mk (it:Addr) (fp:J!) (tn:Iw! Nat) (J:It) (H':Hp) (_:tP=l! it) (_:bE! s2) (_:Turn X.prog X.w Kx tg J fp it tn) (_:tn 0 s2.heap) (_:(Ux! H')) (_:R J H')
def PI(X:I!)(tg iter:Expr)(wi:TI):Prop :=
 ∀(AA:w!)(s:Shared)(σ:St)(H:Hp)(R:fI!),c7! (wi σ H R ->
  iz! iter (λv s1=>iK! (pyIter v) (PIE X AA σ tg R) s1))
theorem Xr{M:Model}{A:Around}{E:g?}{s:Shared}{tg:Expr}{it:Addr}{u:Value}{o:Obj}{n:String}{vs:E1!}{Q:I9!}(ho:LL! it o)(hc:o.cls=Ee! n)(hd:o.data=XA!)(hn:i? (["enumerate","zip",G8!,"dict_reverseitemiterator","odict_iterator","itertools.zip_longest","itertools.pairwise"].contains n))(hQ:Q () s):Ri! (letOwnedTupleGo tg Ey! u):=by unfold letOwnedTupleGo;cases tg<;>first | exact ZS hQ | (cases u<;>first | exact ZS hQ | (refine ZR (wpAny_load ho ?_);rw[hc,hd];show Ri! (if Aa! (["enumerate","zip",G8!,"dict_reverseitemiterator","odict_iterator","itertools.zip_longest","itertools.pairwise"].contains n&&vs[0]?==B! (rawInt _)) then _ else _);rw[AD (by intro h;rw[hn,Bool.false_and] at h;cases h)];exact ZS hQ))
def cg(K:W.Frag)(a:Addr):It :=
 Y8! (λi H=>∃xs x,JS!/\IK!) (∀xs,JS!->IK!) (λi H=>∃xs,JS!/\xs.length<=i)
def cb(K:W.Frag)(a:Addr):It :=
 Y8! (λi H=>∃xs x,IM!/\IK!) (∀xs,IM!->IK!) (λi H=>∃xs,IM!/\xs.length<=i)
def fw(lo:Int)(n:Nat):It:=Y8! (λi _=>i<n) (x=g! (lo+i)) (λi _=>n<=i)
theorem Ja7{P:Program}{w:World}{K:W.Frag}{tg:Expr}(a it:Addr):aN! (cg K a) (h.IsListIter it a i) where
 mem:=B?
 obj:=UK! (by
  have e:b=it:=Cr!
  subst e
  obtain⟨o,e,c,d⟩:=st
  exact FF! (dZ! d))
 keep:=λi h h' st k=>st.at λo e=>iF! k it
 item:=by
  intro X hP hw hc i AA s σ H E I hf st hg
  subst hP hw
  obtain⟨xs,x,hq,hx⟩:=hg
  obtain⟨its,rv,p,hz⟩:=JD!
  obtain⟨u,hu,ru⟩:=rv.get hx
  obtain⟨f0,f1,f2,f3,f4,f5⟩:=Gx!
  refine wpAny_pyNext_list_item st p.isList (x:=u) (UL!) λh' TV sb=>?_
  have I1:LT!:=b4! (Uy! XY!)
  obtain⟨o,e,c,d⟩:=id TV
  exact DO! u (pP! d (lc! x ru (n? (λys hy=>G! (I.di hy hq) hx))))
 done:=by
  intro X hP hw hc i AA s σ H E I hf st hg
  subst hP hw
  obtain⟨xs,hq,hx⟩:=hg
  obtain⟨its,rv,p,hz⟩:=JD!
  obtain⟨f0,f1,f2,f3,f4,f5⟩:=Gx!
  have hl:=rv.length
  exact wpAny_pyNext_list_end Gp! st p.isList (cn!) (ZC! (il! hb))
 self:=ZD! wpAny_pyIter_listiter
theorem Ya{P:Program}{w:World}{K:W.Frag}{tg:Expr}(a it:Addr):aN! (cb K a) (h.IsTupleIter it a i) where
 mem:=B?
 obj:=UK! (by
  have e:b=it:=Cr!
  subst e
  obtain⟨o,e,c,d⟩:=st
  exact FF! (dZ! d))
 keep:=λi h h' st k=>st.at λo e=>iF! k it
 item:=by
  intro X hP hw hc i AA s σ H E I hf st hg
  subst hP hw
  obtain⟨xs,x,hq,hx⟩:=hg
  obtain⟨its,rv,p,hz⟩:=Lh!
  obtain⟨u,hu,ru⟩:=rv.get hx
  obtain⟨f0,f1,f2,f3,f4,f5⟩:=Gx!
  refine wpAny_pyNext_tuple_item st (show s.heap.IsTuple a its.toArray from p) (x:=u) (UL!) λh' TV sb=>?_
  have I1:LT!:=b4! (Uy! XY!)
  obtain⟨o,e,c,d⟩:=id TV
  exact DO! u (pP! d (lc! x ru (n? (λys hy=>G! (I.bf hy hq) hx))))
 done:=by
  intro X hP hw hc i AA s σ H E I hf st hg
  subst hP hw
  obtain⟨xs,hq,hx⟩:=hg
  obtain⟨its,rv,p,hz⟩:=Lh!
  obtain⟨f0,f1,f2,f3,f4,f5⟩:=Gx!
  have hl:=rv.length
  exact wpAny_pyNext_tuple_end Gp! st (show s.heap.IsTuple a its.toArray from p) (cn!) (ZC! (il! hb))
 self:=ZD! wpAny_pyIter_tupleiter
theorem Yb{P:Program}{w:World}{K:W.Frag}{tg:Expr}(it:Addr)(lo:Int)(n:Nat):aN! (fw lo n) (IsRangeIter h it (lo+(i:Nat)*1) (PD!-(i:Nat)) 1) where
 mem:=B?
 obj:=UK! (by
  have e:b=it:=Cr!
  subst e
  exact Az! st (λv z=>by
   have z':Data.fields _=Data.cell v:=z
   cases z'))
 keep:=λi h h' st k=>k it XV _ st
 item:=by
  intro X hP hw hc i AA s σ H E I hf st hg
  subst hP hw
  obtain⟨f0,f1,f2,f3,f4,f5⟩:=Gx!
  have W:=Walks.range (prog:=X.prog) (w:=X.w) Gp! it lo 1 n
  refine W.item i s _ _ hg st λv h' tk hv TV kk=>?_
  obtain⟨t,rfl⟩:=hv
  have I1:FV! { s with heap:=h',toks:=tk }:=I.turned (r5! kk (Cr!)) f0 f1 f3 f4 f5
  refine t? (Xr (s:={ s with heap:=h',toks:=tk }) (n:="range_iterator") TV rfl rfl A5! (lc! (g! (lo+i)) (d? t) DL!))
  rw[Int.mul_one]
 done:=by
  intro X hP hw hc i AA s σ H E I hf st hg
  subst hP hw
  obtain⟨f0,f1,f2,f3,f4,f5⟩:=Gx!
  exact wpAny_pyNext_range_end Gp! st (by have:n<=i:=hg;lia) (ZC! (il! hb))
 self:=ZD! wpAny_pyIter_rangeiter
universe S
variable {X:Cx Kx}{tg:Expr}
def Jkz(K:W.Frag)(tl:TE):TI:=da! tl (∃a,BZ!/\(∃xs,DO K H1 a xs)/\R (cg K a) H1)
def Jmz(K:W.Frag)(tl:TE):TI:=da! tl (∃a,BZ!/\(∃xs,DN K H1 a xs)/\R (cb K a) H1)
theorem C9{X:I!}{l:Expr}{tl:TE}(hl:Ai! l tl):PI X tg l (Jkz Kx tl):=by
 intro AA s σ H R I h;refine jj!;rintro v s1 ⟨x,H1,I1,r1,q1⟩;obtain⟨a,e,⟨xs,hq⟩,q⟩:=q1;subst e;cases r1;obtain⟨its,rv,p,hz⟩:=I1.list hq;refine wpAny_pyIter_list p.isList ?_;refine n2! _ H1 (h3! I1.kept Hu!) (Ja7 a _) YP! q;have e:co!:=Cr!
 subst e;exact I1.bZ (ZG _) X7!
theorem Kb{X:I!}{l:Expr}{tl:TE}(hl:Ai! l tl):PI X tg l (Jmz Kx tl):=by
 intro AA s σ H R I h;refine jj!;rintro v s1 ⟨x,H1,I1,r1,q1⟩;obtain⟨a,e,⟨xs,hq⟩,q⟩:=q1;subst e;cases r1;obtain⟨its,rv,p,hz⟩:=I1.tuple hq;refine wpAny_pyIter_tuple (show s1.heap.IsTuple a its.toArray from p) ?_;refine n2! _ H1 (h3! I1.kept Hu!) (Ya a _) YP! q;have e:co!:=Cr!
 subst e;exact I1.bZ (ZG _) X7!
theorem Jdo{AA:w!}{σ:St}{H:Hp}{s:Shared}{R:fI!}{E:g?}{lo hi:Int}{t u v:Tok}{tk:Nat}(I:K!)(h1:-(Qf!)<=lo)(h2:lo<Qf!)(h3:-(Qf!)<=hi)(h4:hi<Qf!)(q:R (fw lo gJ!) H):KF! X.prog X.w X.A (pyIter (BG! s.heap.objs.size)) (PIE X AA σ tg R) E { s with heap:=GK! SU!,toks:=tk }:=by
 refine wpAny_pyIter_range (IsRange.new ..) (small_one h1 h2 h3 h4) ?_;have I1:FV! { s with heap:=GK! SU!,toks:=tk }:=I.kept Hu!;refine⟨(s.heap.push SU!).objs.size,[(s.heap.push SU!).objs.size],_,_,H,rfl,I1.kept (t':=tk) Hu!,Yb _ lo gJ!,?_,F9!,q⟩;·(have e1:lo+rh!*1=lo:=B?);(have e2:BN! gJ!-rh!=Builtin.Range.rangeSize lo hi 1:=by rw[rangeSize_one];split<;>lia);show IsRangeIter _ _ (lo+rh!*1) (BN! gJ!-rh!) 1;rw[e1,e2];exact CS!
 ·(have e:b=(s.heap.push SU!).objs.size:=Cr!);subst e;exact I1.bZ (ZG _) X7!
def Jky(ta:TA):TI:=λσ H R=>ta σ H λvs H1=>∃j:Int,vs=[R! j]/\-(Qf!)<=j/\j<Qf!/\R (fw 0 j.toNat) H1
theorem Ec{a:Expr}{ta:TA}{p pos:Pos}(hg:Gl X OO!)(hm:AT X.mg OO!)(ha:PA X [a] ta)(hs:starEach [a] X.env=[(false,eval a X.env)]:=by rfl):PI X tg (.Call (.Name OO! p) [a] [] pos) (Jky ta):=by intro AA s σ H R I h;refine Call_ (Y7 I hg hm boot_range (PyProof.Rows.callWith_type1 (Zy! (λus s1 ⟨vs,H1,I1,r1,q1⟩=>?_)) hs rfl));obtain⟨j,e,q1,q2,q⟩:=q1;subst e;cases r1 with | cons r rr =>cases rr;obtain⟨t,rfl⟩:=r;exact call_range_1 (Jdo I1 C! C! q1 q2 (by simpa using q))
def Jlx(wi:TI)(g:TG)(tb:TS):TS:=Op! wi (λJ H1=>∃W:Nat->Nat->AH!,(∃m,W 0 m σ H1)/\∀i m σ H,W i m σ H ->
 SS! J.stop J.go AH! J.aP)
def Ph(fp:J!)(h:Heap):w!:=fp.filterMap λb=>Bw! h.get? b (λo=>(b,o))
theorem Hz(hb:b∈fp)(e:DK!):(b,o)∈Ph fp h:=CV.mpr ⟨b,hb,EQ e⟩
theorem Jbu(hp:p∈Ph fp h):p.1∈fp/\Ir! p.1 p.2:=by obtain⟨b,hb,e⟩:=CV.mp hp;cases q:h.get? b with | none=>rw[q] at e;cases e | some o =>rw[q] at e;have e':(b,o)=p:=ZO e;subst e';exact⟨hb,q⟩
theorem Inv.pinned(I:K!)(hf:FN! (Q8 X AA H b))(ho:FN! (∃o,Dw!/\∀v,o.data≠KM v)):Inv X (AA++Ph fp s.heap) σ H s :=I.bA λp hp=>(ZI hp).elim (λz=>I.pin p (ZC _ z)) λz=>by obtain⟨hb,e⟩:=Jbu z;obtain⟨f0,f1,f2,_⟩:=hf p.1 hb;obtain⟨o,e',d⟩:=ho p.1 hb;rw[e] at e';cases e';exact⟨e,f0,f1,f2,d⟩
theorem Inv.MN(I:Inv X (AA++pl) σ H s):K!:=I.bA λp hp=>I.pin p (ZC _ (ZB _ hp))
theorem Dt(hp:PassesOwn ZP! X.A X.env X.xe)(hc:BI!)(hi:PI X tg iter wi)(hg:PG X tg g)(hb:QO X body tb)(hs:∀x,foldedSetIterable iter X.env x=pure x:=by intro _;rfl):PS X (.For tg iter body [] pos) (Jlx wi g tb):=by
 intro AA s σ H D I h;refine wpAny_For (S7! hi (λv s1 h1=>EM h1 λtP s2 h2=>?_)) hs;obtain⟨it,fp,tn,J,H2,e,I2,T,iG,f2,W,⟨m0,w0⟩,turn⟩:=h2;subst e;have ZZ:∀{H':Hp},(Oq!)->Ux! H':=λhn b hb=>⟨Ci! hn,(f2 b hb).2⟩;refine codeAny_forLoop_any (λn s'=>∃i EN H',tf! s'/\tn i s'.heap/\(Oq!)/\W i n EN H') ?_ m0 ⟨0,σ,H2,I2,iG,Q? (f2 b hb).1,w0⟩;rintro n s3 ⟨i,cJ,H3,I3,NT,KU,w3⟩;rcases turn i n cJ H3 w3 with⟨stop,qn⟩|⟨go,N,hN,step⟩;.refine kD! (T.done X rfl rfl hc i AA s3 cJ H3 X.xe I3 (ZZ KU) NT stop);rintro r s4 ⟨hr,I4⟩;subst hr;exact XG ⟨cJ,H3,I4,qn⟩
 .refine kD! (T.item X rfl rfl hc i AA s3 cJ H3 X.xe I3 (ZZ KU) NT go);rintro r s4 ⟨u,hr,h4⟩;subst hr;refine HM hp (EM h4 ?_);rintro _ s5 ⟨x,H5,I5,r5,y5,gO,TQ⟩;have I5':=I5.pinned (ZZ TQ) (v! T.obj gO);refine kD! (hg _ s5 cJ H5 x u _ I5' r5 (step x H5 y5));rintro _ s6 ⟨σ6,H6,I6,q6⟩;refine HM hp (EM (hb _ s6 σ6 H6 _ I6 q6) λf s7 q7=>?_);(have again:∀{cI:St} {H7:Hp},Inv X (AA++Ph fp s5.heap) cI H7 s7->N cI H7->∃m,m<n/\∃i EN H',tf! s7/\tn i s7.heap/\(Oq!)/\W i m EN H':=λ{cI H7} I7 n7=>by obtain⟨m',hm,w7⟩:=hN cI H7 n7;refine⟨m',hm,i+1,cI,H7,I7.MN,T.keep _ _ _ gO λb hb o e=>(I7.pin (b,o) (ZC _ (ZC _ (Hz hb e)))).1,F9!,w7⟩;obtain⟨o,e,d⟩:=T.obj _ _ gO b hb;exact(I7.pin (b,o) (ZC _ (ZC _ (Hz hb e)))).2.1);cases f with | next=>obtain⟨cI,H7,I7,n7⟩:=q7;exact again I7 n7 | cont=>obtain⟨cI,H7,I7,n7⟩:=q7;exact again I7 n7 | brk=>obtain⟨cI,H7,I7,q7⟩:=q7;exact⟨cI,H7,I7.MN,q7⟩ | ret v=>obtain⟨x7,cI,H7,I7,r7,q7⟩:=q7;exact⟨x7,cI,H7,I7.MN,r7,q7⟩
universe E
theorem Hj{K:W.Frag}{a:Addr}{xs:E!}{g:TG}{tb:TS}{D:Ends}{σ:St}{H:Hp}(Pv:fH!)(h0:WP!)(hl:Uz! J8! JS!)(hs:∀i x σ H,IK!->rG!->Z7! x)(hd:ZE! xs.length) : Yw! AH! (UR! (SS! (cg K a).stop (cg K a).go AH! (cg K a).aP)):=by
 refine Zj! RR! J8! xs.length;rintro i m σ H ⟨rfl,hi,p⟩;have q:=hl i σ H hi p;by_cases JK:UO!;.refine aL! (n5! q) df!;obtain⟨e,y⟩:=y;subst e;exact hs i x σ _ (y xs q) p
 ·(have e:cq!:=A!);subst e;exact WI! (lo! q) p
theorem Vf{K:W.Frag}{a:Addr}{xs:E!}{g:TG}{tb:TS}{D:Ends}{σ:St}{H:Hp}(Pv:fH!)(h0:WP!)(hl:Uz! J8! IM!)(hs:∀i x σ H,IK!->rG!->Z7! x)(hd:ZE! xs.length) : Yw! AH! (UR! (SS! (cb K a).stop (cb K a).go AH! (cb K a).aP)):=by
 refine Zj! RR! J8! xs.length;rintro i m σ H ⟨rfl,hi,p⟩;have q:=hl i σ H hi p;by_cases JK:UO!;.refine aL! (n5! q) df!;obtain⟨e,y⟩:=y;subst e;exact hs i x σ _ (y xs q) p
 ·(have e:cq!:=A!);subst e;exact WI! (lo! q) p
theorem Fq{lo:Int}{n:Nat}{g:TG}{tb:TS}{D:Ends}{σ:St}{H:Hp}(Pv:fH!)(h0:WP!)(hs:Uz! (i<n) (Z7! (dj (lo+i))))(hd:ZE! n) : Yw! AH! (UR! (SS! (fw lo n).stop (fw lo n).go AH! (fw lo n).aP)):=by
 refine Zj! (n-i) (i<=n) n;rintro i m σ H ⟨rfl,hi,p⟩;by_cases JK:i<n;.refine aL! JK (n-FB);obtain⟨e,y⟩:=y;subst e y;exact hs i σ _ JK p
 ·(have e:i=n:=A!);subst e;exact WI! At p
abbrev R2:=XM!
def PK(X:I!)(f:Ys!)(r:R2):Prop :=
 ∀(AA:w!)(s:Shared)(σ:St)(H:Hp)(x y:V)(v u:Value)(Q:VK),jX! Au! (r x y H Q ->
  IV! (f v u))
def Ga(X:I!)(f:Value)(r:E!->s8!):Prop :=
 ∀(AA:w!)(s:Shared)(σ:St)(H:Hp)(xs:E!)(us:Z!)(Q:VK),N5! FI! (r xs H Q ->
  IV! (call f us))
def Jna(X:I!)(r:V->bw! Hf!):Prop :=
 ∀(AA:w!)(s:Shared)(σ:St)(H:Hp)(x:V)(v:Value)(Q:Hf!),N5! T6! (r x H Q ->
  g8! (truthy v))
def WC(r:R2)(ta tb:TE):TE:=hZ! (hO! (r x y H2 Q))
inductive IrI(C:wE Int Int)(g:iL!)(x:V)(y:V)(H:Hp)(Q:VK):Prop
 | mk (i j) (e0:Us!) (e1:Ut!) (e2:C i j) (e3:Q OG! H)
def rI(C:wE Int Int)(g:iL!):R2:=λx y H Q=>IrI C g x y H Q
inductive Jnd(g:iL!)(x:V)(y:V)(H:Hp)(Q:VK):Prop
 | mk (i j) (e0:Us!) (e1:Ut!) (e2:Q OG! H)
def eX(g:iL!):R2:=λx y H Q=>Jnd g x y H Q
universe S
variable {X:Cx Kx}{a b c:Expr}{ta tb tc:TE}{pos:Pos}
theorem vB(ha:Gq!)(hb:G3!){AA:w!}{s:Shared}{σ:St}{H:Hp}{R:V->Dq! V}(I:K!)(h:hY! (hO! (R x y H2))){Q:g?}{f:Ys!}(hf:∀v u s2 x y H2,AR! H2 s2->T6!->Au!->R x y H2->nG! s2) : iz! a (λv D_=>iK! (eval b X.env) (λu UD=>nG! UD) D_):=by refine D5! (qE! ha);rintro v s1 ⟨x,H1,I1,r1,q1⟩;refine gQ! hb;rintro u s2 ⟨y,H2,I2,r2,q2⟩;exact hf v u s2 x y H2 I2 r1 r2 q2
theorem Ay{op:Operator}{r:R2}(ho:Qk! op r)(ha:Gq!)(hb:G3!):Ai! (.BinOp a op b pos) nD!:=ck! (wpAny_BinOp (pT! vB (pX! ho y u Q rx ry q)))
theorem p_{f:Ys!}{C:wE Int Int}{g:UA! Int}(rule:∀(i j:Int) (t u:Tok) (s:Shared) (Q:g?) (E:g?),C i j->Q (g! OG! s.toks) Q8!->aB! (f Rp! (g! j u))) : PK X f (rI C λi j=>e4!):=by intro AA s σ H x y v u Q I rx ry h;obtain⟨i,j,rfl,rfl,hc,q⟩:=h;obtain⟨t,rfl⟩:=rx;obtain⟨t',rfl⟩:=ry;exact rule i j t t' s _ _ hc (jp! e4!)
theorem Jkr{f:Ys!}{g:UA! Int}(rule:∀(i j:Int) (t u:Tok) (s:Shared) (Q:g?) (E:g?),Q (g! OG! s.toks) Q8!->aB! (f Rp! (g! j u))) : PK X f (eX λi j=>e4!):=by intro AA s σ H x y v u Q I rx ry h;obtain⟨i,j,rfl,rfl,q⟩:=h;obtain⟨t,rfl⟩:=rx;obtain⟨t',rfl⟩:=ry;exact rule i j t t' s _ _ (jp! e4!)
theorem vH{f:Ys!}{g:UA! Bool}(rule:∀(i j:Int) (t u:Tok) (s:Shared) (Q:g?) (E:g?),jb! OG!->aB! (f Rp! (g! j u))) : PK X f (eX λi j=>.bl OG!):=by intro AA s σ H x y v u Q I rx ry h;obtain⟨i,j,rfl,rfl,q⟩:=h;obtain⟨t,rfl⟩:=rx;obtain⟨t',rfl⟩:=ry;exact rule i j t t' s _ _ (T9! (.bl OG!) q)
def Jng(i j:Int):Prop:=0<j/\j<1073741824
def Jnf(i j:Int):Prop:=0<=j/\j<=1000000/\i.natAbs<2 ^ 64
def jc(i j:Int):Prop:=(-(2 ^ 64)<i/\i<2 ^ 64)\/(-(2 ^ 64)<j/\j<2 ^ 64)
theorem jc.ok(h:jc i j):IntMulOk i j:=by
 rcases h with⟨h1,h2⟩|⟨h1,h2⟩;.exact .of_left (intBits_le_64 h1 h2)
 .exact .of_right (intBits_le_64 h1 h2)
theorem Eo:PK X (binaryOp .Add) (eX (Oo! (i+j))):=Y4! Jkr add_int
theorem Uc:PK X (binaryOp .Sub) (eX (Oo! (i-j))):=Y4! Jkr sub_int
theorem Ge:Qk! .Mult (rI jc (Oo! (i*j))):=p_ λ_ _ _ _ _ _ _ hc q=>mul_int q hc.ok
theorem Cj:Qk! .FloorDiv (rI Jng (Oo! (i / j))):=p_ λi j _ _ _ _ _ hc q=>by have h1:Sq!<j:=hc.1;have h2:j<1073741824:=hc.2;exact floordiv_int C! (P! (Int.fdiv_eq_ediv_of_nonneg i C!) q) (P? (PyProof.noPylong_small C!))
theorem Bj:Qk! .Mod (rI (λ_ j=>0<j) (Oo! (i % j))):=p_ λi j _ _ _ _ _ hc q=>by have h1:Sq!<j:=hc;exact H7! mod_int' (P! (Int.fmod_eq_emod_of_nonneg i C!) q)
theorem Yx:Qk! .Pow (rI Jnf (Oo! (i ^ j.toNat))):=p_ λ_ _ _ _ _ _ _ hc q=>pow_int_small hc.1 hc.2.1 hc.2.2 q
universe E
def Jke:V->V->Bool
 | .FC,.FC=>true|.FC,.int _=>true|.int _,.FC=>true|.FC,.bl _=>true|.bl _,.FC=>true|.FC,.str _=>true|.str _,.FC=>true
 | .int _,.int _=>true|.bl _,.bl _=>true|.str _,.str _=>true|.au _,.au _=>true
 | .int _,.str _=>true|.str _,.int _=>true|.bl _,.str _=>true|.str _,.bl _=>true
 | _,_=>false
def iK:R2:=λx y H Q=>Jke x y=true/\Q (YU! (x=y)) H
def rNe:R2:=λx y H Q=>Jke x y=true/\Nn! (Hw! (x=y)) H
theorem Jat:b1! i j=(i==j):=BH! QM
theorem Jfh:a? (V.bl i=V.bl j)=(i==j):=BH! QM
theorem Jas:a? (V.str i=V.str j)=(i==j):=BH! QM
theorem Jau:a? (V.au i=V.au j)=(i.toList==j.toList):=by rw[QM];cases i;cases j;simp
universe S
variable {X:Cx Kx}{a b c:Expr}{ta tb tc:TE}{pos:Pos}
theorem B3(I:K!)(q:Nn! k H)(e:k=k'):jG! (sK k'):=by subst e;exact T9! (.bl k) q
theorem Cz:Qj! .Eq iK:=by intro AA s σ H x y v u Q I rx ry h;obtain⟨hs,q⟩:=h;cases x with | FC =>cases rx;(cases y with | FC=>cases ry;exact pt PySem.EqNone.eq_none_none | bl j=>cases ry;exact pt PySem.EqNone.eq_none_bool | int j=>obtain⟨t',rfl⟩:=ry;exact pt PySem.EqNone.eq_none_int | str j=>obtain⟨t',rfl⟩:=ry;exact pt PySem.EqNone.eq_none_str | _=>exact EQ!) | bl i =>cases rx;(cases y with | FC=>cases ry;exact pt PySem.EqNone.eq_bool_none | bl j=>cases ry;exact eq_bool (B3 I q Jfh) | str j=>obtain⟨t',rfl⟩:=ry;exact pt PySem.EqMixed.eq_bool_str | _=>exact EQ!) | int i =>obtain⟨t,rfl⟩:=rx;(cases y with | FC=>cases ry;exact pt PySem.EqNone.eq_int_none | int j=>obtain⟨t',rfl⟩:=ry;exact eq_int (B3 I q Jat) | str j=>obtain⟨t',rfl⟩:=ry;exact pt PySem.EqMixed.eq_int_str | _=>exact EQ!) | str i =>obtain⟨t,rfl⟩:=rx;(cases y with | FC=>cases ry;exact pt PySem.EqNone.eq_str_none | bl j=>cases ry;exact pt PySem.EqMixed.eq_str_bool | int j=>obtain⟨t',rfl⟩:=ry;exact pt PySem.EqMixed.eq_str_int | str j=>obtain⟨t',rfl⟩:=ry;exact eq_str (B3 I q Jas) | _=>exact EQ!) | au i =>obtain⟨t,rfl⟩:=rx;(cases y with | au j=>obtain⟨t',rfl⟩:=ry;exact W.eq_bytes (B3 I q Jau) | _=>exact EQ!) | _=>cases y<;>exact EQ!
theorem Z9:Qj! .NotEq rNe:=by intro AA s σ H x y v u Q I rx ry h;obtain⟨hs,q⟩:=h;cases x with | FC =>cases rx;(cases y with | FC=>cases ry;exact pt PySem.EqNone.ne_none_none | bl j=>cases ry;exact pt PySem.EqNone.ne_none_bool | int j=>obtain⟨t',rfl⟩:=ry;exact pt PySem.EqNone.ne_none_int | str j=>obtain⟨t',rfl⟩:=ry;exact pt PySem.EqNone.ne_none_str | _=>exact EQ!) | bl i =>cases rx;(cases y with | FC=>cases ry;exact pt PySem.EqNone.ne_bool_none | bl j=>cases ry;exact nL! ne_bool Jfh | str j=>obtain⟨t',rfl⟩:=ry;exact pt PySem.EqMixed.ne_bool_str | _=>exact EQ!) | int i =>obtain⟨t,rfl⟩:=rx;(cases y with | FC=>cases ry;exact pt PySem.EqNone.ne_int_none | int j=>obtain⟨t',rfl⟩:=ry;exact nL! ne_int Jat | str j=>obtain⟨t',rfl⟩:=ry;exact pt PySem.EqMixed.ne_int_str | _=>exact EQ!) | str i =>obtain⟨t,rfl⟩:=rx;(cases y with | FC=>cases ry;exact pt PySem.EqNone.ne_str_none | bl j=>cases ry;exact pt PySem.EqMixed.ne_str_bool | int j=>obtain⟨t',rfl⟩:=ry;exact pt PySem.EqMixed.ne_str_int | str j=>obtain⟨t',rfl⟩:=ry;exact nL! ne_str Jas | _=>exact EQ!) | au i =>obtain⟨t,rfl⟩:=rx;(cases y with | au j=>obtain⟨t',rfl⟩:=ry;exact nL! W.ne_bytes Jau | _=>exact EQ!) | _=>cases y<;>exact EQ!
theorem vQ:Jp! .Lt eX (Zv! (i<j)):=Y4! vH lt_int
theorem vP:Jp! .Gt eX (Zv! (j<i)):=Y4! vH gt_int
theorem Jkq:Jp! .GtE eX (Zv! (j<=i)):=Y4! vH ge_int
theorem A7(b:Expr)(h:op≠.In:=by decide)(h2:op≠OV!:=by decide):SN!:=by
 have e1:AY! (op==CmpOp.In):=dU! gM!
 have e2:AY! (op==CmpOp.NotIn):=dU! (Fn! h2)
 cases b<;>simp[behindInMarks,e1,e2]
theorem La{op:CmpOp}{r:R2}(ho:Qj! op r)(ha:Gq!)(hb:G3!)(hm:SN!):Ai! (.Compare a [op] [b] pos) nD!:=ck! (wpAny_Compare1 (pT! vB (pX! ho y u Q rx ry q)) hm)
inductive Jju  (x:V) (H':Hp) (Q:Hf!):Prop
 | mk (k) (e0:x=.bl k) (e1:Q k H')
def Kw(t:TE):TT:=Kt! (λx H'=>Jju  x H' Q)
theorem A5(ho:Qj! op r)(ha:Gq!)(hb:G3!)(hm:SN!):PT X (.Compare a [op] [b] pos) (Kw nD!):=by intro AA s σ H Q I h;refine wpAny_isTrue_Compare1 (f2! ha (WE! hb (λu s2 ⟨y,H2,I2,r2,q2⟩ =>EM (pX! ho y u _ r1 r2 q2) λc s3 ⟨z,H3,I3,r3,k,e,q3⟩=>?_))) hm;subst e;cases r3;exact QJ ⟨H3,I3,q3⟩
def Jla(K:W.Frag)(x:V)(H:Hp)(k:Bool):Prop :=
 match x with
 | .FC=>k=false
 | .bl b=>k=b
 | .int i=>k=(i != 0)
 | .str y=>oZ! (y.length<=sizeLine) y.length
 | .au y=>oZ! (y.size<=sizeLine) y.size
 | .ref p=>jL! jA!\/jL! (Wr! xs)\/∃kvs,tE! p/\k=!kvs.isEmpty
 | _=>False
theorem Za(r:B7!):(!vs.isEmpty)=!kvs.isEmpty:=by cases r<;>rfl
theorem Qa(r:RP!):(!its.toArray.isEmpty)=!xs.isEmpty:=by cases r<;>simp
theorem Ux:(sizeLine:Nat)<2 ^ 63:=by rw[DF];decide
theorem Jia{X:I!}:Jna X (λx H Q=>∃k,Jla Kx x H k/\Q k H):=by intro AA s σ H x v Q I rx h;obtain⟨k,e,q⟩:=h;have hl:=Ux;have hs:sizeLine=16777216:=DF;cases x with | FC =>cases rx;have e':k=false:=e;subst e';exact truthy_none ⟨H,I,q⟩ | bl b =>cases rx;have e':k=b:=e;subst e';exact QJ ⟨H,I,q⟩ | int i =>obtain⟨t,rfl⟩:=rx;have e':k=(i != 0):=e;subst e';exact PySem.P.truthy_int ⟨H,I,q⟩ | str y =>obtain⟨t,rfl⟩:=rx;obtain⟨hy,e'⟩:oZ! (y.length<=sizeLine) y.length:=e;subst e';exact H7! PySem.P.truthy_str ⟨H,Hc!,q⟩ | au y =>obtain⟨t,rfl⟩:=rx;obtain⟨hy,e'⟩:oZ! (y.size<=sizeLine) y.size:=e;subst e';exact H7! W.truthy_bytes ⟨H,Hc!,q⟩ | ref p =>cases rx;have e':jL! (DO Kx H p xs)\/jL! (DN Kx H p xs)\/∃kvs,tE! p/\k=!kvs.isEmpty:=e;rcases e' with⟨xs,hx,e'⟩|⟨xs,hx,e'⟩|⟨kvs,hx,e'⟩;(.subst e';obtain⟨its,r,pl,hz⟩:=I.list hx;have hlen:=r.length;exact wpAny_truthy_list pl.isList (by simp only[BH];lia) (Oc! H Hc! (Qa r) q));(.subst e';obtain⟨its,r,pl,hz⟩:=I.tuple hx;have hlen:=r.length;exact truthy_tuple pl (by simp only[BH];lia) (Oc! H Hc! (Qa r) q));.subst e';obtain⟨hz,hS,vs,r,m⟩:UD!/\AY! (p==sysModules)/\∃vs,B7!/\s.heap.DictOf J4! p vs:=I.DM p _ hx;have hlen:UP!:=L? r;exact wpAny_truthy_dict hS m C! (Oc! H Hc! (Za r) q) | _=>exact(show False from e).elim
theorem Iv{X:I!}(ha:Gq!)(he:∀whole,isTrue a X.env whole=(do let v <-whole;standAt a.pos;holding [v] (truthy v))) :
 PT X a (S8! ta (λx H'=>∃k,Jla Kx x H' k/\Q k H')):=by
 intro AA s σ H Q I h
 exact isTrue_plain (f2! ha (Jia AA s1 σ H1 x v Q I1 r1 q1)) (he _)
theorem vals1(r:Vals [x] us):∃u,us=[u]/\JF!:=by cases r with | cons r1 r2=>cases r2;exact t? r1
universe E
structure aH(h:Heap)(x dx C:Addr)(mA:k?):Prop where
 obj:Eg! h.get? (kZ! dx)
 ns:h.Ns1 dx mA
 ne:dx≠x
theorem Jbv{h:Heap}{dx:Addr}{mA:k?}(n:h.Ns1 dx mA):∃od,Ir! dx od/\∀name,W.lookIn name od=B! (mA name):=by
 obtain⟨o,es,ep,ho,hd,hk,_,hm⟩:=n;refine BT! ho (λname=>?_);have e:=hm name;unfold nsFind findBy at e;rw[<-Array.find?_toList] at e;unfold W.lookIn;rw[hd];dsimp only;split;.rename_i y q;rw[q] at e;exact congrArg some e
 .rename_i q;rw[q] at e;(have a:i? (es.toList.any (·.refKey)):=by rw[List.any_eq_false];intro y hy;obtain⟨z,t,bY⟩:=hk y (Array.mem_toList_iff.mp hy);simp[DictEntry.refKey,bY]);(have a':¬Ix es.toList.any (·.refKey):=G! a AL);rw[AD a'];exact congrArg some e
theorem aH.look(I:oq! h):∃od,W.InstAt h x (kZ! dx) C (some od)/\∀name,W.lookIn name od=B! (mA name) :=let⟨od,ho,hl⟩:=Jbv I.ns;⟨od,⟨I.obj,rfl,rfl,ho⟩,hl⟩
universe S
variable {prog:Program}{w:World}{A:Around}{E:Value->Shared->Prop}{s:Shared}{K:W.Frag}{x dx C f:Addr}{mA:Str->Option Value}{name:Str}{v:Value}
theorem Jhe{expr:Bool}{Q:g?}(X:Qp!)(I:oq! s.heap)(hg:Zl! name)(hh:hs!)(ha:Gd! name)(hv:z! mA name v)(hv':Ix W.handedIn v)(h:Q v Q8!) : P7! getAttr PF! name expr:=by obtain⟨od,J,hl⟩:=I.look;exact W.get_value X J (W.plainGet_of hg).1 (W.findObj_own hh ha rfl (F8! hl hv)) hv' h
theorem Je2{pl:Sem Bool}{Q:Uf (Value×Z!)}(X:Qp!)(I:oq! s.heap)(hg:Zl! name)(hf:Z3! name)(ht:jk!)(hv:AT mA name)(h:Q (l! f,[l! x]) s) : P7! getMethod PF! name pl:=by obtain⟨od,J,hl⟩:=I.look;exact W.method_fn X J (W.plainGet_of hg).1 (W.plainGet_of hg).2 hf (JN.mp ht) (by show z! (W.lookIn name od).map (·.isSome) false;rw[hl,hv];rfl) h
theorem Jf6{ns:X?}{Q:I9!}(X:Qp!)(I:oq! s.heap)(hs:W.findIn K C8! "__setattr__"=B! (fl! "object.__setattr__"))(hp:T1! W.plainOver)(ht:W.takerIn K C name=B! none)(hh:hs!)(hw:PySem.Within mA ns)(hsz:ns.length<=sizeLine)(h:∀h',aH h' x dx C (λy=>sB (y=name) (B! v) (mA y))->rb! dx->Q () { s with heap:=h',toks:=s.toks+2 }) : Fj! (setAttr PF! name v):=by obtain⟨od,J,hl⟩:=I.look;refine W.set_plain X J hs (W.osa_open (s:=Q8!) (r:=none) X J hp ht λb=>?_);obtain⟨cd,hc,XD⟩:=W.any_some hh;have hx:Eg! s.heap.get? ⟨l! C,B! dx,.plain,#[]⟩:=I.obj;refine iA! (wpAny_loadPart hx (ZR (W.Looks.here (s:=Q8!) (W.looks_clsIn X hc) ?_)));rw[XD];refine ZS (a:=B! dx) (ZR (ZS (ZR ?_)));refine wpAny_nsSet1 (s:=Q8!) I.ns λh' gk YR=>?_;obtain⟨oD,esD,epD,hoD,hdD,hcD⟩:=gk.count (PySem.Within.cons name v hw);refine ZR (wpAny_lookBehind hoD (P! hdD (pastItsLine_dict (AR hcD (DG! BO)))) ?_);exact ZS (h _ ⟨(YR.2 _ (Ne.symm I.ne)).trans I.obj,gk,I.ne⟩ YR)
theorem Jeq{R:Uf Result}{vs:Z!}{kw:H5!}(X:Qp!)(hm:T1! W.makesIn)(hi:Z3! cs!)(hf:W.typeIn K EB!=B! (B9! "function"))(h:codeAny cM! (uL! ⟨l! C::vs,kw⟩) (.call EB! ⟨bU! BG!::vs,kw⟩) (W.InitBack (av!) R) (FQ! ((s.heap.push W.emptyDict).push (W.instObj C s.heap.objs.size)))) : nZ! (.call C8! ⟨vs,kw⟩) R s:=by obtain⟨hh,g,d,t,os⟩:=s;exact W.make_core (W.makes_of X hm) (W.looks_findIn X hi) (λself=>W.bind_fn X self hf) Bv! h
universe E
def Ar(f:Str)(v:V):Bc!->Bc!
 | []=>[(f,v)]
 | (g,x)::r=>di! (g=f) g ((g,x)::Ar f v r)
theorem Bb(f g:Str)(v:V):∀fs:Bc!,(Ar f v fs).lookup g=sB (g=f) (B! v) (fs.lookup g)
 | []=>by show List.lookup g [(f,v)]=_;by_cases h:g=f;(.have hb:Aa! (g==f):=JN.mpr h;simp only[List.lookup,hb,Ar!]);.have hb:AY! (g==f):=DU.mpr h;simp only[List.lookup,hb,BC!]
 | (k,x)::r=>by have ih:=Bb f g v r;rw[EX! (ld!=(di! (k=f) k lg!))];by_cases hk:k=f;(.rw[AE hk];by_cases h:g=k;(.have hb:Aa! (g==k):=JN.mpr h;simp only[List.lookup,hb,AE (h.trans hk)]);.have hb:AY! (g==k):=DU.mpr h;simp only[List.lookup,hb,AD (λe:g=f=>h (e.trans hk.symm))]);.rw[AD hk];by_cases h:g=k;(.have hb:Aa! (g==k):=JN.mpr h;simp only[List.lookup,hb,AD (λe:g=f=>hk (h.symm.trans e))]);.have hb:AY! (g==k):=DU.mpr h;simp only[List.lookup,hb];exact ih
theorem Mt(f:Str)(v:V):∀fs:Bc!,f∈G? (Ar f v fs).map/\∀g,g∈G? fs.map->g∈G? (Ar f v fs).map
 | []=>⟨by simp[Ar],λg h=>Cu!⟩
 | (k,x)::r=>by obtain⟨i1,i2⟩:=Mt f v r;rw[EX! (ld!=(di! (k=f) k lg!))];by_cases hk:k=f;(.rw[AE hk];subst hk;exact⟨B?,λg h=>x?⟩);.rw[AD hk];refine GP! (λg h=>?_);(.rw[AI];exact ZD _ i1);.rw[AI] at h ⊢;rcases ZM h with e|e;(.exact CM.mpr (P? e));.exact ZD _ (i2 g e)
theorem A3(f:Str)(v:V):∀fs:Bc!,(Ar f v fs).length<=fs.length+1
 | []=>by simp[Ar]
 | (k,x)::r=>by have ih:=A3 f v r;rw[EX! (ld!=(di! (k=f) k lg!))];by_cases hk:k=f;(.rw[AE hk,BO,BO];lia);.rw[AD hk,BO,BO];lia
theorem q8{v:V}{o:fG!}(r:PX (some v) o):∃u,o=B! u/\Ch!:=by cases o with | none=>exact RZ! | some u=>exact DO! u r
theorem Jn9(r:PX none o):o=none:=by cases o with | none=>rfl | some u=>exact RZ!
theorem Jcb(r:Ch!):Ix W.handedIn u:=by cases v with | FC=>cases GL! (u=Value.none);rfl | bl b=>cases GL! (u=Value.bool b);rfl | int i=>obtain⟨t,e⟩:=GL! R1!;cases e;rfl | str x=>obtain⟨t,e⟩:=GL! mv!;cases e;rfl | au b=>obtain⟨t,e⟩:=GL! (g2! Value.bytes);cases e;rfl | qY b=>obtain⟨t,e⟩:=GL! (g2! Value.float);cases e;rfl | ref a=>cases GL! CW!;rfl | ty n=>cases GL! (u=Value.type n);rfl
universe S
theorem Va(DM:Cl!)(e:if!):∃mA,aH h a dx C mA/\(∀f,PX (fs.lookup f) (mA f))/\PySem.Within mA (HA! fs.map)/\fs.length<=1000/\PT! dx a:=by obtain⟨d,z,ne,ob,mA,n,r,q⟩:=Eq! (G5! (Sc C dx fs)) (DM a _ e);exact⟨mA,⟨ob,n,ne⟩,r,q,z,d⟩
universe E
structure av(K:W.Frag)(C:Addr):Prop where
 pg:Zl! Str.empty
 hd:hs!
 po:T1! W.plainOver
 sa:W.findIn K C8! "__setattr__"=B! (fl! "object.__setattr__")
theorem av.get{K:W.Frag}{C:Addr}(c:av K C)(f:Str):Zl! f:=c.pg
def EA(K:W.Frag)(C:Addr)(f:Str):Prop:=Gd! f
theorem EA.pI{K:W.Frag}{C:Addr}{f:Str}(n:FH! f):W.takerIn K C f=B! none:=by unfold W.takerIn;rw[show Gd! f from n];rfl
structure nU(K:W.Frag)(C:Addr)(m:Str)(f:Addr):Prop where
 at_:Z3! m
 fn:jk!
 kp:W.keepIn K EB!=true
universe S
theorem Qd{X:I!}(I:K!)(e:if!)(c:Xl!)(n:EA Kx C f)(l:z! fs.lookup f v)(h:∀u s',LS!->Ch!->Q u s'):Kn! (getAttr PP f b):=by obtain⟨mA,O,r,_,_,_⟩:=NS! Va;obtain⟨u,hu,ru⟩:=o4! (mA f) (Hr! l (r f));exact Jhe I.YQ O (c.get f) c.hd n hu (Jcb ru) (h u _ (I.tok _) ru)
theorem Qc{X:I!}(I:K!)(e:if!)(c:Xl!)(k:nU Kx C m g)(l:AT fs.lookup m)(h:Q (l! g,Fv!) s):Kn! (getMethod PP m pl):=by obtain⟨mA,O,r,_,_,_⟩:=NS! Va;have hn:AT mA m:=Jn9 (N? l (r m));exact Je2 I.YQ O (c.get m) k.at_ k.fn hn h
theorem Oz{X:I!}(I:K!)(e:if!)(c:Xl!)(n:EA Kx C f)(hl:fs.length<1000)(ry:Au!)(h:∀s',r7! a (Sc C dx (Ar f y fs)) s'->Q () s'):Kn! (setAttr PP f u):=by
 obtain⟨mA,O,r,wi,_,ho⟩:=NS! Va;have hz:Av! (fs.map (·.1)).length:=Wq!
 refine Jf6 I.YQ O c.sa c.po n.pI c.hd wi hz λh' O' sb=>h _ ?_;have hd:∃o,H3! dx o:=let⟨o,_,_,e',_⟩:=O'.ns;DJ! e';refine I.write (x:=a) (e:=dx) tz! (wp ho) (λb q hb z=>XY! z) hd ?_;refine⟨i! O.ne ho,?_,O.ne,O'.obj,_,O'.ns,λg=>?_,λg hg=>?_⟩;.have:=A3 f y fs;lia
 .show PX ((Ar f y fs).lookup g) (KW! (g=f) (B! u) (mA g));rw[Bb];by_cases q:g=f;(.rw[AE q,AE q];exact ry);.rw[AD q,AD q];exact r g
 .by_cases q:g=f;(.rw[q];exact(Mt f y fs).1);.refine(Mt f y fs).2 g (wi g λz=>hg ?_);show KW! (g=f) (B! u) (mA g)=none;rw[AD q];exact z
theorem Inv.AW(I:K!):AR! (i0! (CG! s.heap.objs.size CA! UX!) UX! s.heap.objs.size) (FQ! ((s.heap.push W.emptyDict).push (W.instObj C s.heap.objs.size))):=by
 have e1:z! (s.heap.push W.emptyDict).get? s.heap.objs.size W.emptyDict:=ZU s.heap rfl;have e2:bU! ((s.heap.push W.emptyDict).push (W.instObj C s.heap.objs.size)).get?=B! (kZ! s.heap.objs.size):=by have:=ZU (s.heap.push W.emptyDict) (o:=W.instObj C s.heap.objs.size) rfl;rwa [Heap.size_push] at this
 have e3:(s.heap.push W.emptyDict).Ns s.heap.objs.size (M4!):=⟨W.emptyDict,#[],_,e1,rfl,(Ea! (absurd he (B?))),EZ!⟩;have I1:=I.laid (a:=s.heap.objs.size) (o:=bU! CA!) (h':=GK! W.emptyDict) (t':=s.toks) (λb u q=>ZT _ q) GM (T? e1);refine I1.laid (a:=av!) (o:=Sc C s.heap.objs.size []) (t':=s.toks) (λb u q=>ZT _ q) (Nat.le_of_eq (Heap.size_push _ _)) ?_;have ne:s.heap.objs.size≠av!:=BQ (JQ _);refine⟨R? (Ac ne) Ab,AZ!,ne,e2,M4!,(Heap.Ns1.of_empty e3).at λo q=>ZT _ q,λ_=>True.intro,λy hy=>Fn! hy⟩
theorem Jhm(hb:attributeBase e f env (eval e env)=eval e env)(h:Ru! (eval e env) (λo D_=>Xw! (getAttr o f true) D_)):Fj! (eval (Uq! e f pos) env) :=Attribute_any_ h (R? arm_eval_Attribute hb)
universe E
inductive Jlh(K:W.Frag)(f:Str)(x:V)(H1:Hp)(Q:VK):Prop
 | mk (a C dx fs v) (e0:BZ!) (e1:cV! H1) (e2:av K C) (e3:FH! f) (e4:z! fs.lookup f v) (e5:Q v H1)
def Te(K:W.Frag)(ta:TE)(f:Str):TE:=hZ! (Jlh K f x H1 Q)
def Jmj(K:W.Frag)(ta tv:TE)(f:Str):TS:=Op! tv (λy H1=>DB! ta (λx H2=>∃a C dx fs,BZ!/\cV! H2/\av K C/\FH! f/\fs.length<1000 /\
 Na! (upd H2 a (Sc C dx (Ar f y fs)))))
def q_(X:I!)(op:Operator)(rd:XM!):Prop :=
 ∀(AA:w!)(s:Shared)(σ:St)(H:Hp)(x y:V)(u v:Value)(Q:VK),K!->JF!->RelV y v->rd x y H Q->IV! (inplaceOp op u v)
def Jgc(K:W.Frag)(ta tv:TE)(rd:XM!)(f:Str):TS:=M1! (hY! (∃a C dx fs v,BZ!/\cV! H1/\av K C/\FH! f/\z! fs.lookup f v /\
 DB! tv (λy H2=>rd v y H2 λz H3=>∃um eD,H3 a=some (Sc C um eD)/\eD.length<1000/\Na! (upd H3 a (Sc C um (Ar f z eD))))))
universe S
theorem Ao{X:I!}(he:Ai! e ta)(hb:attributeBase e f X.env (eval e X.env)=rS!):I1! Uq! e f (Te Kx ta f):=by intro AA s σ H Q I h;refine Jhm hb Wg!;rintro u s1 ⟨x,H1,I1,rx,a,C,dx,fs,v,ex,ea,c,n,l,q⟩;subst ex;obtain rfl:CW!:=rx;exact Qd I1 ea c n l λu' s2 I2 ru=>⟨v,H1,I2,ru,q⟩
theorem Dk{X:I!}(ha:g0!)(hv:kg!)(hs:ny! value (some (Uq! o f pos'))):kz! [Uq! o f pos'] value (Jmj Kx ta tv f):=by intro AA s σ H D I h;refine plainObj_wpAny_Assign_Attribute (s4! hv) hs;rintro u s1 ⟨y,H1,I1,ry,q⟩;refine D5! (ha AA s1 σ H1 _ I1 q);rintro ov s2 ⟨x,H2,I2,rx,a,C,dx,fs,ex,ea,c,n,l,q2⟩;subst ex;obtain rfl:ov=s6!:=rx;exact Oz I2 ea c n l ry λs3 I3=>Ib! _ I3 q2
theorem C1{X:I!}(ha:g0!)(hv:kg!)(uD:q_ X op rd):PS X (.AugAssign (Uq! o f vd) op value pos) (Jgc Kx ta tv rd f):=by intro AA s σ H D I h;refine jK! wpAny_AugAssign_AttributeAny;rintro ov s1 ⟨x,H1,I1,rx,a,C,dx,fs,v,ex,ea,c,n,l,q⟩;subst ex;obtain rfl:ov=s6!:=rx;refine Qd I1 ea c n l λu s2 I2 ru=>D5! (hv AA s2 σ H1 _ I2 q);rintro w3 s3 ⟨y,H2,I3,ry,q3⟩;refine D5! (uD AA s3 σ H2 v y u w3 _ I3 ru ry q3);rintro w4 s4 ⟨z,H3,I4,rz,um,eD,bM,l',q4⟩;exact Oz I4 bM c n l' rz λs5 I5=>Ib! _ I5 q4
inductive Jms(x:V)(y:V)(H:Hp)(Q:VK):Prop
 | mk i j (_:Us!) (_:Ut!) (_:Qa! (i+j))
inductive Jmk(x:V)(y:V)(H:Hp)(Q:VK):Prop
 | mk i j (_:Us!) (_:Ut!) (_:Qa! (i-j))
theorem Ep:q_ X .Add Jms:=by rintro AA s σ H x y u v Q I rx ry ⟨i,j,rfl,rfl,q⟩;obtain⟨t,rfl⟩:=(show R1! from rx);obtain⟨t',rfl⟩:=rT! (∃t',v=Value.int j t');exact PyProof.Rows.iadd_int (jp! (g! (i+j)))
theorem Jew:q_ X .Sub Jmk:=by rintro AA s σ H x y u v Q I rx ry ⟨i,j,rfl,rfl,q⟩;obtain⟨t,rfl⟩:=(show R1! from rx);obtain⟨t',rfl⟩:=rT! (∃t',v=Value.int j t');exact PyProof.Rows.isub_int (jp! (g! (i-j)))
universe E
universe S
universe E
structure CT(k:Nat)(A:Around):Prop where
 hd:M5!
 dp:A.depth+3*k+5<recursionLimit
 un:A.units+16*k+200<cLine
theorem CT.mono(r:Qh!)(h:j<=k):CT j A:=⟨r.hd,by have:=r.dp;lia,by have:=r.un;lia⟩
theorem CT.deeper(r:ZN! A)(env:Env):Yn! env :=⟨r.hd,by have:=r.dp;show A.depth+1+3*k+5<_;lia,by have:=r.un;show A.units+3+16*k+200<_;lia⟩
theorem Y5{A:Around}{C:Addr}{us:Z!}{kw:H5!}:(A.under (.builtin "type.__call__" ik!)).depth=A.depth+1:=by first|rfl|simp[Around.under,Code.weight,Code.isCreation,Code.isGuard,Code.isCaller,Code.frames,Code.isFrame,guardIds]
theorem Y4{A:Around}{C:Addr}{us:Z!}{kw:H5!}:(A.under (.builtin "type.__call__" ik!)).units=A.units+1:=by first|rfl|simp[Around.under,Code.cUnits,Code.frames,Code.isFrame]
theorem CT.make(r:ZN! A)(C:Addr)(us:Z!)(kw:H5!):CT k (A.under (CB! "type.__call__" ik!)) :=⟨r.hd,by have:=r.dp;rw[Y5];lia,by have:=r.un;rw[Y4];lia⟩
theorem CT.depth(r:Qh!):A.depth<recursionLimit:=by have:=r.dp;lia
theorem CT.units(r:Qh!):A.units+64<cLine:=by have:=r.un;lia
def Mb:TA:=λ_ H Q=>Q [] H
def Dy(ta:TE)(tr:TA):TA:=hZ! (DB! tr (λxs H2=>Q (x::xs) H2))
universe S
theorem Ae:PA X [] Mb:=λ_ _ _ _ H Q I h=>KA ⟨[],H,I,O!,h⟩
theorem Aa(ha:W2!)(hr:PA X es t)(hs:Mv!:=by rfl):PA X NY! (Dy te t):=by intro pos AA s σ H Q I h;rw[hs];show T4! (spliced ((false,rS!)::backTo pos (starEach es X.env)));refine jK! HJ;rintro u s1 ⟨x,H1,I1,r1,q1⟩;exact EM (hr pos AA s1 σ H1 _ I1 q1) λus s2 ⟨xs,H2,I2,r2,q2⟩=>⟨x::xs,H2,I2,q! r1 r2,q2⟩
inductive Jlf  (xs:E!) (H1:Hp) (Q:VK):Prop
 | mk  (e0:Dg!) (e1:∀p,IA! p->am p (AA! H1 p .BG xs))
def rD(t:TA):TE:=Kt! (λxs H1=>Jlf  xs H1 Q)
inductive Jlg  (xs:E!) (H1:Hp) (Q:VK):Prop
 | mk  (e0:Dg!) (e1:∀p,IA! p->am p (FX! H1 p xs))
def Jlw(t:TA):TE:=Kt! (λxs H1=>Jlg  xs H1 Q)
theorem Co(h:PA X es t):PE X (.Tuple es x1 pos) (rD t):=by intro AA s σ H Q I hq;refine wpAny_Tuple_spliced (EM (h pos AA s σ H _ I hq) λus s1 ⟨xs,H1,I1,r,z,q⟩=>d? (K5! r.length));have hf:IA! s1.heap.objs.size:=QO!;refine Te! s1.heap.objs.size (GY! H1 s1.heap.objs.size xs) (I1.laid (t':=s1.toks) (λb u e=>HP!) GM ?_) (q _ hf);exact⟨z,us,r,nC! CS!⟩
theorem De(h:PA X es t):PE X (.List es pos) (Jlw t):=by intro AA s σ H Q I hq;refine wpAny_List_spliced (EM (h pos AA s σ H _ I hq) λus s1 ⟨xs,H1,I1,r,z,q⟩=>d? (K5! r.length));have hf:IA! s1.heap.objs.size:=QO!;refine Te! s1.heap.objs.size (KO! H1 s1.heap.objs.size xs) (I1.laid (t':=s1.toks) (λb u e=>HP!) GM ?_) (q _ hf);exact⟨z,us,0,r,CS!⟩
universe E
abbrev Sp:=E!->Hp->wE VK XK
abbrev cG:=Ba!->Hp->Shared->XK->g?
structure aK(P:Program)(w:World)(K:W.Frag)(mg:k?)(base:Heap)(A:Around)(outer:Ba!)(s:Shared)(H:Hp):Prop where
 frames:A.frames=B! outer
 mod:Mod K mg base
 bs:cr (AB! base.get?->Dw!/\s?)
 eO:base.objs.size<=s.heap.objs.size
 OQ:s.heap.FunFrames base outer
 gn:∀b∈OZ outer,s?
 DM:MW P w H s.heap
 bare:AllBare s.gens
inductive CE(outer:Ba!)(P:Program)(w:World)(H:Hp)(s:Shared)(Q:VK)(u:Value)(s':Shared):Prop
 | mk v H' (_:s'.os=s.os) (_:Qw!) (_:lS! outer [] s'.heap) (_:MW P w H' s'.heap) (_:Ch!) (_:IG!)
def CR(CX:cG)(outer:Ba!)(P:Program)(w:World)(H:Hp)(s:Shared)(Q:VK)(E:XK)(r:Result)(s':Shared):Prop :=
 match r with
 | .ok (.ret u)=>CE outer P w H s Q u s'
 | .ok _=>False
 | .error e=>CX outer H s E e s'
structure EB(P:Program)(w:World)(K:W.Frag)(mg:k?)(base:Heap)(CX:cG)(k:Nat)(f:Addr)(fd:FuncData)(ps:X?)(sp:Sp):Prop where
 len:jT!
 run:∀(A:Around)(outer:Ba!)(s:Shared)(H:Hp)(args:Args)(us:Z!)(vs:E!)(Q:VK)(E:XK),Qh!->o3! A->BindsTo s fd args (ps.zip us)->QF!->T7! ->
  codeAny (model P w) A (.call EB! args) (CR CX outer P w H s Q E) s
theorem EB.mono{P:Program}{w:World}{K:W.Frag}{mg:k?}{base:Heap}{CX:cG}{j k:Nat}{f:Addr}{fd:FuncData}{ps:X?}{sp:Sp}(F:EB P w K mg base CX j f fd ps sp)(h:j<=k) : EB P w K mg base CX k f fd ps sp:=⟨F.len,λA outer s H args us vs Q E hr=>F.run A outer s H args us vs Q E (hr.mono h)⟩
theorem aK.make{P:Program}{w:World}{K:W.Frag}{mg:k?}{base:Heap}{A:Around}{outer:Ba!}{s:Shared}{H:Hp}(e:o3! A)(C:Addr)(us:Z!)(kw:H5!) : o3! (uL! ik!):=⟨by first|exact e.frames|(simpa [Around.under,Code.envs,Code.isFrame,pushEnvs] using e.frames),e.mod,e.bs,e.eO,e.OQ,e.gn,e.DM,e.bare⟩
universe S
theorem Inv.o6{X:I!}(I:K!):aK X.prog X.w Kx X.mg X.base X.A X.stack s H :=⟨I.ok.frames,I.ok.mod,I.bs,AR I.ok.eO I.sz,I.stack,I.WU,I.DM,I.bare⟩
theorem Inv.after(I:K!)(h:CE X.stack X.prog X.w H s Q u s'):EP X AA σ Q u s':=by obtain⟨v,H',os,bare,un,DM,r,q⟩:=h;obtain⟨hh,g,d,t,os'⟩:=s';obtain rfl:os'=s.os:=os;exact⟨v,H',I.call (h':=hh) (g':=g) (d':=d) (t':=t) (ch:=[]) un DM bare (λb z=>absurd z (B?)),r,q⟩
universe E
def Jkb(sp:Sp)(QD:E!)(E:XK)(t:TA):TE:=Kt! (λvs H1=>sp Kz! H1 Q E)
inductive Jjv(C:Addr)(m:Str)(sp:Sp)(QD:E!)(E:XK)(t:TA)(σ:St)(x:V)(H1:Hp)(Q:VK):Prop
 | mk (a dx fs) (e0:BZ!) (e1:cV! H1) (e2:AT fs.lookup m) (e3:DB! t (λvs H2=>sp (x::Kz!) H2 Q E))
def Rb(C:Addr)(m:Str)(sp:Sp)(QD:E!)(E:XK)(ta:TE)(t:TA):TE:=hZ! (Jjv C m sp QD E t σ x H1 Q)
def Zs(C:Addr)(sp:Sp)(QD:E!)(E:XK)(t:TA):TE:=Kt! (λvs H1=>∀x dx,IA! x->IA! dx->dx≠x ->
 sp (l! x::Kz!) (i0! (AA! H1 dx CA! x) x dx) (λv H2=>v=.FC/\am x H2) E)
def Binds(K:W.Frag)(fd:FuncData)(ps:X?)(ds:Z!):Prop :=
 ∀(s:Shared)(us:Z!),Qp!->By! M6!=ps.length->BindsTo s fd P1! (ps.zip (M6!))
theorem Binds.all{K:W.Frag}{fd:FuncData}{ps:X?}(h:∀us:Z!,us.length=ps.length->bindArgs fd P1!=m2!):ZX!:=λs us _ hl=>by rw[AH] at hl ⊢;exact .of_eq (h us hl)
def Ie(CX:cG)(X:I!)(E:XK):Prop:=∀(AA:w!)(σ:St)(H:Hp)(s:Shared)(e:Value)(s':Shared),N5! (CX X.stack H s E e s') (X.xe e s')
universe S
theorem Yt{X:I!}{AA:w!}{σ:St}{H:Hp}{s:Shared}{Q:VK}{us:Z!}{vs:E!}(F:Mz!)(hr:CT k X.A)(hb:My!)(hd:Mm!)(hx:Mt!)(I:K!)(r:QF!)(h:CR! sp Kz!):IV! (call EB! us):=by
 have r2:Vals (vs++QD) (M6!):=r.append hd;have hl:By! M6!=ps.length:=N? r2.length (F.len _ _ _ _ h)
 refine wpAny_call (IL (F.run X.A X.stack s H P1! (M6!) Kz! Q E hr I.o6 (hb s us I.YQ hl) r2 h) λr s' hq=>?_);cases r with | error e=>exact hx AA σ H s e s' I hq | ok fl =>cases fl with | ret u=>exact I.after hq | next=>exact False.elim hq | brk=>exact False.elim hq | cont=>exact False.elim hq
theorem Ba{X:I!}(F:Mz!)(hr:CT k X.A)(hg:Ju!)(hm:fS! EB!)(hk:W.keepIn Kx EB!=true)(hb:My!)(hd:Mm!)(hx:Mt!)(ha:RD!)(fN:Gl!:=by decide)(he:Mv!:=by rfl)(YG:Yr!:=by rfl) : k8! (Jkb sp QD E t):=by intro AA s σ H Q I h;refine JF (Oe I hg hm ?_ fN);refine W.callWith_K (h₀:=X.base) I.ok.mod.cN hk (Zy! (λus s1 ⟨vs,H1,I1,r,q⟩=>d? I1.YQ)) he YG;exact Yt F hr hb hd hx I1 r q
theorem Ap{X:I!}{pl:Sem Bool}(he:g0!)(c:Xl!)(hm:nU Kx C m f)(F:Mz!)(hr:CT k X.A)(hb:My!)(hd:Mm!)(hx:Mt!)(ha:RD!)(t_:Mv!:=by rfl)(YG:Yr!:=by rfl)(ht:eval (.Call hx! NY! [] pos) X.env=(do
  let ov <-cG! o
  standAt apos.atName
  let(f,first) <-holding [ov] (getMethod ov m pl)
  callWith pos f first (tG! pos NY!) (uH! pos)):=by rfl) :
 sV! hx! NY! (Rb C m sp QD E ta t):=by
 intro AA s σ H Q I h
 refine W.methodCall_KW (pl:=pl) Wg! ht
 rintro u s1 ⟨x,H1,I1,rx,a,dx,fs,ex,ea,l,q⟩
 subst ex
 obtain rfl:CW!:=rx
 refine Qc I1 ea c hm l ?_
 refine W.callWith_K (first:=Fv!) (h₀:=X.base) I.ok.mod.cN hm.kp (EM (ha pos AA s1 σ H1 _ I1 q) λus s2 ⟨vs,H2,I2,r,q2⟩=>d? I2.YQ) t_ YG
 exact Yt (us:=Tk::us) (vs:=Tk::vs) F hr hb hd hx I2 (q! rfl r) q2
theorem Dc{X:I!}{pl:Sem Bool}(he:g0!)(c:Xl!)(hm:nU Kx C m f)(F:Mz!)(hr:CT k X.A)(hb:My!)(hd:Mm!)(hx:Mt!)(ht:eval (.Call hx! [] [] pos) X.env=(do
  let ov <-cG! o
  standAt apos.atName
  let(f,first) <-holding [ov] (getMethod ov m pl)
  callWith pos f first (tG! pos []) (uH! pos)):=by rfl) :
 sV! hx! [] (Rb C m sp QD E ta Mb):=by
 intro AA s σ H Q I h
 refine W.methodCall_KW (pl:=pl) Wg! ht
 rintro u s1 ⟨x,H1,I1,rx,a,dx,fs,ex,ea,l,q⟩
 subst ex
 obtain rfl:CW!:=rx
 refine Qc I1 ea c hm l ?_
 exact W.callWith_K0 (first:=Fv!) I1.YQ hm.kp (Yt (us:=Fv!) (vs:=Fv!) F hr hb hd hx I1 (iP! rfl) q)
structure Mk(K:W.Frag)(C f:Addr):Prop where
 makes:T1! W.makesIn
 init:Z3! cs!
 fn:jk!
 kp:W.keepIn K C8!=true
theorem Wd{X:I!}{AA:w!}{σ:St}{H:Hp}{s:Shared}{Q:VK}{us:Z!}{vs:E!}(M:Mk Kx C f)(F:Mz!)(hr:ZN! X.A)(hb:My!)(hd:Mm!)(hx:Mt!)(I:K!)(r:QF!)(h:∀x dx,p? x->p? dx->dx≠x->sp (l! x::Kz!) (i0! (CG! dx CA! x) x dx) (λv H2=>v=.FC/\am x H2) E) : IV! (call C8! us):=by
 have hq:=h UX! s.heap.objs.size (I.DM.fresh (E_ _)) (I.DM.fresh (ZG _)) (BQ (JQ _));have I2:=Inv.AW (C:=C) I;have r2:Vals (bU! V.ref::Kz!) (Xa!::(M6!)):=q! rfl (r.append hd);have hl:By! (Xa!::us++ds)=ps.length:=by have e:=r2.length;rw[F.len _ _ _ _ hq] at e;exact e.symm
 refine wpAny_call (Jeq (f:=f) I.YQ M.makes M.init (JN.mp M.fn) (IL (F.run _ X.stack _ _ ⟨Xa!::us,[]⟩ (Xa!::(M6!)) _ _ E (hr.make C us []) (I2.o6.make C us []) (hb _ (Xa!::us) I2.YQ hl) r2 hq) λr s' bH=>?_));cases r with | error e=>exact hx AA σ _ _ e s' I2 bH | ok fl =>cases fl with | ret u =>obtain⟨v,H',I3,rv,ev,q3⟩:=I2.after bH;subst ev;exact⟨rv,⟨bU! V.ref,H',I3,rfl,q3⟩⟩ | next=>exact c0! bH | brk=>exact c0! bH | cont=>exact c0! bH
theorem T8{X:I!}(M:Mk Kx C f)(F:Mz!)(hr:ZN! X.A)(hg:Ju!)(hm:fS! C8!)(hb:My!)(hd:Mm!)(hx:Mt!)(ha:RD!)(fN:Gl!:=by decide)(he:Mv!:=by rfl)(YG:Yr!:=by rfl) : k8! (Zs C sp QD E t):=by intro AA s σ H Q I h;refine JF (Oe I hg hm ?_ fN);refine W.callWith_K (h₀:=X.base) I.ok.mod.cN M.kp (Zy! (λus s1 ⟨vs,H1,I1,r,q⟩=>d? I1.YQ)) he YG;exact Wd M F hr hb hd hx I1 r q
theorem Jdx{X:I!}(M:Mk Kx C f)(F:Mz!)(hr:ZN! X.A)(hg:Ju!)(hm:fS! C8!)(hb:My!)(hd:Mm!)(hx:Mt!)(fN:Gl!:=by decide):sV! (TT! p) [] (Zs C sp QD E Mb):=by intro AA s σ H Q I h;refine JF (Oe I hg hm ?_ fN);exact W.callWith_K0 I.YQ M.kp (Wd (us:=[]) M F hr hb hd hx I O! h)
universe E
universe S
universe E
structure Aq(N P:X?)(sc:Scope):Prop where
 kind:U1!:=by rfl
 co:sc.isCoroutine=false:=by rfl
 gen:sc.isGenerator=false:=by rfl
 nd:N.Nodup:=by decide +kernel
 pre:N.take P.length=P:=by rfl
 par:∀x∈P,QW!\/iv!:=by decide +kernel
 jg:dk! Cq!:=by decide +kernel
theorem So{kindOf:fk!}{x:Str}:∀{binds:H5!} {m:k?},(∀v,(x,v)∉binds)->bindL kindOf binds m x=m x
 | [],_,_=>rfl
 | (n,v)::r,m,h=>by unfold bindL;rw[So λw hw=>h w (wn hw)];split;(·(have:x≠n:=by rintro rfl;exact h v ZL);simp[this]);.rfl
theorem Sr{kindOf:fk!}{x:Str}:∀{binds:H5!} {m:k?},(∀v,(x,v)∉binds)->bindC kindOf binds m x=m x
 | [],_,_=>rfl
 | (n,v)::r,m,h=>by unfold bindC;rw[Sr λw hw=>h w (wn hw)];split;(.rfl);·(have:x≠n:=by rintro rfl;exact h v ZL);simp[this]
theorem Sq{kindOf:fk!}{x:Str}{v:Value}:∀{P:X?} {vs:Z!} {i:Nat} {m:k?},P.Nodup->P[i]?=B! x->vs[i]?=B! v->rE! kindOf -> bindL kindOf (P.zip vs) m x=B! v
 | [],_,_,_,_,h,_,_=>Cu!
 | _::_,[],_,_,_,_,h,_=>Cu!
 | p::P,w::vs,0,m,nd,h1,h2,hk=>by simp at h1 h2;subst h1;subst h2;show pp! bindL p;unfold bindL;rw[So λv hv=>(AZ.mp nd).1 (List.of_mem_zip hv).1,AE hk];simp
 | p::P,w::vs,i+1,m,nd,h1,h2,hk=>by show pp! bindL x;unfold bindL;exact Sq (i:=i) (AZ.mp nd).2 (by simpa using h1) (V7!) hk
theorem Ss{kindOf:fk!}{x:Str}{v:Value}:∀{P:X?} {vs:Z!} {i:Nat} {m:k?},P.Nodup->P[i]?=B! x->vs[i]?=B! v->kindOf x≠B! OS! -> bindC kindOf (P.zip vs) m x=B! v
 | [],_,_,_,_,h,_,_=>Cu!
 | _::_,[],_,_,_,_,h,_=>Cu!
 | p::P,w::vs,0,m,nd,h1,h2,hk=>by simp at h1 h2;subst h1;subst h2;show pp! bindC p;unfold bindC;rw[Sr λv hv=>(AZ.mp nd).1 (List.of_mem_zip hv).1,AD hk];simp
 | p::P,w::vs,i+1,m,nd,h1,h2,hk=>by show pp! bindC x;unfold bindC;exact Ss (i:=i) (AZ.mp nd).2 (by simpa using h1) (V7!) hk
def start(N:X?)(vs:E!):St:=vs.map some++List.replicate (N.length-vs.length) none
def Kj(CX:cG)(P:Program)(w:World)(K:W.Frag)(mg:k?)(base:Heap)(N:X?)(qual:Str)(scope:Scope)(f:Addr)(cd:Value)(A:Around)(outer:Ba!)(s:Shared)(H:Hp)(E:XK):Cx K where
 prog:=P
 w:=w
 mg:=mg
 base:=base
 A:=A.deeper (pk!)
 N:=N
 HI:=s
 TB:=H
 env:=pk!
 outer:=outer
 stack:=pk!::outer
 ex:=[]
 calm:=true
 fn:=λ_=>true
 pn:=[]
 xe:=λe s'=>KF! P w (A.deeper uJ!) (leaving uJ! e) (λ_ sR=>CX outer H s E e sR) (λe' sR=>CX outer H s E e' sR) s'
theorem X3{sc:Scope}{n:Nat}{x:Str}(h:iv!):∃c,TE! (cellsFrom n sc.names []).lookup:=by have q:=W.cellsFrom_some sc.names n [] S1!;exact Option.isSome_iff_exists.mp q
theorem Jb4{CX:cG}{P:Program}{w:World}{K:W.Frag}{mg:k?}{base:Heap}{N ps:X?}{qual:Str}{scope:Scope}{f:Addr}{cd:Value}{A:Around}{outer:Ba!}{s s1:Shared}{H:Hp}{E:XK}{us:Z!}{vs:E!}(S:Aq N ps scope)(hd:M5!)(e0:o3! A)(hl:vs.length=ps.length)(r:QF!)(x:InCallC s s.heap.objs.size (bindL (envOfC qual scope s.heap.objs.size f cd).kindOf (ps.zip us) M4!) (cellsFrom UX! scope.names []) (bindC (envOfC qual scope s.heap.objs.size f cd).kindOf (ps.zip us) M4!) s1) : Inv (ss! cd) [] se! H s1:=by
 have YG:ps.length<=N.length:=by have:=MJ! S.pre;rw[CG] at this;lia
 obtain⟨h1,tk,rfl,hk⟩:=x.done;have lX:∀b:Addr,b∉(Kj CX P w K mg base N qual scope f cd A outer s H E).ex:=λb z=>kn! (show b∈([]:J!) from z);refine⟨⟨e0.mod,S.kind,rfl,rfl,At,λy z c h1 h2=>?_,If!,λy c _ h=>?_,λ_=>hd,Around.frames_deeper e0.frames,N! DL!,λb z=>absurd z (lX b),e0.bs,e0.eO,λb _ _=>lX b,λb z=>absurd z (lX b),e0.OQ,e0.gn⟩,rfl,e0.bare,Un.kept hk,Az! x.toInCall.ns (λi y v h1 h2 h3=>?_),λy c h=>T? (x.cell y c h),e0.DM.fresh (ZG _),λy c h=>?_,λp hp=>kn! (show p∈([]:w!) from hp),e0.DM.kept hk,?_⟩;.exact name_of_addr x.apart (IB h1) (IB h2)
 .have hy:HF! scope.names.lookup KM\/HF! scope.names.lookup Cq!:=hy;rcases hy with hy|hy;(.exact X3 hy);.exact Fn! (S.jg _ (IB hy))
 .exact DJ (x.above y c (IB h))
 ·(have hi:i<vs.length:=by unfold start at h2;by_cases hi:i<vs.length;(.exact hi);.rw[List.getElem?_append_right (by simpa using hi)] at h2;rw[List.getElem?_replicate] at h2;split at h2<;>cases h2);(have ha:vs[i]?=B! v:=by unfold start at h2;rw[EH (by simpa using hi),ZH] at h2;cases e:vs[i]? with | none=>rw[e] at h2;cases h2 | some a=>rw[e] at h2;cases h2;rfl);obtain⟨u,hu,rv⟩:=r.get ha;(have hp:ps[i]?=B! y:=by rw[<-S.pre,AW! List.getElem?_take_of_lt];exact h1);(have yr:ps.Nodup:=N? S.pre (S.nd.sublist (List.take_sublist _ _)));refine Go u rv;rcases S.par y (ZP hp) with k|k;(.exact Am! k (Sq yr hp hu k));.obtain⟨c,e⟩:=X3 (n:=av!) k;refine QS! Iu! c ?_;have q:=x.cell y c e;rw[Ss yr hp hu (by show scope.names.lookup y≠_;rw[k];decide)] at q;exact q
 .exact e0.DM.fresh (DJ (x.above y c (IB h)))
 .unfold start;show _=N.length;rw[ZE,ZA,List.length_replicate];lia
theorem Jh4{CX:cG}{P:Program}{w:World}{K:W.Frag}{mg:k?}{base:Heap}{k:Nat}{f:Addr}{name qual:Str}{params:Arguments}{body:ef!}{scope:Scope}{dV kV doc pm DZ ct oc:Value}{an od:I2!}{iM:Array (Option Value)}{N ps:X?}{sp:Sp}(lk:z! K.lookup f ⟨oc,od,.func (si! name qual params body scope dV),iM⟩)(bK:W.codeIn K DZ qual=true)(S:Aq N ps scope)(len:jT!)(YC:∀(A:Around) (outer:Ba!) (s:Shared) (H:Hp) (vs:E!) (Q:VK) (E:XK),Yn! (cW! scope DZ)->T7! -> o5! (QO (b0! CX DZ) body t)) : ph! CX (k+1) f (si! name qual params body scope dV) ps sp:=by
 refine⟨len,λA outer s H args us vs Q E hr e0 hb r dw=>?_⟩;have hl:=len _ _ _ _ dw;have KX:Qp!:=e0.mod.cN.keeps (AQ! (Uf! e0.bs));have lim:s.heap.NoLimit:=e0.mod.nolimit.keeps (AQ! (Uf! e0.bs));have OA:∀y∈ps.zip us,ka! scope.names.lookup\/(z! scope.names.lookup y.1 KM/\((cellsFrom UX! scope.names []).lookup y.1).isSome=true):=λ⟨n,v⟩ hy=>by rcases S.par n (List.of_mem_zip hy).1 with q|q;(.exact H! q);.exact c? q (h! W.cellsFrom_some _ (A1! q))
 refine codeAny_call_function hr.depth (v! KX lk) rfl S.co S.gen rfl (W.codeRec_of KX bK) (hb _ _ _ _ ?_);refine wpAny_newFunctionEnv_cells S.kind OA λenv he s1 x=>?_;subst he;refine⟨lim.keeps x.toInCall.keep,codeAny_func ?_⟩;obtain⟨t,ht,hq⟩:=YC A outer s H vs Q E (hr.deeper _) dw;have I:Inv (ss! DZ) [] se! H s1:=Jb4 S hr.hd e0 hl r x;refine FA (ht [] s1 se! H _ I hq) (λfl s' hs=>?_) λe s' hs=>hs;have fin:∀{EN:St} {H':Hp} {v:V} {u:Value},Inv (ss! DZ) [] EN H' s'->Ch!->IG!->CE outer P w H s Q u s' :=λ{EN H' v u} J rv q=>⟨v,H',J.os,J.bare,J.base,J.DM,rv,q⟩;cases fl with | ret u =>obtain⟨v,EN,H',J,rv,q⟩:=hs;exact fin J rv q | next =>obtain⟨EN,H',J,q⟩:=hs;exact fin (v:=V.FC) (u:=Value.none) J rfl q | brk =>obtain⟨_,_,_,q⟩:=hs;exact False.elim q | cont =>obtain⟨_,_,_,q⟩:=hs;exact False.elim q
universe S
variable {X:Cx Kx}{x:Str}{p pos:Pos}{e:Expr}{es:List Expr}{t:TA}{id T:String}{r:List V->Hp->VK->Prop}
def yH(r:E!->s8!)(t:TA):TE:=Kt! (λvs H1=>r vs H1 Q)
theorem Bg(hc:Ga X (CB! id) r)(hg:Ju!)(hm:AT X.mg x)(hv:b? bootBuiltins x CB! id)(ha:RD!)(hn:Uk!:=by decide)(fN:Gl!:=by decide)(he:Mv!:=by rfl)(YG:Yr!:=by rfl):k8! (yH r t):=by intro AA s σ H Q I h;refine JF (Y7 I hg hm hv ?_ hn fN);exact PyProof.Rows.callWith_builtin1 (Zy! (λus s1 ⟨vs,H1,I1,r1,q1⟩=>hc AA s1 σ H1 vs us Q I1 r1 q1)) he YG
theorem Dr(hc:Ga X (B9! T) r)(hg:Ju!)(hm:AT X.mg x)(hv:b? bootBuiltins x B9! T)(ha:RD!)(hn:Uk!:=by decide)(fN:Gl!:=by decide)(he:Mv!:=by rfl)(YG:Yr!:=by rfl):k8! (yH r t):=by intro AA s σ H Q I h;refine JF (Y7 I hg hm hv ?_ hn fN);exact PyProof.Rows.callWith_type1 (Zy! (λus s1 ⟨vs,H1,I1,r1,q1⟩=>hc AA s1 σ H1 vs us Q I1 r1 q1)) he YG
universe E
universe S
variable [DecidableEq κ]
def Ca(kvs:AK!)(k:κ):SB:=Bw! kvs.find? sQ! T0
def putK(kvs:AK!)(k:κ)(v:V):AK! :=
 if kY!=true then kvs.map (lz! (kv.1,v)) else kvs++[(k,v)]
def Dp(kvs:AK!)(k:κ):AK!:=kvs.filter λkv=>a? (kv.1≠k)
theorem Kt{p:κ×V}{r:AK!}{k:κ}(e:EG!):Ca (p::r) k=B! p.2:=by simp[Ca,BU,e]
theorem Ku{p:κ×V}{r:AK!}{k:κ}(e:¬EG!):Ca (p::r) k=Ca r k:=by simp[Ca,BU,e]
theorem Kv(k:κ):∀kvs:AK!,kY!=(Ca kvs k).isSome
 | []=>rfl
 | p::r=>by rw[JX];by_cases e:EG!;(.simp only[Kt e,ev!,Bool.true_or,Option.isSome_some]);.rw[Ku e,IB!,Bool.false_or];exact Kv k r
theorem Fg(kvs:AK!)(k:κ)(v:V):(putK kvs k v).length<=kvs.length+1:=by
 unfold putK;split;.rw[ZA];lia
 .rw[ZE,BO,BX];lia
theorem Ha{kvs:AK!}{k:κ}(v:V)(h:Ca kvs k=none):putK kvs k v=kvs++[(k,v)]:=by unfold putK;rw[Kv,h];exact Da!
theorem PX.JP(r:PX o u):o.isSome=u.isSome:=by cases o with | none=>(cases u with | none=>rfl | some _=>exact RZ!) | some _=>cases u with | none=>exact RZ! | some _=>rfl
theorem PX.getD(r:PX o u)(rd:RelV d d'):RelV (o.getD d) (u.getD d'):=by cases o with | none=>(cases u with | none=>exact rd | some _=>exact RZ!) | some _=>cases u with | none=>exact RZ! | some _=>exact r
theorem KV.val(r:B7!)(k:κ):PX cu! (valueAt vs k):=by unfold KV at r;induction r with | nil=>exact True.intro | @cons p q ps qs h t ih =>obtain⟨h1,h2⟩:=h;by_cases e:EG!;(.have e':q.1=k:=h1.symm.trans e;(have b:valueAt (q::qs) k=B! q.2:=by simp[valueAt,BU,e']);rw[Kt e,b];exact h2);.have e':¬q.1=k:=XW!;(have b:valueAt (q::qs) k=valueAt qs k:=by simp[valueAt,BU,e']);rw[Ku e,b];exact ih
theorem KV.any(r:B7!)(k:κ):kY!=vs.any sQ!:=by unfold KV at r;induction r with | nil=>rfl | cons h t ih=>rw[JX,JX,ih,h.1]
theorem KV.jI(r:B7!)(k:κ)(ry:Au!) : KV (kvs.map (lz! (kv.1,y))) (vs.map (lz! (kv.1,u))):=by unfold KV at r ⊢;induction r with | nil=>exact O! | @cons p q ps qs h t ih =>rw[AI,AI];refine Jd! ?_;obtain⟨h1,h2⟩:=h;by_cases e:EG!;(.rw[lc,AE (h1.symm.trans e)];exact⟨h1,ry⟩);.rw[Rs,AD (XW!)];exact Q6!
theorem KV.put{kvs:AK!}{vs:ek!}(r:B7!)(k:κ){y:V}{u:Value}(ry:Au!):KV (putK kvs k y) (stored vs k u):=by
 unfold putK stored;rw[r.any k];by_cases e:(vs.any sQ!)=true;.rw[lc,lc];exact r.jI k ry
 .rw[Rs,Rs];exact Paired.snoc r (n? ry)
theorem KV.drop{kvs:AK!}{vs:ek!}(r:B7!)(k:κ):KV UM! (without vs k):=by unfold KV at r ⊢;unfold Dp without;induction r with | nil=>exact O! | @cons p q ps qs h t ih =>obtain⟨h1,h2⟩:=h;rw[DH,DH];by_cases e:EG!;(·(have a:¬jO! p.1:=XQ!);(have b:¬jO! q.1:=by simp[h1.symm.trans e]);rw[AD a,AD b];exact ih);.have e':¬q.1=k:=XW!;(have a:jO! p.1:=XQ!);(have b:jO! q.1:=by simp[e']);rw[AE a,AE b];exact Jd! Q6!
theorem KV.length(r:B7!):UP!:=L? r
theorem Jfg(kvs:AK!)(k:κ):(Dp kvs k).length<=kvs.length:=Ln!
universe E
theorem Lj(r:RelV (kV k) u):(Bq P w).is k u=true:=by cases k with | inl i=>obtain⟨t,e⟩:=GL! R1!;subst e;exact Xh P w i t | inr x=>obtain⟨t,e⟩:=GL! mv!;subst e;exact Xg P w x t
theorem R0:∀{ks:Ds!} {us:Z!},Vals (ks.map kV) us->ItemsAre Ki! ks us
 | [],_,r=>by rw[EY] at r;cases r;exact O!
 | k::ks,_,r=>by rw[AI] at r;cases r with | cons h t=>exact q! (Lj h) (R0 t)
abbrev KT(H:Hp):wE o0 G2!:=Ky! (λp q=>p.1=q.1/\NK! D? bi! kV/\RelV p.2 GE)
theorem KT.val(r:Gu!)(k:Ds!):PX cu! ((atKey xs k).map T0):=by induction r with | nil=>exact True.intro | @cons p q ps qs h t ih =>obtain⟨h1,_,h2⟩:=h;by_cases e:EG!;(.have e':q.1=k:=h1.symm.trans e;(have b:atKey (q::qs) k=B! q.2:=by simp[atKey,BU,e']);rw[Kt e,b];exact h2);.have e':¬q.1=k:=XW!;(have b:atKey (q::qs) k=atKey qs k:=by simp[atKey,BU,e']);rw[Ku e,b];exact ih
theorem KT.jI(r:Gu!)(k:Ds!)(ry:Au!) : KT H (kvs.map (lz! (kv.1,y))) (xs.map (putAt k u)):=by induction r with | nil=>exact O! | @cons p q ps qs h t ih =>rw[AI,AI];refine Jd! ?_;obtain⟨h1,h2,h3⟩:=h;unfold putAt;by_cases e:EG!;(.rw[lc,AE (h1.symm.trans e)];exact⟨h1,h2,ry⟩);.rw[Rs,AD (XW!)];exact⟨h1,h2,h3⟩
theorem KT.put{H:Hp}{kvs:o0}{xs:G2!}(r:Gu!)(k:Ds!){b:Addr}{y:V}{u:Value}(hb:Rv!)(ry:Au!) : KT H (putK kvs k y) (storedH xs k b u):=by
 have e:kY!=(atKey xs k).isSome:=by rw[Kv,(r.val k).JP,Option.isSome_map]
 unfold putK storedH;rw[e];by_cases q:(atKey xs k).isSome=true;.rw[AE q,AE q];exact r.jI k ry
 .rw[AD q,AD q];exact Paired.snoc r (Bu! hb ry)
theorem KT.keeps(r:Gu!)(ht:∀b ys,jN! (HL! .BG ys) ys):KT H' kvs xs :=Jn6 r λ_ _ z=>⟨z.1,F! ht z.2.1,z.2.2⟩
universe S
theorem Jhy(ok:Cl!)(e:Rd H a u):G5! u:=e.ok ok
theorem Lv(ok:Cl!)(e:i7!):jU! (∃vs,B7!/\h.DictOf Ki! a vs) :=EY! (G5! ip!) (Jhy ok e)
theorem Xz(ok:Cl!)(e:QX!):jU! (∃vs,B7!/\h.DictOf Ki! a vs):=DV! Lv ok e
theorem Jc(ok:Cl!)(e:ja! ks.map):(tupleKind (Bq P w)).is h ks a:=by obtain⟨_,its,r,o,h1,h2,n,h3⟩:=Eq! (G5! (.BG (ks.map kV))) (ok a _ e);exact⟨o,its.toArray,n,h1,h2,h3,Ct! (R0 r)⟩
theorem Lu(ok:Cl!)(e:Hk! a .dT kvs):UD!/\cD! /\ ∃xs,Gu!/\h.DictOfH uG! a xs:=by
 obtain⟨z,y,xs,r,o,es,ep,h1,h2,h3,h4,h5⟩:=Eq! (G5! (.dT kvs)) (Jhy ok e);refine⟨z,y,xs,r,o,es,ep,h1,h2,h3,h4,DP!,h5⟩;have all:∀{l:o0} {m:G2!},KT H l m->∀x∈m,(tupleKind (Bq P w)).is h x.1 HY!:=by intro l m q;induction q with | nil=>intro x hx;exact nomatch hx | @cons p q ps qs hq t ih =>intro x hx;rcases ZM hx with e|hx;(.subst e;exact Jc ok (N? hq.1 hq.2.1));.exact ih x hx
 exact all r x hx
theorem Sj(ok:Cl!)(e:Xi!):UD!/\cD! /\ ∃xs,Gu!/\h.DictOfH uG! a xs:=DV! Lu ok e
universe E
def DV(H:Hp)(a:Addr)(y:V)(r:SB):Prop :=
 (∃kvs k,i7!/\y=kV k/\r=Ca kvs k)\/∃kvs k b,Hk! a .dT kvs/\y=Os/\Rv!/\r=Ca kvs k
def GQ(H:Hp)(a:Addr)(y v:V)(H':Hp):Prop :=
 (∃kvs k,QX!/\y=kV k/\cw!/\H'=AU! H a .dK cf!) \/
 ∃kvs k b,Xi!/\y=Os/\Rv!/\cw!/\H'=AU! H a .dT cf!
theorem DV.k{H:Hp}{a:Addr}{kvs:bi}{k:Key}(e:QX!):DV H a (kV k) cu!:=H! ⟨kvs,k,H! e,rfl,rfl⟩
theorem DV.t{H:Hp}{a b:Addr}{kvs:o0}{k:Ds!}(e:Xi!)(eb:Rv!):DV H a Ex! cu!:=N! ⟨kvs,k,b,H! e,rfl,eb,rfl⟩
theorem GQ.k{H:Hp}{a:Addr}{kvs:bi}{k:Key}{v:V}(e:QX!)(hl:cw!):GQ H a (kV k) v (CG! a .dK cf!):=H! ⟨kvs,k,e,rfl,hl,rfl⟩
theorem GQ.t{H:Hp}{a b:Addr}{kvs:o0}{k:Ds!}{v:V}(e:Xi!)(eb:Rv!)(hl:cw!) : GQ H a Ex! v (Nw! a cf!):=N! ⟨kvs,k,b,e,rfl,eb,hl,rfl⟩
universe S
theorem Inv.big(I:K!):sysModules<s.heap.objs.size:=by have h:mainGlobals<s.heap.objs.size:=(I.mod.glob.keeps I.bk).lt;exact PY (a!) h
theorem Sm(hu:Jm!)(I:K!)(g:DV H a y (some v))(ry:Au!)(h:ZF! LS! (RelV v w')) : Kn! (getItem PP u):=by
 rcases g with⟨kvs,k,e,ey,l⟩|⟨kvs,k,b,e,ey,eb,l⟩;.subst ey;obtain⟨z,hd,vs,rel,dd⟩:=JQ!;obtain⟨w',hw,QN⟩:=o4! (valueAt vs k) (P! l (rel.val k));exact wpAny_getItem_of Mj! dd.mapOf hw (h w' _ (I.tok _) QN)
 .subst ey;cases R4!;obtain⟨z,hd,xs,rel,dd⟩:=Lz!;obtain⟨w',hw,QN⟩:=o4! ((atKey xs k).map T0) (P! l (rel.val k));obtain⟨p,hp,FE⟩:=Option.map_eq_some_iff.mp hw;refine wpAny_getItem_heap Xn! Zx! dd hp ?_;rw[FE];exact h w' _ (I.tok _) QN
theorem Jm8(hu:Jm!)(I:K!)(g:Xx!)(ry:Au!)(h:∀s',LS!->Q (sK o.isSome) s') : Kn! (compareOp .In u PP):=by
 rcases g with⟨kvs,k,e,ey,l⟩|⟨kvs,k,b,e,ey,eb,l⟩;.subst ey;obtain⟨z,hd,vs,rel,dd⟩:=JQ!;refine wpAny_in_of Mj! hd dd.mapOf ?_;rw[<-dm!,<-l];exact h7!
 .subst ey;cases R4!;obtain⟨z,hd,xs,rel,dd⟩:=Lz!;refine wpAny_in_heap Xn! Zx! hd dd ?_;have q:=dm!;rw[Option.isSome_map] at q;rw[<-q,<-l];exact h7!
theorem Jhk(hu:Jm!)(I:K!)(g:Xx!)(ry:Au!)(h:∀s',LS!->Q (sK (!o.isSome)) s') : Kn! (compareOp OV! u PP):=by
 rcases g with⟨kvs,k,e,ey,l⟩|⟨kvs,k,b,e,ey,eb,l⟩;.subst ey;obtain⟨z,hd,vs,rel,dd⟩:=JQ!;refine wpAny_notIn_of Mj! hd dd.mapOf ?_;rw[<-dm!,<-l];exact h7!
 .subst ey;cases R4!;obtain⟨z,hd,xs,rel,dd⟩:=Lz!;refine wpAny_notIn_heap Xn! Zx! hd dd ?_;have q:=dm!;rw[Option.isSome_map] at q;rw[<-q,<-l];exact h7!
theorem Jr(I:K!)(mu:nD (H a))(hs:rb! a)(he:∃q,WA! q)(new:WX! (upd H a ob) a ob) : r7! a ob OT! :=I.write (x:=a) (e:=a) mu Bv! (λb q hb z=>(hs.2 b hb).trans z) he new
theorem Zg(z:UD!)(hd:cD!)(rel:B7!)(dd:h'.DictOf Ki! a vs) : DT P w H' h' a ip!:=⟨z,hd,vs,rel,dd⟩
theorem Sl{H':Hp}{Q:I9!}(hu:Jm!)(I:K!)(g:GQ H a y v H')(ry:Au!)(rv:RelV v r)(h:∀s',Jf!->Q () s') : Kn! (setItem PP u r):=by
 rcases g with⟨kvs,k,e,ey,l,eH⟩|⟨kvs,k,b,e,ey,eb,l,eH⟩;.subst ey eH;obtain⟨z,hd,vs,rel,dd⟩:=NS! Xz;(have hz:vs.length<=sizeLine:=K5! rel.length);(have hl:Av! (putK kvs k v).length:=BJ! (Fg kvs k v));refine wpAny_setItem_pairs (hsz:=hz) Mj! dd λh' cD hs=>h _ ?_;have he:∃q,WA! q:=let⟨q,_,_,hq,_⟩:=cD;kT!;exact mx! hs he (Zg hl hd (rel.put k rv) cD)
 .subst ey eH;cases R4!;obtain⟨z,hd,xs,rel,dd⟩:=NS! Sj;(have hz:Dg!:=K5! Ld!);(have hl:Av! (putK kvs k v).length:=BJ! (Fg kvs k v));refine wpAny_setItem_heap (hsz:=hz) Xn! Zx! dd λh' cD hs=>h _ ?_;obtain⟨q,es,ep,hq,h2,h3,h4,_,h5⟩:=cD;refine mx! hs kT! ⟨hl,hd,_,(rel.put k eb rv).keeps λc ys ec=>?_,q,es,ep,hq,h2,h3,h4,h5⟩;rw[Ac (Fl ec e (λz=>ce!))];exact ec
universe E
universe S
theorem Jk7(I:K!)(e:QX!)(ry:RelV (kV k) u)(l:WV!)(hm:more=[]\/∃x,more=[x])(h:ZF! (AR! (CG! a .dK UM!) s') (RelV v w')):W8! "dict.pop" (Tk::u::more):=by
 obtain⟨z,hd,vs,rel,dd⟩:=NS! Xz;obtain⟨w',hw,QN⟩:=o4! (valueAt vs k) (Hr! l (rel.val k));have hp:(keyPart u).isSome=true:=by cases k with | inl i=>obtain⟨t,q⟩:=rT! R1!;subst q;rfl | inr x=>obtain⟨t,q⟩:=rT! mv!;subst q;rfl
 have ha:argsOk "dict.pop" ⟨Tk::u::more,[]⟩:=by rcases hm with q|⟨x,q⟩;(.subst q;exact PySem.F.args_dict_pop_2 _ _);.subst q;exact F! PySem.F.args_dict_pop_3 _
 refine WT JI dd.typeIs PySem.F.entry_dict_pop ha (meets_dict_pop_there J4! a Mj! more hm hp) ⟨vs,w',dd,K5! rel.length,hw,λh' cD hs=>h w' _ ?_ QN⟩;have he:∃q,WA! q:=let⟨q,_,_,hq,_⟩:=cD;kT!;exact mx! hs he (Zg (AR (Jfg kvs k) z) hd (rel.drop k) cD)
theorem Jk8(I:K!)(e:i7!)(h:∀t s',LS!->Q (g! kvs.length t) s'):W8! "len" Fv!:=by obtain⟨z,hd,vs,rel,dd⟩:=JQ!;refine call_len_dict hd dd (by rw[<-rel.length];rw[DF] at z;lia) ?_;rw[<-rel.length];exact h _ _ (I.tok _)
universe E
def Jlc(i:Expr):Prop:=∀ov iv,subscripted i false ov iv=operate [ov,iv] (getItem ov iv)
theorem Jf1{prog:Program}{w:World}{A:Around}{E:g?}{s:Shared}{env:Env}{value slice:Expr}{pos:Pos}{T id:String}{Q:g?}(hl:typeLookup (B9! T) "__getitem__"=pure (fl! id))(hs:Jlc slice)(h:Ru! (eval value env) (λo D_=>rq! (eval slice env) (λi UD=>UD.TypeIs o T/\Xw! (getItem o i) UD) D_)) : Fj! (eval (Sd! value slice pos) env):=by
 refine Subscript_ (FA h (λo D_ h₁=>FA h₁ (λi UD jP=>?_) ch!) ch!);obtain⟨hT,jP⟩:=jP;unfold subscriptTail;refine I5!;rw[getitemInPython_of_ne hT.not_modules];refine ZR (wpAny_specialOf hT hl ?_);have fin:rq! (subscripted slice false o i) (λr n8=>Xw! (letTemporaryGo value o r >>= λ_=>pure r) n8) UD:=G! (hs o i) (wpAny_operating (FA jP (λr n8 we=>QE! wpAny_letTemporaryGo we) ch!))
 first | exact ZS (ZR fin) | exact bB! ZS fin | exact ZR fin
theorem X1(I:K!)(g:Xx!):kO! PP:=by
 rcases g with⟨kvs,k,e,_,_⟩|⟨kvs,k,b,e,_,_,_⟩;.obtain⟨_,_,vs,_,dd⟩:=JQ!;exact dd.typeIs
 .obtain⟨_,_,xs,_,dd⟩:=Lz!;exact dd.typeIs
inductive Jjw  (x:V) (y:V) (H2:Hp) (Q:VK):Prop
 | mk (a v) (e0:BZ!) (e1:DV H2 a y (some v)) (e2:Q v H2)
def Rc(td ty:TE):TE:=XU! (Qi! (Jjw  x y H2 Q))
inductive Jli  (x:V) (y:V) (H2:Hp) (Q:VK):Prop
 | mk (a o) (e0:BZ!) (e1:DV H2 a y o) (e2:Nn! o.isSome H2)
def Jlz(ty td:TE):TE:=S8! ty (λy H1=>DB! td (λx H2=>Jli  x y H2 Q))
inductive Jfs  (x:V) (y:V) (H2:Hp) (Q:VK):Prop
 | mk (a o) (e0:BZ!) (e1:DV H2 a y o) (e2:Nn! (!o.isSome) H2)
def Jf0(ty td:TE):TE:=S8! ty (λy H1=>DB! td (λx H2=>Jfs  x y H2 Q))
inductive Jjx  (x:V) (y:V) (v:V) (H3:Hp) (σ:St) (D:Ends):Prop
 | mk (a H4) (e0:BZ!) (e1:GQ H3 a y v H4) (e2:Na! H4)
def Jki(td ty tv:TE):TS:=Op! tv (λv H1=>DB! td (λx H2=>ty σ H2 λy H3=>Jjx  x y v H3 σ D))
def Jkj(td ty tv:TE)(rd:XM!):TS:=M1! (td σ H λx H1=>Qi! (∃a v,BZ!/\DV H2 a y (some v) /\
 tv σ H2 λy2 H3=>rd v y2 H3 λz H4=>∃H5,GQ H4 a y z H5/\Na! H5))
universe S
theorem Ci(hu:FJ!)(ho:IR!)(hi:ZR!)(hs:Jlc i:=by exact λ_ _=>rfl):I1! Sd! o i (Rc td ty):=by intro AA s σ H Q I h;refine Jf1 PySem.F.slot_dict_getitem.lookup hs (S7! ho (λu s1 ⟨x,H1,I1,rx,q1⟩=>WE! hi (λiv s2 ⟨y,H2,I2,ry,a,v,ex,g,q2⟩=>?_)));subst ex;obtain rfl:CW!:=rx;exact⟨X1 I2 g,Z6! Sm (Ya! ⟨v,H2,I3,QN,q2⟩)⟩
theorem Kc(hu:FJ!)(hi:ZR!)(ho:IR!):PC X .In i o (Jlz ty td):=by intro AA s σ H Q I h;refine EM (qE! hi) λiv s1 ⟨y,H1,I1,ry,q1⟩=>gQ! ho;rintro u s2 ⟨x,H2,I2,rx,a,ov,ex,g,q2⟩;subst ex;obtain rfl:CW!:=rx;exact Z6! Jm8 (λs3 I3=>⟨.bl ov.isSome,H2,I3,rfl,q2⟩)
theorem Ee(hu:FJ!)(hi:ZR!)(ho:IR!):PC X OV! i o (Jf0 ty td):=by intro AA s σ H Q I h;refine EM (qE! hi) λiv s1 ⟨y,H1,I1,ry,q1⟩=>gQ! ho;rintro u s2 ⟨x,H2,I2,rx,a,ov,ex,g,q2⟩;subst ex;obtain rfl:CW!:=rx;exact Z6! Jhk (λs3 I3=>⟨.bl (!ov.isSome),H2,I3,rfl,q2⟩)
theorem Cm(hu:FJ!)(ho:IR!)(hi:ZR!)(hv:kg!)(hs:ny! value (some (Sd! o i pos'))) : kz! [Sd! o i pos'] value (Jki td ty tv):=by intro AA s σ H D I h;refine wpAny_Assign_Subscript (S7! hv (λr s1 ⟨v,H1,I1,rv,q1⟩=>WE! ho (λu s2 ⟨x,H2,I2,rx,q2⟩=>EM (mU! hi s2 I2) λiv s3 ⟨y,H3,I3,ry,a,H4,ex,g,q3⟩=>?_))) hs;subst ex;obtain rfl:CW!:=rx;exact Sl hu I3 g ry rv λs4 I4=>Ib! H4 I4 q3
theorem K8(hu:FJ!)(ho:IR!)(hi:ZR!)(hv:kg!)(uD:q_ X op rd)(ha:∀ov iv new,augStore i ov iv new=(do holding [new,ov,iv] (setItem ov iv new);release [new,ov,iv] [];pure .next)):PS X (.AugAssign (Sd! o i vd) op value pos) (Jkj td ty tv rd):=by
 intro AA s σ H D I h
 refine wpAny_AugAssign_SubscriptAny (S7! ho (λu s1 ⟨x,H1,I1,rx,q1⟩=>WE! hi (λiv s2 ⟨y,H2,I2,ry,a,v,ex,g,q2⟩=>?_))) ha
 subst ex
 obtain rfl:CW!:=rx
 refine Z6! Sm (Ya! (EM (mU! hv s3 I3) λw2 s4 ⟨y2,H3,I4,ry2,q3⟩=>D5! (uD AA s4 σ H3 v y2 w' w2 _ I4 QN ry2 q3)))
 rintro w3 s5 ⟨z,H4,I5,rz,H5,g5,q4⟩
 exact Sl hu I5 g5 ry rz λs6 I6=>Ib! H5 I6 q4
universe E
theorem X0(h:Heap)(hb:sysModules<h.objs.size):DT P w H (h.push oM!) h.objs.size (.dK []) :=⟨AZ!,DU.mpr (Ne.symm (BQ hb)),[],O!,Heap.DictOf.new h⟩
theorem Xx(h:Heap)(hb:sysModules<h.objs.size):DT P w H (h.push oM!) h.objs.size (.dT []) :=⟨AZ!,DU.mpr (Ne.symm (BQ hb)),[],O!,_,#[],0,CS!,JG! rfl,rfl,rfl,CU⟩
def Jih:TE:=λ_ H Q=>MZ! (CG! p .dK [])
def Jig:TE:=λ_ H Q=>MZ! (Nw! p [])
universe S
theorem Fe:I1! .Dict [] [] Jih:=λAA s σ H Q I h =>wpAny_Dict_empty (i5! (.dK []) dn! (mH! X0) (h _ (I.DM.fresh (ZG _))))
theorem E2:I1! .Dict [] [] Jig:=λAA s σ H Q I h =>wpAny_Dict_empty (i5! (.dT []) dn! (mH! Xx) (h _ (I.DM.fresh (ZG _))))
universe E
def Yf:BM! (TE×TE)->St->bw! (Dq! (BM! (V×V)))
 | [],_,H,Q=>Q [] H
 | (tk,tv)::r,σ,H,Q=>tk σ H λx H1=>DB! tv (λy H2=>Yf r σ H2 λps H3=>Q ((x,y)::ps) H3)
abbrev VV:wE (BM! (V×V)) (BM! (Value×Value)):=Ky! (λp q=>RelV p.1 q.1/\RelV p.2 q.2)
def qv(X:I!)(pos:Pos)(keys:List (Option Expr))(values:Iq!)(iF:BM! (TE×TE)):Prop :=
 ∀(AA:w!)(s:Shared)(σ:St)(H:Hp)(Q:Dq! (BM! (V×V))),c7! (Yf iF σ H Q ->
  sD! (evalPairs (pairTrees keys values X.env pos)) (λvs s'=>∃ps H',Jf!/\VV ps vs/\Q ps H'))
theorem Jgg:qv X pos [] [] []:=λAA s σ H Q I h=>pairTrees_nil_walk ⟨[],H,I,O!,h⟩
theorem Wk(hk:Ai! k tk)(hv:Ai! v tv)(hr:qv X pos ks vs iF) : qv X pos (B! k::ks) (v::vs) ((tk,tv)::iF):=λAA s σ H Q I h =>pairTrees_cons_walk (S7! hk (λu s1 ⟨x,H1,I1,rx,q1⟩=>WE! hv (λw2 s2 ⟨y,H2,I2,ry,q2⟩ =>EM (mU! hr s2 I2) λws s3 ⟨ps,H3,I3,rel,q3⟩=>⟨(x,y)::ps,H3,I3,q! ⟨rx,ry⟩ rel,q3⟩)))
def Ke(kvs more:bi):bi:=more.foldl (λacc kv=>putK acc kv.1 kv.2) kvs
theorem KV.merge:∀{more:bi} {rs:el!} {kvs:bi} {vs:el!},KV more rs->B7!->KV (Ke kvs more) (merged vs rs):=by intro more rs kvs vs r;unfold KV at r;induction r generalizing kvs vs with | nil=>intro q;exact q | @cons p q ps qs h t ih =>intro r0;(have e:KV mt! (stored vs q.1 q.2):=by have:=r0.put p.1 h.2;rw[<-h.1];exact this);exact ih e
theorem J6:∀(more kvs:bi),(Ke kvs more).length<=cy!
 | [],kvs=>xz (kvs.length<=kvs.length+0)
 | p::r,kvs=>by have h1:=J6 r mt!;have h2:=Fg kvs p.1 p.2;show Ws! Ke mt! _;rw[BO];lia
theorem Qp{P:Program}{w:World}:∀{kvs:bi} {ws:BM! (Value×Value)},VV (kvs.map λkv=>(kV kv.1,kv.2)) ws->∃rs,Carries Ki! ws rs/\KV kvs rs
 | [],_,r=>by rw[EY] at r;cases r;exact⟨[],True.intro,O!⟩
 | p::kvs,_,r=>by rw[AI] at r;cases r with | @cons a b as bs h t =>obtain⟨rs,c,q⟩:=Qp (P:=P) (w:=w) t;obtain⟨b1,b2⟩:=b;exact⟨(p.1,b2)::rs,DO! (Lj h.1) c,q! (n? h.2) q⟩
def Jka(iF:BM! (TE×TE)):TE:=λσ H Q=>∀p,No!->Yf iF σ (CG! p .dK []) λps H2=>b? H2 p .dK []/\∃kvs:bi,ps=kvs.map (λkv=>(kV kv.1,kv.2))/\kvs.length<=15/\am p (Ka! p .dK (Ke [] kvs))
theorem Jgj(h:qv X pos keys values iF)(jT:Ix keys.all (·.isSome))(hl:keys.length=values.length)(h0:keys≠[])(h15:keys.length<=15):PE X (.Dict keys values pos) (Jka iF):=by
 intro AA s σ H Q I q;have hn:=I.DM.fresh (ZG s.heap.objs.size);have I1:=I.laid (a:=s.heap.objs.size) (o:=.dK []) (h':=GK! oM!) (t':=s.toks) (dn!) GM (mH! X0);refine wpAny_Dict_walk (knd:=Bq X.prog X.w) jT hl h0 h15 (EM (h AA _ σ _ _ I1 (q _ hn)) ?_);rintro ws s2 ⟨ps,H2,I2,rel,e,kvs,ep,lk,q2⟩;subst ep;obtain⟨rs,c,rk⟩:=Qp (P:=X.prog) (w:=X.w) rel;obtain⟨z,hd,vs0,r0,dd⟩:=Xz I2.DM e;cases r0;refine⟨rs,c,dd,λh' cD hs=>sM! ?_ q2⟩;have hz:Av! (Ke [] kvs).length:=by have h1:=J6 kvs [];rw[BX] at h1;rw[DF];lia
 have he:∃q,H3! s.heap.objs.size q:=let⟨q,_,_,hq,_⟩:=cD;kT!;exact Jr I2 tz! hs he (Zg hz hd (rk.merge O!) cD)
structure M1(X:I!)(o:Expr)(m:Str)(apos:Pos)(e:Expr)(GY:Pos):Prop where
 base:ow! m
 mR:Aa! ((backTo GY (starEach [e] X.env)).all (λx=>! x.1)&&(backToKw GY (keywordEach [] X.env)).all (λx=>x.1.isSome)
  && a? (([e]:Iq!).length+([]:PC!).length+(if([]:PC!).isEmpty then 0 else 1)<30))
 line:ft!
 trees:backTo GY (starEach [e] X.env)=[(false,rS!)]
structure M2(X:I!)(o:Expr)(m:Str)(apos:Pos)(e f:Expr)(GY:Pos):Prop where
 base:ow! m
 mR:Aa! ((backTo GY (starEach [e,f] X.env)).all (λx=>! x.1)&&(backToKw GY (keywordEach [] X.env)).all (λx=>x.1.isSome)
  && a? (([e,f]:Iq!).length+([]:PC!).length+(if([]:PC!).isEmpty then 0 else 1)<30))
 line:ft!
 trees:backTo GY (starEach [e,f] X.env)=[(false,rS!),(false,cG! f)]
def ni(H:Hp)(a:Addr):Prop:=(∃kvs,i7!)\/∃kvs,Hk! a .dT kvs
theorem U8(I:K!)(d:ni H a) : kO! PP/\(∀b,Value.ref a=Os->∃ob,It! s.heap.get?/\ob.dict=none)/\cD!:=by
 rcases d with⟨kvs,e⟩|⟨kvs,e⟩;.obtain⟨_,hd,vs,_,dd⟩:=JQ!;refine⟨dd.typeIs,λb q=>?_,hd⟩;cases q;obtain⟨ob,_,_,h1,h2,_⟩:=dd;exact⟨ob,h1,h2.2.1⟩
 .obtain⟨_,hd,xs,_,dd⟩:=Lz!;refine⟨dd.typeIs,λb q=>?_,hd⟩;cases q;obtain⟨ob,_,_,h1,h2,_⟩:=dd;exact⟨ob,h1,h2.2.1⟩
universe S
theorem Jjo(hu:Jm!)(I:K!)(g:Xx!)(ry:Au!)(h:ZF! LS! (RelV (o.getD .FC) w')) : W8! "dict.get" [Tk,u]:=by
 rcases g with⟨kvs,k,e,ey,l⟩|⟨kvs,k,b,e,ey,eb,l⟩;.subst ey;obtain⟨z,hd,vs,rel,dd⟩:=JQ!;refine nx! (PySem.F.args_dict_get_2 _ _) (meets_dict_get J4! a Mj! hd) (Az! dd.mapOf nr!);rw[l];exact dp! rfl
 .subst ey;cases R4!;obtain⟨z,hd,xs,rel,dd⟩:=Lz!;refine nx! (PySem.F.args_dict_get_2 _ _) (meetsH_dict_get (tupleKind (Bq X.prog X.w)) a b hd) ⟨ET hu,k,xs,Jc I.DM eb,dd,nr!⟩;rw[l];exact dp! rfl
theorem Jjn(hu:Jm!)(I:K!)(g:Xx!)(ry:Au!)(rd:RelV d r)(h:ZF! LS! (RelV (o.getD d) w')) : W8! "dict.get" [Tk,u,r]:=by
 rcases g with⟨kvs,k,e,ey,l⟩|⟨kvs,k,b,e,ey,eb,l⟩;.subst ey;obtain⟨z,hd,vs,rel,dd⟩:=JQ!;refine nx! (v! PySem.F.args_dict_get_3 _) (meets_dict_get_default J4! a Mj! hd r) (Az! dd.mapOf nr!);rw[l];exact dp! rd
 .subst ey;cases R4!;obtain⟨z,hd,xs,rel,dd⟩:=Lz!;refine nx! (v! PySem.F.args_dict_get_3 _) (meetsH_dict_get_default (tupleKind (Bq X.prog X.w)) a b hd r) ⟨ET hu,k,xs,Jc I.DM eb,dd,nr!⟩;rw[l];exact dp! rd
universe E
def Jij(td ty:TE):TE:=XU! (∃a,BZ!/\ni H1 a/\Qi! (∃o,DV H2 a y o/\Q (o.getD .FC) H2))
inductive Jhv(ty tx:TE)(x:V)(H1:Hp)(σ:St)(Q:VK):Prop
 | mk (a) (e0:BZ!) (e1:ni H1 a) (e2:Qi! (tx σ H2 λz H3=>∃o,DV H3 a y o/\Q (o.getD z) H3))
def Jii(td ty tx:TE):TE:=XU! (Jhv ty tx x H1 σ Q)
def Jif(td ty:TE):TE:=XU! (∃a,BZ!/\ni H1 a/\Qi! (∃kvs k v,b? H2 a .dK kvs/\y=kV k/\WV!/\Q v (Ka! a .dK UM!)))
universe S
theorem Jdy(hu:FJ!)(ho:IR!)(he:hD!)(m:M1 X o "get" apos e GY):Rq! "get" [e] (Jij td ty):=by intro AA s σ H Q I h;refine po! FH PySem.F.type_dict_get;rintro u s1 ⟨x,H1,I1,rx,a,ex,d,q1⟩;subst ex;obtain rfl:CW!:=rx;obtain⟨t1,t2,_⟩:=U8 I1 d;refine mZ!;rw[m.trees];refine oY! (λiv s2 ⟨y,H2,I2,ry,ov,g,q2⟩=>KA ?_);exact Z6! Jjo (Ya! (Aj! H2 I3 QN q2))
theorem Pi(hu:FJ!)(ho:IR!)(he:hD!)(hf:Ai! f tx)(m:M2 X o "get" apos e f GY):Rq! "get" [e,f] (Jii td ty tx):=by intro AA s σ H Q I h;refine po! FH PySem.F.type_dict_get;rintro u s1 ⟨x,H1,I1,rx,a,ex,d,q1⟩;subst ex;obtain rfl:CW!:=rx;obtain⟨t1,t2,_⟩:=U8 I1 d;refine mZ!;rw[m.trees];refine oY! (λiv s2 ⟨y,H2,I2,ry,q2⟩ =>HJ (EM (mU! hf s2 I2) λfv s3 ⟨z,H3,I3,rz,ov,g,q3⟩=>KA ?_));exact Jjn hu I3 g ry rz λw' s4 I4 QN=>Aj! H3 I4 QN q3
theorem Wp(ho:IR!)(he:hD!)(m:M1 X o "pop" apos e GY):Rq! "pop" [e] (Jif td ty):=by intro AA s σ H Q I h;refine po! JI PySem.F.type_dict_pop;rintro u s1 ⟨x,H1,I1,rx,a,ex,d,q1⟩;subst ex;obtain rfl:CW!:=rx;obtain⟨t1,t2,_⟩:=U8 I1 d;refine mZ!;rw[m.trees];refine oY! (λiv s2 ⟨y,H2,I2,ry,kvs,k,v,ea,ey,l,q2⟩=>KA ?_);subst ey;exact Jk7 I2 ea ry l Bv! (Ya! ⟨v,_,I3,QN,q2⟩)
universe E
universe S
variable {X:Cx Kx}{AA:List (Addr×Obj)}{σ:St}{H:Hp}{s:Shared}{a:Addr}{kvs:List (Key×V)}{A:Around}{E:Value->Shared->Prop}
universe E
universe S
variable {X:Cx Kx}{AA:List (Addr×Obj)}{σ:St}{H:Hp}{s:Shared}{a:Addr}{y:V}{u:Value}{A:Around}{E:Value->Shared->Prop}
universe E
universe E L2
universe N HT
open PySem PyProof.Rows
def lexLt:d!->d!->Bool
 | [],[]=>false
 | [],_::_=>true
 | _::_,[]=>false
 | x::xs,y::ys=>sB (x=y) (lexLt xs ys) (a? (x<y))
theorem F_(x y:Int)(xs ys:d!):lexLt (x::xs) (y::ys)=sB (x=y) (lexLt xs ys) (a? (x<y)):=rfl
theorem NF:i? (lexLt [] []):=rfl
theorem P5(y:Int)(ys:d!):lexLt [] (y::ys)=true:=rfl
theorem P6(x:Int)(xs:d!):i? (lexLt (x::xs) []):=rfl
theorem Jfc(A:Around)(s:Shared)(a:Int)(t:Tok)(c:Int)(u:Tok):∃e,SeqAt.EqAt A s (g! a t) (g! c u) e/\(e=true↔a=c) :=⟨(a==c),SeqAt.EqAt.int_int a t c u,B?⟩
theorem Jdn(A:Around)(s:Shared)(a:Int)(t:Tok)(c:Int)(u:Tok)(prog:Program)(w:World)(E:g?)(Q:g?)(h:Q (sK (decide (a<c))) s) : P7! richCompare .Lt (g! a t) (g! c u) :=(PyProof.Rows.lt_int h:P7! compareOp .Lt (g! a t) (g! c u))
universe S
open PySem.SeqAt
open PySem.AutoSeq1 (wpAny_loadPart')
open PySem.MeetsSeq PySem.MeetsSeq2 PySem.MeetsSeq3
theorem Qw(l b:Addr)(items J':E1!)(n n2:Nat)(dd uq:I2!)(sl jn:Array (Option Value))(ns ms:d!)(hi:Nq! items.toList)(hj:NT! J'.toList ms) : Meets (Builtin.«tuple.__lt__» ⟨[Kk!,Os],[]⟩) (λ_ R s=>LL! l { cls:=ru!,dict:=dd,data:=Lx! items,slots:=sl }/\Bo! s.heap.get? { cls:=ru!,dict:=uq,data:=.seq J' n2,slots:=jn } /\ R (.ok (.ret (sK (lexLt ns ms)))) s) :=.of_wp λprog w A R s h=>by obtain⟨hp,g,d,tk,os⟩:=s;obtain⟨hl,hb,h⟩:=h;have f2:=AutoSeq1.sub_tuple_tuple;(have z1:items.size=ns.length:=by rw[<-hi.length];simp);(have z2:J'.size=ms.length:=by rw[<-hj.length];simp);wp_walk using wpAny_loadPart' hl,wpAny_loadPart' hb,VY _ (λrest b s'=>b.1=none/\s'=pS!/\∃(vs ws:Z!)(iO jw:d!),rest=vs.zip ws /\ NT! vs iO/\NT! ws jw/\iO.length+J'.size=jw.length+items.size/\R (.ok (.ret (sK (lexLt iO jw)))) pS!) _;(case turn =>rintro⟨y,x⟩ rest b s' ⟨IC,rfl,vs,ws,iO,jw,hz,tf,qM,hlen,hR⟩;cases tf with | nil=>rw[List.zip_nil_left] at hz;cases hz | cons a t wm =>cases qM with | nil=>rw[List.zip_nil_right] at hz;cases hz | cons c u wk =>rw[List.zip_cons_cons] at hz;injection hz with hyx pM;injection hyx with hy hx;subst hy hx;rw[F_] at hR;simp only[BO] at hlen;obtain⟨e,he,oY⟩:=Jfc A.in1 pS! a t c u;refine ZR (he prog w _ _ ?_);cases e with | true =>rw[AE (oY.mp rfl)] at hR;wp_walk;exact⟨rfl,rfl,_,_,_,_,pM,wm,wk,A!,hR⟩ | false =>rw[AD (λq=>HO! oY.mpr q AL)] at hR;have hri:=Jdn A.in1 pS! a t c u prog w;wp_walk using hri;exact t? (by simpa using hR));(case fin =>rintro⟨b1,b2⟩ s' ⟨IC,rfl,vs,ws,iO,jw,hz,tf,qM,hlen,hR⟩;simp only at IC;subst IC;(have hv:lexLt iO jw=a? (items.size<J'.size):=by cases tf with | nil =>(cases qM with | nil =>simp only[BX] at hlen;rw[NF];exact Ao! decide_eq_false C! | cons c u hw =>simp only[BX,BO] at hlen;rw[P5];exact Ao! decide_eq_true C!) | cons a t hv =>cases qM with | nil =>simp only[BX,BO] at hlen;rw[P6];exact Ao! decide_eq_false C! | cons c u hw =>rw[List.zip_cons_cons] at hz;cases hz);rw[hv] at hR;wp_walk;exact t? (by simpa [Builtin.Tuple.tupleCompareSizes] using hR));case h =>exact⟨rfl,rfl,items.toList,J'.toList,ns,ms,rfl,hi,hj,A!,h⟩
universe E
universe S
variable {prog:Program}{w:World}{A:Around}{E:Value->Shared->Prop}{s:Shared}
theorem aN(hl:IsTup s.heap l items)(hb:IsTup s.heap b J')(hi:Nq! items.toList)(hj:NT! J'.toList ms)(hu:Zu!)(h:jb! (lexLt ns ms)):P7! compareOp .Lt (K? l) Ex!:=by obtain⟨⟨cls,dd,data,sl⟩,ho,hc,n,hd⟩:=id hl;obtain⟨⟨JMj,uq,data2,jn⟩,d7,hc2,n2,hd2⟩:=id hb;simp only at hc hd hc2 hd2;subst hc hd hc2 hd2;exact richCompare_meets_room (op:=.Lt) (D0! ho) (D0! d7) PySem.F.slot_tuple_lt PySem.F.entry_tuple_lt (PySem.F.args_tuple_lt_2 _ _) (Qw l b items J' n n2 dd uq sl jn ns ms hi hj) ⟨ho,d7,show Value.bool (lexLt ns ms)≠Value.notImplemented/\jb! (lexLt ns ms) from⟨(λx=>nomatch x),h⟩⟩ hu
universe E
universe E HT
universe N L2
open PySem PySem.Spec PyProof.Rows
abbrev TO:=kQ! (Dq! (FW! Int))
theorem intsAre_of{ns:d!}:∀{us:Z!},Vals (ns.map V.int) us->Nq! us:=by induction ns with | nil=>intro us r;rw[EY] at r;cases r;exact O! | cons n ns ih =>intro us r;rw[AI] at r;cases r with | cons r1 r2 =>obtain⟨t,e⟩:=r1;subst e;exact q! n t (ih r2)
universe S
variable {X:Cx Kx}{e:Expr}{te:TE}{lo hi:Option Expr}{tl th:TO}{pos p2:Pos}
universe E
def jz(n:Nat)(i:Int):FW! Nat:=if 0<=i then s3! (i<n) i.toNat else TA! (-PD!<=i) (Fm! (i+n))
def QE{α:Type}(xs:S!)(i:Int):FW! α:=(jz xs.length i).bind λj=>Se!
theorem Jha(h:jz n i=B! j):seqIndex? i n=B! j/\j<n/\-PD!<=i/\i<n:=by
 unfold jz at h;by_cases h0:0<=i;.rw[AE h0] at h;by_cases h1:i<n;(.rw[AE h1] at h;have e:i.toNat=j:=ZO h;exact iM! (R? (seqIndex_of h0 h1) e) h1);.rw[AD h1] at h;cases h
 .rw[AD h0] at h;by_cases h1:-PD!<=i;(.rw[AE h1] at h;have e:Fm! (i+n)=j:=ZO h;exact⟨R? (H7! seqIndex_neg h1) e,A!,h1,A!⟩);.rw[AD h1] at h;cases h
theorem Jaw(h:lQ!):∃j,seqIndex? i xs.length=B! j/\Se!=B! v/\Sf!/\-S? xs.length<=i/\UO!:=by unfold QE at h;cases e:jz xs.length i with | none=>rw[e] at h;cases h | some j =>rw[e] at h;obtain⟨h1,h2,h3,h4⟩:=Jha e;exact⟨j,h1,h,h2,h3,h4⟩
theorem Jhn{α:Type}{xs:S!}{j:Nat}{v:α}(h:Se!=B! v):QE xs EA!=B! v:=by
 have hj:Sf!:=AX! h;have e:jz xs.length EA!=B! j:=by unfold jz;rw[IH!,IH!];simp
 unfold QE;rw[e];exact h
def Jht(b:Expr):Prop:=∀o i,subscripted b false o i=operate [o,i] (getItem o i)
def vU(X:I!)(r:R2):Prop :=
 ∀(value slice:Expr)(AA:w!)(s:Shared)(σ:St)(H:Hp)(x y:V)(v u:Value)(Q:VK),jX! Au! (r x y H Q ->
  subscripted slice false v u=operate [v,u] (getItem v u)->IV! (subscriptTail value slice v u))
def qx(X:I!)(id:String)(r:MM!):Prop :=
 ∀(AA:w!)(s:Shared)(σ:St)(H:Hp)(x:V)(xs:E!)(v:Value)(us:Z!)(Q:VK),jX! FI! (r x xs H Q ->
  IV! (call (CB! id) (v::us)))
universe S
variable {X:Cx Kx}{a b:Expr}{ta tb:TE}{pos:Pos}
theorem A6{r:R2}(hr:vU X r)(ha:Gq!)(hb:G3!)(hs:Jht b:=by exact λ_ _=>rfl):I1! Sd! a b nD!:=ck! (Subscript_ (pT! vB (hr a b AA s2 σ H2 x y v u Q I2 rx ry q (hs _ _))))
inductive Jlm(K:W.Frag)(x:V)(y:V)(H:Hp)(Q:VK):Prop
 | mk (p xs i v) (e0:x=Op) (e1:y=R! i) (e2:jA!) (e3:lQ!) (e4:Q v H)
def Jmn(K:W.Frag):R2:=lf! Jlm
inductive Jll(K:W.Frag)(x:V)(y:V)(H:Hp)(Q:VK):Prop
 | mk (p xs i v) (e0:x=Op) (e1:y=R! i) (e2:Wr! xs) (e3:lQ!) (e4:Q v H)
def Wi(K:W.Frag):R2:=lf! Jll
theorem Bk{X:I!}:vU X (Jmn Kx):=by
 intro value slice AA s σ H x y v u Q I rx ry h hs;obtain⟨p,xs,i,z,rfl,rfl,hq,he,q⟩:=h;cases rx;obtain⟨t,rfl⟩:=ry;obtain⟨its,r,pl,hz⟩:=JD!;obtain⟨j,h1,h2,h3,h4,h5⟩:=Jaw he;obtain⟨w,ew,QN⟩:=r.get h2;have hl:=r.length;have hn:=Ux;have fin:jG! w:=⟨z,H,I,QN,q⟩;by_cases h0:0<=i;·(have hj:i.toNat=j:=by rw[seqIndex_of h0 h5] at h1;exact ZO h1);exact item_listR pl.isList h0 C! (by rw[hj];simpa using ew) fin hs
 ·(have hj:Fm! (i+S? its.toArray.size)=j:=by rw[H7! seqIndex_neg h4] at h1;rw[BH,<-hl];exact ZO h1);exact subscriptTail_builtinR (x:=w) pl.isList.typeIs slot_list_getitem.lookup (wpAny_getItem_list_neg (Q:=λr s'=>r=w/\EP X AA σ Q r s') pl.isList C! (by rw[BH]<;>lia) C! (by rw[hj];simpa using ew) (n? fin)) hs
theorem A9{X:I!}:vU X (Wi Kx):=by intro value slice AA s σ H x y v u Q I rx ry h hs;obtain⟨p,xs,i,z,rfl,rfl,hq,he,q⟩:=h;cases rx;obtain⟨t,rfl⟩:=ry;obtain⟨its,r,pl,hz⟩:=Lh!;obtain⟨j,h1,h2,h3,h4,h5⟩:=Jaw he;obtain⟨w,ew,QN⟩:=r.get h2;have hl:=r.length;have hn:=Ux;have fin:jG! w:=⟨z,H,I,QN,q⟩;exact subscriptTail_builtinR (x:=w) pl.typeIs slot_tuple_getitem.lookup (getItem_tuple (j:=j) (Q:=λr s'=>r=w/\EP X AA σ Q r s') pl C! C! (by rw[BH,<-hl];exact h1) (by simpa using ew) (n? fin)) hs
def Nl:GN! V
 | .FC=>true
 | .bl _=>true
 | .int _=>true
 | .str _=>true
 | _=>false
def eI:V->V->Bool
 | .FC,.FC=>true
 | .bl a,.bl b=>a==b
 | .bl a,.int b=>(if a then 1 else 0)==b
 | .int a,.bl b=>a==(if b then 1 else 0)
 | .int a,.int b=>a==b
 | .str a,.str b=>a==b
 | _,_=>false
theorem Jjj(ry:Au!)(rx:T6!)(fy:Ix Nl y)(fx:Ix Nl x):SeqAt.EqAt A s u v (eI y x):=by cases y with | FC =>cases ry;(cases x with | FC=>cases rx;exact SeqAt.EqAt.same _ | bl b=>cases rx;exact SeqAt.EqAt.none_bool b | int b=>obtain⟨t,rfl⟩:=rx;exact SeqAt.EqAt.none_int b t | str b=>obtain⟨t,rfl⟩:=rx;exact SeqAt.EqAt.none_str b t | _=>exact gh!) | bl a =>cases ry;(cases x with | FC=>cases rx;exact SeqAt.EqAt.bool_none a | bl b=>cases rx;exact SeqAt.EqAt.bool_bool a b | int b=>obtain⟨t,rfl⟩:=rx;exact SeqAt.EqAt.bool_int a b t | str b=>obtain⟨t,rfl⟩:=rx;exact SeqAt.EqAt.bool_str a b t | _=>exact gh!) | int a =>obtain⟨t',rfl⟩:=ry;(cases x with | FC=>cases rx;exact SeqAt.EqAt.int_none a t' | bl b=>cases rx;exact SeqAt.EqAt.int_bool a t' b | int b=>obtain⟨t,rfl⟩:=rx;exact SeqAt.EqAt.int_int a t' b t | str b=>obtain⟨t,rfl⟩:=rx;exact SeqAt.EqAt.int_str a t' b t | _=>exact gh!) | str a =>obtain⟨t',rfl⟩:=ry;(cases x with | FC=>cases rx;exact SeqAt.EqAt.str_none a t' | bl b=>cases rx;exact SeqAt.EqAt.str_bool a t' b | int b=>obtain⟨t,rfl⟩:=rx;exact SeqAt.EqAt.str_int a t' b t | str b=>obtain⟨t,rfl⟩:=rx;exact SeqAt.EqAt.str_str a t' b t | _=>exact gh!) | _=>exact Ek! (show cr! from fy) AL
def fZ(x:V)(u:Value):Bool:=match u with
 | .none=>eI .FC x
 | .bool b=>eI (.bl b) x
 | .int i _=>eI (g! i) x
 | .str z _=>eI (re z) x
 | _=>false
theorem Jfb(r:Au!)(f:Ix Nl y):fZ x u=eI y x:=by cases y with | FC=>cases r;rfl | bl b=>cases r;rfl | int i=>obtain⟨t,rfl⟩:=r;rfl | str z=>obtain⟨t,rfl⟩:=r;rfl | _=>exact Ek! (show cr! from f) AL
theorem Vm:∀{xs:E!} {us:Z!},FI!->Ix xs.all Nl->us.any (fZ x)=xs.any λy=>eI y x
 | _,_,.nil,_=>rfl
 | y::xs,u::us,.cons r t,f=>by rw[List.all_cons,HY] at f;rw[JX,JX,Jfb r f.1,Vm t f.2]
theorem P0(rx:T6!)(fx:Ix Nl x):∀{xs:E!} {us:Z!},FI!->Ix xs.all Nl->∀u∈us,SeqAt.EqAt A s u v (fZ x u)
 | _,_,.nil,_=>λu hu=>sw hu
 | y::xs,u::us,.cons r t,f=>λu' hu=>by rw[List.all_cons,HY] at f;rcases ZM hu with rfl|hu;(.rw[Jfb r f.1];exact Jjj r rx f.1 fx);.exact P0 rx fx t f.2 u' hu
def l8(x:V)(xs:E!):Bool:=xs.any λy=>eI y x
inductive rIn(K:W.Frag)(neg:Bool)(x:V)(y:V)(H:Hp)(Q:VK):Prop
 | mk p xs (_:y=Op) (_:(jA!\/Wr! xs)) (_:Ix Nl x) (_:Ix xs.all Nl) (_:ju! (! l8 x xs) (l8 x xs))
theorem Jbo{X:I!}:Qj! .In (rIn Kx false):=by
 intro AA s σ H x y v u Q I rx ry h;obtain⟨p,xs,rfl,hq,fx,fs,q⟩:=h;cases ry;rcases hq with hq|hq;.obtain⟨its,r,pl,hz⟩:=JD!;refine SeqAt.in_listAt (fZ x) pl.isList (λw hw=>P0 rx fx r fs w (by simpa using hw)) jr!;rw[aO! (its.toArray.any (fZ x)=its.any (fZ x)),Vm r fs];exact q
 .obtain⟨its,r,pl,hz⟩:=Lh!;refine SeqAt.in_tupleAt (fZ x) pl (λw hw=>P0 rx fx r fs w (by simpa using hw)) jr!;rw[aO! (its.toArray.any (fZ x)=its.any (fZ x)),Vm r fs];exact q
inductive Q7(K:W.Frag)(xs:E!)(H:Hp)(Q:VK):Prop
 | mk p ys (_:hK!) (_:(DO K H p ys\/Wr! ys)) (_:Qa! ys.length)
theorem Bf{X:I!}:Ga X (CB! "len") (Q7 Kx):=by
 intro AA s σ H xs us Q I r h;obtain⟨p,ys,rfl,hq,q⟩:=h;obtain⟨u,rfl,rx⟩:=JJ!;cases rx;have hn:=Ux;rcases hq with hq|hq;.obtain⟨its,r',pl,hz⟩:=JD!;have hlen:=r'.length;exact Calls.call_len_list pl.isList (c2!) ⟨R! ys.length,H,Hc!,⟨s.toks+1,R? BH hlen⟩,q⟩
 .obtain⟨its,r',pl,hz⟩:=Lh!;have hlen:=r'.length;exact len_tuple pl (c2!) ⟨R! ys.length,H,Hc!,⟨s.toks+1,R? BH hlen⟩,q⟩
inductive Qv(K:W.Frag)(xs:E!)(H:Hp)(Q:VK):Prop
 | mk p ys (_:hK!) (_:((DO K H p ys/\∀l,FB!->am l (CG! l .BG ys))\/(Wr! ys/\am p H)))
theorem Ds{X:I!}:Ga X (B9! Cs!) (Qv Kx):=by
 intro AA s σ H xs us Q I r h;obtain⟨p,ys,rfl,h⟩:=h;obtain⟨u,rfl,rx⟩:=JJ!;cases rx;rcases h with⟨hq,q⟩|⟨hq,q⟩;.obtain⟨its,r',pl,hz⟩:=JD!;have hlen:=r'.length;refine call_tuple_list pl.isList (λh' kp=>?_) (c2!);have I1:LT!:=I.kept (t':=s.toks) kp;have I2:AR! (CG! h'.objs.size .BG ys) (FQ! (h'.push (XH! its.toArray))) :=oB! I1.laid s.toks (Hu!) (DT X.prog X.w _ _ _ (.BG ys)) ⟨hz,its,r',IsTup.new _ _⟩;exact Te! h'.objs.size _ I2 (q _ X7!)
 .obtain⟨its,r',pl,hz⟩:=Lh!;exact call_tuple_same pl (T9! Op q)
def r4(K:W.Frag)(T:String)(x:V)(H:Hp):Prop:=match x with
 | .str _=>T="str"
 | .int _=>T="int"
 | .ref p=>(T=ci/\∃xs,jA!)\/(T=Cs!/\∃o,z! K.lookup p o/\Uu!/\o.dict=none) \/
  (T="dict"/\((∃kvs,tE! p)\/∃kvs,b? H p .dT kvs))\/(T="set"/\∃S n,z! H p (.set S n))
 | _=>False
theorem Jct{X:I!}(I:K!)(r:T6!)(ty:r4 Kx T x H) : s.TypeIs v T/\∀a,Ub!->∃ob,HC! s.heap.get? ob/\ob.dict=none:=by cases x with | str z =>obtain⟨t,rfl⟩:=r;cases (show T="str" from ty);exact⟨typeIs_str s z t,λ_ e=>UC!⟩ | int i =>obtain⟨t,rfl⟩:=r;cases (show T="int" from ty);exact⟨typeIs_int s i t,λ_ e=>UC!⟩ | ref p =>cases r;rcases ty with⟨rfl,xs,hq⟩|⟨rfl,o,hk,hc,hd⟩|⟨rfl,hk⟩|⟨rfl,S,n,hk⟩;(.obtain⟨its,_,pl,_⟩:=JD!;refine⟨pl.isList.typeIs,λa e=>?_⟩;cases e;obtain⟨o,n,e,c,hd,_⟩:=pl;exact FF! hd);(.refine⟨BT! (I.YQ p o hk) hc,λa e=>?_⟩;cases e;exact BT! (I.YQ _ o hk) hd);(·(have z:∃o,LL! p o/\o.ExactDict:=by rcases hk with⟨kvs,hk⟩|⟨kvs,hk⟩;(.obtain⟨_,_,_,_,o,_,_,e,ex,_⟩:=I.DM p _ hk;exact FF! ex);.obtain⟨_,_,_,_,o,_,_,e,ex,_⟩:=I.DM p _ hk;exact FF! ex);obtain⟨o,e,ex⟩:=z;refine⟨FF! ex.1,λa e2=>?_⟩;cases e2;exact FF! ex.2.1);.obtain⟨o,_,_,_,e,ex,_⟩:=I.DM p _ hk;refine⟨FF! ex.1,λa e2=>?_⟩;cases e2;exact FF! ex.2.1 | _=>exact c0! ty
inductive Jlj(K:W.Frag)(T:String)(r:MM!)(x:V)(H1:Hp)(Q:VK):Prop
 | mk  (e0:r4 K T x H1) (e1:r x [] H1 Q)
def Jl0(K:W.Frag)(T:String)(r:MM!)(to:TE):TE:=S8! to (λx H1=>Jlj K T r x H1 Q)
inductive Jnc(K:W.Frag)(T:String)(r:MM!)(t:TA)(σ:St)(x:V)(H1:Hp)(Q:VK):Prop
 | mk  (e0:r4 K T x H1) (e1:DB! t (λxs H2=>r x xs H2 Q))
def tBM(K:W.Frag)(T:String)(r:MM!)(to:TE)(t:TA):TE:=S8! to (λx H1=>Jnc K T r t σ x H1 Q)
variable {o e:Expr}{es:List Expr}{to:TE}{t:TA}{name:Str}{apos GY:Pos}{T id:String}{r:V->List V->Hp->VK->Prop}
theorem Mi{X:I!}(pa:PlainAttrs T)(slot:Slot T name id)(t9:typeOf (CB! id)=pure (B9! "method_descriptor"))(hm:qx X id r)(ho:Ai! o to)(dN:ow! name:=by rfl)(dM:ft!:=by rfl):Rq! name [] (Jl0 Kx T r to):=by intro AA s σ H Q I h;refine wpAny_Call_method0_late dN dM tw!;rintro v s1 ⟨x,H1,I1,r1,ty,q1⟩;obtain⟨h1,h2⟩:=Jct I1 r1 ty;exact⟨T,id,pa,slot,t9,h1,h2,FJ rfl (PySem.evalArgs_none (hm AA s1 σ H1 x [] v [] Q I1 r1 O! q1))⟩
theorem F3{X:I!}(pa:PlainAttrs T)(slot:Slot T name id)(t9:typeOf (CB! id)=pure (B9! "method_descriptor"))(hm:qx X id r)(ho:Ai! o to)(ha:RD!)(dN:ow! name:=by rfl)(xD:Aa! ((backTo GY (starEach NY! X.env)).all (λx=>! x.1)&&(backToKw GY (keywordEach [] X.env)).all (λx=>x.1.isSome) && a? ((e::es).length+([]:PC!).length+(if([]:PC!).isEmpty then 0 else 1)<30)):=by rfl)(dM:ft!:=by rfl)(hs:Mv!:=by rfl)(aM:tn! GY es:=by rfl) : Rq! name NY! (tBM Kx T r to t):=by intro AA s σ H Q I h;refine wpAny_Call_method_late dN xD dM rfl tw!;rintro v s1 ⟨x,H1,I1,r1,ty,q1⟩;obtain⟨h1,h2⟩:=Jct I1 r1 ty;refine⟨T,id,pa,slot,t9,h1,h2,?_⟩;have hA:=ha GY AA s1 σ H1 _ I1 q1;rw[hs] at hA ⊢;refine FJ (by show AY! (false || G? (backTo GY (starEach es X.env)).any);rw[aM]<;>rfl) (GN ?_);exact EM hA λus s2 ⟨vs,H2,I2,r2,q2⟩=>pX! hm vs us Q r1 r2 q2
universe E
def nG(X:I!)(id:String)(r:MM!):Prop :=
 ∀(AA:w!)(s:Shared)(σ:St)(H:Hp)(x:V)(xs:E!)(v:Value)(us:Z!)(Q:VK),jX! FI! (r x xs H Q ->
  IV! (call (CB! id) (v::us)))
theorem Vals.one{x:V}{us:Z!}(h:Vals [x] us):∃u,us=[u]/\JF!:=by cases h with|cons r t=>cases t;exact t? r
theorem Vals.zero:∀{us:Z!},Vals [] us->us=[]
 | _,.nil=>rfl
theorem Vals.dropLast(h:FI!):Vals xs.dropLast us.dropLast:=by induction h with | nil=>exact O! | cons r t ih =>cases t with | nil=>exact O! | cons q t'=>exact q! r ih
theorem Ze(l:S!):l.eraseIdx (l.length-1)=l.dropLast:=Ih!
universe S
variable {X:Cx Kx}{AA:List (Addr×Obj)}{σ:St}{H:Hp}{s:Shared}{l b:Addr}{xs ys zs:List V}
theorem Inv.gE{its its':Z!}{n:Nat}{f:E1!->E1!}{t':Nat}(I:K!)(hH:FM!)(e:LL! l (ON! (Ee! ci) (Lx! its.toArray)))(hf:f its.toArray=its'.toArray)(hv:Vals ys its')(hz:ys.length<=sizeLine) : AR! (QD! ys) { s with heap:=s.heap.update l (Obj.mapSeq f),toks:=t' }:=by have q:=PySem.IsL.update e f;rw[hf] at q;refine I.write (x:=l) (e:=l) (P! hH trivial) Bv! (λb' u hb hu=>(EK s.heap (Obj.mapSeq f) (Sy! hb)).trans hu) (T? q) ?_;exact⟨hz,its',_,hv,q⟩
theorem Inv.oN(I:K!)(hv:Vals ys its)(hz:ys.length<=sizeLine) : AR! (CG! s.heap.objs.size .BF ys) { s with heap:=GK! (tq! its.toArray),toks:=t' } :=I.laid (dn!) GM ⟨hz,its,0,hv,CS!⟩
theorem Inv.fresh(I:K!):PS!:=L3!
theorem Inv.aA(I:K!)(hH:FM!):Dg!/\∃(its:Z!)(n:Nat),RP!/\xs.length=its.length/\LL! l (ON! (Ee! ci) (Lx! its.toArray)):=by obtain⟨z,its,n,r,e⟩:=I.DM l _ hH;exact⟨z,its,n,r,r.length,e⟩
theorem Ww(h:n<=sizeLine):i? (Builtin.List.listTooLong n):=by unfold Builtin.List.listTooLong;exact AW! decide_eq_false
universe E
universe S
variable {X:Cx Kx}
inductive Jft  (x:V) (vs:E!) (H:Hp) (Q:VK):Prop
 | mk (l xs y) (e0:Ur!) (e1:vs=[y]) (e2:FM!) (e3:xs.length<sizeLine) (e4:Q .FC (QD! (xs++[y])))
def Jgf:MM!:=λx vs H Q=>Jft  x vs H Q
theorem Df:nG X "list.append" Jgf:=by intro AA s σ H x vs v us Q I rx rv h;obtain⟨l,xs,y,rfl,rfl,hH,hz,q⟩:=h;cases rx;obtain⟨u,rfl,ru⟩:=rv.one;obtain⟨z,its,n,r,hl,e⟩:=Y2!;refine call_meets F.slot_list_append WN! F.entry_list_append (F.args_list_append_2 _ _) (PySem.list_append l its.toArray n u gp!) (d? e);refine⟨.FC,_,pV! (its++[u]) XV (r.append (q! ru O!)),rfl,q⟩;rw[ZE,List.length_singleton];lia
inductive Jge(x:V)(vs:E!)(H:Hp)(Q:VK):Prop
 | mk l b xs zs (_:Ur!) (_:vs=[Os]) (_:FM!) (_:HL! .BF zs) (_:Av! (xs.length+zs.length)) (_:Q .FC (QD! (xs++zs)))
theorem Rt:nG X "list.extend" Jge:=by
 intro AA s σ H x vs v us Q I rx rv h;obtain⟨l,b,xs,zs,rfl,rfl,hH,hB,hz,q⟩:=h;cases rx;obtain⟨u,rfl,ru⟩:=rv.one;cases ru;obtain⟨z,its,n,r,hl,e⟩:=Y2!;obtain⟨z2,PO,n2,r2,ij,e2⟩:=I.aA hB;have hsz:Av! dG!:=Sa! BH BH
 have dJ:¬Aa! (!its.toArray.isEmpty&&Builtin.List.listTooLong (dG!)):=ut (Ww hsz) Bool.and_false AL
 refine call_meets F.slot_list_extend WN! F.entry_list_extend (F.args_list_extend_2 _ _) (AutoSeq1.list_extend_list_list_0 l its.toArray n b PO.toArray n2 dJ gp! C!) (Go e e2);refine⟨.FC,_,pV! (its++PO) XV (r.append r2),rfl,q⟩;rw[ZE];lia
inductive Jml(x:V)(vs:E!)(H:Hp)(Q:VK):Prop
 | mk l xs y (_:Ur!) (_:vs=[]) (_:FM!) (_:xs[xs.length-1]?=B! y) (_:Q y (QD! xs.dropLast))
theorem Jem:nG X "list.pop" Jml:=by
 intro AA s σ H x vs v us Q I rx rv h;obtain⟨l,xs,y,rfl,rfl,hH,hy,q⟩:=h;cases rx;have qN:=rv.zero;subst qN;obtain⟨z,its,n,r,hl,e⟩:=Y2!;obtain⟨u,hu,ru⟩:=r.get hy;have hy':its.toArray[its.toArray.size-1]?=B! u:=by show its.toArray[its.length-1]?=B! u;rw[<-Array.getElem?_toList,<-hl];exact hu
 refine call_meets F.slot_list_pop WN! F.entry_list_pop (F.args_list_pop_1 _) (MeetsSeq.list_pop_last l its.toArray n u hy' gp!) (d? e);refine⟨y,_,pV! its.dropLast ?_ r.dropLast,ru,q⟩;.show its.toArray.eraseIdxIfInBounds (its.toArray.size-1)=its.dropLast.toArray;rw[BH,List.eraseIdxIfInBounds_toArray,Ze]
 .rw[List.length_dropLast];lia
inductive Jmr(x:V)(y:V)(H:Hp)(Q:VK):Prop
 | mk l b xs zs (_:Ur!) (_:y=Os) (_:FM!) (_:HL! .BF zs) (_:Av! (xs.length+zs.length)) (_:MZ! (CG! p .BF (xs++zs)))
theorem Jd3:Qk! .Add Jmr:=by
 intro AA s σ H x y v u Q I rx ry h;obtain⟨l,b,xs,zs,rfl,rfl,hH,hB,hz,q⟩:=h;cases rx;cases ry;obtain⟨z,its,n,r,hl,e⟩:=Y2!;obtain⟨z2,PO,n2,r2,ij,e2⟩:=I.aA hB;refine PySem.P.add_list e e2 ?_ (OZ! BH BH);have ea:its.toArray++PO.toArray=(its++PO).toArray:=B?
 rw[ea];exact Te! _ _ (I.oN (t':=s.toks) (r.append r2) (DG! ZE)) (q _ I.fresh)
universe E
universe S
universe E
universe S
variable {X:Cx Kx}
universe E
universe E L2
universe N Att
open PySem PySem.W PySem.Calls PyProof.Rows
theorem Nx:∀(ns:d!)(vs:Z!),WellAll P h vs (ns.map WData.int)->Qb!:=by intro ns;induction ns with | nil =>intro vs w;rw[EY] at w;cases w;exact O! | cons n ns ih =>intro vs w;rw[AI] at w;cases w with | cons a b =>cases a;exact F! q! (ih _ b)
theorem Jbf{l:OpenLaw}{n:Nat}(hn:ds! n){P:Params}{h:Heap}{args:List WData}{vals:Z!}(gG:Ix l.row.toRowW.claim.pre args)(tZ:WellAll P h vals args) : ∃a vs ns,vals=[s6!]/\args=[WData.list (ns.map WData.int)]/\Ft! YM!/\Qb!/\dV!:=by
 have hsh:WShape.hasAll [] args [Dl! g!]=true:=(pre_splitW gG).1;have hc:l.pre.holds [] { args:=args }=true:=(pre_splitW gG).2;obtain⟨d,r,rfl,h1,h2⟩:=hasAllW_cons hsh;obtain rfl:=hasAllW_nil h2;obtain⟨xs,rfl,h3⟩:=hasW_list h1;obtain⟨ns,rfl⟩:=items_int h3;have hlen:dV!:=by unfold OpenLaw.pre at hc;(have h4:(WTm.not (.lt (.lit (g! PD!)) (.len (.arg 0)))).holds [] { args:=[Dl! (ns.map g!)] }=true:=by have h4:=(holds_andW hc).1;rw[hn] at h4;exact h4);have h5:=condW_of h4 (w_not (w_lt w_lit (w_len_list (w_arg rfl))));rw[ZA] at h5;refine Nat.le_of_not_lt λq=>?_;(have q':PD!<BN! ns.length:=A!);first | (rw[D2! q'] at h5;exact gs! h5) | (simp at h5;lia)
 cases tZ with | cons w1 w2 =>cases w2;cases w1 with | list ho jT=>exact⟨_,_,ns,rfl,rfl,ho,Nx ns _ jT,hlen⟩
theorem Jbl(l:OpenLaw)(args:List WData):l.row.toRowW.claim.post args (sK true) args=true :=postW_of (r:=l.row.toRowW) (X:=(true==true)) (show WShape.has [] (sK true) sK=true by first|rfl|decide|simp[WShape.has,WShape.arms,WShape.armsAll]) (show(WTm.eq .res (.lit (sK true))).value [] { args:=args,res:=B! (sK true),after:=args }=B! (sK (true==true)) from w_eq_bool (w_res rfl) w_lit) rfl
theorem YF{l:OpenLaw}{n:Nat}{q:Program}{loose:X?}{XP:Iw! UW!}{YP:Iw! World}{d:DefRec}(hn:ds! n)(mH:d.params.defaults=[])(call:∀(w:World) (HI D_:Shared) (mg mb:k?) (fa:Addr) (o:Obj) (pm cd doc:Value) (a:Addr) (vs:Z!) (ns:d!),Ground q loose [] XP w HI mg mb D_.heap->YP w D_.heap -> z! D_.heap.get? fa o->o.data=.func (docDef d.name d.params d.body d.scope pm cd doc)->D_.heap.CodeRec cd d.name->i1! d.name -> HC! D_.heap.get? YM!->Qb!->dV!->D_.gens=#[] -> codeAny (model l.prog w) callerA (.call (K? fa) Lu!) (λr s'=>r=mT! sK true/\OldK D_.heap s'.heap/\s'.os=D_.os/\Qw!) D_) : WalkO q loose XP YP l.row.toRowW d [] (λf vs=>PySem.call f vs):=by intro w HI D_ mg mb G Y fa o pm cd doc dV kV ho hd bK hD hmg hg args vals as gG JMd hrd tZ hlo;obtain rfl:dV=KF:=Dflts.none hD mH;obtain rfl:kV=KF:=Dflts.noKw hD;obtain⟨a,vs,ns,rfl,rfl,jR,hints,hlen⟩:=Jbf hn gG tZ;refine enter_call (IL (call w HI D_ mg mb fa o pm cd doc a vs ns G Y ho (fd_plain hd) bK hmg jR hints hlen hg) λr s' hq=>?_);obtain⟨rfl,h2,h3,h4⟩:=hq;exact⟨H! ⟨cC!,cC!,[],rfl,EZ!,cC!,Jbl l _,λ_=>⟨List.Pairwise.nil,λ_ hm=>(nomatch hm)⟩⟩,h2,h3,h4⟩
universe S
variable {prog:Program}{w:World}{A:Around}{E:Value->Shared->Prop}{s:Shared}{K:Frag}
def ledger(h:Heap)(L d:Addr):w!:=(List.range h.objs.size).filterMap λa=>if a=L\/a=d then none else Bw! h.get? a (λo=>(a,o))
universe E
universe E Att
universe N L2
open PySem PySem.Spec PyProof.Rows
theorem Ra{vs:Z!}{ns:d!}(p:Qb!):Vals (ns.map V.int) vs:=by induction p with | nil=>exact O! | cons n t _ ih=>exact Jd! (BY! t)
def rA(H:Hp):Prop:=∀b,s?\/∃o xs,Bo! H (.GB o (.BF xs))
theorem Jer{P:Program}{w:World}{K:W.Frag}{mg mb:k?}{CX:cG}{k:Nat}{fa a:Addr}{fd:FuncData}{x:Str}{sp:Sp}{D_:Shared}{vs:Z!}{ns:d!}(KX:K.In D_.heap)(zi:OH! D_.heap.Ns)(hb:D_.heap.Ns builtinsNs mb)(hbb:∀x:Str,Uk!->mb x=bootBuiltins x)(xC:D_.heap.NoLimit)(hg:D_.gens=#[])(ha:HC! D_.heap.get? YM!)(hi:Qb!)(hl:ns.length<=sizeLine)(hr:CT k callerA)(F:pR! (K.In base) P K CX k [x] sp)(pN:∀(s:Shared) (u:Value),kA! [u] [(x,u)])(dw:∀H:Hp,rA H->sB! DO->sp Fv! H (λv _=>v=Vx!) PB!)(uS:∀H e s',CX [] H D_ (PB!) e s'->False) : codeAny (model P w) callerA (.call (K? fa) Lu!) (λr s'=>r=mT! sK true/\OldK D_.heap s'.heap/\s'.os=D_.os/\Qw!) D_:=by
 have rv:=Ra hi;have wV:=hi.length;have core:∀H:Hp,rA H->sB! DO->MW P w H D_.heap->(∀b,H b≠none->b=a)->(H a≠none->AT K.lookup a) -> codeAny (model P w) callerA (.call (K? fa) Lu!) (λr s'=>r=mT! sK true/\OldK D_.heap s'.heap/\s'.os=D_.os/\Qw!) D_:=by intro H hO hS DM hA hK;have bC:∀{b:Addr} {o:Obj},AB! D_.heap.get?->s?->AB! (Vb D_.heap H).get?:=λe n=>Jex e n;(have lX:∀{b:Addr} {o:Obj} {es:Db!} {ep:Nat},AB! D_.heap.get?->Ic!->s?:=λ{b o es ep} e d=>by cases q:H b with | none=>rfl | some u =>have e':b=a:=hA b (dL!);subst e';rw[ha] at e;cases e;have d':Data.seq vs.toArray _=Data.dict es ep:=d;cases d');have qC:∀{b:Addr} {m:k?},D_.heap.Ns b m->(Vb D_.heap H).Ns b m:=λ{b m} ⟨o,es,ep,e,d,r⟩=>⟨o,es,ep,bC e (lX e d),d,r⟩;have hKb:K.In (Vb D_.heap H):=AQ! (bC (D1! KX) (by cases q:H b with | none=>rfl | some u =>have e':b=a:=hA b (dL!);subst e';rw[hK (dL!)] at e;cases e));have hM:Mod K mg (Vb D_.heap H):=⟨hKb,qC zi,⟨mb,qC hb,hbb⟩,let⟨mc,h1,h2⟩:=xC;⟨mc,qC h1,h2⟩⟩;have e0:aK P w K mg (Vb D_.heap H) callerA [] D_ H:=⟨rfl,hM,AQ! (Jgz e),Nat.le_of_eq (Jb7 _ _),trivial,Q? (kn! (show b∈([]:J!) from hb)),DM,.of_eq hg⟩;refine IL ((F _ hKb (qC zi)).run callerA [] D_ H Lu! Fv! Fv! _ _ hr e0 (pN D_ PP) (iP! rfl) (dw H hO hS)) λr s' h=>?_;cases r with | error e=>exact(uS H e s' h).elim | ok fl =>cases fl with | next=>exact eq! | brk=>exact eq! | cont=>exact eq! | ret u =>obtain⟨v,H',os,bare,un,w_,r',q⟩:=h;have q':v=Vx!:=q;subst q';obtain rfl:u=Value.bool true:=r';refine⟨rfl,OldK.of_keep Ie!,os,bare⟩;cases q:H b with | none=>exact un.keep b o e q (by intro z;exact kn! (show b∈([]:J!) from z)) XV | some u =>rcases hO b with z|⟨ob,xs,z⟩;(.rw[q] at z;cases z);.have z2:=un.NJ b ob _ z;obtain⟨e1,_⟩:=DM b _ z;obtain⟨e2,_⟩:=w_ b _ z2;rw[e] at e1;cases e1;exact e2
 cases hk:K.lookup a with | some o =>have e:=KX a o hk;rw[ha] at e;cases e;refine core (M4!) (λ_=>bn) (wp ⟨_,vs.toArray,_,hk,rfl,rfl,rfl,ut BH wV hl,by simpa using rv⟩) (λb u z=>by have z':(none:FW! HO)=B! u:=z;cases z') (λb z=>sF!) λz=>sF! | none =>refine core (λb=>TA! (b=a) (.GB YM! (.BF (ns.map V.int)))) (λb=>?_) (P? (y! ⟨YM!,e?⟩)) (λb u z=>?_) (λb z=>?_) λ_=>hk;(.by_cases hb:b=a;(.exact N! (Az! _ (AE hb)));.exact P? (AD hb));(.by_cases hb:b=a;(.have z':=(AE hb).symm.trans z;cases z';subst hb;exact⟨ha,Oj! hl,vs,_,rv,ha⟩);.have z':=(AD hb).symm.trans z;cases z');.by_cases hb:b=a;(.exact hb);.exact HO! AD hb z
abbrev KOf{K:W.Frag}{h:Heap}(_:K.In h):W.Frag:=K
theorem gK{l:W.OpenLaw}{n k:Nat}{q:Program}{loose:X?}{XP:Iw! UW!}{YP:Iw! World}{d:DefRec}{K:Params->W.Frag}{CX:World->cG}{sp:World->Sp}{x:Str}(hn:ds! n)(gk:n<=sizeLine)(mH:d.params.defaults=[])(hr:CT k callerA)(hY:∀(w:World) (h:Heap),YP w h->er!)(F:∀(w:World) (mg:k?) (fa:Addr) (h:Heap),er!->OH! h.Ns->i1! d.name -> ∃fd:FuncData,(∀(s:Shared) (u:Value),kA! [u] [(x,u)]) /\ pR! ((K w.params).In base) l.prog rs! (CX w) k [x] (sp w))(dw:∀(w:World) (H:Hp) (a:Addr) (ns:d!),dV!->rA H->DO rs! H a (ns.map V.int)->sp w Fv! H (λv _=>v=Vx!) PB!)(uS:∀(w:World) (H:Hp) (s:Shared) (e:Value) (s':Shared),CX w [] H s (PB!) e s'->False) : W.WalkO q loose XP YP l.row.toRowW d [] (λf vs=>PySem.call f vs):=by refine Att.YF hn mH λw HI D_ mg mb fa o pm cd doc a vs ns G Y ho hd bK hmg jR hints hlen hg=>?_;have KX:=hY w _ Y;obtain⟨fd,hb,hF⟩:=F w mg fa _ KX G.T.g hmg;exact Jer KX G.T.g G.T.b G.T.builtins G.T.nolimit hg jR hints (AR hlen gk) hr hF hb (λH hO hS=>dw w H a ns hlen hO hS) λH e s'=>uS w H D_ e s'
def inClass(s:Stmt)(j:Nat):Stmt:=match s with
 | .ClassDef _ _ _ body _ _ _ _ _ _ _=>body.getD j (.Pass ⟨0,0,0,0⟩)
 | _=>.Pass ⟨0,0,0,0⟩
def Lw(s:Stmt):Arguments:=match s with
 | .FunctionDef _ a _ _ _ _ _ _ _ _=>a
 | _=>{ posonlyargs:=[],args:=[],vararg:=none,kwonlyargs:=[],kw_defaults:=[],kwarg:=none,defaults:=[] }
def F8(s:Stmt):ef!:=match s with
 | .FunctionDef _ _ b _ _ _ _ _ _ _=>b
 | _=>[]
def Al(s:Stmt):Scope:=match s with
 | .FunctionDef _ _ _ _ _ _ sc _ _ _=>sc
 | _=>{ kind:=.function,names:=[],isGenerator:=false,isCoroutine:=false }
abbrev aw:cG:=λ_ _ _ _ _ _=>False
abbrev E0:XK:=PB!
theorem Au:Ie aw X E0:=λ_ _ _ _ _ _ _ h=>h.elim
structure FL(K:W.Frag)(x qual:Str)(st:Stmt)(f:Addr)(fd:FuncData):Prop where
 ex:∃(oc:Value)(od:I2!)(kV doc pm:Value)(an:I2!)(DZ ct:Value)(iM:Array (Option Value)),
  fd=pY! qual/\z! K.lookup f ⟨oc,od,.func fd,iM⟩/\W.codeIn K DZ qual=true
 kp:W.keepIn K EB!=true
universe S
variable {P:Program}{w:World}{K:W.Frag}{mg:Str->Option Value}{base:Heap}
theorem FL.ok{x qual:Str}{st:Stmt}{f:Addr}{fd:FuncData}{N ps:X?}{k:Nat}{sp:Sp}(F:RI!)(S:oK!)(len:jT!)(YC:∀(DZ:Value) (A:Around) (outer:Ba!) (s:Shared) (H:Hp) (vs:E!) (Q:VK) (E:XK),Yn! (cW! (Al st) DZ)->T7! -> o5! (QO (my! aw).lW (F8 st) t)):li! aw:=by obtain⟨oc,od,kV,doc,pm,an,DZ,ct,iM,rfl,lk,bK⟩:=F.ex;refine Jh4 lk bK S len λA outer s H vs Q E hr dw=>?_;obtain⟨t,h,q⟩:=YC DZ A outer s H vs Q E hr dw;exact⟨t,h.lW,q⟩
def Bd(P:Program)(w:World)(K:W.Frag)(mg:k?)(base:Heap)(CX:cG)(b:Bool)(N ps:X?)(qual:Str)(st:Stmt)(f:Addr)(k:Nat)(vs:E!)(H:Hp)(Q:VK)(E:XK):Prop :=
 vs.length=ps.length/\∀(DZ:Value)(A:Around)(outer:Ba!)(s:Shared),Yn! (cW! (Al st) DZ) ->
  o5! (QO (bif b then(my! CX).lW else my! CX) (F8 st) t)
theorem FL.II{x qual:Str}{st:Stmt}{f:Addr}{fd:FuncData}{N ps:X?}{k:Nat}{sp:Sp}(F:RI!)(S:oK!)(h:∀vs H Q E,T7!->Bd P w K mg base aw true N ps qual st f k vs H Q E):li! aw :=F.ok S (λvs H Q E z=>(h vs H Q E z).1) λDZ A outer s H vs Q E hr z=>(h vs H Q E z).2 DZ A outer s hr
theorem FL.binds{x qual:Str}{st:Stmt}{f:Addr}{fd:FuncData}{ps:X?}(F:RI!)(h:∀(kV doc pm:Value) (an:I2!) (DZ ct:Value) (us:Z!),us.length=ps.length->bindArgs (pY! qual) P1!=m2!):ZX!:=by obtain⟨oc,od,kV,doc,pm,an,DZ,ct,iM,rfl,lk,bK⟩:=F.ex;exact .all (h kV doc pm an DZ ct)
universe E
theorem Cc(hr:Qh!):Jm!:=GW (Nat.add_le_add_left (a!:1<=64) _) hr.units
theorem A4(h:n<=1000):n<sizeLine:=TI! GW h
universe S
variable {X:Cx Kx}
theorem pv(i:Nat)(hN:Lr!:=by rfl)(hv:sN! uy:=by first|exact Or.inl rfl|exact Or.inr (Or.inl rfl)|exact Or.inr (Or.inr rfl))(hd:Gl!:=by decide)(bK:AY! (x==("__classdict__":Str)):=by decide):PE X Wt! (B9 i):=Jiv hN hv hd bK
inductive Zm(xs:E!)(H:Hp)(Q:VK):Prop
 | mk a kvs (_:xs=[N8!]) (_:QX!) (_:Qa! kvs.length)
theorem M7:Ga X (CB! "len") Zm:=by intro AA s σ H xs us Q I r h;obtain⟨a,kvs,rfl,ha,q⟩:=h;obtain⟨u,rfl,ru⟩:=JJ!;cases ru;exact Jk8 I (A1! ha) λt s' I'=>⟨R! kvs.length,H,I',BY! t,q⟩
universe E
theorem Cb{A B:Prop}(h:B):if cr! then A else B:=dJ! (AD AL)
theorem Ce{A B:Prop}(h:A):if true=true then A else B:=dJ! e?
theorem kj{c A B:Prop}[Decidable c](h1:c->A)(h2:¬c->B):if c then A else B:=by
 by_cases h:c;.rw[Ar!];exact h1 h
 .rw[BC!];exact h2 h
def Bl(H H':Hp):Prop:=cr (Dt!->FA!)
universe S
variable {κ:Type}[DecidableEq κ]
theorem F5:∀{l:List κ} {k:κ},l.Nodup->¬k∈l->(l++[k]).Nodup
 | [],k,_,_=>B?
 | a::r,k,h,hk=>by obtain⟨h1,h2⟩:=AZ.mp h;show(a::(r++[k])).Nodup;refine AZ.mpr ⟨Ij!,F5 h2 λm=>hk (CM.mpr (Or.inr m))⟩;rcases ZI m with q|q;(.exact h1 q);.exact hk (CM.mpr (Or.inl (Ao! ZK q)))
theorem Jci{p:κ×V}{r:AK!}{k:κ}(e:EG!):Dp (p::r) k=Dp r k:=by unfold Dp;rw[DH,AD (XQ!)]
theorem Sk{p:κ×V}{r:AK!}{k:κ}(e:¬EG!):Dp (p::r) k=p::Dp r k:=by unfold Dp;rw[DH,AE (XQ!)]
theorem Qo:∀{kvs:AK!} {k:κ},¬k∈G? kvs.map->Dp kvs k=kvs
 | [],_,_=>rfl
 | p::r,k,h=>by (have h':¬k∈G? r.map:=λm=>by obtain⟨q,hq,e⟩:=BD!;exact QR! (FZ! (CM.mpr (Or.inr hq)) e));rw[Sk λe=>QR! ⟨p,CM.mpr (Or.inl rfl),e⟩,Qo h']
universe E
universe E L2
set_option maxHeartbeats 4000000
universe N FX
open PySem PySem.Spec PyProof.Rows L2
inductive JM(K:W.Frag)(H:Hp):wE V PyData
 | FC:DZ! .FC KF
 | bl (b:Bool):DZ! (.bl b) (sK b)
 | int (i:Int):DZ! (dj i) (dj i)
 | str (x:Str):DZ! (re x) (re x)
 | BG {a:Addr} {xs:E!} {ds:LK!}:IM!->xs.length=ds.length->(∀(j:Nat)(x:V)(d:PyData),WK!->ds[j]?=B! d->DZ! x d)->DZ! PP (Bn! ds)
inductive Rep(K:W.Frag)(H:Hp):wE V PyData
 | one {x:V} {d:PyData}:DZ! x d->LZ! x d
 | BF {a:Addr} {xs:E!} {ds:LK!}:JS!->Vu! JM xs ds->LZ! PP (Dl! ds)
theorem Ax{xs:S!}{ys:BA!}(p:G4!):∀(j:Nat)(x:α)(y:β),WK!->ys[j]?=B! y->R x y:=by induction p with | nil=>intro j x y h;simp at h | cons r _ ih =>intro j x y h h';cases j with | zero=>cases h;cases h';exact r | succ j=>exact ih j x y h h'
theorem Es{xs:S!}{ys:BA!}(hl:xs.length=ys.length)(h:∀(j:Nat) (x:α) (y:β),WK!->ys[j]?=B! y->R x y):G4!:=by induction xs generalizing ys with | nil=>(cases ys with|nil=>exact O!|cons=>cases hl) | cons x xs ih=>cases ys with | nil=>cases hl | cons y ys=>exact q! (h 0 x y rfl rfl) (ih (Nat.succ.inj hl) λj=>h (j+1))
theorem JM.tupP{K:W.Frag}{H:Hp}{a:Addr}{xs:E!}{ds:LK!}(h:IM!)(r:Vu! JM xs ds):DZ! PP (Bn! ds) :=.BG h (Paired.length r) λj x d e1 e2=>Ax r j x d e1 e2
structure BM(H H':Hp):Prop where
 BG:∀a xs,L1! xs->Tz! a xs
 GB:∀a o u,HC! H Ge!->HC! H' Ge!
theorem BM.refl(H:Hp):BM H H:=⟨UG!,λ_ _ _ e=>e⟩
theorem BM.trans(a:BM H H1)(b:BM H1 H2):BM H H2:=⟨λc xs e=>b.BG c xs (a.BG c xs e),λc o u e=>b.GB c o u (a.GB c o u e)⟩
theorem FF(s:KB):u?:=⟨λa xs e=>s a _ e,λa o u e=>s a _ e⟩
theorem BM.sq{K:W.Frag}{H H':Hp}(k:u?){a:Addr}{xs:E!}(h:IM!):DN K H' a xs:=by
 rcases h with(e|⟨o,e⟩)|z;.exact Fp! (k.BG a xs e)
 .exact Nx! (DJ! (k.GB a o _ e))
 .exact LO!
theorem UA(h:∀o',z! H p o'->(∀xs,o'≠RL!)/\∀b u,o'≠.GB b u):BM H (TF! p) :=⟨λa xs e=>by (have:a≠p:=λz=>by subst z;exact(h _ e).1 xs rfl);rw[Ac this];exact e,λa b u e=>by (have:a≠p:=λz=>by subst z;exact(h _ e).2 b u rfl);rw[Ac this];exact e⟩
universe S
theorem Nf{xs:E!}{us:Z!}{ds:LK!}(p:FI!)(hl:xs.length=ds.length)(f:∀(j:Nat) (x:V) (d:PyData),WK!->ds[j]?=B! d->∀u,JF!->∃as,Reads h u d as):∃as,ReadsAll h us ds as:=by induction p generalizing ds with | nil=>(cases ds with|nil=>exact⟨[],O!⟩|cons=>cases hl) | cons r t ih=>cases ds with | nil=>cases hl | cons d ds =>obtain⟨as,r1⟩:=f 0 _ d rfl rfl _ r;obtain⟨bs,r2⟩:=ih (Nat.succ.inj hl) λj=>f (j+1);exact⟨as++bs,q! r1 r2⟩
theorem JM.reads{X:I!}(I:K!)(r:JM Kx H v d):∀u,Ch!->∃as,Reads s.heap u d as:=by induction r with | FC=>intro u e;cases e;exact T? KF | bl b=>intro u e;cases e;exact T? (sK b) | int i=>intro u e;obtain⟨t,rfl⟩:=e;exact T? (g! i t) | str x=>intro u e;obtain⟨t,rfl⟩:=e;exact T? (re x t) | BG h hl _ ih =>intro u e;cases e;obtain⟨its,rv,⟨o,ho,hc,n,hd⟩,_⟩:=I.tuple h;obtain⟨as,ra⟩:=Nf rv hl λj x d e1 e2=>ih j x d e1 e2;exact⟨as,Bn! ho hc hd (by simpa using ra)⟩
theorem Rep.reads{X:I!}(I:K!)(r:Rep Kx H v d)(e:Ch!):∃as,Reads s.heap u d as:=by cases r with | one r=>exact r.reads I u e | BF h p =>cases e;obtain⟨its,rv,pl,_⟩:=I.list h;obtain⟨o,ho,hc,n,hd⟩:=pl.isList;obtain⟨as,ra⟩:=Nf rv (Paired.length p) λj x d e1 e2=>(Ax p j x d e1 e2).reads I;exact T? (Dl! ho hc hd (by simpa using ra))
def cZ(d:PyData):Prop:=t4! 40
inductive Jln(K:W.Frag)(x:V)(y:V)(H:Hp)(Q:VK):Prop
 | mk (d e) (e0:LZ! x d) (e1:LZ! y e) (e2:cZ d) (e3:cZ e) (e4:Nn! (PyData.eqv d e) H)
def Jmq(K:W.Frag):R2:=lf! Jln
inductive Jlk(K:W.Frag)(x:V)(y:V)(H:Hp)(Q:VK):Prop
 | mk (d e) (e0:LZ! x d) (e1:LZ! y e) (e2:cZ d) (e3:cZ e) (e4:Nn! (! PyData.eqv d e) H)
def Jmm(K:W.Frag):R2:=lf! Jlk
theorem Yy{X:I!}(hu:JV!):Jp! .Eq Jmq Kx:=by intro AA s σ H x y v u Q I rx ry h;obtain⟨d,e,r1,r2,o1,o2,q⟩:=h;obtain⟨as,g1⟩:=r1.reads I rx;obtain⟨bs,g2⟩:=r2.reads I ry;exact PySem.SeqAt.compareEq_reads g1 g2 o1.1 o2.1 (BJ! o1.2) (T9! (.bl _) q)
theorem Ml{X:I!}(hu:JV!):Jp! .NotEq Jmm Kx:=by intro AA s σ H x y v u Q I rx ry h;obtain⟨d,e,r1,r2,o1,o2,q⟩:=h;obtain⟨as,g1⟩:=r1.reads I rx;obtain⟨bs,g2⟩:=r2.reads I ry;exact PySem.SeqAt.compareNe_reads g1 g2 o1.1 o2.1 (BJ! o1.2) (T9! (.bl _) q)
theorem Ql(h:cZ d):PyData.eqv d d=true:=PySem.SeqAt.eqv_refl d h.1
theorem Mw(r:Qh!):A.units+64<cLine:=r.units
universe E
def Ig(p d:Addr):HO:=.ext λh=>h.IsValuesView p d
universe S
theorem Jg7{kvs:AK!}{vs:ek!}(p:B7!):Vals (kvs.map T0) (vs.map T0):=kc! Jko r.2
theorem Mp:qx X "dict.values" (λx xs H Q=>∃d kvs,x=DD!/\xs=[]/\W0!/\MZ! (upd H p G0!)):=by intro AA s σ H x xs v us Q I rx rs h;obtain⟨d,kvs,rfl,rfl,hd,q⟩:=h;cases rx;cases rs;obtain⟨z,lo,vs,rel,dd⟩:=Xz I.DM hd;refine PySem.call_meetsIn IG dd.typeIs PySem.F.entry_dict_values (PySem.F.args_dict_values_1 _) (meets_dict_values J4! d lo) (d? ⟨vs,dd⟩);have hn:PS!:=L3!;refine i5! (Ig s.heap.objs.size d) Hu! ?_ (q _ hn);have g:z! (s.heap.push (Wz! "dict_values")).get? s.heap.objs.size (Wz! "dict_values"):=CS!;exact⟨⟨_,g,rfl,rfl⟩,T? g,λh1 h2 ⟨o,e,r⟩ k=>BT! (k o e) r⟩
inductive L8(xs:E!)(H:Hp)(Q:VK):Prop
 | mk p d kvs (_:hK!) (_:z! H p G0!) (_:W0!) (_:∀l,FB!->am l (upd H l (.BF (kvs.map T0))))
theorem M0(hc:BI!):Ga X (B9! ci) L8:=by intro AA s σ H xs us Q I r h;obtain⟨p,d,kvs,rfl,hp,hd,q⟩:=h;obtain⟨u,rfl,rx⟩:=JJ!;cases rx;obtain⟨z,lo,vs,rel,dd⟩:=Xz I.DM hd;obtain⟨ep,da⟩:=dd.dictAt;have hv:s.heap.IsValuesView p d:=(I.DM p _ hp).1;refine W.kdl_call (W.kdl_values (knd:=Bq X.prog X.w) (r:=p) (d:=d) (kvs:=vs) (ep:=ep)) Gp! ⟨hv,da⟩ (K5! rel.length) λh' tk jY c' kp e ha=>?_;have hn:PS!:=L3!;have e1:jY.toList=vs.map T0:=W.kdl_vals_eq jY.toList (P! DA ha.1) λj v hj=>ha.2 j v (N? Array.getElem?_toList hj);refine sM! (oB! I.laid tk kp (WX! _ _ (.BF (kvs.map T0))) ⟨Oj! z,jY.toList,c',?_,Eb!⟩) (q _ hn);rw[e1];exact Jg7 rel
universe E
universe S
universe E
theorem Ah(hp:No!):An! (TF! p):=λb u e=>KN! (Aj e hp)
theorem Ak(a:An! H1)(b:Bl H1 H2):OC!:=λc o h=>b c o (a c o h)
theorem C0(e:KB)(h:AT H' l):FB!:=by cases q:H l with | none=>rfl | some o=>rw[e l o q] at h;cases h
theorem Ub{xs:S!}{ys:BA!}(j:Nat)(p:G4!):H8! R (xs.eraseIdx j) ys.eraseIdx j:=Jiu p j
theorem F4{α β:Type}{R:IX!}{x:α}{y:β}(r:R x y){xs:S!}{ys:BA!}(p:G4!):Paired R (xs++[x]) (ys++[y]):=Qx p (q! r O!)
theorem Aw{α β:Type}{R S:IX!}(f:jR! (S a b)):∀{xs:S!} {ys:BA!},G4!->CI! S xs ys
 | _,_,.nil=>O!
 | _,_,.cons q t=>q! (v! f q) (Aw f t)
theorem Bu(h0:0<=i)(h:xs[i.toNat]?=B! v):lQ!:=by have:=Jhn h;rwa [BW h0] at this
theorem An{α:Type}{xs:S!}{j:Nat}(h:Sf!):∃x,WK!:=⟨xs[j],List.getElem?_eq_some_iff.mpr ⟨h,rfl⟩⟩
theorem Jkt(h:∀d∈ds,jy!):Ix PyData.canLayAll0 ds/\PyData.depthAll ds<=20:=by induction ds with | nil=>exact⟨by simp[PyData.canLayAll0],by simp[PyData.depthAll]⟩ | cons d ds ih =>obtain⟨a,b⟩:=ih (Ea! (h e (wn he)));obtain⟨c,g⟩:=Cj! d;exact⟨by simp[PyData.canLayAll0,a,c],by simp only[PyData.depthAll];lia⟩
theorem Ff(h:∀d∈ds,jy!):cZ (Dl! ds):=by obtain⟨a,b⟩:=Jkt h;exact⟨by simp only[PyData.canLay0];exact a,by simp only[PyData.depth];lia⟩
universe S
universe E
def cE(K:W.Frag)(H:Hp)(a:Addr)(xs:E!):Prop:=(∃o,HC! H (.GB o (.BF xs)))\/∀H':Hp,DO K H' a xs
theorem cE.sq{K:W.Frag}{H:Hp}{a:Addr}{xs:E!}(h:cE K H a xs):JS!:=h.elim (λ⟨o,e⟩=>Nx! (DJ! e)) λz=>z H
theorem cE.keep{K:W.Frag}{H H':Hp}{a:Addr}{xs:E!}(h:cE K H a xs)(kt:u?):cE K H' a xs:=h.elim (λ⟨o,e⟩=>Am! o (h! kt.GB _ e)) λz=>LO!
theorem cE.of{K:W.Frag}{H:Hp}{a:Addr}{xs:E!}(hO:rA H)(h:JS!):cE K H a xs:=by
 rcases h with(e|⟨o,e⟩)|z;.rcases hO a with q|⟨o,ys,q⟩;(.rw[q] at e;cases e);.rw[q] at e;cases e
 .exact Am! o e
 .exact N! (λH'=>LO!)
theorem Jcj{prog:Program}{w:World}{A:Around}{R:Uf Result}{s:Shared}{elt target iter:Expr}{ifs:Iq!}{scope:Scope}{pos:Pos}{it acc:Value}{env:Env}(J:Uf Nat)(turn:∀k s0,J k s0->R0! (pyNext it) (λr s1=>match r with
  | none=>R (.ok .next) s1
  | some v=>R0! (letOwnedTupleGo target it v) (λ_ sg=>R0! (assign target env v) (λ_ s2 =>
   R0! (forIn ifs true λc r=>if r=true then do let ok <-isTrue c env (eval c env);hj! ok else hj! r) (λok s3 =>
    if ok=true then R0! (eval elt env) (λx s4 =>
     R0! (call (CB! "list.append") [acc,x]) (λ_ s5=>∃m,m<k/\J m s5) s4) s3
    else ∃m,m<k/\J m s3) s2) sg) s1) s0)(k:Nat)(h:J k s):nZ! (.compLoop (.ListComp elt [⟨target,iter,ifs,0⟩] scope pos) 0 it acc env) R s:=by
 refine codeAny_loop rfl J (λk s0 hI=>?_) k h
 show wpAny _ A ((compTurn (.ListComp elt [⟨target,iter,ifs,0⟩] scope pos) 0 it acc env).onRaise (λx=>do noteFrame x env;theTreesLotGoes x)) _ _ s0
 have no:∀{E:g?} (e:Value) (s':Shared),False->notedBy cM! A env E e s':=λ_ _ z=>z.elim
 refine wpAny_noted ?_
 rw[compTurn_list]
 refine bB! wpAny_standAt (FA (turn k s0 hI) (λr s1 h1=>?_) no)
 cases r with
 | none=>exact ZS h1
 | some v =>
   refine ZR (FA h1 (λ_ sg hg=>ZR (FA hg (λ_ s2 h2=>ZR (FA h2 (λok s3 h3=>?_) no)) no)) no)
   cases ok with
   | false =>
     simp only[CY,EV] at h3 ⊢
     exact ZS (n? h3)
   | true =>
     simp only[JW] at h3 ⊢
     exact A3! ZR (FA h3 (λx s4 h4=>ZR (FA h4 (λ_ s5 h5=>ZS (ZS (n? h5))) no)) no)
def XF(X:I!)(sc:Scope)(cl:Bz!)(C:Addr)(N:X?)(s1:Shared)(H1:Hp)(fp:J!)(AA:w!):I! where
 prog:=X.prog
 w:=X.w
 mg:=X.mg
 base:=X.base
 A:=X.A
 N:=N
 HI:=s1
 TB:=H1
 env:=compEnvC sc cl C X.env
 outer:=X.stack
 stack:=X.stack
 ex:=fp
 fn:=λ_=>false
 calm:=X.calm
 pn:=X.pn++AA
 xe:=UH!
def IK(cells:Bz!):Bz!->Prop
 | []=>True
 | (x,c)::r=>TE! cells.lookup/\IK cells r
theorem IK.look{cells:Bz!}:∀{cl:Bz!} {x:Str} {c:Addr},IK cells cl->TE! cl.lookup->TE! cells.lookup
 | [],_,_,_,e=>fd!
 | (y,d)::r,x,c,h,e=>by rw[OW] at e;cases q:x==y with | true =>rw[q] at e;have e1:x=y:=eq_of_beq q;cases e;rw[e1];exact h.1 | false =>rw[q] at e;exact IK.look h.2 e
structure Jh7(X:I!)(sc:Scope)(cl:Bz!)(p:Str×Nat):Prop where
 n:X.N[p.2]?=B! p.1
 k:z! X.env.scope.names.lookup p.1 KM
 l:cl.lookup p.1=X.env.cells.lookup p.1
 f:z! bQ! p.1 KM
def MM(X:I!)(sc:Scope)(cl:Bz!):H6!->Prop
 | []=>True
 | p::r=>Jh7 X sc cl p/\MM X sc cl r
theorem MM.at{X:I!}{sc:Scope}{cl:Bz!}:∀{caps:H6!} {j:Nat} {p:Str×Nat},Yp!->caps[j]?=B! p->Jh7 X sc cl p
 | [],_,_,_,e=>fd!
 | q::r,0,p,h,e=>by simp at e;subst e;exact h.1
 | q::r,j+1,p,h,e=>MM.at h.2 (Eb!)
abbrev Hn(caps:H6!):X?:=caps.map λp=>p.1
def El(σ:L2.St)(caps:H6!):L2.St:=caps.map λp=>(σ[p.2]?).join
universe S
variable {X:Cx Kx}{sc:Scope}{cl:List (Str×Addr)}{AA:List (Addr×Obj)}{σ:L2.St}{H1:Hp}{s1:Shared}{fp:List Addr}{N:List Str}
theorem Jjq(I:Ro!)(hf:Ux! H1)(ho:FN! (∃o,AB! s1.heap.get?))(hk:U1!)(OY:Yq!)(has:∀x,(Eg! bQ! KM\/fT! bQ!)->∃c,TE! cl.lookup):(XF X sc cl s1.heap.objs.size N s1 H1 fp AA).Ok where
 mod:=I.ok.mod
 kind:=hk
 glob:=I.ok.glob
 blt:=I.ok.blt
 above:=At
 inj:=λx y c e1 e2=>I.ok.inj x y c (OY.look e1) (OY.look e2)
 has:=has
 kT:=λx c e _=>sw e
 hd:=I.ok.hd
 frames:=I.ok.frames
 lH:=bn
 eF:=Q? ⟨λz=>by
  obtain⟨o,e⟩:=Ci! ho
  exact BQ (AV e) z,λx c e=>nd! (hf b hb).2.2.2.2.1 x⟩
 bs:=AQ! (I.bs b o e)
 eO:=AR I.ok.eO I.sz
 bV:=Cw! (by
  rcases(hf b hb).2.2.2.1 with z|z
  .exact BU! I.ok.bV z
  .exact Jn! (B_ (B_ (AV e) I.ok.eO) z))
 bc:=Sh! (by
  rcases ZM (I.WR b z) with q|q
  .exact(hf b hb).2.1 q
  .exact(hf b hb).2.2.1 q)
 OQ:=I.stack
 gn:=Q? (Ci! I.WU)
theorem Jjr{x:Str}{caps:H6!}{h':Heap}{m:k?}{t':Nat}{o:Obj}(I:Ro!)(ok:(XF X sc cl s1.heap.objs.size qL! s1 H1 fp AA).Ok)(OY:Yq!)(aD:Yp!)(hx:rE! bQ!)(hn:h'.Ns s1.heap.objs.size m)(hs:q6! s1.heap.objs.size (s1.heap.push o) h') : Inv (XF X sc cl s1.heap.objs.size qL! s1 H1 fp AA) [] (none::El σ caps) H1 { s1 with heap:=h',toks:=t' }:=by
 have kp:sP! (Bo! s1.heap.get? u):=λb u e=>(hs.2 b (Rb! e)).trans (ZT _ e);have O_:IA! s1.heap.objs.size:=L3!;refine⟨ok,rfl,I.bare,Un.kept kp,⟨m,hn,λi y v e1 e2 e3=>?_⟩,λy c e=>?_,O_,λy c e=>nd! I.KD y,E4!,I.DM.kept kp,?_⟩;.cases i with | zero=>simp at e2 | succ j =>have gw:(x::Hn caps)[j+1]?=B! y:=e1;rw[List.getElem?_cons_succ] at gw;(have kS:ms! ((El σ caps)[j]?):=by simpa using e2);rw[ZH] at gw;unfold El at kS;rw[ZH] at kS;cases q:caps[j]? with | none=>rw[q] at gw;cases gw | some p =>rw[q] at gw kS;have e4:p.1=y:=ZO gw;have e5:(σ[p.2]?).join=B! v:=ZO kS;have hc:=aD.at q;(have e6:ms! (σ[p.2]?):=by cases z:σ[p.2]? with | none=>rw[z] at e5;cases e5 | some w' =>rw[z] at e5;have:w'=B! v:=e5;rw[this]);obtain⟨mm,mE,hl⟩:=I.loc;obtain⟨u,r,lk⟩:=hl p.2 p.1 v hc.n e6 (ar! hc.k);refine⟨u,r,c? (WO! e4 hc.f) ?_⟩;rcases lk with⟨k1,_⟩|⟨_,c,uN,ce⟩;(.have:z! X.env.scope.names.lookup p.1 OS!:=k1;rw[hc.k] at this;cases this);.obtain⟨oc,j',hd⟩:=ce;exact⟨c,N? e4 (hc.l.trans uN),oc,F! kp j',hd⟩
 .obtain⟨v,oc,j',hd⟩:=nd! I.cell y;exact⟨v,oc,F! kp j',hd⟩
 .have mD:p∈(X.pn++AA)++[]:=hp;rw[AH] at mD;obtain⟨a1,a2,a3,a4,a5⟩:=I.pin p mD;refine⟨F! kp a1,a2,BQ (AV a1),AI!,a5⟩;rcases ZM (I.WR _ z) with q|q;(.exact a3 q);.exact a4 q
 .simp[El,XF]
theorem Jhl{dC:w!}{EN:L2.St}{H':Hp}{s':Shared}(I:Ro!)(hf:Ux! H1)(I':Inv (XF X sc cl s1.heap.objs.size N s1 H1 fp AA) dC EN H' s'):Jf! :=I.iB (ch:=fp) I'.os I'.base I'.DM I'.bare (Q? ⟨(hf b hb).2.2.2.1,(hf b hb).2.1,(hf b hb).2.2.2.2.1,(hf b hb).2.2.2.2.2⟩)
theorem Jav{H':Hp}{s':Shared}{h':Heap}{QA:L2.St}{sA:Shared}(I:Ro!)(I2:Inv X AA QA H' sA)(hn:AT H' s1.heap.objs.size)(hs:q6! s1.heap.objs.size sA.heap h'):Inv X AA QA H' { sA with heap:=h' } :=I2.turned (it:=s1.heap.objs.size) (t':=sA.toks) (Uy! (hs.2 b hb).trans) hn (ER I.lt) (wp I.sz) (λx c e z=>by obtain⟨v,q⟩:=Yk!;exact ga q.lt (VZ! (DQ _))) λp hp z=>by have:=AV (I.pin p hp).1;rw[z] at this;exact Jn! this
universe E
def nC(X:I!)(ifs:Iq!)(t:TT):Prop :=
 ∀(AA:w!)(s:Shared)(σ:L2.St)(H:Hp)(Q:Hf!),c7! (t σ H Q ->
  g8! (forIn ifs true λc r=>if r=true then do let ok <-isTrue c X.env (bu! c);hj! ok else hj! r))
theorem K7{X:I!}:nC X [] (RM!):=λAA s σ H Q I h=>wpAny_tests_nil ⟨H,I,h⟩
theorem Dj{X:I!}{c:Expr}{t:TT}(h:PT X c t):nC X [c] t:=λAA s σ H Q I hw=>wpAny_tests_one (h AA s σ H Q I hw)
def vR(wi:TI)(caps:H6!)(tt:TT)(te:TE):TE:=S8! wi (λJ H1=>∀p,IA! p->∃W:Nat->Nat->Ew!,(∃m,W 0 m [] (FX! H1 p []))/\∀i m ys H2,W i m ys H2->bK! /\
 Mx! J.stop (am p H2) J.go J.aP (tt (al! (B! x)) H3 λb H4 =>
   if M2! then j0!
   else ∃m',m'<m/\W FB m' ys H4))
universe S
variable {X:Cx Kx}{elt iter:Expr}{x:Str}{px pos:Pos}{ifs:List Expr}{sc:Scope}{cl:List (Str×Addr)}{caps:List (Str×Nat)}{wi:TI}{tt:TT}{te:TE}
theorem Sn{AA:w!}{σ:L2.St}{H:Hp}{s:Shared}{Q:VK}{use:Option (Value->Sem Unit)}{RQ:g?}(hc:BI!)(hi:PI X (TT! px) iter wi)(YB:closureFor sc X.env=pure cl)(PD:dk! KM)(OA:U1!)(TH:∀y∈sc.names,y.2=OS!->ka! sc.names.lookup)(hx:QW!)(OY:Yq!)(has:∀y,(Pp! KM\/Pp! Cq!)->∃c,tU! c)(aD:Yp!)(hN:(x::Hn caps).Nodup)(ht:SP! nC ifs tt)(he:SP! PE elt te)(I:K!)(h:vR wi caps tt te σ H Q)(fin:∀(C D:Addr) (H':Hp) (s1 s':Shared) (H1:Hp),C=s1.heap.objs.size->Ro!->Jf!->AT H' C->(∃m,s'.heap.Ns C m)->BQ! D->compPost ZP! X.A X.xe use RQ VP! C (.ok .next) s')(hs:∀v,foldedSetIterable iter X.env v=pure v) : an! (comprehension Zo! sc X.env (firstIterPos ts! pos) (newList []) false (bu! iter) use) RQ:=by
 refine wpAny_comprehension_free rfl hs YB OA TH (S7! hi (λv s1 h1=>EM h1 λtP s2 h2=>?_));obtain⟨it,fp,tn,J,H2,e,I2,T,iG,f2,hW⟩:=h2;subst e;refine EI ?_;have jh:AT H2 s2.heap.objs.size:=gi!;have I3:AR! (so! s2.heap.objs.size) { s2 with heap:=s2.heap.push l5! }:=I2.oN (t':=s2.toks) (its:=[]) O! CT!;obtain⟨W,⟨m0,w0⟩,turn⟩:=hW s2.heap.objs.size jh;have fpn:FN! (b≠s2.heap.objs.size):=Sh! (by obtain⟨o,e,_⟩:=T.obj 0 _ iG b hb;exact HO! AV e (VZ! (DQ _)))
 have f3:Ux! (so! s2.heap.objs.size):=Q? ⟨EW! (Ac (fpn b hb)) (f2 b hb).1,(f2 b hb).2⟩;have NT:tn 0 (s2.heap.push l5!):=T.keep 0 _ _ iG λb hb o e=>HP!;obtain⟨D,hD⟩:∃D,D=s2.heap.objs.size:=AG!;obtain⟨H3,hH3⟩:∃H3,H3=YL! s2.heap.objs.size:=AG!;obtain⟨s3,ia⟩:∃s3:Shared,s3={ s2 with heap:=s2.heap.push l5! }:=AG!;have n9:tn 0 s3.heap:=G! ia NT
 rw[<-hH3] at I3 f3 w0;rw[<-ia] at I3;rw[<-hD] at turn;show wpAny _ _ _ _ _ ({ s2 with heap:=s2.heap.push l5! }:Shared);rw[<-ia,<-hD];refine wpAny_newFunctionEnv PD (by intro y hy;simp at hy) (λh1 hn1 dy=>?_) OA;have ok:=Jjq (N:=x::Hn caps) I3 f3 (Q? (let⟨o,e,_⟩:=T.obj 0 _ n9 b hb;DJ! e)) OA OY has;have tY:rE! bQ!:=lookup_relabel_local hx;have J4:=Jjr (t':=s3.toks+([]:H5!).length) I3 ok OY aD tY hn1 dy;have yI:tn 0 h1:=T.keep 0 _ _ n9 λb hb o e=>(dy.2 b (Rb! e)).trans (ZT _ e);have ZZ:∀{H':Hp},(Oq!)->FN! (Q8 aD! [] H' b):=λhn b hb=>by refine⟨Ci! hn,?_,λz=>ok.bc b hb z,H! hb,λy c e=>nd! (f3 b hb).2.2.2.2.1 y,E4!⟩;(.exact(ok.eF b hb).1);.have mD:p∈(X.pn++AA)++[]:=hp;rw[AH] at mD;exact(f3 b hb).2.2.2.2.2 p mD
 have loop:∀s4:Shared,s4={ s3 with heap:=h1,toks:=s3.toks+([]:H5!).length } -> codeAny ZP! X.A (.compLoop Zo! 0 Ey! VP! (compEnvC sc cl s3.heap.objs.size X.env)) (compPost ZP! X.A X.xe use RQ VP! s3.heap.objs.size) s4:=by rintro s4 rfl;refine Jcj (λk s'=>∃i v0 ys H',Inv aD! [] (v0::El σ caps) H' s'/\tn i s'.heap/\(Oq!)/\W i k ys H') ?_ m0 ⟨0,none,[],H3,J4,yI,Q? (f3 b hb).1,w0⟩;rintro k s5 ⟨i,v0,ys,H5,I5,gO,TQ,w5⟩;obtain⟨hD5,stop|⟨go,step⟩⟩:=turn i k ys H5 w5;(.obtain⟨stop,q⟩:=stop;refine D5! (T.done aD! rfl rfl hc i [] s5 _ H5 F0! I5 (ZZ TQ) gO stop);rintro r s6 ⟨hr,I6⟩;subst hr;obtain⟨mm,mE,_⟩:=I6.loc;exact fin _ D H5 s3 s6 H3 rfl I3 (Jhl I3 f3 I6) I6.free ⟨mm,mE⟩ q);.refine D5! (T.item aD! rfl rfl hc i [] s5 _ H5 F0! I5 (ZZ TQ) gO go);rintro r s6 ⟨u,hr,h6⟩;subst hr;refine EM h6 ?_;rintro _ s7 ⟨y,H7,I7,r7,y7,sI,T_⟩;have I7':=I7.pinned (ZZ T_) (v! T.obj sI);refine D5! (Bc (X:=XF X sc cl s3.heap.objs.size qL! s3 H3 fp AA) (i:=0) hN rfl (A1! tY) (wp tY) _ s7 (v0::El σ caps) H7 y u (λEN H'=>EN=al! (B! y)/\H'=H7) I7' r7 DL!);rintro _ s8 ⟨σ8,H8,I8,e8,e8'⟩;subst e8;subst e8';(have back:∀{xp:L2.St} {H9:Hp} {s9:Shared},Inv aD! ([]++Ph fp s7.heap) xp H9 s9->tn (i+1) s9.heap/\FN! (C7! H9):=λ{xp H9 s9} I9=>by refine⟨T.keep _ _ _ sI λb hb o e=>(I9.pin (b,o) (ZC _ (ZC _ (Hz hb e)))).1,F9!⟩;obtain⟨o,e,d⟩:=T.obj _ _ sI b hb;exact(I9.pin (b,o) (ZC _ (ZC _ (Hz hb e)))).2.1);refine D5! (ht _ _ _ _ _ _ s8 _ _ _ I8 (step y _ y7));rintro ok s9 ⟨H9,I9,q9⟩;cases ok with | false =>simp only[CY,EV] at q9 ⊢;obtain⟨m',hm,w9⟩:=q9;exact⟨m',hm,i+1,B! y,ys,H9,I9.MN,(back I9).1,(back I9).2,w9⟩ | true =>simp only[JW] at q9 ⊢;refine D5! (he _ _ _ _ _ _ s9 _ _ _ I9 q9);rintro xv lM ⟨v,i',I10,r10,xN,JK,m',hm,w10⟩;refine D5! (Df (X:=XF X sc cl s3.heap.objs.size qL! s3 H3 fp AA) _ lM _ i' VP! [v] VP! [xv] (λ_ H'=>H'=KO! i' D (ys++[v])) I10 rfl (iP! r10) ⟨D,ys,v,rfl,rfl,xN,JK,rfl⟩);rintro _ s11 ⟨_,nq,vV,_,e11⟩;subst e11;exact⟨m',hm,i+1,B! y,ys++[v],_,vV.MN,(back vV).1,(back vV).2,w10⟩
 exact codeAny_compStart_list (loop _ rfl) (T.self _ 0 _ _ _ yI (loop _ rfl))
theorem E4(hc:BI!)(hi:PI X (TT! px) iter wi)(YB:closureFor sc X.env=pure cl)(PD:dk! KM)(OA:U1!)(TH:∀y∈sc.names,y.2=OS!->ka! sc.names.lookup)(hx:QW!)(OY:Yq!)(has:∀y,(Pp! KM\/Pp! Cq!)->∃c,tU! c)(aD:Yp!)(hN:(x::Hn caps).Nodup)(ht:SP! nC ifs tt)(he:SP! PE elt te)(hs:∀v,foldedSetIterable iter X.env v=pure v:=by intro _;rfl):Ai! (.ListComp elt ts! sc pos) (vR wi caps tt te):=by intro AA s σ H Q I h;rw[eval_ListComp];refine Sn (use:=none) hc hi YB PD OA TH hx OY has aD hN ht he I h (?_) hs;rintro C D H' s1 s' H1 hC I1 I' hn ⟨m,hm⟩ q;subst hC;exact⟨m,hm,λh' uB=>Te! D H' (Jav (s':=s') I1 I' hn uB) q⟩
theorem Fm{i:Nat}{y:Str}{py n_:Pos}(qU:X.N.Nodup)(ag:X.N[i]?=B! y)(hy:HF! X.env.scope.names.lookup OS!)(hsw:swapsWith Zo! (some mj!) n_.line X.env=pure true)(hc:BI!)(hi:PI X (TT! px) iter wi)(YB:closureFor sc X.env=pure cl)(PD:dk! KM)(OA:U1!)(TH:∀y∈sc.names,y.2=OS!->ka! sc.names.lookup)(hx:QW!)(OY:Yq!)(has:∀y,(Pp! KM\/Pp! Cq!)->∃c,tU! c)(aD:Yp!)(hN:(x::Hn caps).Nodup)(ht:SP! nC ifs tt)(he:SP! PE elt te)(hs:∀v,foldedSetIterable iter X.env v=pure v:=by intro _;rfl) :
 PS X (.Assign [.Name y py] Zo! n_) (M1! (vR wi caps tt te σ H λv H'=>D.nx pF! H')):=by
 intro AA s σ H D I h
 rw[exec_Assign_Name_used _ _ _ _ hsw]
 refine bB! wpAny_standAt ?_
 show wpAny _ X.A (do let _ <-comprehension Zo! sc X.env _ (newList []) false (bu! iter) (some (assign mj! X.env))) _ _ s
 refine ZR (FA (Sn (use:=B! (assign mj! X.env)) (RQ:=λ_ s'=>SP X AA D .next s') hc hi YB PD OA TH hx OY has aD hN ht he I h (λC Dd H' s1 s' H1 hC I1 I' hn ⟨m,hm⟩ q=>?_) hs) (λ_ s' hq=>ZS (ZS hq)) UG!)
 subst hC
 show Wn! (assign mj! X.env (K? Dd))
 refine wpAny_assign_Name (Rh I' qU ag (A1! hy) (EX! (RelV (K? Dd) (K? Dd))) (λs2 I2 ⟨a,YR,ha⟩=>?_) (wp hy))
 have hCa:s1.heap.objs.size≠a:=by
  rcases ha with z|z
  .rw[z];exact ER I1.lt
  .intro z2
   obtain⟨v,qc⟩:=I1.cell y a z
   exact Iy! qc.lt (N? z2 (DQ _))
 exact⟨m,hm.sameBut YR hCa,λh' uB=>⟨_,H',Jav (s':=s') I1 I2 hn uB,q⟩⟩
universe E
def MZ(h:Heap)(d:Addr)(es:Db!)(ep:Nat):Prop:=∃o,Tw! h.get?/\o.ExactDict/\Ic!
theorem MZ.at(x:TU! h)(k:∀o,Tw! h.get?->Tw! h'.get?):TU! h':=let⟨o,e,r⟩:=x;BT! (k o e) r
universe S
theorem Wh(nos:V8!)(hm:IS!)(hQ:am s.heap.objs.size (FQ! (GK! (tD! aP! (#[DD!,OD! 0,OD! es.size,hb!]))))):sE! pyIter d:=by obtain⟨ob,g1,g2,g3⟩:=id hm;have tD:kO! (K? d):=⟨ob,g1,g2.1⟩;refine wpAny_pyIter_slot tD F.slot_dict_iter (DG F.slot_dict_iter tD F.entry_dict_iter ?_ (F.args_dict_iter_1 _));unfold Builtin.«dict.__iter__»;refine I5!;unfold Builtin.Dict.dictSlotNone;refine ZR (HZ tD ?_);show T4! (pure (Value.ref d));refine ZS ?_;show hu! (Builtin.Dict.showsAll d);unfold Builtin.Dict.showsAll;rw[fK! nos];refine h9!;refine Md! CL g1 g3 (EO g1 g3 ?_);refine QE! EI (Hj! aP! _ f8! F.slot_dict_keyiterator_next.lookup (by simpa [rawInt] using hQ))
theorem Wf(hit:RW! s.heap.IsKeyIter es.size)(hm:IS!)(hx:es[i]?=B! e)(hQ:∀h',h'.IsKeyIter it d FB es.size ep->rb! it->Q (some e.key) db):nQ!:=by
 obtain⟨oi,i1,i2,i3⟩:=id hit;obtain⟨ob,g1,g2,g3⟩:=id hm;have tI:=hit.typeIs;unfold pyNext;refine pW! tI HP (DG HP tI F.entry_dict_keyiterator_next ?_ (F.args_dict_keyiterator_next_1 _));refine iA! ?_;first|refine ig!|refine ih!
 refine ZR (wpAny_fieldsOf i1 i3 ?_);have aL:i? (Builtin.Dict_items.ownsTuple aP!):=a!
 simp only[aL,CY,EV];show T4! lb!;rw[ki!];refine X1! g1 g3;rw[Ce!];refine iJ! g1 g3;rw[Ce!];refine ZS ?_;have lt:i<es.size:=(Array.getElem?_eq_some_iff.mp hx).1;have ee:es[i]=e:=(Array.getElem?_eq_some_iff.mp hx).2;simp only[EY! mQ! A!,EV,AM,Array.getElem?_eq_getElem lt];refine I5!;first|refine ig!|refine ih!
 refine ZR (wpAny_isOneOf_keyiter tI ?_);show hu! (mM! 1 rawInt hJ!);refine ZR (wpAny_setField i1 i3 XV ?_);have oX:(s.heap.update it (Obj.mapFields (·.setIfInBounds 1 (rawInt ((i:Int)+1))))).IsKeyIter it d FB es.size ep :=⟨_,H_ _ i1 (Obj.isFreed_of_fields (Obj.data_mapFields i3 _)),(Obj.cls_mapFields ..).trans i2,by rw[Obj.data_mapFields i3];simp[rawInt]⟩;refine A3! EG ?_;refine ZR (wpAny_isOneOf_keyiter (s:=FQ! (s.heap.update it (Obj.mapFields (·.setIfInBounds 1 (rawInt ((i:Int)+1)))))) oX.typeIs ?_);show Wn! (pure es[i].key);rw[ee];exact ZS (ZS (t? (ZS (hQ _ oX Hp!))))
theorem Z7(hh:M5!)(hit:RW! s.heap.IsKeyIter es.size)(hm:IS!)(hx:es.size<=i)(hQ:∀h',Heap.ExtBut it s.heap h'->LR! none):nQ!:=by
 obtain⟨oi,i1,i2,i3⟩:=id hit;obtain⟨ob,g1,g2,g3⟩:=id hm;have tI:=hit.typeIs;unfold pyNext;refine pW! tI HP (DG HP tI F.entry_dict_keyiterator_next ?_ (F.args_dict_keyiterator_next_1 _));refine iA! ?_;first|refine ig!|refine ih!
 refine ZR (wpAny_fieldsOf i1 i3 ?_);have aL:i? (Builtin.Dict_items.ownsTuple aP!):=a!
 simp only[aL,CY,EV];show T4! lb!;rw[ki!];refine X1! g1 g3;rw[Ce!];refine iJ! g1 g3;rw[Ce!];refine ZS ?_;simp only[EY! mQ! A!,EV,AM,Array.getElem?_eq_none hx];refine I5!;first|refine ig!|refine ih!
 show hu! (setField Ey! 0 KF);refine ZR (wpAny_setField i1 i3 XV ?_);show Wn! (newExc (B9! NC!) [] >>= _);refine I5!;simp only[newExc,newTuple];refine ZR (EI ?_ (aQ!));refine ZR (m:=firstArgMember _ _) (wpAny_of_eq (a:=Value.none) (by first|rfl|(simp only[firstArgMember];rfl)) ?_);refine EI ?_ (aQ!);simp only[raiseNew];refine A3! wpAny_handled ?_;rw[show A.in1.handled=none from hh];refine ZR (ZS (wpAny_throw ?_));refine ZR (wpAny_isInstance (T:=NC!) (b:=true) f8! isSubtype_stop ?_);exact ZS (hQ _ (((Heap.SameBut.update ..).extBut.push _).push _))
universe E
def qz(H:Hp)(kvs:o0)(as:J!):Prop:=DU! (λ(p:List Key×V)(a:Addr)=>ja! bi!) kvs as
universe S
theorem Jg8{kvs:o0}{xs:G2!}(p:Gu!):qz H kvs (xs.map FR!):=kc! Jhz be
theorem Vj(I:K!)(e:Hk! d .dT kvs):UD!/\V8!/\∃(es:Db!)(ep:Nat)(as:J!),IS!/\es.size=kvs.length/\qz H kvs as/\∀j (h:hc!),∃a,as[j]?=B! a/\es[j].key=Tk:=by
 obtain⟨z,lo,xs,rel,o,es,ep,g1,g2,g3,g4,g5⟩:=tk! (.dT kvs) (e.ok I.DM);have hl:es.size=xs.length:=aR! (MJ! g4)
 refine⟨z,lo,es,ep,UQ! xs.map,⟨o,g1,g2,g3⟩,EW! hl (Ao! Paired.length rel),Jg8 rel,λj h=>?_⟩;have hj:Sf!:=A!
 have e1:es.toList[j]?=B! (es[j]):=by simp[h]
 rw[g4,ZH] at e1;have e2:Se!=B! (xs[j]):=hg!
 rw[e2] at e1;refine Go xs[j].2.1 (a1! e2);have e3:entryOfKey (tupleKind J4!) xs[j]=es[j]:=ZO e1;rw[<-e3];rfl
universe E
universe S
theorem Kg(I:K!)(hd:∃o,GD! o)(nt:∀xs,H d≠B! (.BG xs))(no:∀y,H d≠B! (CA! y))(nf:∀o v,X.TB d≠B! (.GB o v))(ntb:∀ps,H d≠B! (.eS ps))(new:bG! (upd H d u) d u):nO! u:=by
 obtain⟨o,hd⟩:=hd;have fr:∀b,s?->C7! (upd H d u):=λb n=>i! (λz=>by rw[z,hd] at n;cases n) n
 refine⟨I.ok,I.os,I.bare,⟨I.base.keep,I.base.slot,λb ob e n hx=>fr b (ox! ob),I.base.there,λb xs e=>?_,λb ob v e=>?_,λb ps e=>?_⟩,I.loc,I.cell,fr _ I.free,λy c e=>fr _ (I.KD y c e),E4!,λb v e=>?_,I.len⟩;.have:=I.base.PM b xs e;rw[Ac λz=>nt xs (qM! this)];exact this
 .have:=I.base.NJ b ob v e;rw[Ac λz=>nf ob v (qM! e)];exact this
 .obtain⟨more,q⟩:=I.base.PN b ps e;exact⟨more,i! (λz=>ntb _ (c5! q)) q⟩
 .obtain⟨a1,a2,a3⟩:=Xs!;exact⟨a1,fr _ a2,a3⟩
 .by_cases hb:b=d;(.subst hb;rw[Ab] at e;cases e;exact new);.rw[DE!] at e;refine(I.DM b v e).NY (aS!) (dH!) dK!;(.rw[Ac λz=>no _ (c5! q)];exact q);.rw[Ac λz=>nt _ (c5! q)];exact q
theorem Zb(I:K!)(e:hp!):∃o,hn!/\nO! MG!:=by
 have ok:=I.DM d _ e;obtain⟨_,_,xs,_,o,es,ep,g,_⟩:=id ok;refine BT! g (Kg I AM! (λxs z=>IT!) (λy z=>IT!) (λob v z=>dO! (I.base.NJ d ob v z) e) (λps z=>IT!) (d? g));refine ok.NY (aS!) (dH!) dK!;.rw[SL!];exact q
 .rw[SL!];exact q
theorem Xn(I:K!)(e:GD! Ge!)(nf:∀o v,X.TB d≠B! (.GB o v)):nO! u:=by
 obtain⟨g,ok⟩:=tk! Ge! (I.DM d _ e);refine Kg I AM! (λxs z=>IT!) (λy z=>IT!) nf (λps z=>IT!) ?_;refine ok.NY (aS!) (dH!) dK!;.rw[SL!];exact q
 .rw[SL!];exact q
inductive Jlb(TB H H':Hp):Prop
 | mk d o u (_:GD! Ge!) (_:(∀o v,TB d≠B! (.GB o v))) (_:H'=upd H d u)
theorem PE.ZY(h:Ai! e t):Ai! e (Kt! (λv H1=>∃H2,Jlb X.TB H1 H2/\Q v H2)):=λAA s σ H Q I hw =>EM (h AA s σ H _ I hw) λu s' ⟨v,H1,I1,r,H2,⟨d,o,w',e1,e2,e3⟩,q⟩=>⟨v,H2,Oi! (Xn I1 e1 e2),r,q⟩
theorem QO.ZY(h:QO X FZ t):QO X FZ (M1! (∃H2,Jlb X.TB H H2/\t D σ H2)):=λAA s σ H D I ⟨H2,⟨d,o,w',e1,e2,e3⟩,q⟩=>by subst e3;exact h AA s σ _ D (Xn I e1 e2) q
universe E
def f9(d:Addr)(kvs:o0)(o:Obj):It :=
 Y8! (dY! MG! hz!) (∃a k v,BZ!/\MT! Si!/\ja! k.map) (dY! MG! (kvs.length<=i))
theorem Ja8{P:Program}{w:World}{K:W.Frag}{tg:Expr}(d it:Addr)(kvs:o0)(o:Obj)(es:Db!)(ep:Nat)(ho:o.ExactDict)(hd:Ic!)(hz:es.size=kvs.length):aN! (f9 d kvs o) (RW! h.IsKeyIter es.size) where
 mem:=B?
 obj:=UK! (by
  have e:b=it:=Cr!
  subst e
  obtain⟨oi,e,c,q⟩:=st
  exact⟨oi,e,dZ! q⟩)
 keep:=λi h h' ⟨oi,e,r⟩ k=>⟨oi,k it XV oi e,r⟩
 item:=by
  intro X hP hw hc i AA s σ H E I hf st ⟨hg,hi⟩
  subst hP hw
  obtain⟨f0,f1,f2,f3,f4,f5⟩:=Gx!
  have g:hn!:=(show DT X.prog X.w H s.heap d MG! from I.DM d _ hg).1
  obtain⟨_,_,i4,i5,as,⟨o',g',q1,q2⟩,z',ks,at_⟩:=Vj I (y! (DJ! hg))
  rw[g] at g';cases g'
  rw[hd] at q2
  injection q2 with q2 q3
  subst q2;subst q3
  have lt:i<es.size:=A!
  obtain⟨a,ha,hk⟩:=at_ i lt
  have hx:Si!=B! (kvs[i]):=aT!
  refine Wf st ⟨o,g,ho,hd⟩ (e:=es[i]) (by simp[lt]) λh' TV sb=>?_
  have I1:LT!:=b4! (h5! (XY! e))
  obtain⟨oi,e,c,q⟩:=id TV
  refine t? (pP! q (lc! Tk hk ⟨rfl,a,kvs[i].1,kvs[i].2,rfl,hx,Ax ks i kvs[i] a hx ha⟩))
 done:=by
  intro X hP hw hc i AA s σ H E I hf st ⟨hg,hi⟩
  subst hP hw
  obtain⟨f0,f1,f2,f3,f4,f5⟩:=Gx!
  have g:hn!:=(show DT X.prog X.w H s.heap d MG! from I.DM d _ hg).1
  exact Z7 Gp! st ⟨o,g,ho,hd⟩ C! (ZC! (h5! (eb b ob hb e)))
 self:=ZD! wpAny_pyIter_keyiter
universe S
def Jk0(td:TE):TI:=da! td (∃d kvs,x=DD!/\b? H1 d .dT kvs/\∀o,R (f9 d kvs o) (upd H1 d MG!))
theorem Oc{l:Expr}{td:TE}(hl:Ai! l td):PI X tg l (Jk0 td):=by
 intro AA s σ H R I h;refine jj!;rintro v s1 ⟨x,H1,I1,r1,d,kvs,ex,hd,hR⟩;subst ex;cases r1;obtain⟨o,g,I2⟩:=Zb I1 hd;obtain⟨_,lo,es,ep,as,⟨o',g',q1,q2⟩,z,ks,at_⟩:=DV! Vj I1 hd;rw[g] at g';cases g';refine Wh lo ⟨o,g,q1,q2⟩ ?_;have fresh:=gi!;have I3:AR! (upd H1 d MG!) { s1 with heap:=s1.heap.push (tD! aP! (#[DD!,OD! 0,OD! es.size,hb!])) }:=h3! I2.kept (λb ob e=>HP!);refine n2! (f9 d kvs o) _ I3 (Ja8 d _ kvs o es ep q1 q2 z) YP! (hR o);have e:co!:=Cr!
 subst e;exact I2.bZ (ZG _) fresh
universe E
universe E FX
universe N FhS
open PySem PyProof.Rows PySem.W
def M_(cmp:Nat->Nat->Uf (Uf Bool))(lt:gj!)(n:Nat)(s:Shared):Prop :=
 ∀i j,i<n->j<n->∀C:Uf Bool,C (lt i j) s->cmp i j C s
structure pE(lt:gj!)(n:Nat):Prop where
 tr:∀i j k,i<n->j<n->k<n->dB!->lt j k=true->lt i k=true
 tot:∀i j,i<n->j<n->i≠j->i? (lt i j)->lt j i=true
structure Pm(p:JH!)(n:Nat):Prop where
 pm:h6! p.toList.Perm
theorem Pm.size(h:EU!):p.size=n:=by have:=h.pm.length_eq;simpa using this
theorem Pm.lt(h:EU!)(hi:i<n):p.getD i 0<n:=by
 have hs:=h.size;have ag:i<p.size:=A!
 have e:p.getD i 0=p[i]:=by simp[Array.getD,ag]
 rw[e];have:p[i]∈List.range n:=h.pm.mem_iff.mp (B?);exact BI.mp this
theorem Pm.inj(h:EU!)(hi:i<n)(hj:j<n)(e:p.getD i 0=p.getD j 0):i=j:=by
 have hs:=h.size;have ag:i<p.size:=A!
 have fM:j<p.size:=A!
 have nd:p.toList.Nodup:=h.pm.nodup_iff.mpr List.nodup_range;have e1:p.getD i 0=p[i]:=by simp[Array.getD,ag]
 have e2:p.getD j 0=p[j]:=by simp[Array.getD,fM]
 rw[e1,e2] at e;have:=(JR (xs:=p.toList) (i:=i) (j:=j) (h₀:=by simpa using ag) (h₁:=by simpa using fM) nd).mp (Eb!);exact this
theorem Pm.bB(h:EU!)(hq:q.Perm p):Pm q n:=⟨(Array.perm_iff_toList_perm.mp hq).trans h.pm⟩
theorem Jdv(n:Nat):Pm (List.toArray (List.range n)) n:=⟨B?⟩
def Up(lt:gj!)(p:JH!)(m:Nat):Prop:=∀i j,i<j->j<m->aA! cN! j
def Dn(lt:gj!)(p:JH!)(m:Nat):Prop:=∀i j,i<j->j<m->jt! j
universe S
variable (O:pE lt n)
include O
theorem other(h:EU!)(hi:i<n)(hj:j<n)(ae:i≠j)(e:i? (lt cN! (p.getD j 0))):jt! j :=O.tot _ _ (h.lt hi) (h.lt hj) (λz=>ae (h.inj hi hj z)) e
theorem Up.snoc(h:EU!)(h1:1<=a)(ha:a<n)(u:Q1! a)(e:aA! j4! a):Up lt p (a+1):=by
 intro i j ae hj;by_cases uF:j=a;.subst uF;by_cases hi:i=j-1;(.rw[hi];exact e);.exact og! Nh! (h.lt ha) (u i (j-1) C! (Fu! (TI! Nat.sub_lt NM!))) e
 .exact u i j ae C!
theorem Dn.snoc(h:EU!)(h1:1<=a)(ha:a<n)(u:Dn lt p a)(e:lt (p.getD a 0) j4!=true):Dn lt p (a+1):=by
 intro i j ae hj;by_cases uF:j=a;.subst uF;by_cases hi:i=j-1;(.rw[hi];exact e);.exact og! (h.lt ha) Nh! e (u i (j-1) C! (Fu! (TI! Nat.sub_lt NM!)))
 .exact u i j ae C!
theorem Zk(K:ST!)(h:EU!):∀(f a:Nat)(G:Uf Nat),1<=a->a+f<=n->Q1! a -> (∀m,a<=m->m<=a+f->Q1! m->(m=a+f\/lt (p.getD m 0) (p.getD (m-1) 0)=true)->G m s)->(kas_asc p f a).kasWp cmp G s
 | 0,a,G,_,_,u,k=>k a GM GM u Bv!
 | f+1,a,G,h1,hn,u,k=>by unfold kas_asc;refine aF! Nh!;cases e:lt (p.getD a 0) j4! with | true =>simp only[JW];exact k a GM (Fu! (HW _ _)) u (wp e) | false =>simp only[CY,EV];exact Zk K h f (a+1) G (sI! FR) C! (Up.snoc O h h1 C! u (other O h C! C! C! e)) λm a1 a2 a3 a4=>k m i3! C! a3 (a4.imp (λz=>A!) OR!)
theorem Jar(K:ST!)(h:EU!):∀(f a:Nat)(G:Uf (JH!×Nat×Nat)),1<=a->a+f<=n->Dn lt p a -> (∀m,a<=m->m<=a+f->Dn lt p m->G (p,m,0) s)->(kas_desc f p a 0).kasWp cmp G s
 | 0,a,G,_,_,u,k=>k a GM GM u
 | f+1,a,G,h1,hn,u,k=>by unfold kas_desc;refine aF! Nh!;cases e:lt (p.getD a 0) j4! with | true =>simp only[JW,DQ,gt_iff_lt,EV];exact Jar K h f (a+1) G (sI! FR) C! (Dn.snoc O h h1 C! u e) λm a1 a2 a3=>k m i3! C! a3 | false =>simp only[CY,EV];refine aF! Nh!;simp only[other O h C! C! C! e,JW];exact k a GM (FS! (HW _ _)) u
omit O in
theorem Og{p q:Array Nat}{i j:Nat}(e:p[i]?=q[j]?):p.getD i 0=q.getD j 0:=by
 rw[Array.getD_eq_getD_getElem?,Array.getD_eq_getD_getElem?,e]
omit O in
theorem Jit{p:Array Nat}{m:Nat}(hm:m<=p.size)(d:Dn lt p m):Up lt (kas_rev p 0 m) m:=by
 intro i j ae hj
 have g:∀k,k<m->(kas_rev p 0 m).getD k 0=p.getD (m-1-k) 0:=λk hk=>by
  refine Og ?_
  unfold kas_rev
  rw[getElem?_mirror_all hm,AE ⟨AY _,hk⟩]
  congr 1;lia
 rw[g i (by lia),g j hj]
 exact d _ _ (by lia) (by lia)
theorem Jfi(K:ST!)(hn:1<=n)(h:EU!)(G:Uf (Nat×JH!))(k:∀m q,1<=m->m<=n->Pm q n->Up lt q m->G (m,q) s):(kas_count n p).kasWp cmp G s:=by
 unfold kas_count;rw[OC];have up1:Q1! 1:=λi j h1 h2=>A!
 refine Zk O K h (n-1) 1 _ GM C! up1 λa a1 a2 a3 a4=>?_;by_cases ha:Aa! (a==n);.rw[AE ha];exact k a p a1 C! h a3
 .rw[AD ha];(have uQ:a≠n:=by simpa using ha);by_cases h1:a > 1;(.rw[AE h1];refine aF! (h.lt (iu!));simp only[a3 0 (a-1) C! (Fu! (TI! Nat.sub_lt NM!)),JW];exact k a p a1 C! h a3);.rw[AD h1];(have e1:a=1:=A!);subst e1;unfold kas_descPart;rw[OC];have e2:aA! (p.getD 1 0) 0:=a4.elim (λz=>A!) OR!;(have d2:Dn lt p (1+1):=by intro i j ae hj;(have e3:i=0:=A!);(have e4:j=1:=A!);rw[e3,e4];exact e2);refine Jar O K h (n-(1+1)) (1+1) _ (Fu! (E_ _)) C! d2 λm q2 q3 q4=>?_;simp only[gt_iff_lt,DQ,EV];unfold kas_tail3;rw[OC];have hr:Pm (kas_rev p 0 m) n:=h.bB (h! mirror_perm _ _);refine Zk O K hr (n-m) m _ i3! C! (Jit (FP! h.size) q4) λb b1 b2 b3 _=>?_;exact k b _ C! C! hr b3
theorem Pg(K:ST!)(h:EU!)(hk:k<n)(u:Q1! k):∀(f l r:Nat)(G:Uf Nat),l<=r->r<=k->r-l<=f->(∀i,i<l->aA! cN! k)->(∀i,r<=i->i<k->jt! k) -> (∀m,m<=k->(∀i,i<m->aA! cN! k)->(∀i,m<=i->i<k->jt! k)->G m s)->(kas_place p k f l r).kasWp cmp G s
 | 0,l,r,G,h1,h2,h3,lo,hi,g=>g l (Fu! mi!) lo λi a b=>hi i C! b
 | f+1,l,r,G,h1,h2,h3,lo,hi,g=>by unfold kas_place;by_cases q:l ≥ r;(.rw[AE q];exact g l (Fu! mi!) lo λi a b=>hi i (FS! mi!) b);.rw[AD q];refine aF! (h.lt hk);cases e:lt (p.getD k 0) (p.getD (Zm!) 0) with | true =>simp only[JW];refine Pg K h hk u f l (Zm!) G C! C! C! lo (λi a b=>?_) g;by_cases z:i=Zm!;(.rw[z];exact e);.exact og! (h.lt hk) Nh! e (u _ _ C! b) | false =>simp only[CY,EV];have e':=other O h hk C! C! e;refine Pg K h hk u f (Zm!+1) r G C! h2 C! (λi a=>?_) hi g;by_cases z:i=Zm!;(.rw[z];exact e');.exact og! Nh! (h.lt hk) (u _ _ C! C!) e'
omit O in
theorem Jjp{p:Array Nat}(h:Pm p n){k l:Nat}(hk:k<n)(hl:l<=k)(u:Up lt p k)(lo:∀i,i<l->lt (p.getD i 0) (p.getD k 0)=true)(hi:∀i,l<=i->i<k->lt (p.getD k 0) (p.getD i 0)=true) :
 Up lt (bubble p k (k-l)) (k+1):=by
 have g:∀j,j<k+1->(bubble p k (k-l)).getD j 0=if j=l then p.getD k 0 else if l<j then p.getD (j-1) 0 else p.getD j 0:=λj hj=>by
  have e:=getElem?_bubble (xs:=p) (src:=k) (by rw[h.size];exact hk) (k-l) (by lia) j
  rw[show k-(k-l)=l by lia] at e
  by_cases c1:j=l
  .rw[AE c1] at e ⊢;exact Og e
  .rw[AD c1] at e ⊢
   by_cases c2:l<j
   .rw[AE ⟨c2,by exact NX ‹_›⟩] at e;rw[AE c2];exact Og e
   .rw[AD (by lia)] at e;rw[AD c2];exact Og e
 intro i j ae hj
 rw[g i (by lia),g j hj]
 repeat' split
 all_goals first
  | (exfalso;lia)
  | exact lo _ (by lia)
  | exact hi _ (by lia) (by lia)
  | exact u _ _ (by lia) (by lia)
theorem Jfk(K:ST!):∀(f:Nat)(p:JH!)(k:Nat)(G:Uf JH!),EU!->k+f=n->Q1! k->(∀q,Pm q n->Up lt q n->G q s)->(kas_bin f p k).kasWp cmp G s
 | 0,p,k,G,h,hk,u,g=>by (have e:k=n:=iu!);subst e;exact g p h u
 | f+1,p,k,G,h,hk,u,g=>by unfold kas_bin;rw[OC];exact Pg O K h (k:=k) C! u k 0 k _ CT! GM (Fu! At) (λi a=>by contradiction) (λi a b=>FS! (absurd NM! (Nat.not_lt_of_le NM!))) λm c1 c2 c3 =>Jfk K f _ (k+1) G (h.bB (v! bubble_perm _)) C! (Jjp h C! c1 u c2 c3) g
theorem gL(K:ST!)(hn:1<=n)(G:Uf JH!)(g:∀q,Pm q n->Up lt q n->G q s):(kas_sort n).kasWp cmp G s:=by
 unfold kas_sort;rw[OC];refine Jfi O K hn (Jdv n) _ λm q h1 h2 h3 h4=>?_;by_cases c:m<n;.rw[Ch];(have e2:max m 1=m:=A!);show(kas_bin (n-max m 1) q (max m 1)).kasWp cmp G s;rw[e2];exact Jfk O K _ q m G h3 C! h4 g
 .rw[IR];(have e2:m=n:=A!);subst e2;exact g q h3 h4
universe E
universe E FhS
universe N FX
open PySem PySem.Spec PyProof.Rows L2
universe S
theorem Jbi(hh:M5!)(I d:Addr)(fJ:d≠I)(es:Db!)(ep:Nat):Walks prog w A I [I,d] [I] es.size (oD!) (λi h=>h.IsKeyIter I d i es.size ep/\TU! h) where
 sub:=Q? (by simp at hb;simp[hb])
 frame:=λ_ _ _ st hk=>⟨let⟨o,e,r⟩:=st.1;BT! (iF! hk I) r,st.2.at λo e=>iF! hk d⟩
 item:=λi s0 Q E0 hi st hQ=>Wf st.1 st.2 (e:=es[i]) (aT!) λh' it' sb =>
  hQ _ h' s0.toks (GO! (es[i]) aT!) ⟨it',st.2.at λo e=>(sb.2 d fJ).trans e⟩ (Uy! (sb.2 b (M? hb (by simp[z]))).trans)
 done:=λs0 Q E0 st hQ=>Z7 hh st.1 st.2 GM λh' eb=>hQ h' s0.toks (il! (kN! hb))
 self:=λ_ _ _ _ st hQ=>wpAny_pyIter_keyiter st.1 hQ
theorem T5(lo:V8!):W.KdlSrc prog w "dict" d d es.size (oD!) (λh=>TU! h) where
 type:=λ_ ⟨o,e,x,_⟩=>FF! x.1
 there:=λ_ ⟨o,e,_⟩=>⟨Be!,Be!⟩
 keep:=λ_ _ hm hk=>hm.at λo e=>hk d Bv! o e
 notList:=a!
 notTuple:=a!
 hint:=λ_ _ _ _ ⟨o,e,x,_⟩ hq=>W.kdl_hint_dict (FF! x.1) hq
 iter:=λ_ s0 hh hm=>Aj! _ (λ_ _ hq=>Wh lo hm hq) (Jbi hh _ d (let⟨o,e,_⟩:=hm;BQ (AV e)) es ep) ⟨YP!,hm.at λo e=>HP!⟩
universe E
theorem Jk:∀as:J!,Vals (as.map V.ref) qG!
 | []=>O!
 | _::as=>q! rfl (Jk as)
theorem X7{es:Db!}{acc:E1!}{as:J!}(ha:ItemsOf (oD!) acc es.size)(mF:as.length=es.size)(at_:∀j (h:hc!),∃a,as[j]?=B! a/\es[j].key=Tk):jZ! YY!:=by
 refine Y3!;by_cases hj:hc!;·(have h1:j<acc.size:=G! ha.1 hj);obtain⟨e2,e3,e4⟩:=ha.2 j acc[j] (je!);obtain⟨a,e5,e6⟩:=at_ j hj;(have e7:e2=es[j]:=by (have:es[j]?=B! (es[j]):=hg!);rw[this] at e3;exact Ao! ZO e3);rw[ZH,e5];(have:acc.toList[j]?=B! (acc[j]):=je!);rw[this,e4,e7,e6];rfl
 ·(have h1:acc.toList.length<=j:=ut DA ha.1 IJ!);(have h2:jW!<=j:=To!);rw[CS h1,CS h2]
universe S
variable {X:Cx Kx}
inductive N2(xs:E!)(H:Hp)(Q:VK):Prop
 | mk d kvs (_:hL!) (_:Hk! d .dT kvs) (_:∀l as,FB!->qz H kvs as->am l (Po! l as.map))
theorem Qr(hc:BI!):Ga X (B9! ci) N2:=by intro AA s σ H xs us Q I r h;obtain⟨d,kvs,rfl,hd,q⟩:=h;obtain⟨u,rfl,rx⟩:=JJ!;cases rx;obtain⟨z,lo,es,ep,as,raw,hz,ks,at_⟩:=Vj I hd;refine W.kdl_call (T5 lo (es:=es) (ep:=ep)) Gp! raw (P! hz z) λh' tk acc c kp e ha=>?_;have hn:PS!:=L3!;have mF:as.length=kvs.length:=Ao! Paired.length ks;have e1:jZ! YY!:=X7 ha C! at_;refine sM! (oB! I.laid tk kp (WX! _ _ W7!) ⟨To!,acc.toList,c,?_,Eb!⟩) (q _ as hn ks);rw[e1];exact Jk as
universe E
theorem Od:∀xs:d!,i? (HT.lexLt xs xs)
 | []=>rfl
 | x::xs=>ut HT.F_ e? (Od xs)
theorem Uy:∀{xs ys zs:d!},Li! xs ys->Li! ys zs->Li! xs zs
 | [],[],_,h,_=>DQ!
 | [],_::_,[],_,h=>DQ!
 | [],_::_,_::_,_,_=>rfl
 | _::_,[],_,h,_=>DQ!
 | _::_,_::_,[],_,h=>DQ!
 | x::xs,y::ys,z::zs,h1,h2=>by rw[HT.F_] at h1 h2 ⊢;by_cases e1:x=y;(.rw[AE e1] at h1;by_cases e2:y=z;(.rw[AE e2] at h2;rw[AE (e1.trans e2)];exact Uy h1 h2);.rw[AD e2] at h2;rw[AD (G! e1 e2),e1];exact h2);.rw[AD e1] at h1;have h1:=BK h1;by_cases e2:y=z;(.rw[AD (N? e2 e1),<-e2];exact decide_eq_true h1);.rw[AD e2] at h2;have h2:=BK h2;rw[I6!];exact fV!
theorem Uz:∀{xs ys:d!},xs≠ys->i? (HT.lexLt xs ys)->Li! ys xs
 | [],[],h,_=>gM!
 | [],_::_,_,h=>DQ!
 | _::_,[],_,_=>rfl
 | x::xs,y::ys,fJ,h=>by rw[HT.F_] at h ⊢;by_cases e:x=y;(.rw[lc] at h;rw[AE e.symm];exact Uz (M? fJ (R? e z)) h);.rw[Rs] at h;have h:=of_decide_eq_false h;rw[AD (Ne.symm e)];exact fV!
theorem Hv{α:Type}{lt:wE α α}(irr:∀a,¬lt a a)(pB:∀a b,lt a b->¬lt b a):∀{WO l₂:S!},WO.Perm l₂->WO.Pairwise lt->l₂.Pairwise lt->WO=l₂
 | [],l₂,p,_,_=>(List.Perm.nil_eq p)
 | a::WO,[],p,_,_=>by have:=p.length_eq;simp at this
 | a::WO,b::l₂,p,h1,h2=>by have kH:=DP.mp h1;have bw:=DP.mp h2;(have e:a=b:=by have ha:a∈b::l₂:=p.mem_iff.mp (AV!);have hb:b∈a::WO:=p.mem_iff.mpr (AV!);rcases ZM ha with e|ha;(.exact e);.rcases FE! with e|hb;(.exact e.symm);.exact ga (bw.1 a ha) (v! pB (kH.1 b hb)));subst e;rw[Hv irr pB (List.Perm.cons_inv p) kH.2 bw.2]
universe S
theorem Rv(ho:JZ! s.heap.get? vs.toArray n)(aj:vs.length<64)(O:FhS.pE lt vs.length)(K:2<=vs.length->∀h',(iZ!)->∀Q:Uf SortKind,(∀κ,FhS.M_ (W.kas_ask prog w A κ vs) lt vs.length db->LR! κ)->Xw! (keyKind' vs.toArray) db)(h:∀q:BB!,Xp! vs.length->ZM! dB!->∀h' c,(iZ!)->JZ! h'.get? (XR! (CP! vs.getD KF)) c->P lD! db) :
 Ru! (Builtin.«list.sort» Lu!) P:=by
 rw[list_sort_plain]
 have al:a<s.heap.objs.size:=AV ho
 have small:∀{k:Nat},k<=63->k<=sizeLine:=λhk=>G! DF (L5! NM!)
 refine Md! listItems_at ho rfl (listUpdate_at ho rfl ?_ (P! BH (small (FS! (S6! NX)))) CT!)
 obtain⟨e1,g1⟩:∃e1,JZ! (s.heap.update a (Obj.mapSeq λ_=>(#[]:E1!))).get? (#[]) e1:=T? (K' ho λ_=>#[])
 refine Md! seqEpoch_at g1 rfl (wpAny_newTuple (ZR (TJ (EG ?_) CT!)) (by show vs.length<=_;exact small (FS! (S6! NX))))
 have g2:JZ! (pA! (seqObj ci #[] 0)).get? (#[]) e1:=ZT _ (ZT _ g1)
 have kp:cr (b≠a->Dw!->AB! (pA! (seqObj ci #[] 0)).get?):=λb o hb e =>
  ZT _ (ZT _ (dR! e))
 show rq! _ P (FQ! (pA! (seqObj ci #[] 0)))
 generalize pA! (seqObj ci #[] 0)=hh at g2 kp
 dsimp only
 have fin:∀(st:SortSt)(q:BB!),(arrOf st).map T0=XR! (CP! vs.getD KF)->AT failedOf st->Xp! vs.length->ZM! dB! ->
  rq! (do
   let touched:=(<-seqEpoch a) != e1
   Builtin.List.listUpdate PP λ_=>Bw! arrOf st T0
   if let B! e:=failedOf st then rule "list.sort.comparison-raised";throw e
   if touched then rule "list.sort.modified";raiseError "ValueError" "list modified during sort"
   ret KF) P kd!:=λst q ea ef qp qo=>by
  have hl:q.length=vs.length:=R? qp.length_eq CB
  refine ZR (seqEpoch_at g2 rfl ?_)
  rw[ea]
  refine ZR (listUpdate_at g2 rfl ?_ CT! (by show(q.map (CP! vs.getD Value.none)).toArray.size<=sizeLine+1;rw[BH,ZA,hl];exact FR (small (sI! NX))))
  rw[ef]
  simp only[bne_self_eq_false,CY,EV]
  refine ZS (h q qp qo _ _ (Dk! ((EK _ _ (Sy! hb)).trans (kp b o hb e))) (K' g2 _))
 by_cases h2:vs.toArray.size<2
 .rw[AE h2,AE h2]
  refine h9!
  rw[StateT.run_pure]
  refine h9!
  have bw:vs.length<2:=V7!
  refine fin (SortSt.mk' general' (vs.toArray.zip vs.toArray) #[] 7 none) (rB! vs.length) ?_ rfl (List.Perm.refl _) ?_
  .show(vs.toArray.zip vs.toArray).map T0=_
   match vs,bw with
   | [],_=>simp
   | [v],_=>simp
  .match vs,bw with
   | [],_=>exact List.Pairwise.nil
   | [v],_=>exact List.pairwise_singleton _ _
 .rw[AD h2,AD h2]
  have bw:2<=vs.length:=V7!
  refine ZR (K bw hh kp _ λκ ask=>?_)
  refine ZR (FA (W.kat_run (E:=E) (vs:=vs) (ks:=vs) (κ:=κ) (s:=kd!) (Q:=λTV s'=>s'=kd!/\∃q:BB!,(arrOf TV).map T0=XR! (CP! vs.getD KF)/\AT failedOf TV/\Xp! vs.length/\ZM! dB!)
   (G:=λp s'=>s'=kd!/\FhS.Pm p vs.length/\FhS.Up lt p vs.length) rfl bw aj (λp TV s' hp ha hf ⟨e,pm,up⟩=>?_) (FhS.gL O ask i3! _ λq pm up=>Bu! pm up)) (λr s' hr=>?_) UG!)
  .refine⟨e,p.toList,W.kat_snds rfl ha,hf,pm.pm,?_⟩
   rw[List.pairwise_iff_getElem]
   intro i j hi hj ae
   have hs:=pm.size
   have:=up i j ae (by rw[<-hs];simpa using hj)
   have gi:p.getD i 0=p.toList[i]:=by simp[Array.getD,show i<p.size by simpa using hi]
   have gj:p.getD j 0=p.toList[j]:=by simp[Array.getD,show j<p.size by simpa using hj]
   rw[gi,gj] at this
   exact this
  .obtain⟨u,TV⟩:=r
   obtain⟨e,q,q1,q2,q3,q4⟩:=hr
   dsimp only at e q1 q2 ⊢
   subst e
   exact fin TV q q1 q2 q3 q4
universe E
universe S
theorem Jet{us ws:Z!}{ns ms:d!}(i:Nat)(s:Shared)(p:Nq! us)(q:NT! ws ms)(hf:fin=a? (ns.length<ms.length))(h:Q (HT.lexLt ns ms) s):W.KatLex prog w A b fin Q (us.zip ws) i s:=by induction p generalizing ws ms i with | nil =>rw[List.zip_nil_left];refine W.kat_nil ?_;rw[hf];cases q<;>exact h | cons n t r ih =>cases q with | nil=>rw[List.zip_nil_right];refine W.kat_nil ?_;rw[hf];exact h | cons m u q =>rw[List.zip_cons_cons];refine W.kat_cons (wpAny_eqBool_int (W.kat_go (λe=>W.kat_yes ?_) λe=>W.kat_no ?_));(·(have e:n=m:=Eb!);rw[HT.F_,lc] at h;exact ih FB q (BH! hf) h);·(have e:n≠m:=Eb!);rw[HT.F_,Rs] at h;cases hb:(b&&i==0) with | true=>exact oneLt_int h | false=>exact W.kat_one _ _ (lt_int h)
def IV(h:Heap):et! (List (List Int)):=Ky! (λa ns=>ns≠[]/\∃its,kq! a/\Nq! its.toList)
theorem Vr{as:J!}{TN:List (List Int)}(p:IV h as TN):∃fs:Z!,W.KatTups h qG! fs/\fs.length=as.length/\∀v∈fs,∃n t,v=Value.int n t:=by induction p with | nil=>exact Fg! [] trivial (λv hv=>by simp at hv) | cons r t ih =>obtain⟨fs,a1,a2,a3⟩:=ih;obtain⟨fJ,its,⟨o,ho,hc,n,hd⟩,hi⟩:=r;cases hL:its.toList with | nil=>rw[hL] at hi;cases hi;exact Fn! fJ | cons f fr =>rw[hL] at hi;cases hi with | cons n0 t0 hr =>refine⟨Value.int n0 t0::fs,W.KatTups.cons ho hc hd ?_ a1,by simp[a2],Ot!⟩;(·(have:its[0]?=its.toList[0]?:=B?);rw[this,hL];rfl);.rcases ZM hv with rfl|hv;(.exact D0! _);.exact a3 v hv
theorem IV.keep(k:tO! DK! (∃ts n,o.data=Lx! ts/\Uu!))(t:IV h as TN):IV h' as TN :=Aw (λa ns ⟨h1,its,⟨o,ho,hc,n,hd⟩,hi⟩=>⟨h1,its,⟨o,k a o ho ⟨_,_,hd,hc⟩,hc,n,hd⟩,hi⟩) t
theorem Ja9(hκ:∃b,κ=tuples' b)(t:IV s.heap as TN) : FhS.M_ (W.kas_ask prog w A κ qG!) (λi j=>HT.lexLt (TN.getD i []) (TN.getD j [])) jW! s:=by
 obtain⟨b,rfl⟩:=hκ;intro i j hi hj C hC;rw[ZA] at hi hj;have get:∀k,k<as.length->∃a ns its,to! k KF=Tk/\TN.getD k []=ns/\IsTup s.heap a its/\Nq! its.toList:=λk hk=>by have hl:=Paired.length t;(have h1:as[k]?=B! (as[k]):=by simp[hk]);(have h2:TN[k]?=some (TN[k]' C!):=Ou! (k<TN.length));obtain⟨_,its,q1,q2⟩:=Ax t k _ _ h1 h2;exact⟨as[k],_,its,by simp[hk],Ou! (k<TN.length),q1,q2⟩
 obtain⟨a,ns,its,e1,e2,⟨o,ho,hc,n,hd⟩,zx⟩:=get i hi;obtain⟨a',iO,its',gw,kS,⟨o',fF,uO,n',XD⟩,oZ⟩:=get j hj;unfold W.kas_ask;rw[e1,gw];refine W.kat_lt ho hd fF XD (Jet 0 s zx oZ ?_ (by dsimp only at hC;rw[e2,kS] at hC;exact hC));have l1:=zx.length;have l2:=oZ.length;simp only[DA] at l1 l2;rw[l1,l2]
theorem P3(ho:JZ! s.heap.get? F1! n)(aj:as.length<64)(t:IV s.heap as TN)(nd:TN.Nodup)(h:∀q:BB!,Xp! as.length->ZM! (HT.lexLt (TN.getD i []) (TN.getD j [])=true)->∀h' c,(iZ!)->JZ! h'.get? (XR! X3!) c->P lD! db) : Ru! (Builtin.«list.sort» Lu!) P:=by
 have hl:=Paired.length t;have fK:jW!=as.length:=ZA ..;refine Rv (lt:=λi j=>HT.lexLt (TN.getD i []) (TN.getD j [])) ho (ex! aj) ⟨λi j k _ _ _=>Uy,λi j hi hj ae e=>Uz (λz=>ae ?_) e⟩ (λh2 h' kp Q hQ=>?_) (ex! h);·(have ag:i<TN.length:=A!);(have fM:j<TN.length:=A!);(have e1:TN[i]=TN[j]:=by simpa [ag,fM] using z);exact(JR nd).mp e1
 .have t':IV h' as TN:=t.keep λb o e ⟨ts,k,q,qc⟩=>kp b o (λz=>by rw[z,ho] at e;cases e;have qc:Value.type ci=Value.type Cs!:=qc;injection qc with qc;exact gs! qc) e;obtain⟨fs,f1,f2,f3⟩:=Vr t';refine W.kat_kind (s:=db) (T:=Ee! "int") f1 (by rw[f2];rw[fK] at h2;exact S6! DJ) (Ot!) rfl (hQ _ (Ja9 AG! t'));obtain⟨m,tk,rfl⟩:=f3 v hv;exact W.Looks.of_pure rfl
universe E
theorem Pc(g:FD!)(f:α->Addr)(h:∀x,g x=V.ref (f x)):∀as:S!,Vals (as.map g) (HE! as.map f Value.ref)
 | []=>O!
 | a::as=>N6! q! (h a) rfl (Pc g f h as)
universe S
variable {X:Cx Kx}
inductive L7(xs:E!)(H:Hp)(Q:VK):Prop
 | mk d (L:BM! (d!×V)) (_:hL!) (_:Zc! L.map (λp=>(kL!,p.2))) (_:L.length<64) (_:y? L.map) (_:(∀p∈L,p.1≠[])) (_:∀(l:Addr)(M:BM! (d!×Addr)),FB!->(M.map (·.1)).Perm (L.map BF!)->M.Pairwise (λp q=>Li! p.1 q.1)->(∀p∈M,NK! p.2 bi! V.int)->am l (upd H l (.BF (M.map λp=>m? p.2))))
theorem Mz(hc:BI!):YN! L7:=by
 intro AA s σ H xs us Q I r h;obtain⟨d,L,rfl,hd,aj,nd,fJ,q⟩:=h;obtain⟨u,rfl,rx⟩:=JJ!;cases rx;obtain⟨z,lo,es,ep,as,raw,hz,ks,at_⟩:=Vj I hd;have hlL:o? L.map (λp=>((kL!:Ds!),p.2))=L.length:=ZA ..;have mF:as.length=L.length:=by rw[<-hlL];exact Ao! Paired.length ks
 have key:∀(j:Nat)(p:d!×V),L[j]?=B! p->∃a,as[j]?=B! a/\NK! a bi! V.int:=λj p hp=>by have hj:ls!:=AX! hp;obtain⟨a,ha⟩:=HT! as j;have:=Ax ks j ((kL!:Ds!),p.2) a (UY! hp) ha;refine Go a ha;rw[this,AQ];rfl
 have t0:IV s.heap as (L.map BF!):=Es (R? ZA mF) λj a ns e1 e2=>by rw[ZH] at e2;cases hp:L[j]? with | none=>rw[hp] at e2;cases e2 | some p =>rw[hp] at e2;have e3:p.1=ns:=ZO e2;obtain⟨a',h1,h2⟩:=key j p hp;rw[e1] at h1;cases h1;obtain⟨its,rv,it,_⟩:=kb! h2;exact⟨N? e3 (fJ p (ZP hp)),its.toArray,it,by rw[<-e3];simpa using intsAre_of rv⟩
 refine pe! (by unfold Builtin.«sorted»;refine pr! (W.kdu_collect (T5 lo (es:=es) (ep:=ep)) (Eq! _ (I.ok.hd hc)) raw (P! hz z) λh1 tk acc kp ha=>?_);have e1:jZ! YY!:=X7 ha C! at_;rw[e1];have I1:FV! { s with heap:=h1,toks:=tk }:=jJ!;refine lH! Wq!;have g1:We! (h1.push (seqObj "list" (as.map Value.ref).toArray 0)).get? h1.objs.size F1!:=CS!;have t1:IV sk! as (L.map BF!):=t0.keep λb o e _=>ZT _ (D1! kp);refine pN! g1 (P3 g1 C! t1 nd λp pp po h2 c lu e=>Vn!);have hn:e9!:=QO!;have inr:∀i∈p,Sj!:=λi hi=>BI.mp (pp.mem_iff.mp hi);(have eM:(p.map X3!)=(p.map GG!).map Value.ref:=by rw[AQ];refine CD λi hi=>?_;have:=RN!;simp[this]);refine ml! (I1.laid (a:=h1.objs.size) (o:=.BF ((p.map λi=>(Hb! i [],as.getD i 0)).map λq=>m? q.2)) (t':=tk) (λb o hb=>lu b o (Rb! hb) (ZT _ hb)) GM ⟨?_,Bw! p.map GG! Value.ref,c,?_,?_⟩) (q _ _ hn ?_ ?_ ?_);(.rw[ZA,ZA,pp.length_eq,CB,DF];lia);(.rw[AQ];exact Pc _ (GG!) (EZ!) p);(.rw[<-eM];exact e);(.rw[AQ];(have e2:(List.range as.length).map (CP! Hb! [])=VT!:=by refine Y3!;rw[ZH];by_cases hj:ls!;(·(have h3:Rl!=B! j:=by simp[mF,hj]);rw[h3];simp[hj]);·(have h3:Rl!=none:=by simp[mF];exact IJ!);rw[h3,CS (Oj! IJ!)];rfl);have e7:=pp.map (CP! Hb! []);rw[e2] at e7;exact e7);(.rw[EC];exact po);.intro r hr;obtain⟨i,hi,e3⟩:=ZN hr;have JK:=RN!;obtain⟨p0,ze⟩:=QT! L;obtain⟨a,h3,h4⟩:=key i p0 ze;rw[<-e3];(have e5:as.getD i 0=a:=Cx! HN h3);(have e6:m8! p0.1:=dw! HN ze);show NK! (as.getD i 0) (Hb! i []).map V.int;rw[e5,e6];exact h4)
universe E
universe S
universe E
abbrev T2:=Int×Int
def tk(t:T2):Ds!:=[H! t.1,H! t.2]
def tv(t:T2):E!:=QA! t.1 t.2
theorem vS(t:T2):(tk t).map kV=tv t:=rfl
theorem Yc(h:tk a=tk b):a=b:=by obtain⟨a1,a2⟩:=a;obtain⟨b1,b2⟩:=b;unfold tk at h;simp only[List.cons.injEq,Sum.inl.injEq,and_true] at h;rw[h.1,h.2]
structure BV where
 BR:Int
 AW:Int
 AS:Int
 h:Addr
 o:Addr
 l:Addr
 r:Addr
 hand:D!
 AF:T!
 holds:L0!
 AJ:T!
theorem Hg{k:Str}{v:V}{r:Bc!}:List.lookup k ((k,v)::r)=B! v:=by rw[OW];have:Aa! (k==k):=beq_self_eq_true k;rw[this]
theorem Br{k j:Str}{v:V}{r:Bc!}(h:¬k=j):List.lookup k ((j,v)::r)=List.lookup k r:=by rw[OW];have:AY! (k==j):=DU.mpr h;rw[this]
theorem En:Ar f v []=[(f,v)]:=rfl
theorem Jh0:Ar f v ((f,x)::r)=(f,v)::r:=by grind [Ar,V]
theorem B5(h:¬k=f):ld!=lg!:=by grind [Ar,V]
theorem Gf:PX! CD!:=ZV
theorem Iz:PX! Aw!:=ZV
theorem Q2:PX! BK!:=ZV
theorem Q1:PX! Ax!:=ZV
theorem Ps:PX! Ay!:=ZV
theorem Mn:PX! BL!:=ZV
theorem Q3:PY! C0!:=ZV
theorem Ld:PY! Aw!:=ZV
theorem Xd:PY! BK!:=ZV
theorem Xc:PY! Ax!:=ZV
theorem Um:PY! Ay!:=ZV
theorem Pt:PY! BL!:=ZV
theorem Pn:PZ! C0!:=ZV
theorem Ui:PZ! CD!:=ZV
theorem Uj:PZ! BK!:=ZV
theorem Uh:PZ! Ax!:=ZV
theorem Qz:PZ! Ay!:=ZV
theorem Np:PZ! BL!:=ZV
theorem Q5:Pa! C0!:=ZV
theorem Xf:Pa! CD!:=ZV
theorem Us:Pa! Aw!:=ZV
theorem Xe:Pa! Ax!:=ZV
theorem Ut:Pa! Ay!:=ZV
theorem Pw:Pa! BL!:=ZV
theorem Q0:Pb! C0!:=ZV
theorem Xa:Pb! CD!:=ZV
theorem Uk:Pb! Aw!:=ZV
theorem Xb:Pb! BK!:=ZV
theorem Ul:Pb! Ay!:=ZV
theorem Pr:Pb! BL!:=ZV
theorem Pu:Pc! C0!:=ZV
theorem Uq:Pc! CD!:=ZV
theorem Q4:Pc! Aw!:=ZV
theorem Ur:Pc! BK!:=ZV
theorem Uo:Pc! Ax!:=ZV
theorem Nt:Pc! BL!:=ZV
theorem Mm:Pd! C0!:=ZV
theorem Pp:Pd! CD!:=ZV
theorem Nq:Pd! Aw!:=ZV
theorem Pq:Pd! BK!:=ZV
theorem Po:Pd! Ax!:=ZV
theorem Nr:Pd! Ay!:=ZV
def B7(G:BV):Bc!:=[(C0!,R! G.BR),(CD!,R! G.AW),(Aw!,R! G.AS),HZ! BK! G.h,HZ! Ax! G.o,HZ! Ay! G.l,HZ! BL! G.r]
theorem R4(G:BV):b? (B7 G).lookup (C0!:Str) g! G.BR:=by unfold B7;rw[Hg]
theorem Jai(G:BV):b? (B7 G).lookup (CD!:Str) g! G.AW:=by unfold B7;rw[Br Q3,Hg]
theorem Cv(G:BV):b? (B7 G).lookup (Aw!:Str) g! G.AS:=by unfold B7;rw[Br Pn,Br Ui,Hg]
theorem F7(G:BV):hI! BK! G.h:=by unfold B7;rw[Br Q5,Br Xf,Br Us,Hg]
theorem Da(G:BV):hI! Ax! G.o:=by unfold B7;rw[Br Q0,Br Xa,Br Uk,Br Xb,Hg]
theorem Fh(G:BV):hI! Ay! G.l:=by unfold B7;rw[Br Pu,Br Uq,Br Q4,Br Ur,Br Uo,Hg]
theorem C6(G:BV):hI! BL! G.r:=by unfold B7;rw[Br Mm,Br Pp,Br Nq,Br Pq,Br Po,Br Nr,Hg]
theorem Xp(G:BV)(y:Int):Ar CD! (dj y) (B7 G)=B7 { G with AW:=y }:=by unfold B7;rw[B5 Gf,Jh0]
theorem Bs(G:BV)(y:Int):Ar Aw! (dj y) (B7 G)=B7 { G with AS:=y }:=by unfold B7;rw[B5 Iz,B5 Ld,Jh0]
theorem Jjd(G:BV):Ar BL! (K? G.r) (Ar Ay! (K? G.l) (Ar Ax! (K? G.o) (mX! G.h (dj G.AS) (Ar CD! (dj G.AW) (Ar C0! (dj G.BR) [])))))=B7 G:=by unfold B7;rw[En];rw[B5 Gf,En];rw[B5 Iz,B5 Ld,En];rw[B5 Q2,B5 Xd,B5 Uj,En];rw[B5 Q1,B5 Xc,B5 Uh,B5 Xe,En];rw[B5 Ps,B5 Um,B5 Qz,B5 Ut,B5 Ul,En];rw[B5 Mn,B5 Pt,B5 Np,B5 Pw,B5 Pr,B5 Nt,En]
theorem Cp(G:BV){m:Str}(h:i? (([C0!,CD!,Aw!,BK!,Ax!,Ay!,BL!]:X?).contains m)):AT (B7 G).lookup m:=by simp only[List.contains_cons,Bool.or_eq_false_iff,DU] at h;obtain⟨h1,h2,h3,h4,h5,h6,h7,_⟩:=h;unfold B7;rw[Br h1,Br h2,Br h3,Br h4,Br h5,Br h6,Br h7];rfl
theorem Er(G:BV):o? B7 G<1000:=Sk! (7<1000)
def Be(l:D!):HO:=.dT (l.map (dx! (tk t)))
def C5(l:T!):HO:=.dT (l.map EO!)
def E7(l:L0!):HO:=.dT (l.map JP!)
theorem Eb(l:S!)(k:Bf!)(f:FD!)(t:T2):kx! J2!=(l.find? (AS! (k q=t))).map f:=by
 unfold Ca;rw[List.find?_map,Option.map_map];congr 1;congr 1;funext q;show g1! (tk (k q)) tk t (k q=t);by_cases e:k q=t;.rw[e];simp
 .rw[IB!,Al! (Tr! Yc)]
theorem Sw{α:Type}{l:S!}{k:Bf!}{f:FD!}{t:T2}(h:∀q∈l,U4!):kx! J2!=none:=Cx! Eb (BD.mpr (TD (Ct! (h q hq))))
theorem Jm{α:Type}{l:S!}{k:Bf!}{f:FD!}{t:T2}(v:V)(h:∀q∈l,U4!):putK (C6! J2!) N9! v=C6! J2!++[(tk t,v)]:=Ha v (Sw h)
def BL(G:BV):J!:=G.h::G.o::G.l::G.r::UQ! G.holds.map
structure AU(C:Addr)(H:Hp)(p:Addr)(G:BV):Prop where
 ob:∃dx,Yy! H p C B7 G
 dh:GW! G.h G.hand
 dO:cA! G.o G.AF
 dl:fF! G.l G.holds
 dr:cA! G.r G.AJ
 hl:ND! (GW! D? GE)
 nd:(BL G).Nodup
def XU(p:Addr)(G:BV)(H H':Hp):Prop:=OF! FT! N3! FA!
universe S
variable {C p:Addr}{H H':Hp}{G:BV}
theorem AU.keep(x:Z?)(k:XG! (b=p\/K4!)):JM! G:=by
 have m0:G.h∈A2!:=Dm!
 have m1:G.o∈A2!:=Dm!
 have m2:dz!:=Dm!
 have m3:G.r∈A2!:=Dm!
 refine⟨bk! ES!,Pr! m0 x.dh,Pr! m1 x.dO,Pr! m2 x.dl,Pr! m3 x.dr,TD (Pr! ?_ (x.hl q hq)),x.nd⟩;unfold BL;exact oV! (BC hq)
theorem AU.same(x:Z?)(s:KB):JM! G:=x.keep dP!
theorem AU.MY(x:Z?)(hb:K4!):∃kvs,HL! .dT kvs:=by
 unfold BL at hb;rcases FE! with rfl|hb;.exact T? x.dh
 rcases FE! with rfl|hb;.exact T? x.dO
 rcases FE! with rfl|hb;.exact T? x.dl
 rcases FE! with rfl|hb;.exact T? x.dr
 obtain⟨q,hq,e⟩:=ZN hb;rw[<-e];exact T? QB!
theorem AU.QR(x:Z?)(hb:K4!):FT!:=by obtain⟨kvs,e⟩:=x.MY hb;obtain⟨dx,e'⟩:=x.ob;exact Mb! e e'
theorem AU.tup_ne(x:Z?)(hb:XK!):FT!/\N3!:=by obtain⟨dx,e'⟩:=x.ob;refine⟨Mb! hb e',Ij!⟩;obtain⟨kvs,e⟩:=x.MY m;rw[hb] at e;cases e
theorem AU.WS(x:Z?)(hb:sK!):FT!/\N3!:=by obtain⟨dx,e'⟩:=x.ob;refine⟨Mb! hb e',Ij!⟩;obtain⟨kvs,e⟩:=x.MY m;rw[hb] at e;cases e
theorem AU.bF(x:Z?):(G.h≠G.o/\G.h≠G.l/\G.h≠G.r)/\(G.o≠G.l/\G.o≠G.r)/\G.l≠G.r/\ND! (D?≠G.h/\D?≠G.o/\D?≠G.l/\D?≠G.r):=by have nd:=x.nd;unfold BL at nd;simp only[AZ,CM,not_or] at nd;obtain⟨⟨a1,a2,a3,a4⟩,⟨b1,b2,b3⟩,⟨c1,c2⟩,d1,_⟩:=nd;refine⟨⟨a1,a2,a3⟩,⟨b1,b2⟩,c1,CX!⟩;have m:D?∈UQ! G.holds.map:=BC hq;exact⟨fR! a4,fR! b3,fR! c2,fR! d1⟩
theorem AU.fld(x:Z?)(dx:Addr)(m t:Int):Em! (upd H p (Sc C dx (B7 { G with AW:=m,AS:=t }))) { G with AW:=m,AS:=t }:=by
 have n:∀{b},K4!->FT!:=λhb=>x.QR hb;have m0:G.h∈A2!:=Dm!
 have m1:G.o∈A2!:=Dm!
 have m2:dz!:=Dm!
 have m3:G.r∈A2!:=Dm!
 refine⟨Fh! Ab,kU! m0 x.dh,kU! m1 x.dO,kU! m2 x.dl,kU! m3 x.dr,CX!,x.nd⟩;rw[Ac (n (by unfold BL;exact oV! (BC hq)))];exact QB!
theorem AU.JB(x:Z?)(l:T!):ky! l { G with AF:=l }:=d0! G.o ⟨Fh! tv!,i! a1 x.dh,Ab,i! b1.symm x.dl,Vc! b2.symm,dy! (d1 q hq).2.1 QB!,x.nd⟩
theorem AU.QI(x:Z?)(l:D!):jm! l { G with hand:=l }:=d0! G.h ⟨Fh! tv!,Ab,i! a1.symm x.dO,i! a2.symm x.dl,Vc! a3.symm,dy! (d1 q hq).1 QB!,x.nd⟩
theorem AU.WW(x:Z?)(l:T!):bF! G.r C5 l { G with AJ:=l }:=d0! G.r (lK! a3 b2 (i! c1 x.dl) Ab (dy! (d1 q hq).2.2.2 QB!) x.nd)
theorem AU.gN(x:Z?)(t:T2)(ha:GW! a [])(hf:a∉A2!):bF! G.l E7 (tM! t) { G with holds:=tM! t }:=by
 obtain⟨⟨a1,a2,a3⟩,⟨b1,b2⟩,c1,d1⟩:=x.bF;have np:=x.QR (b:=G.l) (Dm!);obtain⟨dx,e⟩:=x.ob;refine lK! a2 b1 Ab (Vc! c1.symm) CX! ?_;.rcases ZI hq with hq|hq;(.rw[Ac (d1 q hq).2.2.1];exact QB!);·(have e2:q=(t,a,[]):=aV!);subst e2;have:a≠G.l:=M? hf K9!;rw[Ac this];exact ha
 ·(have e2:BL { G with holds:=tM! t }=A2!++[a]:=Dm!);rw[e2];exact F5 x.nd hf
universe E
def OX(t:T2):PyData:=Bn! (QA! t.1 t.2)
theorem Oo(t:T2):(OX t).canLay0=true/\(OX t).depth<=2:=by
 unfold OX;constructor;.simp[PyData.canLay0,PyData.canLayAll0]
 .simp[PyData.depth,PyData.depthAll]
theorem Tc(t:T2):cZ (OX t):=⟨(Oo t).1,L5! (Oo t).2⟩
def AX(H:Hp):et! D!:=Ky! (λa t=>XT!)
theorem Tb{K:W.Frag}{H:Hp}{a:Addr}{t:T2}(e:XT!):DZ! PP (OX t):=mL! e (sf! CZ! CZ!)
theorem F1{K:W.Frag}{H:Hp}{as:J!}{ts:D!}(p:AO!):H8! (JM K H) WB! ts.map OX:=Jko (λ_ _ e=>Tb e) p
def HR(a b:T2):Prop:=Li! [a.1,a.2] [b.1,b.2]
theorem Ef(a b:T2):HR a b↔(a.1<b.1\/(Y7!/\a.2<b.2)):=by
 unfold HR;rw[HT.F_,HT.F_];by_cases h1:Y7!;.rw[AE h1];by_cases h2:a.2=b.2;(.rw[AE h2,HT.NF];constructor;(.intro z;cases z);.intro z;lia);.rw[AD h2];constructor;(.intro z;exact c? h1 (BK z));.intro z;exact fV!
 .rw[AD h1];constructor;(.intro z;exact P? (BK z));.intro z;exact fV!
universe S
inductive Jw(xs:E!)(H:Hp)(Q:VK):Prop
 | mk d (l:BM! (T2×V)) (ss:D!) (_:hL!) (_:Zc! l.map JO!) (_:l.length<64) (_:ss.Perm (l.map BF!)) (_:ss.Pairwise HR) (_:∀(r:Addr)(as:J!),PR!->AX H as ss->am r (Po! r as.map))
theorem Cw(hc:BI!):YN! Jw:=by
 intro AA s σ H xs us Q I rv h;obtain⟨d,l,ss,rfl,hd,aj,pm,pw,q⟩:=h;refine Mz hc AA s σ H _ us Q I rv ⟨d,l.map λq=>([q.1.1,q.1.2],q.2),rfl,?_,Oj! aj,?_,?_,λr M hr mp mw ma=>?_⟩;·(have e:HE! l.map Mc! (λp=>((kL!:Ds!),p.2))=l.map JO!:=Hv!);rw[e];exact hd
 ·(have nd:ss.Nodup:=pw.imp λ{a b} h z=>l6!);have jv:V1!:=pm.nodup_iff.mp nd;(have e:VV! l.map Mc!=(l.map BF!).map Oy!:=Cx! AQ AQ);rw[e];exact List.Pairwise.map _ (λa b h z=>h (by obtain⟨a1,a2⟩:=a;obtain⟨b1,b2⟩:=b;simp at z;rw[z.1,z.2])) jv
 .intro p hp;obtain⟨q,_,e⟩:=ZN hp;rw[<-e];simp
 ·(have e:VV! l.map Mc!=(l.map BF!).map Oy!:=Cx! AQ AQ);rw[e] at mp;(have e2:G? M.map=ss.map Oy!:=by refine Hv (lt:=λa b=>Li! a b) (λa z=>by rw[Od] at z;cases z) (λa b h1 h2=>dO! (Uy h1 h2) Od) (mp.trans (pm.symm.map _)) ?_ ?_;(.rw[EC];exact mw);.rw[EC];exact pw);(have hl:M.length=ss.length:=aR! (MJ! e2));(have e3:(M.map λp=>m? p.2)=(M.map T0).map V.ref:=Hv!);rw[e3];refine q r _ hr (Es (qJ! hl) λj a t e4 e5=>?_);rw[ZH] at e4;cases hm:M[j]? with | none=>rw[hm] at e4;cases e4 | some m =>rw[hm] at e4;cases e4;(have e6:(M.map (·.1))[j]?=B! m.1:=a1! hm);rw[e2,ZH,e5] at e6;have e7:rd!=m.1:=ZO e6;have:=ma m (ZP hm);rw[<-e7] at this;exact this
universe E
theorem Jaj(h:GW! d l):Zc! (l.map (dx! t)).map JO!:=by
 have e:HE! l.map (dx! t) JO!=l.map (dx! (tk t)):=Hv!
 rw[e];exact W?
theorem Jev(h:iS! l):Zc! (l.map iR!).map JO!:=by
 have e:HE! l.map iR! JO!=l.map EO!:=Hv!
 rw[e];exact W?
theorem Fs{K:W.Frag}{a p:Addr}{xs:E!}{tt:TT}{te:TE}{caps:H6!}{σ:L2.St}{H:Hp}{Q:Vr!}(Pv:Nat->Ew!)(h0:Pv 0 [] ra!)(hl:∀i ys H2,J8!->RJ!->DO K H2 a xs/\bK!)(hs:∀i x ys H2 (N:Ew!),IK!->RJ!->(∀ys H,RO! ys H->N ys H)->tl! H2 (t7! oX!) (N ys H4))(hd:∀ys H2,Pv xs.length ys H2->ET!) : Rh! (Ob! (Mx! (cg K a).stop ET! (cg K a).go (cg K a).aP (SA! j0!))):=by
 refine r2! (λi m ys H=>m=RR!/\J8!/\Pv i ys H) xs.length;rintro i m ys H2 ⟨rfl,hi,pv⟩;obtain⟨q1,q2⟩:=hl i ys H2 hi pv;refine d? q2;by_cases JK:UO!;.refine fb! (n5! q1);obtain⟨e,y⟩:=y;subst e;exact hs i x ys _ (oF! RR! df! (i+1<=xs.length) (RO! zs H')) (y xs q1) pv pC!
 ·(have e:cq!:=A!);subst e;exact Am! (lo! q1) (hd ys H2 pv)
theorem Kk{lo:Int}{n:Nat}{p:Addr}{tt:TT}{te:TE}{caps:H6!}{σ:L2.St}{H:Hp}{Q:Vr!}(Pv:Nat->Ew!)(h0:Pv 0 [] ra!)(hl:∀i ys H2,i<=n->RJ!->bK!)(hs:∀i ys H2 (N:Ew!),i<n->RJ!->(∀ys H,RO! ys H->N ys H)->tt (al! (Br! (lo+i))) H2 λb H4 =>sB M2! (te (al! (Br! (lo+i))) H4 oX!) (N ys H4))(hd:∀ys H2,Pv n ys H2->ET!) : Rh! (Ob! (Mx! (fw lo n).stop ET! (fw lo n).go (fw lo n).aP (SA! j0!))):=by
 refine r2! (λi m ys H=>m=n-i/\i<=n/\Pv i ys H) n;rintro i m ys H2 ⟨rfl,hi,pv⟩;refine d? (hl i ys H2 hi pv);by_cases JK:i<n;.refine fb! JK;obtain⟨e,y⟩:=y;subst e y;exact hs i ys _ (oF! (n-i) (n-FB) (i+1<=n) (RO! zs H')) JK pv pC!
 ·(have e:i=n:=A!);subst e;exact Am! At (hd ys H2 pv)
def U7(p d:Addr):HO:=.ext λh=>h.IsItemsView p d
theorem Nu(d:Addr)(hd:V8!) : MeetsIn prog w (Builtin.«dict.items» ⟨[DD!],[]⟩) (λ_ R s=>kO! (K? d)/\R (.ok (.ret (BG! s.heap.objs.size))) (FQ! (GK! (Wz! Sl!)))) :=.of_wp λA R s ⟨ht,h⟩=>by unfold Builtin.«dict.items»;refine I5!;unfold Builtin.Dict.noArgs;refine ZR (HZ ht ?_);show T4! (pure d);refine ZS ?_;show hu! (Builtin.Dict.showsAll d);unfold Builtin.Dict.showsAll;rw[fK! hd];refine h9!;exact QE! EI (t? h)
universe S
theorem Jen:qx X "dict.items" (λx xs H Q=>∃d kvs,x=DD!/\xs=[]/\hp!/\MZ! (upd H p (U7 p d))):=by intro AA s σ H x xs v us Q I rx rs h;obtain⟨d,kvs,rfl,rfl,hd,q⟩:=h;cases rx;cases rs;obtain⟨z,lo,ys,rel,o,es,ep,g1,g2,g3,g4,g5⟩:=cp! (.dT kvs) hd;refine PySem.call_meetsIn PySem.F.slot_dict_items (BT! g1 g2.1) PySem.F.entry_dict_items (PySem.F.args_dict_items_1 _) (Nu d lo) (d? (BT! g1 g2.1));have hn:PS!:=L3!;refine i5! (U7 s.heap.objs.size d) Hu! ?_ (q _ hn);have g:z! (s.heap.push (Wz! Sl!)).get? s.heap.objs.size (Wz! Sl!):=CS!;exact⟨⟨_,g,rfl,rfl⟩,T? g,λh1 h2 ⟨o,e,r⟩ k=>BT! (k o e) r⟩
universe E
def kX(h:Heap)(g:Addr->Prop)(e:Addr)(cls:Value):Prop:=g e/\∃oe vs a0,Ir! e oe/\oe.cls=cls/\oe.data=XA!/\vs[0]?=B! a0 /\
 (vs[1]?=B! KF\/∃T oT ts,N4! (vs[1]?) T/\g T/\T≠e/\Ir! T oT/\oT.data=Nt! ts/\ts[3]?=B! KF)
theorem kX.mono(x:kX h g e cls)(k:∀b,g b->g' b):kX h g' e cls:=by obtain⟨g1,oe,vs,a0,h1,h2,h4,h5,h6⟩:=x;refine⟨k _ g1,oe,vs,a0,h1,h2,h4,h5,h6.imp (OR!) ?_⟩;rintro⟨T,oT,ts,t1,t2,t3⟩;exact⟨T,oT,ts,t1,k _ t2,t3⟩
def qt(h:Heap)(g:Addr->Prop)(e:Addr)(cls:Value):Prop:=g e/\∃oe vs a0 T oT ts,Ir! e oe/\oe.cls=cls/\oe.data=XA!/\vs[0]?=B! a0/\N4! (vs[1]?) T/\g T/\T≠e/\Ir! T oT/\oT.data=Nt! ts/\ts[3]?=B! KF
theorem qt.at(x:qt h g e cls):kX h g e cls:=by obtain⟨g1,oe,vs,a0,T,oT,ts,h1,h2,h3,h4,h5⟩:=x;exact⟨g1,oe,vs,a0,h1,h2,h3,h4,N! ⟨T,oT,ts,h5⟩⟩
def cH(P:Program)(w:World):cG:=λouter H s E e s'=>∃ex cls H',e=l! ex/\qt s'.heap (λb=>C7! s.heap.get?/\rW!) ex cls/\E cls none H'/\s'.os=s.os/\Qw!/\lS! outer [] s'.heap/\MW P w H' s'.heap
theorem R3(ok:Cl!)(e:Xg!):∃ob,Ft! ob:=by have x:=ok a o e;cases o with | BF xs=>obtain⟨_,_,_,_,e⟩:=x;exact AM! | BG xs=>obtain⟨_,_,_,o,e,_⟩:=x;exact AM! | dK kvs=>obtain⟨_,_,_,_,o,_,_,e,_⟩:=x;exact AM! | dT kvs=>obtain⟨_,_,_,_,o,_,_,e,_⟩:=x;exact AM! | set S n=>obtain⟨o,_,_,_,e,_⟩:=x;exact AM! | ins C dx fs=>obtain⟨_,_,_,e,_⟩:=x;exact AM! | own y=>obtain⟨_,e⟩:=x;exact AM! | xd fs=>obtain⟨_,⟨_,_,_,e,_⟩,_⟩:=x;exact AM! | p8 lo hi=>obtain⟨_,_,_,e⟩:=x;exact AM! | GB ob u=>obtain⟨e,_⟩:=x;exact AM! | eS ps=>exact T? (lq!) | met f y=>exact T? (lq!) | ext φ=>obtain⟨_,⟨_,e⟩,_⟩:=x;exact AM!
structure rH(fr:J!)(g:Addr->Prop)(h h':Heap):Prop where
 keep:cr (DK!->b∉fr->¬g b->bW!)
 slot:fh! (b∈fr) ZA!
universe S
variable {M:Model}{A:Around}{E:Value->Shared->Prop}{s:Shared}{base:Heap}{env:Env}{outer:List Env}{L e:Addr}{cls:Value}{g:Addr->Prop}
theorem X6(hl:h.FunFrames base (Sm!))(hd:∀b∈Hd,b∈cP!\/g b)(k1:(W.hideAll h Hd).StaysIn h')(k4:fh! (∀vs,o.data≠XA!) ZA!):rH (OZ (Sm!)) g h h':=by
 refine⟨λb o e n1 n2=>k1 b o (W.hideAll_get _ e Ij!),λb o e m=>?_⟩;.rcases hd b m with z|z;(.exact n1 z);.exact n2 z
 .obtain⟨_,o',e',hn⟩:=hl.mem m;rw[e] at e';cases e';exact BU! k4 hn
theorem Rr{h h':Heap}{Hd:J!}{T:Addr}{oT:Obj}{ts:E1!}(hl:h.FunFrames base (Sm!))(hd:∀b∈Hd,b∈cP!\/g b)(k4:fh! (∀vs,o.data≠XA!) ZA!)(hT:AT (W.hideAll h Hd).get? T)(eT:H3! T oT)(dT:oT.data=Nt! ts)(fresh:∀b,C7! h.get?->g b):g T:=by cases q:h.get? T with | none=>exact fresh T q | some o =>(have m:T∈Hd:=by apply Classical.byContradiction;intro n;rw[W.hideAll_get _ q n] at hT;cases hT);rcases hd T m with z|z;(.exfalso;obtain⟨_,o',e',hn⟩:=hl.mem z;rw[q] at e';cases e';obtain⟨sl,e2⟩:=k4 T o q hn;rw[eT] at e2;cases e2;exact hn ts dT);.exact z
theorem R8:∀en∈l,∀a,en.frame=B! a->a∈OZ l:=λen he a ha=>CV.mpr ⟨en,he,ha⟩
theorem Jg5{Q:I9!}(kE:A.frames=some (Sm!))(hl:s.heap.FunFrames base (Sm!))(hf:env.frame=B! L)(x:kX s.heap g e cls)(fresh:∀b,C7! s.heap.get?->g b)(h:∀h',qt h' g e cls->rH (OZ (Sm!)) g s.heap h'->LR! ()):Ri! (leaving env (K? e)):=by
 obtain⟨ge,oe,vs,a0,h1,h2,h3,h4,h5⟩:=x;subst h2;rcases h5 with h5|⟨T,oT,ts,t1,t2,t3,t4,t5,t6⟩;·(have hd:∀b∈dl! [e],b∈cP!\/g b:=Q? (by rcases ZI hb with z|z;(.exact H! z);·(have:b=e:=aW!);rw[this];exact N! ge));refine wpAny_leaving_firstW (base:=W.hideAll s.heap (dl! [e])) (a0:=a0) kE (W.funFrames_hide hl λen he a ha=>j? (R8 en he a ha)) hf h1 (λb o q=>W.of_hideAll _ q) (W.hideAll_none _ XV) h3 h5 h4 λh' hL=>?_;obtain⟨k1,k2,⟨sW,rY,T',sY,lC,b1,⟨b2,b3⟩,b4,b5,b6,b7,b8,b9,m4⟩,k4⟩:=hL;exact h h' ⟨ge,sW,rY,a0,T',sY,lC,b1,b2,b4,b3,b5,Rr hl hd k4 b6 b8 b9 fresh,b7,b8,b9,m4⟩ (X6 hl hd k1 k4)
 ·(have hd:∀b∈dl! [e,T],b∈cP!\/g b:=Q? (by rcases ZI hb with z|z;(.exact H! z);·(have:b=e\/b=T:=aW!);rcases this with rfl|rfl;(.exact N! ge);.exact N! t2));refine wpAny_leaving_nextW (base:=W.hideAll s.heap (dl! [e,T])) (cls:=oe.cls) (a0:=a0) kE (W.funFrames_hide hl λen he a ha=>j? (R8 en he a ha)) hf ⟨oe,vs,T,oT,ts,h1,n? h4,h3,t1,W.hideAll_none _ XV,t3,t4,t5,t6⟩ (λb o q=>W.of_hideAll _ q) (W.hideAll_none _ XV) λh' hL=>?_;obtain⟨k1,k2,⟨sW,rY,T',sY,lC,b1,⟨b2,b3⟩,b4,b5,b6,b7,b8,b9,m4⟩,k4⟩:=hL;exact h h' ⟨ge,sW,rY,a0,T',sY,lC,b1,b2,b4,b3,b5,Rr hl hd k4 b6 b8 b9 fresh,b7,b8,b9,m4⟩ (X6 hl hd k1 k4)
universe E
universe S
variable {X:Cx Kx}{AA:List (Addr×Obj)}{σ:L2.St}{H H1:Hp}{s s1:Shared}{h':Heap}{g:Addr->Prop}{ex:Addr}{cls:Value}
theorem Jb6(ok:MW P w H1 h)(a:rH fr g h h')(hf:∀b∈fr,Pv!)(hg:∀b,g b->Pv!):MW P w H1 h':=λb o e =>(ok b o e).NY (λc u hc q=>a.keep c u q (λm=>by have:=hf c m;rcases hc with rfl|hc;(.rw[this] at e;cases e);.rw[this] at hc;cases hc) (λm=>by have:=hg c m;rcases hc with rfl|hc;(.rw[this] at e;cases e);.rw[this] at hc;cases hc)) (λ_ q=>q) OQ!
theorem Jcs(u:Un fs [] H0 H1 s0 h)(a:rH fr g h h')(hg:cr (AB! s0.get?->¬g b))(kE:cr (AB! s0.get?->b∈fr->b∈fs))(hH:∀b∈fr,Pv!):Un fs [] H0 H1 s0 h' where
 keep:=λb o e n1 n2 n3=>a.keep b o (u.keep b o e n1 n2 n3) (λm=>n2 (BU! kE m)) (D1! hg)
 slot:=λb o e n1 m n3=>by
  obtain⟨sl,q⟩:=u.slot b o e n1 m n3
  by_cases hm:b∈fr
  .obtain⟨jn,q2⟩:=a.slot b _ q hm
   exact⟨jn,q2⟩
  .exact⟨sl,a.keep b _ q hm (D1! hg)⟩
 free:=u.free
 there:=λb o e n=>by
  obtain⟨o',q⟩:=BU! u.there n
  by_cases hm:b∈fr
  .obtain⟨jn,q2⟩:=a.slot b _ q hm
   exact T? q2
  .exact T? (a.keep b _ q hm (D1! hg))
 PM:=u.PM
 NJ:=u.NJ
 PN:=u.PN
universe E
def Jfn(X:I!)(E:XK):Prop:=∀(AA:w!)(σ:L2.St)(H1:Hp)(s1:Shared)(ex:Addr)(cls:Value),Ro!->kX s1.heap (λb=>C7! X.HI.heap.get?/\Pv!) ex cls->E cls none H1->X.xe (K? ex) s1
universe S
variable {P:Program}{w:World}{K:W.Frag}{mg:Str->Option Value}{base:Heap}{N:List Str}{qual:Str}{scope:Scope}{f:Addr}{cd:Value}{A:Around}{outer:List Env}{s:Shared}{H:Hp}{E:XK}
theorem Jl:Jfn (b0! EP! cd) E:=by
 intro AA σ H1 s1 ex cls I x hE;have zX:Tq! (∃o',Bo! s1.heap.get? o'):=AQ! (BU! I.base.there (by simp[Kj]));refine Jg5 (base:=base) (L:=s.heap.objs.size) I.ok.frames I.stack rfl x (λb q=>?_) λh' x' as=>?_;.constructor;(.cases q2:s.heap.get? b with | none=>exact q2 | some o =>obtain⟨o',e⟩:=zX b o q2;rw[q] at e;cases e);.cases q2:H1 b with | none=>rfl | some o =>obtain⟨ob,e⟩:=R3 I.DM q2;rw[q] at e;cases e
 .have O_:∀b∈OZ (pk!::outer),Pv!:=Q? (Ci! I.WU);refine⟨ex,cls,H1,rfl,x',hE,I.os,I.bare,Jcs (fs:=OZ outer) I.base as (λb o e z=>?_) (λb o e m=>?_) O_,Jb6 I.DM as O_ λb z=>z.2⟩;(.have:=z.1;have e':Dw!:=e;rw[FU! ((b0! EP! cd).HI.heap.get? b=s.heap.get? b),e'] at this;cases this);.rcases ZM (show b∈s.heap.objs.size::OZ outer from m) with z|z;(.have:=AV (show Dw! from e);rw[z] at this;exact Jn! this);.exact z
theorem Cr:Ie EP! (b0! EP! cd) E:=by intro AA σ H0 s0 e s' I ⟨ex,cls,H',he,x,hE,ho,hg,u,ok⟩;subst he;have I':Inv (b0! EP! cd) AA σ H' s':=I.iB (ch:=[]) ho u ok hg (Q? (by simp at hb));refine Jl AA σ H' s' ex cls I' (x.at.mono λb z=>GP! z.2) hE;cases q:s.heap.get? b with | none=>exact q | some o =>obtain⟨o',e⟩:=I.base.there b o q (by simp[Kj]);rw[z.1] at e;cases e
universe E
universe S
variable {P:Program}{w:World}{K:W.Frag}{mg:Str->Option Value}{base:Heap}
theorem yf{x qual:Str}{st:Stmt}{f:Addr}{fd:FuncData}{N ps:X?}{k:Nat}{sp:Sp}(F:RI!)(S:oK!)(len:jT!)(YC:∀(DZ:Value) (A:Around) (outer:Ba!) (s:Shared) (H:Hp) (vs:E!) (Q:VK) (E:XK),Yn! (cW! (Al st) DZ)->T7! -> o5! (QO (my! EP!) (F8 st) t)):li! EP!:=by obtain⟨oc,od,kV,doc,pm,an,DZ,ct,iM,rfl,lk,bK⟩:=F.ex;exact Jh4 lk bK S len λA outer s H vs Q E hr dw=>YC DZ A outer s H vs Q E hr dw
theorem Lc{x qual:Str}{st:Stmt}{f:Addr}{fd:FuncData}{N ps:X?}{k:Nat}{sp:Sp}(F:RI!)(S:oK!)(h:∀vs H Q E,T7!->Bd P w K mg base EP! false N ps qual st f k vs H Q E):li! EP! :=yf F S (λvs H Q E z=>(h vs H Q E z).1) λDZ A outer s H vs Q E hr z=>(h vs H Q E z).2 DZ A outer s hr
theorem EB.aR{k:Nat}{f:Addr}{fd:FuncData}{ps:X?}{sp:Sp}(F:EB P w K mg base aw k f fd ps sp):EB P w K mg base EP! k f fd ps sp :=⟨F.len,λA outer s H args us vs Q E hr he hb hv hs=>IL (F.run A outer s H args us vs Q E hr he hb hv hs) λr s' h=>by cases r with | ok fl=>cases fl<;>exact h | error e=>exact eq!⟩
universe E
def nY:Z!:=[Ee! "ValueError",Ee! "Exception",Ee! "BaseException",Ee! "object"]
structure Zl(K:W.Frag)(mg:k?)(x:Str)(C:Addr):Prop where
 mg:Eg! mg C8!
 ex:tt! C nY
universe S
variable {X:Cx Kx}{x:Str}{C:Addr}{E:XK}{np GY pos p1:Pos}{msg:Str}{j:Nat}
theorem Jhi{K:W.Frag}{h:Heap}{C:Addr}(XK:K.In h)(q:tt! C nY):∃nm q N bs bm hdct sn sub ab col dd k0 k1 k2 k3 k5 mN,h.get? C=some (excClassObj nm q C N bs bm hdct sn sub ab col dd k0 k1 k2 k3 k5 "ValueError.__new__")/\h.Ns N mN/\AT mN cs!/\OwnTail h nY bm:=by
 unfold W.excIn at q;split at q;.rename_i dd cd sl ho;split at q;(.rename_i C' bm k0 k1 k2 k3 n k5 hm hs;simp only[HY,JN,Bool.not_eq_true'] at q;obtain⟨⟨⟨⟨⟨rfl,rfl⟩,ot⟩,ht⟩,DM⟩,qQ⟩:=q;obtain⟨nm,bs,mro,ns,qn,hd,sn,sub,ab,col,del⟩:=cd;dsimp only at hm ot DM qQ;subst hm ot;(have XN:sl=#[k0,k1,k2,k3,B! (CB! "ValueError.__new__"),k5]:=by obtain⟨l⟩:=sl;simp only at hs;rw[hs]);subst XN;exact⟨nm,qn,ns,bs,bm,hd,sn,sub,ab,col,dd,k0,k1,k2,k3,k5,_,F! XK ho,.of_isNs (W.isNs_of_in XK DM),W.nsMap_none_of_in XK DM qQ,W.tail_of_in XK ht⟩);.cases q
 .cases q
theorem Jcn{X:I!}{h:Heap}{mg:k?}(XK:Kx.In h)(c:Zl Kx mg x C):∃nm q N bs bm hdct sn sub ab col dd k0 k1 k2 k3 k5 mN,h.get? C=some (excClassObj nm q C N bs bm hdct sn sub ab col dd k0 k1 k2 k3 k5 "ValueError.__new__")/\h.Ns N mN/\AT mN cs!/\OwnTail h nY bm:=Jhi XK c.ex
theorem Iw{X:I!}(hc:BI!)(hg:Ju!)(c:Zl Kx X.mg x C)(hx:Jfn X E)(hex:X.ex=[]:=by rfl)(hd:Gl!:=by decide)(aM:tn! GY pQ!:=by rfl)(hs:starEach pQ! X.env=[(false,cG! (ci! (re msg) j p1))]:=by rfl) : PS X (.Raise (some (.Call (TT! np) pQ! [] GY)) none pos) (λ_ _ H=>E C8! none H):=by
 intro AA s σ H D I h;obtain⟨nm,q,N,bs,bm,hdct,sn,sub,ab,col,dd,k0,k1,k2,k3,k5,mN,hC,hN,qQ,tl⟩:=Jcn (X:=X) I.mod.cN c;refine wpAny_Raise_call_subU (C:=C) (nm:=nm) (q:=q) (N:=N) (bs:=bs) (bm:=bm) (hdct:=hdct) (sn:=sn) (sub:=sub) (ab:=ab) (col:=col) (dd:=dd) (k0:=k0) (k1:=k1) (k2:=k2) (k3:=k3) (k5:=k5) F.excBase_ValueError (bmB:=nY) ZV F.excBase_ValueError (tl.hasType ZV) Gp! aM qQ ?_;refine Oe I hg c.mg IC! hd;have ha:PA X pQ! (Dy (JX! msg) Mb):=Aa Ej Ae hs;have hA:=ha GY AA s σ H (λvs H1=>vs=[re msg]/\H1=H) I DL!;rw[hs] at hA ⊢;refine GN (EM hA ?_);rintro us s2 ⟨vs,H2,I2,r2,e1,e2⟩;subst e1 e2;refine⟨rfl,by show us.length<=sizeLine;rw[<-r2.length];show Av! 1;decide,F! I2.bk hC,(let⟨o,es,ep,e,r⟩:=hN;⟨o,es,ep,E9! I2.bk,r⟩),tl.keeps I2.bk,λh' e hm=>?_⟩;obtain⟨t,ht,_⟩:=hm.there;have none_:∀b,C7! s2.heap.get?->C7! X.HI.heap.get?/\C7! H2:=λb q=>by constructor;(.cases q2:X.HI.heap.get? b with | none=>rfl | some o =>obtain⟨o',e'⟩:=I2.base.there b o q2 (BH! hex);rw[q] at e';cases e');.cases q2:H2 b with | none=>rfl | some o =>obtain⟨ob,e'⟩:=R3 I2.DM q2;rw[q] at e';cases e'
 have I3:AR! H2 { s2 with heap:=h' }:=I2.kept (t':=s2.toks) hm.keeps;exact hx AA σ H2 _ e C8! I3 ⟨none_ e hm.new,_,_,_,ht,rfl,rfl,rfl,bn⟩ h
universe E
universe S
universe E
universe S
theorem Jb3(I:K!)(hn:LU!)(h0:AT X.HI.heap.get? a)(h1:a≠X.env.locals)(h2:Nu! (c≠a))(h3:Id! (p.1≠a))(ok:bG! JR! a o):AR! JR! s:=by
 have ne:∀{b:Addr} {u:HO},rK!->b≠a:=λe=>Aj e hn;refine⟨I.ok,I.os,I.bare,⟨I.base.keep,I.base.slot,λb ob e n hx=>?_,I.base.there,λb xs e=>?_,λb ob u e=>?_,λb ps e=>?_⟩,I.loc,I.cell,K3! h1 I.free,λx c e=>G! (Ac (h2 x c e)) (I.KD x c e),E4!,Ui!,I.len⟩;.rw[Ac (Ul! h0)];exact I.base.free b ob e n hx
 .have:=I.base.PM b xs e;rw[Ac (ne this)];exact this
 .have:=I.base.NJ b ob u e;rw[Ac (ne this)];exact this
 .obtain⟨more,q⟩:=I.base.PN b ps e;exact HS! more (Ac (ne q)) q
 .obtain⟨a1,a2,a3⟩:=Xs!;exact⟨a1,i! (h3 p hp) a2,a3⟩
 .by_cases hb:b=a;(.subst hb;rw[Ab] at e;cases e;exact ok);.rw[DE!] at e;exact(I.DM b u e).NY (aS!) (λc q=>G! (Ac (ne q)) q) λc xs q=>G! (Ac (ne q)) q
universe E
universe S
universe E
def gone(D:Ends)(i:Nat):Ends:={ nx:=λσ H=>D.nx (σ.set i none) H,bk:=λσ H=>D.bk (σ.set i none) H,ct:=λσ H=>D.ct (σ.set i none) H,rt:=D.rt }
universe S
universe E
universe E FX
universe N FX
open PySem PySem.Spec PySem.Calls PyProof.Rows L2 Builtin Builtin.ObjectAttr Builtin.Getset_descriptor
set_option maxHeartbeats 400000
universe S
variable {prog:Program}{w:World}{A:Around}{E:Value->Shared->Prop}{s:Shared}{K:W.Frag}{x C:Addr}
universe E
theorem Ma{ds:J!}{its:Z!}(h:Vals (ds.map V.ref) its):its=ds.map Value.ref:=by induction ds generalizing its with | nil=>cases h;rfl | cons d ds ih=>cases h with|cons h1 h2=>cases h1;rw[ih h2];rfl
universe S
universe E
universe E FX
universe N FX
open PySem PySem.Spec PyProof.Rows L2
theorem EB.no{P:Program}{w:World}{K:W.Frag}{mg:k?}{base:Heap}{k:Nat}{f:Addr}{fd:FuncData}{ps:X?}{sp:Sp}(F:EB P w K mg base EP! k f fd ps sp):EB P w K mg base aw k f fd ps (b2! sp) :=⟨λvs H Q E q=>F.len vs H Q E0 q,λA outer s H args us vs Q E hr he hb hv hs=>IL (F.run A outer s H args us vs Q E0 hr he hb hv hs) λr s' h=>by cases r with | ok fl=>cases fl<;>exact h | error e=>obtain⟨_,_,_,_,_,z,_⟩:=h;exact z.elim⟩
universe E FX
universe N FX
open PySem L2
universe E FX
universe N FX
open PySem PySem.Spec PyProof.Rows L2
inductive YM(h:Heap)(it d:Addr)(i n ep:Nat):Prop
 | mk (own ok ov:Value) (f:Bool) (_:(own=KF\/∃a:Nat,own=rawInt a)) (_:Ir! it { cls:=Ee! G8!,dict:=none,data:=Nt! (#[own,sK f,DD!,g! i 0,OD! n,hb!,ok,ov]),slots:=#[] })
def X9(h:Heap)(a:Addr)(k v:Value):Prop:=Ft! (XH! (#[k,v]))
universe S
variable {prog:Program}{w:World}{A:Around}{E:Value->Shared->Prop}{s:Shared}{it d:Addr}{i n ep:Nat}
theorem YM.ty(x:RT! s.heap):s.TypeIs Ey! G8!:=let⟨_,_,_,_,_,e⟩:=x;WN!
theorem YM.to(x:RT! h)(k:∀o,Ir! it o->H3! it o):RT! h':=let⟨a,b,c,f,g,e⟩:=x;⟨a,b,c,f,g,k _ e⟩
theorem Jhq(h:Q (s.heap.get? a) s):Fj! (loadIfAlive a):=λ_ _ _=>h
theorem Jcz(h:∀h' e,Shared.TypeIs db (K? e) NC!->(XV!)->am e db):Fj! (newExc (B9! NC!) []):=by
 have first:firstArgMember (B9! NC!) []=pure KF:=by unfold firstArgMember;cases (Manifest.find? NC!).elim false λt=>t.mro.contains NC! || t.mro.contains "SystemExit" <;> rfl
 unfold newExc newTuple;rw[first];refine ZR (EI (ZR (ZS (EI (h _ _ f8! (AQ! (ZT _ (ZT _ e)))) (aQ!)))) (aQ!))
theorem Jd0(hw:RT! s.heap)(hQ:∀h',RT! h'->X9 h' s.heap.objs.size k v->(ia!)->am s.heap.objs.size db) :
 Fj! (Builtin.Dict_items.pairFromOwner Ey! 6 k v):=by
 obtain⟨own,ok,ov,f,ho,e0⟩:=hw
 have il:it<s.heap.objs.size:=AV e0
 have wc:s.heap.objs.size≠it:=ER il
 obtain⟨h1,eh⟩:∃h1,h1=GK! (XH! ([k,v]:Z!).toArray):=AG!
 have p1:X9 h1 s.heap.objs.size k v:=G! eh CS!
 have k1:Tq! ew!:=AQ! (G! eh HP!)
 have e1:=k1 it _ e0
 have fin:∀h2,RT! h2->q6! it h1 h2->am s.heap.objs.size pa!:=λh2 x y =>
  hQ h2 x ((y.2 _ wc).trans p1) (Dk! ((y.2 b hb).trans (k1 b o e)))
 have free:Xw! (do
  let old:=[<-field Ey! 6,<-field Ey! (6+1)]
  setField Ey! 6 k;setField Ey! (6+1) v
  mM! 0 rawInt s.heap.objs.size;mM! 1 sK false
  letGo old [l! s.heap.objs.size]
  return l! s.heap.objs.size) NE!:=by
  refine ZR (pG! ok (ZR (pG! ov ?_)))
  refine Rx! e1 (λg2 q2 b2=>Rx! q2 (λg3 q3 b3=>Rx! q3 (λg4 q4 b4=>Rx! q4 (λg5 q5 b5=>?_))))
  refine QE! wpAny_letGo (fin g5 ⟨_,_,_,_,Ph! s.heap.objs.size,q5⟩ (GP! F9!))
  .rw[b5.1,b4.1,b3.1,b2.1]
  .rw[Ci! b5.2,Ci! b4.2,Ci! b3.2,Ci! b2.2]
 unfold Builtin.Dict_items.pairFromOwner
 refine A3! wpAny_newTuple ?_
 rw[<-eh]
 refine I5!
 unfold Builtin.Dict_items.ownedTupleIsFree
 refine ZR (pG! own ?_)
 rcases ho with rfl|⟨a,rfl⟩
 .exact ZS free
 .show Wn! (loadIfAlive (de! a) >>= _)
  refine A3! Jhq ?_
  cases ha:h1.get? (de! a) with
  | none=>exact ZS free
  | some oa =>
    refine ZR (pG! (sK f) ?_)
    cases f with
    | true=>exact ZS (ZS (fin h1 ⟨_,_,_,_,Ph! a,e1⟩ (Heap.SameBut.refl _ _)))
    | false=>exact Rx! e1 (λg2 q2 b2=>ZS (ZS (fin g2 ⟨_,_,_,_,Ph! a,q2⟩ b2)))
theorem Y9(hv:s.heap.IsItemsView v d)(hm:IS!)(hQ:∀h',YM h' s.heap.objs.size d 0 es.size ep->(XV!)->am s.heap.objs.size db):sE! pyIter v:=by
 obtain⟨o1,e1,c1,f1⟩:=id hv;obtain⟨o2,e2,c2,f2⟩:=hm;refine wpAny_pyIter_slot hv.typeIs F.slot_dict_items_iter (DG F.slot_dict_items_iter hv.typeIs F.entry_dict_items_iter ?_ (F.args_dict_items_iter_1 _));unfold Builtin.«dict_items.__iter__» Builtin.Dict_items.dictOf Builtin.Dict_items.newIterator;refine iA! (wpAny_field (x:=DD!) e1 f1 rfl (ZS (ZR (ZR (CL e2 f2 (ZR (EO e2 f2 ?_)))))));have own:Ix Builtin.Dict_items.ownsTuple G8!:=a!
 simp only[own,JW,CY,EV];refine EI (ZS (Hj! G8! _ f8! F.slot_dict_itemiterator_next.lookup ?_)) (by simp[sizeOk,Builtin.Dict_items.ownedTupleFields,DF]);exact hQ _ ⟨KF,KF,KF,false,bn,(ZU _ rfl).trans (by simp[rawInt,Builtin.Dict_items.ownedTupleFields])⟩ Hu!
theorem Y8{es:Db!}{Q:Uf fG!}(hw:bP! s.heap i es.size)(hm:IS!)(hi:i<es.size)(hQ:∀h',bP! h' FB es.size->X9 h' s.heap.objs.size es[i].key es[i].val->(ia!)->LR! (aw! s.heap.objs.size)):nQ!:=by
 have ty:=hw.ty;obtain⟨own,ok,ov,f,ho,e0⟩:=hw;obtain⟨o2,e2,c2,f2⟩:=hm;have jK:Ix Builtin.Dict_items.ownsTuple G8!:=a!
 unfold pyNext;refine pW! ty HH (DG HH ty F.entry_dict_itemiterator_next (ZR (ZS (ZR ?_))) (F.args_dict_itemiterator_next_1 _));refine A3! ZR (G_ ty (ZS (ZR (wpAny_fieldsOf e0 rfl ?_))));simp only[jK,JW];refine gA! (mR! _ lb! _ _);rw[ki!];refine X1! e2 f2;rw[Ce!];refine iJ! e2 f2;rw[Ce!];refine ZS ?_;simp only[Cy! mQ!,EV,AM,Array.getElem?_eq_getElem hi];refine A3! ZR (G_ ty (ZS (ZR (WZ ty ?_))));refine gA! (mR! _ (mM! 3 rawInt hJ! >>= _) _ _);refine Rx! e0 (λh1 q1 b1=>?_);have w1:bP! h1 FB es.size:=⟨own,ok,ov,f,ho,by rw[show fW!=U?+1 by rfl];simpa [rawInt] using q1⟩;have yD:Shared.TypeIs NE! Ey! G8!:=YM.ty (s:=NE!) w1;refine bB! EG (WZ yD (ZR (WZ yD ?_)));refine Jd0 (s:=NE!) w1 λh2 w2 p2 k2=>?_;have z1:h1.objs.size=s.heap.objs.size:=b1.1;dsimp only at p2 k2 ⊢;rw[z1] at p2 ⊢;exact ZS (t? (ZS (hQ h2 w2 p2 (Dk! (k2 b o hb ((b1.2 b hb).trans e))))))
theorem Jb1{es:Db!}{Q:Uf fG!}(hh:M5!)(hw:bP! s.heap i es.size)(hm:IS!)(hi:es.size<=i)(hQ:∀h',(ia!)->LR! none):nQ!:=by
 have ty:=hw.ty;obtain⟨own,ok,ov,f,ho,e0⟩:=hw;obtain⟨o2,e2,c2,f2⟩:=hm;have jK:Ix Builtin.Dict_items.ownsTuple G8!:=a!
 unfold pyNext;refine pW! ty HH (DG HH ty F.entry_dict_itemiterator_next (ZR (ZS (ZR ?_))) (F.args_dict_itemiterator_next_1 _));refine A3! ZR (G_ ty (ZS (ZR (wpAny_fieldsOf e0 rfl ?_))));simp only[jK,JW];refine gA! (mR! _ lb! _ _);rw[ki!];refine X1! e2 f2;rw[Ce!];refine iJ! e2 f2;rw[Ce!];refine ZS ?_;simp only[Cy! mQ!,EV,AM,Array.getElem?_eq_none hi];refine iB! G_ ty;refine ZR (FQ (k:=2) e0 XV λh1 q1 b1=>?_);refine A3! Jcz (λh2 x t2 k2=>wpAny_raiseNew_none hh (ZR (wpAny_isInstance t2 isSubtype_stop (ZS (hQ h2 (Dk! (k2 b o ((b1.2 b hb).trans e))))))))
universe E
def cF(h:Heap)(it:Addr)(es:Db!)(as:J!):Prop:=∀(j:Nat)(a:Addr),as[j]?=B! a->it<a/\∃e:DictEntry,es[j]?=B! e/\X9 h a e.key e.val
theorem cF.to(x:YQ! h)(k:tO! (it<b) DK!):YQ! h' :=λj a e=>let⟨l,d,e1,e2⟩:=x j a e;⟨l,d,e1,k a _ l e2⟩
theorem cF.more(x:YQ! h)(hi:as.length<es.size)(l:it<a)(p:X9 h a es[as.length].key es[as.length].val):cF h it es (as++[a]):=λj b e=>by rcases Nat.lt_trichotomy j as.length with hj|hj|hj;(.rw[EH hj] at e;exact x j b e);(.subst hj;(have e':a=b:=Eb!);subst e';exact⟨l,_,aT!,p⟩);.rw[CS (by simp;assumption)] at e;cases e
universe S
theorem P8(hh:M5!)(l1:S<it)(n1:d≠S)(n2:d≠it)(hz:es.size<=sizeLine)(res:Value) : ∀(k:Nat)(s:Shared)(as:J!)(c:Nat),as.length+k=es.size->bP! s.heap as.length es.size->IS!->QL! s.heap.get? F1! c->YQ! s.heap->as.Nodup -> (∀h' KY c',KY.length=es.size->KY.Nodup->(cr (b≠S->b≠it->Dw!->bW!))->QL! h'.get? (KY.map Value.ref).toArray c'->cF h' it es KY->R (.ok (.ret res)) db) -> nZ! (CB! "list.extend.loop" ⟨[l! S,l! it,res],[]⟩) R s
 | 0,s,as,c,hk,iw,rd,hS,ps,nd,q=>by refine XH PySem.F.entry_extend_loop ?_;rw[NA FN _];refine(ZR (m:=pyNext (BG! it)) (Jb1 hh iw rd C! λh' kp=>ZS (q h' as c (iu!) nd (λb o _ hb e=>kp b o hb e) (kp S _ (BQ l1) hS) (ps.to (r5! kp (ER hb))))))
 | k+1,s,as,c,hk,iw,rd,hS,ps,nd,q=>by (have hi:as.length<es.size:=A!);have al:it<s.heap.objs.size:=let⟨_,_,_,_,_,e⟩:=iw;Be!;refine XH PySem.F.entry_extend_loop ?_;rw[NA FN _];refine ZR (m:=pyNext (BG! it)) (Y8 iw rd hi λh1 iw1 p1 k1=>?_);have iy:=k1 S _ (BQ l1) hS;(have sz:(as.map Value.ref).toArray.size=as.length:=B?);refine ZR (m:=updateSeq S (·.push (Value.ref s.heap.objs.size))) (wpAny_updateSeq iy rfl (ZS (d? (plainId_quiet FN _))) (DG! sz) (OZ! Array.size_push sz));have up:cr (b≠S->ew!->AB! (h1.update S (Obj.mapSeq (·.push (Value.ref s.heap.objs.size)))).get?):=Uy! dR!;refine P8 hh l1 n1 n2 hz res k (FQ! (h1.update S (Obj.mapSeq (·.push (Value.ref s.heap.objs.size))))) (as++[s.heap.objs.size]) (c+1) (cn!) (P! ZE (iw1.to λo e=>up it o (ER l1) e)) (rd.at λo e=>up d o n1 (k1 d o n2 e)) ?_ ?_ ?_ λh' KY c' a1 a0 a2 a3 a4=>q h' KY c' a1 a0 (λb o hb hc e=>a2 b o hb hc (up b o hb (k1 b o hc e))) a3 a4;(.refine(K' iy _).trans ?_;simp[seqObj]);(.exact cF.more (ps.to (Dk! (up b o (ER (PY l1 hb)) (k1 b o (ER hb) e)))) hi al (up _ _ (ER (PY l1 al)) p1));.refine Kr! nd B? (λa ha b hb z=>?_);(have e:b=s.heap.objs.size:=Cr!);obtain⟨j,hj⟩:=C_.mp ha;obtain⟨_,_,_,e2⟩:=ps j a hj;exact HO! AV e2 (ut z e (DQ _))
universe E
universe S
theorem Q6(hh:M5!)(hv:s.heap.IsItemsView v d)(hm:IS!)(hz:es.size<=sizeLine)(h:∀h' as it,as.length=es.size->as.Nodup->s.heap.objs.size<=it->(XV!)->YQ! h'->R (as.map Value.ref) db) : Ru! (collect (BG! v)) R:=by
 have lv:v<s.heap.objs.size:=let⟨_,e,_⟩:=hv;Be!;have ld:d<s.heap.objs.size:=let⟨_,e,_⟩:=hm;Be!;unfold collect;refine A3! wpAny_runValue (XH PySem.F.entry_proto_collect ?_);rw[NA PySem.F.plain_proto_collect _];refine ZR (m:=newList []) (EI (ZS ⟨plainId_quiet PySem.F.plain_list_iadd _,XH PySem.F.entry_list_iadd ?_⟩) (aQ!));rw[NA PySem.F.plain_list_iadd _];generalize uR:GK! (tq! ([]:Z!).toArray)=h0;have gS:We! h0.get? s.heap.objs.size (#[]):=N? uR CS!
 have k0:Tq! (AB! h0.get?):=AQ! (N? uR HP!)
 have t8:h0.IsItemsView v d:=let⟨o,e,r⟩:=hv;BT! (k0 v o e) r;have zk:TU! h0:=hm.at λo e=>k0 d o e;have z0:h0.objs.size=av!:=NF! uR Heap.size_push
 have low:Tq! (b<s.heap.objs.size):=AQ! Be!;obtain⟨S,hS⟩:∃S:Addr,S=s.heap.objs.size:=AG!;rw[<-hS] at gS z0 lv ld low ⊢;have lS:S<h0.objs.size:=G! z0 (JQ _)
 refine gA! (KF! prog w _ (Builtin.List.listExtendWith (K? S) VO! (K? S)) _ _ { s with heap:=h0 });have fin:∀(R':Uf Result),(∀h' KY c',KY.length=es.size->KY.Nodup->(XV!)->QL! h'.get? (KY.map Value.ref).toArray c'->cF h' h0.objs.size es KY->R' (.ok (.ret (BG! S))) db) -> ∀h1 c1,YM h1 h0.objs.size d 0 es.size ep->TU! h1->QL! h1.get? (#[]) c1->(Tq! ew!)->nZ! (CB! "list.extend.loop" ⟨nb! S h0.objs.size S,[]⟩) R' NE!:=λR' q h1 c1 a1 a2 a3 a4 =>P8 hh lS (BQ ld) (BQ (PY ld lS)) hz _ es.size NE! [] c1 XV a1 a2 (by simpa using a3) (λj a e=>fd!) CU λh' KY c' q1 q0 q2 q3 q4=>q h' KY c' q1 q0 (AQ! (q2 b o (BQ (low b o e)) (BQ (PY (D1! low) lS)) (D1! a4))) q3 q4;unfold Builtin.List.listExtendWith;refine ZR (wpAny_typeOf (T:=Sl!) (Heap.IsItemsView.typeIs (s:={ s with heap:=h0 }) t8) ?_);have n1:i? (Builtin.List.listSameRef (K? S) VO!):=by simp[Builtin.List.listSameRef,ER lv]
 have n2:AY! (OW! Sl! == OW! ci):=a!
 have n3:AY! (OW! Sl! == OW! Cs!):=a!
 simp only[n1,n2,n3,Bool.or_false,CY,EV];refine ZR (Y9 (s:={ s with heap:=h0 }) t8 zk λh1 iw k1=>?_);refine A3! EG (W.kdx_hint (s:=NE!) (let⟨o,e,c,_⟩:=t8;BT! (k1 v o e) c) ?_);have qW:=F! k1 gS;have loop:∀h2 c2,(cr (b≠S->ew!->AB! h2.get?))->QL! h2.get? (#[]) c2 -> codeAny cM! A (CB! "list.extend.loop" ⟨nb! S h0.objs.size S,[]⟩) (λq s'=>∃h' KY c',q=mT! BG! S/\s'=db/\KY.length=es.size/\KY.Nodup/\(XV!)/\QL! h'.get? (KY.map Value.ref).toArray c'/\cF h' h0.objs.size es KY) pa!:=λh2 c2 k2 g2 =>fin _ (λh' KY c' a1 a0 a2 a3 a4=>⟨h',KY,c',rfl,rfl,a1,a0,a2,a3,a4⟩) h2 c2 (iw.to λo e=>k2 _ o (ER lS) e) (zk.at λo e=>k2 d o (BQ ld) (k1 d o e)) g2 (AQ! (k2 b o (BQ (low b o e)) (k1 b o (k0 b o e))));refine wpAny_ite_split (λ_=>?_) (λ_=>ZS ⟨plainId_quiet FN _,?_⟩);.refine A3! wpAny_rule (ZR (m:=updateSeq S (·.push .none) >>= λ_=>updateSeq S (·.pop)) (ZR (wpAny_updateSeq qW rfl (wpAny_updateSeq (K' qW _) rfl (ZS (d? (plainId_quiet FN _))) ?_ ?_) ?_ ?_)));(.refine IL (h! loop (Dk! (dR! (dR! e))) (K' (K' qW _) _)) λq s' y=>?_;obtain⟨h',KY,c',rfl,rfl,a1,a0,a2,a3,a4⟩:=y;refine ZR (m:=load S) (wpAny_load a3 (ZS ?_));exact h h' KY _ a1 a0 (Hr! hS (DJ lS)) a2 a4);all_goals (simp[seqObj,DF])
 .refine IL (loop h1 0 (λb o _ e=>e) qW) λq s' y=>?_;obtain⟨h',KY,c',rfl,rfl,a1,a0,a2,a3,a4⟩:=y;refine ZR (m:=load S) (wpAny_load a3 (ZS ?_));exact h h' KY _ a1 a0 (Hr! hS (DJ lS)) a2 a4
universe E
universe S
theorem Zc{vs:Z!}{ns:d!}(p:Qb!):ItemsAre (intKind prog w) ns vs:=by induction p with | nil=>exact O! | cons n t _ ih=>exact q! (intKind_is prog w n t) ih
theorem N3(x:kq! a)(y:Nq! its.toList):IsTupleKey (intKind prog w) h ns a :=let⟨o,ho,hc,n,hd⟩:=x;⟨o,its,n,ho,hc,hd,Zc y⟩
inductive NO(h:Heap)(a:Addr)(q:d!×Int):Prop
 | mk ka its t (_:X9 h a (K? ka) (g! q.2 t)) (_:kq! ka) (_:IntsAre its.toList q.1)
theorem NO.to(k:tO! DK! Uu!)(x:NO h a q):NO h' a q :=let⟨ka,its,t,e1,⟨o,ho,hc,r⟩,e3⟩:=x;⟨ka,its,t,h! k e1 rfl,⟨o,k ka o ho hc,hc,r⟩,e3⟩
theorem Jgk(hu:Zu!)(x:NO s.heap a p)(y:NO s.heap b q)(same:p.1=q.1->p.2=q.2)(h:C (HT.lexLt p.1 q.1) s) : mR! A (keyLt' (tuples' false) PP Ex!) C F0!:=by
 obtain⟨ka,its,t,e1,e2,e3⟩:=x;obtain⟨kb,zM,u,f1,f2,f3⟩:=y;refine W.kat_lt e1 rfl f1 rfl (W.kat_cons (wpAny_eqBool_tuple hu (N3 e2 e3) (N3 f2 f3) (W.kat_go (λe=>W.kat_yes (W.kat_cons (wpAny_eqBool_int (W.kat_go (λ_=>W.kat_yes (W.kat_nil ?_)) AI!)))) λe=>W.kat_no (F! W.kat_one (HT.aN e2 f2 e3 f3 hu h)))));.have e:=BK e;rw[e,Od] at h;exact h
 .rw[same (BK e)] at z;simp at z
def Jt(h:Heap):et! (BM! (d!×Int)):=Paired (NO h)
theorem T9{as:J!}{L:BM! (d!×Int)}(p:Jt h as L):∃fs:Z!,W.KatTups h qG! fs/\fs.length=as.length/\∀v∈fs,∃ka its,v=Value.ref ka/\kq! ka:=by induction p with | nil=>exact Fg! [] trivial (λv hv=>by simp at hv) | cons r _ ih =>obtain⟨ka,its,t,e1,e2,e3⟩:=r;obtain⟨fs,a1,a2,a3⟩:=ih;refine⟨PG!::fs,W.KatTups.cons e1 rfl rfl rfl a1,by simp[a2],Ot!⟩;rcases ZM hv with rfl|hv;(.exact Fg! ka its e2);.exact a3 v hv
theorem Rq(x:Jt h as L)(hi:Sj!):∃a q,OL!=B! a/\L[i]?=B! q/\to! i KF=Tk/\m8! q.1/\NO h a q:=by
 have hl:=L? x;obtain⟨a,ha⟩:=aa! as i hi;obtain⟨q,hq⟩:=QT! L;refine⟨a,q,ha,hq,?_,?_,Ax x i a q ha hq⟩;.rw[HN,ZH,ha];rfl
 .rw[HN,ZH,hq];rfl
theorem Xi(hu:Zu!)(ho:JZ! s.heap.get? F1! n)(aj:as.length<64)(x:Jt s.heap as L)(nd:y? L.map)(h:∀q:BB!,Xp! as.length->ZM! (HT.lexLt (Hb! i []) (Hb! j [])=true)->∀h' c,(iZ!)->JZ! h'.get? (XR! X3!) c->P lD! db) : Ru! (Builtin.«list.sort» Lu!) P:=by
 have hl:=L? x;have fK:jW!=as.length:=ZA ..;have key:∀i,Sj!->∃h:i<(L.map (·.1)).length,m8! ((L.map (·.1))[i]):=λi hi=>⟨To!,Ou! (i<L.length)⟩;have one:∀i j,Sj!->j<as.length->m8! (Hb! j [])->i=j:=λi j hi hj e=>by obtain⟨l1,e1⟩:=key i hi;obtain⟨l2,e2⟩:=key j hj;rw[e1,e2] at e;exact(JR nd).mp e
 refine Rv (lt:=λi j=>HT.lexLt (Hb! i []) (Hb! j [])) ho (ex! aj) ⟨λi j k _ _ _=>Uy,λi j hi hj ae e=>Uz (M? ae (one i j C! C! z)) e⟩ (λh2 h' kp Q hQ=>?_) (ex! h);have x':Jt h' as L:=Aw (λb q y=>y.to λb o e c=>kp b o (λz=>by rw[z,ho] at e;cases e;exact absurd (show Value.type ci=Value.type Cs! from c) (a!)) e) x;obtain⟨fs,f1,f2,f3⟩:=T9 x';refine W.kat_kind (s:=db) (T:=ru!) f1 (DG! f2) (Ot!) rfl (hQ _ λi j hi hj C hC=>?_);.obtain⟨ka,its,rfl,o,e,c,_⟩:=f3 v hv;have z:W.Looks cM! h' (typeOf (BG! ka)) o.cls:=(W.Looks.ld e).andThen .now;rw[c] at z;exact z
 .rw[fK] at hi hj;obtain⟨a1,q1,g1,g2,g3,g4,g5⟩:=Rq x' hi;obtain⟨a2,q2,k1,k2,k3,k4,k5⟩:=Rq x' hj;unfold W.kas_ask;rw[g3,k3];dsimp only at hC;rw[g4,k4] at hC;refine sS! Jgk hu g5 k5 (AI!) hC;have e:=one i j hi hj (by rw[g4,k4,z]);subst e;rw[g2] at k2;cases k2;rfl
universe E
def lay(H:Hp):VQ!->Hp
 | []=>H
 | p::r=>GY! (lay H r) p.1 p.2
theorem U1:∀{ps:VQ!},b∉G? ps.map->lay H ps b=H b
 | [],_=>rfl
 | p::r,h=>by have h1:b≠p.1:=M? h (K1! AV!);show(upd (lay H r) p.1 (.BG p.2)) b=_;rw[Ac h1];exact U1 λz=>h (wn z)
theorem Jad:∀{ps:VQ!},y? ps.map->∀p∈ps,lay H ps p.1=B! (.BG p.2)
 | [],_,p,hp=>sw hp
 | q::r,nd,p,hp=>by have MT:=Bg!;rcases ZM hp with rfl|hp;(.exact Ab);.have ne:p.1≠q.1:=bc! MT.1 ⟨p,hp,z⟩;show(upd (lay H r) q.1 (.BG q.2)) p.1=_;rw[Ac ne];exact Jad MT.2 p hp
universe S
def Jld(X:I!)(AA:w!)(a:Addr):Prop:=AT X.HI.heap.get? a/\a≠X.env.locals/\(Nu! (c≠a))/\Id! (p.1≠a)
theorem Jnp(I:K!)(h:UE!):Jld X AA a :=let x:=I.bZ (H':=M4!) h rfl;⟨Heap.get?_none_of_le (AR I.sz h),HY!,x.2.2.2.2.1,x.2.2.2.2.2⟩
theorem Jag:∀{ps:VQ!},K!->y? ps.map->(∀p∈ps,Jld X AA p.1/\p? p.1/\∀H',bG! H' p.1 (.BG p.2))->AR! X4! s
 | [],I,_,_=>I
 | p::r,I,nd,h=>by have MT:=Bg!;obtain⟨⟨a1,a2,a3,a4⟩,a5,a6⟩:=Cj! p;exact Jb3 (Jag I MT.2 (TD (h q (wn hq)))) (P! (U1 MT.1) a5) a1 a2 a3 a4 (a6 _)
universe E
inductive RecAt(H:Hp)(a:Addr)(q:Cz!):Prop
 | mk ka (_:L1! [PG!,R! q.2]) (_:Yg!)
theorem Ji7{P:Program}{w:World}{H:Hp}{h1:Heap}{n:Nat}{as:J!}{L:T!}(p:DU! (λa q=>n<=a/\∃ka t,X9 h1 a (K? ka) (g! q.2 t)/\Yg!) as L) : ∃ps:VQ!,G? ps.map=as/\(∀p∈ps,n<=p.1/\∀H',DT P w H' h1 p.1 (.BG p.2))/\DU! (λp q=>∃ka,p.2=[PG!,R! q.2]/\Yg!) ps L:=by induction p with | nil=>exact⟨[],rfl,λp hp=>by(cases hp),O!⟩ | @cons a q _ _ r _ ih =>obtain⟨la,ka,t,e1,e2⟩:=r;obtain⟨ps,b1,b2,b3⟩:=ih;refine⟨(a,[PG!,R! q.2])::ps,R? AI b1,E4!,q! (DO! ka e2) b3⟩;rcases ZM hp with rfl|hp;(.exact⟨la,λH'=>⟨p8! U0! DF (Nat.le_add_left _ _),[PG!,g! q.2 t],T8! q! rfl (BY! t),nC! e1⟩⟩);.exact b2 p hp
universe S
variable {X:Cx Kx}
inductive Kl(xs:E!)(H:Hp)(Q:VK):Prop
 | mk v d (L rs:T!) (_:xs=[l! v]) (_:z! H v (U7 v d)) (_:iS! L) (_:L.length<64) (_:rs.Perm L) (_:IP!) (_:∀(r:Addr)(as:J!)(H':Hp),KB->PR!->MP! r->Yo! H' as->BQ! r)
theorem Lx(hc:BI!)(hu:JV!):YN! Kl:=by
 intro AA s σ H xs us Q I rv h;obtain⟨v,d,L,rs,rfl,hv,hd,aj,pm,pw,q⟩:=h;obtain⟨u,rfl,rx⟩:=vals1 rv;cases rx;obtain⟨z,lo,ys,rel,o,es,ep,g1,g2,g3,g4,g5⟩:=cp! (C5 L) hd;have vw:s.heap.IsItemsView v d:=(I.DM v _ hv).1;have hes:es.size=ys.length:=JC g4;have hyl:ys.length=L.length:=by have:=Ld!;rw[ZA] at this;exact this.symm
 have ent:∀(j:Nat)(e:DictEntry)(q:Cz!),es[j]?=B! e->L[j]?=B! q->∃ka t,e.key=PG!/\e.val=g! q.2 t/\Yg!:=λj e q h1 h2=>by rw[entry_at g4 j] at h1;cases hy:ys[j]? with | none=>rw[hy] at h1;cases h1 | some y =>rw[hy] at h1;cases h1;obtain⟨r1,r2,r3⟩:=Ax rel j sH! y (UY! h2) hy;obtain⟨t,r3⟩:=r3;exact⟨y.2.1,t,rfl,r3,r2⟩
 have ndL:y? L.map:=(pm.map (·.1)).nodup_iff.mp (List.Pairwise.imp (λ{a b} (h:HR a b) (z:a=b)=>l6!) pw);refine pe! (by unfold Builtin.«sorted»;refine pr! (Q6 (Eq! _ (I.ok.hd hc)) vw ⟨o,g1,g2,g3⟩ (by rw[hes,hyl,DF];lia) λh1 as it hl qI hit kp prs=>?_);have I1:FV! { s with heap:=h1,toks:=s.toks }:=jJ!;(have gH:as.length=L.length:=A!);(have fct:DU! (λa q=>UE!/\∃ka t,X9 h1 a (K? ka) (g! q.2 t)/\Yg!) as L:=Es gH (p9! (by obtain⟨la,e,e3,e4⟩:=prs j a e1;obtain⟨ka,t,k1,k2,k3⟩:=ent j e q e3 e2;rw[k1,k2] at e4;exact⟨DJ (GW hit la),ka,t,e4,k3⟩)));obtain⟨ps,b1,b2,b3⟩:=Ji7 (P:=X.prog) (w:=X.w) fct;have kC:∀a,UE!->LU!:=λa ha=>I.DM.fresh ha;have I2:AR! X4! { s with heap:=h1,toks:=s.toks }:=Jag I1 (P! b1 qI) λp hp=>⟨Jnp I (b2 p hp).1,kC _ (b2 p hp).1,(b2 p hp).2⟩;(have sm:An! X4!:=λb ob e=>by rw[U1 (AI!)];(.exact e);.obtain⟨p,hp,rfl⟩:=ZN z;rw[kC _ (b2 p hp).1] at e;cases e);(have vt:CI! (RecAt X4!) as L:=by rw[<-b1];refine N6! Es ZA (L? b3) (p9! ?_);rw[ZH] at e1;cases hp:ps[j]? with | none=>rw[hp] at e1;cases e1 | some p =>rw[hp] at e1;cases e1;obtain⟨ka,k1,k2⟩:=Ax b3 j p q hp e2;exact⟨ka,R? (Jad (P! b1 qI) p (ZP hp)) k1,F! sm k2⟩);(have vy:Jt h1 as (L.map Mc!):=N6! Es ZA gH (p9! (by rw[ZH] at e2;cases hq:L[j]? with | none=>rw[hq] at e2;cases e2 | some q0 =>rw[hq] at e2;cases e2;obtain⟨_,ka,t,k1,k2⟩:=Ax fct j a q0 e1 hq;obtain⟨its,rv,it2,_⟩:=I1.tuple (DN.of k2);exact⟨ka,its.toArray,t,k1,it2,Ct! (lx! [q0.1.1,q0.1.2] rv)⟩)));(have eK:G? (L.map Mc!).map=L.map λq=>[q.1.1,q.1.2]:=Hv!);(have tF:y? (L.map Mc!).map:=by (have e:(L.map λq=>rR! q.1.1 q.1.2)=(L.map BF!).map Oy!:=Hv!);rw[eK,e];exact List.Pairwise.map _ (λa b h z=>h (by obtain⟨a1,a2⟩:=a;obtain⟨c1,c2⟩:=b;simp at z;rw[z.1,z.2])) ndL);refine lH! Wq!;have g1:We! (h1.push (seqObj "list" (as.map Value.ref).toArray 0)).get? h1.objs.size F1!:=CS!;have vx:Jt sk! as (L.map Mc!):=Aw (λa q y=>y.to λb o e _=>HP!) vy;refine pN! g1 (Xi (TD! (X.A.units+1+1<cLine)) g1 C! vx tF λp pp po h2 c lu e=>Vn!);have hn:e9!:=QO!;have gk:lay H ps h1.objs.size=none:=gi!;have inr:∀i∈p,Sj!:=λi hi=>BI.mp (pp.mem_iff.mp hi);(have eR:p.map (CP! L.getD gS!)=rs:=by refine Hv (lt:=λa b:T2×Int=>HR a.1 b.1) (λa z=>by rw[Ef] at z;lia) (λa b h1 h2=>by rw[Ef] at h1 h2;lia) ?_ ?_ (Hr! (EC (f:=Ab!) (R:=HR)) pw);(·(have e2:(List.range as.length).map (CP! L.getD gS!)=L:=by refine Y3!;rw[ZH];by_cases hj:ls!;(.rw[show Rl!=B! j by simp[gH,hj]];simp[hj]);.rw[show Rl!=none by simp[gH];exact IJ!,CS (FS! IJ!)];rfl);have e7:=pp.map (CP! L.getD gS!);rw[e2] at e7;exact e7.trans pm.symm);.rw[EC];refine List.Pairwise.imp_of_mem (λ{i j} hi hj z=>?_) po;have li:=RN!;have lj:=inr j hj;rw[eK] at z;simpa [HR,Cy! (i<L.length),Cy! ls!] using z);(have eV:(p.map X3!)=(p.map GG!).map Value.ref:=by rw[AQ];refine CD λi hi=>?_;have:=RN!;simp[this]);(have vp:Yo! (Sx! X4! h1.objs.size (p.map GG!).map) io!:=by rw[<-eR];refine Es (Un! ZA) (p9! ?_);rw[ZH] at e1 e2;cases hp:p[j]? with | none=>rw[hp] at e1;cases e1 | some i =>rw[hp] at e1 e2;cases e1;cases e2;have li:=inr i (ZP hp);obtain⟨ka,k1,k2⟩:=Ax vt i (as.getD i 0) (L.getD i gS!) (by simp[li]) (Ou! (i<L.length));exact⟨ka,Ah gk _ _ k1,Ah gk _ _ k2⟩);refine ml! (sR! I2.laid h1.objs.size (.BF ((p.map GG!).map V.ref)) (λb o hb=>lu b o (Rb! hb) (ZT _ hb)) ⟨?_,Bw! p.map GG! Value.ref,c,Jk _,?_⟩) (q _ io! _ (Ak sm (Ah gk)) hn Ab vp);(.rw[ZA,ZA,pp.length_eq,CB,DF];lia);.rw[<-eV];exact e)
universe E
theorem P2(f:α->β):∀(xs:S!)(j:Nat),(xs.map f).eraseIdx j=(xs.eraseIdx j).map f
 | [],_=>rfl
 | _::_,0=>rfl
 | x::xs,j+1=>congrArg (f x :: ·) (P2 f xs j)
universe S
variable {prog:Program}{w:World}{K:Type}[DecidableEq K]{knd:HeapKind prog w K}{A:Around}{E:Value->Shared->Prop}{s:Shared}
theorem Td{d a:Addr}{xs:E7!}{k:K}{p:Addr×Value}{j:Nat}{Q:Uf (FW! DictEntry)}(hu:lj!)(bY:nu!)(hm:nK!)(hz:Dg!)(hj:Se!=B! (k,p))(hQ:∀h' o es ep,Tw! h'.get?->o.ExactDict->Ic!->es.toList=(xs.eraseIdx j).map (entryOfKey knd)->Q4!->Q (some (entryOfKey knd (k,p))) { s with heap:=h',toks:=s.toks+V0! }) : Fj! (Builtin.Dict.takeOut d PP):=by
 obtain⟨o,es,ep,ho,hc,hd,he,zv,hn⟩:=hm;unfold Builtin.Dict.takeOut;refine EG (ZR (knd.pyHash hu bY (ZR (wpAny_dictFind_heap (s:=tZ! V0!) hu bY ho hd he zv hn (λno=>ga hj (no j p)) λi q hi=>?_))));obtain rfl:=idxH_unique hn hi hj;rw[hj] at hi;cases hi;refine ZR (CL (s:=tZ! V0!) ho hd ?_);rw[entry_at he i,hj];refine ZR (wpAny_updateDictKeys (hz:=G! (JC he) hz) (s:=tZ! V0!) ho hd (ZS (hQ _ _ _ _ (H_ _ ho (NV (GK hd _))) (hc.mapDictKeys _) (GK hd _) ?_ Hp!)));have e1:(es.eraseIdxIfInBounds i).toList=es.toList.eraseIdx i:=B?
 rw[e1,he];exact F! P2 _
theorem Jdt{d a:Addr}{xs:E7!}{k:K}{p:Addr×Value}{j:Nat}{Q:Uf PySem.Fin}(hu:lj!)(bY:nu!)(hm:nK!)(hz:Dg!)(hj:Se!=B! (k,p))(hQ:∀h' o es ep,Tw! h'.get?->o.ExactDict->Ic!->es.toList=(xs.eraseIdx j).map (entryOfKey knd)->Q4!->Q (.done (.ret p.2)) { s with heap:=h',toks:=s.toks+V0! }) : Fj! (Builtin.«dict.pop» ⟨[DD!,Tk],[]⟩):=by
 have ty:=hm.typeIs;obtain⟨o,es,ep,ho,hc,hd,he,zv,hn⟩:=id hm;have ne:es.isEmpty=false:=by have h1:=JC he;have h2:Sf!:=AX! hj;cases h3:es.isEmpty with | false=>rfl | true=>rw[JT] at h3;lia
 unfold Builtin.«dict.pop» Builtin.Dict.keyAndDefault;refine iB! HZ ty;dsimp only;rw[AD (show ¬(keyPart (Value.ref a)).isSome=true from AL)];refine ZR (CL ho hd (ZR (ZS ?_)));rw[fK! ne];refine ZR (Td hu bY hm hz hj λh' o' i4 i5 a1 a2 a3 a4 a5=>?_);exact QE! wpAny_letGo (hQ h' o' i4 i5 a1 a2 a3 a4 a5)
universe E
universe S
variable {κ:Type}[DecidableEq κ]
theorem Qm:∀{kvs:AK!} {k:κ} {v:V} {j:Nat},y? kvs.map->MT! (kvs[j]?)->Dp kvs k=kvs.eraseIdx j
 | [],_,_,j,_,h=>Cu!
 | p::r,k,v,0,nd,h=>by (have h:p=(k,v):=x?);have MT:=Bg!;rw[Jci (KD! h),Qo (by rw[h] at MT;exact MT.1)];rfl
 | p::r,k,v,j+1,nd,h=>by (have h:MT! (r[j]?):=x?);have MT:=Bg!;have ne:¬EG!:=bc! MT.1 ⟨(k,v),ZP h,z.symm⟩;rw[Sk ne,Qm MT.2 h];rfl
theorem Zn:∀{kvs:AK!} {k:κ} {v:V},WV!->∃j:Nat,MT! (kvs[j]?)
 | [],k,v,h=>DQ!
 | p::r,k,v,h=>by by_cases e:EG!;(.rw[Kt e] at h;exact⟨0,by rw[<-e,<-ZO h];rfl⟩);.rw[Ku e] at h;obtain⟨j,hj⟩:=Zn h;exact⟨j+1,by simpa using hj⟩
universe E
universe S
variable {X:Cx Kx}{AA:List (Addr×Obj)}{σ:L2.St}{H:Hp}{s:Shared}{A:Around}{E:Value->Shared->Prop}{a b:Addr}
theorem Xl{kvs:o0}{xs:G2!}(p:Gu!):T0! xs.map kvs.map:=kc! vK r.1.symm
theorem Jjm{kvs:o0}{k:Ds!}{v:V}{Q:g?}(hu:Jm!)(I:K!)(e:Xi!)(eb:Rv!)(l:WV!)(h:ZF! (AR! (Nw! a UM!) s') (RelV v w')):W8! "dict.pop" [Tk,Os]:=by
 obtain⟨z,hd,xs,rel,dd⟩:=NS! Sj;have hz:Dg!:=K5! Ld!
 obtain⟨j,hj⟩:=Zn l;have hjx:Sf!:=KY! Ld! hj
 obtain⟨x,hx⟩:=An hjx;obtain⟨r1,r2,r3⟩:=Ax rel j _ _ hj hx;obtain⟨k',p⟩:=x;have r1:k=k':=r1;subst r1;have nd:y? kvs.map:=by obtain⟨_,_,_,_,_,_,_,_,nd⟩:=id dd;rw[<-Xl rel];exact nd
 have gV:y? (xs.eraseIdx j).map:=by rw[<-P2,Xl rel];exact nd.sublist (List.eraseIdx_sublist _ _)
 refine DG JI dd.typeIs PySem.F.entry_dict_pop (Jdt Xn! Zx! dd hz hx λh' o es ep a1 a2 a3 a4 a5=>t? (h! h ?_ r3)) (PySem.F.args_dict_pop_2 _ _);rw[Qm nd hj];refine mx! a5 (DJ! a1) ⟨?_,hd,xs.eraseIdx j,KT.keeps (Ub j rel) λc ys ec=>?_,o,es,ep,a1,a2,a3,a4,gV⟩;.exact AR (by rw[List.length_eraseIdx];split<;>lia) z
 .rw[Ac (Fl ec e (λz=>ce!))];exact ec
def Jie(td ty:TE):TE:=XU! (∃a,BZ!/\ni H1 a/\Qi! (∃kvs k v b,b? H2 a .dT kvs/\y=Os/\Bo! H2 (.BG (k.map kV))/\WV!/\Q v (Ka! a .dT UM!)))
theorem Hf(hu:FJ!)(ho:IR!)(he:hD!)(m:M1 X o "pop" apos e GY):Rq! "pop" [e] (Jie td ty):=by intro AA s σ H Q I h;refine po! JI PySem.F.type_dict_pop;rintro u s1 ⟨x,H1,I1,rx,a,ex,d,q1⟩;subst ex;obtain rfl:CW!:=rx;obtain⟨t1,t2,_⟩:=U8 I1 d;refine mZ!;rw[m.trees];refine oY! (λiv s2 ⟨y,H2,I2,ry,kvs,k,v,b,ea,ey,eb,l,q2⟩=>KA ?_);subst ey;obtain rfl:iv=Value.ref b:=ry;exact Jjm hu I2 ea eb l (Ya! ⟨v,_,I3,QN,q2⟩)
universe E
def K2(l:L0!)(a:Addr)(h:D!):L0!:=l.map λq=>oH!
theorem V3(l:L0!)(a:Addr)(h:D!):(K2 l a h).map FR!=l.map FR!:=by
 unfold K2;rw[AQ];refine MH!;show(oH!).2.1=D?;by_cases e:D?=a;.rw[lc];exact e.symm
 .rw[Rs]
theorem Jdb(l:L0!)(a:Addr)(h:D!):(K2 l a h).map (JP!)=l.map JP!:=by
 unfold K2;rw[AQ];refine MH!;show(tk (oH!).1,m? (oH!).2.1)=_;by_cases e:D?=a;.rw[lc,<-e]
 .rw[Rs]
theorem Jeo(m:q∈K2 l a h):(∃q0∈l,q0.2.1=a/\q=(q0.1,a,h))\/(q∈l/\D?≠a):=by
 unfold K2 at m;obtain⟨q0,h0,e⟩:=BD!;by_cases e1:q0.2.1=a;.rw[AE e1] at e;exact E8! q0 h0 e1 e.symm
 .rw[AD e1] at e;rw[<-e];exact c? h0 e1
universe S
theorem AU.gM(x:Z?)(hq:q∈G.holds)(l:D!):bF! D? Be l (im! D? l):=by
 obtain⟨_,_,_,d1⟩:=x.bF;obtain⟨n1,n2,n3,n4⟩:=d1 q hq;have mem:D?∈A2!:=by unfold BL;exact oV! (BC hq)
 have np:=x.QR mem;obtain⟨dx,e⟩:=x.ob;refine lK! n1.symm n2.symm ?_ (Vc! n4.symm) Ik! ?_;.rw[Ac n3.symm];show z! H G.l (.dT ((K2 G.holds D? l).map JP!));rw[Jdb];exact x.dl
 .rcases Jeo hr with⟨q0,_,e1,e2⟩|⟨h1,h2⟩;(.rw[e2];exact Ab);.rw[Ac h2];exact x.hl r h1
 ·(have e2:BL (im! D? l)=BL G:=by unfold BL;rw[V3]);rw[e2];exact x.nd
universe E
def B4(l:D!)(t:T2):D!:=if C1! then l else l++[t]
def N0(l:D!)(t:T2):D!:=l.filter (HU! (u≠t))
theorem Jcc(l:D!)(t:T2):ri! (q=t)=TA! C1! t:=by
 by_cases h:C1!;.rw[Ar!];cases e:Fl! l.find? (q=t) with | none=>exact absurd (BD.mp e t h) (B?) | some u =>have:=DW e;(have:u=t:=by simpa using this);rw[this]
 .rw[BC!];exact BD.mpr λu hu=>by have:¬u=t:=M? h (z▸hu);simpa using this
theorem Jf(l:D!)(t:T2):kx! Bj!=TA! C1! cO!:=by
 rw[Eb (k:=qA!) (f:=Of!),Jcc];by_cases h:C1!;.rw[Ar!,Ar!];rfl
 .rw[BC!,BC!];rfl
theorem Fo(l:D!)(t:T2):putK (C6! Bj!) N9! (V.bl true)=(B4 l t).map Bj!:=by
 unfold B4;by_cases h:C1!;.rw[Ar!];unfold putK;rw[Kv,Jf,Ar!,AE (FU! ((some (V.bl true)).isSome=true)),AQ];refine MH!;show(if tk q=tk t then(tk q,V.bl true) else(tk q,V.bl true))=_;by_cases e:tk q=tk t;(.rw[lc]);.rw[Rs]
 .rw[BC!,Jm (k:=qA!) (f:=Of!) _ (NG! (h (qM! hq))),ZF];rfl
theorem Hm(l:S!)(k:Bf!)(f:FD!)(t:T2):Dp (l.map J2!) N9!=(l.filter (AS! U4!)).map J2!:=by
 unfold Dp;rw[QL];congr 1;refine IX λq _=>?_;show a? (tk (k q)≠tk t)=a? U4!;by_cases e:k q=t;.rw[e];simp
 .have e2:¬tk (k q)=tk t:=Tr! Yc;simp[e,e2]
def Bh(l:T!)(t:T2)(v:Int):T!:=sB Af! (l.map λq=>Q9!) (l++[(t,v)])
theorem Ez(l:T!)(t:T2)(v:Int):putK (C6! EO!) N9! (V.int v)=(Bh l t v).map EO!:=by
 unfold Bh;by_cases h:Af!;.rw[Ar!];unfold putK;(have e1:((l.map EO!).any λkv=>Kq! kv.1 tk t)=true:=by obtain⟨q,hq,e⟩:=DS!;exact JS.mpr ⟨sH!,BC hq,XQ!⟩);rw[e1,e?,AQ,AQ];refine MH!;show(if Su!=tk t then(Su!,H? v) else sH!)=(tk (Q9!).1,H? (Q9!).2);by_cases e:z?;(.rw[lc,AE (Fd!)]);.rw[Rs,AD (Tr! Yc)]
 .rw[BC!,Jm (k:=Ab!) (f:=DH!) _ (NG! (QR! be!)),ZF];rfl
universe S
inductive L5(xs:E!)(H:Hp)(Q:VK):Prop
 | mk (l:Addr) (as:J!) (ts ss:D!) (_:xs=[Kk!]) (_:Qe!) (_:AO!) (_:ts.length<64) (_:ss.Perm ts) (_:ss.Pairwise HR) (_:∀(r:Addr)(KY:J!),PR!->AX H KY ss->am r (Po! r KY.map))
theorem Ho(hc:BI!):YN! L5:=by
 intro AA s σ H xs us Q I rv h;obtain⟨l,as,ts,ss,rfl,hl,th,aj,pm,pw,q⟩:=h;obtain⟨u,rfl,rx⟩:=vals1 rv;cases rx;obtain⟨z,its,n,vl,gl⟩:=Eq! (bG! H l W7!) (I.DM l _ hl);have ei:=Ma vl;subst ei;have uP:=Cf!;have nd:ts.Nodup:=pm.nodup_iff.mp (List.Pairwise.imp (λ{a b} (h:HR a b) (z:a=b)=>l6!) pw);have tF:DI! ts.map (λt=>rR! t.1 t.2):=List.Pairwise.map _ (λa b h z=>h (by obtain⟨a1,a2⟩:=a;obtain⟨c1,c2⟩:=b;simp at z;rw[z.1,z.2])) nd;have t0:IV s.heap as (ts.map Oy!):=N6! Es ZA uP (λj a ns e1 e2=>by rw[ZH] at e2;cases ht:ts[j]? with | none=>rw[ht] at e2;cases e2 | some t =>rw[ht] at e2;cases e2;obtain⟨its,rv,it,_⟩:=kb! (Ax th j a t e1 ht);exact⟨B?,its.toArray,it,Ct! (lx! rd! rv)⟩)
 refine pe! (by unfold Builtin.«sorted»;refine pr! (collect_list (nC! gl) ?_ (Wq!));have kp:Tq! (AB! ((s.heap.push (seqObj ci #[] 0)).update s.heap.objs.size (Obj.mapSeq (·++(as.map Value.ref).toArray))).get?):=λb o e =>(EK _ _ (ER (AV e))).trans (ZT _ e);generalize (s.heap.push (seqObj ci #[] 0)).update s.heap.objs.size (Obj.mapSeq (·++(as.map Value.ref).toArray))=h1 at kp;have I1:FV! { s with heap:=h1,toks:=s.toks }:=jJ!;refine lH! Wq!;have g1:We! (h1.push (seqObj "list" (as.map Value.ref).toArray 0)).get? h1.objs.size F1!:=CS!;have t1:IV sk! as (ts.map Oy!):=t0.keep λb o e _=>ZT _ (D1! kp);refine pN! g1 (P3 g1 C! t1 tF λp pp po h2 c lu e=>Vn!);have hn:e9!:=QO!;have inr:∀i∈p,Sj!:=λi hi=>BI.mp (pp.mem_iff.mp hi);(have eR:p.map (CP! ts.getD (0,0))=ss:=by refine Hv (lt:=HR) (λa z=>by rw[Ef] at z;lia) (λa b h1 h2=>by rw[Ef] at h1 h2;lia) ?_ ?_ pw;(·(have e2:(List.range as.length).map (CP! ts.getD (0,0))=ts:=by refine Y3!;rw[ZH];by_cases hj:j<ts.length;(.rw[show Rl!=B! j by simp[uP,hj]];simp[hj]);.rw[show Rl!=none by simp[uP];exact IJ!,CS (FS! IJ!)];rfl);have e7:=pp.map (CP! ts.getD (0,0));rw[e2] at e7;exact e7.trans pm.symm);.rw[EC];refine List.Pairwise.imp_of_mem (λ{i j} hi hj z=>?_) po;have li:=RN!;have lj:=inr j hj;simpa [HR,Cy! (i<ts.length),Cy! (j<ts.length)] using z);(have eV:(p.map X3!)=(p.map GG!).map Value.ref:=by rw[AQ];refine CD λi hi=>?_;have:=RN!;simp[this]);(have NB:AX H io! ss:=by rw[<-eR];refine Es (Un! ZA) λj a t e1 e2=>?_;rw[ZH] at e1 e2;cases hp:p[j]? with | none=>rw[hp] at e1;cases e1 | some i =>rw[hp] at e1 e2;cases e1;cases e2;have li:=inr i (ZP hp);exact Ax th i (as.getD i 0) (ts.getD i (0,0)) (by simp[li]) (Ou! (i<ts.length)));refine ml! (sR! I1.laid h1.objs.size (.BF ((p.map GG!).map V.ref)) (λb o hb=>lu b o (Rb! hb) (ZT _ hb)) ⟨?_,Bw! p.map GG! Value.ref,c,Jk _,?_⟩) (q _ io! hn NB);(.rw[ZA,ZA,pp.length_eq,CB,DF];lia);.rw[<-eV];exact e)
universe E
noncomputable def cO (H:Hp) (tb:T2):GN! Value
 | .ref a=>@decide (Tp! tb) es!
 | _=>false
theorem Jeu(h:XT!):cO H tb PP=a? CF!:=by
 show @decide (Tp! tb) es!=_;by_cases e:CF!;.rw[ev!];exact @decide_eq_true _ es! (F8! h e)
 .rw[IB!];refine @decide_eq_false _ es! λz=>e ?_;rw[h] at z;have z:tv t=tv tb:=HO.BG.inj (ZO z);unfold tv at z;simp only[List.cons.injEq,V.int.injEq,and_true] at z;exact Prod.ext z.1 z.2
theorem Ja0{as:J!}{ts:D!}(p:AO!):(as.map Value.ref).any ZU!=a? aX!:=by induction p with | nil=>simp | @cons a t _ _ r q ih =>rw[AI,JX,Jeu r,ih];by_cases e:CF!;(.rw[e];simp);.have:¬tb=t:=Tv! e;simp[e,this]
universe S
theorem Jan(hu:Zu!)(I:K!)(ha:XT!)(hb:AP!):SeqAt.EqAt A s PP Ex! (cO H tb PP):=by
 intro prog w E Q q;obtain⟨its,rv,it,_⟩:=kb! ha;obtain⟨zM,QN,jt,_⟩:=kb! hb;have i1:NT! its rd!:=lx! rd! rv;have i2:NT! zM l1!:=lx! l1! QN;refine wpAny_eqBool_tuple hu (N3 it (by simpa using i1)) (N3 jt (by simpa using i2)) ?_;rw[Jeu ha] at q;have e:Du! (rR! t.1 t.2) l1!=a? CF!:=by by_cases e:CF!;(.rw[e];simp);.have:¬rR! t.1 t.2=l1!:=M? e (by simp at z;exact Prod.ext z.1 z.2);rw[IB!,Al! this]
 rw[e];exact q
inductive Jmo(neg:Bool)(x:V)(y:V)(H:Hp)(Q:VK):Prop
 | mk (b l:Addr) (tb:T2) (as:J!) (ts:D!) (_:x=Os) (_:y=Kk!) (_:AP!) (_:Qe!) (_:AO!) (_:ju! (Hw! aX!) (a? aX!))
theorem Jba(hu:JV!)(I:K!)(hb:AP!)(hl:Qe!)(th:AO!) : s.heap.IsList l F1!/\∀y,y∈F1!->SeqAt.EqAt X.A.in1 s y Ex! (cO H tb y):=by
 obtain⟨z,its,n,vl,gl⟩:=Eq! (bG! H l W7!) (I.DM l _ hl);have ei:=Ma vl;subst ei;refine⟨nC! gl,If!⟩;have hy:y∈YY!:=by simpa using hy
 obtain⟨a,ha,rfl⟩:=ZN hy;obtain⟨j,hj⟩:=C_.mp ha;obtain⟨t,ht⟩:=mc! ts Cf!;exact Jan (TD! FJ!) I (Ax th j a t hj ht) hb
theorem Nn(hu:JV!):Jp! OV! Jmo true:=by intro AA s σ H x y v u Q I rx ry h;obtain⟨b,l,tb,as,ts,rfl,rfl,hb,hl,th,q⟩:=h;cases rx;cases ry;obtain⟨a1,a2⟩:=Jba hu I hb hl th;refine SeqAt.notIn_listAt ZU! a1 a2 jr!;rw[aY! ((as.map Value.ref).toArray.any (cO H tb)=(as.map Value.ref).any ZU!),Ja0 th];exact q
universe E
universe S
variable {prog:Program}{w:World}{A:Around}{R:Result->Shared->Prop}{s:Shared}{l:Addr}{items:Array Value}{n:Nat}{x:Value}
universe E
universe S
universe E
universe S
universe E
universe S
universe E
theorem Jkp:AE! KE! NH!:=ZV
def E8(c:Int)(d:Addr):Bc!:=Ar NH! (K? d) (Ar KE! (dj c) [])
theorem Wn(c:Int)(d:Addr):E8 c d=([(KE!,H? c),(NH!,m? d)]:Bc!):=by grind [Ar,V,Jkp,E8]
theorem Fn(c:Int)(d:Addr):b? (E8 c d).lookup (KE!:Str) g! c:=by unfold E8;rw[Bb,AD Jkp,Bb,e?]
theorem Fb(c:Int)(d:Addr):NU! (E8 c d).lookup (NH!:Str) d:=by unfold E8;rw[Bb,e?]
theorem Do(c:Int)(d:Addr){m:Str}(h1:¬m=NH!)(h2:¬m=KE!):AT (E8 c d).lookup m:=by unfold E8;rw[Bb,AD h1,Bb,AD h2];all_goals rfl
theorem Jbm(c y:Int)(d:Addr):Ar KE! (dj y) (E8 c d)=E8 y d:=by grind [Wn,V,Ar,E8]
def kvsOf(ls:o!):bi:=ls.map λl=>qK! l.1 l.2
structure HU(C:Addr)(H:Hp)(p d:Addr)(c:Int)(ls:o!):Prop where
 ob:∃dx,Wd! C (E8 c d)
 dc:jY! d ls
 le:A0! (l.1<=c)
 nd:y? ls.map
theorem HU.keep(x:aK! C)(h1:∀o,z! H p o->z! H' p o)(h2:∀o,GD! o->Tw! H'):HU C H' p d c ls :=⟨bk! (h1 _ e),h2 _ x.dc,x.le,x.nd⟩
theorem HU.ne(x:aK! C):p≠d:=by obtain⟨dx,e⟩:=x.ob;exact Mb! e x.dc
theorem Lg(ls:o!):o? kvsOf ls=ls.length:=ZA ..
theorem Jq:Ca (kvsOf ls) (Sum.inl n)=(ls.find? l7!).map λl=>m? l.2:=by
 unfold Ca kvsOf;rw[List.find?_map,Option.map_map];congr 1;congr 1;funext l;show g1! (C9! l.1) Sum.inl n Kp!;by_cases e:Kp!;.rw[e];simp
 .rw[IB!,Al! (Tr! Sum.inl.inj)]
theorem Ji8(h:A0! (l.1≠n)):Ca (kvsOf ls) (Sum.inl n)=none:=U2! (gy! (Ct! (h l hl)))
theorem Xu{l1 l2:o!}{n:Int}{t:Addr}(nd:JC! Qd!):(Qd!).find? (l7!)=B! (n,t):=by
 rw[ZF,AI] at nd;have h:∀l∈l1,¬Kp!:=λl hl e=>by have:=Xo! l.1 (BC hl) n En!;exact this e
 rw[List.find?_append];have e1:l1.find? (l7!)=none:=gy! (Ct! (h l hl))
 rw[e1];simp
theorem Xy(nd:JC! Qd!):Dp (kvsOf (Qd!)) (Sum.inl n)=kvsOf (NI!):=by
 rw[ZF,AI] at nd;have h1:∀l∈l1,¬Kp!:=λl hl e=>Xo! l.1 (BC hl) n (AV!) e;have h2:∀l∈l2,¬Kp!:=λl hl e=>(AZ.mp (eu! nd)).1 (by have m:=BC (f:=λx:Int×Addr=>x.1) hl;rw[e] at m;exact m);have all:∀ls:o!,(A0! (¬Kp!))->Dp (kvsOf ls) (C9! n)=kvsOf ls:=λls h=>by refine Qo Ij!;unfold kvsOf at m;rw[AQ] at m;obtain⟨l,hl,e⟩:=BD!;exact h l hl (Sum.inl.inj e)
 unfold kvsOf;rw[ZF,AI,ZF];unfold Dp;rw[FD,DH];have e0:Uc! ((qK! (n,t).1 (n,t).2:Key×V).1≠cB!):=B?
 rw[e0];have a1:=all l1 h1;have a2:=all l2 h2;unfold Dp kvsOf at a1 a2;rw[a1,a2];rfl
theorem U2(h:A0! (l.1≠n)):nh! ls (C9! n) t (ls++[(n,t)]):=by rw[Ha _ (Ji8 h)];unfold kvsOf;rw[ZF];rfl
structure DI where
 share:Int
 hs:Addr
 po:Addr
 iq:Addr
 fi:Addr
 en:Addr
 pd:Addr
 c:Int
 ls:o!
 qs:x!
 JJ:o!
 ED:o!
 EF:o!
theorem Ij:AE! Dn! Ah!:=ZV
theorem Ko:AE! AC! Ah!:=ZV
theorem Jx:AE! AC! Dn!:=ZV
theorem M8:AE! Do! Ah!:=ZV
theorem Kq:AE! Do! Dn!:=ZV
theorem Om:AE! Do! AC!:=ZV
theorem Jy:fL! Ah!:=ZV
theorem Ik:fL! Dn!:=ZV
theorem Kr:fL! AC!:=ZV
theorem M9:fL! Do!:=ZV
theorem Na:Vq! Ah!:=ZV
theorem Ks:Vq! Dn!:=ZV
theorem On:Vq! AC!:=ZV
theorem Q9:Vq! Do!:=ZV
theorem Nb:Vq! Dp!:=ZV
def Eu(W:DI):Bc!:=[(Ah!,R! W.share),HZ! Dn! W.hs,HZ! AC! W.po,HZ! Do! W.iq,HZ! Dp! W.fi,HZ! NJ! W.en]
theorem Ii(W:DI):b? (Eu W).lookup (Ah!:Str) g! W.share:=by unfold Eu;rw[Hg]
theorem Dq(W:DI):W9! Dn! W.hs:=by unfold Eu;rw[Br Ij,Hg]
theorem Em(W:DI):W9! AC! W.po:=by unfold Eu;rw[Br Ko,Br Jx,Hg]
theorem L9(W:DI):W9! Do! W.iq:=by unfold Eu;rw[Br M8,Br Kq,Br Om,Hg]
theorem Ol(W:DI):W9! Dp! W.fi:=by unfold Eu;rw[Br Jy,Br Ik,Br Kr,Br M9,Hg]
theorem Jcp(W:DI):W9! NJ! W.en:=by unfold Eu;rw[Br Na,Br Ks,Br On,Br Q9,Br Nb,Hg]
theorem Bw(W:DI)(h:i? (([Ah!,Dn!,AC!,Do!,Dp!,NJ!]:X?).contains m)):AT (Eu W).lookup m:=by simp only[List.contains_cons,Bool.or_eq_false_iff,DU] at h;obtain⟨h1,h2,h3,h4,h5,h6,_⟩:=h;unfold Eu;rw[Br h1,Br h2,Br h3,Br h4,Br h5,Br h6];rfl
theorem Jh9(W:DI):Ar NJ! (K? W.en) (Ar Dp! (K? W.fi) (Ar Do! (K? W.iq) (Ar AC! (K? W.po) (Ar Dn! (K? W.hs) (Ar Ah! (dj W.share) [])))))=Eu W:=by unfold Eu;rw[En];rw[B2! Ij,En];rw[B2! Ko,B2! Jx,En];rw[B2! M8,B2! Kq,B2! Om,En];rw[B2! Jy,B2! Ik,B2! Kr,B2! M9,En];rw[B2! Na,B2! Ks,B2! On,B2! Q9,B2! Nb,En]
def B6:x!->J!
 | []=>[]
 | q::l=>nH!++B6 l
theorem Hh:∀(l m:x!),B6 (l++m)=B6 l++B6 m
 | [],m=>rfl
 | q::l,m=>by show nH!++B6 (l++m)=(nH!++B6 l)++B6 m;rw[Hh l m,BE]
theorem DD:∀{l:x!},b∈B6 l↔∃q∈l,b=q.1\/b∈BL q.2
 | []=>⟨λh=>by simp[B6] at h,λ⟨q,h,_⟩=>Cu!⟩
 | q::l=>by show b∈nH!++B6 l↔_;rw[DB,CM,DD];constructor;(.rintro(h|⟨r,hr,h⟩);(.exact FZ! AV! h);.exact⟨r,ZD _ hr,h⟩);.rintro⟨r,hr,h⟩;rcases ZM hr with rfl|hr;(.exact W?);.exact N! (Gh! h)
def Cg(p:Addr)(W:DI):J!:=[p,W.hs,W.po,W.pd,W.iq,W.fi,W.en]
def Bv(p:Addr)(W:DI):J!:=Ny!++B6 W.qs
structure AO(CW CH CP:Addr)(H:Hp)(p:Addr)(W:DI):Prop where
 ob:∃dx,Yy! H p CW Eu W
 hs:z! H W.hs (.BF (W.qs.map Jr!))
 ho:∀q∈W.qs,AU CH H q.1 q.2
 po:HU CP H W.po W.pd W.c W.ls
 iq:jY! W.iq W.JJ
 fi:jY! W.fi W.ED
 en:jY! W.en W.EF
 nd:(Bv p W).Nodup
def GC(p:Addr)(W:DI)(H H':Hp):Prop:=MK! EF!
universe S
variable {CW CH CP p:Addr}{H H':Hp}{W:DI}
theorem AO.keep(x:B5!)(k:XG! dN!):aZ! CH H' W:=by have t:∀{b},Uj!->dN!:=λh=>B0!;refine⟨bk! (h! k tI! e),fu! x.hs,TD ((x.ho q hq).keep (Dk! (h! k (nB! (NQ! hb)) e))),x.po.keep (λo e=>h! k tI! e) (λo e=>h! k tI! e),fu! x.iq,fu! x.fi,fu! x.en,x.nd⟩
theorem AO.same(x:B5!)(s:KB):aZ! CH H' W:=x.keep dP!
theorem AO.some_at(x:B5!)(hb:dN!):∃o,Dt!/\(∀xs,o≠RL!)/\∀ob u,o≠Zf!:=by
 rcases ZI hb with hb|hb;.simp only[Cg,CM,DX,M'] at hb;rcases hb with rfl|rfl|rfl|rfl|rfl|rfl|rfl;(.obtain⟨dx,e⟩:=x.ob;exact hU!);(.exact Kv! x.hs);(.obtain⟨dx,e⟩:=x.po.ob;exact hU!);(.exact Kv! x.po.dc);(.exact Kv! x.iq);(.exact Kv! x.fi);.exact Kv! x.en
 .obtain⟨q,hq,hb⟩:=DD.mp hb;rcases hb with rfl|hb;(.obtain⟨dx,e⟩:=(x.ho q hq).ob;exact hU!);.obtain⟨kvs,e⟩:=(x.ho q hq).MY hb;exact hU!
theorem AO.dY(x:B5!)(e:XK!):EF!:=λm=>by obtain⟨o,e',h,_⟩:=fz!;rw[e] at e';cases e';exact h _ rfl
theorem AO.MX(x:B5!)(e:s?):EF!:=λm=>by obtain⟨o,e',_⟩:=fz!;rw[e] at e';cases e'
theorem GC.CQ(x:B5!)(f:Fy!):u? :=iN! (f a _ e (x.dY e)) (f a _ e λm=>by obtain⟨o,e',_,h⟩:=fz!;rw[e] at e';cases e';exact F! h rfl)
theorem Ji1{A X X' B:J!}(h:(A++(X++B)).Nodup)(hx:X'.Nodup)(k:∀b∈X',b∈X\/(b∉A/\b∉B)):(A++(X'++B)).Nodup:=by
 obtain⟨a1,a2,a3⟩:=AK.mp h;obtain⟨b1,b2,b3⟩:=AK.mp a2;refine Kr! a1 (Kr! hx b2 (λy hy z hz e=>?_)) (λy hy z hz e=>?_);.rcases k y hy with h|h;(.exact b3 y h z hz e);.exact h.2 (e▸hz)
 .rcases As! with hz|hz;(.rcases B3! k with h|h;(.exact a3 y hy z (ZB _ h) e);.exact h.1 (e▸hy));.exact a3 y hy z (ZC _ hz) e
theorem AO.step(x:B5!){i:Nat}{q:Addr}{G G':BV}(hi:r9!)(S:AU CH H' q G')(f:XU q G H H')(nw:MU!) : Ua! H' (KH! Rd!) Fy!:=by
 obtain⟨JK,_⟩:=ZJ hi;have e1:W.qs=W.qs.take i++Ed!::Ff! W.qs.drop:=by have:=EJ i W.qs;rw[<-this];congr 1;(.rw[EJ]);.rw[EJ];exact(List.drop_eq_getElem?_toList_append (l:=W.qs) (i:=i)).trans (EQ hi)
 have e2:Rd!=W.qs.take i++AD!::Ff! W.qs.drop:=R? List.set_eq_take_append_cons_drop (AE JK)
 generalize W.qs.take i=l1 at e1 e2;generalize Ff! W.qs.drop=l2 at e1 e2;have hm:Ed!∈W.qs:=ZP hi;have nd:=x.nd;unfold Bv at nd;rw[e1,Hh] at nd;have eA:Ny!++(B6 l1++B6 (Ed!::l2))=(Ny!++B6 l1)++((q::A2!)++B6 l2):=dQ!
 rw[eA] at nd;obtain⟨a1,a2,a3⟩:=AK.mp nd;obtain⟨b1,b2,b3⟩:=AK.mp a2;have apart:∀b,(Uj!\/b∈B6 l1\/b∈B6 l2)->b≠q/\N3!:=Q? (by (have no:b∉q::A2!:=λm=>by rcases hb with hb|hb|hb;(.exact a3 b (ZB _ hb) b JI! rfl);(.exact a3 b (ZC _ hb) b JI! rfl);.exact b3 b m b hb rfl);exact⟨M? no (K1! AV!),λz=>no (wn z)⟩)
 have kp:XG! (Uj!\/b∈B6 l1\/b∈B6 l2):=Dk! (f b o e (apart b hb).1 (apart b hb).2);have t:∀{b},Uj!->b∈Ny!\/b∈B6 l1\/b∈B6 l2:=λh=>W?;have hsm:W.qs.map (Jr!)=(W.qs.set i AD!).map Jr!:=by rw[e2,e1,ZF,ZF];rfl
 refine⟨⟨bk! (Rc! e),?_,Ik!,x.po.keep (λo e=>Rc! e) (λo e=>Rc! e),Rc! x.iq,Rc! x.fi,Rc! x.en,?_⟩,Cw! ?_⟩;.have:=h! kp (t (b:=W.hs) (qB!)) x.hs;rw[hsm] at this;exact this
 .have hr:r∈Rd!:=hr;rw[e2] at hr;(have aS:r∈l1\/r∈l2->AU CH H' r.1 r.2:=λh=>by (have hW:r∈W.qs:=G! e1 (h.elim (λz=>j? z) λz=>rN! z));exact(x.ho r hW).keep (r5! kp (h.elim (λz=>N! (P? (DD.mpr ⟨r,z,hb⟩))) λz=>N! (y! (DD.mpr ⟨r,z,hb⟩)))));rcases GV! with hr|hr;(.exact E6! aS hr);.rcases ZM hr with rfl|hr;(.exact S);.exact aS (y! hr)
 .show(Ny!++B6 (W.qs.set i AD!)).Nodup;rw[e2,Hh];(have eB:Ny!++(B6 l1++B6 (AD!::l2))=(Ny!++B6 l1)++((q::BL G')++B6 l2):=dQ!);rw[eB];refine Ji1 nd (AZ.mpr ⟨λm=>S.QR m rfl,S.nd⟩) F9!;rcases FE! with rfl|hb;(.exact Ad! AV!);.rcases Ci! nw with h|h;(.exact H! (wn h));.have no:=x.MX h;unfold Bv at no;rw[e1,Hh] at no;refine c? (λm=>no ?_) (λm=>no ?_);(.rcases ZI m with m|m;(.exact j? m);.exact Bt! JI!);.exact Bt! (ZC _ (ZC (q::A2!) m))
 .have IC:b∉B6 W.qs:=λm=>hb (ZC _ m);exact f b o e (λz=>IC (DD.mpr (Az! hm (H! z)))) λz=>IC (DD.mpr (Az! hm LO!))
theorem AO.f'(x:B5!):(W.po≠W.pd/\W.po≠p/\W.po≠W.hs/\W.po≠W.iq/\W.po≠W.fi/\W.po≠W.en)/\(W.pd≠p/\W.pd≠W.hs/\W.pd≠W.iq/\W.pd≠W.fi/\W.pd≠W.en)/\(W.iq≠p/\W.iq≠W.hs/\W.iq≠W.fi/\W.iq≠W.en)/\(W.fi≠p/\W.fi≠W.hs/\W.fi≠W.en)/\(W.en≠p/\W.en≠W.hs):=by have nd:=(AK.mp x.nd).1;simp only[Cg,AZ,CM,DX,M',not_or,CU,and_true,not_false_eq_true] at nd;obtain⟨⟨a1,a2,a3,a4,a5,a6⟩,⟨b1,b2,b3,b4,b5⟩,⟨c1,c2,c3,c4⟩,⟨d1,d2,d3⟩,⟨e1,e2⟩,f1⟩:=nd;exact⟨⟨c1,GJ! a2,GJ! b1,c2,c3,c4⟩,⟨GJ! a3,GJ! b2,d1,d2,d3⟩,⟨GJ! a4,GJ! b3,e1,e2⟩,⟨GJ! a5,GJ! b4,f1⟩,⟨GJ! a6,GJ! b5⟩⟩
theorem AO.HV(x:B5!)(hb:Uj!)(hq:q∈W.qs):b≠q.1/\b∉BL q.2:=by have h:=Ci! (AK.mp x.nd).2.2;exact Xm! (h _ (DD.mpr (NQ! bn)) z) (h _ (DD.mpr (NQ! LO!)) rfl)
theorem AO.IT(x:B5!)(S:HU CP H' W.po W.pd c ls)(f:OF! (b≠W.po) (b≠W.pd) FA!) : Ua! H' { W with c:=c,ls:=ls } Fy!:=by
 obtain⟨⟨a1,a2,a3,a4,a5,a6⟩,⟨b1,b2,b3,b4,b5⟩,_⟩:=x.f';refine n1! (Zz! e a2 b1) (Zz! x.hs a3 b2) (f b o e ?_ ?_) S (Zz! x.iq a4 b3) (Zz! x.fi a5 b4) (Zz! x.en a6 b5) (f b o e ?_ ?_);.rintro rfl;have h:=Zn! W.po;exact Zb!
 .rintro rfl;have h:=Zn! W.pd;exact Zb!
 .rintro rfl;exact X2!
 .rintro rfl;exact X2!
theorem AO.wb(x:B5!):Ua! (OK! W.iq) { W with JJ:=l } (HG! (OK! W.iq)):=by
 obtain⟨⟨a1,a2,a3,a4,a5,a6⟩,⟨b1,b2,b3,b4,b5⟩,⟨c1,c2,c3,c4⟩,_⟩:=x.f';have f:fo! (b≠W.iq) (OK! W.iq):=λb o e h=>gG!
 refine n1! (h! f e (Sy! c1)) (QN! x.hs c2) RB! (x.po.keep (Or! a4) (Or! b3)) Ab (QN! x.fi c3) (QN! x.en c4) RB!;.rintro rfl;have h:=Zn! W.iq;exact Zb!
 .rintro rfl;exact X2!
universe E
def nX(W:DI)(h:Int):Prop:=h<0\/PE!<=h
def JV(W:DI)(h:Int)(q:Addr)(G:BV):Prop:=0<=h/\CH! (W.qs[h.toNat]?)
theorem JV.at(i:Bx!)(x:B5!):AU CH H q G:=x.ho Ed! (ZP i.2)
theorem JV.lt(i:Bx!):0<=h/\h<W.qs.length:=by obtain⟨z,_⟩:=ZJ i.2;have:=i.1;exact⟨i.1,A!⟩
theorem JV.QE(i:Bx!):L2.QE (W.qs.map Jr!) h=B! (V.ref q):=Bu i.1 (a1! i.2)
theorem lookup_mem:∀{l:rC!},HF! l.lookup k->(y,k)∈l
 | [],h=>Cu!
 | (a,b)::l,h=>by rw[OW] at h;by_cases e:y=a;(·(have q1:Aa! (y==a):=Hs! (beq_self_eq_true a));rw[q1] at h;have h:b=k:=ZO h;rw[e,h];exact AV!);.have q1:AY! (y==a):=DU.mpr e;rw[q1] at h;exact ZD _ (lookup_mem h)
theorem Vc{l:rC!}{cl:Bz!}{y:Str}(hc:∀p∈l,p.2=KM\/p.2=Cq!->sd! p.1)(h:HF! l.lookup KM\/HF! l.lookup Cq!):Mh!:=by
 rcases h with h|h;.exact hc _ (lookup_mem h) (P? rfl)
 .exact hc _ (lookup_mem h) (y! rfl)
theorem Jm0{a b c:Str}{cl:Bz!}{y:Str}(h:uD! NameKind.globalImplicit KM\/uD! NameKind.globalImplicit Cq!):Mh! :=nc! (by simp only[CM,DX,M'] at hp;rcases hp with rfl|rfl|rfl<;>rcases hk with hk|hk<;>cases hk)
theorem Jm1{a b c d e f:Str}{k1 k2 k3 k4:NameKind}{cl:Bz!}{y:Str}(hc:jE!)(hd:∃z,z! cl.lookup d z)(he:sd! e)(hf:sd! f)(h:rZ! [Ti!,Tk!,(c,k1),(d,k2),(e,k3),(f,k4)] KM\/rZ! [Ti!,Tk!,(c,k1),(d,k2),(e,k3),(f,k4)] Cq!):Mh! :=nc! (by simp only[CM,DX,M'] at hp;rcases hp with rfl|rfl|rfl|rfl|rfl|rfl;(.rcases hk with hk|hk<;>cases hk);(.rcases hk with hk|hk<;>cases hk);(.exact hc);(.exact hd);(.exact he);.exact hf)
universe S
universe E
structure Lies(H:Hp)(L:J!):Prop where
 nd:L.Nodup
 all:∀b∈L,∃o,Dt!
theorem Lies.keep(x:Lies H L)(k:nf!):Lies H' L:=⟨x.nd,Q? (let⟨o,e⟩:=Ci! x.all;k b o e)⟩
theorem Lies.new(x:Lies H L)(h:s?)(h':∃o,FA!)(k:nf!):Lies H' (b::L) :=⟨AZ.mpr ⟨λm=>(by obtain⟨o,e⟩:=x.all b m;rw[h] at e;cases e),x.nd⟩,λc hc=>by rcases ZM hc with rfl|hc;(.exact h');.obtain⟨o,e⟩:=x.all c hc;exact k c o e⟩
universe S
universe E
theorem Lies.add(x:Lies H L)(nd:X.Nodup)(h:∀b∈X,s?)(h':∀b∈X,∃o,FA!)(k:nf!):Lies H' (X++L) :=⟨Kr! nd x.nd (λb hb c hc e=>by obtain⟨o,z⟩:=x.all c hc;rw[<-e,Ci! h] at z;cases z),λc hc=>by rcases ZI hc with hc|hc;(.exact h' c hc);.obtain⟨o,e⟩:=x.all c hc;exact k c o e⟩
theorem Lies.perm(x:Lies H L)(p:L.Perm L'):Lies H L':=⟨p.nodup_iff.mp x.nd,Q? (x.all b (p.mem_iff.mpr hb))⟩
def Kp(p:Addr)(H H':Hp):Prop:=MK! FT!
theorem Kp.trans(a:Kp p H H1)(b:Kp p H1 H2):Kp p H H2:=λc o e h=>b c o (a c o e h) h
theorem kf:Kp p H (TF! p):=λb o' e h=>gG!
theorem Kp.ex(k:Kp p H H')(hp:∃o,z! H' p o):nf!:=AQ! (by by_cases z:b=p;(.rw[z];exact hp);.exact DJ! (BU! k z))
theorem Jkh(h:¬x=y):Uc! (V.str x=V.str y):=Al! (λz=>h (V.str.inj z))
theorem bE(k:tb D σ H)(hv:σ[i]?=B! (some (re wd)):=by rfl)(ne:¬wd=c:=by decide +kernel):vG (Kw (WC iK (B9 i) (JX! c))) ta tb D σ H:=⟨_,hv,rfl,_,rfl,G! (Jkh ne) (Cb k)⟩
theorem ko(k:ta D σ H)(hv:σ[i]?=B! (some (re c)):=by rfl):vG (Kw (WC iK (B9 i) (JX! c))) ta tb D σ H:=⟨_,hv,rfl,_,rfl,G! (D2! rfl) (Ce k)⟩
theorem AO.IU(x:B5!)(e:sK!)(h:b≠W.hs):EF!:=λhb=>by rcases ZI hb with hb|hb;(.simp only[Cg,CM,DX,M'] at hb;rcases hb with rfl|rfl|rfl|rfl|rfl|rfl|rfl;(.obtain⟨dx,e'⟩:=x.ob;rw[e] at e';cases e');(.exact h rfl);(.obtain⟨dx,e'⟩:=x.po.ob;rw[e] at e';cases e');(.have e':=x.po.dc;rw[e] at e';cases e');(.have e':=x.iq;rw[e] at e';cases e');(.have e':=x.fi;rw[e] at e';cases e');.have e':=x.en;rw[e] at e';cases e');.obtain⟨q,hq,hb⟩:=DD.mp hb;have ne:=(x.ho q hq).WS e;exact hb.elim ne.1 ne.2
def Jku(G:BV):bi:=[(N! ac!,R! G.BR),hA! BK! G.h,hA! Ay! G.l,hA! Ax! G.o,hA! BL! G.r,(N! CD!,R! G.AW),(N! Aw!,R! G.AS)]
inductive LstAt(H:Hp)(b:Addr)(ts:D!):Prop
 | mk (as:J!) (_:Bo! H W7!) (_:AO!)
theorem AX.keep(k:u?)(x:AO!):Qv!:=Ls! (Nv! e) x
structure rR(H:Hp)(p:Addr)(G:BV):Prop where
 ob:z! H p (.dK (Jku G))
 dh:LstAt H G.h G.hand
 dO:cA! G.o G.AF
 dl:fF! G.l G.holds
 dr:cA! G.r G.AJ
 hl:ND! (LstAt H D? GE)
 nd:(p::A2!).Nodup
universe S
variable {p:Addr}{H H':Hp}{G:BV}
theorem Fy{α β:Type}{f:α->β}:in! (Oe! f) (∀{a b:α},a∈l->b∈l->f a=f b->a=b)
 | [],_,_,_,ha,_,_=>sw ha
 | x::l,nd,a,b,ha,hb,e=>by have nd:=Bg!;rcases ZM ha with ha|ha<;>rcases FE! with hb|hb;(.rw[ha,hb]);(.exact gc! ⟨b,hb,d1! ha⟩ nd.1);(.exact gc! ⟨a,ha,R? e hb⟩ nd.1);.exact Fy nd.2 ha hb e
universe E
abbrev HL:=L0!
def zX(l:HL):BM! (T2×D!):=l.map λq=>(q.1,GE)
def Im(l:HL)(t:T2)(h:D!):HL:=l.map λq=>ta! (q.1,D?,h)
def Ck(l:HL)(t:T2):D!:=((l.find? e7!).map C5!).getD []
theorem Jdd(l:HL)(t:T2)(h:D!):(Im l t h).map FR!=l.map FR!:=by
 unfold Im;rw[AQ];refine MH!;show(ta! (q.1,D?,h)).2.1=D?;by_cases e:z?;.rw[lc]
 .rw[Rs]
theorem Jdc(l:HL)(t:T2)(h:D!):G? (Im l t h).map=N7!:=by
 unfold Im;rw[AQ];refine MH!;show(ta! (q.1,D?,h)).1=q.1;by_cases e:z?;.rw[lc]
 .rw[Rs]
theorem Pz(m:q∈Im l t h):(z?/\GE=h)\/q∈l:=by
 obtain⟨q0,h0,e⟩:=BD!;by_cases c:q0.1=t;.rw[Ch] at e;subst e;exact Am! c rfl
 .rw[IR] at e;subst e;exact N! h0
theorem Oh(h:Af!):∃a,Xu!=B! (t,a,Ck l t):=by cases e:jg! with | none =>obtain⟨q,hq,e2⟩:=DS!;have:=nS!;exact Iy! e2 (by simpa using this) | some q =>(have h1:z?:=aR! (DW e));refine d? D?;(have:Ck l t=GE:=ad! e);rw[this,<-h1]
theorem Jbe(ka:Oe! FR!)(kt:V1!)(f:PA! Xu! t)(h:D!):K2 l a h=Im l t h:=by
 have m:=A_ f;unfold K2 Im;refine CD CX!;by_cases e:z?;.have:=Fy kt hq m e;rw[this,e?,e?]
 .have:¬D?=a:=M? e (KD! (Fy ka hq m z));rw[AD this,Rs]
structure Ok(G:BV)(n:Nat):Prop where
 hn:G.hand.Nodup
 hz:G.hand.length<=n
 on:y? G.AF.map
 oz:G.AF.length<=n
 ke:kw!
 rn:y? G.AJ.map
 rz:G.AJ.length<=n
 ln:ND! (q.2.2.Nodup/\q.2.2.length<=n)
 new:Oz! (bm!/\t.2<G.AW)
 hk:KI! jM!
 lk:tp! jM!
 rk:hM! d4!
theorem Ok.mono(x:f?)(h:n<=m):Ok G m :=⟨x.hn,AR x.hz h,x.on,AR x.oz h,x.ke,x.rn,AR x.rz h,TD ⟨(x.ln q hq).1,AR (x.ln q hq).2 h⟩,x.new,x.hk,x.lk,x.rk⟩
def HE(G:BV):BV:={ G with AS:=CM! }
def V'(G:BV)(a:Addr):BV:={ G with AW:=Dz!,hand:=Tb!,AF:=L8!,holds:=IZ! }
theorem DL:u∈B4 l t↔u∈l\/u=t:=by
 unfold B4;by_cases h:C1!;.rw[Ar!];exact⟨P?,λz=>z.elim id λz=>K1! h⟩
 .rw[BC!];simp
theorem HC:u∈N0 l t↔u∈l/\u≠t:=by unfold N0;rw[AB];simp
theorem Pl(t:T2)(h:l.Nodup):(B4 l t).Nodup:=by
 unfold B4;by_cases e:C1!;.rw[lc];exact h
 .rw[Rs];exact F5 h e
theorem Jp(l:D!)(t:T2):(B4 l t).length<=l.length+1:=by
 unfold B4;by_cases e:C1!;.rw[lc];exact E_ _
 .rw[Rs];simp
universe S
theorem Ok.HE(x:f?):Ok (HE G) n:=⟨x.hn,x.hz,x.on,x.oz,x.ke,x.rn,x.rz,x.ln,x.new,x.hk,x.lk,x.rk⟩
theorem Ok.hand(x:f?)(h1:l.Nodup)(h2:l.length<=n)(h3:∀t∈l,jM!):Ok { G with hand:=l } n:=⟨h1,h2,x.on,x.oz,x.ke,x.rn,x.rz,x.ln,x.new,h3,x.lk,x.rk⟩
theorem Ok.holds(x:f?)(h1:l.Nodup)(h2:l.length<=n)(h3:∀t∈l,jM!):Ok (r6! Im t l) n:=by
 refine⟨x.hn,x.hz,x.on,x.oz,(Jdc ..).trans x.ke,x.rn,x.rz,CX!,x.new,x.hk,CX!,x.rk⟩;.rcases Pz hq with⟨_,e⟩|hq;(.rw[e];exact Q6!);.exact x.ln q hq
 .rcases Pz hq with⟨_,e⟩|hq;(.rw[e];exact h3);.exact x.lk q hq
theorem Ok.V'(x:f?)(a:Addr):ZO! bL!:=by
 have nw:ii∉CO!:=λm=>by have:=(x.new _ m).2;exact Iy! this (xz (¬G.AW<G.AW))
 have eo:G? tu!=CO!++qU!:=Om!
 refine⟨?_,?_,?_,?_,?_,x.rn,by have:=x.rz;show G.AJ.length<=n+1;exact S6! FR,CX!,?_,?_,?_,x.rk⟩;.exact F5 x.hn λm=>nw (x.hk _ m rfl)
 .show(Tb!).length<=n+1;rw[ZE];have:=x.hz;show G.hand.length+1<=n+1;exact Pw!
 .show JC! tc!;rw[eo];exact F5 x.on nw
 .show(tc!).length<=n+1;rw[ZE];have:=x.oz;show G.AF.length+1<=n+1;exact Pw!
 .show(G.holds++[(ii,a,Pu!)]).map (λ(q:T2×Addr×List T2)=>q.1)=G? tu!;rw[eo,ZF,x.ke];rfl
 .rcases ZI hq with hq|hq;(.exact⟨(x.ln q hq).1,FR (x.ln q hq).2⟩);·(have:lA!:=aV!);rw[this];exact⟨CU,AZ!⟩
 .intro t ht;have ht:fD!:=ht;show bm!/\t.2<Dz!;rw[eo] at ht;rcases DY! with ht|ht;(.have:=A6! x.new;exact⟨this.1,BJ! this.2⟩);·(have:Hy!:=ag!);rw[this];exact n? (by show G.AW<Dz!;exact AL!)
 .intro t ht e;show fD!;rw[eo];rcases DY! with ht|ht;(.exact j? (x.hk t ht e));.exact Bt! ht
 .intro q hq t ht e;show fD!;rw[eo];rcases ZI hq with hq|hq;(.exact j? (x.lk q hq t ht e));·(have:lA!:=aV!);rw[this] at ht;cases ht
theorem Ok.fresh(x:f?):(KI! (t≠ii))/\(∀q∈G.AF,lu!)/\ND! lu!:=by
 have nw:ii∉CO!:=λm=>by have:=(x.new _ m).2;exact Iy! this (xz (¬G.AW<G.AW))
 refine⟨λt ht e=>ee! nw (x.hk t ht (Fd!)),λq hq e=>ee! nw (BC hq),λq hq e=>nw (Sv! e x.ke (BC hq))⟩
theorem Ok.QS(x:f?):G.holds.length<=n:=by have:=MJ! x.ke;rw[ZA,ZA] at this;rw[this];exact x.oz
theorem Ok.get(x:f?)(t:T2):(Ck G.holds t).Nodup/\(Ck G.holds t).length<=n/\∀u∈Ck G.holds t,u.1=G.BR->u∈CO!:=by unfold Ck;cases e:Fl! G.holds.find? z? with | none=>exact⟨CU,AZ!,λu hu=>sw hu⟩ | some q =>have m:=A_ e;exact⟨(x.ln q m).1,(x.ln q m).2,x.lk q m⟩
theorem Ok.find(x:f?)(h1:CN!)(h2:bm!):∃a,fj! z?=B! (t,a,Ck G.holds t):=Oh (G! x.ke (x.hk t h1 h2))
universe E
def Ai(l:T!)(t:T2):Int:=ko! l.find? e7!
theorem Hb(l:T!)(t:T2)(v:Int):Zk!=sB Af! N7! (N7!++[t]):=by
 unfold Bh;by_cases h:Af!;.rw[Ar!,Ar!,AQ];refine MH!;show(Q9!).1=q.1;by_cases e:z?;(.rw[lc]);.rw[Rs]
 .rw[BC!,BC!,ZF];rfl
theorem Ok.OS(x:f?)(hf:Im!)(v:Int):ZO! { G with hand:=Fz!,AJ:=Re! G.AJ }:=by
 have x1:=x.mono (E_ n);refine⟨Pl _ x.hn,by have:=Jp G.hand tb;have:=x.hz;show(B4 G.hand tb).length<=n+1;lia,x1.on,x1.oz,x1.ke,?_,?_,x1.ln,x1.new,LC!,x1.lk,?_⟩;.show y? (Bh G.AJ tb v).map;rw[Hb];by_cases h:tb∈ep!;(.rw[Ar!];exact x.rn);.rw[BC!];exact F5 x.rn h
 .have h0:=MJ! (Hb G.AJ tb v);have:=x.rz;show(Bh G.AJ tb v).length<=n+1;rw[ZA] at h0;rw[h0];by_cases h:tb∈ep!;(.rw[Ar!,ZA];exact S6! FR);.rw[BC!,ZE,ZA];show G.AJ.length+1<=n+1;exact Pw!
 .rcases FG! with ht|ht;(.exact x.hk t ht e);.exact Ek! (dS! ht) hf
 .show ∀t∈r3! G.AJ tb,d4!;rw[Hb];intro t ht;by_cases h:tb∈ep!;(.rw[Ar!] at ht;exact A6! x.rk);.rw[BC!] at ht;rcases DY! with ht|ht;(.exact A6! x.rk);·(have:CF!:=ag!);rw[this];exact hf
universe S
theorem Je8(G:BV)(a:Addr):BL (HE bL!)=A2!++[a]:=by unfold BL V' HE;simp
universe E
theorem Lp(h:Af!):hE! z? t IE!:=by cases e:jg! with | none =>obtain⟨q,hq,e2⟩:=DS!;have:=nS!;exact Iy! e2 (by simpa using this) | some q =>(have h1:z?:=aR! (DW e));(have:IE!=q.2:=by unfold Ai;rw[e];rfl);rw[this,<-h1]
theorem Z8(h:Af!)(v:Int):Zk!=N7!:=R? Hb Ar!
theorem Jds(h:Af!)(v:Int):(Bh l t v).length=l.length:=GA! (congrArg List.length (Z8 h v)) ZA ZA
universe S
theorem Ok.AF(x:f?)(h:EI!)(v:Int):Ok (qF! (Re! G.AF)) n:=by
 have e:=Z8 h v;refine⟨x.hn,x.hz,by show y? (Bh G.AF tb v).map;rw[e];exact x.on,by show(Bh G.AF tb v).length<=n;rw[Jds h];exact x.oz,p8! (G? G.holds.map=r3! G.AF tb) e x.ke,x.rn,x.rz,x.ln,?_,?_,?_,x.rk⟩;.show ∀t∈r3! G.AF tb,_;rw[e];exact x.new
 .show KI! (bm!->YI! Bh G.AF v);rw[e];exact x.hk
 .show tp! (bm!->YI! Bh G.AF v);rw[e];exact x.lk
universe E
theorem Qj(f:α->Int):∀{l:S!} (x:Int),Oe! f->D6! l.filter (λe=>f e==x) 1
 | [],_,_=>AZ!
 | a::l,x,nd=>by have nd:=Bg!;rw[DH];by_cases e:f a=x;(.have no:(l.filter λe=>f e==x)=[]:=List.filter_eq_nil_iff.mpr (Sh! (F2! nd.1 ⟨b,hb,by rw[e];simpa using z⟩));rw[AE (Eb!),no];exact At);.rw[AD (Eb!)];exact Qj f x nd.2
universe S
variable {prog:Program}{w:World}{K:Type}[DecidableEq K]{knd:HeapKind prog w K}{A:Around}{E:Value->Shared->Prop}{s:Shared}
def Tame(knd:HeapKind prog w K):Prop:=∀{A:Around} {E:g?} {s:Shared} {k:K} {a:Addr} {Q:Uf Bool},nu!->(∀b,Q b s)->sE! Builtin.Dict.quietEq a
theorem Zf{id:String}{d:Addr}{ob:Obj}{es:Db!}{ep:Nat}{xs:E7!}{Q:Uf Db!}(tm:Tame knd)(g:z! s.heap.get? d ob)(dat:ob.data=.dict es ep)(ent:es.toList=xs.map (entryOfKey knd))(keys:∀x∈xs,knd.is s.heap x.1 HY!)(hh:DI! xs.map (λx=>knd.hash x.1))(q:Q es s):Fj! (Builtin.Dict.entriesForEmpty id d):=by
 have hn:DI! es.toList.map (λe=>e.hash):=ut ent AQ hh
 unfold Builtin.Dict.entriesForEmpty;refine Md! CL g dat ?_;rw[<-Array.forIn_toList];refine VY _ (λrest _ s'=>s'=s/\∀e∈rest,e∈es.toList) _ ?_ ?_ _ _ (n? (λe he=>he));.rintro e rest b s' ⟨rfl,sub⟩;have me:=sub e (AV!);rw[ent] at me;obtain⟨x,hx,ex⟩:=ZN me;(have ek:e.key=l! HY!:=by rw[<-ex];rfl);rw[ek];refine ZR (tm (keys x hx) λbq=>?_);(have small:¬(es.filter λz=>z.hash==e.hash).size > 1:=by have h1:=Qj (λz:DictEntry=>z.hash) e.hash hn;(have h2:(es.filter λz=>z.hash==e.hash).size=o? es.toList.filter (λz=>z.hash==e.hash):=NF! DA Array.toList_filter);rw[h2];exact FY.mpr h1);cases bq with | true =>simp only[Bool.not_true,CY,EV];exact ZS (n? (Ea! (sub e (wn he)))) | false =>simp only[Bool.not_false,JW];rw[AD small];exact ZS (n? (Ea! (sub e (wn he))))
 .rintro b s' ⟨rfl,_⟩;exact ZS q
theorem O0{d a:Addr}{xs:E7!}{k:K}{v:Value}{Q:I9!}(room:lj!)(key:nu!)(m:nK!)(z:Dg!)(q:∀h',ic! (storedH xs k a v)->Q4!->LR! ()):Fj! (dictSetHashed d PP (knd.hash k) v):=by
 obtain⟨ob,es,ep,g,ex,dat,ent,keys,nd⟩:=m;have sz:=JC ent;unfold dictSetHashed;refine EG (ZR (wpAny_dictFind_heap room key g dat ent keys nd (λno=>?_) λj p hj=>?_));.refine A3! wpAny_rule (wpAny_updateDictKeys (hz:=G! sz z) g dat (q _ ⟨_,_,ep+1,H_ _ g (NV (GK dat _)),ex.mapDictKeys _,GK dat _,?_,DP!,?_⟩ Hp!));(.rw[storedH_new (atKey_none_of_get no),ZF,<-ent];simp[entryOfKey]);(.rw[storedH_new (atKey_none_of_get no)] at hx;rcases ZI hx with hx|hx;(.exact knd.keeps (keys x hx) g dat Hp!);·(have e:x=(k,a,v):=by simpa using hx);rw[e];exact knd.keeps key g dat Hp!);.rw[storedH_new (atKey_none_of_get no),ZF];exact F5 nd (not_mem_keys_of_get no)
 .refine bB! wpAny_rule (wpAny_updateDict g dat (wpAny_point (q _ ⟨_,_,ep,H_ _ g (NV (Obj.data_mapDict dat _)),ex.mapDict _,Obj.data_mapDict dat _,?_,DP!,?_⟩ Hp!)));(.rw[storedH_old (atKey_of_get nd hj)];have e:=modify_map_putAt (entryOfKey knd) (λe:DictEntry=>{ e with val:=v }) k v UT! nd hj;rw[<-ent] at e;rw[<-e];simp);(.rw[storedH_old (atKey_of_get nd hj)] at hx;obtain⟨y,hy,e⟩:=ZN hx;(have e1:x.1=y.1/\HY!=y.2.1:=by rw[<-e];unfold putAt;by_cases c:y.1=k;(.rw[Ch];exact DL!);.rw[IR];exact DL!);rw[e1.1,e1.2];exact knd.keeps (keys y hy) g dat Hp!);.rw[storedH_old (atKey_of_get nd hj),keys_map_putAt];exact nd
def Ek(xs more:E7!):E7!:=more.foldl (λacc x=>n7! storedH acc) xs
theorem Nh(xs more:E7!){i:Nat}{x:K×Addr×Value}(h:more[i]?=B! x):Ek xs (more.take FB)=n7! storedH (Ek xs (more.take i)):=by unfold Ek;rw[List.take_succ,h,List.foldl_append];rfl
theorem Vy(xs:E7!)(k:K)(a:Addr)(v:Value):(storedH xs k a v).length<=xs.length+1:=by cases e:atKey xs k with | none=>rw[storedH_new e,ZE];exact At | some p=>rw[storedH_old e,ZA];exact E_ _
theorem Kf:∀(more xs:E7!),F5! Ek xs more (xs.length+more.length)
 | [],xs=>At
 | x::r,xs=>by have h1:Ws! Ek (storedH xs x.1 HY! x.2.2) _:=Kf r _;have h2:=n7! Vy xs;show Ws! Ek (storedH xs x.1 HY! x.2.2) (xs.length+(r.length+1));lia
theorem Py:∀(more xs:E7!),JC! (xs++more)->Ek xs more=xs++more
 | [],xs,_=>Ao! AH xs
 | x::r,xs,nd=>by (have e:atKey xs x.1=none:=by cases c:atKey xs x.1 with | none=>rfl | some p =>exfalso;unfold atKey at c;cases f:xs.find? (λy=>Du! y.1 x.1) with | none=>rw[f] at c;cases c | some y =>(have h1:y.1=x.1:=Ct! (DW f));have h2:=A_ f;rw[ZF,AK] at nd;exact nd.2.2 _ (BC h2) _ (BC (AV!)) h1);show Ek (n7! storedH xs) r=xs++x::r;rw[storedH_new e];(have e2:xs++[(x.1,HY!,x.2.2)]++r=xs++x::r:=dQ!);rw[Py r _ (P! e2 nd),e2]
theorem Y3{id:String}{d o:Addr}{xs more:E7!}{Q:I9!}(tm:Tame knd)(room:lj!)(ne:d≠o)(lo:AY! (o==sysModules))(hd:nK!)(ho:s.heap.DictOfH knd o more)(z:Av! (xs.length+more.length))(hh:xs=[]->gq! (λx=>knd.hash x.1))(q:∀h',ic! (Ek xs more)->Q4!->LR! ()):P7! Builtin.Dict.mergeDict id d o:=by
 obtain⟨od,esd,epd,gd,exd,aE,xY,JCe,ndd⟩:=_root_.id hd;obtain⟨oo,QC,epo,go,exo,VA,c_,a8,yq⟩:=_root_.id ho;have so:=JC c_;unfold Builtin.Dict.mergeDict Builtin.Dict.showsAll;rw[AD (by simpa using ne),fK! lo];refine X1! go VA;dsimp only;split;.refine ZR (CL gd aE ?_);split;(.rename_i em;(have ex:xs=[]:=by have h1:=JC xY;rw[JT.mp em] at h1;exact BJ.mp h1.symm);subst ex;have em':Ek [] more=more:=Py more [] yq;rw[em'] at q;refine ZR (Zf tm go VA c_ a8 (hh rfl) ?_);split;(·(have zz:QC.size<=sizeLine+1:=by rw[so];have:Av! (0+more.length):=z;lia);refine ZR (wpAny_updateDictKeysTo gd aE (ZS (q _ ⟨_,_,epd+1,H_ _ gd (NV (GK aE _)),exd.mapDictKeys _,GK aE _,c_,DP!,yq⟩ Hp!)) zz);exact knd.keeps (a8 x hx) gd aE Hp!);.rename_i nz;(have e0:more=[]:=by have:QC.size=0:=JT.mp (by simpa using nz);rw[so] at this;exact BJ.mp this);subst e0;exact ZS (q _ hd (Heap.SameBut.refl _ _)));.refine Md! EO go VA (CL go VA (ZR ?_));rw[VZ];simp only[Std.Legacy.Range.size,Nat.sub_zero,Nat.add_sub_cancel,Nat.div_one];refine VY _ (λrest _ s'=>∃h' j,s'=db/\rest=List.range' j (QC.size-j)/\j<=QC.size/\ic! (Ek xs (more.take j))/\Q4!) _ ?_ ?_ _ _ ⟨s.heap,0,rfl,B?,AZ!,hd,Heap.SameBut.refl _ _⟩;(.rintro i rest b s' ⟨h',j,rfl,hr,hj,XD,sb⟩;(have lt:S5!:=by by_cases c:S5!;(.exact c);.rw[Nat.sub_eq_zero_of_le (FY.mp c)] at hr;cases hr);(have er:i=j/\rest=List.range' (j+1) (QC.size-(j+1)):=by rw[oE!,OV] at hr;exact List.cons.inj hr);obtain⟨rfl,er⟩:=er;have go':H3! o oo:=fs! sb.2 go;obtain⟨x,hx⟩:=QT! more;refine lP! CL db go';rw[entry_at c_ i,hx];have kx:=knd.keeps (a8 x (ZP hx)) gd aE sb;(have zl:Av! (Ek xs (more.take i)).length:=by have h1:=Kf (more.take i) xs;(have h2:Vk! more.take<=more.length:=dh!);lia);refine A3! EG (sS! O0 room kx XD zl (λh2 hd2 lJ=>?_));have go2:z! h2.get? o oo:=fs! lJ.2 go';refine lP! EO pa! go2;rw[Ce!];exact ZS ⟨h2,i+1,rfl,er,lt,G! (Nh xs more hx) hd2,sb.trans lJ⟩);.rintro b s' ⟨h',j,rfl,hr,hj,XD,sb⟩;(have ej:j=QC.size:=by by_cases c:S5!;(.rw[oE!,OV] at hr;cases hr);.lia);rw[ej,so,BS] at XD;exact ZS (q h' XD sb)
 .refine Md! EO go VA (CL go VA (ZR ?_));rw[VZ];simp only[Std.Legacy.Range.size,Nat.sub_zero,Nat.add_sub_cancel,Nat.div_one];refine VY _ (λrest _ s'=>∃h' j,s'=db/\rest=List.range' j (QC.size-j)/\j<=QC.size/\ic! (Ek xs (more.take j))/\Q4!) _ ?_ ?_ _ _ ⟨s.heap,0,rfl,B?,AZ!,hd,Heap.SameBut.refl _ _⟩;(.rintro i rest b s' ⟨h',j,rfl,hr,hj,XD,sb⟩;(have lt:S5!:=by by_cases c:S5!;(.exact c);.rw[Nat.sub_eq_zero_of_le (FY.mp c)] at hr;cases hr);(have er:i=j/\rest=List.range' (j+1) (QC.size-(j+1)):=by rw[oE!,OV] at hr;exact List.cons.inj hr);obtain⟨rfl,er⟩:=er;have go':H3! o oo:=fs! sb.2 go;obtain⟨x,hx⟩:=QT! more;refine lP! CL db go';rw[entry_at c_ i,hx];have kx:=knd.keeps (a8 x (ZP hx)) gd aE sb;(have zl:Av! (Ek xs (more.take i)).length:=by have h1:=Kf (more.take i) xs;(have h2:Vk! more.take<=more.length:=dh!);lia);refine A3! EG (sS! O0 room kx XD zl (λh2 hd2 lJ=>?_));have go2:z! h2.get? o oo:=fs! lJ.2 go';refine lP! EO pa! go2;rw[Ce!];exact ZS ⟨h2,i+1,rfl,er,lt,G! (Nh xs more hx) hd2,sb.trans lJ⟩);.rintro b s' ⟨h',j,rfl,hr,hj,XD,sb⟩;(have ej:j=QC.size:=by by_cases c:S5!;(.rw[oE!,OV] at hr;cases hr);.lia);rw[ej,so,BS] at XD;exact ZS (q h' XD sb)
universe E
theorem Ye{prog:Program}{w:World}{K:Type}[DecidableEq K](knd:KeyKind prog w K):Tame (tupleKind knd):=λhk q=>by unfold Builtin.Dict.quietEq;exact ZR (wpAny_specialOf (IsTupleKey.typeIs hk) F.slot_tuple_eq.lookup (ZS (q _)))
def Lm(w:World)(k:Ds!):Int:=mJ! (k.map (Jkw w))
def Fk(kvs more:o0):o0:=more.foldl (λacc kv=>putK acc kv.1 kv.2) kvs
theorem Jes{more:o0}{ms:G2!}(p:KT H more ms):∀{kvs:o0} {xs:G2!},Gu!->KT H cx! (Ek xs ms):=by induction p with | nil=>exact id | @cons p q _ _ h t ih =>intro kvs xs r;have e:q.1=p.1:=h.1.symm;have r1:=KT.put r p.1 h.2.1 h.2.2;show KT H (Fk mt! _) (Ek (storedH xs q.1 D? GE) _);rw[e];exact ih r1
theorem Jg9{kvs:o0}{xs:G2!}(p:Gu!):(xs.map λx=>(tupleKind (Bq P w)).hash x.1)=kvs.map lN!:=kc! vK (EQ r.1)
theorem Px:∀(more kvs:o0),(Fk kvs more).length<=cy!
 | [],_=>At
 | q::r,kvs=>by have h1:Ws! Fk (putK kvs q.1 q.2) _:=Px r _;have h2:=Fg kvs q.1 q.2;show Ws! Fk (putK kvs q.1 q.2) (kvs.length+(r.length+1));lia
universe S
variable {X:Cx Kx}{AA:List (Addr×Obj)}{σ:L2.St}{H:Hp}{s:Shared}{A:Around}{E:Value->Shared->Prop}
theorem R7{id:String}{d o:Addr}{kvs more:o0}{Q:Uf PySem.Fin}(hu:Zu!)(I:K!)(ed:hp!)(eo:Hk! o .dT more)(ne:d≠o)(z:Av! cy!)(hh:kvs=[]->gq! (λq=>Lm X.w q.1))(q:∀s',AR! (Nw! d cx!) s'->Q lD! s'):Kn! (Builtin.Dict.updateFrom id d (K? o) [] KF):=by
 obtain⟨zd,ld,xs,rd,dd⟩:=Sj I.DM ed;obtain⟨zo,lo,ms,ro,dO⟩:=Lu I.DM eo;have l1:=L? rd;have l2:=L? ro;unfold Builtin.Dict.updateFrom;refine ZR (wpAny_typeOf dO.typeIs ?_);rw[Da!];refine I5!;unfold Builtin.Dict.merge Builtin.Dict.readDirectly;refine A3! ZR (wpAny_isInstance dO.typeIs isSubtype_dict_dict ?_);simp only[Bool.not_true,CY,EV];refine ZR (wpAny_specialOf dO.typeIs F.slot_dict_iter.lookup (ZS ?_));simp only[beq_self_eq_true,JW];refine A3! ZS (Y3 (Ye _) hu ne lo dd dO C! (Up!) λh' cD sb=>?_);.rw[Jg9 ro];refine hh ?_;rw[e] at l1;exact BJ.mp l1
 .obtain⟨ob,es,ep,g,h2,h3,h4,_,h5⟩:=cD;(have I':AR! (Nw! d cx!) db:=by refine Jr (t':=s.toks) I (P! ed True.intro) sb ⟨ob,g⟩ ⟨?_,ld,_,(Jes ro rd).keeps λc ys ec=>?_,ob,es,ep,g,h2,h3,h4,h5⟩;(.have:=Px more kvs;exact mi!);.rw[Ac (Fl ec ed (λz=>ce!))];exact ec);show Wn! (Builtin.Dict.addKeywords d [] >>= _);exact QE! ZS (q _ I')
universe E
universe S
variable {X:Cx Kx}
inductive Jkm(w:World)(x:V)(vs:E!)(H:Hp)(Q:VK):Prop
 | mk (d o:Addr) (kvs more:o0) (_:x=DD!) (_:vs=[l! o]) (_:hp!) (_:Hk! o .dT more) (_:d≠o) (_:Av! cy!) (_:(kvs=[]->gq! lN!)) (_:Q .FC (Nw! d cx!))
theorem Jg0(hu:FJ!):nG X "dict.update" (Jkm X.w):=by intro AA s σ H x vs v us Q I rx rv h;obtain⟨d,o,kvs,more,rfl,rfl,ed,eo,ne,z,hh,q⟩:=h;cases rx;obtain⟨u,rfl,ru⟩:=rv.one;cases ru;obtain⟨_,_,xs,rd,dd⟩:=Sj I.DM ed;refine DG PySem.F.slot_dict_update dd.typeIs PySem.F.entry_dict_update ?_ (PySem.F.args_dict_update_2 _ _);unfold Builtin.«dict.update» Builtin.Dict.selfAndRest;refine iB! HZ dd.typeIs;exact R7 (id:="dict.update") (Eq! (X.A.in1.units<cLine) (ET (knd:=Bq X.prog X.w) hu)) I ed eo ne z hh λs' I'=>Hj! .FC _ I' rfl q
inductive X8(w:World)(xs:E!)(H:Hp)(Q:VK):Prop
 | mk (o:Addr) (more:o0) (_:xs=[l! o]) (_:b? H o .dT more) (_:gq! lN!) (_:MZ! (Nw! p (Fk [] more)))
theorem Zh(hu:JV!):Ga X (B9! "dict") (X8 X.w):=by
 intro AA s σ H xs us Q I r h;obtain⟨o,more,rfl,eo,hh,q⟩:=h;obtain⟨u,rfl,rx⟩:=JJ!;cases rx;refine callType_codes (Q₁:=λobj D_=>obj=l! s.heap.objs.size/\D_=FQ! (GK! oM!)) F.kt_called_dict (F.kt_typeCall_dict_1 _) F.entry_dict_init (kt_code_dict_new _ DL!) ?_;rintro obj D_ ⟨rfl,rfl⟩;have hn:PS!:=L3!;have I1:=sR! I.laid s.heap.objs.size (.dT []) (λ_ _ z=>ZT _ z) (mH! Xx);have e1:b? (Nw! s.heap.objs.size []) s.heap.objs.size .dT []:=Ab;obtain⟨_,_,xs,rd,dd⟩:=Sj I1.DM e1;refine Go dd.typeIs (F.args_dict_init_2 _ _);unfold Builtin.«dict.__init__» Builtin.Dict.selfAndRest;refine iB! HZ dd.typeIs;have ne:s.heap.objs.size≠o:=λz=>by rw[<-z,hn] at eo;cases eo
 have eo1:b? (Nw! s.heap.objs.size []) o .dT more:=i! ne.symm eo
 obtain⟨zo,_⟩:=Sj I.DM eo;have l_:X.A.in1.in1.units<cLine:=by (have h1:X.A.in1.in1.units=X.A.units+1+1:=by first|rfl|simp[units_in1]);lia
 exact R7 (id:="dict.__init__") l_ I1 e1 (A1! eo1) ne (DG! BX) (λ_=>hh) λs' I'=>⟨rfl,l! s.heap.objs.size,_,by rw[Sx] at I';exact I',rfl,q _ hn⟩
universe E
def hN(a b:Nat):Int:=mJ! [jI! a,jI! b]
theorem Hy{as:S!}{bs:BA!}(p:me!){a:α}{b:β}(r:R a b):Paired R (as++[a]) (bs++[b]):=Qx p (q! r O!)
theorem Nm{α:Type}(b:Pl!){ts:S!}{i:Nat}{t:α}(h:hV!):(ts.take (i+1)).filter b=Yh! b++Wi! (b t=true) [t]:=by rw[List.take_succ,h,FD];cases e:b t<;>simp[e]
theorem Ih(b:Pl!)(ts:S!)(i:Nat):o? Yh! b<=ts.length:=Ih!
inductive GZ(p:Addr)(b:GN! T2)(ts:D!)(H:Hp)(i:Nat)(ys:E!)(H2:Hp):Prop
 | mk (bs:J!) (_:ys=Dy! bs.map) (_:OC!) (_:bK!) (_:nR! Yh!)
universe S
variable {p:Addr}{b:T2->Bool}{ts:List T2}{H:Hp}{tt:TT}{caps:List (Str×Nat)}{σ:L2.St}{Q:Hp->Prop}
theorem GZ.start(hp:No!):GZ p b ts H 0 [] ra!:=F3! [] (Ah hp) Ab O!
theorem GZ.turn(hp:No!)(hz:d7!)(ht:pb! NR!){i:Nat}{ys:E!}{H2:Hp}{a:Addr}{t:T2}{N:Ew!}(pv:k9! i H2)(hi:hV!)(ha:rL! H2 a t)(n:∀ys H',k9! FB H'->N ys H') : tt (al! EC!) H2 λc H4=>dF! (oo! EC! oX!) (N ys H4):=by
 obtain⟨bs,ey,sm,FE,th⟩:=pv;have e1:=Nm b hi;have ln:ys.length<=ts.length:=by rw[ey,ZA,Cf!];exact Ih b ts i
 refine ht H2 a t _ sm ha (ZP hi) ?_;cases c:b t with | false =>rw[c] at e1;rw[Da!];exact n ys H2 ⟨bs,ey,sm,FE,by rw[e1];simpa using th⟩ | true =>rw[c,e?] at e1;rw[e?];(have s2:An! (FX! H2 p (ys++[N8!])):=λd o e=>tJ! hp (sm d o e));(have kt:BM H2 (FX! H2 p (ys++[N8!])):=Ag! FE);refine Aj! rfl FE Td! (F! n ⟨bs++[a],Tu! ey,s2,Ab,?_⟩);rw[e1];exact Hy (AX.keep kt th) (v! kt.BG ha)
theorem Hk{K:W.Frag}{l:Addr}{as:J!}(hp:No!)(hz:d7!)(hl:Qe!)(th:AO!)(ht:pb! NR!)(k:∀(H2:Hp) (bs:J!),OC!->fv! H2 p->nR! ts.filter->ET!) : Rh! (Ob! (Mx! (cg K l).stop ET! (cg K l).go (cg K l).aP (SA! (oo! (B! x) sX!)))):=by
 have lt:=Cf!;refine Fs (K:=K) (a:=l) (p:=p) (xs:=JN!) (caps:=caps) (λi ys H2=>k9! i H2) (GZ.start hp) (λi ys H2 _ pv=>?_) (λi x ys H2 N hx pv n=>?_) λys H2 pv=>?_;.obtain⟨bs,_,sm,FE,_⟩:=pv;exact Uh! sm hl FE
 .rw[ZH] at hx;cases ea:OL! with | none=>rw[ea] at hx;cases hx | some a =>rw[ea] at hx;have hx:d6!:=ZO hx;subst hx;obtain⟨t,et⟩:=ni!;have ha:=op! et;obtain⟨bs,e0,sm,FE,NB⟩:=id pv;exact GZ.turn hp hz ht pv et (v! sm ha) n
 .obtain⟨bs,ey,sm,FE,NB⟩:=pv;rw[ZA,lt,BS] at NB;exact k H2 bs sm (N? ey FE) NB
theorem My{α:Type}{d:Addr}{l:S!}{key:Bf!}{val:FD!}{ob:Obj}(hp:No!)(hz:l.length<=900)(hd:GD! (.GB ob (.dT (l.map mz!))))(ht:pb! (t∈l.map key))(k:∀(H2:Hp) (bs:J!),OC!->fv! H2 p->nR! (l.map key).filter->ET!) : Rh! (Ob! (Mx! (f9 d (C6! mz!) ob).stop ET! (f9 d (C6! mz!) ob).go (f9 d (C6! mz!) ob).aP (SA! (oo! (B! x) sX!)))):=by
 have hz':D6! l.map key 900:=Oj! hz
 refine Go (λi m ys H2=>m=l.length-i/\i<=l.length/\GZ p b (C6! key) H i ys H2) ⟨l.length,B?,AZ!,GZ.start hp⟩;rintro i m ys H2 ⟨rfl,hi,pv⟩;obtain⟨bs,ey,sm,FE,NB⟩:=id pv;have hd2:=F! sm hd;refine d? FE;by_cases JK:i<l.length;.refine fb! (HS! hd2 ZA JK);obtain⟨e,a,kk,v,ex,ek,ha⟩:=y;subst e ex;rw[ZH] at ek;obtain⟨q,hq⟩:=An JK;rw[hq] at ek;have ek:(tk (key q),val q)=(kk,v):=ZO ek;have e1:kk=tk (key q):=(Prod.mk.inj ek).1.symm;rw[e1,vS] at ha;exact GZ.turn (N:=oF! (l.length-i) (l.length-FB) (i+1<=l.length) (GZ p b (C6! key) H FB zs H')) hp hz' ht pv (UY! hq) ha pC!
 ·(have e:i=l.length:=A!);subst e;refine H! (d? (HS! hd2 ZA At));(have e2:(l.map key).take l.length=l.map key:=NF! (ZA (f:=key)) BS);rw[e2] at NB;exact k H2 bs sm (N? ey FE) NB
universe E
def LC(nx:T2->D!):Nat->D!->wE D! D!
 | 0,ahead,found,R=>ahead=[]/\R=found
 | n+1,ahead,found,R=>∃a t,ahead=a++[t]/\((t∈found/\LC nx n a found R)\/(t∉found/\LC nx n (a++nx t) (HH!) R))
theorem LC.len:d8! (Yz!->ahead.length<=n)
 | 0,_,_,_,h=>G! h.1 At
 | n+1,_,_,_,⟨a,t,e,h⟩=>by rw[e,ZE];rcases h with⟨_,h⟩|⟨_,h⟩;(.have:=h.len;show d9!<=n+1;exact Pw!);.have:=h.len;rw[ZE] at this;show d9!<=n+1;lia
theorem LC.sub:d8! (Yz!->(∀t∈found,A7!)/\ap! A7!)
 | 0,_,_,_,h=>aq! h.1 h.2 ⟨λ_ z=>z,λ_ z=>sw z⟩
 | n+1,_,_,_,⟨a,t,e,h⟩=>by rw[e];rcases h with⟨ht,h⟩|⟨_,h⟩;(.refine⟨h.sub.1,Ii!⟩;rcases Iz! with hu|hu;(.exact h.sub.2 u hu);·(have:u=t:=UL!);rw[this];exact A6! h.sub.1);.refine⟨Ov! h.sub.1 fn!,Ii!⟩;rcases Iz! with hu|hu;(.exact h.sub.2 u fn!);.exact h.sub.1 u (ZC _ hu)
theorem LC.closed:d8! (Yz!->(∀t∈found,∀u∈nx t,u∈found\/u∈ahead)->∀t∈R,∀u∈nx t,u∈R)
 | 0,_,_,_,h,c=>by rw[h.2];rw[h.1] at c;exact λt ht u hu=>(c t ht u hu).elim id D9!
 | n+1,_,found,_,⟨a,t,e,h⟩,c=>by rw[e] at c;rcases h with⟨ht,h⟩|⟨_,h⟩;(.refine h.closed λs hs u hu=>?_;rcases c s hs u hu with z|z;(.exact H! z);.rcases ZI z with z|z;(.exact LO!);·(have:u=t:=aW!);rw[this];exact H! ht);.refine h.closed λs hs u hu=>?_;rcases ZI hs with hs|hs;(.rcases c s hs u hu with z|z;(.exact H! (ZB _ z));.rcases ZI z with z|z;(.exact N! (ZB _ z));.exact H! (ZC _ z));·(have:s=t:=by simpa using hs);rw[this] at hu;exact N! (ZC _ hu)
theorem LC.least{nx:T2->D!}{S:J?}(cl:∀t,S t->∀u∈nx t,S u):d8! (Yz!->(∀t∈found,S t)->(ap! (S t))->∀t∈R,S t)
 | 0,_,_,_,h,f,_=>G! h.2 f
 | n+1,_,_,_,⟨a,t,e,h⟩,f,g=>by rw[e] at g;have gt:=g t (ZC _ XV);rcases h with⟨ht,h⟩|⟨_,h⟩;(.exact h.least cl f (Ov! g fn!));.refine h.least cl (Ii!) Ii!;(.rcases Iz! with hu|hu;(.exact f u hu);·(have:u=t:=UL!);rw[this];exact gt);.rcases Iz! with hu|hu;(.exact g u fn!);.exact cl t gt u hu
theorem J9:in! (l≠[]) (∃a t,l=a++[t])
 | [],h=>gM!
 | [x],_=>GO! [] x
 | x::y::l,_=>by obtain⟨a,t,e⟩:=J9 (l:=y::l) XV;exact⟨x::a,t,EQ e⟩
theorem LC.ex{nx:T2->D!}{keys:D!}{B:Nat}(sub:∀t,∀u∈nx t,u∈keys)(sz:∀t,o? nx t<=B):∀(m:Nat)(ahead found:D!),(ap! (t∈keys))->o? keys.filter (BO! (t∉found))*(B+1)+ahead.length<=m->∃n R,n<=m/\Yz!
 | m,ahead,found,ha,hm=>by by_cases e:ahead=[];(.exact⟨0,found,AZ!,e,rfl⟩);obtain⟨a,t,ea⟩:=J9 e;(have l1:ahead.length=d9!:=Cx! ea ZE);have uQ:∀u∈a,u∈keys:=Ov! ha (P! ea (j? hu));have ht:t∈keys:=ha t (P! ea fg!);match m,hm with | 0,hm=>exact ga hm C! | m+1,hm =>by_cases hf:t∈found;(.obtain⟨n,R,h1,h2⟩:=LC.ex sub sz m a found uQ C!;exact⟨n+1,R,FS! Pw!,a,t,ea,Am! hf h2⟩);·(have lt:Yf! eA!<Yf! (u∉found):=by (have e1:(keys.filter (HU! eA!))=(keys.filter (HU! (u∉found))).filter (HU! (u≠t)):=by rw[List.filter_filter];refine IX λu _=>?_;by_cases c1:u∈found<;>by_cases c2:u=t<;>simp[c1,c2]);rw[e1];refine List.length_filter_lt_length_iff_exists.mpr ⟨t,CV! ht (by simpa using hf),B?⟩);have l2:=sz t;(have key:Yf! eA!*(B+1)+By! (a++nx t)<=m:=by rw[ZE];have:(Yf! eA!+1)*(B+1)<=Yf! (u∉found)*(B+1):=FU _ lt;rw[Nat.add_mul,Nat.one_mul] at this;lia);obtain⟨n,R,h1,h2⟩:=LC.ex sub sz m (a++nx t) Nk! (λu hu=>(ZI hu).elim (uQ u) (sub t u)) key;exact⟨n+1,R,FS! Pw!,a,t,ea,c? hf h2⟩
def OL(hl:HL)(t:T2):D!:=(Ck hl t).filter (HU! d5!)
def J5(G:BV):D!:=OY! iO! Wl!
def startT(G:BV):D!:=OY! (G.hand++J5 G).filter Vg!
def keepR(G:BV)(R:D!):BV:={ G with AF:=HD! G.AF.filter In!,holds:=HD! G.holds.filter In! }
def Bi(G:BV)(t:T2):Bool:=a? CN! || Fl! G.holds.any bl!
def GO(G:BV):BV:=as! (G.AJ.filter λq=>Bi G q.1)
universe S
theorem Qg(s:hl.Sublist G.holds):(BL { G with holds:=hl }).Sublist (BL G):=by unfold BL;exact((((s.map _).cons₂ _).cons₂ _).cons₂ _).cons₂ _
theorem AU.YD(x:Z?){hl:HL}(s:hl.Sublist G.holds):bF! G.l E7 hl { G with holds:=hl }:=d0! G.l (lK! a2 b1 Ab (Vc! c1.symm) (dy! (d1 q (s.subset hq)).2.2.1 (x.hl q (s.subset hq))) (x.nd.sublist (Qg s)))
universe E
theorem Je7{d:Addr}{kvs:o0}{ob:Obj}{g:TG}{tb:TS}{D:Ends}{σ:L2.St}{H:Hp}(Pv:Nat->La!)(h0:WP!)(hf:Uz! qH! (GD! (.GB ob (.dT kvs))))(hs:∀i a k v σ H,MT! Si!->ja! k.map->rG!->Z7! PP)(hd:ZE! kvs.length) : Yw! La! (UR! (SS! (f9 d kvs ob).stop (f9 d kvs ob).go La! (f9 d kvs ob).aP)):=by
 refine Zj! (kvs.length-i) qH! kvs.length;rintro i m σ H ⟨rfl,hi,pv⟩;have fz:=hf i σ H hi pv;by_cases JK:hz!;.refine aL! ⟨fz,JK⟩ (kvs.length-FB);obtain⟨e,a,k,v,ex,ek,ha⟩:=y;subst e ex;exact hs i a k v σ _ ek ha pv
 ·(have e:i=kvs.length:=A!);subst e;exact WI! ⟨fz,At⟩ pv
def E6(l m:D!):D!:=m.foldl B4 l
theorem P1:∀{m l:D!} {t:T2},t∈E6 l m↔C1!\/t∈m
 | [],l,t=>by simp[E6]
 | u::m,l,t=>by show t∈E6 (B4 l u) m↔_;rw[P1,DL,CM,or_assoc]
theorem Qu:∀(m l:D!),F5! E6 l m (l.length+m.length)
 | [],l=>At
 | u::m,l=>by have h1:F5! E6 (B4 l u) m _:=Qu m (B4 l u);have h2:=Jp l u;show F5! E6 (B4 l u) m (l.length+(m.length+1));lia
theorem Qt:∀(m l:D!),(l++m).Nodup->E6 l m=l++m
 | [],l,_=>Ao! AH l
 | u::m,l,nd=>by (have nu:u∉l:=λz=>by rw[AK] at nd;exact nd.2.2 u z u (AV!) rfl);(have e2:l++[u]++m=l++u::m:=dQ!);show E6 (B4 l u) m=_;(have e3:B4 l u=l++[u]:=by unfold B4;rw[AD nu]);rw[e3,Qt m _ (P! e2 nd),e2]
theorem I0:∀(m l:D!),Fk (l.map Bj!) (m.map Bj!)=(E6 l m).map Bj!
 | [],l=>rfl
 | u::m,l=>p8! (Fk (putK (C6! Bj!) (tk u) cO!) (m.map Bj!)=_) Fo (I0 m (B4 l u))
theorem Ni{α:Type}{l:S!}{k:Bf!}{f:FD!}{t:T2}:((l.find? (AS! (k q=t))).map f).isSome=a? (t∈l.map k):=Ih!
theorem Mu{H:Hp}{d a:Addr}{α:Type}{l:S!}{k:Bf!}{f:FD!}{t:T2}(hd:Zc! l.map J2!)(ha:XT!):∃o,DV H d PP o/\o.isSome=a? (t∈l.map k) :=Az! (N! ⟨_,tk t,a,hd,rfl,ha,rfl⟩) (G! Eb Ni)
theorem Jae(a:S!)(t:α):(a++[t])[By! (a++[t])-1]?=B! t:=BH! ZE
theorem Vs(th:AX H as (a++[t])):∃(bs:J!)(c:Addr),as=bs++[c]/\AX H bs a/\qD! c t:=by
 have hl:=Cf!;have ne:as≠[]:=λz=>by rw[z] at hl;simp at hl
 obtain⟨bs,c,e⟩:=J9 ne;subst e;have l2:bs.length=a.length:=by rw[ZE,ZE] at hl;simpa using hl
 refine⟨bs,c,rfl,?_,?_⟩;·(have go:∀{xs:J!} {ys:D!} {x:Addr} {y:T2},xs.length=ys.length->AX H (xs++[x]) (ys++[y])->AX H xs ys:=by intro xs;induction xs with | nil=>intro ys x y h _;(cases ys with | nil=>exact O! | cons _ _=>simp at h) | cons x0 xs ih=>intro ys x y h q;cases ys with | nil=>simp at h | cons y0 ys =>cases q with | cons h1 q=>exact q! h1 (ih (x?) q));exact go l2 th
 .exact Ax th bs.length c t XV (BH! l2)
theorem N4{as:J!}{ts:D!}{bs:J!}{us:D!}(p:AO!)(q:AX H bs us):AX H (as++bs) (ts++us):=Qx p q
theorem Fj{α:Type}(k:Bf!)(l:S!){ts:D!}{i:Nat}{t:T2}(h:hV!):Vb! (bT! l.filter (k q∉Ff! ts.take)) (l.filter (AS! (k q∉ts.take i))).filter U4!:=by rw[List.filter_filter,List.take_succ,h];refine IX λq _=>?_;by_cases c1:k q∈ts.take i<;>by_cases c2:k q=t<;>simp[c1,c2]
theorem Dh(k:Bf!)(l:S!)(f:GN! T2):(l.filter λq=>f (k q)).map k=(l.map k).filter f:=EQ QL
theorem Gj{α:Type}{l:S!}{k:Bf!}{f:FD!}{t:T2}(h:t∈l.map k):∃v,kx! J2!=B! v:=by rw[Eb];have:=Ni (l:=l) (k:=k) (f:=f) (t:=t);rw[PK!] at this;exact Option.isSome_iff_exists.mp this
def Am(G:BV)(ts:D!):BV:={ G with AF:=HD! G.AF.filter Hz!,holds:=HD! G.holds.filter Hz! }
theorem Qn(G:BV):Am G []=G:=by
 have a1:HD! G.AF.filter (q.1∉Pu!)=G.AF:=EX.mpr λq _=>B?
 have a2:HD! G.holds.filter (q.1∉Pu!)=G.holds:=EX.mpr λq _=>B?
 unfold Am;rw[a1,a2]
theorem GF{α:Type}{k:Bf!}{l:S!}(nd:Oe! k){q:α}(hq:q∈l):l.find? (Et! (k r=k q))=B! q:=by cases e:l.find? (Et! (k r=k q)) with | none=>have:=nS!;simp at this | some r =>(have h1:k r=k q:=Uv!);rw[Fy nd (A_ e) hq h1]
def C4(hand:D!)(qs:HL):D!:=qs.foldl (λl q=>E6 l GE) hand
theorem JD:∀{qs:HL} {hand:D!} {t:T2},t∈C4 hand qs↔t∈hand\/∃q∈qs,bl!
 | [],hand,t=>by simp[C4]
 | q::qs,hand,t=>by show t∈C4 (E6 hand GE) qs↔_;rw[JD,P1,or_assoc];simp
theorem Nj:∀{qs:HL} {hand:D!},(au! (q.2.2.length<=B))->F5! C4 hand qs (hand.length+qs.length*B)
 | [],hand,_=>by simp[C4]
 | q::qs,hand,h=>by have h1:F5! C4 (E6 hand GE) qs _:=Nj (CE! (h r (wn hr)));have h2:=Qu GE hand;have h3:=Cj! q;show F5! C4 (E6 hand GE) qs (hand.length+(qs.length+1)*B);rw[Nat.add_mul,Nat.one_mul];lia
theorem Vd(hand:D!){qs:HL}{i:Nat}{q:T2×Addr×D!}(h:qs[i]?=B! q):C4 hand (qs.take FB)=E6 (C4 hand (qs.take i)) GE:=by unfold C4;rw[List.take_succ,h,List.foldl_append];rfl
theorem Jb8(G:BV)(t:T2):(decide (nw!))=Bi G t:=by
 unfold Bi;by_cases h:nw!;.rw[PK!];rcases JD.mp h with h|⟨q,hq,h⟩;(.simp[h]);.have:dA! G.holds.any:=JS.mpr ⟨q,hq,x?⟩;rw[this];simp
 .rw[VX!];have h1:t∉G.hand:=λz=>h (JD.mpr (P? z));(have h2:i? (bT! G.holds.any bl!):=by rw[List.any_eq_false];intro q hq z;exact h (JD.mpr (y! (NQ! aW!))));simp[h1,h2]
theorem Vg{α:Type}{b:Pl!}{ts:S!}{i:Nat}{t:α}(h:hV!):(ts.take (i+1)).filter b=Yh! b++Wi! (b t=true) [t]:=Nm b h
theorem Ms(b:Pl!)(ts:S!)(i:Nat):o? Yh! b<=ts.length:=Ih b ts i
theorem Ng:∀{l:S!} {i:Nat} {t:α},l.Nodup->l[i]?=B! t->t∉l.take i
 | [],_,_,_,h=>Cu!
 | x::l,0,t,_,_=>B?
 | x::l,i+1,t,nd,h=>by have nd:=Bg!;(have h:l[i]?=B! t:=x?);rw[List.take_succ_cons];intro z;rcases ZM z with z|z;(.exact nd.1 (qM! (ZP h)));.exact Ng nd.2 h z
def IF(H:Hp):et! T!:=Ky! (λa q=>∃c,L1! [l! c,R! q.2]/\qD! c q.1)
theorem IF.keep(k:u?)(x:IF H as bs):IF H' as bs:=f6! (by obtain⟨c,e1,e2⟩:=h9;exact⟨c,Nv! e1,XD!⟩) x
theorem Jaf{H:Hp}{val:T2->V}:∀{l:D!} {as:J!},qz H (C6! (λq=>(tk q,val q))) as->AX H as l
 | [],as,h=>by cases h;exact O!
 | t::l,as,h=>by cases h with | cons h1 h2=>exact q! (N? vS h1) (Jaf h2)
theorem Se{α:Type}(k:Bf!){l:S!}{ks R:D!}(h:∀q∈l,k q∈ks):Vb! (bT! l.filter (k q∉OY! ks.filter KR!)) l.filter (k q∈R):=IX (TD (by by_cases c:k q∈R;(·(have:k q∉OY! ks.filter KR!:=λz=>by have:=OB! z;simp[c] at this);simp[c]);.have:k q∈OY! ks.filter KR!:=CV! (h q hq) NV!;simp[c,h q hq]))
theorem Vk{G:BV}{R:D!}(ke:kw!):Am G (b8! iO! KR!)=YG!:=by
 have h1:=Se (Ab!) (l:=G.AF) (ks:=CO!) (R:=R) (TD (BC hq));have h2:=Se (DC!) (l:=G.holds) (ks:=CO!) (R:=R) (TD (N? ke (BC hq)))
 unfold Am keepR;rw[h1,h2]
theorem Jn2(ts:D!)(h:b∈BL q?):K4!:=by have:(BL q?).Sublist (BL G):=Qg (G:=qF! (Am G ts).AF) EW;exact this.subset h
universe S
theorem Jdr(h:eD!)(v:Int):Bh l t v=l++[(t,v)]:=by unfold Bh;rw[BC!]
theorem E5(h:eD!):IE!=0:=by unfold Ai;rw[Zp! (¬z?) h];rfl
universe E
theorem Jhr(h:(BL G).Nodup):DI! G.holds.map FR!:=by unfold BL at h;simp only[AZ] at h;exact h.2.2.2.2
universe S
variable {p:Addr}{H H':Hp}{G:BV}
universe E
universe S
variable {G M:BV}{n:Nat}{R:List T2}
theorem Ji3(ok:f?){q:T2×Addr×D!}(hq:q∈G.holds){t:T2}(ht:bl!)(e:Vg!):t∈OL G.holds q.1:=by
 have nd:fc!:=G! ok.ke ok.on
 have f:=GF (k:=DC!) nd hq;have:Ck G.holds q.1=GE:=ad! f
 unfold OL;rw[this];exact CV! ht Eb!
theorem Ok.keepR(ok:f?)(st:∀t∈startT G,A7!)(cl:∀t∈R,∀u∈OL G.holds t,u∈R):Ok (FX.keepR G R) n:=by
 have mem:∀t,BV!->A7!->AT! (G.AF.filter (AS! In!)).map:=λt h1 h2=>G! (nU! V9!) (CV! h1 V7!)
 have sub:∀t,AT! (G.AF.filter (AS! In!)).map->BV!:=Es! (Hl! h);refine⟨ok.hn,ok.hz,ok.on.sublist (List.filter_sublist.map _),Ja! ok.oz,?_,ok.rn,ok.rz,YF! ok.ln,h? (ok.new t (sub t ht)),LC!,λq hq t ht e=>?_,ok.rk⟩;.show m5! In! In!;rw[Dh (DC!) G.holds (V9!),nU! V9!,ok.ke]
 .have h1:=ok.hk t ht e;refine mem t h1 (st t ?_);unfold startT;exact CV! (j? ht) (by rw[ok.ke];simpa using h1)
 .obtain⟨gb,gZ⟩:=AB.mp hq;have h1:=ok.lk q gb t ht e;exact mem t h1 (cl q.1 (by simpa using gZ) t (Ji3 ok gb ht (P! ok.ke h1)))
theorem Ok.GO(ok:f?):Ok (FX.GO G) n :=⟨ok.hn,ok.hz,ok.on,ok.oz,ok.ke,ok.rn.sublist (List.filter_sublist.map _),Ja! ok.rz,ok.ln,ok.new,ok.hk,ok.lk,XZ! ok.rk Hl!⟩
theorem Jbb(G:BV):∀t∈startT G,Vg!:=h? kW!
theorem Jek(hl:HL)(t:T2):∀u∈OL hl t,d5!:=λu hu=>aR! (OB! hu)
universe E
universe S
universe E
universe S
universe E
theorem Oy(h:n<=100000):n<sizeLine:=TI! GW h
def jm:GN! d!
 | []=>true
 | [_]=>true
 | x::y::l=>a? (x<y)&&jm (y::l)
theorem Jcr:∀{l:d!} {x:Int},jm (x::l)=true->∀y∈l,x<y
 | [],_,_,y,hy=>by simp at hy
 | z::l,x,h,y,hy=>by unfold jm at h;rw[HY] at h;have h1:=BK h.1;rcases ZM hy with rfl|hy;(.exact h1);.exact Int.lt_trans h1 (Jcr h.2 y hy)
theorem Jcq:∀{l:d!},Ix jm l->l.Nodup
 | [],_=>CU
 | [x],_=>B?
 | x::y::l,h=>by have h':=h;unfold jm at h';rw[HY] at h';exact AZ.mpr ⟨λm=>Int.lt_irrefl _ (Jcr h x m),Jcq h'.2⟩
def hZ:BM! (Nat×Nat):=(List.range 12).flatMap λn=>WY! 60 (λj=>(n,j))
def dQ:d!:=hZ.map λp=>hN p.1 p.2
def rC(x:Int):d!->d!
 | []=>[x]
 | y::l=>sB (x<y) (x::y::l) (y::rC x l)
theorem R1(x:Int):∀l:d!,(rC x l).Perm (x::l)
 | []=>bo!
 | y::l=>by unfold rC;split;(.exact bo!);.exact((R1 x l).cons y).trans (List.Perm.swap x y l)
def rE:d!->d!
 | []=>[]
 | x::l=>rC x (rE l)
theorem Ri:∀l:d!,(rE l).Perm l
 | []=>bo!
 | x::l=>(R1 x (rE l)).trans ((Ri l).cons x)
theorem Jgh:jm (rE dQ)=true:=ZV
theorem Jgi:dQ.Nodup:=(Ri dQ).nodup_iff.mp (Jcq Jgh)
def Y'(t:T2):Prop:=0<=t.1/\t.1<12/\0<=t.2/\t.2<60
theorem Jb9(ht:Y' t)(hu:Y' u)(e:Lm w (tk t)=Lm w (tk u)):t=u:=by
 have qU:∀v:T2,0<=v.1->0<=v.2->Lm w (tk v)=hN dc! dd!:=λv h1 h2=>by show mJ! [hashInt v.1,hashInt v.2]=mJ! [jI! dc!,jI! dd!];rw[BW h1,BW h2]
 obtain⟨a0,a1,a2,a3⟩:=ht;obtain⟨b0,b1,b2,b3⟩:=hu;rw[qU t a0 a2,qU u b0 b2] at e;have m:∀v:T2,0<=v.1->v.1<12->0<=v.2->v.2<60->(dc!,dd!)∈hZ:=λv h0 h1 h2 h3 =>DS.mpr ⟨dc!,fU!,Ku! dd! fU!⟩;have:=Fy (f:=λp:Nat×Nat=>hN p.1 p.2) Jgi (m t a0 a1 a2 a3) (m u b0 b1 b2 b3) e;have e1:=congrArg Prod.fst this;have e2:=congrArg Prod.snd this;simp only at e1 e2;exact H7! Prod.ext C!
theorem Xq:∀{ts:D!},ts.Nodup->(∀t∈ts,Y' t)->DI! ts.map (λt=>Lm w (tk t))
 | [],_,_=>CU
 | t::ts,nd,hr=>by have nd:=Bg!;refine AZ.mpr ⟨Ij!,Xq nd.2 (Ov! hr (wn hu))⟩;obtain⟨u,hu,e⟩:=BD!;exact nd.1 ((Jb9 (hr t En!) (hr u (ZD _ hu)) e.symm)▸hu)
theorem Qb{w:World}{l:D!}(nd:l.Nodup)(hr:∀t∈l,Y' t):((l.map Bj!).map lN!).Nodup:=G! AQ (Xq nd hr)
def Jfo(o:Obj):Prop:=Uu!/\o.dict=none/\∃xs k,o.data=.seq xs k
universe S
inductive N1(K:W.Frag)(xs:E!)(H:Hp)(Q:VK):Prop
 | mk p ys (_:hK!) (_:DO K H p ys) (_:∀l o,FB!->Jfo o->am l (upd H l (.GB o (.BG ys))))
theorem Qq{X:I!}:Ga X (B9! Cs!) (N1 Kx):=by intro AA s σ H xs us Q I r h;obtain⟨p,ys,rfl,hq,q⟩:=h;obtain⟨u,rfl,rx⟩:=JJ!;cases rx;obtain⟨its,r',pl,hz⟩:=JD!;have hlen:=r'.length;refine call_tuple_list pl.isList (λh' kp=>?_) (c2!);have I1:LT!:=I.kept (t':=s.toks) kp;have I2:r7! h'.objs.size (.GB (XH! its.toArray) (.BG ys)) (FQ! (h'.push (XH! its.toArray))) :=oB! I1.laid s.toks (Hu!) (DT X.prog X.w _ _ _ (.GB _ (.BG ys))) ⟨CS!,hz,its,r',IsTup.new _ _⟩;exact Te! h'.objs.size _ I2 (h! q X7! (Wp! _ _ rfl))
universe E
universe S
universe E
universe S
universe E
universe S
variable {X:Cx Kx}
universe E
universe E FX
universe N K65
open PySem L2 FX
def top(i:Nat):Stmt:=PySem.Challenge.pw_farhold_k65_whole_still_houses.main.body.getD i (.Pass ⟨0,0,0,0⟩)
abbrev V9:Stmt:=SC 0
abbrev V7:Stmt:=SC 1
abbrev Wa:Stmt:=SC 2
abbrev Jni:Stmt:=SC 3
abbrev Jnh:Stmt:=SC 4
abbrev Wb:Stmt:=SC 5
abbrev V6:Stmt:=SC 6
abbrev Wc:Stmt:=SC 7
abbrev Pb:Stmt:=SC 8
abbrev O9:Stmt:=SC 9
abbrev K3:Stmt:=SC 10
abbrev V5:Stmt:=SC 13
abbrev Mf:Stmt:=SC 14
abbrev V4:Stmt:=SC 15
abbrev Nd:Stmt:=SC 16
abbrev Ka:Stmt:=SC 18
abbrev O5:Stmt:=SC 19
abbrev Jlq:Stmt:=SC 20
abbrev O3:Stmt:=SC 21
abbrev Rl:Stmt:=SC 22
abbrev Z3:Stmt:=top 25
abbrev Jj:Stmt:=top 12
abbrev Fd:Stmt:=top 10
abbrev Fw:Stmt:=top 16
abbrev G8:Stmt:=top 17
abbrev O7:Stmt:=Vw! 0
abbrev K6:Stmt:=Vw! 1
abbrev Ir:Stmt:=Vw! 2
abbrev K5:Stmt:=Vw! 3
abbrev Iu:Stmt:=Vw! 4
abbrev V8:Stmt:=SC 12
abbrev Z2:Stmt:=bv 8
abbrev G0:Stmt:=bv 17
abbrev Ey:Stmt:=bv 18
abbrev Gz:Stmt:=bv 19
abbrev G7:Stmt:=bv 20
abbrev Ip:Stmt:=bv 21
abbrev O2:Stmt:=SC 17
abbrev Pa:Stmt:=SC 11
abbrev O6:Stmt:=SC 23
abbrev Rk:Stmt:=SC 24
abbrev O4:Stmt:=fX! 0
abbrev J0:Stmt:=fX! 1
abbrev G9:Stmt:=fX! 2
abbrev K4:Stmt:=fX! 3
abbrev Tt:Stmt:=bv 0
abbrev Ts:Stmt:=bv 1
abbrev Tu:Stmt:=bv 2
abbrev Jmi:Stmt:=bv 3
abbrev Jmh:Stmt:=bv 4
abbrev Tv:Stmt:=bv 5
abbrev Jmg:Stmt:=bv 11
abbrev Tr:Stmt:=bv 6
abbrev Ob:Stmt:=bv 7
abbrev Ji:Stmt:=bv 9
abbrev Oa:Stmt:=bv 10
abbrev Jh:Stmt:=bv 12
abbrev Ex:Stmt:=bv 14
abbrev Io:Stmt:=bv 15
abbrev O1:Stmt:=bv 16
abbrev Me:Stmt:=bv 22
abbrev Md:Stmt:=bv 13
abbrev Tw:Stmt:=top 26
abbrev Tz:Stmt:=top 27
abbrev Yq:Stmt:=top 28
abbrev vN:Stmt:=top 29
abbrev O8:Stmt:=top 30
abbrev Ys:Stmt:=top 31
abbrev Yp:Stmt:=top 32
abbrev T1:Stmt:=top 33
abbrev vO:Stmt:=top 34
abbrev Tq:Stmt:=top 35
abbrev vM:Stmt:=top 36
abbrev Yr:Stmt:=top 37
structure DC(K:W.Frag)(C:Addr)(x qual:Str)(st:Stmt)(ps:X?)(f:Addr)(fd:FuncData):Prop where
 fn:RI!
 bd:ZX!
 mt:nU K C x f
structure QP(K:W.Frag)(mg:k?)(x:Str)(st:Stmt)(ps:X?)(f:Addr)(fd:FuncData):Prop where
 fn:rt! x
 bd:ZX!
 mg:Eg! mg EB!
structure MeI(K:W.Frag)(C:Addr)(x q:Str)(st:Stmt)(f:Addr)(fd:FuncData):Prop where
 a:Z3! x
 i:jk!
 fn:rt! q
structure GI(K:W.Frag)(x:Str)(st:Stmt)(f:Addr)(fd:FuncData):Prop where
 a:Gv! x f
 fn:rt! x
structure WJ(K:W.Frag)(x:Str)(st:Stmt)(ps:X?)(f:Addr)(fd:FuncData):Prop extends GI K x st f fd where
 b:ZX!
theorem WJ.YI{K:W.Frag}{mg:k?}{hp:Heap}{x:Str}{st:Stmt}{f:Addr}{fd:FuncData}{ps:X?}(m:WJ K x st ps f fd)(X:K.In hp)(G:OH! hp.Ns):Ae! x st ps f fd:=⟨m.fn,m.b,N' X G m.a⟩
structure rP(K:W.Frag)(C:Addr):Prop where
 pg:Zl! Str.empty
 hd:hs!
 po:T1! W.plainOver
 sa:W.findIn K C8! "__setattr__"=B! (fl! "object.__setattr__")
 mm:T1! W.makesIn
 kc:W.keepIn K C8!=true
def Bd(x q:Str)(st:Stmt)(ps:X?):Prop:=∀(kV doc pm:Value)(an:I2!)(DZ ct:Value)(us:Z!),us.length=ps.length->bindArgs (pY! q) P1!=m2!
theorem el0{P:I7!}{us:Z!}(h:KV! 0)(k:P []):P us:=by
 rcases us with _|⟨a,us⟩;.exact k
 .cases h
theorem kN{P:I7!}{n:Nat}{us:Z!}(h:KV! (n+1))(k:∀a vs,vs.length=n->P (a::vs)):P us:=by
 rcases us with _|⟨a,us⟩;.cases h
 .exact k a us (Nat.succ.inj h)
theorem gp{P:I7!}{us:Z!}(h:KV! 1)(k:∀u0,P [u0]):P us:=SR! el0
theorem XQ{P:I7!}{us:Z!}(h:KV! 2)(k:∀u0 u1,P [u0,u1]):P us:=SR! gp
theorem eN{P:I7!}{us:Z!}(h:KV! 3)(k:∀u0 u1 u2,P [u0,u1,u2]):P us:=SR! XQ
theorem WH{P:I7!}{us:Z!}(h:KV! 4)(k:∀u0 u1 u2 u3,P [u0,u1,u2,u3]):P us:=SR! eN
theorem eJ{P:I7!}{us:Z!}(h:KV! 5)(k:∀u0 u1 u2 u3 u4,P [u0,u1,u2,u3,u4]):P us:=SR! WH
theorem ug{P:I7!}{us:Z!}(h:KV! 6)(k:∀u0 u1 u2 u3 u4 u5,P [u0,u1,u2,u3,u4,u5]):P us:=SR! eJ
def BA(x q:Str)(st:Stmt)(ps:X?)(us:Z!):Prop:=∀(kV doc pm:Value)(an:I2!)(DZ ct:Value),bindArgs (pY! q) P1!=m2!
theorem bd1{a:Str}(h:∀u0,Tn! [a] [u0]):Mg! [a]:=SZ! gp [a]
theorem bd2{a b:Str}(h:∀u0 u1,Tn! [a,b] [u0,u1]):Mg! [a,b]:=SZ! XQ [a,b]
theorem bd3{a b c:Str}(h:∀u0 u1 u2,Tn! [a,b,c] [u0,u1,u2]):Mg! [a,b,c]:=SZ! eN [a,b,c]
theorem bd4{a b c d:Str}(h:∀u0 u1 u2 u3,Tn! [a,b,c,d] [u0,u1,u2,u3]):Mg! [a,b,c,d]:=SZ! WH [a,b,c,d]
theorem bd5{a b c d e:Str}(h:∀u0 u1 u2 u3 u4,Tn! [a,b,c,d,e] [u0,u1,u2,u3,u4]):Mg! [a,b,c,d,e]:=SZ! eJ [a,b,c,d,e]
theorem bd6{a b c d e f:Str}(h:∀u0 u1 u2 u3 u4 u5,Tn! [a,b,c,d,e,f] [u0,u1,u2,u3,u4,u5]):Mg! [a,b,c,d,e,f]:=SZ! ug [a,b,c,d,e,f]
theorem MeI.mth{K:W.Frag}{C:Addr}{x q:Str}{st:Stmt}{f:Addr}{fd:FuncData}{ps:X?}(m:MeI K C x q st f fd)(h:Mg! ps:=by first|exact K65.bd1 λ_ _ _ _ _ _ _=>rfl|exact K65.bd2 λ_ _ _ _ _ _ _ _=>rfl|exact K65.bd3 λ_ _ _ _ _ _ _ _ _=>rfl|exact K65.bd4 λ_ _ _ _ _ _ _ _ _ _=>rfl|exact K65.bd5 λ_ _ _ _ _ _ _ _ _ _ _=>rfl|exact K65.bd0 λ_ _ _ _ _ _=>rfl|exact K65.bd6 λ_ _ _ _ _ _ _ _ _ _ _ _=>rfl):DC K C x q st ps f fd:=⟨m.fn,m.fn.binds h,⟨m.a,m.i,m.fn.kp⟩⟩
theorem GI.gdi{K:W.Frag}{x:Str}{st:Stmt}{f:Addr}{fd:FuncData}{ps:X?}(m:GI K x st f fd)(h:Bd x x st ps:=by first|exact K65.bd1 λ_ _ _ _ _ _ _=>rfl|exact K65.bd2 λ_ _ _ _ _ _ _ _=>rfl|exact K65.bd3 λ_ _ _ _ _ _ _ _ _=>rfl|exact K65.bd4 λ_ _ _ _ _ _ _ _ _ _=>rfl|exact K65.bd5 λ_ _ _ _ _ _ _ _ _ _ _=>rfl|exact K65.bd0 λ_ _ _ _ _ _=>rfl|exact K65.bd6 λ_ _ _ _ _ _ _ _ _ _ _ _=>rfl):WJ K x st ps f fd:=⟨m,m.fn.binds h⟩
inductive Nc(K:W.Frag)(vs:E!)(H:Hp)(Q:VK)(E:XK):Prop
 | mk (a:Addr) (ns:d!) (_:vs=[Tk]) (_:ix!) (_:U6!) (_:∀H',mu!)
def Gl(R:Prop)(K:W.Frag)(mg:k?)(C CW CP CI NH YK bQ NL NW b_ PQ OR cT RM RC RP RT UY UN RO QZ UG UT UI UM UP U_ UU UZ RK UL UH UQ UR UO QX LQ KH KJ KI KG LJ UE LH LI LP LO US UK RR PR UX UW RI RH RG KL LS LR LK LU LM QY UJ LN Q_ RL RF RA RJ RS RD RN QV QW RB ak:Addr)(cW SE PV cV SR SD SV SY VU VJ SU RY VC VQ VE VI VM VX VR VW SO VH VD VN VO VL RW MC KO KQ KP KN LX VB LV LW MB MA VP VG SW SM VT VS SK SJ SH KR MF ME LY MI LZ RX VF L_ RZ SQ SG R_ SN SX SF SS RU RV SA ao:FuncData):Prop:=∀⦃h:Heap⦄ (X:K.In h) (G:OH! h.Ns)
 (aC:Gv! "House" C)
 (aCW:Gv! "World" CW)
 (aCP:Gv! "Post" CP)
 (aCI:Gv! "Inquiry" CI)
 (aNH:Gv! "NoHouse" NH)
 (aNHd:Gv! "NotHeld" YK)
 (aNNr:Gv! "NotNear" bQ)
 (aNL:Gv! "NoLetter" NL)
 (aNW:Gv! "NoWeight" NW)
 (xNH:YX! NH)
 (xNHd:YX! YK)
 (xNNr:YX! bQ)
 (xNL:YX! NL)
 (xNW:YX! NW)
 (hI:kp! C qO! V9 b_ cW)
 (hPI:kp! CP qP! O4 PQ SE)
 (hWI:kp! CW "World.__init__" Tt OR PV)
 (mM:HQ! Nc! qQ! V7 cT cV)
 (mFr:PW! Nd! qR! Wb RM SR)
 (mPa:DC K C "part" qS! V6 Lk! RC SD)
 (mCa:Hg! "came" qT! Wc RP SV)
 (mAd:Hg! "added" qV! Pb RT SY)
 (mGi:Hg! "given" qW! O9 UY VU)
 (mPs:DC K C "passed" qY! K3 Mf! UN VJ)
 (mCl:HQ! Ng! qZ! Pa RO SU)
 (mSt:oP! QZ RY)
 (mTo:KU! TN! qa! V4 UG VC)
 (mNe:uC! UT VQ)
 (mSp:KU! qb! qc! O2 UI VE)
 (mQH:Z1! UM VI)
 (mPR:PW! qd! qe! O3 UP VM)
 (mAR:oT! U_ VX)
 (mLo:oe! UU VR)
 (mGb:oQ! UZ VW)
 (mHo:DC K C SL qh! Wa Jy! RK SO)
 (mQN:KU! qi! qj! O5 UL VH)
 (mTi:HQ! "tick" qk! V5 UH VD)
 (mPP:tm! UQ VN)
 (mPL:DC K CP Nj! qm! G9 UV UR VO)
 (mPT:DC K CP "taken" qn! K4 CU! UO VL)
 (mWM:KX! Nc! "World.make" Ts QX RW)
 (mWFr:Eh! Nd! "World.free" Tv P3! LQ MC)
 (mWSe:Eh! "send" "World.send" Tr Qn! KH KO)
 (mWCl:KX! Ng! "World.clean" Ob KJ KQ)
 (mWDe:fZ! "deliver" "World.deliver" Ji KI KP)
 (mWSt:KX! TM! "World.state" Oa KG KN)
 (mWLe:Eh! Nj! "World.letters" Jh UV LJ LX)
 (mWH:tg! UE VB)
 (mWWe:B1! qo! qp! Io LH LV)
 (mWPa:B1! qq! qr! O1 LI LW)
 (mWGb:pI! LP MB)
 (mWHo:Eh! SL "World.hold" Tu Qm! LO MA)
 (mP1:WJ K TS! Jj K6! US VP)
 (mR1:WJ K Kc! Fd Gn! UK VG)
 (mC1:WJ K qs! Z3 ZG! RR SW)
 (hII:kp! CI qt! O7 PR SM)
 (mIF:DC K CI "first" qv! K6 Mo! UX VT)
 (mIS:DC K CI "second" qw! Ir Lw! UW VS)
 (mIL:Qg! "still" qx! K5 RI SK)
 (mIR:Qg! "result" qy! Iu RH SJ)
 (mLH:r8! F7! q0! V8 RG SH)
 (mWAs:KX! pu "World.ask" Z2 KL KR)
 (mWAc:B1! q1! q2! G0 LS MF)
 (mWAn:B1! q3! q4! Ey LR ME)
 (mWLc:B1! q5! q7! Gz LK LY)
 (mWAa:pJ! LU MI)
 (mWLa:Eh! q9! rA! Ip Mk! LM LZ)
 (mUn:WJ K a7! Fw Ha! QY RX)
 (mRc:WJ K a8! G8 Ha! UJ VF)
 (mWIn:fZ! "inquiry" "World.inquiry" Md LN L_)
 (mSm:WJ K "_law_stream" Tw l2! Q_ RZ)
 (mGv:WJ K "_law_given" Tz Zq! RL SQ)
 (mMd:WJ K "_law_made" Yq oG! RF SG)
 (mRg:WJ K "_law_ring" vN os! RA R_)
 (mHs:WJ K "_law_houses" O8 EE! RJ SN)
 (mBu:WJ K "_law_built" Ys pm! RS SX)
 (mNx:WJ K "_law_next" Yp W1! RD SF)
 (mFa:WJ K "_law_first_asked" T1 Je! RN SS)
 (mWk:WJ K "_law_work" vO ob! QV RU)
 (mWd:WJ K "_law_worked" Tq pM! QW RV)
 (mRe:WJ K "_law_rest" vM Je! RB SA)
 (hW:GI K "law" Yr ak ao)
 (cC:rP K C)
 (nC0:Gd! C0!)
 (nC1:Gd! CD!)
 (nC2:Gd! Aw!)
 (nC3:Gd! BK!)
 (nC4:Gd! Ax!)
 (nC5:Gd! Ay!)
 (nC6:Gd! BL!)
 (cCW:rP K CW)
 (nCW0:Ql! Ah!)
 (nCW1:Ql! Dn!)
 (nCW2:Ql! AC!)
 (nCW3:Ql! Do!)
 (nCW4:Ql! Dp!)
 (nCW5:Ql! NJ!)
 (cCP:rP K CP)
 (nCP0:W.findIn K (K? CP) KE!=B! none)
 (nCP1:W.findIn K (K? CP) NH!=B! none)
 (cCI:rP K CI)
 (nCI0:hP! E3!)
 (nCI1:hP! DN!)
 (nCI2:hP! GE!)
 (nCI3:hP! HW!)
 (z0:Gr! "len")
 (z1:Gr! OO!)
 (z2:Gr! Cs!)
 (z3:Gr! "sorted")
 (z4:Gr! "isinstance")
 (z5:Gr! ci)
 (z6:Gr! "dict")
 (z7:Gr! "max")
 (z8:Gr! "int")
 (z9:Gr! "bool"),R
def u_(P:Program)(w:World)(K:W.Frag)(mg:k?)(base:Heap)(C CW CP CI NH YK bQ NL NW b_ PQ OR cT RM RC RP RT UY UN RO QZ UG UT UI UM UP U_ UU UZ RK UL UH UQ UR UO QX LQ KH KJ KI KG LJ UE LH LI LP LO US UK RR PR UX UW RI RH RG KL LS LR LK LU LM QY UJ LN Q_ RL RF RA RJ RS RD RN QV QW RB ak:Addr)(cW SE PV cV SR SD SV SY VU VJ SU RY VC VQ VE VI VM VX VR VW SO VH VD VN VO VL RW MC KO KQ KP KN LX VB LV LW MB MA VP VG SW SM VT VS SK SJ SH KR MF ME LY MI LZ RX VF L_ RZ SQ SG R_ SN SX SF SS RU RV SA ao:FuncData):Prop:=Gl (ph! aw 12 ak ao EE! QZ!) K mg C CW CP CI NH YK bQ NL NW b_ PQ OR cT RM RC RP RT UY UN RO QZ UG UT UI UM UP U_ UU UZ RK UL UH UQ UR UO QX LQ KH KJ KI KG LJ UE LH LI LP LO US UK RR PR UX UW RI RH RG KL LS LR LK LU LM QY UJ LN Q_ RL RF RA RJ RS RD RN QV QW RB ak cW SE PV cV SR SD SV SY VU VJ SU RY VC VQ VE VI VM VX VR VW SO VH VD VN VO VL RW MC KO KQ KP KN LX VB LV LW MB MA VP VG SW SM VT VS SK SJ SH KR MF ME LY MI LZ RX VF L_ RZ SQ SG R_ SN SX SF SS RU RV SA ao
abbrev Ev:Type:=Program×World×W.Frag×UW!×Heap×Addr×Addr×Addr×Addr×Addr×Addr×Addr×Addr×Addr×(I4!)×(Nat->FuncData)
def rL(e:Ev):Prop:=u_ e.1 e.2.1 e.2.2.1 e.2.2.2.1 e.2.2.2.2.1 e.2.2.2.2.2.1 e.2.2.2.2.2.2.1 e.2.2.2.2.2.2.2.1 e.2.2.2.2.2.2.2.2.1 e.2.2.2.2.2.2.2.2.2.1 e.2.2.2.2.2.2.2.2.2.2.1 e.2.2.2.2.2.2.2.2.2.2.2.1 e.2.2.2.2.2.2.2.2.2.2.2.2.1 e.2.2.2.2.2.2.2.2.2.2.2.2.2.1 (W! 0) (W! 1) (W! 2) (W! 3) (W! 4) (W! 5) (W! 6) (W! 7) (W! 8) (W! 9) (W! 10) (W! 11) (W! 12) (W! 13) (W! 14) (W! 15) (W! 16) (W! 17) (W! 18) (W! 19) (W! 20) (W! 21) (W! 22) (W! 23) (W! 24) (W! 25) (W! 26) (W! 27) (W! 28) (W! 29) (W! 30) (W! 31) (W! 32) (W! 33) (W! 34) (W! 35) (W! 36) (W! 37) (W! 38) (W! 39) (W! 40) (W! 41) (W! 42) (W! 43) (W! 44) (W! 45) (W! 46) (W! 47) (W! 48) (W! 49) (W! 50) (W! 51) (W! 52) (W! 53) (W! 54) (W! 55) (W! 56) (W! 57) (W! 58) (W! 59) (W! 60) (W! 61) (W! 62) (W! 63) (W! 64) (W! 65) (W! 66) (W! 67) (U! 0) (U! 1) (U! 2) (U! 3) (U! 4) (U! 5) (U! 6) (U! 7) (U! 8) (U! 9) (U! 10) (U! 11) (U! 12) (U! 13) (U! 14) (U! 15) (U! 16) (U! 17) (U! 18) (U! 19) (U! 20) (U! 21) (U! 22) (U! 23) (U! 24) (U! 25) (U! 26) (U! 27) (U! 28) (U! 29) (U! 30) (U! 31) (U! 32) (U! 33) (U! 34) (U! 35) (U! 36) (U! 37) (U! 38) (U! 39) (U! 40) (U! 41) (U! 42) (U! 43) (U! 44) (U! 45) (U! 46) (U! 47) (U! 48) (U! 49) (U! 50) (U! 51) (U! 52) (U! 53) (U! 54) (U! 55) (U! 56) (U! 57) (U! 58) (U! 59) (U! 60) (U! 61) (U! 62) (U! 63) (U! 64) (U! 65) (U! 66) (U! 67)
theorem Jh5:Nonempty Ev:=⟨default,⟨λ_ _=>0,{ strHash:=λ_=>0,shareClass:=λ_=>0,mergeTok:=id,idOf:=λ_=>0,idOfShared:=λ_ _=>0,followText:=λ_=>false,idOfImm:=λ_=>0 }⟩,[],M4!,default,0,0,0,0,0,0,0,0,0,λ_=>0,λ_=>default⟩
@[irreducible] noncomputable def e0:Ev:=@Classical.epsilon Ev Jh5 λe=>¬rL e
theorem Jhj{α:Type}(ne:Nonempty α)(p:α->Prop)(x:α)(e:x=@Classical.epsilon α ne λa=>¬p a)(h:p x)(a:α):p a:=Classical.byContradiction λn=>by subst e;exact Classical.epsilon_spec (p:=λa=>¬p a) ⟨a,n⟩ h
theorem Je1(h:rL e0)(e:Ev):rL e:=Jhj Jh5 rL e0 (by unfold e0;rfl) h e
noncomputable def P:Program:=e0.1
noncomputable def w:World:=e0.2.1
noncomputable def K:W.Frag:=e0.2.2.1
noncomputable def mg:UW!:=e0.2.2.2.1
noncomputable def base:Heap:=e0.2.2.2.2.1
noncomputable def C:Addr:=e0.2.2.2.2.2.1
noncomputable def CW:Addr:=e0.2.2.2.2.2.2.1
noncomputable def CP:Addr:=e0.2.2.2.2.2.2.2.1
noncomputable def CI:Addr:=e0.2.2.2.2.2.2.2.2.1
noncomputable def NH:Addr:=e0.2.2.2.2.2.2.2.2.2.1
noncomputable def YK:Addr:=e0.2.2.2.2.2.2.2.2.2.2.1
noncomputable def bQ:Addr:=e0.2.2.2.2.2.2.2.2.2.2.2.1
noncomputable def NL:Addr:=e0.2.2.2.2.2.2.2.2.2.2.2.2.1
noncomputable def NW:Addr:=e0.2.2.2.2.2.2.2.2.2.2.2.2.2.1
noncomputable def b_:Addr:=X! 0
noncomputable def PQ:Addr:=X! 1
noncomputable def OR:Addr:=X! 2
noncomputable def cT:Addr:=X! 3
noncomputable def RM:Addr:=X! 4
noncomputable def RC:Addr:=X! 5
noncomputable def RP:Addr:=X! 6
noncomputable def RT:Addr:=X! 7
noncomputable def UY:Addr:=X! 8
noncomputable def UN:Addr:=X! 9
noncomputable def RO:Addr:=X! 10
noncomputable def QZ:Addr:=X! 11
noncomputable def UG:Addr:=X! 12
noncomputable def UT:Addr:=X! 13
noncomputable def UI:Addr:=X! 14
noncomputable def UM:Addr:=X! 15
noncomputable def UP:Addr:=X! 16
noncomputable def U_:Addr:=X! 17
noncomputable def UU:Addr:=X! 18
noncomputable def UZ:Addr:=X! 19
noncomputable def RK:Addr:=X! 20
noncomputable def UL:Addr:=X! 21
noncomputable def UH:Addr:=X! 22
noncomputable def UQ:Addr:=X! 23
noncomputable def UR:Addr:=X! 24
noncomputable def UO:Addr:=X! 25
noncomputable def QX:Addr:=X! 26
noncomputable def LQ:Addr:=X! 27
noncomputable def KH:Addr:=X! 28
noncomputable def KJ:Addr:=X! 29
noncomputable def KI:Addr:=X! 30
noncomputable def KG:Addr:=X! 31
noncomputable def LJ:Addr:=X! 32
noncomputable def UE:Addr:=X! 33
noncomputable def LH:Addr:=X! 34
noncomputable def LI:Addr:=X! 35
noncomputable def LP:Addr:=X! 36
noncomputable def LO:Addr:=X! 37
noncomputable def US:Addr:=X! 38
noncomputable def UK:Addr:=X! 39
noncomputable def RR:Addr:=X! 40
noncomputable def PR:Addr:=X! 41
noncomputable def UX:Addr:=X! 42
noncomputable def UW:Addr:=X! 43
noncomputable def RI:Addr:=X! 44
noncomputable def RH:Addr:=X! 45
noncomputable def RG:Addr:=X! 46
noncomputable def KL:Addr:=X! 47
noncomputable def LS:Addr:=X! 48
noncomputable def LR:Addr:=X! 49
noncomputable def LK:Addr:=X! 50
noncomputable def LU:Addr:=X! 51
noncomputable def LM:Addr:=X! 52
noncomputable def QY:Addr:=X! 53
noncomputable def UJ:Addr:=X! 54
noncomputable def LN:Addr:=X! 55
noncomputable def Q_:Addr:=X! 56
noncomputable def RL:Addr:=X! 57
noncomputable def RF:Addr:=X! 58
noncomputable def RA:Addr:=X! 59
noncomputable def RJ:Addr:=X! 60
noncomputable def RS:Addr:=X! 61
noncomputable def RD:Addr:=X! 62
noncomputable def RN:Addr:=X! 63
noncomputable def QV:Addr:=X! 64
noncomputable def QW:Addr:=X! 65
noncomputable def RB:Addr:=X! 66
noncomputable def ak:Addr:=X! 67
noncomputable def cW:FuncData:=V! 0
noncomputable def SE:FuncData:=V! 1
noncomputable def PV:FuncData:=V! 2
noncomputable def cV:FuncData:=V! 3
noncomputable def SR:FuncData:=V! 4
noncomputable def SD:FuncData:=V! 5
noncomputable def SV:FuncData:=V! 6
noncomputable def SY:FuncData:=V! 7
noncomputable def VU:FuncData:=V! 8
noncomputable def VJ:FuncData:=V! 9
noncomputable def SU:FuncData:=V! 10
noncomputable def RY:FuncData:=V! 11
noncomputable def VC:FuncData:=V! 12
noncomputable def VQ:FuncData:=V! 13
noncomputable def VE:FuncData:=V! 14
noncomputable def VI:FuncData:=V! 15
noncomputable def VM:FuncData:=V! 16
noncomputable def VX:FuncData:=V! 17
noncomputable def VR:FuncData:=V! 18
noncomputable def VW:FuncData:=V! 19
noncomputable def SO:FuncData:=V! 20
noncomputable def VH:FuncData:=V! 21
noncomputable def VD:FuncData:=V! 22
noncomputable def VN:FuncData:=V! 23
noncomputable def VO:FuncData:=V! 24
noncomputable def VL:FuncData:=V! 25
noncomputable def RW:FuncData:=V! 26
noncomputable def MC:FuncData:=V! 27
noncomputable def KO:FuncData:=V! 28
noncomputable def KQ:FuncData:=V! 29
noncomputable def KP:FuncData:=V! 30
noncomputable def KN:FuncData:=V! 31
noncomputable def LX:FuncData:=V! 32
noncomputable def VB:FuncData:=V! 33
noncomputable def LV:FuncData:=V! 34
noncomputable def LW:FuncData:=V! 35
noncomputable def MB:FuncData:=V! 36
noncomputable def MA:FuncData:=V! 37
noncomputable def VP:FuncData:=V! 38
noncomputable def VG:FuncData:=V! 39
noncomputable def SW:FuncData:=V! 40
noncomputable def SM:FuncData:=V! 41
noncomputable def VT:FuncData:=V! 42
noncomputable def VS:FuncData:=V! 43
noncomputable def SK:FuncData:=V! 44
noncomputable def SJ:FuncData:=V! 45
noncomputable def SH:FuncData:=V! 46
noncomputable def KR:FuncData:=V! 47
noncomputable def MF:FuncData:=V! 48
noncomputable def ME:FuncData:=V! 49
noncomputable def LY:FuncData:=V! 50
noncomputable def MI:FuncData:=V! 51
noncomputable def LZ:FuncData:=V! 52
noncomputable def RX:FuncData:=V! 53
noncomputable def VF:FuncData:=V! 54
noncomputable def L_:FuncData:=V! 55
noncomputable def RZ:FuncData:=V! 56
noncomputable def SQ:FuncData:=V! 57
noncomputable def SG:FuncData:=V! 58
noncomputable def R_:FuncData:=V! 59
noncomputable def SN:FuncData:=V! 60
noncomputable def SX:FuncData:=V! 61
noncomputable def SF:FuncData:=V! 62
noncomputable def SS:FuncData:=V! 63
noncomputable def RU:FuncData:=V! 64
noncomputable def RV:FuncData:=V! 65
noncomputable def SA:FuncData:=V! 66
noncomputable def ao:FuncData:=V! 67
structure Txt:Prop where
 cl:av K C
 nN:FH! C0!
 nM:FH! CD!
 nT:FH! Aw!
 nH:FH! BK!
 nO:FH! Ax!
 nL:FH! Ay!
 nR:FH! BL!
 iU:z! mg "House" C8!
 xm:Zl K mg "NotHeld" YK
 xk:Zl K mg "NotNear" bQ
 cNW:Zl K mg "NoWeight" NW
 len:WW!
 range:D3! OO!
 tuple:D3! Cs!
 sorted:gL!
 isi:D3! "isinstance"
structure L4:Prop where
 cl:av K CP
 nL:EA K CP KE!
 nW:EA K CP NH!
 iU:NU! mg "Post" CP
 cNL:Zl K mg "NoLetter" NL
 list:D3! ci
structure Hs:Prop where
 cl:av K CW
 nS:P5! Ah!
 nH:P5! Dn!
 nP:P5! AC!
 nI:P5! Do!
 nF:P5! Dp!
 nE:P5! NJ!
 iU:NU! mg "World" CW
 cNH:Zl K mg "NoHouse" NH
structure rB:Prop where
 dict:D3! "dict"
 list:D3! ci
 max:D3! "max"
structure Jk9:Prop where
 tuple:D3! Cs!
 sorted:gL!
structure Vn:Prop where
 cl:av K CI
 nM:EA K CI E3!
 nS:EA K CI DN!
 nF:EA K CI GE!
 nT:EA K CI HW!
 iU:NU! mg "Inquiry" CI
abbrev DR := EB P w K mg base aw
abbrev ID := EB P w K mg base EP!
structure GG:Prop where
 T:Txt
 TW:Hs
 TP:L4
 TI:Vn
 TF:Jk9
 Tx:rB
 y5:D3! ci
 y1:D3! OO!
 y7:D3! "max"
 y0:WW!
 y2:D3! Cs!
 y3:gL!
 FI:Lb! qO! V9 b_ cW
 bI:Km! cW LP!
 nJ:I0! C b_
 rN:Lb! qP! O4 PQ SE
 uv:Km! SE UV
 ja:I0! CP PQ
 rM:Lb! "World.__init__" Tt OR PV
 uu:Km! PV Rr!
 jZ:I0! CW OR
 mM:HQ! Nc! qQ! V7 cT cV
 mFr:PW! Nd! qR! Wb RM SR
 mPa:DC K C "part" qS! V6 Lk! RC SD
 mCa:Hg! "came" qT! Wc RP SV
 mAd:Hg! "added" qV! Pb RT SY
 mGi:Hg! "given" qW! O9 UY VU
 mPs:DC K C "passed" qY! K3 Mf! UN VJ
 mCl:HQ! Ng! qZ! Pa RO SU
 mSt:oP! QZ RY
 mTo:KU! TN! qa! V4 UG VC
 mNe:uC! UT VQ
 mSp:KU! qb! qc! O2 UI VE
 mQH:Z1! UM VI
 mPR:PW! qd! qe! O3 UP VM
 mAR:oT! U_ VX
 mLo:oe! UU VR
 mGb:oQ! UZ VW
 mHo:DC K C SL qh! Wa Jy! RK SO
 mQN:KU! qi! qj! O5 UL VH
 mTi:HQ! "tick" qk! V5 UH VD
 mPP:tm! UQ VN
 mPL:DC K CP Nj! qm! G9 UV UR VO
 mPT:DC K CP "taken" qn! K4 CU! UO VL
 mWM:KX! Nc! "World.make" Ts QX RW
 mWFr:Eh! Nd! "World.free" Tv P3! LQ MC
 mWSe:Eh! "send" "World.send" Tr Qn! KH KO
 mWCl:KX! Ng! "World.clean" Ob KJ KQ
 mWDe:fZ! "deliver" "World.deliver" Ji KI KP
 mWSt:KX! TM! "World.state" Oa KG KN
 mWLe:Eh! Nj! "World.letters" Jh UV LJ LX
 mWH:tg! UE VB
 mWWe:B1! qo! qp! Io LH LV
 mWPa:B1! qq! qr! O1 LI LW
 mWGb:pI! LP MB
 mWHo:Eh! SL "World.hold" Tu Qm! LO MA
 mP1:Ae! TS! Jj K6! US VP
 mR1:Ae! Kc! Fd Gn! UK VG
 mC1:Ae! qs! Z3 ZG! RR SW
 rO:Lb! qt! O7 PR SM
 uw:Km! SM LQ!
 jb:I0! CI PR
 mIF:DC K CI "first" qv! K6 Mo! UX VT
 mIS:DC K CI "second" qw! Ir Lw! UW VS
 mIL:Qg! "still" qx! K5 RI SK
 mIR:Qg! "result" qy! Iu RH SJ
 mLH:r8! F7! q0! V8 RG SH
 mWAs:KX! pu "World.ask" Z2 KL KR
 mWAc:B1! q1! q2! G0 LS MF
 mWAn:B1! q3! q4! Ey LR ME
 mWLc:B1! q5! q7! Gz LK LY
 mWAa:pJ! LU MI
 mWLa:Eh! q9! rA! Ip Mk! LM LZ
 mUn:gD! a7! Fw QY RX
 mRc:gD! a8! G8 UJ VF
 mWIn:fZ! "inquiry" "World.inquiry" Md LN L_
 mSm:Ae! "_law_stream" Tw l2! Q_ RZ
 mGv:Ae! "_law_given" Tz Zq! RL SQ
 mMd:Ae! "_law_made" Yq oG! RF SG
 mRg:Ae! "_law_ring" vN os! RA R_
 mHs:Ae! "_law_houses" O8 EE! RJ SN
 mBu:Ae! "_law_built" Ys pm! RS SX
 mNx:Ae! "_law_next" Yp W1! RD SF
 mFa:Ae! "_law_first_asked" T1 Je! RN SS
 mWk:Ae! "_law_work" vO ob! QV RU
 mWd:Ae! "_law_worked" Tq pM! QW RV
 mRe:Ae! "_law_rest" vM Je! RB SA
 FW:FL K "law" "law" Yr ak ao
theorem Jk1(k:GG->DR 12 ak ao EE! QZ!):u_ P w K mg base C CW CP CI NH YK bQ NL NW b_ PQ OR cT RM RC RP RT UY UN RO QZ UG UT UI UM UP U_ UU UZ RK UL UH UQ UR UO QX LQ KH KJ KI KG LJ UE LH LI LP LO US UK RR PR UX UW RI RH RG KL LS LR LK LU LM QY UJ LN Q_ RL RF RA RJ RS RD RN QV QW RB ak cW SE PV cV SR SD SV SY VU VJ SU RY VC VQ VE VI VM VX VR VW SO VH VD VN VO VL RW MC KO KQ KP KN LX VB LV LW MB MA VP VG SW SM VT VS SK SJ SH KR MF ME LY MI LZ RX VF L_ RZ SQ SG R_ SN SX SF SS RU RV SA ao:=by intro h X Gn aC aCW aCP aCI aNH aNHd aNNr aNL aNW xNH xNHd xNNr xNL xNW hI hPI hWI mM mFr mPa mCa mAd mGi mPs mCl mSt mTo mNe mSp mQH mPR mAR mLo mGb mHo mQN mTi mPP mPL mPT mWM mWFr mWSe mWCl mWDe mWSt mWLe mWH mWWe mWPa mWGb mWHo mP1 mR1 mC1 hII mIF mIS mIL mIR mLH mWAs mWAc mWAn mWLc mWAa mWLa mUn mRc mWIn mSm mGv mMd mRg mHs mBu mNx mFa mWk mWd mRe hW cC nC0 nC1 nC2 nC3 nC4 nC5 nC6 cCW nCW0 nCW1 nCW2 nCW3 nCW4 nCW5 cCP nCP0 nCP1 cCI nCI0 nCI1 nCI2 nCI3 z0 z1 z2 z3 z4 z5 z6 z7 z8 z9;have y0:=Gg! z0;have y1:=Gg! z1;have y2:=Gg! z2;have y3:=Gg! z3;have y4:=Gg! z4;have y5:=Gg! z5;have y6:=Gg! z6;have y7:=Gg! z7;have y8:=Gg! z8;have y9:=Gg! z9;have gC:=IN! aC;obtain⟨pgC,hdC,poC,saC,mkC,kcC⟩:=cC;have gCW:=IN! aCW;obtain⟨wA,xE,vz,vj,wN,wX⟩:=cCW;have gCP:=IN! aCP;obtain⟨wB,xF,v5,vk,wO,wY⟩:=cCP;have gCI:=IN! aCI;obtain⟨wC,xG,v_,vm,wQ,wZ⟩:=cCI;have gNH:=IN! aNH;have xP:=IN! aNHd;have xO:=IN! aNNr;have gNL:=IN! aNL;have gNW:=IN! aNW;obtain⟨aI,iI,FI⟩:=hI;have bI:=pD! LP! aI iI FI;have nJ:I0! C b_:=⟨mkC,aI,iI,kcC⟩;obtain⟨aPI,zO,rN⟩:=hPI;have uv:=pD! UV aPI zO rN;have ja:I0! CP PQ:=⟨wO,aPI,zO,wY⟩;obtain⟨aWI,zN,rM⟩:=hWI;have uu:=pD! Rr! aWI zN rM;have jZ:I0! CW OR:=⟨wN,aWI,zN,wX⟩;obtain⟨aII,zP,rO⟩:=hII;have uw:=pD! LQ! aII zP rO;have jb:I0! CI PR:=⟨wQ,aII,zP,wZ⟩;exact k ⟨⟨⟨pgC,hdC,poC,saC⟩,nC0,nC1,nC2,nC3,nC4,nC5,nC6,gC,⟨xP,xNHd⟩,⟨xO,xNNr⟩,⟨gNW,xNW⟩,y0,y1,y2,y3,y4⟩,⟨⟨wA,xE,vz,vj⟩,nCW0,nCW1,nCW2,nCW3,nCW4,nCW5,gCW,⟨gNH,xNH⟩⟩,⟨⟨wB,xF,v5,vk⟩,nCP0,nCP1,gCP,⟨gNL,xNL⟩,y5⟩,⟨⟨wC,xG,v_,vm⟩,nCI0,nCI1,nCI2,nCI3,gCI⟩,⟨y2,y3⟩,⟨y6,y5,y7⟩,y5,y1,y7,y0,y2,y3,FI,bI,nJ,rN,uv,ja,rM,uu,jZ,mM,mFr,mPa,mCa,mAd,mGi,mPs,mCl,mSt,mTo,mNe,mSp,mQH,mPR,mAR,mLo,mGb,mHo,mQN,mTi,mPP,mPL,mPT,mWM,mWFr,mWSe,mWCl,mWDe,mWSt,mWLe,mWH,mWWe,mWPa,mWGb,mWHo,Bh! mP1.YI,Bh! mR1.YI,Bh! mC1.YI,rO,uw,jb,mIF,mIS,mIL,mIR,mLH,mWAs,mWAc,mWAn,mWLc,mWAa,mWLa,Bh! mUn.YI,Bh! mRc.YI,mWIn,Bh! mSm.YI,Bh! mGv.YI,Bh! mMd.YI,Bh! mRg.YI,Bh! mHs.YI,Bh! mBu.YI,Bh! mNx.YI,Bh! mFa.YI,Bh! mWk.YI,Bh! mWd.YI,Bh! mRe.YI,hW.fn⟩
inductive Ti(vs:E!)(H:Hp)(Q:VK)(E:XK):Prop
 | mk (p t:Addr) (G:BV) (th:T2) (_:Gc!) (_:Z?) (_:Ck!) (_:Q (YU! (th.1=G.BR)) H)
inductive N9(vs:E!)(H:Hp)(Q:VK)(E:XK):Prop
 | mk (p t:Addr) (G:BV) (th:T2) (_:Gc!) (_:Z?) (_:Ck!) (_:((th∈G.hand/\Q .FC H)\/(th∉G.hand/\Ni! YK)))
inductive Zz(vs:E!)(H:Hp)(Q:VK)(E:XK):Prop
 | mk (p t:Addr) (G:BV) (th:T2) (_:Gc!) (_:Z?) (_:Ck!) (_:((th.1=G.BR/\Q .FC H)\/(th.1≠G.BR/\Ni! bQ)))
universe S
theorem scN:ZS! Nd:={}
theorem Ud(F:j! "is_near" "House.is_near" Nd)(T:Txt):BW! HB! Ti:=by refine Y? scN;obtain⟨p,t,G,th,rfl,S,ht,k⟩:=h;refine Y!;obtain⟨dx,hp⟩:=S.ob;refine Bq! (Ag (Az (Jiw (Jiy Nb! (Ao E? rfl)))));exact t? ⟨t,_,0,_,rfl,rfl,FM ht,rfl,_,rfl,p,C,dx,_,_,rfl,hp,T.cl,T.nN,R4 G,_,_,rfl,rfl,k⟩
theorem Ic(hd:GW! d l)(ht:Ck!):RE! (uI! (th∈l)):=Fc! YA! Jf
theorem Jmb:ZS! Ka:={}
theorem Pk(F:j! "need_in_hand" "House.need_in_hand" Ka)(T:Txt):sG! f fd N9:=by
 refine Co! Jmb;obtain⟨p,t,G,th,rfl,S,ht,k⟩:=h;refine Y!;have hu:=V?;obtain⟨dx,hp⟩:=S.ob;refine Bq! (Ag (Bo (sO! Ee Q!) (aJ! T.xm) A8));refine lW! C T.cl T.nH (F7 G) G.h (Ic S.dh ht);rcases k with⟨h,k⟩|⟨h,k⟩;.rw[Ar!];exact Cb k
 .rw[BC!];exact Ce k
universe E
universe S
theorem Jma:ZS! O5:={}
theorem Jef(F:j! qi! qj! O5)(T:Txt)(M1:nm!):hT! HB! Zz:=by
 have G1:sG! f1 kI Ti:=Pf! Ud M1.fn T;refine Co! Jma;obtain⟨p,t,G,th,rfl,S,ht,k⟩:=h;refine Y!;have hu:=V?;obtain⟨dx,hp⟩:=S.ob;refine Bq! (Ag (Bo (T7 (Hw (tQ! T.cl M1.mt G1 hr M1.bd))) (aJ! T.xk) A8));refine⟨_,rfl,p,dx,_,rfl,hp,KE,_,rfl,p,t,G,th,rfl,S,ht,_,rfl,?_⟩;rcases k with⟨h,k⟩|⟨h,k⟩;.rw[PK!];exact Cb k
 .rw[VX!];exact Ce k
theorem Jb5(S:Z?)(ht:Ck!)(f:PA! (fj! H0!) th):DV H G.l Kg! (some (V.ref a))/\GW! a hl/\(th,a,hl)∈G.holds:=by have:=r4! S.dl;rw[ZZ!,f] at this;exact⟨this,S.hl _ (A_ f),A_ f⟩
universe E
universe S
def Done(p:Addr)(G:BV)(H:Hp)(G':BV)(k:Vr!):Prop:=∀H',JM! G'->Wu!->k H'
inductive Tl(vs:E!)(H:Hp)(Q:VK)(E:XK):Prop
 | mk (p a b:Addr) (G:BV) (ta tb:T2) (_:vs=[Op,Tk,Os]) (_:Z?) (_:Tp! ta) (_:AP!) (_:rj! (¬(bI!/\B8!)) YK ((bI!/\B8!/\ta.1≠G.BR/\Ni! bQ)\/(bI!/\B8!/\ta.1=G.BR/\∃(ad:Addr)(hl:D!),fj! (q.1=ta)=B! (ta,ad,hl)/\hl.length<=500/\Gw! { G with AS:=CM!,holds:=K2 G.holds ad gW! })))
inductive Tn(vs:E!)(H:Hp)(Q:VK)(E:XK):Prop
 | mk (p b:Addr) (G:BV) (tb:T2) (_:am! Os) (_:Z?) (_:AP!) (_:((tb∉G.hand/\Ni! YK)\/(B8!/\Gw! { G with AS:=CM!,hand:=P2! })))
theorem Gm(hd:d∈A2!)(hf:BL G1=BL G)(e:H1=upd H d o)(S1:Em! H1 G1)(D:Done p G H { G1 with AS:=G1.AS+1 } k) : k (upd H1 p (Sc C dx (B7 { G1 with AS:=G1.AS+1 }))):=by refine D _ (S1.fld dx G1.AW (G1.AS+1)) λb o' e1 h1 h2=>?_;rw[Ac h1,e,Ac (M? h2 (K1! hd))];exact e1
theorem scH:I? Jy! Jy! Wa:={}
theorem Jcf(h:q∈G.holds):D?∈A2!:=by unfold BL;exact oV! (BC h)
theorem Jgv(F:j! SL qh! Wa)(T:Txt)(M1:nm!)(M2:Z1! f2 mS)(M3:KU! qi! qj! O5 f3 fd3):XP! Jy! Tl:=by
 have G2:i2! mS N9:=Pk M2.fn T;have G3:ID 2 f3 fd3 HB! (Zz):=Jef M3.fn T M1;refine Co! scH;obtain⟨p,a,b,G,ta,tb,rfl,S,ha,hb,k⟩:=h;refine Y!;have hu:=V?;have FV:ca:=k!;obtain⟨dx,hp⟩:=S.ob;refine Rs! (tj! T.cl M2.mt G2 M2.bd) (Ad (js! T.cl M2.mt G2 FV M2.bd L!) (Bs! (js! T.cl M3.mt G3 hr M3.bd Q!) (TQ! Xk! L! Dw) (Wf! C1 Af Ep)));refine⟨_,rfl,p,dx,_,rfl,hp,KE,_,rfl,p,a,G,ta,rfl,S,ha,?_⟩;by_cases h1:bI!;.refine H! ⟨h1,_,rfl,p,dx,_,rfl,hp,KE,_,rfl,p,b,G,tb,rfl,S,hb,?_⟩;by_cases h2:B8!;(.refine H! ⟨h2,_,rfl,p,dx,_,rfl,hp,KE,_,rfl,p,a,G,ta,rfl,S,ha,?_⟩;rcases k with⟨h,k⟩|⟨_,_,h,k⟩|⟨_,_,h,ad,hl,fV,z,k⟩;(.exact ga Q6! h);(.exact c? h k);.obtain⟨g1,g2,g3⟩:=Jb5 S ha fV;refine H! ⟨h,_,rfl,p,C,dx,_,_,rfl,hp,T.cl,T.nL,Fh G,_,rfl,G.l,_,rfl,g1,_,rfl,ad,_,rfl,Me! g2,?_⟩;rw[Fo];have S1:bF! ad Be gW! (im! ad gW!):=S.gM g3 (B4 hl tb);obtain⟨FK,HQ⟩:=S1.ob;refine SV!;rw[Bs];exact Gm (G1:=im! ad gW!) (Jcf g3) (by unfold BL;rw[V3]) rfl S1 k);.rcases k with⟨h,k⟩|⟨_,h,_⟩|⟨_,h,_⟩;(.exact c? h2 k);(.exact I3! h2);.exact I3! h2
 .rcases k with⟨h,k⟩|⟨h,_⟩|⟨h,_⟩;(.exact c? h1 k);(.exact I3! h1);.exact I3! h1
theorem sM:I? Kh! Kh! Wb:={}
theorem Jgw(F:j! Nd! qR! Wb)(T:Txt)(M2:Z1! f2 mS) : hT! Kh! Tn:=by
 have G2:i2! mS N9:=Pk M2.fn T;refine Co! sM;obtain⟨p,b,G,tb,rfl,S,hb,k⟩:=h;refine Y!;have hu:=V?;obtain⟨dx,hp⟩:=S.ob;refine Rs! (tQ! T.cl M2.mt G2 hr M2.bd) (ED! (Av (t8! Q!)) Gz!);refine⟨_,rfl,p,dx,_,rfl,hp,KE,_,rfl,p,b,G,tb,rfl,S,hb,?_⟩;rcases k with k|⟨h,k⟩;.exact N! k
 .refine H! ⟨h,_,rfl,p,C,dx,_,_,rfl,hp,T.cl,T.nH,F7 G,G.h,rfl,T5! S.dh,_,rfl,_,tk tb,_,b,S.dh,rfl,hb,F8! Jf Ar!,?_⟩;rw[Hm (k:=qA!) (f:=Of!)];have S1:jm! (N0 G.hand tb) { G with hand:=P2! }:=S.QI (N0 G.hand tb);obtain⟨FK,HQ⟩:=S1.ob;refine SV!;rw[Bs];exact pt! { G with hand:=P2! }
universe E
universe S
def Hi(n:Int):Int:=sB (n=1) 1 (n / 2)
inductive V1(vs:E!)(H:Hp)(Q:VK)(E:XK):Prop
 | mk (n:Int) (_:vs=[R! n]) (_:MZ! (CG! p .BG [g! (n-Hi n),g! (Hi n)]))
theorem yQ:I? [az!,"goes"] K6! Jj:={}
theorem Jbt(F:j! TS! TS! Jj):DR 1 f fd K6! V1:=by
 refine Y? yQ;obtain⟨n,rfl,k⟩:=h;refine Y!;refine IF! (Dv! (s9! E?) (gl! (wT Af Af))) (ED! (Fa! 1 yQ.nd (KS! E?)) (Az (Co (wT (Ay Uc E? Q!) Q!))));refine⟨_,rfl,rfl,_,rfl,?_⟩;refine kj (λc1=>?_) (λc1=>?_);.have c1:n=1:=V.int.inj (BK c1);subst c1;exact⟨rM! U0!,λp hp=>k p hp⟩
 ·(have c1:¬n=1:=λz=>by rw[z] at c1;simp at c1);refine pj!;refine⟨_,rfl,_,rfl,_,_,rfl,rfl,_,rfl,(rM! U0!),E4!⟩;have:=k p hp;unfold Hi at this;rw[AD c1] at this;exact this
def Ny(l:T!)(t:T2):Int:=ko! l.find? e7!
inductive Zx(vs:E!)(H:Hp)(Q:VK)(E:XK):Prop
 | mk (p b:Addr) (G:BV) (tb:T2) (wt:Int) (_:am! Os) (_:Z?) (_:AP!) (_:sU! G.AJ.find? wt) (_:LB!) (_:((wt=0/\Ni! NW)\/(wt≠0/\Done p G H (as! (rm! (wt-Hi wt))) (Q (g! (Hi wt))))))
theorem Ib(hd:iS! l)(ht:Ck!):RE! (HE! l.find? (AS! H0!) DH!):=Fc! YA! m7!
theorem jF:I? [BX!,"b",az!,"halves"] Kh! O3:={}
theorem Jee(F:j! qd! qe! O3)(T:Txt)(MP:Ae! TS! Jj K6! fP fdP):hT! Kh! Zx:=by
 have GP:ID 1 fP fdP K6! V1:=FX.EB.aR (Jbt MP.fn);refine Co! jF;obtain⟨p,b,G,tb,wt,rfl,S,hb,fV,z,k⟩:=h;refine Y!;have hu:=V?;obtain⟨dx,hp⟩:=S.ob;have g1:mr! G.r wt:=Fc! (Ib S.dr hb) fV
 refine Nz! jF.nd Xk! (Ad (Dv! (s9! L!) (aJ! T.cNW)) (gf! jF.nd (Ba GP hr KG! MP.mg MP.fn.kp MP.bd O! Cr (wP L!)) (Q2! (CK! A?)) (BS! (CK! A?))));refine SD! dx hp T.nR (C6 G) G.r g1;refine⟨_,rfl,rfl,_,rfl,?_⟩;rcases k with⟨h,k⟩|⟨h,k⟩;.rw[EY! (b1! wt 0=true) (gu! h)];exact Ce k
 .rw[EY! (i? (b1! wt 0)) (Al! (λe=>h (V.int.inj e)))];refine At!;refine br! _ wt EJ!;have s1:=Ev! or! ht;have S1:=Qq!;have t1:b? (CG! t .BG or!) t .BG or!:=Ab;have b1:=F! s1 hb;generalize GY! H t or!=H1 at s1 S1 t1 b1;obtain⟨FK,HQ⟩:=S1.ob;refine⟨_,rfl,t,_,0,_,rfl,rfl,FM t1,rfl,_,rfl,p,C,FK,_,_,rfl,HQ,T.cl,T.nR,C6 G,_,rfl,G.r,_,rfl,tV! S1.dr b1 Td!,?_⟩;rw[Ez];have S2:Em! (AA! H1 G.r C5 (rI! (wt-Hi wt))) (as! (rm! (wt-Hi wt))):=S1.WW _;have tr:t≠G.r:=λe=>(S1.tup_ne t1).2 (by rw[e];simp[BL]);refine ii! 1 (DN.of (i! tr t1));refine cQ! S2 ?_;rw[Ac SH!];exact E9! s1
universe E
universe S
inductive Ym(vs:E!)(H:Hp)(Q:VK)(E:XK):Prop
 | mk (p b:Addr) (G:BV) (tb:T2) (wt:Int) (_:k7!) (_:Z?) (_:AP!) (_:LB!) (_:Gw! (as! Xv!))
theorem Jmf:mS! Rl:={}
theorem Jab(F:j! "add_to_record" "House.add_to_record" Rl)(T:Txt):BW! El! Ym:=by
 refine Y? Jmf;obtain⟨p,b,G,tb,wt,rfl,S,hb,z,k⟩:=h;refine Y!;have hu:=V?;obtain⟨dx,hp⟩:=S.ob;refine Bq! (Ag (pL! (Ay Eo (Pi hu C? Q! Af BR!) L!)));have ei:((G.AJ.find? (AS! Tc!)).map DH!).getD (V.int 0)=H? (Ny G.AJ tb):=by unfold Ny;cases Fl! G.AJ.find? Tc!<;>rfl
 refine⟨_,rfl,p,C,dx,_,_,rfl,hp,T.cl,T.nR,C6 G,G.r,rfl,T5! S.dr,_,rfl,_,Ib S.dr hb,?_⟩;rw[ei];refine⟨_,rfl,_,_,rfl,rfl,_,rfl,p,C,dx,_,_,rfl,hp,T.cl,T.nR,C6 G,_,rfl,G.r,_,rfl,Me! S.dr,?_⟩;rw[Ez];refine cQ! (S.WW _) ?_;rw[Ac SH!];exact e
inductive Tp(vs:E!)(H:Hp)(Q:VK)(E:XK):Prop
 | mk (p b:Addr) (G:BV) (tb:T2) (wt:Int) (_:k7!) (_:Z?) (_:AP!) (_:LB!) (_:Gw! (U7! Xv!))
theorem Jme:mS! Pb:={}
theorem Jej(F:j! "added" qV! Pb)(T:Txt)(M5:oT! f5 uY):Gt! El! Tp:=by have G5:CJ! f5 uY El! Ym:=Jab M5.fn T;refine Y? Jme;obtain⟨p,b,G,tb,wt,rfl,S,hb,z,k⟩:=h;refine Y!;obtain⟨dx,hp⟩:=S.ob;refine Rs! (Wx! T.cl M5.mt G5 M5.bd (Vi! L!)) (Wf! C1 Af Ep);refine no! dx hp KE b G tb wt S hb z H1!;obtain⟨FK,HQ⟩:=S1.ob;refine SV!;rw[Bs];exact kB! S1.fld FK KW
inductive Yl(vs:E!)(H:Hp)(Q:VK)(E:XK):Prop
 | mk (p b:Addr) (G:BV) (tb:T2) (wt:Int) (_:k7!) (_:Z?) (_:AP!) (_:eF!) (_:LE!) (_:LB!) (_:((O0!/\∃o,nV!/\Gw! (eG! Fz! (Np! (o-wt))))\/(Im!/\Gw! { G with AS:=CM!,hand:=Fz!,AJ:=Xv! })))
theorem scC:mS! Wc:={}
theorem Jgy(F:j! "came" qT! Wc)(T:Txt)(M1:nm!)(M5:oT! f5 uY) : Gt! El! Yl:=by
 have G1:CJ! f1 kI HB! Ti:=Ud M1.fn T;have G5:CJ! f5 uY El! Ym:=Jab M5.fn T;refine Y? scC;obtain⟨p,b,G,tb,wt,rfl,S,hb,z1,z2,z3,k⟩:=h;refine Y!;have hu:=V?;obtain⟨dx,hp⟩:=S.ob;refine S2! (pL! Dw) (ED! (Bo (Hw (Ap (pl:=_) E? T.cl M1.mt G1 hr M1.bd O! Au fB!)) (Ag (K8 hu C? Q! L! Jew K0!)) (CQ! (Wx! T.cl M5.mt G5 M5.bd (Vi! L!)))) Gz!);refine SD! dx hp T.nH (F7 G) G.h (Me! S.dh);rw[Fo];have S1:jm! rQ! LD!:=S.QI (B4 G.hand tb);have KW:F6! ns!:=λb' o e h1 h2=>KN! SH!
 have b1:=sc! KW hb hb hb;rw[FU! ((HO.dT ((B4 G.hand tb).map Bj!))=Be rQ!)];generalize ns!=H1 at S1 KW b1;obtain⟨FK,HQ⟩:=S1.ob;refine pn! p FK HQ p b1;rcases k with⟨h,o,fV,k⟩|⟨h,k⟩;.rw[EY! (Du! tb.1 (LD!:BV).BR=true) PK!];refine Cd!;(have g1:DV H1 G.o Ex! (bs! o):=GA! (Ib S1.dO b1) (FU! ((LD!:BV).AF=G.AF)) fV);refine p1! C FK HQ T.nO (Da _) G.o g1 _ rfl rfl _ (tV! S1.dO b1 (QK! (G.AF.length<=1000)));rw[Ez];have S2:=S1.JB (Bh G.AF tb (o-wt));(have KC:F6! (AA! H1 G.o C5 (Yi! (o-wt))):=λb' o' e h1 h2=>rU! SH! KW);obtain⟨GX,FE⟩:=S2.ob;refine Ns! GX FE GX FE;rw[Bs];exact kB! S2.fld GX KC
 .rw[EY! (i? (Du! tb.1 (LD!:BV).BR)) VX!];refine At!;refine no! FK HQ (Cp _ ZV) b _ tb wt S1 b1 z3 (λH2 S2 KC=>?_);obtain⟨GX,FE⟩:=S2.ob;refine Ns! GX FE GX FE;rw[Bs];exact cQ! (S2.fld GX G.AW (CM!)) (i! h1 (a5! KC (KW _ _ e h1 h2)))
inductive Yi(vs:E!)(H:Hp)(Q:VK)(E:XK):Prop
 | mk (p b:Addr) (G:BV) (tb:T2) (sh:Int) (_:vs=[Op,Os,R! sh]) (_:Z?) (_:AP!) (_:LE!) (_:LB!) (_:rj! (tb∉G.hand) YK ((B8!/\O0!/\∃o,nV!/\Done p G H (eH! (Np! (o+sh))) (Q (g! sh)))\/(B8!/\Im!/\∃wt,sU! G.AJ.find? wt/\((wt=0/\Ni! NW)\/(wt≠0/\Done p G H (U7! (rm! (wt-Hi wt))) (Q (g! (Hi wt))))))))
theorem jE:I? [BX!,"b",Ah!,"goes"] Lk! V6:={}
theorem Jgr(F:j! "part" qS! V6)(T:Txt)(M1:nm!)(M2:Z1! f2 mS)(M6:PW! qd! qe! O3 f6 fd6)(MP:Ae! TS! Jj K6! fP fdP) : XP! Lk! Yi:=by
 have G1:sG! f1 kI Ti:=Pf! Ud M1.fn T;have G2:i2! mS N9:=Pk M2.fn T;have G6:ID 2 f6 fd6 Kh! (Zx):=Jee M6.fn T MP;refine Co! jE;obtain⟨p,b,G,tb,sh,rfl,S,hb,z1,z2,k⟩:=h;refine Y!;have hu:=V?;have FV:ca:=k!;obtain⟨dx,hp⟩:=S.ob;refine Rs! (tj! T.cl M2.mt G2 M2.bd) (Jk! (Bo (Hw (Ap (pl:=_) E? T.cl M1.mt G1 FV M1.bd O! Cr fB!)) (ED! (K8 hu C? Q! L! Ep K0!) (WF! jE.nd L!)) (Ag (sv! 3 jE.nd (tQ! T.cl M6.mt G6 hr M6.bd)))) Gz! 3);refine⟨_,rfl,p,dx,_,rfl,hp,KE,_,rfl,p,b,G,tb,rfl,S,hb,?_⟩;rcases k with k|⟨h1,h2,o,fV,k⟩|⟨h1,h2,wt,fV,k⟩;.exact N! k
 .refine H! ⟨h1,_,rfl,p,dx,_,rfl,hp,KE,_,rfl,p,b,G,tb,rfl,S,hb,_,rfl,?_⟩;rw[D2! h2];refine Cd!;(have g1:mr! G.o o:=Fc! (Ib S.dO hb) fV);refine p1! C dx hp T.nO (Da _) G.o g1 _ rfl rfl _ (Me! S.dO);rw[Ez];have S1:ky! (Yi! (o+sh)) (O1! (o+sh)):=S.JB _;obtain⟨FK,HQ⟩:=S1.ob;refine⟨_,rfl,_,rfl,p,C,FK,_,_,rfl,HQ,T.cl,T.nT,Cv _,_,_,rfl,rfl,FK,_,HQ,Er _,?_⟩;rw[Bs];refine Vn!;exact pt! (O1! (o+sh))
 .refine H! ⟨h1,_,rfl,p,dx,_,rfl,hp,KE,_,rfl,p,b,G,tb,rfl,S,hb,_,rfl,?_⟩;rw[Al! h2];refine At!;refine⟨_,rfl,p,dx,_,rfl,hp,KE,_,rfl,p,b,G,tb,wt,rfl,S,hb,fV,z2,?_⟩;rcases k with k|⟨h3,k⟩;(.exact Iu!);.refine c? h3 H1!;obtain⟨FK,HQ⟩:=S1.ob;refine SV!;rw[Bs];exact t? (kB! S1.fld FK KW)
universe E
inductive NK(vs:E!)(H:Hp)(Q:VK)(E:XK):Prop
 | mk (p dx:Addr) (n:Int) (_:WM!) (_:Wd! C []) (_:∀(h o l r:Addr)(H':Hp),H h=none->p? o->FB!->PR!->JM! ⟨n,0,0,h,o,l,r,[],[],[],[]⟩->(J1! H')->Hh!)
inductive Tj(vs:E!)(H:Hp)(Q:VK)(E:XK):Prop
 | mk (p:Addr) (G:BV) (_:Gf!) (_:Z?) (_:eF!) (_:LE!) (_:G.holds.length<=500) (_:(KI! (t≠ii))) (_:(∀q∈G.AF,lu!)) (_:(ND! lu!)) (_:∀(t a:Addr)(H':Hp),p? t->LU!->k0! ii->JM! { G with AW:=Dz!,AS:=CM!,hand:=Tb!,AF:=L8!,holds:=IZ! }->Wu!->BQ! t)
inductive Jc5(vs:E!)(H:Hp)(Q:VK)(E:XK):Prop
 | mk (p:Addr) (G:BV) (_:Gf!) (_:Z?) (_:Qa! G.AS)
inductive aF(H:Hp)(v:V)(r:K8!):Prop
 | mk (a t hd:Addr) (cs:J!) (_:Ub!) (_:L1! [HJ!,R! be,l! hd]) (_:s7! r.1) (_:NK! hd cs.map V.ref) (_:AX H cs BP!)
theorem aF.keep(x:aF H v r)(k:u?):aF H' v r:=by obtain⟨a,t,hd,cs,e,e1,e2,e3,e4⟩:=x;exact⟨a,t,hd,cs,e,Nv! e1,XD!,Nv! e3,AX.keep k e4⟩
inductive pD(H:Hp)(x:Addr)(hs:D!)(os:Dd!)(rs:T!):Prop
 | mk (y1 y2 y3:Addr) (as:J!) (bs:E!) (ds:J!) (_:KT! x (nb! y1 y2 y3)) (_:kl! y1) (_:AX H as hs) (_:KT! y2 bs) (_:CI! (aF H) bs os) (_:(∃ob,z! H y3 (.GB ob (WD! ds.map))/\Jfo ob)) (_:Yo! H ds)
inductive Yh(vs:E!)(H:Hp)(Q:VK)(E:XK):Prop
 | mk (p t:Addr) (G:BV) (th:T2) (w:Int) (a:Addr) (hl hs:D!) (_:Gc!) (_:Z?) (_:Ck!) (_:HD! G.AF.find? H0!=B! (th,w)) (_:PA! (fj! H0!) th) (_:eJ!) (_:hs.Perm hl) (_:fx!) (_:eK! KB (aF H' PF! (th,w,hs)) (BQ! x))
structure Rows(G:BV)(os:Dd!):Prop where
 pm:(os.map (·.1)).Perm (G.AF.map BF!)
 pw:(os.map (·.1)).Pairwise HR
 at_:∀q∈os,R5! G.AF.find?=B! (q.1,D?)/\∃a hl,PA! (R5! G.holds.find?) q.1/\eJ!/\q.2.2.Perm hl/\q.2.2.Pairwise HR
inductive K0(vs:E!)(H:Hp)(Q:VK)(E:XK):Prop
 | mk (p:Addr) (G:BV) (hs:D!) (os:Dd!) (rs:T!) (_:Gf!) (_:Z?) (_:G.hand.length<64) (_:G.AF.length<64) (_:G.AJ.length<64) (_:hs.Perm G.hand) (_:fx!) (_:Rows G os) (_:Cm!) (_:IP!) (_:eK! KB (pD H' x hs os rs) (BQ! x))
universe S
theorem scI:I? LP! LP! V9:={}
theorem WY(F:fP! qO! V9)(T:Txt):BW! LP! NK:=by
 refine Y? scI;obtain⟨p,dx,n,rfl,hp,k⟩:=h;refine Y!;refine Bq! (Ad (TP! Q!) (Ad (TP! Af) (ZT! Af E2 (ZT! E2 E2 (Wf! Dk E2 rfl)))));refine⟨_,rfl,_,rfl,p,C,dx,[],rfl,hp,T.cl,T.nN,ma!,?_⟩;refine t3! Ab T.nM (sw! (1<1000));rw[Sx];refine t3! Ab T.nT (by rw[En,B5 Gf,En];show 2<1000;decide);rw[Sx];have step:∀{H1:Hp} {d:Addr} {fs:Bc!} {o:HO},NX! H1 C fs->(J1! H1)->IA! d->NX! (upd H1 d o) C fs/\(J1! (upd H1 d o))/\d≠p/\p? d:=λ{H1 d fs o} e1 e2 e3=>by have s_:p≠d:=Aj e1 e3;refine⟨i! s_ e1,λb u e hb=>i! (Aj (e2 b u e hb) e3) (e2 b u e hb),s_.symm,?_⟩;cases q:H d with | none=>rfl | some u=>rw[e2 d u q s_.symm] at e3;cases e3
 have a0:J1! (upd H p (Sc C dx (Ar Aw! NP! OI!))):=λb u e hb=>KN! hb
 intro d1 h1;obtain⟨b1,b2,b3,b4⟩:=pB! a0 h1;refine jv! b1 T.nH;.have:=oN!;have:=o0!;have:=lF!;simp only[BX] at *;lia
 have c0:∀{H1:Hp} {fs:Bc!},(J1! H1)->J1! (upd H1 p (Sc C dx fs)):=λe b u e1 hb=>e8! (e b u e1 hb)
 intro d2 h2;obtain⟨b5,b6,b7,b8⟩:=pB! (c0 b2) h2;refine jv! b5 T.nO;.have:=Qs! BK! d1 Aw! NP! OI!;have:=oN!;have:=o0!;have:=lF!;simp only[BX] at *;lia
 intro d3 h3;obtain⟨b9,m4,ux,b12⟩:=pB! (c0 b6) h3;refine jv! b9 T.nL;.have:=A3 Ax! ej! (mX! d1 NP! OI!);have:=Qs! BK! d1 Aw! NP! OI!;have:=oN!;have:=o0!;have:=lF!;simp only[BX] at *;lia
 intro d4 h4;obtain⟨b13,b14,b15,b16⟩:=pB! (c0 m4) h4;refine jv! b13 T.nR;.have:=Qs! Ay! d3 Ax! ej! (mX! d1 NP! OI!);have:=A3 Ax! ej! (mX! d1 NP! OI!);have:=Qs! BK! d1 Aw! NP! OI!;have:=oN!;have:=o0!;have:=lF!;simp only[BX] at *;lia
 have eZ:d1≠d2:=λz=>by rw[<-z,GS!,Ab] at h2;cases h2
 have iT:d1≠d3:=λz=>by rw[<-z,GS!,Ac eZ,GS!,Ab] at h3;cases h3
 have iS:d2≠d3:=λz=>by rw[<-z,Ac b7,Ab] at h3;cases h3
 have yv:d1≠d4:=λz=>by rw[<-z,GS!,Ac iT,GS!,Ac eZ,GS!,Ab] at h4;cases h4
 have yu:d2≠d4:=λz=>by rw[<-z,Ac b7,Ac iS,Ac b7,Ab] at h4;cases h4
 have yt:d3≠d4:=λz=>by rw[<-z,Ac ux,Ab] at h4;cases h4
 refine k d1 d2 d3 d4 _ b4 b8 b12 b16 ⟨d? dx,?_,?_,?_,?_,TD (by simp at hq),?_⟩ (c0 b14);.rw[Ab,<-Jjd]
 .rw[GS!,Ac yv,GS!,Ac iT,GS!,Ac eZ,GS!,Ab];rfl
 .rw[Ac b7,Ac yu,Ac b7,Ac iS,Ac b7,Ab];rfl
 .rw[Ac ux,Ac yt,Ac ux,Ab];rfl
 .rw[Ac b15,Ab];rfl
 .simp[BL,eZ,iT,yv,iS,yu,yt]
theorem yR:bX! HB! V7:={}
theorem Jgs(F:j! Nc! qQ! V7)(T:Txt):QC! Tj:=by
 refine Y? yR;obtain⟨p,G,rfl,S,z1,z2,z3,f1,f2,f3,k⟩:=h;refine Y!;have hu:=V?;refine P4! yR.nd (bg! C? C?) (Ad Gz! (Bs! (Q2! Af) (Q2! E2) (Jk! (Q2! Dw) Gz! 1)));obtain⟨dx,hp⟩:=S.ob;refine⟨_,rfl,p,C,dx,_,_,rfl,hp,T.cl,T.nN,R4 G,_,rfl,p,C,dx,_,_,rfl,hp,T.cl,T.nM,Jai G,AN!,EJ!⟩;have s1:=Ev! (Tf! G.BR G.AW) ht;have S1:=Qq!;have t1:rL! (CG! t .BG (Tf! G.BR G.AW)) t ii:=Ab;generalize GY! H t (Tf! G.BR G.AW)=H1 at s1 S1 t1;obtain⟨FK,HQ⟩:=S1.ob;refine⟨_,rfl,p,C,FK,_,_,rfl,HQ,T.cl,T.nM,Jai G,_,_,rfl,rfl,FK,_,HQ,Er G,?_⟩;rw[Xp];have S2:=S1.fld FK (Dz!) G.AS;have KC:Pn! H1 FT! (upd H1 p (Sc C FK (B7 eL!))):=Cw! (KN! hb)
 have tp:=S1.tup_ne t1;have t2:=h! KC t1 tp.1;have S2:Em! (upd H1 p (Sc C FK (B7 eL!))) eL!:=S2;generalize upd H1 p (Sc C FK (B7 eL!))=H2 at S2 KC t2;obtain⟨GX,FE⟩:=S2.ob;refine SD! GX FE T.nO (Da _) G.o (TO! ii S2.dO t2 (QK! (G.AF.length<=1000)));have e3:putK (G.AF.map eM!) te! (V.int 0)=(L8!).map eM!:=Tu! (Jm (k:=Ab!) (f:=DH!) _ f2)
 have S3:=S2.JB (L8!);unfold C5 at S3;rw[<-e3] at S3;have r6:=S2.tup_ne t2;have KU:Pn! H2 N3! (Ka! G.o .dT (Rt! G.AF.map eM! (V.int 0))):=Cw! (cJ! (M? hb K9!))
 have t3:=h! KU t2 r6.2;generalize Ka! G.o .dT (Rt! G.AF.map eM! (V.int 0))=H3 at S3 KU t3;intro a ha;have s4:=WQ! ha;have S4:=S3.same s4;have a4:gT! H3 a .dT [] a []:=Ab;have t4:=DT! t3;have af:a∉A2!:=λm=>by obtain⟨kvs,e⟩:=S3.MY (b:=a) (by have:BL { G with AW:=Dz!,AF:=tc! }=BL G:=rfl;rw[this];exact m);rw[ha] at e;cases e
 generalize W3! H3 a=H4 at s4 S4 a4 t4;obtain⟨XR,cQ⟩:=S4.ob;refine SD! XR cQ T.nL (Fh _) G.l (TO! ii S4.dl t4 (QK! (G.holds.length<=1000)));have e5:putK (G.holds.map Hx!) te! (V.ref a)=(IZ!).map Hx!:=Tu! (Jm (k:=DC!) (f:=a6!) _ f3)
 have S5:=S4.gN ii a4 af;unfold E7 at S5;rw[<-e5] at S5;have TQ:Pn! H4 N3! (AA! H4 G.l .dT (Rt! G.holds.map Hx! (V.ref a))):=Cw! (cJ! (M? hb K9!))
 have t5:=h! TQ t4 r6.2;generalize AA! H4 G.l .dT (Rt! G.holds.map Hx! (V.ref a))=H5 at S5 TQ t5;obtain⟨bN,aY⟩:=S5.ob;refine SD! bN aY T.nH (F7 _) G.h (TO! ii S5.dh t5 (QK! (G.hand.length<=1000)));have e6:putK (G.hand.map eN!) te! (V.bl true)=(Tb!).map eN!:=Tu! (Jm (k:=qA!) (f:=Of!) _ f1)
 have S6:=S5.QI (Tb!);unfold Be at S6;rw[<-e6] at S6;have YV:Pn! H5 N3! (AA! H5 G.h .dT (Rt! G.hand.map eN! cO!)):=Cw! (cJ! (M? hb K9!))
 have t6:=h! YV t5 r6.2;generalize AA! H5 G.h .dT (Rt! G.hand.map eN! cO!)=H6 at S6 YV t6;obtain⟨XE,aX⟩:=S6.ob;refine Ns! XE aX XE aX;rw[Bs];have S7:=S6.fld XE (Dz!) (CM!);have O_:∀{b:Addr},Pv!->s?:=λ{b} e=>C0 s1 e;have T_:F6! (upd H6 p (Sc C XE (B7 { G with AW:=Dz!,AS:=CM!,AF:=L8!,holds:=IZ!,hand:=Tb! }))):=λb o e hb hf=>e8! (h! YV (TQ _ _ (v! s4 (KU _ _ (KC _ _ (v! s1 e) hb) hf)) hf) hf)
 refine t? (k t a _ ht ?_ (Hd! tp.1 t6) S7 T_);cases q:H a with | none=>rfl | some u =>exfalso;(have nap:a≠p:=λz=>by rw[z,S3.ob.choose_spec] at ha;cases ha);have:HC! H3 u:=h! KU (KC _ _ (v! s1 q) nap) af;rw[ha] at this;cases this
theorem scT:Xe! V5:={}
theorem Jgp(F:j! "tick" qk! V5)(T:Txt):QC! Jc5:=by refine Y? scT;obtain⟨p,G,rfl,S,k⟩:=h;refine Y!;obtain⟨dx,hp⟩:=S.ob;exact Az! (Ag (Az C?)) ⟨_,rfl,p,C,dx,_,_,rfl,hp,T.cl,T.nT,Cv G,k⟩
universe E
theorem NZ{a b c:Str}{k:NameKind}{cl:Bz!}{y:Str}(hc:jE!)(h:kE! KM\/kE! Cq!):Mh!:=Ih!
theorem Jbh(s:KB)(x:Yo! H as):Yo! H' as:=f6! (by obtain⟨ka,e1,e2⟩:=h9;exact⟨ka,H9! s,F! s e2⟩) x
universe S
theorem Jl2:ZS! V4:={}
theorem Le(f:α->β)(l:S!):VV! l.map (λt=>(t,f t))=l:=G! AQ (GV l)
theorem Jgo(F:j! TN! qa! V4)(T:Txt):BW! HB! Yh:=by
 refine Y? Jl2;obtain⟨p,t,G,th,wt,a,hl,hs,rfl,S,ht,f1,f2,aj,pm,pw,k⟩:=h;refine Y!;have hu:=V?;obtain⟨dx,hp⟩:=S.ob;have g1:DV H G.o Kg! (bs! wt):=GA! (r4! S.dO) m7! f1
 have g2:DV H G.l Kg! (some (V.ref a)):=GA! (r4! S.dl) ZZ! f2
 have g3:GW! a hl:=S.hl _ (A_ f2);refine Bq! (Ag (Az (Co (HN! Q! Xk! (Yt! (Zi! Xk!))))));refine⟨_,rfl,_,rfl,p,C,dx,_,_,rfl,hp,T.cl,T.nO,Da G,_,rfl,G.o,_,rfl,g1,_,rfl,p,C,dx,_,_,rfl,hp,T.cl,T.nL,Fh G,_,rfl,G.l,_,rfl,g2,a,_,hs,rfl,Jaj g3,qJ! aj,P! Le pm,pw,λr as hr ha=>?_⟩;refine RC! r Ab (λx2 tV=>⟨NO! 3,DP!⟩);have s1:=IU! as.map hr;have s2:=Wv! as.map tV;have s3:=gV! [m? t,H? wt,m? x2];have ss:=Ak s1 (Ak s2 s3);exact k x _ ss ⟨x,t,x2,as,rfl,Ab,F! ss ht,D8! Ab,Ls! (E9! ss) ha⟩
theorem jo:bX! [BX!,BK!,"things",BL!] Mf:={}
theorem Jeb{f fT:Addr}{fd uX:FuncData}(F:j! TM! "House.state" Mf)(T:Txt)(FT:FL K TN! qa! V4 fT uX)(bT:Km! uX HB!)(mT:nU K C TN! fT) : Gt! UV K0:=by
 have GT:CJ! fT uX HB! Yh:=Jgo FT T;refine Y? jo;obtain⟨p,G,hs,os,rs,rfl,S,z1,z2,z3,pm,pw,R,pmr,pwr,k⟩:=h;refine Y!;have FV:ca:=k!;obtain⟨dx,hp⟩:=S.ob;refine P4! jo.nd (Yt! (Zi! C?)) (NZ! 2 jo.nd (Yt! (E4 (caps:=Jx!) rfl (C9 (Zi! C?)) rfl ZV rfl ZV rfl He! Jg! Hm! ZV UU! (Ej! (Ap Q! T.cl mT GT FV bT O! Au fA!)))) (WF! jo.nd (ba! Qq T.tuple DY (Bg (Lx rfl (Mw hr)) KG! T.sorted CZ (wP (Mi DE PySem.F.slot_dict_items PySem.F.type_dict_items Jen C?))))) (gl! (HN! Q! L! A?)));refine⟨_,rfl,p,C,dx,_,_,rfl,hp,T.cl,T.nH,F7 G,G.h,_,hs,rfl,Jaj S.dh,qJ! z1,P! Le pm,pw,λr1 JL wy qT=>RC! r1 Ab (λx1 tW=>?_)⟩;have s1:=IU! JL.map wy;have s2:=Wv! JL.map tW;have pj:=Ak s1 s2;have S1:=S.same pj;have q1:ro! (upd (Po! r1 JL.map) x1 (.BG (JL.map V.ref))) x1 JL.map:=Ab;have o3:AX (upd (Po! r1 JL.map) x1 (.BG (JL.map V.ref))) JL hs:=Ls! (E9! pj) qT;generalize upd (Po! r1 JL.map) x1 (WD! JL.map)=H1 at pj S1 q1 o3;obtain⟨FK,HQ⟩:=S1.ob;have e0:HA! (G.AF.map iR!).map=CO!:=Hv!
 refine⟨_,rfl,p,C,FK,_,_,rfl,HQ,T.cl,T.nO,Da G,G.o,_,G? os.map,rfl,Jev S1.dO,qJ! z2,P! e0 R.pm,R.pw,λr2 OI IP YT=>Xt! r2 CX!⟩;have s3:=IU! OI.map IP;have qe:Dx! (uK! H1) r2 OI.map:=Ab;have S2:=S1.same s3;have yL:=Ak pj s3;have ow:AX (uK! H1) OI (os.map BF!):=Ls! Wk! YT;have oy:AX (uK! H1) JL hs:=Ls! Wk! o3;have ya:=D8! q1;generalize JU! H1 r2 OI.map=H2 at s3 qe S2 yL ow oy ya hq;have hlen:OI.length=os.length:=Fc! (L? YT) ZA
 have hos:os.length<64:=by have h1:=R.pm.length_eq;rw[ZA,ZA] at h1;lia
 refine Fs (K:=K) (a:=r2) (xs:=Dy! OI.map) (tt:=RM!) (te:=Rb C TN! (Yh) [] E0 (B9 1) (Dy (B9 0) Mb)) (caps:=Jx!) (σ:=[GT!,UF x1,none,none]) (λi ys H3=>S0! H3 q/\Bl H2 H3/\H8! (aF H3) ys os.take i) (Oc! Ab (Ah hq) IW O!) (λi ys H3 _ h=>Uh! h.2.1 qe h.1) ?_ ?_;.rintro i x ys H3 N hx ⟨e3,s4,pr⟩ hN;refine Cd!;rw[ZH] at hx;cases fQ:OI[i]? with | none=>rw[fQ] at hx;cases hx | some ai =>rw[fQ] at hx;cases hx;(have kD:i<os.length:=KY! hlen fQ);obtain⟨qo,uC⟩:=An kD;have eth:=Ax ow i ai qo.1 fQ (UY! uC);obtain⟨f1,a,hl,f2,f3,f4,f5⟩:=R.at_ qo (ZP uC);have S3:=S2.same s4;obtain⟨OH,ND⟩:=S3.ob;refine⟨_,rfl,p,OH,_,rfl,ND,KE,_,rfl,p,ai,G,qo.1,qo.2.1,a,hl,qo.2.2,rfl,S3,DT! eth,f1,f2,f3,f4,f5,λx2 H5 s5 rep=>Ue! (F! s5 e3) ?_ (Go Ab Ie!)⟩;(.have:=L? pr;rw[this];exact A4 (AR (List.length_take_le _ _) C!));(.have nb:b≠q:=Aj e hq;rw[Ac nb];exact iU! s5);·(have kq:BM H5 (FX! H5 q (ys++[m? x2])):=Ag! (F! s5 e3));(have et:Ff! os.take=os.take i++[qo]:=dv! uC);rw[et];exact F4 (rep.keep kq) (Aw (λ_ _ r=>(r.keep (FF s5)).keep kq) pr)
 .rintro ys H3 ⟨e3,s4,pr⟩;rw[ZA,hlen,BS] at pr;refine RC! q e3 (λx2 tV=>?_);have s5:=Ev! ys tV;have yK:=Ak yL (Ak s4 s5);have S4:=(S2.same s4).same s5;have q2:Mn! H3 x2 ys x2 ys:=Ab;have yZ:=DA! s5 s4 ya;have ox:AX (AA! H3 x2 .BG ys) JL hs:=Ls! (iU! s5) oy;have yd:CI! (aF (AA! H3 x2 .BG ys)) ys os:=P0! (r.keep (FF s5)) pr;generalize GY! H3 x2 ys=H4 at s5 yK S4 q2 yZ ox yd;obtain⟨XR,cQ⟩:=S4.ob;have uo:=S4.dr;refine⟨_,rfl,p,C,XR,_,_,rfl,cQ,T.cl,T.nR,C6 G,wp (ar! (n? (N! (T? uo)))),G.r,_,rfl,rfl,uo,Ot!⟩;have s6:=Dr! (U7 v G.r) hv;refine⟨v,G.r,G.AJ,rs,rfl,Ab,F! s6 uo,z3,pmr,pwr,λr3 qj H7 s7 aW e7 pr7=>⟨r3,_,rfl,WF e7,λx3 yg hx3 pl3=>?_⟩⟩;have s8:=Dr! (.GB yg (WD! qj.map)) hx3;refine⟨_,rfl,_,rfl,_,rfl,NO! 3,DP!⟩;have s9:=gV! [m? x1,m? x2,m? x3];have lI:=Ak s6 (Ak s7 (Ak s8 s9));exact k x _ (Ak yK lI) ⟨x1,x2,x3,JL,ys,qj,Ab,F! lI yZ,Ls! (E9! lI) ox,F! lI q2,P0! (r.keep (FF lI)) yd,⟨yg,Iv! s9,pl3⟩,Jbh (Ak s8 s9) pr7⟩
universe E
universe S
theorem jH:I? [Kd!,a4!,bA!] ZG! Z3:={}
inductive Jda(vs:E!)(H:Hp)(Q:VK)(E:XK):Prop
 | mk (a:Addr) (ns:d!) (k:Int) (_:vs=[Tk,R! k]) (_:sB! DO) (_:U6!) (_:0<=k) (_:k<=1000) (_:∀v:Int,Qa! v)
theorem Jgx(F:j! qs! qs! Z3)(hn:WW!):BW! ZG! Jda:=by
 refine Y? jH;obtain⟨a,ns,k,rfl,hS,hl,h0,JMg,kk⟩:=h;refine Y!;have hlen:o? ns.map V.int=ns.length:=ZA ..;have item:∀i:Int,0<=i->i<ns.length->∃v,QE (ns.map V.int) i=B! (dj v):=λi a b=>by obtain⟨x,hx⟩:=HT! ns i.toNat;exact⟨x,Bu a (a1! hx)⟩
 refine IF! (Dv! (FY! vQ Q! (qN! hn E?)) (BS! (A6 Bk E? Q!))) (NZ! 2 jH.nd (Le! (Lf! Q!)) (Dv! (FY! vP (qN! hn E?) Af) (Ag (sv! 2 jH.nd (HM! (Ay Eo (Lf! (A6 Bk E? (Ay Bj (Lf! Q!) (qN! hn E?)))) (Ay Ge Q! Af)))))) (BS! (HM! (Ay Ge L! L!))));refine⟨_,rfl,_,rfl,a,_,rfl,H! hS,_,_,rfl,rfl,_,rfl,?_⟩;refine kj (λc1=>?_) (λ_=>?_);.have c1:=BK c1;obtain⟨v,hv⟩:=item k h0 (by rw[hlen] at c1;exact c1);exact⟨_,rfl,_,rfl,a,_,_,_,rfl,rfl,hS,hv,kk v⟩
 .refine⟨_,rfl,_,_,rfl,rfl,Jt!,_,_,rfl,rfl,?_⟩;refine ol! a (H! hS) _ rfl _ rfl;refine kj (λc2=>?_) (λ_=>?_);(.have c2:=BK c2;(have oV:Ei! (S? ns.length):=by rw[hlen] at c2;exact c2);obtain⟨v,hv⟩:=item (k*7 % S? ns.length) (BY _ C!) (CA _ oV);refine⟨_,rfl,_,rfl,_,_,rfl,rfl,Jt!,_,rfl,a,_,rfl,H! hS,_,_,rfl,rfl,P! hlen oV,a,_,_,_,rfl,rfl,hS,P! hlen hv,_,_,rfl,rfl,Jt!,_,rfl,_,_,rfl,rfl,Jt!,_,_,rfl,rfl,_,_,rfl,rfl,NN! 2147483647,?_⟩;refine⟨_,rfl,_,rfl,_,_,rfl,rfl,H! JE!,_,_,rfl,rfl,f1!,kk _⟩;(.have:=BY (v*48271+k*7919) (r0! 2147483647);lia);.have:=CA (v*48271+k*7919) (ah! 2147483647);lia);.exact⟨_,rfl,_,rfl,_,_,rfl,rfl,Am! A! A!,_,_,rfl,rfl,f1!,kk _⟩
universe E
theorem Uu(h1:HR a b)(h2:HR b c):HR a c:=by rw[Ef] at *;lia
theorem Uv(h:a≠b)(h1:¬HR a b):HR b a:=by rw[Ef] at *;have:¬(Y7!/\a.2=b.2):=λz=>h (Prod.ext z.1 z.2);lia
theorem K1(key:Bf!)(x:α):∀{s:S!},(s.map key).Pairwise HR->(∀y∈s,key x≠key y)->∃s':S!,dC! (s'.Perm (x::s)) s'.map
 | [],_,_=>jQ! [x]
 | y::s,h,ne=>by have h':=DP.mp h;by_cases e:HR (key x) (key y);(.refine⟨x::y::s,bo!,mW! h⟩;rcases ZM hz with rfl|hz;(.exact e);.exact Uu e (h'.1 z hz));.obtain⟨s',p,q⟩:=K1 key x h'.2 (ry! ne);refine⟨y::s',(p.cons y).trans (List.Perm.swap x y s),mW! q⟩;obtain⟨u,hu,rfl⟩:=Cc!;rcases ZM (p.mem_iff.mp hu) with rfl|hu;(.exact Uv (ne y En!) e);.exact h'.1 _ (BC hu)
theorem sorts(key:Bf!):in! (Oe! key) (∃s:S!,dC! (s.Perm l) s.map)
 | [],_=>jQ! []
 | x::l,nd=>by have MT:=Bg!;obtain⟨s,p,q⟩:=sorts key MT.2;obtain⟨s',p',q'⟩:=K1 key x q λy hy e=>F2! MT.1 ⟨y,p.mem_iff.mp hy,e.symm⟩;exact⟨s',p'.trans (p.cons x),q'⟩
structure Good(G:BV):Prop where
 h1:G.hand.Nodup
 h2:G.hand.length<64
 o1:y? G.AF.map
 o2:G.AF.length<64
 r1:y? G.AJ.map
 r2:G.AJ.length<64
 at_:∀q∈G.AF,∃a hl,R5! G.holds.find?=B! (q.1,a,hl)/\hl.Nodup/\eJ!
structure Told(G:BV)(hs:D!)(os:Dd!)(rs:T!):Prop where
 pm:hs.Perm G.hand
 pw:fx!
 XC:Rows G os
 pr:Cm!
 wr:IP!
theorem GF{l:T!}(nd:V1!){q:Cz!}(hq:q∈l):R5! l.find?=B! q:=by induction l with | nil=>cases hq | cons x l ih =>have MT:=Bg!;rcases ZM hq with rfl|hq;(.simp);.have ne:¬x.1=q.1:=bc! MT.1 (NQ! z.symm);rw[BU,Al! ne];exact ih MT.2 hq
theorem Z4(g:Good G):∀{s:T!},(∀q∈s,q∈G.AF)->∃os:Dd!,os.map (λq=>(q.1,D?))=s/\∀q∈os,R5! G.AF.find?=B! (q.1,D?)/\∃a hl,PA! (R5! G.holds.find?) q.1/\eJ!/\q.2.2.Perm hl/\q.2.2.Pairwise HR
 | [],_=>DO! [] (TD (sw hq))
 | x::s,h=>by obtain⟨os,e,k⟩:=Z4 g (TD (h q (wn hq)));have hx:=Cj! x;obtain⟨a,hl,f,nd,z⟩:=g.at_ x hx;obtain⟨hs,p,q⟩:=oA! sorts hl nd;rw[GV] at q;refine⟨(x.1,x.2,hs)::os,R? AI e,If!⟩;rcases ZM hy with rfl|hy;(.exact⟨GF g.o1 hx,a,hl,f,z,p,q⟩);.exact k y hy
theorem Good.told(g:Good G):∃hs os rs,Gm!:=by
 obtain⟨hs,p1,q1⟩:=oA! sorts G.hand g.h1;obtain⟨so,p2,q2⟩:=sorts (Ab!) g.o1;obtain⟨rs,p3,q3⟩:=sorts (Ab!) g.r1;obtain⟨os,e,k⟩:=Z4 g (TD (p2.mem_iff.mp hq));have e1:T0! os.map so.map:=by rw[<-e,AQ];rfl
 rw[GV] at q1;exact⟨hs,os,rs,p1,q1,dE! (G! e1 (p2.map _)) e1 q2 k,p3,q3⟩
inductive Zy(vs:E!)(H:Hp)(Q:VK)(E:XK):Prop
 | mk (p dx:Addr) (_:Gf!) (_:Wd! CP []) (_:∀(d:Addr)(H':Hp),p? d->HU CP H' p d 0 []->(MK! FT!)->Hh!)
inductive Gc(vs:E!)(H:Hp)(Q:VK)(E:XK):Prop
 | mk (p d:Addr) (c:Int) (ls:o!) (k s g a:V) (_:vs=[Op,k,s,g,a]) (_:aK! CP) (_:ls.length<=700) (_:rc! (p? t->Tz! t [g! (c+1),k,s,g,a]->HU CP H' p d (c+1) (ls++[(c+1,t)])->(OF! FT! (b≠d) FA!)->W5! (c+1)))
inductive Ox(vs:E!)(H:Hp)(Q:VK)(E:XK):Prop
 | mk (p d:Addr) (c:Int) (ls:o!) (_:Gf!) (_:aK! CP) (_:∀(l:Addr)(H':Hp),FB!->QQ! ls.map Ne!->KB->BQ! l)
inductive V2(vs:E!)(H:Hp)(Q:VK)(E:XK):Prop
 | mk (p d:Addr) (c:Int) (ls:o!) (n:Int) (_:WM!) (_:aK! CP) (_:((∃(l1 l2:o!)(t:Addr),ls=Qd!/\∀(H':Hp),HU CP H' p d c (NI!)->(MK! (b≠d))->BQ! t)\/((A0! (l.1≠n))/\Ni! NL)))
universe S
theorem Jl9:Xe! O4:={}
theorem Jed(F:fP! qP! O4)(T:L4):QC! Zy:=by
 refine Y? Jl9;obtain⟨p,dx,rfl,hp,k⟩:=h;refine Y!;refine Bq! (Ad (TP! Af) (Ag (TP! Fe)));refine⟨_,rfl,p,CP,dx,[],rfl,hp,T.cl,T.nL,ma!,?_⟩;intro d hd;have mC:p≠d:=λz=>by rw[<-z,Ab] at hd;cases hd
 have XD:p? d:=by rw[ak! mC] at hd;exact hd
 refine qz! CP (hC! mC) T.cl T.nW (sw! (1<1000)) ?_;refine k d _ XD ⟨Fh! Ab,Cx! (ak! mC) Ab,C2! (by simp at hl),CU⟩ (Cw! ?_);rw[DE!,Eu! XD,DE!];exact e
theorem Jl7:I? qX! qX! J0:={}
theorem Jo(F:j! "put" "Post.put" J0)(T:L4):BW! qX! Gc:=by
 refine Y? Jl7;obtain⟨p,d,c,ls,kk,ss,gg,aa,rfl,S,hl,k⟩:=h;refine Y!;have hu:=V?;obtain⟨⟨dx,h1⟩,hd,le,nd⟩:=id S;have lU:p≠d:=S.ne;refine Bq! (Ad Gz! (Ad (rX! C? (Co (e2! C? Q! L! A? O?))) (BS! C?)));refine⟨_,rfl,p,CP,dx,_,_,rfl,h1,T.cl,T.nL,Fn _ _,_,_,rfl,rfl,dx,_,h1,(by rw[Wn];show 2<1000;decide),?_⟩;rw[Jbm];have h2:NX! nv! CP (E8 (c+1) d):=Ab;have d2:z! nv! d (.dK (kvsOf ls)):=i! lU.symm hd
 refine⟨_,rfl,p,CP,dx,_,_,rfl,h2,T.cl,T.nL,Fn _ _,_,rfl,_,rfl,_,rfl,_,rfl,NO! 5,?_⟩;intro t ht;have yi:p≠t:=Aj h2 ht;have yp:d≠t:=Aj d2 ht;have zU:p? t:=by rw[Ac yi.symm] at ht;exact ht
 have h3:∀o,NX! (upd nv! t o) CP (E8 (c+1) d):=λo=>i! yi h2
 have d3:∀o,z! (upd nv! t o) d (.dK (kvsOf ls)):=λo=>i! yp d2
 refine⟨_,rfl,p,CP,dx,_,_,rfl,h3 _,T.cl,T.nW,Fb _ _,_,rfl,p,CP,dx,_,_,rfl,h3 _,T.cl,T.nL,Fn _ _,d,_,rfl,iV! (Sum.inl (c+1)) (d3 _) Td!,?_⟩;have xB:Ca (kvsOf ls) (fY! (c+1))=none:=U2! (gy! (by have:=le l hl;simp;lia))
 have xX:nh! ls (fY! (c+1)) t (ls++[(c+1,t)]):=by rw[Ha _ xB];unfold kvsOf;rw[ZF];rfl
 rw[xX];refine⟨_,rfl,p,CP,dx,_,_,rfl,Hd! lU (h3 _),T.cl,T.nL,Fn _ _,?_⟩;refine k t _ zU (F8! (Ac yp.symm) Ab) ⟨Fh! (i! lU (h3 _)),Ab,Il!,?_⟩ λb o e hp hb=>?_;.rcases ZI hl with hl|hl;(.have:=le l hl;lia);·(have e:l=(c+1,t):=by simpa using hl);rw[e];exact AL!
 .rw[ZF];refine F5 nd Ij!;obtain⟨l,hl,e⟩:=BD!;have:=le l hl;have e':l.1=c+1:=e;lia
 .rw[DE!,Eu! zU,Ac hp];exact e
theorem Jl8:Xe! G9:={}
theorem Wv(F:j! Nj! qm! G9)(T:L4):QC! Ox:=by
 refine Y? Jl8;obtain⟨p,d,c,ls,rfl,S,k⟩:=h;refine Y!;obtain⟨⟨dx,h1⟩,hd,le,nd⟩:=id S;refine Vo! Az (ba! (M0 rfl) T.list PyProof.Rows.boot_list (Mi DE IG OE Mp C?));refine⟨_,rfl,p,CP,dx,_,_,rfl,h1,T.cl,T.nW,Fb _ _,wp (ar! (n? (VS! hd))),d,_,rfl,rfl,hd,Ot!⟩;have ndv:d≠v:=Aj hd hv;refine⟨v,d,_,rfl,Ab,i! ndv hd,Il!⟩;have nvl:l≠v:=λz=>by rw[z,Ab] at hl;cases hl
 have zp:FB!:=by rw[Ac nvl] at hl;exact hl
 refine k l _ zp (by rw[Ab];unfold kvsOf;rw[AQ];rfl) Ie!;rw[Eu! zp,Eu! hv];exact e
theorem Jl6:I? CU! CU! K4:={}
theorem Jbr(F:j! "taken" qn! K4)(T:L4):ID 1 f fd CU! (V2):=by
 refine Co! Jl6;obtain⟨p,d,c,ls,n,rfl,S,k⟩:=h;refine Y!;have hu:=V?;obtain⟨⟨dx,h1⟩,hd,le,nd⟩:=id S;have lU:p≠d:=S.ne;refine IF! (fq! Ee (aJ! T.cNL)) (BS! (Wp C? Q! BR!));refine sj! CP dx h1 T.cl T.nW (Fb _ _) d _ (hy! hd);rcases k with⟨l1,l2,t,rfl,k⟩|⟨kC,k⟩;·(have ev:Xj! (Qd!)=B! Kg!:=U2! (Xu nd));rw[ev];refine At!;refine⟨_,rfl,p,CP,dx,_,_,rfl,h1,T.cl,T.nW,Fb _ _,d,rfl,VS! (H! hd),_,rfl,_,cB!,_,hd,rfl,ev,?_⟩;rw[Xy nd];(refine k _ ⟨Fh! (i! lU h1),Ab,C2! (le l ?_),?_⟩ (Cw! (KN! hb)));(.rcases ZI hl with hl|hl;(.exact j? hl);.exact rN! hl);.rw[ZF,AI] at nd;rw[ZF];refine Kr! (AK.mp nd).1 (AZ.mp (eu! nd)).2 (λa ha b hb=>Xo! a ha b (wn hb))
 ·(have ev:Xj! ls=none:=U2! (gy! (Ct! (kC l hl))));rw[ev];exact Ce k
universe E
universe S
inductive Zw(vs:E!)(H:Hp)(Q:VK)(E:XK):Prop
 | mk (p t:Addr) (G:BV) (th:T2) (_:Gc!) (_:Z?) (_:Ck!) (_:Q (YU! (z! (G.AJ.find? (UV! H0!)).map T0 0)) H)
theorem Jl4:ZS! O2:={}
theorem Jec(F:j! qb! qc! O2)(T:Txt):BW! HB! Zw:=by refine Y? Jl4;obtain⟨p,t,G,th,rfl,S,ht,k⟩:=h;refine Y!;have hu:=V?;obtain⟨dx,hp⟩:=S.ob;refine Vo! Az (mY! (Jdy hu C? Q! BR!) Af);refine⟨_,rfl,p,C,dx,_,_,rfl,hp,T.cl,T.nR,C6 G,G.r,rfl,T5! S.dr,_,rfl,_,Ib S.dr ht,?_⟩;cases e:bT! G.AJ.find? H0! with | none =>rw[e] at k;exact n? k | some q =>rw[e] at k;refine IC!;(have e2:Du! (H? q.2) (H? 0)=a? (z! (some q).map T0 Sq!):=B?);show Q (V.bl (decide (H? q.2=H? 0))) H;rw[e2];exact k
universe E
universe S
inductive Fc(vs:E!)(H:Hp)(Q:VK)(E:XK):Prop
 | mk (p:Addr) (h:Int) (W:DI) (_:WL!) (_:ol) (_:aI! (am q H))
theorem Jdh:kh! Ex:={}
theorem E9(F:j! ac! "World.house" Ex)(T:Txt)(TW:Hs):ID 1 f fd CL! (Fc):=by
 refine Co! Jdh;obtain⟨p,h,W,rfl,S,k⟩:=h;refine Y!;obtain⟨dx,hp⟩:=S.ob;refine IF! (Dv! (Zr! (FY! vQ Q! Af) (FY! Jkq Q! mk!)) (aJ! TW.cNH)) (BS! (j3! Q!));have e0:S? (o? W.qs.map Jr!)=W.qs.length:=B?
 refine⟨_,rfl,_,_,rfl,rfl,_,rfl,?_⟩;rcases k with⟨o,k⟩|⟨q,G,i,k⟩;.refine kj (λ_=>Ce k) (λc=>?_);have c:¬h<0:=λz=>c (decide_eq_true z);refine pw! _ rfl p CW dx _ _ rfl hp TW.cl TW.nH (Dq W) W.hs gv! ?_;rw[e0,a2! (show PE!<=h from o.resolve_left c)];exact Ce k
 .obtain⟨i1,i2⟩:=i.lt;rw[Nl! (Cy! (¬h<0))];refine At!;refine pw! _ rfl p CW dx _ _ rfl hp TW.cl TW.nH (Dq W) W.hs gv! ?_;rw[e0,Nl! (Cy! (¬PE!<=h))];refine At!;exact⟨_,rfl,p,CW,dx,_,_,rfl,hp,TW.cl,TW.nH,Dq W,_,rfl,W.hs,_,_,_,rfl,rfl,Vt!,i.QE,k⟩
inductive N5(vs:E!)(H:Hp)(Q:VK)(E:XK):Prop
 | mk (p:Addr) (h:Int) (W:DI) (_:WL!) (_:ol) (_:aI! (CR! Tj [l! q]))
theorem Jf7:kh! Ts:={}
theorem Jd6(F:j! Nc! "World.make" Ts)(T:Txt)(TW:Hs)(MH:Mr!)(M1:HQ! Nc! qQ! V7 f1 d1)(G1:ID 1 f1 d1 UV (Tj)):hT! CL! N5:=by
 have GH:SG!:=SM!;refine Co! Jf7;obtain⟨p,h,W,rfl,S,k⟩:=h;refine Y!;have FV:ca:=k!;obtain⟨dx,hp⟩:=S.ob;refine SJ! (bR! SW! T.cl M1.mt G1 hr M1.bd Cr);refine kI!;rcases k with k|⟨q,G,i,k⟩;.exact Iu!
 .obtain⟨FK,hq⟩:=G1!;exact N! ⟨q,G,i,q,FK,_,rfl,hq,KE,k⟩
inductive N6(vs:E!)(H:Hp)(Q:VK)(E:XK):Prop
 | mk (p:Addr) (h:Int) (va vb:V) (W:DI) (_:vs=[Op,D7!,va,vb]) (_:ol) (_:aI! (Tl [l! q,va,vb] H (λ_ H'=>Hh!) E))
theorem Jf9:I? Qm! Qm! Tu:={}
theorem Jd8(F:j! SL "World.hold" Tu)(T:Txt)(TW:Hs)(MH:Mr!)(M1:DC K C SL qh! Wa Jy! f1 d1)(G1:ID 3 f1 d1 Jy! (Tl)):ID 4 f fd Qm! (N6):=by
 have GH:SG!:=SM!;refine Co! Jf9;obtain⟨p,h,va,vb,W,rfl,S,k⟩:=h;refine Y!;have FV:ca:=k!;obtain⟨dx,hp⟩:=S.ob;refine Vo! Av (oj! SW! T.cl hr YJ!);refine kI!;rcases k with k|⟨q,G,i,k⟩;.exact Iu!
 .obtain⟨FK,hq⟩:=G1!;exact N! ⟨q,G,i,q,FK,_,rfl,hq,KE,_,rfl,_,rfl,k⟩
inductive N8(vs:E!)(H:Hp)(Q:VK)(E:XK):Prop
 | mk (p:Addr) (h:Int) (vb:V) (W:DI) (_:vs=[Op,D7!,vb]) (_:ol) (_:aI! (Tn [l! q,vb] H (λ_ H'=>Hh!) E))
theorem Jgb:I? P3! P3! Tv:={}
theorem Jea(F:j! Nd! "World.free" Tv)(T:Txt)(TW:Hs)(MH:Mr!)(M1:PW! Nd! qR! Wb f1 d1)(G1:ID 2 f1 d1 Kh! (Tn)):XP! P3! N8:=by
 have GH:SG!:=SM!;refine Co! Jgb;obtain⟨p,h,vb,W,rfl,S,k⟩:=h;refine Y!;have FV:ca:=k!;obtain⟨dx,hp⟩:=S.ob;refine Vo! Av (oj! SW! T.cl hr (wP L!));refine kI!;rcases k with k|⟨q,G,i,k⟩;.exact Iu!
 .obtain⟨FK,hq⟩:=G1!;exact N! ⟨q,G,i,q,FK,_,rfl,hq,KE,_,rfl,k⟩
inductive Ot(vs:E!)(H:Hp)(Q:VK)(E:XK):Prop
 | mk (p:Addr) (h:Int) (W:DI) (_:WL!) (_:ol) (_:aI! (CR! K0 [l! q]))
theorem Jdg:kh! Oa:={}
theorem Jbp(F:j! TM! "World.state" Oa)(T:Txt)(TW:Hs)(MH:Mr!)(M1:oP! f1 d1)(G1:ID 2 f1 d1 UV (K0)):XP! CL! Ot:=by
 have GH:SG!:=SM!;refine Co! Jdg;obtain⟨p,h,W,rfl,S,k⟩:=h;refine Y!;have FV:ca:=k!;obtain⟨dx,hp⟩:=S.ob;refine SJ! (bR! SW! T.cl M1.mt G1 hr M1.bd Cr);refine kI!;rcases k with k|⟨q,G,i,k⟩;.exact Iu!
 .obtain⟨FK,hq⟩:=G1!;exact N! ⟨q,G,i,q,FK,_,rfl,hq,KE,k⟩
universe E
def YH(G:BV)(tb:T2)(wt:Int):T!:=if EI! then Np! U8! else G.AF
theorem Jhh{l:T!}{t:T2}(h:eD!):Xu!=none:=Zp! (¬z?) h
theorem Ll(hd:iS! l)(ht:Ck!)(f:hE! H0! th v):RE! (bs! v):=Fc! (Ib hd ht) f
universe S
inductive Z1(vs:E!)(H:Hp)(Q:VK)(E:XK):Prop
 | mk (p b:Addr) (G:BV) (tb:T2) (wt:Int) (_:k7!) (_:Z?) (_:AP!) (_:LE!) (_:Gw! (eH! (YH G tb wt)))
theorem Jmd:mS! O9:={}
theorem Jeh{f:Addr}{fd:FuncData}(F:j! "given" qW! O9)(T:Txt):BW! El! Z1:=by
 refine Y? Jmd;obtain⟨p,b,G,tb,wt,rfl,S,hb,z,k⟩:=h;refine Y!;have hu:=V?;obtain⟨dx,hp⟩:=S.ob;refine Bq! (Ad (fq! Kc (Ag (K8 hu C? Q! L! Jew K0!))) (Ag Gz!));refine lW! C T.cl T.nO (Da G) G.o (Ib S.dO hb);by_cases h:EI!;.have fo:=Lp h;rw[fo];refine Cd!;have g1:mr! G.o (Ai G.AF tb):=Ll S.dO hb fo;refine p1! C dx hp T.nO (Da _) G.o g1 _ rfl rfl _ (Me! S.dO);rw[Ez];have S1:ky! (Yi! U8!) (O1! U8!):=S.JB _;obtain⟨FK,HQ⟩:=S1.ob;refine SV!;rw[Bs];(have e:YH G tb wt=Np! U8!:=rf! Ar!);rw[e] at k;exact pt! (O1! U8!)
 .rw[Jhh h];refine At!;(have e:YH G tb wt=G.AF:=rf! BC!);rw[e] at k;refine Ns! dx hp dx hp;rw[Bs];exact cQ! (S.fld dx G.AW (CM!)) (KN! h1)
def yc(G:BV)(tb:T2)(OP:Bool):D!:=if OP=true then Fz! else G.hand
def yb(G:BV)(tb:T2)(sh:Int)(OP:Bool):T!:=Np! (Fo! G.AF+KW! (OP=true) (sh-1) (2*sh-1))
inductive V0(vs:E!)(H:Hp)(Q:VK)(E:XK):Prop
 | mk (p b:Addr) (G:BV) (tb:T2) (sh:Int) (OP:Bool) (_:vs=[Op,Os,R! sh,.bl OP]) (_:Z?) (_:AP!) (_:LE!) (_:eF!) (_:EI!) (_:Gw! (eG! (yc G tb OP) (yb G tb sh OP)))
theorem Jl5:I? Mf! Mf! K3:={}
theorem Jbs(F:j! "passed" qY! K3)(T:Txt):BW! Mf! V0:=by refine Y? Jl5;obtain⟨p,b,G,tb,sh,OP,rfl,S,hb,z1,z2,h,k⟩:=h;refine Y!;have hu:=V?;obtain⟨dx,hp⟩:=S.ob;refine Bq! (Ad (Bo (Hw (pv 3)) (ED! (Q2! Dw) (K8 hu C? Q! (Ay Uc L! Af) Ep K0!)) (Ag (K8 hu C? Q! (Ay Uc (Ay Ge Af L!) Af) Ep K0!))) (Ag Gz!));have fo:=Lp h;refine br! _ OP ?_;cases OP with | true =>refine Cd!;refine SD! dx hp T.nH (F7 G) G.h (Me! S.dh);rw[Fo];have S1:jm! rQ! LD!:=S.QI (B4 G.hand tb);(have KW:F6! ns!:=λb' o e h1 h2=>KN! SH!);have b1:=sc! KW hb hb hb;rw[FU! ((HO.dT ((B4 G.hand tb).map Bj!))=Be rQ!)];generalize ns!=H1 at S1 KW b1;obtain⟨FK,HQ⟩:=S1.ob;have g1:DV H1 G.o Ex! (bs! (Ai G.AF tb)):=Ll S1.dO b1 fo;refine⟨_,rfl,p,C,FK,_,_,rfl,HQ,T.cl,T.nO,Da _,_,rfl,G.o,_,rfl,g1,_,rfl,_,_,rfl,rfl,_,_,rfl,rfl,_,tV! S1.dO b1 (QK! (G.AF.length<=1000)),?_⟩;rw[Ez];have S2:=S1.JB (Bh G.AF tb (Wm! (sh-1)));(have KC:F6! (AA! H1 G.o C5 (Yi! (Wm! (sh-1)))):=λb' o' e h1 h2=>rU! SH! KW);obtain⟨GX,FE⟩:=S2.ob;refine Ns! GX FE GX FE;rw[Bs];exact kB! S2.fld GX KC | false =>refine At!;have g1:mr! G.o (Ai G.AF tb):=Ll S.dO hb fo;refine⟨_,rfl,p,C,dx,_,_,rfl,hp,T.cl,T.nO,Da _,_,rfl,G.o,_,rfl,g1,_,rfl,_,_,rfl,rfl,Am! a! a!,_,_,rfl,rfl,_,_,rfl,rfl,_,Me! S.dO,?_⟩;rw[Ez];have S1:ky! (Yi! (Wm! (2*sh-1))) (O1! (Wm! (2*sh-1))):=S.JB _;obtain⟨FK,HQ⟩:=S1.ob;refine SV!;rw[Bs];exact pt! (O1! (Wm! (2*sh-1)))
universe E
theorem T4(hd:fF! d l)(ht:Ck!)(f:PA! (ri! H0!) th):RE! (some (V.ref a)):=GA! YA! ZZ! f
universe S
inductive Gy(vs:E!)(H:Hp)(Q:VK)(E:XK):Prop
 | mk (sa l:Addr) (as:J!) (ts:D!) (hl:HL) (n:Nat) (R:D!) (_:vs=[l! sa,Kk!]) (_:Nr! sa) (_:AO!) (_:ts.length<=400) (_:b? H l E7 hl) (_:hl.length<=400) (_:(∀q∈hl,GW! D? GE/\q.2.2.length<=400/\D?≠l)) (_:oW! ts.filter) (_:n<=5000) (_:rP! (iT! (p? x) (gF! x R) x))
theorem eW:I? ["starts",Ay!,"found",KZ!,"ahead"] Gn! Fd:={}
theorem Kd(F:j! Kc! Kc! Fd):DR 1 f fd Gn! Gy:=by
 refine Y? eW;obtain⟨sa,l,as,ts,hl,n,R,rfl,es,th,zt,el,zl,hq,sT,zn,k⟩:=h;refine Y!;have hu:=V?;refine Nz! eW.nd E2 (Jk! (c6! te (B9 0) i 4 Ji! eW.nd (QV! 0) He! Jg! Hm! jD! Hi!) (Pe PassesOwn.never (Iv O? (EZ!)) (ED! (WF! eW.nd (Mi BP PySem.F.slot_list_pop PySem.F.type_list_pop Jem O?)) (Dv! (Ei (Ee hu A? L!)) (Ad (TQ! L! A? Dw) (CQ! (F3 BP OF OD Rt O? (wP (PE.ZY (n0! Ji! (Oc (Ci hu Q! A?)) Jg! jD!))))))))) 2);intro fa cR;have s1:=WQ! cR;have e1:ir! (Nw! fa []) []:=Ab;generalize W3! H fa=H1 at s1 e1;have cL:bN! H1:=Bi! s1 th;refine hv! sa (rn! s1 es) (λaa cS=>?_);refine Hk (b:=BO! Ez!) (caps:=Ji!) cS C! (v! s1 es) cL (λH2 a t Q' sm ha ht q=>?_) λH2 bs sm ea tb=>?_;.obtain⟨o,g,eo⟩:=om! (Aq! sm s1 el);refine od!;rw[eo];exact Pm!
 have iR:p? aa:=by cases c:H aa with | none=>rfl | some o=>rw[F! s1 c] at cS;cases cS
 have iQ:fa≠aa:=λz=>by rw[<-z,e1] at cS;cases cS
 refine Go (λm σ H'=>∃(ahead found:D!)(KY:J!)(u3:SB),σ=[UF sa,LV!,UF fa,u3,UF aa]/\KB/\gF! fa found/\Dx! H' aa KY.map/\AX H' KY ahead/\LC (OL hl) m ahead found R/\found.length+m<=5000/\ap! Ez!) ⟨n,_,[],bs,_,rfl,Ak s1 sm,H9! sm,ea,tb,sT,by simpa using zn,h? kW!⟩;rintro m σ H' ⟨ahead,found,KY,u3,rfl,sh,ef,bM,eQ,rc,zm,hk⟩;refine Aj! rfl _ (H! (D0! (WF bM))) ?_;cases m with | zero =>obtain⟨e0,eR⟩:=rc;rw[e0] at eQ;have e2:KY=[]:=BJ.mp (Paired.length eQ);rw[e2];refine Cb (t? (k fa H' cR sh ?_));rw[eR];exact ef | succ m =>have rS:=rc.len;obtain⟨a,t,fq,rc⟩:=rc;rw[fq] at eQ rS;obtain⟨JY,c,e2,sC,ec⟩:=Vs eQ;subst e2;(have em:(JY++[c]).map V.ref=Ps!++[PN!]:=Om!);rw[em] at bM ⊢;rw[show Aa! (!(Ps!++[PN!]).isEmpty) by cases JY<;>rfl];refine Ce (Bq! (λEN H' h=>⟨m,JQ m,h⟩));refine⟨_,rfl,Bk! bM,aa,_,_,rfl,rfl,bM,Jae _ _,?_⟩;rw[aY! ((Ps!++[PN!]).dropLast=JY.map V.ref)];(have s3:An! Gy!:=bj! iR (E9! sh));(have OG:BM H' Gy!:=Ag! bM);(have YY:ir! Gy! found:=i! iQ ef);have i7:jd! Gy!:=Ab;have ZX:AX Gy! JY a:=HX! OG sC;have fj:=F! OG.BG ec;generalize JU! H' aa JY.map=H3 at s3 OG YY i7 ZX fj;refine⟨_,rfl,_,rfl,fa,_,rfl,Ic YY fj,_,rfl,?_⟩;rcases rc with⟨hf,rc⟩|⟨hf,rc⟩;(.rw[AE hf];exact Cb ⟨a,found,JY,_,rfl,s3,YY,i7,ZX,rc,A!,Ov! hk jV!⟩);.rw[AD hf];refine Ce (ie! fa (TO! t YY fj (AW! Oy)));rw[Fo,show B4 found t=HH! by unfold B4;rw[AD hf]];(have s4:An! J5!:=bj! cR Wk!);(have MV:BM H3 J5!:=Ag! YY);have fg:gT! H3 fa Be Nk! fa Nk!:=Ab;(have fk:jd! J5!:=i! iQ.symm i7);have ZW:AX J5! JY a:=HX! MV ZX;have mj:=F! MV.BG fj;rw[EX! (HO.dT ((HH!).map Bj!)=Be (HH!))];generalize AU! H3 fa Be Nk!=H4 at s4 MV fg fk ZW mj;have r9:Ez!:=hk t (P! fq fg!);obtain⟨ad,mU⟩:=Oh r9;have mq:=A_ mU;obtain⟨q1,q2,q3⟩:=hq _ mq;have q1:GW! ad Kx!:=q1;have q2:(Ck hl t).length<=400:=q2;have q3:ad≠l:=q3;refine⟨_,rfl,Bk! fk,_,rfl,_,rfl,l,_,rfl,T4 (v! s4 el) mj mU,ad,_,rfl,DT! q1,λob pl YG=>?_⟩;(have JMa:aa≠ad:=λz=>by rw[z,q1] at iR;cases iR);(have JMY:fa≠ad:=λz=>by rw[z,q1] at cR;cases cR);refine My (b:=HU! d5!) (caps:=Ji!) (l:=Ck hl t) (key:=λq=>q) (val:=Of!) (ob:=ob) YG C! Ab (λH2 a' u Q' sJ ha hu' q=>?_) λH5 eP yO ep5 YO=>?_;(.obtain⟨o,g,eo⟩:=om! (sJ l (E7 hl) (Hd! q3.symm (DT! el)));refine od!;rw[eo];exact Pm!);.have f5:eg! H5 ad Be Kx!:=Iv! yO;refine j6! (AU! H5 ad Be Kx!) ad ob f5;(.have z:hX! ad:=z;rw[q1] at z;cases z);(have sj:pl≠ad:=λz=>by rw[z,Ab] at YG;cases YG);(have s6:Bl H4 (AA! H5 ad Be Kx!):=o9! (b=ad) (DT! q1) (F! yO (ez! e)));(have qg:Dx! (AA! H5 ad Be Kx!) pl eP.map:=i! sj ep5);(have XB:AX (AA! H5 ad Be Kx!) eP (OL hl t):=by (have YO:AX H5 eP (OL hl t):=by rw[GV] at YO;exact YO);refine Aw (Ui!) YO;rw[Ac λz=>Ts! f5];exact e);generalize AU! H5 ad Be Kx!=H6 at s6 qg XB;have zz:=rc.len;rw[ZE] at zz;have l1:=L? ZW;have l2:=L? XB;refine⟨aa,pl,_,_,rfl,rfl,hk!,qg,mq! Oy,?_⟩;rw[<-ZF];(have TZ:BM H6 (Sx! H6 aa (JY++eP).map):=Ag! hk!);refine⟨a++OL hl t,HH!,JY++eP,_,rfl,Ie!,?_,Ab,AX.keep TZ (N4 (Ml! s6 ZW) XB),rc,?_,Ii!⟩;(.rw[Eu! iR];exact iU! s6);(.rw[Ac iQ];exact F! s6 fg);(.rw[ZE];show found.length+1+m<=5000;lia);.rcases Iz! with hu|hu;(.exact hk u jV!);.have:=OB! hu;simpa using this
universe E
universe S
inductive Jc7(vs:E!)(H:Hp)(Q:VK)(E:XK):Prop
 | mk (p ta:Addr) (G:BV) (as:J!) (ts:D!) (_:am! (l! ta)) (_:Z?) (_:kw!) (_:Nr! ta) (_:AO!) (_:Gw! q?)
theorem gA:I? [BX!,"things",KZ!] Fx! O6:={}
theorem Jgt(F:j! "lose" "House.lose" O6)(T:Txt):BW! Fx! Jc7:=by
 refine Y? gA;obtain⟨p,ta,G,as,ts,rfl,S,ke,et,th,k⟩:=h;refine Y!;have hu:=V?;have lt:=Cf!;refine Bq! (Ag (Dt PassesOwn.never rfl (QV! 1) (Bc (i:=2) gA.nd rfl (Or.inl rfl)) (Ag (Bo (sO! Kc L!) (Ad (Av j1!) (CQ! j1!)) A8))));refine hw! ta et ?_;refine RK! ta JN! (λi σ H2=>∃u2:SB,σ=[GT!,UF ta,u2]/\Em! H2 (Am G (ts.take i))/\F6! H2) (Er! (dq! Qn S) (λb o e _ _=>e)) (λi σ H2 _ h=>rp! (DO.of (fr _ _ et (S.WS et).1 (S.WS et).2)));.rintro i x σ H2 hx ⟨u2,rfl,S2,KC⟩;rw[ZH] at hx;cases ea:OL! with | none=>rw[ea] at hx;cases hx | some a =>rw[ea] at hx;have hx:d6!:=ZO hx;subst hx;obtain⟨t,ht⟩:=ni!;have ha:=op! ht;have YT:=oh! KC;obtain⟨GX,FE⟩:=S2.ob;obtain⟨o,g,eo⟩:=Mu (k:=Ab!) (f:=DH!) (A1! S2.dO) YT;have f1:=Fj (Ab!) G.AF ht;have f2:=Fj (DC!) G.holds ht;refine sj! C GX FE T.cl T.nO (Da _) G.o o g;rw[eo];(have ks:T0! (Am G (ts.take i)).holds.map eO!:=by show m5! gz! gz!;rw[Dh (DC!) G.holds (iw!),nU! iw!,ke]);by_cases h:AT! eO!;(.rw[PK!];obtain⟨v1,tw⟩:=pc! O2! DH! h;obtain⟨v2,ti⟩:=pc! Ow! a6! (P! ks h);refine Ce (n3! GX FE T.nO (Da _) G.o S2.dO S2.dO YT tw);rw[Hm (k:=Ab!) (f:=DH!)];have S3:=mK! S2.JB;(have KU:F6! pf!:=EV! (rU! (M? h2 K9!) KC));have mL:=oh! KU;rw[EX! (HO.dT ((KQ! (AS! KJ!)).map EO!)=mK! C5)];have S3:Em! pf! mA!:=S3;generalize upd H2 G.o (C5 (KQ! uO!))=H3 at S3 KU mL;obtain⟨OH,ND⟩:=S3.ob;refine n3! OH ND T.nL (Fh _) G.l S3.dl S3.dl mL ti;have e3:Dp ((mA!:BV).holds.map Hx!) N9!=(Ip! (AS! KJ!)).map Hx! :=Hm (k:=DC!) (f:=a6!) _ t;rw[e3];have S4:=S3.YD (hl:=Fl! Ip! KJ!) EW;(have eG:kS! { cU! with AF:=cE! KQ!,holds:=cE! Ip! }:=by unfold Am;rw[f1,f2]);refine gO! S4 (EV! ?_);rw[Ac (M? h2 (by rw[z];show dz!;simp[BL]))];exact a5! KU e);.rw[VX!];have qE:eP! O2!:=NG! (QR! be!);have iP:eP! Ow!:=NG! (h (N? ks (KL! q hq z)));(have eG:kS! cU!:=by (have a1:dD! KQ! O2!:=ij! qE);(have a2:dD! Ip! Ow!:=ij! iP);unfold Am at a1 a2 ⊢;rw[f1,f2,a1,a2]);exact Cb (gO! S2 KC)
 .rintro σ H2 ⟨u2,rfl,S2,KC⟩;rw[ZA,lt,BS] at S2;exact k H2 S2 KC
universe E
universe S
def Bn(G:BV)(rs:T!):T!:=Fl! (rs.filter JT!).filter (0<q.2)
inductive Yk(vs:E!)(H:Hp)(Q:VK)(E:XK):Prop
 | mk (p:Addr) (G:BV) (n:Nat) (rs:T!) (_:Gf!) (_:Z?) (_:f?) (_:n<=62) (_:YD!) (_:Y5!) (_:Cm!) (_:IP!) (_:∀(x:Addr)(as:J!)(H':Hp),p? x->TJ! (MP! x) (IF H' as (Bn G rs)) (JM! (GO G)) Wu!)
theorem bU:bX! [BX!,"held","holder",KZ!,"unheld",Bm!] Rk:={}
def Jj7:TE:=rD (Dy Py! (Dy (aH! BL!) Mb))
def Jj3:TT:=Kw (WC (eX (Zv! (j<i))) (aH! BL!) Jo!)
theorem Jaa(F:j! "give_back" "House.give_back" Rk)(T:Txt)(Tx:rB):QC! Yk:=by
 refine Y? bU;obtain⟨p,G,n,rs,rfl,S,ok,zn,fC,fB,pm,pw,k⟩:=h;refine Y!;have hu:=V?;obtain⟨dx,hp⟩:=S.ob;refine S2! (As (i:=1) bU.nd rfl (by first|exact Or.inl rfl|exact Or.inr rfl) (ba! (Zh (Mw hr)) Tx.dict PyProof.Rows.boot_dict C?)) (Ad (N1! (Oc C?) 2 bU.nd (CQ! (F3 DE PySem.F.slot_dict_update PySem.F.type_dict_update (Jg0 hu) Q! (wP (bf! L!))))) (QO.ZY (Ad (Fm (te:=B9 0) (i:=4) (caps:=[("held",1)]) bU.nd rfl rfl rfl rfl (C9 (Zi! C?)) rfl ZV rfl ZV rfl He! Jg! Hm! ZV (sa! Ee) Hi!) (Jk! (p2! te Jj7 Jj3 i 5 Jx! bU.nd (QV! 4) He! Jg! Hm! (Ej! (Dj (A5 vP ZW! Af (A7 _)))) (Ej! (Co (wT E? ZW!)))) (N1! (QV! 4) 3 bU.nd (CQ! (t8! A?))) 5))));have z1:=ok.hz;have z2:=ok.QS;have z3:=ok.rz;refine⟨_,rfl,p,C,dx,_,_,rfl,hp,T.cl,T.nH,F7 G,G.h,_,rfl,S.dh,Qb ok.hn fC,λhd bJ=>?_⟩;have e0:Fk [] (G.hand.map Bj!)=G.hand.map Bj!:=by have:=I0 G.hand [];rw[F! Qt (by simpa using ok.hn)] at this;simpa using this
 rw[e0];have s1:=Dr! (Be G.hand) bJ;have e1:b? (CG! hd Be G.hand) hd Be G.hand:=Ab;rw[EX! (HO.dT (G.hand.map Bj!)=Be G.hand)];generalize AU! H hd Be G.hand=H1 at s1 e1;have S1:=Qq!;obtain⟨FK,HQ⟩:=S1.ob;have ju:fc!:=G! ok.ke ok.on
 have eY:∀{b:Addr} {o:HO},Dt!->b≠hd:=λe=>Aj e bJ;have sj:p≠G.l:=λz=>S.QR (b:=G.l) (Dm!) z.symm;refine pl! C FK HQ T.cl T.nL (Fh G) G.l S1.dl (λob=>?_);refine Je7 (d:=G.l) (ob:=ob) (λi σ H2=>∃u2:SB,σ=[GT!,DW!,u2,none,none,none]/\b? H2 hd Be (C4 G.hand (G.holds.take i))/\Pn! (upd H1 G.l (.GB ob (E7 G.holds))) (b≠hd) H2) (Er! (Cx! (Ac (Ao! eY S.dl)) e1) (λb o e _=>e)) (λi σ H2 _ h=>rp! (it! Ab S.dl)) ?_ ?_;.rintro i a kk v σ H2 hx ha ⟨u2,rfl,eh,fr⟩;rw[ZH] at hx;cases eq:G.holds[i]? with | none=>rw[eq] at hx;cases hx | some q =>rw[eq] at hx;have hx:(Su!,qC!)=(kk,v):=ZO hx;have mq:=ZP eq;have e2:kk=Su!:=(Prod.mk.inj hx).1.symm;rw[e2,vS] at ha;have hpp:H2 p=some (Sc C FK (B7 G)):=h! fr (Hd! sj HQ) (eY hp);have d9:eg! H2 G.l E7 G.holds:=it! Ab S.dl;(have hqq:b? H2 D? Be GE:=by have h0:=S.hl q mq;refine it! ?_ h0;rw[Ac (S.bF.2.2.2 q mq).2.2.1];exact S1.hl q mq);(have gv:Ca (G.holds.map Hx!) (tk q.1)=B! (V.ref D?):=Cx! ZZ! (FX.GF (k:=DC!) ju mq));have l0:=ok.ln q mq;(have l1:(C4 G.hand (G.holds.take i)).length<=62+62*62:=by have h1:=Nj (B:=62) (qs:=G.holds.take i) (hand:=G.hand) (CE! (BJ! (ok.ln r (List.mem_of_mem_take hr)).2));(have h2:Vk! G.holds.take<=G.holds.length:=dh!);have h3:Vk! G.holds.take*62<=62*62:=FU _ C!;lia);refine⟨_,rfl,Ix! (n? (N! (T? eh))),_,rfl,p,C,FK,_,_,rfl,hpp,T.cl,T.nL,Fh G,_,rfl,G.l,_,rfl,N! ⟨_,Su!,a,c? ob d9,rfl,ha,gv.symm⟩,hd,D?,_,_,rfl,rfl,eh,H! hqq,Ao! eY (S.hl q mq),?_,λ_=>Qb l0.1 (fB q mq),?_⟩;(.rw[ZA,ZA];exact DJ (Oy C!));.rw[I0,<-Vd G.hand eq];exact Er! Ab (Cw! (e8! (BU! fr hb)))
 .rintro σ H2 ⟨u2,rfl,eh,fr⟩;rw[ZA,BS] at eh;have d9:eg! H2 G.l E7 G.holds:=it! Ab S.dl;refine j6! (AU! H2 G.l E7 G.holds) G.l ob d9;(.have z:hX! G.l:=z;rw[S.dl] at z;cases z);(have s3:An! (Ka! G.l E7 G.holds):=o9! (b=G.l) S.dl (h! fr (ez! (E9! s1)) (eY e)));(have e3:gT! H2 G.l E7 G.holds hd (C4 G.hand G.holds):=i! (Ao! eY S.dl) eh);generalize AU! H2 G.l E7 G.holds=H3 at s3 e3;have S3:=S.same s3;obtain⟨OH,ND⟩:=S3.ob;refine⟨_,rfl,p,C,OH,_,_,rfl,ND,T.cl,T.nR,C6 G,G.r,_,G? rs.map,rfl,Jev S3.dr,DG! ZA,?_,pw,λsl kU XN tsl=>Xt! sl (λul zS=>?_)⟩;(·(have e4:HA! (G.AJ.map iR!).map=ep!:=Hv!);rw[e4];exact pm.map _);have s4:=IU! kU.map XN;have WH:Dx! (sn! sl kU.map) sl kU.map:=Ab;have t4:AX (sn! sl kU.map) kU (rs.map BF!):=Bi! s4 tsl;generalize JU! H3 sl kU.map=H4 at s4 WH t4 zS;(have lrs:rs.length<=62:=by have:=pm.length_eq;lia);refine Hk (b:=λt=>! Bi G t) (caps:=[("held",1)]) zS (DG! ZA) WH t4 (λH5 a t Q' sm ha ht q=>?_) λH5 bs sm eu tu=>?_;(.refine ie! hd (Ic (Aq! sm s4 e3) ha);(have e5:(!(if nw! then some (V.bl true) else none).isSome)=! Bi G t:=by rw[<-Jb8];by_cases c:nw!;(.rw[Ch,WR!];rfl);.rw[IR,Pt!];rfl);rw[e5];exact Pm!);have eU:(rs.map (·.1)).filter (λt=>! Bi G t)=VV! rs.filter JT!:=(Dh (Ab!) rs λt=>! Bi G t).symm;rw[eU] at tu;have s5:An! H5:=Ak s3 (Ak s4 sm);have jC:∀q∈rs.filter (JT!),q∈rs:=TD rk!;(have usz:D6! rs.filter JT! 62:=BJ! (AN (JT!) rs));have hbk:Vb! (Bn G rs) (rs.filter JT!).filter (0<q.2):=rfl;(have yC:y? (rs.filter JT!).map:=by have h1:V2!:=c1! pm.map ok.rn;exact h1.sublist (List.filter_sublist.map _));generalize qN:(rs.filter JT!)=us at tu jC usz hbk yC;have S5:=S.same s5;have jy:=L? tu;rw[ZA] at jy;have val:∀q∈us,G.AJ.find? (λr=>Du! r.1 q.1)=B! q:=TD (FX.GF (k:=Ab!) ok.rn (pm.subset (jC q hq)));refine hw! ul eu (λbl kG=>?_);refine Fs (K:=K) (a:=ul) (p:=bl) (xs:=Dy! bs.map) (tt:=Jj3) (te:=Jj7) (caps:=Jx!) (λi ys H6=>∃cs:J!,ys=Dy! cs.map/\S0! H6 bl/\Bl H5 H6/\IF H6 cs ((us.take i).filter (AS! (0<q.2)))) (F3! [] Ab (Ah kG) O!) (λi ys H6 _ h=>let⟨_,_,e,sm,_⟩:=h;Uh! sm eu e) ?_ ?_;(.rintro i x ys H6 N hx ⟨cs,ey,e6,s6,ba⟩ hN;rw[ZH] at hx;cases eb:bs[i]? with | none=>rw[eb] at hx;cases hx | some b =>rw[eb] at hx;have hx:bD!=x:=ZO hx;subst hx;obtain⟨q,hq⟩:=t2! us eb;have hb:=Ax tu i b q.1 eb (UY! hq);have hb6:=F! s6 hb;have S6:=S5.same s6;obtain⟨XE,aX⟩:=S6.ob;have gv:DV H6 G.r Ex! (bs! q.2):=Ll S6.dr hb6 (val q (ZP hq));have ft:=Vg (b:=Sn! (a? (0<q.2))) hq;refine pw! p C XE _ _ rfl aX T.cl T.nR (C6 G) _ rfl G.r gv ?_;by_cases c:0<q.2;(.rw[WR!] at ft ⊢;refine Ce ⟨_,rfl,_,rfl,p,C,XE,_,_,rfl,aX,T.cl,T.nR,C6 G,_,rfl,G.r,_,rfl,gv,AN!,λx1 tW=>?_⟩;have s7:=Ev! kV! tW;have x7:Mn! H6 x1 kV! x1 kV!:=Ab;have e7:=F! s7 e6;generalize GY! H6 x1 kV!=H7 at s7 x7 e7;(have TY:BM H7 (FX! H7 bl (ys++[m? x1])):=Ag! e7);(have lcs:cs.length<=us.length:=G! (L? ba) (Ms _ us i));refine Ue! e7 (ut ey ZA (AW! Oy)) ⟨cs++[x1],Tu! ey,Ab,λd o e=>?_,?_⟩;(.rw[Eu! kG];exact cF! s7 s6);.rw[ft,e?];exact Hy (IF.keep TY (IF.keep (FF s7) ba)) ⟨b,F! TY.BG x7,DA! TY.BG s7 hb6⟩);.rw[Pt!] at ft ⊢;refine Cb (F! hN ⟨cs,ey,e6,s6,?_⟩);rw[ft,Da!,AH];exact ba);.rintro ys H6 ⟨cs,ey,e6,s6,ba⟩;rw[ZA,jy,BS,<-hbk] at ba;rw[ey] at e6;have S6:=S5.same s6;have qb:=F! s6 eu;have tu6:AX H6 bs (us.map BF!):=Bi! s6 tu;(have wM:bl≠G.r:=λz=>by rw[z,S5.dr] at kG;cases kG);(have xI:p? bl:=by cases c:H bl with | none=>rfl | some o=>rw[F! s5 c] at kG;cases kG);refine hw! ul qb ?_;have JCf:∀j,Vb! (oI! ((us.map (·.1)).take j):BV).AJ G.AJ.filter (q.1∉(us.map (·.1)).take j):=EZ!;refine RK! ul (Dy! bs.map) (λi σ H7=>∃u3:SB,σ=[GT!,DW!,u2,u3,UF ul,UF bl]/\Em! H7 (oI! iD!)/\Pn! H6 (b≠G.r) H7) (Er! ?_ (λb o e _=>e)) (λi σ H7 _ h=>rp! (DO.of (h! fr qb (λz=>by rw[z,S6.dr] at qb;cases qb))));(·(have e8:bT! G.AJ.filter (q.1∉(us.map (·.1)).take 0)=G.AJ:=EX.mpr λq _=>B?);rw[e8];exact S6);(.rintro i x σ H7 hx ⟨u3,rfl,S7,T_⟩;rw[ZH] at hx;cases eb:bs[i]? with | none=>rw[eb] at hx;cases hx | some b =>rw[eb] at hx;have hx:bD!=x:=ZO hx;subst hx;obtain⟨q,hq⟩:=t2! us eb;(have j_:(us.map (·.1))[i]?=B! q.1:=a1! hq);have hb:=Ax tu6 i b q.1 eb j_;(have hb7:=h! T_ hb (λz=>by rw[z,S6.dr] at hb;cases hb));obtain⟨my,gh⟩:=S7.ob;(have qin:K7! q.1 (G.AJ.filter (Et! (r.1∉iD!))).map:=by refine Ku! q (ge! (pm.subset (jC q (ZP hq))));have:q.1∉iD!:=λz=>Ng yC j_ z;simpa using this);obtain⟨v,hv⟩:=Gj (l:=G.AJ.filter λ(r:T2×Int)=>a? (r.1∉(us.map λ(z:T2×Int)=>z.1).take i)) (k:=λ(q:T2×Int)=>q.1) (f:=λ(q:T2×Int)=>H? q.2) (t:=q.1) qin;refine⟨_,rfl,p,C,my,_,_,rfl,gh,T.cl,T.nR,C6 _,G.r,rfl,T5! S7.dr,_,rfl,_,Su!,_,b,S7.dr,rfl,hb7,hv,?_⟩;(have e9:Dp (((oI! iD!:BV).AJ).map EO!) (tk q.1)=(G.AJ.filter (Et! (r.1∉Ff! (us.map (·.1)).take))).map EO!:=G! (Fj (Ab!) G.AJ j_) (Hm (k:=Ab!) (f:=DH!) _ _));rw[e9];have S8:=S7.WW (G.AJ.filter (Et! (r.1∉Ff! (us.map (·.1)).take)));exact Er! S8 (Cw! (e8! (h! T_ e hb))));.rintro σ H7 ⟨u3,rfl,S7,T_⟩;rw[ZA,jy,<-ZA (f:=Ab!),BS] at S7;have TZ:BM H6 H7:=⟨λb xs e=>h! T_ e (λz=>Ts! S6.dr),λb o v e=>h! T_ e (λz=>Ts! S6.dr)⟩;refine t? (k bl cs H7 xI (T_ _ _ e6 wM) (IF.keep TZ ba) ?_ (EV! (h! T_ (Aq! s6 s5 e) (M? h2 K9!))));(have eK:GO G=oI! (G? us.map):=by unfold GO;(have:Vb! (G.AJ.filter λq=>Bi G q.1) G.AJ.filter (q.1∉G? us.map):=IX (TD (by by_cases c:Bi G q.1=true;(·(have nm:q.1∉G? us.map:=λz=>by obtain⟨r,hr,er⟩:=ZN z;rw[<-qN] at hr;have:=OB! hr;rw[er,c] at this;cases this);rw[c,D2! nm]);·(have c:i? (Bi G q.1):=NV!);(have im:K7! q.1 us.map:=dT! qN q (CV! (pm.symm.subset hq) (EQ c)));rw[c];simp only[im,not_true_eq_false,decide_false])));rw[this]);rw[eK];exact S7
universe E
universe S
inductive To(vs:E!)(H:Hp)(Q:VK)(E:XK):Prop
 | mk (p:Addr) (G:BV) (n m:Nat) (rs:T!) (R:D!) (_:Gf!) (_:Z?) (_:f?) (_:n<=62) (_:YD!) (_:Y5!) (_:Cm!) (_:IP!) (_:sW! m) (_:m<=5000) (_:Ok FS n) (_:∀(x:Addr)(as:J!)(H':Hp),(lJ!)->TJ! (MP! x) (IF H' as (Bn FS rs)) (JM! (HE (GO FS))) Wu!)
theorem jG:bX! [BX!,"lent","kept"] Pa:={}
def Jls:TT:=Kw (WC (eX (Zv! (j<i))) (aH! Ax!) Jo!)
theorem Jei(F:j! Ng! qZ! Pa)(T:Txt)(Tx:rB)(MR:Ae! Kc! Fd Gn! fR dR)(ML:oe! fL dL)(MG:oQ! fG dG) : Gt! UV To:=by
 have GR:DR 1 fR dR Gn! Gy:=Kd MR.fn;have GL:CJ! fL dL Fx! Jc7:=Jgt ML.fn T;have GG:Pj! fG dG Yk:=Jaa MG.fn T Tx;refine Y? jG;obtain⟨p,G,n,m,rs,R,rfl,S,ok,zn,fC,fB,pm,pw,rc,zm,cM,k⟩:=h;refine Y!;have hu:=V?;obtain⟨dx,hp⟩:=S.ob;refine S2! (p2! te (B9 0) Jls i 1 Jx! jG.nd (Oc C?) He! Jg! Hm! (Ej! (Dj (A5 vP ZW! Af (A7 _)))) Hi!) (QO.ZY (Ad (As (i:=2) jG.nd rfl (by first|exact Or.inl rfl|exact Or.inr rfl) (S3! GR hr MR.mg MR.fn.kp MR.bd (wT (Ay Jd3 (ba! (Qr rfl) Tx.list PyProof.Rows.boot_list C?) Q!) C?))) (Bs! (by! T.cl ML.mt GL hr ML.bd Au (wP (PE.ZY (n0! (e0! 2) (Oc C?) Jg! (sa! Ee))))) Gz! (BS! (Dc E? T.cl MG.mt GG hr MG.bd O! Au)))));have z0:=ok.oz;have z1:=ok.hz;have z2:=ok.QS;have lR:p≠G.o:=λz=>S.QR (b:=G.o) (Dm!) z.symm;refine pl! C dx hp T.cl T.nO (Da G) G.o S.dO (λob ll d9=>?_);refine My (b:=BO! Wl!) (caps:=Jx!) (l:=G.AF) (key:=λq=>q.1) (val:=DH!) (ob:=ob) d9 C! Ab (λH2 a t Q' sm ha ht q=>?_) λH2 bs sm el tl=>?_;.have FE:Yy! H2 p C B7 G:=F! sm (Hd! lR hp);(have gv:Ca (G.AF.map EO!) N9!=B! (V.int (Ai G.AF t)):=Cx! m7! (Lp ht));exact pw! p C dx _ _ rfl FE T.cl T.nO (Da G) _ rfl G.o (N! ⟨_,tk t,a,c? ob (Iv! sm),rfl,ha,gv.symm⟩) q
 have d7:eg! H2 G.o C5 G.AF:=Iv! sm;refine j6! (AU! H2 G.o C5 G.AF) G.o ob d7;.have z:hX! G.o:=z;rw[S.dO] at z;cases z
 have nll:ll≠G.o:=λz=>by rw[z,Ab] at d9;cases d9
 have s3:An! (Ka! G.o C5 G.AF):=o9! (b=G.o) S.dO (F! sm (ez! e))
 have eN:fv! (Ka! G.o C5 G.AF) ll:=i! nll el
 have yE:AX (Ka! G.o C5 G.AF) bs (J5 G):=by refine Aw (Ui!) tl;rw[Ac λz=>Ts! d7];exact e
 generalize AU! H2 G.o C5 G.AF=H3 at s3 eN yE;have S3:=S.same s3;obtain⟨OH,ND⟩:=S3.ob;refine pl! C OH ND T.cl T.nH (F7 G) G.h (H! S3.dh) (λl1 JL bu ky1=>?_);have t1:AX H3 JL G.hand:=Jaf (val:=Of!) ky1;have s4:=IU! JL.map bu;have e4:Dx! (sn! l1 JL.map) l1 JL.map:=Ab;have t4:AX (sn! l1 JL.map) JL G.hand:=Bi! s4 t1;have WH:=DT! eN;have r8:AX (sn! l1 JL.map) bs (J5 G):=Bi! s4 yE;generalize JU! H3 l1 JL.map=H4 at s4 e4 t4 WH r8;have n1:=L? t4;have n2:=L? r8;have n3:D6! J5 G 62:=by have:D6! J5 G (G.AF.map (·.1)).length:=Ln!;rw[ZA] at this;lia
 refine⟨_,rfl,l1,ll,_,_,rfl,rfl,e4,WH,mq! Oy,λcl uN=>?_⟩;rw[<-ZF];have s5:=IU! Vz! uN;have e5:Dx! (Sx! H4 cl Vz!) cl Vz!:=Ab;have t5:AX (Sx! H4 cl Vz!) (JL++bs) (G.hand++J5 G):=Bi! s5 (N4 t4 r8);generalize JU! H4 cl Vz!=H5 at s5 e5 t5;have S5:=S3.same (Ak s4 s5);obtain⟨bN,aY⟩:=S5.ob;refine⟨_,rfl,p,C,bN,_,_,rfl,aY,T.cl,T.nL,Fh G,cl,G.l,JL++bs,G.hand++J5 G,G.holds,m,R,rfl,e5,t5,FP! ZE,S5.dl,A!,TD ⟨S5.hl q hq,BJ! (ok.ln q hq).2,(S.bF.2.2.2 q hq).2.2.1⟩,rc,zm,λkp H6 zq s6 ek=>?_⟩;have S6:=S5.same s6;obtain⟨XE,aX⟩:=S6.ob;refine⟨_,rfl,p,XE,_,rfl,aX,KE,_,rfl,p,C,XE,_,_,rfl,aX,T.cl,T.nO,Da G,G.o,_,rfl,S6.dO,λsX gl uI=>?_⟩;have nkp:kp≠G.o:=λz=>by rw[z,S5.dO] at zq;cases zq
 refine My (b:=BO! KR!) (caps:=e0! 2) (l:=G.AF) (key:=λq=>q.1) (val:=DH!) (ob:=sX) uI C! Ab (λH7 a t Q' p4 ha ht q=>?_) λH7 gs p4 eg tg=>?_;.refine ie! kp (Ic (p4 kp (Be R) (Hd! nkp ek)) ha);(have e8:(!(if A7! then some (V.bl true) else none).isSome)=a? KR!:=by by_cases c:A7!;(.rw[Ch];simp[c]);.rw[IR];simp[c]);rw[e8];exact Pm!
 have zg:z! H7 G.o (.GB sX (C5 G.AF)):=Iv! p4;refine j6! (AU! H7 G.o C5 G.AF) G.o sX zg;.have z:hX! G.o:=z;rw[S.dO] at z;cases z
 have ngl:gl≠G.o:=λz=>by rw[z,Ab] at uI;cases uI
 have s8:Bl H6 (AA! H7 G.o C5 G.AF):=o9! (b=G.o) S6.dO (F! p4 (ez! e))
 have eg8:Dx! (AA! H7 G.o C5 G.AF) gl gs.map:=i! ngl eg
 have yF:AX (AA! H7 G.o C5 G.AF) gs (iO! (BO! KR!)):=by refine Aw (Ui!) tg;rw[Ac λz=>Ts! zg];exact e
 generalize AU! H7 G.o C5 G.AF=H8 at s8 eg8 yF;have S8:=S6.same s8;refine⟨p,gl,G,gs,_,rfl,S8,ok.ke,eg8,yF,λH9 S9 uW=>?_⟩;rw[Vk ok.ke] at S9;obtain⟨YZ,bt⟩:=S9.ob;refine Ns! YZ bt YZ bt;rw[Bs];have cY:=S9.fld YZ (keepR G R).AW ((keepR G R).AS+1);have QU:XU p G H8 (nT! { YG! with AS:=(keepR G R).AS+1 }):=EV! (t0! uW)
 have cY:Em! (nT! { YG! with AS:=(keepR G R).AS+1 }) (HE FS):=cY;generalize upd H9 p (Sc C YZ (B7 { YG! with AS:=(keepR G R).AS+1 }))=i' at cY QU;obtain⟨jX,jQ⟩:=cY.ob;have yT:An! H8:=Ak s3 (Ak s4 (Ak s5 (Ak s6 s8)));refine⟨_,rfl,p,jX,_,rfl,jQ,Cp _ ZV,p,HE FS,n,rs,rfl,cY,cM.HE,zn,fC,YF! fB,pm,pw,λx as nq hx ex ba uz jU=>?_⟩;have tX:lJ!:=EV! (Aj (a5! QU (v! yT e)) hx);refine k x as nq tX ex ba uz (EV! (jU _ _ (QU _ _ (v! yT e) h1 h2) h1 λz=>h2 (List.Sublist.subset (Qg (G:=qF! (keepR G R).AF) EW) z)))
universe E
universe E K65
universe N FX
open PySem PySem.Spec PyProof.Rows L2
theorem vE{a b c d:Str}{k1 k2:NameKind}{cl:Bz!}{y:Str}(hc:jE!)(hd:∃z,z! cl.lookup d z)(h:rZ! [Ti!,Tk!,(c,k1),(d,k2)] KM\/rZ! [Ti!,Tk!,(c,k1),(d,k2)] Cq!):Mh! :=nc! (by simp only[CM,DX,M'] at hp;rcases hp with rfl|rfl|rfl|rfl;(.rcases hk with hk|hk<;>cases hk);(.rcases hk with hk|hk<;>cases hk);(.exact hc);.exact hd)
inductive JZ(H:Hp)(t:Addr)(n:Int)(kind:Str)(s g:Int)(tb:T2)(x:Int):Prop
 | mk a b (_:gU! (kF! kind Tk)) (_:L1! [Os,R! x]) (_:AP!)
theorem JZ.keep(h:JZ H t n kind s g tb x)(k:u?):JZ H' t n kind s g tb x:=let⟨a,b,e1,e2,e3⟩:=h;⟨a,b,Nv! e1,XD!,Nv! e3⟩
universe E FX
universe N K65
open PySem L2 FX
def Jne(G:BV)(tb:T2)(wt:Int)(G':BV):Prop:=(O0!/\∃o,nV!/\G'=eG! Fz! (Np! (o-wt)))\/(Im!/\G'={ G with AS:=CM!,hand:=Fz!,AJ:=Xv! })
def Wt(kind:Str)(G:BV)(tb:T2)(wt:Int)(G':BV):Prop:=(U9!/\Jne G tb wt G')\/(kind=Dh!/\G'=U7! Xv!)\/(kind=Bm!/\G'=eH! (YH G tb wt))
theorem Wt.BL(h:RF! wt):BL G'=BL G:=by rcases h with⟨_,⟨_,o,_,rfl⟩|⟨_,rfl⟩⟩|⟨_,rfl⟩|⟨_,rfl⟩<;>rfl
universe S
def Sz(G:BV):Prop:=eF!/\LE!/\LB!
inductive Gw(vs:E!)(H:Hp)(Q:VK)(E:XK):Prop
 | mk (p t:Addr) (W:DI) (n s g:Int) (kind:Str) (tb:T2) (wt:Int) (q:Addr) (G G':BV) (_:Gc!) (_:ol) (_:JZ H t n kind s g tb wt) (_:Pz!) (_:RF! wt) (_:Sz G) (_:∀H',Fs! (KH! (V4! AD!))->Fy!->Hh!)
theorem JO:Vp! [BX!,TR!,"kind",ac!,KZ!,az!] Io:={}
theorem Yz(F:j! qo! qp! Io)(T:Txt)(TW:Hs)(M1:Hg! "came" qT! Wc f1 d1)(G1:mf! El! Yl)(M2:Hg! "added" qV! Pb f2 d2)(G2:mg! El! Tp)(M3:Hg! "given" qW! O9 f3 d3):R2! AF! Gw:=by
 have G3:CJ! f3 d3 El! Z1:=Jeh M3.fn T;refine Z2! JO;.obtain⟨p,t,W,n,s,g,kind,tb,wt,q,G,G',rfl,_⟩:=h;rfl
 .obtain⟨p,t,W,n,s,g,kind,tb,wt,q,G,G',rfl,S,⟨a,b,e1,e2,e3⟩,i,cm,⟨z1,z2,z3⟩,k⟩:=h;have FV:ca:=k!;obtain⟨dx,hp⟩:=S.ob;refine XI! JO.nd (MB! 3 JO.nd (A6 Bk C? (A6 A9 Q! Af)) 4 JO.nd Pk! (Fa! 5 JO.nd Pk!) (sr! (FY! Cz L! Ej) (Ww! A? T.cl M1.mt G1 M1.bd (wT O? IN)) (FY! Cz L! Ej) (Ww! A? T.cl M2.mt G2 M2.bd (wT O? IN)) (CQ! (MC! A? T.cl M3.mt G3 M3.bd (wT O? IN)))));refine ii! _ OA!;refine⟨_,rfl,p,CW,dx,_,_,rfl,hp,TW.cl,TW.nH,Dq W,_,rfl,t,_,_,_,rfl,rfl,OA!,rfl,W.hs,_,_,_,rfl,rfl,Vt!,i.QE,?_⟩;refine p4!;refine p4!;obtain⟨FK,hq⟩:=G1!;(have dn:Done q G H G' λH'=>Hh!:=λH' S' fr=>by obtain⟨x1,x2⟩:=S.step i.2 S' fr (Q? (Ad! (by rw[cm.BL] at hb;exact hb)));exact k H' x1 x2);rcases cm with⟨rfl,cm⟩|⟨rfl,rfl⟩|⟨rfl,rfl⟩;(.refine ko ⟨_,rfl,q,FK,_,rfl,hq,KE,_,rfl,_,rfl,q,b,G,tb,wt,rfl,MN!,e3,z1,z2,z3,?_⟩;rcases cm with⟨h1,o,h2,rfl⟩|⟨h1,rfl⟩;(.exact E8! h1 o h2 dn);.exact c? h1 dn);(.exact bE (ko ⟨_,rfl,q,FK,_,rfl,hq,KE,_,rfl,_,rfl,q,b,G,tb,wt,rfl,MN!,e3,z3,dn⟩));.exact bE (bE ⟨_,rfl,q,FK,_,rfl,hq,KE,_,rfl,_,rfl,q,b,G,tb,wt,rfl,MN!,e3,z2,dn⟩)
def vJ(G:BV)(tb:T2)(sh:Int)(OP:Bool):BV:=eG! (yc G tb OP) (yb G tb sh OP)
def Vo(p:Addr)(W:DI)(H:Hp)(x:Addr):Prop:=cr (Dt!->EF!->b≠x)
inductive Kz(vs:E!)(H:Hp)(Q:VK)(E:XK):Prop
 | mk (p t:Addr) (W:DI) (n s LG goal:Int) (tb:T2) (q:Addr) (G:BV) (_:Gc!) (_:ol) (_:JZ H t n Di! s LG tb goal) (_:JV W LG q G) (_:Sz G) (_:EI!) (_:GR!) (_:((goal=LG/\∀(x t1:Addr)(H':Hp),iq! { W with qs:=NL! LG.toNat (q,vJ G tb W.share true),c:=f8,ls:=Jj! } (JZ H' t1 Ko! Dh! LG s tb W.share) (Xf! [gr!]))\/(goal≠LG/\∀(x t1 t2:Addr)(H':Hp),mP! { W with qs:=NL! LG.toNat (q,vJ G tb W.share false),c:=Ve!,ls:=Jj!++[(Ve!,t2)] } t1 SL LG goal W.share (JZ H' t2 (f8+1) Dh! LG s tb W.share) (sJ! RQ! cR! (Xf! [gr!,g! (Ve!)])))))
theorem OB:Vp! [BX!,TR!,"home",KZ!,"goal","went"] O1:={}
theorem Jd5(F:j! qq! qr! O1)(T:Txt)(TW:Hs)(TP:L4)(M1:DC K C "passed" qY! K3 Mf! f1 d1)(M3:SC!) : Gt! AF! Kz:=by
 have G1:CJ! f1 d1 Mf! V0:=Jbs M1.fn T;have G3:Zs!:=Zg!;refine Z2! OB;.obtain⟨p,t,W,n,s,LG,goal,tb,q,G,rfl,_⟩:=h;rfl
 .obtain⟨p,t,W,n,s,LG,goal,tb,q,G,rfl,S,⟨a,b,e1,e2,e3⟩,i,⟨z1,z2,z3⟩,ho,zl,k⟩:=h;obtain⟨dx,hp⟩:=S.ob;refine XI! OB.nd (gf! OB.nd Pk! (Fa! 4 OB.nd Pk!) (Bs! (Av (fJ! (j3! L!) T.cl M1.mt G1 hr M1.bd (HN! A? C? (mY! O? L!)))) (Fa! 5 OB.nd ER!) (Jk! (Dv! (fi! O? L!) (SO! IN (Ww! C? TP.cl M3.mt G3 M3.bd (X6! L! O? C?)))) (Av (F3 BP CO CN Df IN (wP (Ww! C? TP.cl M3.mt G3 M3.bd (X6! L! Nb! C?))))) 5)));refine ii! _ OA!;refine p4!;refine p4!;obtain⟨FK,hq⟩:=G1!;refine⟨_,rfl,p,CW,dx,_,_,rfl,hp,TW.cl,TW.nH,Dq W,_,rfl,W.hs,_,_,_,rfl,rfl,Vt!,i.QE,q,FK,_,rfl,hq,KE,_,rfl,_,rfl,p,CW,dx,_,_,rfl,hp,TW.cl,TW.nS,Ii W,_,rfl,_,rfl,rfl,q,b,G,tb,W.share,X0! LG,rfl,MN!,e3,z2,z1,ho,H1!⟩;obtain⟨W1,HK⟩:=kC!;have LB:=MQ!;refine⟨AZ!,DP!⟩;have s2:=N0! hx;have ex:bY! (FX! H1 x []) []:=Ab;have W2:=kK!;have bG:=LB.trans (FF s2);(have iD:RQ!:=λz=>by rw[z] at hx;rw[W1.hs] at hx;cases hx);(have x9:cR!:=λb o e hb z=>by rw[<-z,BU! HK hb] at hx;cases hx);have kQ:=H9! bG.BG;have YY:=F! bG.BG e3;obtain⟨GX,FE⟩:=W2.ob;obtain⟨OH,gZ⟩:=W2.po.ob;have jj:x∉Bv p (KH! (NL! LG.toNat (q,vJ G tb W.share (decide (H? goal=H? LG))))):=W2.IU ex iD;refine RH! rfl _ ?_;rcases k with⟨rfl,k⟩|⟨ne,k⟩;(.rw[aY! (AY! (! X0! goal))];refine At!;refine⟨_,rfl,Bk! ex,_,rfl,p,CW,GX,_,_,rfl,FE,TW.cl,TW.nP,Em _,W.po,OH,_,rfl,gZ,Kw!,_,rfl,_,rfl,t,_,_,_,rfl,rfl,FM kQ,rfl,_,rfl,_,rfl,p,CW,GX,_,_,rfl,FE,TW.cl,TW.nS,Ii _,AN!,λa2 YT=>?_⟩;have s3:=lR! YT;have W3:=gI!;refine R6! W3.po (L5! zl) (λt1 H4 ht et S4 bL=>?_);obtain⟨W4,TU⟩:=W3.IT S4 bL;have MV:=kr!;have mW:bY! H4 []:=h! TU (v! s3 ex) jj;refine aC! x mW (A4 (Sk! (0<=1000)));(have kq:Lm! H4 H4 x [] Kl!:=Ag! mW);refine t? (k x t1 _ ?_ ⟨a2,b,hl!,kt! Ab,m3! YY⟩ (O4!) iD x9 Ab);(·(have:=W4.keep (H':=kv! H4 [] Kl!) λb' o' IC e'=>TV! (rV! jj IC) e');rw[aO! (X0! goal=true)] at this;exact this);·(have mJ:b'≠x:=λz=>by rw[z] at e' IC;rw[HK x o' e' IC] at hx;cases hx);rw[Ac mJ];exact uE! bL (Aq! s3 s2 (UB! HK)));.rw[show Aa! (! X0! LG) by simp[ne]];refine Cd!;refine⟨_,rfl,Bk! ex,_,rfl,p,CW,GX,_,_,rfl,FE,TW.cl,TW.nP,Em _,W.po,OH,_,rfl,gZ,Kw!,_,rfl,_,rfl,_,rfl,_,rfl,p,CW,GX,_,_,rfl,FE,TW.cl,TW.nS,Ii _,AN!,λa2 YT=>?_⟩;have s3:=lR! YT;have W3:=gI!;refine R6! W3.po (L5! zl) (λt1 H4 ht et S4 bL=>?_);obtain⟨W4,TU⟩:=W3.IT S4 bL;have MV:=kr!;have mW:bY! H4 []:=h! TU (v! s3 ex) jj;refine aC! x mW (A4 (Sk! (0<=1000)));(have kq:Lm! H4 H4 x [] Kl!:=Ag! mW);have l1:JZ (FX! H4 x ([]++[Kl!])) t1 Ko! SL LG goal tb W.share:=⟨a2,b,hl!,kt! Ab,m3! YY⟩;(have W5:=W4.keep (H':=kv! H4 [] Kl!) λb' o' IC e'=>TV! (rV! jj IC) e');have ua:bY! (FX! H4 x ([]++[Kl!])) Uw!:=Ab;have o9:=m3! kQ;have o8:=m3! YY;(have yA:∀b' o',z! H b' o'->b'∉KM!->z! (FX! H4 x ([]++[Kl!])) b' o':=λb' o' e' IC=>by (have mJ:b'≠x:=λz=>by rw[z] at e' IC;rw[HK x o' e' IC] at hx;cases hx);rw[Ac mJ];exact uE! bL (Aq! s3 s2 (UB! HK)));generalize kv! H4 [] Kl!=H5 at l1 W5 ua o9 o8 yA;obtain⟨bN,aY⟩:=W5.ob;obtain⟨XE,qO⟩:=W5.po.ob;refine⟨_,rfl,Bk! ua,_,rfl,p,CW,bN,_,_,rfl,aY,TW.cl,TW.nP,Em _,W.po,XE,_,rfl,qO,Kw!,_,rfl,_,rfl,t,_,_,_,rfl,rfl,FM o9,rfl,_,rfl,_,rfl,p,CW,bN,_,_,rfl,aY,TW.cl,TW.nS,Ii _,AN!,λa6 ha6=>?_⟩;have s6:=lR! ha6;have W6:=W5.same s6;refine re! f8 Jj! W6.po (OP! ZE (_+1<=700)) (λt2 H7 ht7 uc S7 T_=>?_);obtain⟨W7,jk⟩:=W6.IT S7 T_;have TZ:=Ep! W6 jk;have ex7:bY! H7 Uw!:=h! jk (v! s6 ua) jj;refine aC! x ex7 (A4 (Sk! (1<=1000)));(have kr:Lm! H7 H7 x Uw! (Sw! Ve!):=Ag! ex7);refine t? (k x t1 t2 _ ?_ (l1.keep (((FF s6).trans TZ).trans kr)) ⟨a6,b,F! kr.BG uc,DA! kr.BG TZ.BG Ab,F! kr.BG (Aq! TZ.BG s6 o8)⟩ (O4!) iD x9 Ab);(·(have:=W7.keep (H':=kv! H7 Uw! (Sw! Ve!)) λb' o' IC e'=>TV! (rV! jj IC) e');rw[show i? (X0! LG) by simp[ne]] at this;exact this);·(have mJ:b'≠x:=λz=>by rw[z] at e' IC;rw[HK x o' e' IC] at hx;cases hx);rw[Ac mJ];exact kG! T_ s6 yA
universe E
universe S
inductive Ou(vs:E!)(H:Hp)(Q:VK)(E:XK):Prop
 | mk (p:Addr) (W:DI) (_:Gf!) (_:ol) (_:∀(l:Addr)(H':Hp),FB!->QQ! W.ls.map Ne!->KB->BQ! l)
theorem Yo:Xe! Jh:={}
theorem Wq(F:j! Nj! "World.letters" Jh)(TW:Hs)(TP:L4)(M1:DC K CP Nj! qm! G9 UV f1 d1):Gt! UV Ou:=by have G1:Pj! f1 d1 Ox:=Wv M1.fn TP;refine Y? Yo;obtain⟨p,W,rfl,S,k⟩:=h;refine Y!;obtain⟨dx,hp⟩:=S.ob;obtain⟨FK,hq⟩:=S.po.ob;refine SJ! (bR! C? TP.cl M1.mt G1 hr M1.bd Au);exact⟨_,rfl,p,CW,dx,_,_,rfl,hp,TW.cl,TW.nP,Em W,W.po,FK,_,rfl,hq,Kw!,W.po,W.pd,W.c,W.ls,rfl,S.po,k⟩
structure rK(G:BV)(i:Nat):Prop where
 eq:∃h o l r,G=tX! r
inductive Zv(vs:E!)(H:Hp)(Q:VK)(E:XK):Prop
 | mk (p dx:Addr) (m sh:Int) (_:vs=[Op,R! m,R! sh]) (_:L2! H []) (_:0<=m) (_:m<=12) (_:∀(W:DI)(H':Hp),sz! H'->W.share=sh->W.c=0->W.ls=[]->W.JJ=[]->W.ED=[]->W.EF=[]->W.qs.length=m.toNat->(∀i q G,c8! (rK G i))->(J1! H')->Hh!)
theorem Jf8:I? Rr! Rr! Tt:={}
theorem Jd7(F:fP! "World.__init__" Tt)(T:Txt)(TW:Hs)(TP:L4)(MmH:Mk K C fI)(FI:Lb! qO! V9 fI dI)(bI:Km! dI LP!)(MmP:Mk K CP fP)(FP:Lb! qP! O4 fP dP)(bP:Km! dP UV):R2! Rr! Zv:=by
 have GI:CJ! fI dI LP! NK:=WY FI T;have GP:Pj! fP dP Zy:=Jed FP TP;refine Y? Jf8;obtain⟨p,dx,m,sh,rfl,hp,m0,m1,k⟩:=h;refine Y!;refine IF! (TP! L!) (ZT! (cY! (Zs C (NK) [] E0 (Dy (B9 0) Mb)) [] (b3! T.range Q!) trivial (λy h=>Jm0 h) trivial UU! (Ej! (T8 MmH GI hr KG! T.iU bI O! Au fA!))) (Jdx MmP GP hr KG! TP.iU bP O! Au) (ZT! Fe Fe (Wf! Dk Fe rfl)));refine⟨_,rfl,_,rfl,p,CW,dx,[],rfl,hp,TW.cl,TW.nS,ma!,?_⟩;have h1:L2! (upd H p (Ia! Ah! S4! [])) (Ar Ah! S4! []):=Ab;have k1:Kp p H (upd H p (Ia! Ah! S4! [])):=kf;generalize upd H p (Ia! Ah! S4! [])=H1 at h1 k1;have mm:S? m.toNat=m:=BW m0;refine Hj! m rfl A! A! VB!;have li0:Lies (FX! H1 r []) [r,p]:=(Lies.mk (L:=[p]) XV (Q? (EW! (ZK hb) (T? h1)))).new JE PO! (na! JE);refine Kk (lo:=0) (n:=m.toNat) (tt:=RM!) (te:=Zs C (NK) [] E0 (Dy (B9 0) Mb)) (caps:=[]) (σ:=[GT!,Br! m,fM!]) (nN! r (Bl H1 H2) (∃qs:x!,ys=qs.map (Jr!)/\qs.length=i/\(∀j q G,tK!->rK G j)/\(au! (AU C H2 q.1 q.2))/\Lies H2 (Ks!++[r,p]))) ⟨Ab,Ah JE,[],rfl,rfl,λj q G e=>fd!,TD (by simp at hq),li0⟩ (c3! h.1) ?_ ?_;.rintro i ys H2 N hi ⟨er,s2,qs,rfl,ql,em,ho,li⟩ hN;refine Cd!;refine t? (λx uk nx gV sy=>⟨x,uk,_,rfl,Ab,λh o l r' H3 fh fo fl fr S3 kp3=>IC!⟩);(have iJ:Bl H2 (i0! (Ka! uk CA! x) x uk):=o8! nx gV);have s3:Bl H2 H3:=np! kp3 iJ nx;have er3:=D8! er;(have e0:Xr!:=A!);rw[e0] at S3;refine Ue! er3 Wc! ⟨Ab,Ie!,qs++[(x,MV!)],Om!,du! ql,λj q G e=>?_,CX!,?_⟩;(.rw[Ac (Ul! JE)];exact cF! s3 s2);(.by_cases z:j<qs.length;(.rw[EH z] at e;exact em j q G e);.rw[AW! List.getElem?_append_right] at e;(have zj:j-qs.length=0:=by rcases Nat.eq_zero_or_pos (j-qs.length) with h|h;(.exact h);.rw[CS (cn!)] at e;cases e);rw[zj] at e;(have e:(x,(MV!:BV))=Ed!:=Eb!);(have ej:j=i:=A!);rw[ej,<-cm! e];exact Aj! _ _ _ rfl);(·(have all:∀q∈qs++[(x,(MV!:BV))],AU C H3 q.1 q.2:=TD (by rcases ZI hq with hq|hq;(.exact(ho q hq).same s3);.rw[ZK hq];exact S3));have zY:=all q hq;have ne:=zY.WS er3;exact lk! zY.keep (λz=>by rw[z] at hb;exact hb.elim ne.1 ne.2));·(have a1:Lies H3 ((x::BL MV!)++(Ks!++[r,p])):=by refine li.add (AZ.mpr ⟨λm=>S3.QR m rfl,S3.nd⟩) (F9!) (F9!) (AQ! (DJ! (s3 b o e)));(.rcases FE! with rfl|hb;(.exact nx);.simp only[BL,EY,CM,DX,M'] at hb;rcases hb with rfl|rfl|rfl|rfl;(.exact C0 iJ fh);(.exact C0 iJ fo);(.exact C0 iJ fl);.exact C0 iJ fr);.rcases FE! with rfl|hb;(.obtain⟨d,e⟩:=S3.ob;exact AM!);.obtain⟨kv,e⟩:=S3.MY hb;exact AM!);(have a2:B6 (qs++[(x,(MV!:BV))])++[r,p]=(Ks!++(x::BL MV!))++[r,p]:=by rw[Hh];show(Ks!++((x::BL MV!)++[]))++[r,p]=_;rw[AH]);rw[a2];refine((a1.perm ?_).keep Ie!);(.rw[<-BE];exact P' _ HD);.by_cases z:b=r;(.rw[z];exact PO!);.exact DJ! (KN! z)
 .rintro ys H2 ⟨er,s2,qs,rfl,ql,em,ho,li⟩;have FE:=F! s2 h1;have l1:=A3 Ah! S4! [];refine Z4! FE TW.nH;have l2:=Qs! Dn! r Ah! S4! [];have k3:Kp p H2 (sm! H2 Fk!):=kf;have ND:L2! (sm! H2 Fk!) Fk!:=Ab;generalize upd H2 p (Sc CW dx Fk!)=H3 at k3 ND;have li3:=li.keep (k3.ex (T? ND));intro po mv lR wK JMZ;refine⟨po,mv,rfl,Ab,λpd H4 mC P4 zJ=>IC!⟩;(have yS:Bl H3 (upd (AA! H3 mv CA! po) po (Sc CP mv [])):=o8! lR wK);have s4:Bl H3 H4:=np! zJ yS lR;have cQ:=DT! ND;(have li4:Lies H4 (pd::po::st!):=by have a:=li3.new (b:=po) (H':=upd (AA! H3 mv CA! po) po (Sc CP mv [])) lR PO! (AQ! (DJ! (yS b o e)));refine a.new mC (T? P4.dc) Ie!;by_cases z:b=po;(.rw[z];obtain⟨d,e2⟩:=P4.ob;exact T? e2);.exact DJ! (BU! zJ z));refine Z4! cQ TW.nP;have l3:=A3 AC! TG! Fk!;have k5:Kp p H4 (upd H4 p (Ia! AC! TG! Fk!)):=kf;have aY:L2! (upd H4 p (Ia! AC! TG! Fk!)) (Ar AC! TG! Fk!):=Ab;generalize upd H4 p (Ia! AC! TG! Fk!)=H5 at k5 aY;have li5:=li4.keep (k5.ex (T? aY));intro iq uG;have zD:=li5.new (H':=MI! H5 iq) uG PO! (na! uG);have kO:Rw! H5 iq [] iq []:=Ab;have s6:=gB! uG;generalize MI! H5 iq=H6 at zD kO s6;refine Z4! (F! s6 aY) TW.nI;have l4:=Qs! Do! iq AC! TG! Fk!;have k7:Kp p H6 (sm! H6 Hn!):=kf;have gh:L2! (sm! H6 Hn!) Hn!:=Ab;generalize upd H6 p (Sc CW dx Hn!)=H7 at k7 gh;have li7:=zD.keep (k7.ex (T? gh));intro fi uK;have zC:=li7.new (H':=MI! H7 fi) uK PO! (na! uK);have efi:Rw! H7 fi [] fi []:=Ab;have s8:=gB! uK;generalize MI! H7 fi=H8 at zC efi s8;refine Z4! (F! s8 gh) TW.nF;have l5:=A3 Dp! bn! Hn!;have k9:Kp p H8 (upd H8 p (Ia! Dp! bn! Hn!)):=kf;have bt:L2! (upd H8 p (Ia! Dp! bn! Hn!)) (Ar Dp! bn! Hn!):=Ab;generalize upd H8 p (Ia! Dp! bn! Hn!)=H9 at k9 bt;have li9:=zC.keep (k9.ex (T? bt));intro en uL;have oR:=li9.new (H':=MI! H9 en) uL PO! (na! uL);have een:Rw! H9 en [] en []:=Ab;have lM:=gB! uL;generalize MI! H9 en=HA at oR een lM;refine Z4! (F! lM bt) TW.nE;have kB:Kp p HA (sm! HA pg!):=kf;have za:L2! (sm! HA pg!) pg!:=Ab;generalize upd HA p (Sc CW dx pg!)=HB at kB za;have nd:=oR.nd;(have pm:(en::fi::iq::pd::po::st!).Perm ([p,r,po,pd,iq,fi,en]++Ks!):=by have a:(B6 qs++[r,p]).Perm ([r,p]++Ks!):=HD;have b:(en::fi::iq::pd::po::st!).Perm ([en,fi,iq,pd,po,r,p]++Ks!):=((((a.cons po).cons pd).cons iq).cons fi).cons en;refine b.trans (P' _ ?_);exact(List.reverse_perm [p,r,po,pd,iq,fi,en]));have MT:=pm.nodup_iff.mp nd;have zK:Kp p H9 HB:=Kp.trans (Ox! lM) kB;have zL:Kp p H7 HB:=Kp.trans (Kp.trans (Ox! s8) k9) zK;have kA5:Kp p H5 HB:=Kp.trans (Kp.trans (Ox! s6) k7) zL;have tM:Kp p H4 HB:=k5.trans kA5;have tN:Kp p H2 HB:=(k3.trans (Ox! s4)).trans tM;have tn:=(AK.mp MT).1;simp only[AZ,CM,DX,M',not_or,CU,and_true,not_false_eq_true] at tn;obtain⟨⟨a1,a2,a3,a4,a5,a6⟩,_⟩:=tn;have kC:∀b∈Ks!,FT!:=Sh! ((AK.mp MT).2.2 p XV b hb z.symm);refine k ⟨sh,r,po,iq,fi,en,pd,0,[],qs,[],[],[]⟩ HB ⟨Fh! (by rw[za,<-Jh9]),ID! tN er a1,TD ((ho q hq).keep (Dk! (BU! tN (kC b (DD.mpr (NQ! hb)))))),P4.keep (λo e=>ID! tM e a2) (λo e=>ID! tM e a3),ID! (k7.trans zL) kO a4,ID! (k9.trans zK) efi a5,ID! kB een a6,MT⟩ rfl rfl rfl rfl rfl rfl ql em λb u e hb=>tN b u (s2 b u (k1 b u e hb)) hb
theorem NQ:I? [BX!,"n",TR!,"kind"] CU! Ji:={}
inductive Jg(vs:E!)(H:Hp)(Q:VK)(E:XK):Prop
 | mk (p b:Addr) (h g:Int) (W:DI) (tb:T2) (q:Addr) (G:BV) (_:vs=[Op,D7!,R! g,Os]) (_:ol) (_:AP!) (_:Bx!) (_:(∃q2 G2,JV W g q2 G2)) (_:LE!) (_:LB!) (_:W.ls.length<=700) (_:rj! (tb∉G.hand) YK ((B8!/\O0!/\∃o,nV!/\HD! G.AJ.find? Tc!=none/\rc! (mP! (eQ! (q,eH! (Np! (o+W.share))) f8 (tN! t)) t SL h g W.share Fy! (W5! Ko!)))\/(B8!/\Im!/\∃wt,sU! G.AJ.find? wt/\rj! (wt=0) NW ((wt=1/\rc! (mP! (eQ! (q,U7! (Bh G.AJ tb 0)) f8 (tN! t)) t Di! h tb.1 g Fy! (W5! Ko!)))\/(2<=wt/\rc! (mP! (eQ! (q,U7! (rm! (wt-O5!))) f8 (tN! t)) t SL h g (O5!) Fy! (W5! Ko!)))))))
theorem WX:I? [BX!,"h","g","b",ac!,az!] Qn! Tr:={}
theorem Sb(h:hE! z? t w9):HD! (Bh l t v).find? z?=B! (t,v):=by have m:Af!:=AG.mpr (D0! (A_ h));unfold Bh;rw[AE m];clear m;induction l with | nil=>simp at h | cons q l ih =>rw[AI];by_cases e:z?;(.rw[lc,BU];simp[e]);.rw[Rs,BU];rw[BU] at h;simp only[e,decide_false] at h ⊢;exact ih h
theorem Jd4(F:j! "send" "World.send" Tr)(T:Txt)(TW:Hs)(TP:L4)(MH:Mr!)(M1:DC K C "part" qS! V6 Lk! f1 d1)(G1:ID 3 f1 d1 Lk! (Yi))(M2:KU! qb! qc! O2 f2 d2)(M3:SC!) : ID 4 f fd Qn! (Jg):=by
 have GH:SG!:=SM!;have G2:i2! d2 Zw:=Pf! Jec M2.fn T;have G3:ID 1 f3 d3 qX! (Gc):=Pf! Jo M3.fn TP;refine Co! WX;obtain⟨p,b,h,g,W,tb,q,G,rfl,S,hb,i,⟨q2,WK,i2⟩,z1,z2,z3,k⟩:=h;refine Y!;have FV:ca:=k!;obtain⟨dx,hp⟩:=S.ob;refine TC! 4 WX.nd SW! (Ad (js! TW.cl MH.mt GH FV MH.bd L!) (NZ! 5 WX.nd (oj! O? T.cl hr (wT A? C?)) (Dv! (Hw (Ap (pl:=_) O? T.cl M2.mt G2 FV M2.bd O! Cr (wP A?))) (BS! (Sr! C? TP.cl M3.mt G3 FV M3.bd Cr (X6! Q! (CK! A?) L!)))) (BS! (Sr! C? TP.cl M3.mt G3 FV M3.bd Cr (X6! Q! L! IN)))));obtain⟨FK,hq⟩:=G1!;refine uF! (N! ⟨q,G,i,_,rfl,p,dx,_,rfl,hp,Fq!,_,rfl,p,g,W,rfl,S,N! ⟨q2,WK,i2,?_⟩⟩);refine⟨_,rfl,q,FK,_,rfl,hq,KE,_,rfl,_,rfl,p,CW,dx,_,_,rfl,hp,TW.cl,TW.nS,Ii W,q,b,G,tb,W.share,rfl,MN!,hb,z1,z2,?_⟩;rcases k with k|⟨h1,h2,o,h3,h4,k⟩|⟨h1,h2,wt,h3,k⟩;.exact Iu!
 .refine HV! ⟨h1,h2,o,h3,H1!⟩;obtain⟨W1,HK⟩:=kC!;have LB:=MQ!;obtain⟨GX,gb⟩:=S1.ob;refine pn! q GX gb q Xd!;(have e4:Uc! (HE! G.AJ.find? (UV! Tc!) T0=B! 0):=EQ h4);rw[e4];refine At!;obtain⟨OH,ND⟩:=W1.ob;obtain⟨XR,ie⟩:=W1.po.ob;refine p0! OH ND (Em _) XR ie _ rfl _ rfl _ AN! d2!;have s2:=lR! ha;have W2:=kK!;refine R6! W2.po z3 (λt H3 ht et S3 KU=>?_);obtain⟨W3,aQ⟩:=W2.IT S3 KU;have OG:=Ep! W2 aQ;refine k t H3 W3 ⟨a,b,et,Iv! OG.BG,F! OG.BG (Aq! s2 LB.BG hb)⟩ O4!;exact kG! KU s2 HK
 .refine B4! ⟨h1,h2,wt,h3,?_⟩;rcases k with k|⟨rfl,k⟩|⟨h4,k⟩;(.exact Iu!);(.refine c? a! H1!;(have eg:VN!-Hi 1=0:=a!);rw[eg] at S1;obtain⟨W1,HK⟩:=kC!;have LB:=MQ!;obtain⟨GX,gb⟩:=S1.ob;refine pn! q GX gb q Xd!;(have e4:a? (HE! (Bh G.AJ tb 0).find? (UV! Tc!) T0=B! 0)=true:=EQ (Sb h3));rw[e4];refine Cd!;obtain⟨OH,ND⟩:=W1.ob;obtain⟨XR,ie⟩:=W1.po.ob;have qS:=Xd!;refine⟨_,rfl,p,CW,OH,_,_,rfl,ND,TW.cl,TW.nP,Em _,W.po,XR,_,rfl,ie,Kw!,_,rfl,_,rfl,b,_,_,_,rfl,rfl,FM qS,rfl,_,rfl,_,rfl,AN!,d2!⟩;have s2:=Ev! [bD!,H? g] ha;have W2:=kK!;refine R6! W2.po z3 (λt H3 ht et S3 KU=>?_);obtain⟨W3,aQ⟩:=W2.IT S3 KU;have OG:=Ep! W2 aQ;refine k t H3 W3 ⟨a,b,et,Iv! OG.BG,DA! OG.BG s2 qS⟩ O4!;exact kG! KU s2 HK);.refine c? A! H1!;(have eg:Hi wt=O5!:=by unfold Hi;rw[I6!]);rw[eg] at S1;obtain⟨W1,HK⟩:=kC!;have LB:=MQ!;obtain⟨GX,gb⟩:=S1.ob;refine pn! q GX gb q Xd!;(have e4:Uc! (HE! (Bh G.AJ tb (wt-O5!)).find? (UV! Tc!) T0=B! 0):=by rw[Sb h3];refine Al! AI!;have:wt-O5!=0:=ZO z;lia);rw[e4];refine At!;obtain⟨OH,ND⟩:=W1.ob;obtain⟨XR,ie⟩:=W1.po.ob;have qS:=Xd!;refine p0! OH ND (Em _) XR ie _ rfl _ rfl _ AN! d2!;rw[eg] at *;have s2:=Ev! [bD!,Sw! O5!] ha;have W2:=kK!;refine R6! W2.po z3 (λt H3 ht et S3 KU=>?_);obtain⟨W3,aQ⟩:=W2.IT S3 KU;have OG:=Ep! W2 aQ;refine k t H3 W3 ⟨a,b,et,Iv! OG.BG,DA! OG.BG s2 qS⟩ O4!;exact kG! KU s2 HK
universe E
structure rJ(H:Hp)(c h:Int)(L:o!)(bs:T!):Prop where
 BR:VT!=(List.range bs.length).map mB!
 LF:DU! (λ(y:Int×Addr)(q:T2×Int)=>JZ H y.2 y.1 Bm! h q.1.1 q.1 q.2) L bs
universe S
inductive N7(vs:E!)(H:Hp)(Q:VK)(E:XK):Prop
 | mk (p l:Addr) (h:Int) (W:DI) (as:J!) (bs:T!) (_:vs=[Op,D7!,Kk!]) (_:ol) (_:Qe!) (_:l∉KM!) (_:IF H as bs) (_:bs.length<=60) (_:GR!) (_:eR! (iq! (VC! (W.c+(bs.length:Nat))) (rJ H' W.c h L bs) RS!))
theorem Jga:I? Ty! Ty! Me:={}
def Jj5:TE:=Rb CP "put" (Gc) [] E0 (Te K (B9 2) AC!) (Dy (JX! Bm!) (Dy (B9 1) (Dy (WC (Wi K) (oU! Jo!) Jo!) (Dy Py! Mb))))
theorem Jd9(F:j! "give_back" "World.give_back" Me)(TW:Hs)(TP:L4)(M3:SC!):Gt! Ty! N7:=by
 have G3:Zs!:=Zg!;refine Y? Jga;obtain⟨p,l,h,W,as,bs,rfl,S,el,lno,bk,zb,zl,k⟩:=h;refine Y!;have zG:=L? bk;refine SJ! (cY! Jj5 [("h",1),gR!] (QV! 2) (JG! trivial) (λy h=>vE AG! AG! h) ⟨BR!,BR!,trivial⟩ UU! (Ej! (fJ! (Ao L! rfl) TP.cl M3.mt G3 hr M3.bd (rx! Q! (CK! V6!) E?))));refine hw! l el VB!;have s0:=XJ!;have br:l≠r:=Aj el JE;have jq:r∉KM!:=S.MX JE;have S0:aZ! C (CG! r .BF []) (cZ! VA! (W.ls++[])):=ut (aO! (VA!=W.c)) AH (S.same s0)
 refine Fs (K:=K) (a:=l) (xs:=JN!) (tt:=RM!) (te:=Jj5) (caps:=[("h",1),gR!]) (σ:=[GT!,Br! h,LV!]) (nN! r (rO! H2 l) (∃L,ys=mI!/\GZ! (VC! qg!)/\rJ H2 W.c h L (bs.take i)/\IF H2 as bs/\HG! H2)) ⟨Ab,F! s0 el,[],rfl,S0,n? O!,bk.keep (FF s0),Ox! s0⟩ (c3! ⟨WF h.2.1,h.1⟩) ?_ ?_;.rintro i v ys H2 N hi ⟨er,XQ,L,rfl,W2,b2,ur,QB⟩ hN;refine Cd!;rw[ZH] at hi;cases fQ:OL! with | none=>rw[fQ] at hi;cases hi | some ai =>rw[fQ] at hi;cases hi;(have hib:i<bs.length:=KY! zG fQ);obtain⟨q,hq⟩:=An hib;obtain⟨cc,ea,ec⟩:=Ax ur i ai q fQ hq;(have lL:L.length=i:=by have:=L? b2.LF;rw[CG] at this;lia);obtain⟨GX,FE⟩:=W2.ob;obtain⟨OH,gZ⟩:=W2.po.ob;refine⟨_,rfl,p,CW,GX,_,_,rfl,FE,TW.cl,TW.nP,Em _,W.po,OH,_,rfl,gZ,Kw!,_,rfl,_,rfl,ai,_,_,_,rfl,rfl,FM ea,rfl,cc,_,_,_,rfl,rfl,FM ec,rfl,_,rfl,?_⟩;refine re! _ _ W2.po (OZ! ZE lL) (λt H4 ht et S4 bL=>?_);obtain⟨W4,TU⟩:=W2.IT S4 bL;have MV:=Ep! W2 TU;have YW:ab! H4 r L.map (λy=>H? y.1):=h! TU er jq;have WH:rO! H4 l:=h! TU XQ lno;(have kq:Lm! H4 H4 r mI! (Sw! EL!):=Ag! YW);refine Ue! YW Wc! ⟨Ab,i! br WH,L++[(EL!,t)],Om!,?_,?_,ur.keep (MV.trans kq),O4!⟩;(·(have e1:W.c+fW!=EL!:=A!);rw[e1,<-BE];exact lk! W4.keep (Qz! jq));(.rw[DK,hq];refine GP! (F4 ?_ (Aw (λ_ _ rr=>rr.keep (MV.trans kq)) b2.LF));(.have n1:=b2.BR;(have n2:Vk! bs.take=i:=dh!);rw[n2] at n1;rw[ZF,n1,ZE,n2];show _=(List.range FB).map _;rw[EE,ZF];congr 1;show [EL!]=[f8+U?];congr 1;lia);.exact⟨ai,cc,hl!,kt! ea,kt! ec⟩);·(have mK:b'≠r:=λz=>by rw[z] at e';rw[JE] at e';cases e');rw[Ac mK];exact TU b' o' (UB! QB) IC
 .rintro ys H2 ⟨er,XQ,L,rfl,W2,b2,ur,QB⟩;rw[ZA,zG] at W2 b2;rw[BS] at b2;exact k r L H2 W2 b2 QB (M? jq (K1! (j? (qB!)))) (λb o e _ z=>by rw[<-z,e] at JE;cases JE) er
theorem Ki:∀b∈BL (HE (GO FS)),K4!:=Q? (by unfold BL at hb ⊢;have hb:b∈G.h::G.o::G.l::G.r::Bw! G.holds.filter (UV! In!) FR!:=hb;simp only[CM] at hb ⊢;rcases hb with h|h|h|h|h;(.exact W?);(.exact Wy!);(.exact Ix! h);(.exact B4! (ar! h));.obtain⟨q,hq,e⟩:=DS!;exact N! (bt! (y! (AG.mpr (FZ! rk! e)))))
inductive Il(vs:E!)(H:Hp)(Q:VK)(E:XK):Prop
 | mk (p:Addr) (h:Int) (W:DI) (q:Addr) (G:BV) (n m:Nat) (rs:T!) (R:D!) (_:WL!) (_:ol) (_:Bx!) (_:f?) (_:n<=62) (_:YD!) (_:Y5!) (_:Cm!) (_:IP!) (_:sW! m) (_:m<=5000) (_:Ok FS n) (_:(Bn FS rs).length<=60) (_:GR!) (_:eR! (iq! (eQ! (PM! FS) (W.c+((Bn FS rs).length:Nat)) Dj!) (rJ H' W.c h L (Bn FS rs)) RS!))
theorem Jdi:kh! Ob:={}
theorem Jbq(F:j! Ng! "World.clean" Ob)(T:Txt)(TW:Hs)(MH:Mr!)(M1:HQ! Ng! qZ! Pa f1 d1)(G1:mf! UV To)(M2:pI! f2 d2)(G2:mg! Ty! N7):R2! CL! Il:=by
 have GH:CJ! fH dH CL! (b2! Fc):=FX.EB.no (E9 MH.fn T TW);refine Y? Jdi;obtain⟨p,h,W,q,G,n,m,rs,R,rfl,S,i,ok,zn,fC,fB,pm,pw,rc,zm,cM,zb,zl,k⟩:=h;refine Y!;have FV:ca:=k!;obtain⟨dx,hp⟩:=S.ob;obtain⟨FK,hq⟩:=G1!;refine Vo! Az (Wx! TW.cl M2.mt G2 M2.bd (Vi! (Oa! (Sr! E? TW.cl MH.mt GH FV MH.bd Au (wP Q!)) T.cl M1.mt G1 hr M1.bd)));refine⟨_,rfl,p,dx,_,rfl,hp,Fq!,_,rfl,_,rfl,p,dx,_,rfl,hp,Fq!,_,rfl,p,h,W,rfl,S,N! ⟨q,G,i,q,FK,_,rfl,hq,KE,q,G,n,m,rs,R,rfl,MN!,ok,zn,fC,fB,pm,pw,rc,zm,cM,λx as H1 nx ex bk S1 KW=>?_⟩⟩;obtain⟨W1,HK⟩:=S.step i.2 S1 KW (hh! Ki);have mB:=S.HV (b:=W.hs) (qB!) (ZP i.2);have iD:RQ!:=λz=>nx _ _ S.hs mB.1 mB.2 z.symm;have sub:∀b,EF!->b∉Bv p (KH! (NL! h.toNat (PM! FS))):=λb hb m=>by rcases ZI m with m|m;(.exact hb JI!);.obtain⟨z,hz,hm⟩:=DD.mp m;have hz:z∈NL! h.toNat (PM! FS):=hz;rcases NS hz with hz|rfl;(.exact pK! (Cn! hm));.refine pK! (Go Ed! (ZP i.2));exact hm.imp id λz=>Ki b z
 refine⟨p,x,h,_,as,_,rfl,W1,ex,W1.IU ex iD,bk,zb,zl,λy L H2 W2 b2 QB k8 k6 ey=>?_⟩;exact k y L H2 W2 b2 (nW! QB) k8 (nW! k6) ey
universe E
universe E K65
universe N FX
open PySem PySem.Spec PyProof.Rows L2
def UB(G:BV)(t:T2):Prop:=CN!\/∃q∈G.holds,bl!
theorem Of(h:t∈Ck G.holds ta):Dc!:=by unfold Ck at h;cases e:Fl! G.holds.find? (q.1=ta) with | none=>rw[e] at h;cases h | some q=>rw[e] at h;exact N! (FZ! (A_ e) h)
def g_(m:Nat)(t:T2):Prop:=Y' t/\t.1<m
structure Sd(m:Nat)(G:BV)(n:Nat):Prop where
 ok:f?
 nn:∀q∈G.AJ,0<=q.2
 ip:∀t,Dc!->g_ m t
 rk:∀t,Dc!->d4!->Vh!
 ir:hM! (g_ m t)
 n0:0<=G.BR
 n1:G.BR<m
 m0:0<=G.AW
 m1:G.AW<=n
theorem Ru(h:q∈Bh l t v):q=(t,v)\/q∈l:=by
 unfold Bh at h;by_cases c:Af!;.rw[Ch] at h;obtain⟨r,hr,e⟩:=DS!;by_cases d:r.1=t;(.rw[AE d] at e;exact Ad! (d1! d));.rw[AD d] at e;exact y! (TW! hr)
 .rw[IR] at h;rcases ZI h with h|h;(.exact Bd!);.exact Ad! x?
theorem Cu(l:T!)(t:T2)(v:Int):AT! (Bh l t v).map/\(∀u∈N7!,u∈Zk!)/\∀u∈Zk!,u=t\/u∈N7!:=by
 rw[Hb];by_cases c:Af!;.rw[Ch];exact⟨c,λu hu=>hu,λu hu=>N! hu⟩
 .rw[IR];refine⟨fg!,λu hu=>j? hu,Ii!⟩;rcases Iz! with hu|hu;(.exact N! hu);.exact Ad! UL!
theorem Fi:∀(l:T!)(t u:T2)(v:Int),Ai (Bh l t v) u=if u=t then v else Ai l u:=by
 have app:∀(l:T!)(t u:T2)(v:Int),eD!->Ai (l++[(t,v)]) u=if u=t then v else Ai l u:=λl t u v h=>by unfold Ai;rw[List.find?_append];by_cases e:u=t;(.rw[lc,e];(have:Xu!=none:=Zp! (¬z?) h);rw[this];simp);.rw[Rs];have:¬t=u:=Tv! e;cases ri! (q.1=u)<;>simp[this]
 have mp:∀(l:T!)(t u:T2)(v:Int),Af!->Ai (l.map λq=>Q9!) u=if u=t then v else Ai l u:=λl t u v h=>by induction l with | nil=>simp at h | cons q l ih =>unfold Ai;rw[AI,BU,BU];by_cases e:z?;(.rw[lc];by_cases e2:u=t;(.rw[AE e2,e2,e];simp);.rw[AD e2];have n1:¬q.1=u:=M? e2 (z▸e);rw[Al! n1];by_cases hl:Af!;(.have:=ih hl;rw[AD e2] at this;exact this);·(have:C6! (λq=>Q9!)=l:=by refine(CD Ik!).trans (List.map_id l);have:¬r.1=t:=bc! hl (Gh! z);rw[AD this];rfl);rw[this]);.rw[Rs];(have hl:Af!:=by rcases ZM h with h|h;(.exact ga h.symm e);.exact h);by_cases e2:q.1=u;(.rw[D2! e2];have:¬u=t:=Tr! e2.trans;rw[AD this]);.rw[Al! e2];exact ih hl
 intro l t u v;unfold Bh;by_cases c:Af!;.rw[Ch];exact mp l t u v c
 .rw[IR];exact app l t u v c
theorem Ea(l:T!)(P9:GN! T2)(t:T2):Ai (l.filter λq=>P9 q.1) t=sB (P9 t=true) IE! 0:=by induction l with | nil=>by_cases c:P9 t=true<;>simp[c,Ai] | cons q l ih =>rw[DH];by_cases e:z?;(.by_cases c:Ix P9 q.1;(.rw[Ch,AE (g3!)];unfold Ai;rw[BU,BU,ev!]);.rw[IR,ih,AD (g3!),AD (g3!)]);·(have e1:Ai (q::l) t=IE!:=by unfold Ai;rw[BU,IB!]);rw[e1];by_cases c:Ix P9 q.1;(.rw[Ch];(have:Ai (q::l.filter λq=>P9 q.1) t=Ai (l.filter λq=>P9 q.1) t:=by unfold Ai;rw[BU,IB!]);rw[this,ih]);.rw[IR,ih]
theorem Kh(h:∀q∈l,0<=q.2)(t:T2):0<=IE!:=by unfold Ai;cases e:Xu! with | none=>exact AL! | some q=>exact h q (A_ e)
universe S
theorem Sd.of(x:Cp!)(lQ:ZO! G')(nu:ca!)(md:cb!)(hd:cc! (Dc!\/(g_ m t/\(d4!->AT! G'.AJ.map))))(hl:∀q∈G'.holds,∀t∈GE,Dc!)(nn:∀q∈G'.AJ,0<=q.2)(ir:rJ! G'.AJ.map (Vh!\/g_ m t))(ks:∀t,UB G' t->Vh!->AT! G'.AJ.map):GI! G':=by
 refine⟨lQ,nn,EJ!,LC!,h? ((ir t ht).elim (x.ir t) id),G! nu x.n0,G! nu x.n1,G! md x.m0,by rw[md];have:=x.m1;lia⟩;.rcases ht with ht|⟨q,hq,ht⟩;(.rcases A6! hd with h|h;(.exact x.ip t h);.exact h.1);.exact x.ip t (hl q hq t ht)
 .rw[nu] at e;rcases id ht with h|⟨q,hq,h⟩;(.rcases hd t h with h|h;(.exact ks t ht (x.rk t h e));.exact h.2 e);.exact ks t ht (x.rk t (hl q hq t h) e)
theorem Sd.up(x:Cp!):GI! G:=x.of (x.ok.mono (E_ n)) rfl rfl Pi! (rz! rl!) x.nn YZ! UF!
theorem Sd.tk(x:Cp!):Sd m (HE G) n:=⟨x.ok.HE,x.nn,x.ip,x.rk,x.ir,x.n0,x.n1,x.m0,x.m1⟩
theorem Sd.make(x:Cp!)(hm:m<=12)(hn:AJ!)(a:Addr):GI! (HE bL!):=by
 refine Sd.tk ⟨x.ok.V' a,x.nn,EJ!,LC!,x.ir,x.n0,x.n1,by show 0<=Dz!;have:=x.m0;lia,by show Dz!<=BN! (n+1);have:=x.m1;lia⟩;.have h1:=x.m1;have h2:=x.n1;rcases ht with ht|⟨q,hq,ht⟩;(.have ht:LA!:=ht;rcases DY! with ht|ht;(.exact x.ip t (A1! ht));·(have:Hy!:=ag!);rw[this];exact⟨⟨x.n0,xz (G.BR<12),x.m0,xz (G.AW<60)⟩,x.n1⟩);.have hq:q∈IZ!:=hq;rcases ZI hq with hq|hq;(.exact x.ip t (wp rl!));·(have:lA!:=aV!);rw[this] at ht;cases ht
 .rcases ht with ht|⟨q,hq,ht⟩;(.have ht:LA!:=ht;rcases DY! with ht|ht;(.exact x.rk t (A1! ht) e);·(have:Hy!:=ag!);exact Ek! (EQ this) e);.have hq:q∈IZ!:=hq;rcases ZI hq with hq|hq;(.exact x.rk t (wp rl!) e);·(have:lA!:=aV!);rw[this] at ht;cases ht
theorem Jno(ok:f?)(h:O0!->EI!):ZO! LD!:=by
 refine(ok.mono (E_ n)).hand (Pl _ ok.hn) (by have:=Jp G.hand tb;have:=ok.hz;lia) LC!;rcases FG! with ht|ht;.exact ok.hk t ht e
 .rw[ht];exact h (dS! ht)
def Hl(G:BV)(ta tb:T2):BV:=HE (r6! Im ta gX!)
def Je(G:BV)(tb:T2):BV:=HE { G with hand:=P2! }
theorem Sd.hold(x:Cp!)(hb:B8!):GI! (Hl G ta tb):=by
 have lQ:ZO! (r6! Im ta gX!):=by obtain⟨g1,g2,g3⟩:=x.ok.get ta;refine(x.ok.mono (E_ n)).holds (Pl _ g1) (BJ! (Jp (Ck G.holds ta) tb)) LC!;rcases FG! with ht|ht;(.exact g3 t ht e);.rw[ht];exact x.ok.hk tb hb (dS! ht)
 refine(x.of lQ rfl rfl Pi! (λq hq t ht=>?_) x.nn YZ! UF!).tk;rcases Pz hq with⟨_,e⟩|hq;.rw[e] at ht;rcases FG! with ht|ht;(.exact Of ht);.rw[ht];exact H! hb
 .exact N! rl!
theorem Sd.free(x:Cp!)(tb:T2):GI! (Je G tb):=by refine YS! ((x.ok.mono (E_ n)).hand (l:=P2!) (x.ok.hn.sublist EW) (by have:=AN (HU! (u≠tb)) G.hand;have:=x.ok.hz;unfold N0;lia) λt ht e=>x.ok.hk t (PP! ht) e) (C4! (Fp! (PP! ht))) x.nn YZ! UF!
def Jv(G:BV)(tb:T2)(v:Int):BV:=HE (qF! (Re! G.AF))
def Jk6(G:BV)(tb:T2)(v:Int):BV:=HE (as! (Re! G.AJ))
theorem Sd.out(x:Cp!)(h:EI!)(v:Int):mw! Jv :=YS! ((x.ok.AF h v).mono (E_ n)) Pi! x.nn YZ! UF!
theorem Sd.vo(x:Cp!)(hf:Im!)(hi:g_ m tb)(hv:0<=v):mw! Jk6:=by
 have okc:=(x.ok.OS hf v).hand (l:=G.hand) x.ok.hn (FR x.ok.hz) x.ok.hk;refine YS! okc Pi! (CX!) II! (λt _ h=>(Cu _ _ _).2.1 t h);.rcases Ru hq with e|hq;(.rw[e];exact hv);.exact x.nn q hq
 .rcases Lv! with e|h;(.rw[e];exact N! hi);.exact W?
def Fa(G:BV)(R:D!):BV:=HE (GO FS)
theorem Sd.clean(x:Cp!)(cM:Ok FS n):GI! (Fa G R):=by
 refine(x.of (cM.GO.mono (E_ n)) rfl rfl Pi! (rz! (FZ! rk! ht)) (YF! x.nn) km! λt ht hk=>?_).tk;obtain⟨q,hq,e⟩:=ZN hk;refine KL! q (ge! hq) e;rw[e];unfold Bi;rcases ht with ht|⟨r,hr,ht⟩;.have ht:t∈(keepR G R).hand:=ht;rw[decide_eq_true ht];rfl
 .have:dA! (keepR G R).holds.any:=JS.mpr ⟨r,hr,ag!⟩;rw[this,Bool.or_true]
theorem LC.ofN(ok:f?)(hn:n<=60):∃k R,k<=5000/\jC!:=by
 have l1:(G.holds.map (·.1)).length<=60:=by rw[ok.ke,ZA];have:=ok.oz;lia
 have l2:D6! startT G 200:=by unfold startT J5;refine Ja! ?_;rw[ZE];have h1:=ok.hz;have h2:=AN (BO! Wl!) (HA! G.AF.map);rw[ZA] at h2;have h3:=ok.oz;lia
 have l3:Wj! (G.holds.map (·.1)).filter (sA! Pu!):=Ja! l1;obtain⟨k,R,h1,h2⟩:=LC.ex (nx:=OL G.holds) (keys:=G? G.holds.map) (B:=60) (Jek G.holds) (λt=>AR (AN _ _) (AR (ok.get t).2.1 hn)) 5000 (startT G) [] (Jbb G) (by have:o? (G.holds.map (·.1)).filter (sA! Pu!)*(60+1)<=60*(60+1):=FU _ l3;lia);exact⟨k,R,h1,h2⟩
theorem Ok.clean(ok:f?)(rc:jC!):Ok (FX.keepR G R) n:=ok.keepR rc.sub.2 (rc.closed (C4! (sw ht)))
universe E
universe S
def Jfd(G:BV)(tb:T2)(v:Int):BV:=HE { G with hand:=Fz!,AF:=Re! G.AF }
def Jfe(G:BV)(tb:T2)(v:Int):BV:=HE { G with hand:=Fz!,AJ:=Re! G.AJ }
theorem Sd.pS(x:Cp!)(OY:EI!)(hi:g_ m tb)(v:Int):mw! Jfd:=by
 refine YS! (FX.Ok.AF (G:=LD!) (Jno x.ok λ_=>OY) OY v) II! x.nn YZ! UF!;rcases FG! with ht|ht;.exact Fp! ht
 .rw[ht];exact c? hi (λe=>ga (x.ok.new tb OY).1 e)
theorem Sd.pT(x:Cp!)(hf:Im!)(hi:g_ m tb)(hv:0<=v):mw! Jfe:=by
 refine YS! (x.ok.OS hf v) II! (CX!) II! (λt _ h=>(Cu _ _ _).2.1 t h);.rcases FG! with ht|ht;(.exact Fp! ht);.rw[ht];exact c? hi (λ_=>(Cu _ _ _).1)
 .rcases Ru hq with e|hq;(.rw[e];exact hv);.exact x.nn q hq
 .rcases Lv! with e|h;(.rw[e];exact N! hi);.exact W?
theorem Jn(l:T!)(t:T2)(v:Int):(Bh l t v).length<=l.length+1:=by
 unfold Bh;split;.rw[ZA];lia
 .rw[ZE];exact At
universe E
universe E FX
universe N K65
open PySem L2 FX
structure LT where
 kind:Str
 s:Int
 g:Int
 th:T2
 x:Int
def TX(t:T2)(l:LT):Int:=if l.th=t then(if VD! then 1 else l.x) else 0
def Ct(t:T2):v?->Int
 | []=>0
 | l::r=>Jh!+Ct t r
theorem Gv(t:T2):∀(a b:v?),Ct t DF!=Ct t a+Ct t b
 | [],b=>by simp[Ct]
 | l::a,b=>by show Jh!+Ct t DF!=(Jh!+Ct t a)+Ct t b;rw[Gv t a b];lia
theorem Gu(t:T2)(a b:v?)(l:LT):Ct t (a++l::b)=Ct t DF!+TX t l:=cd! Gv Gv (Ct t a+(Jh!+Ct t b)=_)
theorem Jcx(t:T2)(a:v?)(l:LT):Ct t (a++[l])=Ct t a+TX t l:=OP! Gv (Ct t a+(Jh!+0)=_)
def NI(t:T2)(G:BV):Int:=tL!
def Gs(t:T2):x!->Int
 | []=>0
 | q::r=>bh! q.2 r
def Mg:x!->Nat
 | []=>0
 | q::r=>q.2.AJ.length+Mg r
theorem Vv:∀{l:x!} {i:Nat} {q r:Sp!},MA!->Gs t YH!=Gs t l-NI t q.2+NI t r.2
 | [],i,q,r,h=>Cu!
 | x::l,0,q,r,h=>by (have h:x=q:=x?);subst h;show bh! r.2 l=(YO!)-NI t x.2+NI t r.2;lia
 | x::l,i+1,q,r,h=>by (have h:MA!:=x?);show bh! x.2 YH!=(YO!)-NI t q.2+NI t r.2;rw[Vv h];lia
theorem We:∀{l:x!} {i:Nat} {q r:Sp!},MA!->Mg YH!+q.2.AJ.length=Mg l+r.2.AJ.length
 | [],i,q,r,h=>Cu!
 | x::l,0,q,r,h=>by (have h:x=q:=x?);subst h;show r.2.AJ.length+Mg l+x.2.AJ.length=x.2.AJ.length+Mg l+r.2.AJ.length;lia
 | x::l,i+1,q,r,h=>by (have h:MA!:=x?);have:=We (r:=r) h;show x.2.AJ.length+Mg YH!+q.2.AJ.length=x.2.AJ.length+Mg l+r.2.AJ.length;lia
theorem Tg:∀{l:x!},(∀(j:Nat) r,l[j]?=B! r->0<=NI t r.2)->0<=Gs t l
 | [],_=>AL!
 | x::l,k=>by have h1:=k 0 x rfl;have h2:=Js! Tg (λj r h=>k (j+1) r (x?));show 0<=YO!;lia
theorem Zu:∀{l:x!} {i:Nat} {q:Sp!},MA!->(∀(j:Nat) r,l[j]?=B! r->j≠i->0<=NI t r.2)->NI t q.2<=Gs t l
 | [],i,q,h,_=>Cu!
 | x::l,0,q,h,k=>by (have h:x=q:=x?);subst h;have h2:=Js! Tg (λj r h=>k (j+1) r (x?) C!);show NI t x.2<=YO!;lia
 | x::l,i+1,q,h,k=>by (have h:MA!:=x?);have h1:=k 0 x rfl C!;have h2:=Zu h λj r h ne=>k (j+1) r (x?) C!;show NI t q.2<=YO!;lia
def K_(m:Nat)(l:LT):Prop:=0<=l.g/\l.g<m/\g_ m l.th /\
 ((eS!/\1<=l.x)\/(l.kind=Dh!/\1<=l.x/\l.g≠l.th.1)\/(O6!/\1<=l.x/\l.g=l.th.1)\/(VD!/\l.g=l.th.1/\0<=l.x/\l.x<m/\0<=l.s/\l.s<m/\l.s≠l.th.1))
theorem Ja:AE! SL Di!:=ZV
theorem Jb:AE! Bm! Di!:=ZV
theorem K_.w(h:IY!):1<=TX l.th l:=by grind [TX,Ja,Jb,LT,K_]
theorem K_.nn(h:IY!)(t:T2):0<=Jh!:=by
 by_cases e:l.th=t;.rw[<-e];have:=h.w;lia
 .unfold TX;rw[Rs];exact AL!
theorem Ky:∀{ls:v?},(A0! IY!)->0<=Ct t ls
 | [],_=>AL!
 | l::ls,h=>by have h1:=(h l En!).nn t;have h2:=Js! Ky X8!;show 0<=Jh!+Ct t ls;lia
theorem Vw(h:A0! IY!)(hl:L6!):1<=Ct l.th ls:=by obtain⟨a,b,e⟩:=IM hl;rw[e,Gu];have h1:=(h l hl).w;have h2:=Ky (t:=l.th) (ls:=SZ) (AC (h z (by rw[e];rcases As! with hz|hz;(.exact j? hz);.exact rN! hz)));lia
structure Wl(C:J?)(m n:Nat)(sh:Int)(qs:x!)(ls:v?):Prop where
 len:qs.length=m
 lZ:m<=12
 sd:∀(i:Nat)(q:Addr)(G:BV),w?->Cp!/\LF!
 ok:A0! IY!
 sum:∀t,C t->Gs t qs+Ct t ls=0
 sh:2<=sh
universe S
variable {C:T2->Prop}{m n:Nat}{sh:Int}{qs:List (Addr×BV)}{ls:List LT}
theorem Jho{P9:wE BV Nat}{l:x!}{i:Nat}{q:Addr}{G':BV}(h:∀j q G,CH! (l[j]?)->j≠i->P9 G j)(hi:P9 G' i):∀j q' G,(l.set i AD!)[j]?=B! (q',G)->P9 G j:=by
 intro j q' G e;rw[List.getElem?_set] at e;by_cases z:i=j;.rw[AE z] at e;by_cases z2:i<l.length;(.rw[AE z2] at e;have:AD!=(q',G):=ZO e;rw[<-cm! this,<-z];exact hi);.rw[AD z2] at e;cases e
 .rw[AD z] at e;exact h j q' G e λz'=>z z'.symm
theorem Wl.next(x:De!){i:Nat}{q:Addr}{G G':BV}{NC:v?}(hi:w?)(sL:GI! G')(nu:ca!)(lQ:∀l∈NC,IY!)(vg:∀t,C t->NI t G'+Ct t NC=NI t G+Ct t ls)(JMi:G'.AJ.length+NC.length<=G.AJ.length+ls.length+1):k3! D4! NC:=by refine⟨G! List.length_set x.len,x.lZ,Jho (P9:=λG j=>GI! G/\G.BR=EA!) (λj q G e _=>⟨(x.sd j q G e).1.up,(x.sd j q G e).2⟩) ⟨sL,EW! nu (x.sd i q G hi).2⟩,lQ,λt hC=>?_,x.sh⟩;have h1:=x.sum t hC;have h2:=vg t hC;rw[Vv hi];show Gs t qs-NI t G+NI t G'+Ct t NC=0;lia
theorem Wl.up(x:De!):Sz! Wl C Fb!:=⟨x.len,x.lZ,λi q G e=>⟨(x.sd i q G e).1.up,(x.sd i q G e).2⟩,x.ok,x.sum,x.sh⟩
theorem Wl.jL(x:De!){t:T2}{j:Nat}{r:Sp!}(e:qs[j]?=B! r)(ne:h1!):Bp! r.2.AF=0:=by obtain⟨s,nu⟩:=x.sd j r.1 r.2 e;exact E5 (M? ne (jS! z))
theorem Wl.o_(x:De!){t:T2}{j:Nat}{r:Sp!}(e:qs[j]?=B! r)(ne:h1!):0<=NI t r.2:=by have h1:=x.jL e ne;have h2:=Kh (x.sd j r.1 r.2 e).1.nn t;unfold NI;lia
theorem Wl.there(x:De!){l:LT}(hl:L6!)(hC:C l.th){i:Nat}{q:Addr}{G:BV}(hi:w?)(e:No l.th.1 i):l.th∈CO!:=by
 refine Classical.byContradiction λno=>?_;have h1:=Vw x.ok hl;have h2:=Tg (t:=l.th) (l:=qs) λj r ej=>by by_cases c:No l.th.1 j;(·(have:i=j:=A!);subst this;have er:Ed!=r:=ZO (hi.symm.trans ej);have h3:=Kh (x.sd i r.1 r.2 ej).1.nn l.th;unfold NI;rw[<-er] at h3 ⊢;have h4:KP! l.th=0:=E5 no;show 0<=Ai G.AJ l.th-KP! l.th;have h3:0<=Ai G.AJ l.th:=h3;lia);.exact x.o_ ej c
 have h3:=x.sum l.th hC;lia
theorem Wl.je(x:De!){i:Nat}{q:Addr}{G:BV}(hi:w?)(t:T2)(hC:BV!->C t):0<=Eo!:=by
 by_cases c:BV!;.obtain⟨s,nu⟩:=YB!;(have e1:JB!:=jS! c);have h1:=Zu (t:=t) hi λj r ej ne=>x.o_ ej C!;have h2:=Js! Ky x.ok;have h3:=x.sum t (hC c);have h4:Ak!=0:=E5 λz=>s.ok.rk t z (s.ok.new t c).1;have h1:tL!<=Gs t qs:=h1;lia
 .rw[E5 c];exact AL!
universe E
universe S
variable {C:T2->Prop}{m n:Nat}{sh:Int}{qs:List (Addr×BV)}{ls:List LT}{i:Nat}{q:Addr}{G:BV}
theorem mem_mid(hz:z∈SZ):z∈a++l::b:=Ih!
theorem Wl.same(x:De!)(hi:w?){G':BV}(sL:GI! G')(nu:ca!)(hr:G'.AJ=G.AJ)(ho:G'.AF=G.AF):WC! Wl C D4! :=x.next hi sL nu x.ok (λt _=>by unfold NI;rw[hr,ho]) (DG! hr)
theorem Wl.make(x:De!)(hi:w?)(hn:AJ!)(a:Addr):WC! Wl C (at! QM!):=by
 obtain⟨s,nu⟩:=YB!;refine sb! (s.make x.lZ hn a) x.ok ku!;have fr:ii∉CO!:=λz=>by obtain⟨r,hr,e⟩:=ZN z;exact s.ok.fresh.2.1 r hr e
 have e:Ai (L8!) t=Eo!:=by rw[<-Jdr fr,Fi];by_cases c:Hy!;(.rw[Ch,c,E5 fr]);.rw[IR]
 show rr! (Ak!-Ai (L8!) t+Ct t ls);rw[e]
theorem Jgq(h:∀z∈ls,K_ m z)(hl:IY!):∀z∈ls++[l],K_ m z:=AC (by rcases As! with hz|hz;(.exact B3! h);.rw[ZK hz];exact hl)
theorem Wl.TL(x:De!)(hi:w?){b:T2}(hb:b∈G.hand)(hn:b.1=G.BR){g:Int}(g0:0<=g)(g1:g<m):k3! (at! m1!) (ls++[aG!]):=by
 obtain⟨s,nu⟩:=YB!;have hs:=x.sh;refine sb! (s.out (s.ok.hk b hb hn) _) (Jgq x.ok ⟨g0,g1,DV! s.ip b hb,H! (n? (xz (1<=sh)))⟩) (cd! ZE List.length_singleton (G.AJ.length+_<=_));rw[Jcx];show rr! (Ak!-Bp! (Bh G.AF b (KP! b+sh))+(Ct t ls+TX t aG!));rw[Fi];unfold TX;by_cases c:t=b;.rw[Ch,AE (show b=t from c.symm),AD Ja,c];show _+(_+sh)=_;lia
 .rw[IR,AD (EY! (¬b=t) (Tv! c))];lia
theorem Wl.wt(x:De!){a b:v?}{l:LT}(es:ls=a++l::b)(np:VE!)(hC:Y6! (C l.th))(hi:CH! (qs[l.g.toNat]?)) : ∃G',oS!/\k3! mp! DF!:=by
 have hl:L6!:=Q7!
 obtain⟨g0,g1,ib,kk⟩:=x.ok l hl;obtain⟨s,nu⟩:=x.sd _ q G hi;rw[Jc!] at nu;have lP:∀z∈SZ,K_ m z:=AC (x.ok z (P! es (mem_mid hz)));have len:(a++b).length+1=ls.length:=by rw[es];simp only[ZE,BO];lia
 have lw:∀t,TX t l=if l.th=t then l.x else 0:=λt=>by unfold TX;rw[AD np]
 rcases kk with⟨k,x1⟩|⟨k,x1,ne⟩|⟨k,x1,eg⟩|⟨k,_⟩;· by_cases c:l.th.1=G.BR;(.have OY:=x.there hl (hC (by rw[k];decide +kernel)) hi (by rw[Jc!,c,nu]);refine lp! (Jfd G l.th (VF!)) (Am! k (E8! c _ (Lp OY) rfl)) (s.pS OY ib _) ku!;show Xy! (Ak!-j5! G.AF VF!);rw[es,Gu,Fi,lw];by_cases d:t=l.th;(.rw[AE d,e5!,d];lia);.rw[AD d,kj!];lia);.have r0:=Kh s.nn l.th;refine lp! (Jfe G l.th (O7!)) (Am! k (Ph! c)) (s.pT c ib C!) (by have:=Jn G.AJ l.th (O7!);show(Bh G.AJ l.th _).length+_<=_;lia);show Xy! (j5! G.AJ O7!-Eo!);rw[es,Gu,Fi,lw];by_cases d:t=l.th;(.rw[AE d,e5!,d];lia);.rw[AD d,kj!];lia
 · (have c:l.th.1≠G.BR:=G! nu (Tv! ne));have r0:=Kh s.nn l.th;refine lp! (Jk6 G l.th (O7!)) (HV! (BY! k)) (s.vo c ib C!) (by have:=Jn G.AJ l.th (O7!);show(Bh G.AJ l.th _).length+_<=_;lia);show Xy! (j5! G.AJ O7!-Eo!);rw[es,Gu,Fi,lw];by_cases d:t=l.th;(.rw[AE d,e5!,d];lia);.rw[AD d,kj!];lia
 · by_cases OY:l.th∈CO!;(·(have e1:YH G l.th l.x=Bh G.AF l.th (VF!):=rf! (AE OY));refine lp! (Jv G l.th (VF!)) (B4! ⟨k,EQ e1⟩) (s.out OY _) ku!;show Xy! (Ak!-j5! G.AF VF!);rw[es,Gu,Fi,lw];by_cases d:t=l.th;(.rw[AE d,e5!,d];lia);.rw[AD d,kj!];lia);·(have e1:YH G l.th l.x=G.AF:=rf! (AD OY));refine⟨HE G,B4! ⟨k,EQ e1⟩,x.next hi s.up.tk rfl lP II! ku!⟩;show Xy! tL!;rw[es,Gu,lw];by_cases d:l.th=t;(.exact Ek! (x.there hl (P! d ht) hi (F8! Jc! eg)) OY);.rw[AD d];lia
 .exact hm!
universe E
def Hq(i:Int)(y:Cz!):LT:=⟨Bm!,i,y.1.1,y.1,y.2⟩
theorem Xs(q:Cz!)(l:T!)(t:T2):Ai (q::l) t=sB z? q.2 IE!:=by
 unfold Ai;rw[BU];by_cases e:z?;.rw[ev!,lc];rfl
 .rw[IB!,Rs]
theorem Qs(i:Int)(t:T2):∀{l:T!},V1!->(∀q∈l,0<=q.2)->Ct t ((l.filter (AS! (0<q.2))).map (Hq i))=IE!
 | [],_,_=>rfl
 | q::l,nd,nn=>by have MT:=Bg!;have ih:=Qs i t MT.2 (CE! (nn r (wn hr)));have q0:=nn q (AV!);rw[Xs,DH];(have lw:TX t (Hq i q)=sB z? q.2 0:=by unfold TX;rw[AD (show ¬(Hq i q).kind=Di! from Jb)];rfl);by_cases c:0<q.2;(.rw[AE (decide_eq_true c)];show TX t (Hq i q)+Ct t _=_;rw[lw,ih];by_cases e:z?;(.rw[lc,lc,ee! E5 MT.1];lia);.rw[Rs,Rs];lia);.rw[AD (NV!),ih];by_cases e:z?;(.rw[lc,ee! E5 MT.1];lia);.rw[Rs]
theorem Qe(p:a.Perm b)(nd:y? b.map)(t:T2):Bp! a=Bp! b:=by
 have qI:y? a.map:=(p.map _).nodup_iff.mpr nd;by_cases c:AT! b.map;.obtain⟨q,hq,e⟩:=ZN c;have h1:=GF nd hq;have h2:=GF qI (p.mem_iff.mpr hq);rw[e] at h1 h2;unfold Ai;rw[h1,h2]
 .rw[E5 c,E5 λz=>c ((p.map _).mem_iff.mp z)]
theorem Lq(P9:Pl!):∀l:S!,o? l.filter P9+o? l.filter (λx=>! P9 x)=l.length
 | []=>rfl
 | x::l=>by have:=Lq P9 l;rw[DH,DH];cases e:P9 x<;>simp<;>lia
universe S
variable {C:T2->Prop}{m n:Nat}{sh:Int}{qs:List (Addr×BV)}{ls:List LT}{i:Nat}{q:Addr}{G M:BV}
theorem Wl.clean(x:De!)(hi:w?)(hC:Oz! (C t)){k:Nat}{R:D!}(rc:jC!){rs:T!}(pm:Cm!) : k3! (Tj! Fa R) jF!:=by
 obtain⟨s,nu⟩:=YB!;refine sb! (s.clean (s.ok.clean rc)) c4! ?_;.rcases As! with hz|hz;(.exact B3! x.ok);.obtain⟨y,hy,rfl⟩:=Cc!;obtain⟨tU,tS⟩:=AB.mp hy;have tR:=pm.mem_iff.mp (Fe! tU);have im:=s.ir y.1 (AG.mpr (GO! y tR));exact⟨im.1.1,im.2,im,Ix! (Bu! (by have:=BK tS;show 1<=y.2;lia) rfl)⟩
 .rw[Gv];have dv:V2!:=c1! pm.map s.ok.rn;have e1:Ct t ((Bn FS rs).map (Hq U?))=Ai (rs.filter XX!) t :=Qs U? t (dv.sublist (List.filter_sublist.map _)) (CE! (s.nn r (pm.mem_iff.mp Lt!)));rw[e1,Ea rs (λt=>! Xc!) t,Qe pm s.ok.rn];show rr! (m6! FS-Ai (G.AF.filter (AS! In!)) t+_);rw[jw! Xc!,Ea G.AF (V9!) t];(have e2:KW! (a? A7!=true) Eo! 0=Eo!:=by by_cases c:A7!;(.rw[AE (decide_eq_true c)]);.rw[AD (NV!)];have h1:=x.je hi t (hC t);by_cases d:BV!;(.have h2:¬Wl!:=λz=>c (rc.sub.2 t (by unfold startT J5;refine ge! (Bt! (AB.mpr ⟨d,decide_eq_true z⟩));rw[s.ok.ke];exact D2! d));lia);.rw[E5 d]);rw[e2];cases Xc!;(.rw[Ce!,AE (by rfl)];lia);.rw[e?,Ce!];lia
 .rw[ZE,ZA];have h1:(Bn FS rs).length<=Vj! XX!:=Ln!;have h2:=(pm.filter XX!).length_eq;have h3:=Lq (Sn! (Fi! FS)) G.AJ;show o? G.AJ.filter (λq=>Fi! FS)+_<=_;lia
theorem Wl.good(x:De!)(hn:n<=60)(hi:w?):Good G:=by obtain⟨s,nu⟩:=YB!;have h1:=s.ok.hz;have h2:=s.ok.oz;have h3:=s.ok.rz;refine⟨s.ok.hn,A!,s.ok.on,A!,s.ok.rn,A!,Ik!⟩;obtain⟨a,fd⟩:=Oh (l:=G.holds) (t:=r.1) (P! s.ok.ke (Ku! r hr));obtain⟨g1,g2,_⟩:=s.ok.get r.1;exact⟨a,_,fd,g1,A!⟩
universe E
inductive f_(qs:x!)(t:T2):Prop
 | mk (j:Nat) (q:Addr) (G:BV) (_:tK!) (_:BV!)
structure N_(qs:x!)(ls:v?)(X:J?):Prop where
 hand:VG! (KI! (¬X t))
 c9:A0! (Y6! (¬X l.th))
 hold:VG! (∀r∈G.holds,d3! (X t->X r.1))
 old:VG! (∀t,X t->Vy!->t.2<G.AW)
def NU(qs:x!)(ls:v?)(yY:x!)(NC:v?):Prop:=∀X,J0! X->N_ yY NC X
theorem NU.refl(qs:x!)(ls:v?):NU qs ls qs ls:=OU!
def aG(ls:v?)(j:Int)(t:T2):Prop:=∃l∈ls,l.th=t/\((VD!/\l.s=j)\/(l.kind=Dh!/\l.g=j))
def XZ(qs:x!)(ls:v?):Prop:=VG! (∀t,Dc!->h1!->1<=Ak!\/aG ls EA! t)
universe S
variable {qs:List (Addr×BV)}{ls NC:List LT}{i:Nat}{q:Addr}{G G':BV}{X:T2->Prop}
theorem Cy{l:x!}{j:Nat}{q':Addr}{G2:BV}(e:I8! ((l.set i AD!)[j]?) q'):(j=i/\G2=G'/\q'=q)\/(j≠i/\I8! (l[j]?) q'):=by
 rw[List.getElem?_set] at e;by_cases z:i=j;.rw[AE z] at e;by_cases z2:i<l.length;(.rw[AE z2] at e;have:AD!=(q',G2):=ZO e;exact H! ⟨z.symm,(Prod.mk.inj this).2.symm,(Prod.mk.inj this).1.symm⟩);.rw[AD z2] at e;cases e
 .rw[AD z] at e;exact c? (λy=>z y.symm) e
theorem N_.next(x:J0! X)(hi:w?)(h1:cc! (CN!\/¬X t))(h2:∀l∈NC,Y6! (L6!\/¬X l.th))(h3:∀r∈G'.holds,d3! ((∃r0∈G.holds,r0.1=r.1/\t∈r0.2.2)\/¬X t))(h4:G6!):N_ D4! NC X:=by
 refine⟨λj q' G2 e t ht=>?_,λl hl nb=>?_,λj q' G2 e r hr t ht xt=>?_,λj q' G2 e t xt et=>?_⟩;.rcases Ca! with⟨_,e2,_⟩|⟨_,e⟩;(.rw[e2] at ht;rcases A6! h1 with h|h;(.exact x.hand i q G hi t h);.exact h);.exact x.hand j q' G2 e t ht
 .rcases h2 l hl nb with h|h;(.exact x.c9 l h nb);.exact h
 .rcases Ca! with⟨_,e2,_⟩|⟨_,e⟩;(.rw[e2] at hr;rcases h3 r hr t ht with⟨r0,m0,e0,t0⟩|h;(.rw[<-e0];exact x.hold i q G hi r0 m0 t t0 xt);.exact ga xt h);.exact x.hold j q' G2 e r hr t ht xt
 .rcases Ca! with⟨ej,e2,_⟩|⟨_,e⟩;(.rw[e2];have:=x.old i q G hi t xt (F8! et ej);lia);.exact x.old j q' G2 e t xt et
theorem NU.less(hi:w?)(h1:cc! CN!)(h2:∀l∈NC,Y6! L6!)(h3:∀r∈G'.holds,∀t∈BP!,∃r0∈G.holds,r0.1=r.1/\t∈r0.2.2)(h4:G6!):gn! NC :=λX x=>x.next hi (hG! h1) (λl hl nb=>P? (h2 l hl nb)) (cg! (Ad! (h3 r hr t ht))) h4
theorem XZ.next(x:XZ qs ls)(hi:w?)(hp:∀(j:Nat) t,j≠i->aG ls EA! t->aG NC EA! t)(h':∀t,UB G' t->t.1≠U?->1<=LX!\/aG NC U? t):kP! XZ:=by
 intro j q' G2 e t ht ne;rcases Ca! with⟨ej,e2,_⟩|⟨ne2,e⟩;.subst ej;rw[e2] at ht ⊢;exact h' t ht ne
 .rcases x j q' G2 e t ht ne with h|h;(.exact W?);.exact y! (hp j t ne2 h)
theorem aG.mono(h:A0! (l∈NC))(p:aG ls j t):aG NC j t:=let⟨l,hl,r⟩:=p;⟨l,h l hl,r⟩
theorem XZ.less(x:XZ qs ls)(hi:w?)(hl:A0! (l∈NC))(h':∀t,UB G' t->t.1≠U?->Dc!/\Ak!<=LX!):kP! XZ :=x.next hi (λj t _ p=>p.mono hl) λt ht ne=>by obtain⟨h1,h2⟩:=h' t ht ne;rcases x i q G hi t h1 ne with h|h;(.exact AW! P?);.exact y! (h.mono hl)
universe E
structure Wg(D:J?)(m n:Nat)(sh:Int)(qs:x!)(ls:v?):Prop where
 wl:Sz! Wl (λt=>¬D t\/f_ qs t) n
 sD:J0! D
 rc:XZ qs ls
theorem Wl.mono{C C':J?}{m n:Nat}{sh:Int}{qs:x!}{ls:v?}(x:De!)(h:∀t,C' t->C t):Sz! Wl C' n:=⟨x.len,x.lZ,x.sd,x.ok,λt c=>x.sum t (h t c),x.sh⟩
universe S
variable {D:T2->Prop}{m n:Nat}{sh:Int}{qs:List (Addr×BV)}{ls NC:List LT}{i:Nat}{q:Addr}{G G':BV}
theorem f_.set(hi:w?){t:T2}(h:f_ D4! t):f_ qs t\/AT! G'.AF.map:=by
 obtain⟨j,q',G2,e,m⟩:=h;rcases Ca! with⟨_,e2,_⟩|⟨_,e⟩;.rw[e2] at m;exact N! m
 .exact H! ⟨j,q',G2,e,m⟩
theorem Wg.step(x:B6!)(hi:w?)(w9:Wl (λt=>¬D t\/f_ qs t) m Fb! sh D4! NC)(ho:rJ! G'.AF.map (BV!\/¬D t))(st:gn! NC)(rc:kP! XZ):ZY! D4! NC :=⟨w9.mono (Es! (by rcases h with h|h;(.exact W?);.rcases h.set hi with h|h;(.exact Bd!);.rcases ho t h with h|h;(.exact N! ⟨i,q,G,hi,h⟩);.exact W?)),st D x.sD,rc⟩
theorem Wg.BR(x:B6!)(hi:w?):Cp!/\LF!:=x.wl.sd i q G hi
theorem Vx(hi:w?)(nu:LF!)(a:Addr):gm! QM! ls:=λX x=>by (have nx:¬X ii:=λz=>by have:=x.old i q G hi _ z nu;simp at this);refine x.next hi II! (λl hl _=>H! hl) (cg! ?_) (xz (G.AW<=Dz!));(.have ht:LA!:=ht;rcases DY! with h|h;(.exact W?);.rw[ZK h];exact N! nx);.have hr:r∈IZ!:=hr;rcases GV! with h|h;(.exact eo! h);.rw[ZK h] at ht;cases ht
theorem Wg.make(x:B6!)(hi:w?)(hn:AJ!)(a:Addr):WC! Wg D (at! QM!):=by
 obtain⟨s,nu⟩:=QJ!;refine x.step hi (x.wl.make hi hn a) II! (Vx hi nu a) (x.rc.less hi (λl h=>h) λt ht ne=>?_);.have ht:t∈(G.AF++[((ii,0):Cz!)]).map (Ab!):=ht;rw[ZF] at ht;rcases DY! with h|h;(.exact W?);·(have e:Hy!:=x?);refine N! AI!;rw[e] at z;have:=x.sD.old i q G hi _ z nu;simp at this
 .refine GP! AL!;rcases ht with h|⟨r,hr,h⟩;(.have h:LA!:=h;rcases ZI h with h|h;(.exact W?);·(have e:Hy!:=x?);exact Ek! (Hs! nu) ne);.have hr:r∈IZ!:=hr;rcases GV! with hr|hr;(.exact N! (Gh! h));.rw[ZK hr] at h;cases h
theorem Ln(h:t∈Ck l ta):∃r0∈l,r0.1=ta/\t∈r0.2.2:=by unfold Ck at h;cases e:Fl! l.find? (q.1=ta) with | none=>rw[e] at h;cases h | some r =>rw[e] at h;exact⟨r,A_ e,Uv!,h⟩
theorem Mq(hr:r∈Im l ta h):(r.1=ta/\BP!=h)\/r∈l:=by
 unfold Im at hr;obtain⟨r0,m0,e⟩:=ZN hr;by_cases c:r0.1=ta;.rw[Ch] at e;exact Am! g3! (by rw[<-e])
 .rw[IR] at e;exact y! (TW! m0)
theorem Wg.hold(x:B6!)(hi:w?){ta tb:T2}(hb:B8!):WC! Wg D (at! Mq!)/\gm! Mq! ls:=by
 obtain⟨s,nu⟩:=QJ!;have st:gm! Mq! ls:=λX y=>jB! y.next W4! (λl hl _=>H! hl) (by rcases Mq hr with⟨e1,e2⟩|h;(.rw[e2] at ht;rcases FG! with h|h;(.obtain⟨r0,m0,e0,t0⟩:=Ln h;exact E8! r0 m0 (R? e0 e1) t0);.rw[h];exact y! (y.hand i q G hi tb hb));.exact eo! h);refine n8! (x.wl.same hi (s.hold hb) rfl rfl rfl) W4! (λl h=>h) (GP! AL!);rcases ht with h|⟨r,hr,h⟩;.exact W?
 .rcases Mq hr with⟨e1,e2⟩|h2;(.rw[e2] at h;rcases DL.mp h with h|h;(.exact Of h);.rw[h];exact H! hb);.exact ke! h2
theorem Wg.free(x:B6!)(hi:w?)(tb:T2):WC! Wg D (Tj! Je tb)/\QP! Je tb ls:=by
 obtain⟨s,nu⟩:=QJ!;have st:QP! Je tb ls:=jB! NU.less (C4! (PP! ht)) (λl hl _=>hl) (sT! hr);refine n8! (x.wl.same hi (s.free tb) rfl rfl rfl) W4! (λl h=>h) (GP! AL!);rcases ht with h|h;.exact H! (PP! h)
 .exact Bd!
theorem Jcy(hi:w?){l:LT}(hb:l.th∈G.hand)(h1:G'.hand=G.hand)(h2:cj!)(h3:cb!):gn! (ls++[l]):=λX y=>y.next hi (C4! (WO! h1 ht)) (λl' hl _=>by rcases ZI hl with h|h;(.exact W?);.rw[ZK h];exact y! (y.hand i q G hi _ hb)) (cg! (eo! (N? h2 hr))) (P! h3 AL!)
theorem Jje(h1:G'.hand=G.hand)(h2:cj!)(h:UB G' t):Dc!:=by unfold UB at *;rw[h1,h2] at h;exact h
theorem Wg.TL(x:B6!)(hi:w?){b:T2}(hb:b∈G.hand)(hn:b.1=G.BR){g:Int}(g0:0<=g)(g1:g<m):ZY! (at! m1!) (ls++[aG!])/\gm! m1! (ls++[aG!]):=by
 obtain⟨s,nu⟩:=QJ!;have st:=Jcy (ls:=ls) (G':=m1!) (l:=aG!) hi hb rfl rfl rfl;refine n8! (x.wl.TL hi hb hn g0 g1) (rH! ?_) (λl h=>B0!) ⟨Jje (G:=G) rfl rfl ht,AL!⟩;have ht:AT! (Bh G.AF b (KP! b+sh)).map:=ht;rcases Lv! with h|h;.rw[h];exact s.ok.hk b hb hn
 .exact h
universe E
universe S
theorem U4:AE! SL Bm!:=ZV
theorem Li:AE! SL Dh!:=ZV
theorem U5:AE! Bm! Dh!:=ZV
theorem U6:AE! Bm! SL:=ZV
theorem U3:AE! Dh! SL:=ZV
theorem Wt.ZQ(h:RF! x):(cc! (CN!\/(U9!/\CF!)))/\cj!/\cb!/\ca!/\G'.AS=CM!/\(∀t,Ak!=LX!\/(CF!/\LX!=Ak!+x))/\(rJ! G'.AF.map BV!) /\ (kind=Dh!->Fo! G'.AJ=Fo! G.AJ+x)/\(U9!->Im!->Fo! G'.AJ=Fo! G.AJ+x):=by
 have put:∀t,Bp! (rI! (VH!))=sB CF! (Fo! G.AJ+x) Ak!:=λt=>EQ Fi
 rcases h with⟨k,⟨c,o,f,e⟩|⟨c,e⟩⟩|⟨k,e⟩|⟨k,e⟩;.refine o7! EJ! (λt=>Ad! Fd!) EJ! (ZB! Li) (λ_ z=>ga c z);(.rw[e] at ht;rcases FG! with h|h;(.exact W?);.exact c? k h);.rw[e] at ht;rcases Lv! with h|h;(.rw[h];exact AG.mpr (D0! (A_ f)));.exact h
 .refine o7! EJ! EH! (l9! ht) (ZB! Li) (λ_ _=>by rw[e];show Fo! (rI! _)=_;rw[put,e?]);(.rw[e] at ht;rcases FG! with h|h;(.exact W?);.exact c? k h);.rw[e];show Ak!=fC!\/_;by_cases d:CF!;(.exact c? d (by show fC!=_;rw[put,AE d,d]));.exact Ad! (R? put (AD d))
 .refine o7! (l9! (H! ht)) EH! (l9! ht) (λ_=>by rw[e];show Fo! (rI! _)=_;rw[put,e?]) (ZB! U3);rw[e];show Ak!=fC!\/_;by_cases d:CF!;(.exact c? d (by show fC!=_;rw[put,AE d,d]));.exact Ad! (R? put (AD d))
 .refine o7! (l9! (H! ht)) (λt=>Ad! Fd!) EJ! (ZB! U5) (ZB! U6);rw[e] at ht;have ht:YI! YH G x:=ht;unfold YH at ht;by_cases c:EI!;(.rw[Ch] at ht;rcases Lv! with h|h;(.rw[h];exact c);.exact h);.rw[IR] at ht;exact ht
theorem Wg.wt(x:B6!){a b:v?}{l:LT}(es:ls=a++l::b)(np:VE!)(hi:CH! (qs[l.g.toNat]?)) : ∃G',oS!/\ZY! mp! DF!/\NU qs ls mp! DF!:=by
 have hl:L6!:=Q7!
 have hC:Y6! (¬D l.th\/f_ qs l.th):=λnb=>P? (x.sD.c9 l hl nb);obtain⟨G',wt,w9⟩:=x.wl.wt es np hC hi;obtain⟨h1,h2,h3,h4,_,h5,h6,h7,h8⟩:=wt.ZQ;obtain⟨s,nu⟩:=QJ!;obtain⟨g0,g1,ib,kk⟩:=x.wl.ok l hl;rw[Jc!] at nu;have sub:∀z∈SZ,z∈ls:=AC (G! es (mem_mid hz))
 have st:NU qs ls mp! DF!:=λX y=>y.next hi (C4! (by rcases A6! h1 with h|⟨k,e⟩;(.exact W?);.rw[e];exact y! (y.c9 l hl (P! k U4)))) (λz hz _=>H! (sub z hz)) (cg! (eo! (N? h2 hr))) (P! h3 AL!);have x1:1<=l.x:=by rcases kk with⟨_,h⟩|⟨_,h,_⟩|⟨_,h,_⟩|⟨k,_⟩;(.exact h);(.exact h);(.exact h);.exact hm!
 refine⟨G',wt,x.step hi w9 (hG! h6) st (x.rc.next hi (λj t ne p=>?_) λt ht ne=>?_),st⟩;.obtain⟨z,hz,e,c⟩:=p;rw[es] at hz;rcases As! with hz|hz;(.exact⟨z,j? hz,e,c⟩);.rcases ZM hz with hz|hz;(.rw[hz] at c;rcases c with⟨k,_⟩|⟨_,g⟩;(.exact hm!);.exact Ek! (EQ g) ne);.exact⟨z,Bt! hz,e,c⟩
 .rw[Jc!] at ne;have r0:=Kh s.nn t;by_cases d:t=l.th;(.subst d;rcases kk with⟨k,_⟩|⟨k,_⟩|⟨k,_,eg⟩|⟨k,_⟩;(.exact Ad! (FP! (h8 k (P! nu ne))));(.exact Ad! (FP! (h7 k)));(.exact ga eg.symm ne);.exact hm!);·(have hd:Dc!:=by rcases ht with h|⟨r,hr,h⟩;(.rcases h1 t h with h|⟨_,h⟩;(.exact W?);.exact I3! d);.exact ke! (N? h2 hr));(have er:LX!=Ak!:=by rcases h5 t with h|⟨h,_⟩;(.exact h.symm);.exact I3! d);rcases x.rc _ q G hi t hd (P! Jc! ne) with h|⟨z,hz,e,c⟩;(.exact Ad! (dJ! er));.refine QS! z ?_ c;rw[es] at hz;rcases As! with hz|hz;(.exact j? hz);.rcases ZM hz with hz|hz;(.exact Ek! (d1! hz) d);.exact Bt! hz
theorem Xm(h:UB (Fa G R) t):Dc!/\Xc!=true:=by
 rcases h with h|⟨r,hr,h⟩;.have h:CN!:=h;exact⟨W?,by unfold Bi;rw[a2! (show t∈(keepR G R).hand from h)];rfl⟩
 .have hr:r∈(keepR G R).holds:=hr;refine d? (ke! Lt!);unfold Bi;have:dA! (keepR G R).holds.any:=JS.mpr ⟨r,hr,x?⟩;rw[this,Bool.or_true]
theorem Wg.clean(x:B6!)(hi:w?)(rc:jC!)(pm:Cm!) : ZY! (Tj! Fa R) jF!/\QP! Fa R jF!:=by
 have st:QP! Fa R jF!:=jB! NU.less (λt ht=>ht) (λl hl nb=>by rcases ZI hl with h|h;(.exact h);.obtain⟨y,_,rfl⟩:=DS!;exact Fn! nb) (sT! Lt!);refine n8! (x.wl.clean hi (C4! (N! ⟨i,q,G,hi,ht⟩)) rc pm) (rH! ?_) (λl h=>B0!) ?_;.exact Hl! ht
 .obtain⟨h1,h2⟩:=Xm ht;refine d? h1;show Ak!<=m6! FS;rw[jw! Xc!,AE h2];exact AL!
universe E
universe E K65
universe N FX
open PySem PySem.Spec PyProof.Rows L2
universe S
theorem Xo(I:K!)(e:W0!):∃o,hn!/\nO! MF!:=by
 have ok:=I.DM d _ e;obtain⟨_,_,vs,_,o,es,ep,g,_⟩:=id ok;refine BT! g (Kg I AM! (λxs z=>IT!) (λy z=>IT!) (λob v z=>dO! (I.base.NJ d ob v z) e) (λps z=>IT!) (d? g));refine ok.NY (aS!) (dH!) dK!;.rw[SL!];exact q
 .rw[SL!];exact q
theorem Jh6(I:K!)(hg:GD! MF!)(hd:Ic!):∃vs,B7!/\V8!/\s.heap.DictAt J4! d vs ep:=by obtain⟨g,z,lo,vs,rel,o',i4,i5,g',c',q',k',p',n'⟩:=cp! MF! hg;rw[g] at g';cases g';rw[hd] at q';injection q' with q1 q2;subst q1;subst q2;exact⟨vs,rel,lo,o,es,g,c',hd,k',p',n'⟩
universe E
def ky(d:Addr)(kvs:bi)(o:Obj):It :=
 Y8! (dY! MF! hz!) (∃k,Si!=B! (k,x)) (dY! MF! (kvs.length<=i))
theorem Vq{P:Program}{w:World}{K:W.Frag}{tg:Expr}(d it:Addr)(kvs:bi)(o:Obj)(es:Db!)(ep:Nat)(hd:Ic!):aN! (ky d kvs o) (RW! h.IsValIter kvs.length) where
 mem:=B?
 obj:=UK! (by
  have e:b=it:=Cr!
  subst e
  obtain⟨oi,e,c,q⟩:=st
  exact⟨oi,e,dZ! q⟩)
 keep:=λi h h' ⟨oi,e,r⟩ k=>⟨oi,k it XV oi e,r⟩
 item:=by
  intro X hP hw hc i AA s σ H E I hf st ⟨hg,hi⟩
  subst hP hw
  obtain⟨f0,f1,f2,f3,f4,f5⟩:=Gx!
  obtain⟨vs,rel,lo,da⟩:=Jh6 I hg hd
  have hl:UP!:=Ld!
  have hx:Si!=B! (kvs[i]):=aT!
  have hy:vs[i]?=some (vs[i]' C!):=Ou! (i<vs.length)
  obtain⟨ek,rv⟩:=Ax rel i _ _ hx hy
  have TV:RW! s.heap.IsValIter vs.length:=N? hl st
  refine wpAny_pyNext_values_item TV da (k:=(vs[i]' C!).1) (v:=(vs[i]' C!).2) hy λh' iG sb=>?_
  have I1:LT!:=b4! (h5! (XY! e))
  obtain⟨oi,e,c,q⟩:=id iG
  exact t? (pP! q ⟨kvs[i].2,H,I1,rv,Bu! kvs[i].1 hx,P! hl iG,Q? (hf b hb).1⟩)
 done:=by
  intro X hP hw hc i AA s σ H E I hf st ⟨hg,hi⟩
  subst hP hw
  obtain⟨f0,f1,f2,f3,f4,f5⟩:=Gx!
  obtain⟨vs,rel,lo,da⟩:=Jh6 I hg hd
  have hl:UP!:=Ld!
  have TV:RW! s.heap.IsValIter vs.length:=N? hl st
  exact wpAny_pyNext_values_end Gp! TV da (FP! List.getElem?_eq_none_iff) (ZC! (h5! (eb b ob hb e)))
 self:=ZD! wpAny_pyIter_valiter
universe S
def Jkx(td:TE):TI:=da! td (∃p d kvs,x=Op/\z! H1 p G0!/\b? H1 d .dK kvs/\∀o,R (ky d kvs o) (upd H1 d MF!))
theorem Rp{l:Expr}{td:TE}(hl:Ai! l td):PI X tg l (Jkx td):=by
 intro AA s σ H R I h;refine jj!;rintro v s1 ⟨x,H1,I1,r1,p,d,kvs,ex,hp,hd,hR⟩;subst ex;cases r1;obtain⟨o,g,I2⟩:=Xo I1 hd;obtain⟨z,lo,vs,rel,o',es,ep,g',c',q',k',p',n'⟩:=Eq! (DT X.prog X.w H1 s1.heap d ip!) (I1.DM d _ hd);rw[g] at g';cases g';have hlen:UP!:=Ld!;have da:s1.heap.DictAt J4! d vs ep:=⟨o,es,g,c',q',k',p',n'⟩;have hv:s1.heap.IsValuesView p d:=(I1.DM p _ hp).1;refine wpAny_pyIter_values hv da ?_;have fresh:=gi!;have I3:AR! (upd H1 d MF!) { s1 with heap:=s1.heap.push (tD! "dict_valueiterator" (#[DD!,OD! 0,OD! vs.length,hb!])) }:=h3! I2.kept (λb ob e=>HP!);refine n2! (ky d kvs o) _ I3 (Vq d _ kvs o es ep q') (EW! hlen YP!) (hR o);have e:co!:=Cr!
 subst e;exact I2.bZ (ZG _) fresh
universe E
theorem Qf{d:Addr}{kvs:bi}{ob:Obj}{g:TG}{tb:TS}{D:Ends}{σ:L2.St}{H:Hp}(Pv:Nat->La!)(h0:WP!)(hf:Uz! qH! (GD! (.GB ob (.dK kvs))))(hs:∀i k v σ H,MT! Si!->rG!->Z7! v)(hd:ZE! kvs.length) : Yw! La! (UR! (SS! (ky d kvs ob).stop (ky d kvs ob).go La! (ky d kvs ob).aP)):=by
 refine Zj! (kvs.length-i) qH! kvs.length;rintro i m σ H ⟨rfl,hi,pv⟩;have fz:=hf i σ H hi pv;by_cases JK:hz!;.refine aL! ⟨fz,JK⟩ (kvs.length-FB);obtain⟨e,k,ek⟩:=y;subst e;exact hs i k x σ _ ek pv
 ·(have e:i=kvs.length:=A!);subst e;exact WI! ⟨fz,At⟩ pv
universe S
universe E
theorem Uu(h1:HR a b)(h2:HR b c):HR a c:=by rw[Ef] at *;lia
theorem Uv(h:a≠b)(h1:¬HR a b):HR b a:=by rw[Ef] at *;have:¬(Y7!/\a.2=b.2):=λz=>h (Prod.ext z.1 z.2);lia
theorem K1(key:Bf!)(x:α):∀{s:S!},(s.map key).Pairwise HR->(∀y∈s,key x≠key y)->∃s':S!,dC! (s'.Perm (x::s)) s'.map
 | [],_,_=>jQ! [x]
 | y::s,h,ne=>by have h':=DP.mp h;by_cases e:HR (key x) (key y);(.refine⟨x::y::s,bo!,mW! h⟩;rcases ZM hz with rfl|hz;(.exact e);.exact Uu e (h'.1 z hz));.obtain⟨s',p,q⟩:=K1 key x h'.2 (ry! ne);refine⟨y::s',(p.cons y).trans (List.Perm.swap x y s),mW! q⟩;obtain⟨u,hu,rfl⟩:=Cc!;rcases ZM (p.mem_iff.mp hu) with rfl|hu;(.exact Uv (ne y En!) e);.exact h'.1 _ (BC hu)
theorem sorts(key:Bf!):in! (Oe! key) (∃s:S!,dC! (s.Perm l) s.map)
 | [],_=>jQ! []
 | x::l,nd=>by have MT:=Bg!;obtain⟨s,p,q⟩:=sorts key MT.2;obtain⟨s',p',q'⟩:=K1 key x q λy hy e=>F2! MT.1 ⟨y,p.mem_iff.mp hy,e.symm⟩;exact⟨s',p'.trans (p.cons x),q'⟩
theorem NZ{a b c:Str}{k:NameKind}{cl:Bz!}{y:Str}(hc:jE!)(h:kE! KM\/kE! Cq!):Mh! :=nc! (by simp only[CM,DX,M'] at hp;rcases hp with rfl|rfl|rfl;(.rcases hk with hk|hk<;>cases hk);(.rcases hk with hk|hk<;>cases hk);.exact hc)
theorem X2{K:W.Frag}{a p:Addr}{xs:E!}{tt:TT}{te:TE}{caps:H6!}{σ:L2.St}{H:Hp}{Q:Vr!}(Pv:Nat->Ew!)(h0:Pv 0 [] ra!)(hl:∀i ys H2,J8!->RJ!->DN K H2 a xs/\bK!)(hs:∀i x ys H2 (N:Ew!),IK!->RJ!->(∀ys H,RO! ys H->N ys H)->tl! H2 (t7! oX!) (N ys H4))(hd:∀ys H2,Pv xs.length ys H2->ET!) : Rh! (Ob! (Mx! (cb K a).stop ET! (cb K a).go (cb K a).aP (SA! j0!))):=by
 refine r2! (λi m ys H=>m=RR!/\J8!/\Pv i ys H) xs.length;rintro i m ys H2 ⟨rfl,hi,pv⟩;obtain⟨q1,q2⟩:=hl i ys H2 hi pv;refine d? q2;by_cases JK:UO!;.refine fb! (n5! q1);obtain⟨e,y⟩:=y;subst e;exact hs i x ys _ (oF! RR! df! (i+1<=xs.length) (RO! zs H')) (y xs q1) pv pC!
 ·(have e:cq!:=A!);subst e;exact Am! (lo! q1) (hd ys H2 pv)
theorem vA:∀{ds:LK!},(∀d∈ds,d.canLay0=true/\d.depth<=n)->Ix PyData.canLayAll0 ds/\PyData.depthAll ds<=n
 | [],_=>⟨by simp[PyData.canLayAll0],by simp[PyData.depthAll]⟩
 | d::ds,h=>by obtain⟨h1,h2⟩:=vA X8!;obtain⟨h3,h4⟩:=Cj! d;exact⟨by simp[PyData.canLayAll0,h1,h3],by simp only[PyData.depthAll];lia⟩
abbrev HS:=D!×Dd!×T!
inductive gI(K:W.Frag)(H:Hp)(v:V)(r:K8!):Prop
 | mk (a t hd:Addr) (cs:J!) (_:Ub!) (_:DN K H a [HJ!,R! be,l! hd]) (_:s7! r.1) (_:F4! hd (cs.map V.ref)) (_:AX H cs BP!)
inductive gJ(K:W.Frag)(H:Hp)(v:V)(q:Cz!):Prop
 | mk (a t:Addr) (_:Ub!) (_:DN K H a [HJ!,R! q.2]) (_:s7! q.1)
inductive XS(K:W.Frag)(H:Hp)(x:Addr)(S:HS):Prop
 | mk (y1 y2 y3:Addr) (as:J!) (bs ds:E!) (_:F4! x (nb! y1 y2 y3)) (_:F4! y1 WB!) (_:AX H as S.1) (_:F4! y2 bs) (_:Vu! gI bs Ho!) (_:F4! y3 ds) (_:Vu! gJ ds S.2.2)
universe S
variable {K:W.Frag}{H H':Hp}
theorem gI.keep(k:u?){v:V}{r:K8!}(h:gI K H v r):gI K H' v r:=by obtain⟨a,t,hd,cs,e,e1,e2,e3,th⟩:=h;exact⟨a,t,hd,cs,e,k.sq e1,XD!,k.sq e3,AX.keep k th⟩
theorem gJ.keep(k:u?){v:V}{q:Cz!}(h:gJ K H v q):gJ K H' v q:=by obtain⟨a,t,e,e1,e2⟩:=h;exact⟨a,t,e,k.sq e1,XD!⟩
theorem XS.keep(k:u?){x:Addr}{S:HS}(h:XS K H x S):XS K H' x S:=by obtain⟨y1,y2,y3,as,bs,ds,e,e1,t1,e2,t2,e3,t3⟩:=h;exact⟨y1,y2,y3,as,bs,ds,k.sq e,k.sq e1,AX.keep k t1,k.sq e2,P0! (r.keep k) t2,k.sq e3,P0! (r.keep k) t3⟩
universe E
universe S
variable {p:Addr}{b:T2->Bool}{ts:List T2}{H:Hp}{tt:TT}{caps:List (Str×Nat)}{σ:L2.St}{Q:Hp->Prop}
theorem Qk{K:W.Frag}{l:Addr}{as:J!}(hp:No!)(hz:d7!)(hl:F4! l WB!)(th:AO!)(ht:pb! NR!)(k:∀(H2:Hp) (bs:J!),OC!->fv! H2 p->nR! ts.filter->ET!) : Rh! (Ob! (Mx! (cb K l).stop ET! (cb K l).go (cb K l).aP (SA! (oo! (B! x) sX!)))):=by
 have lt:=Cf!;refine X2 (K:=K) (a:=l) (p:=p) (xs:=JN!) (caps:=caps) (λi ys H2=>k9! i H2) (GZ.start hp) (λi ys H2 _ pv=>?_) (λi x ys H2 N hx pv n=>?_) λys H2 pv=>?_;.obtain⟨bs,_,sm,FE,_⟩:=pv;exact⟨(FF sm).sq hl,FE⟩
 .rw[ZH] at hx;cases ea:OL! with | none=>rw[ea] at hx;cases hx | some a =>rw[ea] at hx;have hx:d6!:=ZO hx;subst hx;obtain⟨t,et⟩:=ni!;have ha:=op! et;obtain⟨bs,e0,sm,FE,NB⟩:=id pv;exact GZ.turn hp hz ht pv et (v! sm ha) n
 .obtain⟨bs,ey,sm,FE,NB⟩:=pv;rw[ZA,lt,BS] at NB;exact k H2 bs sm (N? ey FE) NB
universe E
inductive Jdp(K:W.Frag)(x:V)(vs:E!)(H:Hp)(Q:VK):Prop
 | mk l b xs zs (_:Ur!) (_:vs=[Os]) (_:FM!) (_:F4! b zs) (_:Av! (xs.length+zs.length)) (_:Q .FC (QD! (xs++zs)))
theorem Y2{X:I!}:nG X "list.extend" (Jdp Kx):=by
 intro AA s σ H x vs v us Q I rx rv h;obtain⟨l,b,xs,zs,rfl,rfl,hH,hB,hz,q⟩:=h;cases rx;obtain⟨u,rfl,ru⟩:=rv.one;cases ru;obtain⟨z,its,n,r,hl,e⟩:=Y2!;obtain⟨PO,r2,⟨o2,e2,c2,n2,q2⟩,z2⟩:=I.tuple hB;have l1:=r.length;have l2:=r2.length;have hsz:Av! dG!:=Sa! BH BH
 have dJ:¬Aa! (!its.toArray.isEmpty&&Builtin.List.listTooLong (dG!)):=ut (Ww hsz) Bool.and_false AL
 refine DG F.slot_list_extend WN! F.entry_list_extend ?_ (F.args_list_extend_2 _ _);show T4! (Builtin.List.listExtendWith (K? l) Ex! KF);unfold Builtin.List.listExtendWith;refine ZR (wpAny_typeOf (T:=Cs!) ⟨o2,e2,c2⟩ ?_);have ht:Aa! (OW! Cs! == OW! Cs!):=by rfl
 rw[AE (BH! ht)];refine Md! listItems_at e2 q2 (listItems_at e rfl ?_);rw[AD dJ];refine ZR (listUpdate_at e rfl ?_ gp! (show(its.toArray++PO.toArray).size<=sizeLine+1 by rw[Array.size_append];exact L5! NM!));refine ZS (t? ⟨.FC,_,pV! (its++PO) XV (r.append r2),rfl,q⟩);rw[ZE];assumption
def rowsOf(L:DR!):Dd!:=UQ! L.flatMap
def Gg(l:T!)(t:T2):Int:=ko! l.find? e7!
def addW(a:T!)(q:Cz!):T!:=Bh a q.1 (Gg a q.1+q.2)
def Cq(L:DR!):T!:=(L.flatMap C5!).foldl addW []
inductive Led(L:DR!):J?
 | hand {S:HS} {t:T2} (h:S∈L) (m:t∈S.1):MX!
 | out {r:K8!} (h:r∈RY!) (m:be≠Gg (Cq L) r.1):Led L r.1
 | step {r:K8!} {u:T2} (h:r∈RY!) (m:u∈BP!) (l:Led L r.1):Led L u
structure Found(L:DR!)(ts:D!):Prop where
 pw:ts.Pairwise HR
 mem:X5! (AT! Ye!) (¬MX!)
theorem Uw(a:T2):¬HR a a:=λh=>by rw[Ef] at h;lia
theorem Jdq:∀{l m:D!},l.Pairwise HR->m.Pairwise HR->(∀t,C1!↔t∈m)->l=m
 | [],[],_,_,_=>rfl
 | [],b::m,_,_,h=>by have:=(h b).mpr (AV!);cases this
 | a::l,[],_,_,h=>by have:=(h a).mp (AV!);cases this
 | a::l,b::m,h1,h2,h=>by have kH:=DP.mp h1;have bw:=DP.mp h2;(have e:a=b:=by rcases ZM ((h a).mp En!) with e|ha;(.exact e);.rcases ZM ((h b).mpr En!) with e|hb;(.exact e.symm);.exact absurd (Uu (kH.1 b hb) (bw.1 a ha)) (Uw a));subst e;congr 1;refine Jdq kH.2 bw.2 λt=>⟨λht=>?_,λht=>?_⟩;(.rcases ZM ((h t).mp (wn ht)) with e|hm;(.rw[e] at ht;exact absurd (kH.1 a ht) (Uw a));.exact hm);.rcases ZM ((h t).mpr (wn ht)) with e|hm;(.rw[e] at ht;exact absurd (bw.1 a ht) (Uw a));.exact hm
universe E FX
universe N K65
open PySem L2 FX
def Ht(t:T2)(rs:T!):Int:=(rs.map λq=>sB z? q.2 0).sum
theorem R6(t:T2):∀(rs a:T!),Gg (rs.foldl addW a) t=Gg a t+Ht t rs
 | [],a=>by simp[Ht]
 | q::rs,a=>by rw[List.foldl_cons,R6 t rs];have e:Gg (addW a q) t=Bp! (Bh a q.1 (Gg a q.1+q.2)):=rfl;rw[e,Fi];unfold Ht;rw[AI,CK];by_cases c:t=q.1;(.rw[Ch,AE c.symm,c];lia);.rw[IR,AD (Tv! c)];show Gg a t+_=_;lia
theorem Jcw(t:T2)(a b:T!):Ht t DF!=Ht t a+Ht t b:=by unfold Ht;rw[ZF,LA]
theorem Rf(t:T2):∀(L:DR!),Ht t (L.flatMap C5!)=(L.map λS=>Ht t S.2.2).sum
 | []=>rfl
 | S::L=>by rw[CJ,Jcw,Rf t L,AI,CK]
theorem R5(t:T2)(L:DR!):Gg (Cq L) t=(L.map λS=>Ht t S.2.2).sum:=by unfold Cq;rw[R6,Rf];show 0+_=_;lia
theorem Vu{t:T2}:∀{rs:T!},V2!->Ht t rs=Bp! rs
 | [],_=>rfl
 | q::rs,nd=>by have MT:=Bg!;have ih:=Js! Vu MT.2;rw[Xs];unfold Ht at *;rw[AI,CK,ih];by_cases c:z?;(.rw[Ch,Ch,E5 (N? c MT.1)];lia);.rw[IR,IR];lia
theorem Jz{α:Type}{f:α->Int}{b:Pl!}:∀{l:S!},(∀x∈l,0<=f x)->dj! (gb! l.filter f)/\∀j∈l,i? (b j)->dj! (gb! l.filter f+f j)
 | [],_=>⟨B?,λj hj=>sw hj⟩
 | a::l,h=>by obtain⟨i1,i2⟩:=Jz (f:=f) (b:=b) (l:=l) (l0! h);have h0:=Cj! a;rw[DH];cases c:b a with | true =>rw[e?,AI,CK,AI,CK];refine Ug! (λj hj bj=>?_);rcases ZM hj with e|hj;(.rw[e,c] at bj;cases bj);.have:=i2 j hj bj;lia | false =>rw[AD AL,AI,CK];refine Ug! (λj hj bj=>?_);rcases ZM hj with e|hj;(.rw[e];lia);.have:=i2 j hj bj;lia
def OK(t:T2)(qs:x!)(h:Nat):Int:=(qs[h]?.map λp=>Bp! p.2.AJ).getD 0
def V_(t:T2)(qs:x!)(h:Nat):Int:=(qs[h]?.map λp=>Bp! p.2.AF).getD 0
theorem J8(t:T2):∀(qs:x!),Gs t qs=Tl! qs.length (λh=>T2! h)-Tl! qs.length (λh=>jl!)
 | []=>by simp[Gs]
 | p::qs=>by have ih:=J8 t qs;rw[BO,List.range_succ_eq_map];simp only[AI,AQ,CK];(have e1:((λh=>OK t (p::qs) h) ∘ Nat.succ)=λh=>T2! h:=by funext h;simp[OK]);(have e2:((λh=>V_ t (p::qs) h) ∘ Nat.succ)=λh=>jl!:=by funext h;simp[V_]);rw[e1,e2];show bh! p.2 qs=_;rw[ih];unfold NI;(have e3:OK t (p::qs) 0=Bp! p.2.AJ:=by simp[OK]);(have e4:V_ t (p::qs) 0=Bp! p.2.AF:=by simp[V_]);rw[e3,e4];lia
theorem Tf{f:Cb!}{h0:Nat}:∀{m:Nat},h0<m->(∀h,h≠h0->f h=0)->Qo! f=f h0
 | 0,hl,_=>A!
 | m+1,hl,h=>by rw[EE,ZF,LA];simp only[AI,EY,CK,List.sum_nil];by_cases c:h0=m;(.subst c;(have:∀k,k<=h0->Tl! k f=0:=λk=>by induction k with | zero=>intro _;simp | succ k ih =>intro hk;rw[EE,ZF,LA,AW! ih];simp only[AI,EY,CK,List.sum_nil];rw[h k C!];lia);rw[this h0 GM];lia);.rw[Tf (m:=m) C! h,h m (Tv! c)];lia
structure Sv(G:BV)(S:HS):Prop where
 hand:KI! (t∈S.1)
 row:∀t∈CO!,∃r∈Ho!,r.1=t
 Z':∀r∈Ho!,r.1∈CO!/\be=KP! r.1
 vn:∀r∈Ho!,ND! (q.1=r.1->∀t∈GE,t∈BP!)
 AJ:∀t,Ht t S.2.2=Ak!
 iA:∀t∈S.1,CN!
 hV:∀r∈Ho!,d3! (t∈Ck G.holds r.1)
def Lb(m:Nat)(b:PV!)(S1:GX!):DR!:=Bw! ji! b S1
def GS(m:Nat)(b:PV!)(S1:GX!)(t:T2):Prop:=AT! (rowsOf (Lb m b S1)).map/\¬Led (Lb m b S1) t
theorem NN{m:Nat}{b:PV!}{S1:GX!}{S:HS}:S∈Lb m b S1↔∃h,h<m/\b h=true/\S1 h=S:=by
 unfold Lb;rw[AG];constructor;.rintro⟨h,hh,e⟩;obtain⟨h1,h2⟩:=AB.mp hh;exact⟨h,BI.mp h1,h2,e⟩
 .rintro⟨h,h1,h2,e⟩;exact⟨h,CV! (BI.mpr h1) h2,e⟩
theorem IA{L:DR!}{r:K8!}:r∈RY!↔∃S∈L,r∈Ho!:=by unfold rowsOf;exact DS
universe S
variable {D:T2->Prop}{m n:Nat}{sh:Int}{qs:List (Addr×BV)}{ls:List LT}
theorem Wg.snap(x:B6!){b:PV!}{S1:GX!}(hs:∀(h:Nat) q G,CH! (qs[h]?)->b h=true->Sv G (S1 h)):J0! (GS m b S1):=by
 have lm:=x.wl.len;have key:∀t,GS m b S1 t->(∃(h:Nat)(q:Addr)(G:BV),CH! (qs[h]?)/\b h=true/\Cg!/\BV!)/\Ct t ls=0/\mC! (i? (b j)) (Ak!=0):=λt ⟨ht,nl⟩=>by obtain⟨r,hr,e⟩:=ZN ht;obtain⟨S,hS,IP⟩:=IA.mp hr;obtain⟨h,hm,bh,e2⟩:=NN.mp hS;subst e2;obtain⟨⟨q,G⟩,eq⟩:=HT! qs h;have T:=hs h q G eq bh;obtain⟨o1,o2⟩:=T.Z' r IP;obtain⟨s,nu⟩:=x.BR eq;rw[e] at o1 o2;(have t1:Cg!:=jS! o1);have ew:be=Gg (Cq (Lb m b S1)) r.1:=Classical.byContradiction (M? nl (TW! (.out hr z)));rw[e,R5] at ew;(have eR:∀k,k<m->∃q G,CH! (qs[k]?)/\OK t qs k=Ak!/\V_ t qs k=Eo!:=λk hk=>by obtain⟨⟨q,G⟩,eq⟩:=HT! qs k;exact⟨q,G,eq,UI! eq,cl! eq⟩);(have eA:((Lb m b S1).map λS=>Ht t S.2.2).sum=gb! ji! eT!:=by unfold Lb;rw[AQ];congr 1;refine CD U3!;obtain⟨h1,h2⟩:=AB.mp hk;obtain⟨q',G',OM,e3,_⟩:=eR k (BI.mp h1);show Ht t (S1 k).2.2=T2! k;rw[e3,(hs k q' G' OM h2).AJ t]);rw[eA] at ew;(have yk:∀k∈List.range m,0<=T2! k:=λk hk=>by obtain⟨q',G',OM,e3,_⟩:=eR k (BI.mp hk);rw[e3];exact Kh (x.BR OM).1.nn t);(have sO:Qo! (λk=>V_ t qs k)=jl!:=Tf hm λk nk=>by by_cases hk:k<m;(.obtain⟨q',G',OM,_,e4⟩:=eR k hk;rw[e4];exact x.wl.jL (r:=(q',G')) OM (DG! t1));.unfold V_;rw[AW! CS];rfl);(have oh:V_ t qs h=Eo!:=cl! eq);have sm:=x.wl.sum t (wp ⟨h,q,G,eq,o1⟩);rw[J8,lm,sO,oh,<-o2] at sm;have l0:=Js! Ky x.wl.ok;obtain⟨f1,f2⟩:=Jz (f:=eT!) (b:=b) yk;refine Ud! ⟨h,q,G,eq,bh,t1,o1⟩ (λj q' G' OM bj=>?_);(have hj:j<m:=gt! OM);have f3:=f2 j (BI.mpr hj) bj;(have e5:OK t qs j=LX!:=UI! OM);have nn5:=yk j (BI.mpr hj);rw[e5] at f3 nn5;lia
 have yj:∀t,GS m b S1 t->A0! (l.th≠t):=λt ht l hl e=>by have:=Vw x.wl.ok hl;rw[e,(key t ht).2.1] at this;lia
 have kJ:∀t,GS m b S1 t->mC! (i? (b j)) (¬Dc!):=λt ht j q G eq bj hd=>by obtain⟨⟨h,q',G',OM,bh,t1,_⟩,_,z⟩:=A6! key;(have nj:h1!:=λy=>by (have:h=j:=A!);rw[this,bj] at bh;cases bh);rcases x.rc j q G eq t hd nj with r|⟨l,hl,e,_⟩;(.have:=z j q G eq bj;lia);.exact yj t ht l hl e
 refine⟨λj q G eq t ht gs=>?_,λl hl _ gs=>yj _ gs l hl rfl,λj q G eq r0 YS t ht gs=>?_,λj q G eq t gs tj=>?_⟩;.cases bj:b j with | false=>exact kJ t gs j q G eq bj (A1! ht) | true =>(have hj:j<m:=gt! eq);exact gs.2 (.hand (NN.mpr ⟨j,hj,bj,rfl⟩) ((hs j q G eq bj).hand t ht))
 .cases bj:b j with | false=>exact HO! y! ⟨r0,YS,ht⟩ (kJ t gs j q G eq bj) | true =>(have hj:j<m:=gt! eq);have T:=hs j q G eq bj;obtain⟨s,nu⟩:=x.BR eq;obtain⟨r,hr,e⟩:=T.row r0.1 (dT! s.ok.ke r0 YS);have mr:r∈rowsOf (Lb m b S1):=IA.mpr (Az! (NN.mpr ⟨j,hj,bj,rfl⟩) hr);refine⟨jf! mr,λld=>gs.2 ?_⟩;exact .step mr (T.vn r hr r0 YS e.symm t ht) (bJ! ld)
 .obtain⟨⟨h,q',G',OM,bh,t1,o1⟩,_⟩:=key t gs;(have:h=j:=A!);subst this;have e:(q',G')=Ed!:=ZO (OM.symm.trans eq);obtain⟨s,nu⟩:=x.BR eq;exact(s.ok.new t (Hr! (cm! e) o1)).2
universe E
def Nz(G:BV)(ts:D!):BV:=HE (GO q?)
universe S
variable {D F:T2->Prop}{m n:Nat}{sh:Int}{qs:List (Addr×BV)}{ls:List LT}{i:Nat}{q:Addr}{G:BV}{ts:List T2}
theorem U0{t:T2}(h:UB (Nz G ts) t):Dc!/\Xb!=true:=by
 rcases h with h|⟨r,hr,h⟩;.have h:CN!:=h;exact⟨W?,by unfold Bi;rw[a2! (show t∈(Am G ts).hand from h)];rfl⟩
 .have hr:r∈(Am G ts).holds:=hr;refine d? (ke! Lt!);unfold Bi;have:dA! (Am G ts).holds.any:=JS.mpr ⟨r,hr,x?⟩;rw[this,Bool.or_true]
theorem Jks(ok:f?)(h1:KI! PH!)(h2:∀r∈G.holds,r.1∉ts->d3! PH!):QY!:=by
 have sub:(G.AF.filter λq=>decide (Hz!)).Sublist G.AF:=EW;refine⟨ok.hn,ok.hz,ok.on.sublist (sub.map _),AR sub.length_le ok.oz,?_,ok.rn,ok.rz,CE! (ok.ln r Lt!),XZ! ok.new (sub.map _).subset,LC!,λr hr t ht e=>?_,ok.rk⟩;.show m5! Hz! Hz!;(have e1:G? (G.holds.filter (AS! Hz!)).map=(G.holds.map (·.1)).filter (BO! PH!):=EQ QL);(have e2:G? (G.AF.filter (AS! Hz!)).map=iO! (BO! PH!):=EQ QL);rw[e1,e2,ok.ke]
 .have m:=ok.hk t ht e;obtain⟨o,ho,eo⟩:=BD!;exact KL! o (CV! ho (by rw[eo];simpa using A6! h1)) eo
 .obtain⟨FV,IP⟩:=AB.mp hr;have m:=ok.lk r FV t ht e;obtain⟨o,ho,eo⟩:=BD!;exact KL! o (CV! ho (by rw[eo];simpa using h2 r FV (by simpa using IP) t ht)) eo
theorem Jkd(x:Cp!)(cM:QY!):GI! (Nz G ts):=by refine(x.of (cM.GO.mono (E_ n)) rfl rfl Pi! (rz! (FZ! rk! ht)) (YF! x.nn) km! λt ht hk=>?_).tk;obtain⟨q,hq,e⟩:=ZN hk;refine KL! q (ge! hq) e;rw[e];exact(U0 (G:=G) (ts:=ts) ht).2
theorem Wg.wU(x:B6!)(hi:w?)(sF:J0! F)(fD:∀t,F t->D t)(ht:X5! (F t) JB!){rs:T!}(pm:Cm!) : ZY! (Tj! Nz ts) (ls++(Bn q? rs).map (Hq U?))/\QP! Nz ts (ls++(Bn q? rs).map (Hq U?))/\QY!:=by
 obtain⟨s,nu⟩:=QJ!;have qA:QY!:=Jks s.ok (λt m z=>sF.hand i q G hi t m (PQ! ht z)) λr hr nr t m z=>nr ((ht r.1).mpr ⟨sF.hold i q G hi r hr t m (PQ! ht z),R? (s.ok.new r.1 (dT! s.ok.ke r hr)).1 nu⟩);have st:QP! Nz ts (ls++(Bn q? rs).map (Hq U?)):=jB! NU.less (λt ht=>ht) (λl hl nb=>by rcases ZI hl with h|h;(.exact h);.obtain⟨y,_,rfl⟩:=DS!;exact Fn! nb) (sT! Lt!);have gone:∀t∈ts,¬(¬D t\/f_ (Tj! Nz ts) t):=λt m z=>by obtain⟨f,t1⟩:=(ht t).mp m;rcases z with z|⟨j,q',G2,e,o⟩;(.exact z (fD t f));.rcases Ca! with⟨_,e2,_⟩|⟨nj,e⟩;(.rw[e2] at o;obtain⟨y,hy,ey⟩:=ZN o;have:=OB! hy;rw[ey] at this;exact(BK this) m);.obtain⟨s2,yh⟩:=x.BR e;have:=(s2.ok.new t o).1;lia
 have C':∀t,(¬D t\/f_ (Tj! Nz ts) t)->(¬D t\/f_ qs t):=Es! (by rcases h with h|h;(.exact W?);.rcases h.set hi with h|h;(.exact Bd!);.exact N! ⟨i,q,G,hi,Hl! h⟩)
 refine⟨⟨(x.wl.mono C').next hi (Jkd s qA) rfl c4! (λt ct=>?_) ?_,st D x.sD,x.rc.less hi (λl h=>B0!) λt ht ne=>?_⟩,st,qA⟩;.rcases As! with hz|hz;(.exact B3! x.wl.ok);.obtain⟨y,hy,rfl⟩:=Cc!;obtain⟨tU,tS⟩:=AB.mp hy;have tR:=pm.mem_iff.mp (Fe! tU);have im:=s.ir y.1 (AG.mpr (GO! y tR));exact⟨im.1.1,im.2,im,Ix! (Bu! (by have:=BK tS;show 1<=y.2;lia) rfl)⟩
 .rw[Gv];have dv:V2!:=c1! pm.map s.ok.rn;have e1:Ct t ((Bn q? rs).map (Hq U?))=Ai (rs.filter hd!) t :=Qs U? t (dv.sublist (List.filter_sublist.map _)) (CE! (s.nn r (pm.mem_iff.mp Lt!)));rw[e1,Ea rs (λt=>! Xb!) t,Qe pm s.ok.rn];show rr! (m6! q?-Ai (G.AF.filter (AS! Hz!)) t+_);rw[jw! Xb!,Ea G.AF (BO! PH!) t];rw[AE (decide_eq_true (Eq! (¬NR!) (λz=>gone t z ct)))];cases Xb!;(.rw[Ce!,AE (by rfl)];lia);.rw[e?,Ce!];lia
 .rw[ZE,ZA];have h1:(Bn q? rs).length<=Vj! hd!:=Ln!;have h2:=(pm.filter hd!).length_eq;have h3:=Lq (Sn! (Fi! q?)) G.AJ;show o? G.AJ.filter (λq=>Fi! q?)+_<=_;lia
 .obtain⟨h1,h2⟩:=U0 ht;refine d? h1;show Ak!<=m6! q?;rw[jw! Xb!,AE h2];exact AL!
theorem Wg.more(x:B6!)(sF:J0! F):Sz! Wg (λt=>D t\/F t) n :=⟨x.wl.mono (Es! (by rcases h with h|h;(.exact H! (λz=>h (P? z)));.exact Bd!)),⟨λj q G e t ht z=>z.elim (x.sD.hand j q G e t ht) (sF.hand j q G e t ht),λl hl nb z=>z.elim (x.sD.c9 l hl nb) (sF.c9 l hl nb),λj q G e r hr t ht z=>z.elim (M? P? (x.sD.hold j q G e r hr t ht z)) (M? y! (sF.hold j q G e r hr t ht z)),λj q G e t z tj=>z.elim (λz=>x.sD.old j q G e t z tj) λz=>sF.old j q G e t z tj⟩,x.rc⟩
universe E
universe E K65
universe N FX
open PySem PySem.Spec PyProof.Rows L2
def rg(n:Nat):d!:=WY! n (G7! CY!)
theorem Gd(n:Nat):o? rg n=n:=by unfold rg;rw[ZA,CB]
theorem NM:x∈rg n↔(0<=x/\x<n):=by
 unfold rg;rw[AG];constructor;.rintro⟨k,hk,rfl⟩;have:=BI.mp hk;lia
 .rintro⟨h1,h2⟩;exact⟨x.toNat,fU!,FS! (S6! BW)⟩
universe S
universe E
universe E FX
universe N K65
open PySem L2 FX
inductive LL where
 | w (l:LT)
 | ask (s g n u:Int)
 | IJ (s g n u tick:Int) (S:HS)
 | lt (s g:Int) (ts:D!)
def pW:LL->FW! LT
 | .w l=>B! l
 | _=>none
def Zi(n u:Int):LL->FW! Int
 | .ask _ g n' u'=>TA! (n'=n/\u'=u) g
 | _=>none
def kh(n u:Int):LL->Option (eI!)
 | .IJ s _ n' u' tick S=>TA! (n'=n/\u'=u) OE!
 | _=>none
def Cf(al:M!)(n u:Int):d!:=al.filterMap (Zi n u)
def B8(al:M!)(n u:Int):Gi!:=al.filterMap (kh n u)
def IE(al:M!):v?:=al.filterMap pW
theorem Bz(a b:M!)(n u:Int):T3! u=Cf a n u++Cf b n u:=TM ..
theorem Bt(a b:M!)(n u:Int):Qt! u=B8 a n u++B8 b n u:=TM ..
theorem Di(a b:M!):XS!=IE a++IE b:=TM ..
theorem Ft(z:LL)(b:M!)(n u:Int):Cf (z::b) n u=(Zi n u z).toList++Cf b n u:=by unfold Cf;rw[GA];cases Zi n u z<;>rfl
theorem Eh(z:LL)(b:M!)(n u:Int):B8 (z::b) n u=(kh n u z).toList++B8 b n u:=by unfold B8;rw[GA];cases kh n u z<;>rfl
def Jnb(al:M!):Prop:=∀n u,MD! u/\ME! u
theorem Mo:∀ls:v?,Jnb (ls.map .w)
 | []=>λn u=>DL!
 | l::ls=>λn u=>⟨aq! AI Ft (Mo ls n u).1,aq! AI Eh (Mo ls n u).2⟩
theorem vT:∀ls:v?,IE (ls.map .w)=ls
 | []=>rfl
 | l::ls=>by show l::IE (ls.map .w)=_;rw[vT ls]
structure nA(h:Int)(S:HS):Prop where
 nd:y? S.2.1.map
 hz:S.1.length<=60
 rz:S.2.2.length<=60
 oz:∀w∈Ho!,w.1.1=h/\0<=w.1.2/\w.2.2.length<=60
structure F9(qs:x!)(r:eI!):Prop where
 tk:mC! (No r.1 j) (be<=G.AS/\(be=G.AS->Sv G BP!))
 so:nA r.1 BP!
 nw:mC! (No r.1 j) (∀w∈r.2.2.2.1,w.1.2<G.AW)
def Gk(fi:Gi!)(h:Nat):Int:=((fi.find? JW!).map FR!).getD 0
def Et(fi:Gi!)(h:Nat):HS:=((fi.find? JW!).map C5!).getD ([],[],[])
def Still(qs:x!)(al:M!)(n:Int)(fi:Gi!)(se:em!)(h:Nat):Prop :=
 (∃r∈se,HR!/\r.2=Jb!)\/(∃r∈QU! 2,HR!/\be=Jb!)\/(r?∈Cf al n 2/\∃q G,CH! (qs[h]?)/\G.AS=Jb!)
structure PL(m:Nat)(qs:x!)(ls:v?)(al:M!)(n:Int)(fi:Gi!)(se:em!):Prop where
 t1:XO! (Cf al n 1) al 1 VU!
 t2:(fi.length<m/\MD! 2/\ME! 2/\se=[])\/(Pg!/\XO! (Cf al n 2) al 2 PJ!)
 f1:∀r∈fi,Yj!
 f2:∀r∈QU! 1,Yj!
 s2:Pg!->∀b:PV!,(∀h:Nat,h<m->b h=true->Still qs al n fi se h)->J0! (GS m b bz!)
theorem rF{m:Nat}{fi:Gi!}(pm:XN! fi.map){h:Nat}(hh:h<m):∃r∈fi,HR!/\Jb!=be/\Et fi h=BP!:=by have m1:K7! r? fi.map:=pm.mem_iff.mpr (NM.mpr (Ug! A!));obtain⟨r0,YS,e0⟩:=ZN m1;cases e:fi.find? JW! with | none =>have:=BD.mp e r0 YS;simp[e0] at this | some r =>refine⟨r,A_ e,Uv!,?_,?_⟩;(.unfold Gk;rw[e];rfl);.unfold Et;rw[e];rfl
universe S
variable {m:Nat}{qs yY:List (Addr×BV)}{ls NC:List LT}{al al':List LL}{n:Int}{fi:List (Int×Int×HS)}{se:List (Int×Int)}{i:Nat}{q:Addr}{G G':BV}
theorem PL.whole(x:Jv!)(e:Pg!):MD! 1/\ME! 1/\XN! fi.map:=by have l:=x.t1.length_eq;rw[ZE,ZE,ZA,ZA,Gd] at l;have e1:MD! 1:=JA!;have e2:ME! 1:=JA!;refine Go e1 e2;have t:=x.t1;rw[e1,e2] at t;exact t
theorem PL.jN(x:Jv!)(ha:dt! Cf iH!)(hb:dt! B8 (QU! u))(st:NU qs ls qs NC):PL m qs NC al' n fi se:=by refine⟨l3! x.t1,l3! x.t2,x.f1,G! hb x.f2,λe b hs=>st _ (x.s2 e b eU!)⟩;have:=Z0!;unfold Still at *;rw[ha,hb] at this;exact this
theorem PL.dA(x:Jv!)(hi:w?)(tk:UJ!)(md:G6!)(ha:dt! Cf iH!)(hb:dt! B8 (QU! u))(st:gn! NC):PL m D4! NC al' n fi se:=by
 have fo:∀r,Yj!->F9 D4! r:=λr h=>⟨λj q2 G2 e ej=>by rcases Ca! with⟨e1,e2,_⟩|⟨_,e⟩;(.have:=h.tk i q G hi (R? ej e1);rw[e2];exact⟨A!,λz=>A!⟩);.exact h.tk j q2 G2 e ej,h.so,λj q2 G2 e ej w9 hw=>by rcases Ca! with⟨e1,e2,_⟩|⟨_,e⟩;(.have:=h.nw i q G hi (F8! ej e1) w9 hw;rw[e2];lia);.exact h.nw j q2 G2 e ej w9 hw⟩;refine⟨l3! x.t1,l3! x.t2,CE! (fo r (x.f1 r hr)),CE! (fo r (x.f2 r (Hr! hb hr))),λe b hs=>st _ (x.s2 e b eU!)⟩;have:=Z0!;unfold Still at *;rw[ha,hb] at this;rcases this with h1|h1|⟨h1,q2,G2,e2,e3⟩;.exact H! h1
 .exact HV! h1
 .rcases Cy e2 with⟨e4,e5,_⟩|⟨_,e4⟩;(.exfalso;obtain⟨r,hr,er,et,_⟩:=rF (x.whole e).2.2 hh;have:=((x.f1 r hr).tk i q G hi (F8! er e4)).1;rw[e5] at e3;lia);.exact B4! ⟨h1,q2,G2,e4,e3⟩
theorem PL.asked(x:Jv!)(es:Gj! (.ask s g n' u))(g0:0<=g)(hi:CH! (qs[g.toNat]?))(et:tick=G.AS)(tl:Sv G S)(so:nA g S)(nw:∀w9∈Ho!,w9.1.2<G.AW):tR! (SZ++[Ze!]) fi:=by
 have A:∀n u2,Cf (L9! Ze!) n u2=T3! u2:=λn u2=>by rw[Bz];show _++[]=_;rw[AH]
 have A0:∀u2,Cf al n u2=Cf a n u2++(b5! (n'=n) (u=u2) g++Cf b n u2):=λu2=>G9! es Bz Ft
 have B:∀u2,B8 (L9! Ze!) n u2=QU! u2++b5! (n'=n) (u=u2) Wo!:=λu2=>by rw[Bt,Bt,es,Bt,Eh,Eh];show _++(b5! (n'=n) (u=u2) Wo!++[])=_;rw[AH];rfl
 have eG:∀(j:Nat) q2 G2,I8! (qs[j]?) q2->g=EA!->G=G2:=λj q2 G2 e ej=>by (have:j=g.toNat:=A!);rw[this,hi] at e;exact(Prod.mk.inj (ZO e)).2
 have fo:F9 qs Wo!:=⟨λj q2 G2 e ej=>by rw[<-eG j q2 G2 e ej];exact⟨xz (tick<=G.AS),λ_=>tl⟩,so,λj q2 G2 e ej w9 hw=>N? (eG j q2 G2 e ej) (nw w9 hw)⟩;have pmv:∀(P9 Q R T:d!)(y:Int),(P9++([y]++Q)++R++T).Perm (P9++Q++(R++[y])++T):=λP9 Q R T y=>by refine P' T ?_;have h1:(P9++([y]++Q)).Perm (y::(P9++Q)):=List.perm_middle;(have h2:(P9++Q++(R++[y])).Perm (y::(P9++Q++R)):=N? BE (HD (l₂:=[y])));exact(h1.append_right R).trans h2.symm
 have tok:∀u2 (T:d!),(Cf al n u2++Tt! al u2++T).Perm (rg m)->(Cf (L9! Ze!) n u2++Tt! (SZ++[Ze!]) u2++T).Perm (rg m):=λu2 T h=>by rw[A,B,Bz,ZF];rw[A0] at h;by_cases c:n'=n/\u=u2;(.rw[Ch] at h ⊢;exact(pmv _ _ _ _ g).symm.trans h);.rw[IR] at h ⊢;simpa using h
 refine⟨tok 1 _ x.t1,?_,x.f1,Ik!,λe bb hs=>x.s2 e bb eU!⟩;.rcases x.t2 with⟨z1,z2,z3,z4⟩|⟨z1,z2⟩;(.rw[A0] at z2;(have nc:¬(n'=n/\u=2):=λc=>by rw[Ch] at z2;simp at z2);rw[AD nc] at z2;refine E8! z1 ?_ ?_ z4;(.rw[A,Bz];simpa using z2);.rw[B,AD nc,z3];rfl);.exact c? z1 (tok 2 _ z2)
 .rw[B] at hr;rcases GV! with hr|hr;(.exact x.f2 r hr);.by_cases c:n'=n/\u=1;(.rw[Ch] at hr;(have:r=Wo!:=by simpa using hr);rw[this];exact fo);.rw[IR] at hr;cases hr
 .have:=Z0!;unfold Still at *;rcases this with h1|⟨r,hr,e1,e2⟩|⟨h1,h2⟩;(.exact H! h1);(.rw[B] at hr;rcases GV! with hr|hr;(.exact HV! ⟨r,hr,e1,e2⟩);.by_cases c:n'=n/\u=2;(.rw[Ch] at hr;(have er:r=Wo!:=by simpa using hr);rw[er] at e1 e2;have e1:g=r?:=e1;have e2:tick=Jb!:=e2;(have eh:h=g.toNat:=A!);refine B4! ⟨?_,q,G,G! eh hi,NF! e2 et⟩;rw[A0,Ch,<-e1];exact Bt! (ZB _ (CC.mpr rfl)));.rw[IR] at hr;cases hr);.rw[A,Bz] at h1;refine B4! (GP! h2);rw[A0];rcases ZI h1 with h1|h1;(.exact j? h1);.exact Bt! (ZC _ h1)
universe E
universe S
def C7(m:Nat)(g n u:Int):M!:=WY! m (λi:Nat=>.ask g U? n u)
theorem Hr:Cf (C7 m g n u) n2 u2=sB (n=n2/\u=u2) (rg m) []:=by
 unfold Cf C7;rw[List.filterMap_map];by_cases c:n=n2/\u=u2;.rw[Ch];(have:(Zi n2 u2 ∘ λi:Nat=>LL.ask g U? n u)=λi:Nat=>B! U?:=by funext i;show ff! (n=n2) (u=u2) U?;rw[Ch]);rw[this];unfold rg;exact congrFun List.filterMap_eq_map' _
 .rw[IR];(have:(Zi n2 u2 ∘ λi:Nat=>LL.ask g U? n u)=λ_:Nat=>none:=by funext i;show ff! (n=n2) (u=u2) U?;rw[IR]);rw[this];simp
theorem Js:B8 (C7 m g n u) n2 u2=[]:=by simp_all [B8,C7,kh]
theorem Jax:IE (RV! u)=[]:=by simp_all [IE,C7,pW]
theorem Jhx(m:Nat):DI! rg m:=by unfold rg List.Nodup;rw[EC];exact en! (λ{a b} (h:a<b)=>A!) PZ
theorem Jnm(m1:1<=m)(h1:∀u,MD! u)(h2:∀u,ME! u)(g:Int):PL m qs ls (al++RV! 1) n [] []:=by
 have A:∀u,Cf (al++RV! 1) n u=Od! (rg m) []:=λu=>by rw[Bz,h1,Hr];by_cases c:u=1;(.rw[AE (n? c.symm),Ch];rfl);.rw[AD (λz=>c z.2.symm),IR];rfl
 have B:∀u,B8 (al++RV! 1) n u=[]:=λu=>G9! Bt h2 Js
 refine⟨?_,E8! (xz (0<m)) ?_ (B 2) rfl,CE! (TL! hr),Ik!,Up!⟩;.rw[A,B,e?];simp
 .rw[A,Da!]
 .rw[B] at hr;cases hr
 .have:0=m:=e;lia
theorem PL.first(x:Jv!)(es:Gj! (.IJ s g n 1 tick S)) : fi.length<m/\s∉VU!/\(fi.length+1≠m->tR! DF! (LG!))/\(fi.length+1=m->Sz! Wg D N->∀g,tR! (SZ++RV! 2) (LG!)):=by
 have A:∀u,Cf al n u=T3! u:=λu=>by rw[es,Bz,Ft,Bz];rfl
 have B1:B8 al n 1=B8 a n 1++OE!::B8 b n 1:=by rw[es,Bt,Eh];show oy! (VN!=1);rw[e6!];rfl
 have B2:B8 al n 2=Qt! 2:=by rw[es,Bt,Eh,Bt];show oy! (VN!=2);rw[AD (λz=>gs! z.2)];rfl
 have pm:XO! ht! DF! 1 (G? (LG!).map):=by refine List.Perm.trans ?_ x.t1;rw[A,B1,Bt];simp only[ZF,AI,EY];generalize ht!=P9;generalize Tt! a 1=Q;generalize Tt! b 1=R;generalize VU!=T;(have h1:(cK!++(T++[s])).Perm (s::h0!):=N? BE (HD (l₂:=[s])));(have h2:(g6!++T).Perm (s::h0!):=by (have:(g6!).Perm (s::(cK!)):=Sv! BE BE List.perm_middle);exact this.append_right T);exact h1.trans h2.symm
 have nd:JC! LG!:=by have h1:=(pm.nodup_iff).mpr (Jhx m);exact eu! h1
 have sn:s∉VU!:=λz=>by rw[ZF] at nd;exact Xo! s z s e1! rfl
 have lt:fi.length<m:=by have:=pm.length_eq;rw[ZE,ZE,ZA,ZA,Gd,ZE] at this;have e:[(OE!:eI!)].length=1:=rfl;lia
 have z2:MD! 2/\ME! 2/\se=[]:=by rcases x.t2 with⟨_,h⟩|⟨h,_⟩;(.exact h);.lia
 obtain⟨xr,xq,rT⟩:=z2;have f1:∀r∈LG!,Yj!:=CE! (by rcases GV! with h|h;(.exact x.f1 r h);.rw[ZK h];exact x.f2 _ (P! B1 s5!))
 have f2:∀r∈Qt! 1,Yj!:=CE! (x.f2 r (by rw[B1];rw[Bt] at hr;rcases GV! with h|h;(.exact B0!);.exact MO!));have ln:By! LG!=fi.length+1:=EQ ZE
 refine⟨lt,sn,λne=>⟨pm,E8! A! (N? A xr) (N? B2 xq) rT,f1,f2,λe=>A!⟩,λee wg g2=>?_⟩;have A1:Cf (pO!) n 1=ht!:=by rw[Bz,Hr,AD (λz=>BJ! z.2),AH]
 have A2:Cf (pO!) n 2=rg m:=by rw[Bz,Hr,e6!,<-A,xr];rfl
 have C:∀u,B8 (pO!) n u=Qt! u:=λu=>Ig! Bt Js
 have C2:B8 (pO!) n 2=[]:=by rw[C,<-B2,xq]
 have pf:XN! (LG!).map:=by have l:=pm.length_eq;rw[ZE,ZE,ZA,ZA,Gd,ln] at l;have e1:ht!=[]:=JA!;have e2:Qt! 1=[]:=JA!;have t:=pm;rw[e1,e2] at t;exact t
 refine⟨ut A1 C pm,c? A! (by rw[A2,C2,rT];simp),f1,G! C f2,λ_ bb hs=>wg.snap λh q G eq bh=>?_⟩;have hh:h<m:=KY! wg.wl.len eq
 rcases Z0! with⟨r,hr,_⟩|⟨r,hr,_⟩|⟨_,q2,G2,e2,e3⟩;.rw[rT] at hr;cases hr
 .rw[C2] at hr;cases hr
 .rw[eq] at e2;have eG:G=G2:=(Prod.mk.inj (ZO e2)).2;obtain⟨r,hr,er,et,e4⟩:=rF pf hh;rw[e4];exact((f1 r hr).tk h q G eq er).2 (by rw[<-et,<-e3,eG])
theorem PL.second(x:Jv!)(es:Gj! (.IJ s g n 2 tick S)) : Pg!/\se.length<m/\s∉PJ!/\PL m qs ls DF! n fi (se++[(s,tick)]):=by
 have A:∀u,Cf al n u=T3! u:=λu=>by rw[es,Bz,Ft,Bz];rfl
 have B2:B8 al n 2=B8 a n 2++OE!::B8 b n 2:=by rw[es,Bt,Eh];show oy! (S? 2=2);rw[e6!];rfl
 have B1:B8 al n 1=Qt! 1:=by rw[es,Bt,Eh,Bt];show oy! (S? 2=1);rw[AD (λz=>gs! z.2)];rfl
 have t2:Pg!/\XO! (Cf al n 2) al 2 PJ!:=by rcases x.t2 with⟨_,_,h,_⟩|h;(.rw[B2] at h;simp at h);.exact h
 have pm:XO! (T3! 2) DF! 2 (G? (se++[(s,tick)]).map):=by refine List.Perm.trans ?_ t2.2;rw[A,B2,Bt];simp only[ZF,AI,EY];generalize T3! 2=P9;generalize Tt! a 2=Q;generalize Tt! b 2=R;generalize PJ!=T;(have h1:(cK!++(T++[s])).Perm (s::h0!):=N? BE (HD (l₂:=[s])));(have h2:(g6!++T).Perm (s::h0!):=by (have:(g6!).Perm (s::(cK!)):=Sv! BE BE List.perm_middle);exact this.append_right T);exact h1.trans h2.symm
 have nd:JC! (se++[(s,tick)]):=by have h1:=(pm.nodup_iff).mpr (Jhx m);exact eu! h1
 have sn:s∉PJ!:=λz=>by rw[ZF] at nd;exact Xo! s z s e1! rfl
 have lt:se.length<m:=by have:=pm.length_eq;rw[ZE,ZE,ZA,ZA,Gd,ZE] at this;have e:[((s,tick):Int×Int)].length=1:=rfl;lia
 refine⟨t2.1,lt,sn,⟨Sv! A B1 x.t1,c? t2.1 pm,x.f1,N? B1 x.f2,λe bb hs=>x.s2 e bb eU!⟩⟩;rcases Z0! with⟨r,hr,e1,e2⟩|⟨r,hr,e1,e2⟩|⟨h1,h2⟩;.rcases GV! with hr|hr;(.exact E8! r hr e1 e2);.have er:=ZK hr;rw[er] at e1 e2;exact HV! ⟨OE!,tY! B2,e1,e2⟩
 .refine HV! ⟨r,?_,e1,e2⟩;rw[B2];rw[Bt] at hr;rcases GV! with h|h;(.exact B0!);.exact MO!
 .exact B4! ⟨G! A h1,h2⟩
theorem PL.done(x:Jv!)(e:Pg!){c:Cb!}(hc:∀h,h<m->∃r∈se,HR!/\r.2=c h):J0! (GS m (λh=>Du! Jb! (c h)) bz!) :=x.s2 e _ λh hh bh=>by obtain⟨r,hr,e1,e2⟩:=hc h hh;exact E8! r hr e1 (EW! e2 (Ao! BK bh))
universe E
universe S
inductive Z0(vs:E!)(H:Hp)(Q:VK)(E:XK):Prop
 | mk (p ta:Addr) (G:BV) (as:J!) (ts:D!) (_:am! (l! ta)) (_:Z?) (_:kw!) (_:kl! ta) (_:AO!) (_:Gw! q?)
theorem Jeg(F:j! "lose" "House.lose" O6)(T:Txt):BW! Fx! Z0:=by
 refine Y? gA;obtain⟨p,ta,G,as,ts,rfl,S,ke,et,th,k⟩:=h;refine Y!;have hu:=V?;have lt:=Cf!;refine Bq! (Ag (Dt PassesOwn.never rfl (Kb (pv 1)) (Bc (i:=2) gA.nd rfl (Or.inl rfl)) (Ag (Bo (sO! Kc L!) (Ad (Av j1!) (CQ! j1!)) A8))));refine hv! ta E0! ?_;refine Vf (K:=K) (a:=ta) (xs:=JN!) (λi σ H2=>∃u2:SB,σ=[GT!,UF ta,u2]/\Em! H2 (Am G (ts.take i))/\F6! H2) (Er! (dq! Qn S) (λb o e _ _=>e)) (λi σ H2 _ h=>rp! (DN.of (sc! fr et et et))) ?_ ?_;.rintro i x σ H2 hx ⟨u2,rfl,S2,KC⟩;rw[ZH] at hx;cases ea:OL! with | none=>rw[ea] at hx;cases hx | some a =>rw[ea] at hx;have hx:d6!:=ZO hx;subst hx;obtain⟨t,ht⟩:=ni!;have ha:=op! ht;have YT:=oh! KC;obtain⟨GX,FE⟩:=S2.ob;obtain⟨o,g,eo⟩:=Mu (k:=Ab!) (f:=DH!) (A1! S2.dO) YT;have f1:=Fj (Ab!) G.AF ht;have f2:=Fj (DC!) G.holds ht;refine sj! C GX FE T.cl T.nO (Da _) G.o o g;rw[eo];(have ks:T0! (Am G (ts.take i)).holds.map eO!:=by show m5! gz! gz!;rw[Dh (DC!) G.holds (iw!),nU! iw!,ke]);by_cases h:AT! eO!;(.rw[PK!];obtain⟨v1,tw⟩:=pc! O2! DH! h;obtain⟨v2,ti⟩:=pc! Ow! a6! (P! ks h);refine Ce (n3! GX FE T.nO (Da _) G.o S2.dO S2.dO YT tw);rw[Hm (k:=Ab!) (f:=DH!)];have S3:=mK! S2.JB;(have KU:F6! pf!:=EV! (rU! (M? h2 K9!) KC));have mL:=oh! KU;rw[EX! (HO.dT ((KQ! (AS! KJ!)).map EO!)=mK! C5)];have S3:Em! pf! mA!:=S3;generalize upd H2 G.o (C5 (KQ! uO!))=H3 at S3 KU mL;obtain⟨OH,ND⟩:=S3.ob;refine n3! OH ND T.nL (Fh _) G.l S3.dl S3.dl mL ti;have e3:Dp ((mA!:BV).holds.map Hx!) N9!=(Ip! (AS! KJ!)).map Hx! :=Hm (k:=DC!) (f:=a6!) _ t;rw[e3];have S4:=S3.YD (hl:=Fl! Ip! KJ!) EW;(have eG:kS! { cU! with AF:=cE! KQ!,holds:=cE! Ip! }:=by unfold Am;rw[f1,f2]);refine gO! S4 (EV! ?_);rw[Ac (M? h2 (by rw[z];show dz!;simp[BL]))];exact a5! KU e);.rw[VX!];have qE:eP! O2!:=NG! (QR! be!);have iP:eP! Ow!:=NG! (h (N? ks (KL! q hq z)));(have eG:kS! cU!:=by (have a1:dD! KQ! O2!:=ij! qE);(have a2:dD! Ip! Ow!:=ij! iP);unfold Am at a1 a2 ⊢;rw[f1,f2,a1,a2]);exact Cb (gO! S2 KC)
 .rintro σ H2 ⟨u2,rfl,S2,KC⟩;rw[ZA,lt,BS] at S2;exact k H2 S2 KC
inductive Yj(vs:E!)(H:Hp)(Q:VK)(E:XK):Prop
 | mk (p ta:Addr) (G:BV) (n:Nat) (rs:T!) (ts:D!) (as:J!) (_:am! (l! ta)) (_:Z?) (_:f?) (_:n<=62) (_:YD!) (_:Y5!) (_:Cm!) (_:IP!) (_:kl! ta) (_:AO!) (_:QY!) (_:∀(x:Addr)(as:J!)(H':Hp),(lJ!)->TJ! (MP! x) (IF H' as (Bn q? rs)) (JM! (HE (GO q?))) Wu!)
theorem Jkf:I? Fx! Fx! V8:={}
theorem Jgu(F:j! F7! q0! V8)(T:Txt)(Tx:rB)(ML:oe! fL dL)(MG:oQ! fG dG) : Gt! Fx! Yj:=by
 have GL:CJ! fL dL Fx! Z0:=Jeg ML.fn T;have GG:Pj! fG dG Yk:=Jaa MG.fn T Tx;refine Y? Jkf;obtain⟨p,ta,G,n,rs,ts,as,rfl,S,ok,zn,fC,fB,pm,pw,et,th,cM,k⟩:=h;refine Y!;have hu:=V?;obtain⟨dx,hp⟩:=S.ob;refine Rs! (Sr! E? T.cl ML.mt GL hr ML.bd Au (wP Q!)) (g7! Gz! (Dc E? T.cl MG.mt GG hr MG.bd O! Au));refine⟨_,rfl,p,dx,_,rfl,hp,KE,_,rfl,p,ta,G,as,ts,rfl,S,ok.ke,et,th,λH9 S9 uW=>?_⟩;obtain⟨YZ,bt⟩:=S9.ob;refine Ns! YZ bt YZ bt;rw[Bs];have cY:=S9.fld YZ (Am G ts).AW ((Am G ts).AS+1);have QU:F6! (nT! { Am G ts with AS:=(Am G ts).AS+1 }):=EV! (t0! uW)
 have cY:Em! (nT! { Am G ts with AS:=(Am G ts).AS+1 }) (HE q?):=cY;generalize upd H9 p (Sc C YZ (B7 { Am G ts with AS:=(Am G ts).AS+1 }))=i' at cY QU;obtain⟨jX,jQ⟩:=cY.ob;refine⟨_,rfl,p,jX,_,rfl,jQ,Cp _ ZV,p,HE q?,n,rs,rfl,cY,cM.HE,zn,fC,YF! fB,pm,pw,λx as nq hx ex ba uz jU=>?_⟩;have tX:lJ!:=EV! (Aj (a5! QU e) hx);exact k x as nq tX ex ba uz (EV! (jU _ _ (QU _ _ e h1 h2) h1 λz=>h2 (Jn2 ts z)))
universe E
inductive OU(H:Hp)(t:Addr)(k:Int)(kind:Str)(s g n u:Int):Prop
 | mk a (_:gU! [R! k,re kind,R! s,R! g,Tk]) (_:L1! [R! n,R! u])
inductive WQ(H:Hp)(t:Addr)(k s g:Int)(ts:D!):Prop
 | mk (a:Addr) (as:J!) (_:gU! [R! k,re F7!,R! s,R! g,Tk]) (_:NK! a as.map V.ref) (_:AO!)
theorem OU.keep(h:R9! k kind n)(kt:u?):OU H' t k kind s g n u:=let⟨a,e1,e2⟩:=h;⟨a,H9! kt.BG,F! kt.BG e2⟩
theorem WQ.keep(h:le! k)(kt:u?):WQ H' t k s g ts:=let⟨a,as,e1,e2,th⟩:=h;⟨a,as,H9! kt.BG,F! kt.BG e2,g9! th⟩
structure M_(H:Hp)(c b n turn:Int)(L:o!)(m:Nat):Prop where
 BR:VT!=(List.range m).map mB!
 LF:H8! (λ(y:Int×Addr)(i:Nat)=>OU H y.2 y.1 pu b U? n turn) L List.range m
theorem M_.len(x:M_ H c b n turn L m):L.length=m:=f5! (L? x.LF)
universe S
theorem Jn5(x:B5!):Ua! (OK! W.en) { W with EF:=l } (HG! (OK! W.en)):=by
 obtain⟨⟨a1,a2,a3,a4,a5,a6⟩,⟨b1,b2,b3,b4,b5⟩,⟨c1,c2,c3,c4⟩,⟨d1,d2,d3⟩,⟨g1,g2⟩⟩:=x.f';have f:fo! (b≠W.en) (OK! W.en):=λb o e h=>gG!
 refine n1! (h! f e (Sy! g1)) (QN! x.hs g2) RB! (x.po.keep (Or! a6) (Or! b5)) (h! f x.iq c4) (h! f x.fi d3) Ab RB!;.rintro rfl;have h:=Zn! W.en;exact Zb!
 .rintro rfl;exact X2!
theorem Jn7(x:B5!):Ua! (OK! W.fi) { W with ED:=l } (HG! (OK! W.fi)):=by
 obtain⟨⟨a1,a2,a3,a4,a5,a6⟩,⟨b1,b2,b3,b4,b5⟩,⟨c1,c2,c3,c4⟩,⟨d1,d2,d3⟩,⟨g1,g2⟩⟩:=x.f';have f:fo! (b≠W.fi) (OK! W.fi):=λb o e h=>gG!
 refine n1! (h! f e (Sy! d1)) (QN! x.hs d2) RB! (x.po.keep (Or! a5) (Or! b4)) (h! f x.iq c3) Ab (QN! x.en d3) RB!;.rintro rfl;have h:=Zn! W.fi;exact Zb!
 .rintro rfl;exact X2!
universe E
universe S
inductive Gx(vs:E!)(H:Hp)(Q:VK)(E:XK):Prop
 | mk (p:Addr) (b n turn:Int) (W:DI) (_:vs=[Op,R! b,R! n,R! turn]) (_:ol) (_:VI!) (_:GR!) (_:∀(l:Addr)(L:o!)(H':Hp),Fs! (VC! BE!)->M_ H' W.c b n turn L W.qs.length->Fy!->ti! l->l≠W.hs->Vo p W H l->BQ! l)
theorem Jbg:I? OJ! OJ! G7:={}
theorem Y1(F:j! "ask_all" "World.ask_all" G7)(T:Txt)(TW:Hs)(TP:L4)(M3:SC!) : Gt! OJ! Gx:=by
 have G3:Zs!:=Zg!;refine Y? Jbg;obtain⟨p,b,n,turn,W,rfl,S,z1,z2,k⟩:=h;refine Y!;obtain⟨dx,hp⟩:=S.ob;refine SJ! (cY! (Rb CP "put" (Gc) [] E0 (Te K (B9 1) AC!) (Dy (JX! pu) (Dy (B9 2) (Dy Py! (Dy (rD (Dy (B9 3) (Dy (B9 4) Mb))) Mb))))) [gR!,(q8!,1),("n",2),("turn",3)] (b3! T.range mk!) (br! rfl rfl trivial) (λy h=>Jm1 AG! AG! AG! AG! h) ⟨BR!,BR!,BR!,BR!,trivial⟩ UU! (Ej! (fJ! (Ao Q! rfl) TP.cl M3.mt G3 hr M3.bd (X6! L! E? O?))));have e0:S? (o? W.qs.map Jr!)=W.qs.length:=B?
 refine⟨_,rfl,p,CW,dx,_,_,rfl,hp,TW.cl,TW.nH,Dq W,W.hs,_,rfl,gv!,PE!,(KD! e0),A!,A!,VB!⟩;rw[AM];have s0:=XJ!;have S0:=S.same s0;have S0':aZ! C (CG! r .BF []) (cZ! VA! (W.ls++[])):=ut (aO! (VA!=W.c)) AH S0
 refine Kk (lo:=0) (n:=W.qs.length) (tt:=RM!) (te:=Rb CP "put" (Gc) [] E0 (Te K (B9 1) AC!) (Dy (JX! pu) (Dy (B9 2) (Dy Py! (Dy (rD (Dy (B9 3) (Dy (B9 4) Mb))) Mb))))) (caps:=[gR!,(q8!,1),("n",2),("turn",3)]) (σ:=[GT!,Br! b,Br! n,Br! turn]) (nN! r (ys.length=i) (∃L,ys=mI!/\GZ! (VC! qg!)/\M_ H2 W.c b n turn L i/\HG! H2)) ⟨Ab,rfl,[],rfl,S0',n? O!,Ox! s0⟩ (c3! h.1) ?_ ?_;.rintro i ys H2 N hi ⟨er,ly,L,uZ,W2,l2,QB⟩ hN;refine Cd!;have jq:r∉Bv p (VC! qg!):=λm=>S.MX JE m;obtain⟨GX,FE⟩:=W2.ob;obtain⟨OH,gZ⟩:=W2.po.ob;refine p0! GX FE (Em _) OH gZ _ rfl _ rfl _ AN! d2!;have s3:=Ev! (Tf! n turn) ha;have W3:=gI!;refine re! _ _ W3.po (OZ! ZE l2.len) (λt H4 ht et S4 bL=>?_);obtain⟨W4,TU⟩:=W3.IT S4 bL;have OG:=FF s3;have MV:=kr!;have YW:S0! H4 r:=h! TU (v! s3 er) jq;refine Ue! YW Td! ⟨Ab,du! ly,L++[(EL!,t)],Tu! uZ,?_,?_,?_⟩;(·(have e1:W.c+fW!=EL!:=A!);rw[e1,<-BE];exact lk! W4.keep (Qz! jq));(·(have kq:BM H4 (FX! H4 r (ys++[Sw! EL!])):=Ag! YW);have kk:=(OG.trans MV).trans kq;refine d? (by rw[ZF,l2.BR,EE,ZF];congr 1;show [EL!]=[f8+U?];congr 1;lia);rw[EE];refine F4 ?_ (Aw (λ_ _ rr=>rr.keep kk) l2.LF);have ea:=F! MV.BG (show Mn! H2 a (Tf! n turn) a (Tf! n turn) from Ab);(have e2:Xr!:=A!);rw[e2] at et;exact⟨a,hl!,F! kq.BG ea⟩);.intro b' o' e' IC;(have mK:b'≠r:=λz=>by rw[z] at e';rw[JE] at e';cases e');rw[Ac mK];exact TU b' o' (v! s3 (UB! QB)) IC
 .rintro ys H2 ⟨er,ly,L,uZ,W2,l2,QB⟩;exact k r L H2 W2 l2 QB (Hr! uZ er) (λz=>by rw[z,S.hs] at JE;cases JE) λb o e _=>Aj e JE
universe E
structure Tells(G:BV)(hs:D!)(os:Dd!)(rs:T!):Prop where
 z1:G.hand.length<64
 z2:G.AF.length<64
 z3:G.AJ.length<64
 pm:hs.Perm G.hand
 pw:fx!
 XC:Rows G os
 pr:Cm!
 wr:IP!
theorem Jnn{H:Hp}{x:Addr}{hs:D!}{os:Dd!}{rs:T!}(h:pD H x hs os rs):XS K H x GH!:=by obtain⟨y1,y2,y3,as,bs,ds,e,e1,t1,e2,t2,⟨ob,e3,_⟩,t3⟩:=h;refine⟨y1,y2,y3,as,bs,Dy! ds.map,VY!,OA!,t1,FM e2,Aw (λv r h9=>by obtain⟨a,t,hd,cs,e,e1,e2,e3,th⟩:=h9;exact⟨a,t,hd,cs,e,OA!,e2,FM e3,th⟩) t2,Nx! ⟨ob,e3⟩,?_⟩;clear e e1 t1 e2 t2 e3;induction t3 with | nil=>exact O! | cons r _ ih =>obtain⟨ka,e1,e2⟩:=r;exact Jd! (Aj! ka rfl OA! e2)
universe S
inductive Fv(vs:E!)(H:Hp)(Q:VK)(E:XK):Prop
 | mk (p t:Addr) (W:DI) (k s g n u:Int) (q:Addr) (G:BV) (hs:D!) (os:Dd!) (rs:T!) (_:Gc!) (_:ol) (_:R9! k pu n) (_:Pz!) (_:Tells G hs os rs) (_:GR!) (_:UN! 900) (_:(∀e∈W.EF,e.1≠f8)) (_:∀(x t1 e xs:Addr)(H':Hp),Fs! (ZK! Jj!)->OU H' t1 Ko! FO! g s n u->Tz! e [R! G.AS,l! xs]->XS K H' xs GH!->sJ! (Xf! [gr!]) RQ! cR!)
theorem ax:Vp! [BX!,TR!,"asked",ac!,C0!] G0:={}
theorem Ws(F:j! q1! q2! G0)(T:Txt)(TW:Hs)(TP:L4)(M1:HQ! "tick" qk! V5 f1 d1)(M2:oP! f2 d2)(G2:mg! UV K0)(M3:SC!):R2! AF! Fv:=by
 have G1:Pj! f1 d1 Jc5:=Jgp M1.fn T;have G3:Zs!:=Zg!;refine Z2! ax;.obtain⟨p,t,W,k,s,g,n,u,q,G,hs,os,rs,rfl,_⟩:=h;rfl
 .obtain⟨p,t,W,k,s,g,n,u,q,G,hs,os,rs,rfl,S,⟨a,et,ea⟩,i,tl,z1,z2,ne,kk⟩:=h;have hu:=V?;have FV:ca:=k!;obtain⟨dx,hp⟩:=S.ob;refine XI! ax.nd (MB! 3 ax.nd (j3! L!) 4 ax.nd (MC! C? TP.cl M3.mt G3 M3.bd (rx! L! Nb! Nb!)) (rX! O? (bg! (Oa! A? T.cl M1.mt G1 FV M1.bd) (Oa! A? T.cl M2.mt G2 hr M2.bd))) (TH! De (wP O?)));refine nM! 3 g;refine⟨_,rfl,p,CW,dx,_,_,rfl,hp,TW.cl,TW.nH,Dq W,_,rfl,W.hs,_,_,m? q,rfl,rfl,Vt!,i.QE,?_⟩;obtain⟨XR,ie⟩:=S.po.ob;refine⟨_,rfl,p,CW,dx,_,_,rfl,hp,TW.cl,TW.nP,Em _,W.po,XR,_,rfl,ie,Kw!,_,rfl,_,rfl,t,_,2,H? s,rfl,rfl,E0!,rfl,_,rfl,t,_,4,N8!,rfl,rfl,E0!,rfl,?_⟩;refine R6! S.po A! (λt1 H1 ht1 fX S1 KW=>?_);obtain⟨W1,HK⟩:=S.IT S1 KW;have LB:=MQ!;have HA:=i.at (W:=cZ! f8 Jj!) W1;obtain⟨bN,qO⟩:=HA.ob;refine⟨_,rfl,q,bN,_,rfl,qO,KE,q,G,rfl,HA,?_⟩;refine⟨_,rfl,q,bN,_,rfl,qO,KE,q,G,hs,os,rs,rfl,HA,tl.z1,tl.z2,tl.z3,tl.pm,tl.pw,tl.XC,tl.pr,tl.wr,λxs H2 s2 sx=>?_⟩;refine⟨(rM! U0!),Os!⟩;have s3:=Ev! mn! he;have ee:Mn! H2 e mn! e mn!:=Ab;generalize GY! H2 e mn!=H3 at s3 ee;have gP:=Ak s2 s3;have W3:=W1.same gP;obtain⟨XE,aX⟩:=W3.ob;refine⟨_,rfl,p,CW,XE,_,_,rfl,aX,TW.cl,TW.nE,Jcp _,_,rfl,W.en,_,rfl,iV! (Sum.inl (f8)) W3.en (QK! (UN! _)),?_⟩;have ek:nh! W.EF (fY! f8) e Nf!:=U2 ne;show _;rw[show nh! (cZ! f8 Jj!:DI).EF (fY! f8) e Nf! from ek];obtain⟨W4,TU⟩:=Jn5 W3 (l:=Nf!);have MV:=kr!;have bx:HG! Z9!:=eV! TU (v! gP he!);have ka:BM H Z9!:=Ep! S bx;have ek1:BM H1 Z9!:=(FF gP).trans MV;have W4:aZ! C Z9! (ZK! Jj!):=W4;show _;generalize Z9!=H4 at W4 MV bx ka ek1;refine Er! (rM! (Av! 1)) DP!;have s5:=Dr! (.BF Uw!) hx;have k5:=FF s5;refine kk x t1 e xs _ (W4.same s5) ⟨a,DA! k5.BG ek1.BG fX,DA! k5.BG ka.BG ea⟩ (Aq! k5.BG MV.BG ee) (((((Jnn sx:XS K H2 xs GH!).keep (FF s3)).keep MV).keep k5)) (Q3! (F! s5 (bx b o eb hb))) Ab (AI!) (Q3! (Aj (bx b o eb hb) hx));have:=W4.hs;rw[FU! ((ZK! Jj!:DI).hs=W.hs),<-z,hx] at this;cases this
theorem Qh:∀b∈BL (HE (GO q?)),K4!:=Q? (Jn2 ts hb)
inductive Fu(vs:E!)(H:Hp)(Q:VK)(E:XK):Prop
 | mk (p t:Addr) (W:DI) (k s g:Int) (ts:D!) (q:Addr) (G:BV) (n:Nat) (rs:T!) (_:Gc!) (_:ol) (_:le! k) (_:Pz!) (_:f?) (_:n<=62) (_:YD!) (_:Y5!) (_:Cm!) (_:IP!) (_:QY!) (_:(Bn q? rs).length<=60) (_:GR!) (_:eR! (iq! { W with qs:=V4! (PM! q?),c:=W.c+((Bn q? rs).length:Nat),ls:=Dj! } (rJ H' W.c g L (Bn q? rs)) RS!))
theorem hJ:Vp! [BX!,TR!,"h"] Gz:={}
theorem Wr(F:j! q5! q7! Gz)(T:Txt)(TW:Hs)(M1:r8! F7! q0! V8 f1 d1)(G1:mf! Fx! Yj)(M2:pI! f2 d2)(G2:mg! Ty! N7):R2! AF! Fu:=by
 refine Z2! hJ;.obtain⟨p,t,W,k,s,g,ts,q,G,n,rs,rfl,_⟩:=h;rfl
 .obtain⟨p,t,W,k,s,g,ts,q,G,n,rs,rfl,S,⟨a,as0,et,ea,th⟩,i,ok,zn,fC,fB,pm,pw,cM,zb,zl,kk⟩:=h;obtain⟨dx,hp⟩:=S.ob;obtain⟨FK,hq⟩:=G1!;refine XI! hJ.nd (BS! (Wx! TW.cl M2.mt G2 M2.bd (wT L! (Ww! (j3! L!) T.cl M1.mt G1 M1.bd (wP Nb!)))));refine nM! 3 g;refine⟨_,rfl,p,dx,_,rfl,hp,Fq!,_,rfl,_,rfl,p,CW,dx,_,_,rfl,hp,TW.cl,TW.nH,Dq W,_,rfl,W.hs,_,_,m? q,rfl,rfl,Vt!,i.QE,q,FK,_,rfl,hq,KE,_,rfl,t,_,4,N8!,rfl,rfl,E0!,rfl,q,a,G,n,rs,ts,as0,rfl,MN!,ok,zn,fC,fB,pm,pw,ea,th,cM,λx as H1 nx ex bk S1 KW=>?_⟩;obtain⟨W1,HK⟩:=S.step i.2 S1 KW (hh! Qh);have mB:=S.HV (b:=W.hs) (qB!) (ZP i.2);have iD:RQ!:=λz=>nx _ _ S.hs mB.1 mB.2 z.symm;(have sub:∀b,EF!->b∉Bv p (KH! (V4! (PM! q?))):=λb hb m=>by rcases ZI m with m|m;(.exact hb JI!);.obtain⟨z,hz,hm⟩:=DD.mp m;have hz:z∈V4! (PM! q?):=hz;rcases NS hz with hz|rfl;(.exact pK! (Cn! hm));.refine pK! (Go Ed! (ZP i.2));exact hm.imp id λz=>Qh b z);refine⟨p,x,g,_,as,_,rfl,W1,ex,W1.IU ex iD,bk,zb,zl,λy L H2 W2 b2 QB k8 k6 ey=>?_⟩;exact kk y L H2 W2 b2 (nW! QB) k8 (nW! k6) ey
universe E
universe E K65
universe N K65F
open PySem L2 FX K65
theorem Ew(h:n<=20000):n<sizeLine:=TI! GW h
structure iC(H:Hp)(d:Addr)(L:L4!):Prop where
 ob:z! H d (.dK (L.map λq=>(H! q.1,l! D?)))
 st:∀q∈L,XS K H D? GE
universe S
theorem Ic(hd:GW! d l)(ht:Ck!):RE! (uI! (th∈l)):=Fc! YA! Jf
theorem T4(hd:fF! d l)(ht:Ck!)(f:ri! H0!=B! q):RE! (aw! D?):=GA! YA! ZZ! f
def PF(H:Hp)(hl:HL):Prop:=∀q∈hl,∃cs:J!,F4! D? (cs.map V.ref)/\AX H cs GE
theorem PF.keep(k:u?)(h:PF H hl):PF H' hl:=TD (let⟨cs,e,th⟩:=h q hq;⟨cs,k.sq e,AX.keep k th⟩)
inductive Gy(vs:E!)(H:Hp)(Q:VK)(E:XK):Prop
 | mk (sa l:Addr) (as:J!) (ts:D!) (hl:HL) (n:Nat) (R:D!) (_:vs=[l! sa,Kk!]) (_:Nr! sa) (_:AO!) (_:d7!) (_:b? H l E7 hl) (_:hl.length<=900) (_:PF H hl) (_:(∀q∈hl,q.2.2.length<=900)) (_:oW! ts.filter) (_:n<=6000) (_:rP! (iT! (p? x) (gF! x R) x))
theorem eW:I? ["starts",Ay!,"found",KZ!,"ahead"] Gn! Fd:={}
theorem Kd(F:j! Kc! Kc! Fd):BW! Gn! Gy:=by
 refine Y? eW;obtain⟨sa,l,as,ts,hl,n,R,rfl,es,th,zt,el,zl,hq,hz,sT,zn,k⟩:=h;refine Y!;have hu:=V?;refine Nz! eW.nd E2 (Jk! (c6! te (B9 0) i 4 Ji! eW.nd (QV! 0) He! W6! Hm! jD! Hi!) (Pe PassesOwn.never (Iv O? (EZ!)) (ED! (WF! eW.nd (Mi BP PySem.F.slot_list_pop PySem.F.type_list_pop Jem O?)) (Dv! (Ei (Ee hu A? L!)) (Ad (TQ! L! A? Dw) (CQ! (F3 BP OF OD Rt O? (wP (n0! Ji! (Kb (Ci hu Q! A?)) W6! jD!)))))))) 2);intro fa cR;have s1:=WQ! cR;have e1:ir! (Nw! fa []) []:=Ab;generalize W3! H fa=H1 at s1 e1;have cL:bN! H1:=Bi! s1 th;refine hv! sa (rn! s1 es) (λaa cS=>?_);refine Hk (b:=BO! Ez!) (caps:=Ji!) cS C! (v! s1 es) cL (λH2 a t Q' sm ha ht q=>?_) λH2 bs sm ea tb=>?_;.obtain⟨o,g,eo⟩:=om! (Aq! sm s1 el);refine od!;rw[eo];exact Pm!
 have iR:p? aa:=by cases c:H aa with | none=>rfl | some o=>rw[F! s1 c] at cS;cases cS
 have iQ:fa≠aa:=λz=>by rw[<-z,e1] at cS;cases cS
 refine Go (λm σ H'=>∃(ahead found:D!)(KY:J!)(u3:SB),σ=[UF sa,LV!,UF fa,u3,UF aa]/\KB/\gF! fa found/\Dx! H' aa KY.map/\AX H' KY ahead/\LC (OL hl) m ahead found R/\found.length+m<=6000/\ap! Ez!) ⟨n,_,[],bs,_,rfl,Ak s1 sm,H9! sm,ea,tb,sT,by simpa using zn,h? kW!⟩;rintro m σ H' ⟨ahead,found,KY,u3,rfl,sh,ef,bM,eQ,rc,zm,hk⟩;refine Aj! rfl _ (H! (D0! (WF bM))) ?_;cases m with | zero =>obtain⟨e0,eR⟩:=rc;rw[e0] at eQ;have e2:KY=[]:=BJ.mp (Paired.length eQ);rw[e2];refine Cb (t? (k fa H' cR sh ?_));rw[eR];exact ef | succ m =>have rS:=rc.len;obtain⟨a,t,fq,rc⟩:=rc;rw[fq] at eQ rS;obtain⟨JY,c,e2,sC,ec⟩:=Vs eQ;subst e2;(have em:(JY++[c]).map V.ref=Ps!++[PN!]:=Om!);rw[em] at bM ⊢;rw[show Aa! (!(Ps!++[PN!]).isEmpty) by cases JY<;>rfl];refine Ce (Bq! (λEN H' h=>⟨m,JQ m,h⟩));refine⟨_,rfl,Bk! bM,aa,_,_,rfl,rfl,bM,Jae _ _,?_⟩;rw[aY! ((Ps!++[PN!]).dropLast=JY.map V.ref)];(have s3:An! Gy!:=bj! iR (E9! sh));(have OG:BM H' Gy!:=Ag! bM);(have YY:ir! Gy! found:=i! iQ ef);have i7:jd! Gy!:=Ab;have ZX:AX Gy! JY a:=HX! OG sC;have fj:=F! OG.BG ec;generalize JU! H' aa JY.map=H3 at s3 OG YY i7 ZX fj;refine⟨_,rfl,_,rfl,fa,_,rfl,Ic YY fj,_,rfl,?_⟩;rcases rc with⟨hf,rc⟩|⟨hf,rc⟩;(.rw[AE hf];exact Cb ⟨a,found,JY,_,rfl,s3,YY,i7,ZX,rc,A!,Ov! hk jV!⟩);.rw[AD hf];refine Ce (ie! fa (TO! t YY fj (AW! Ew)));rw[Fo,show B4 found t=HH! by unfold B4;rw[AD hf]];(have s4:An! J5!:=bj! cR Wk!);(have MV:BM H3 J5!:=Ag! YY);have fg:gT! H3 fa Be Nk! fa Nk!:=Ab;(have fk:jd! J5!:=i! iQ.symm i7);have ZW:AX J5! JY a:=HX! MV ZX;have mj:=F! MV.BG fj;rw[EX! (HO.dT ((HH!).map Bj!)=Be (HH!))];generalize AU! H3 fa Be Nk!=H4 at s4 MV fg fk ZW mj;have r9:Ez!:=hk t (P! fq fg!);obtain⟨ad,mU⟩:=Oh r9;have mq:=A_ mU;obtain⟨cs,q1,q2⟩:=hq _ mq;have q1:F4! ad (cs.map V.ref):=q1;have q2:AX H cs Kx!:=q2;have q3:(Ck hl t).length<=900:=hz _ mq;refine⟨_,rfl,Bk! fk,_,rfl,_,rfl,l,_,rfl,T4 (v! s4 el) mj mU,ad,rfl,T? ((FF s4).sq q1),λpl YG=>?_⟩;refine Qk (K:=K) (b:=HU! d5!) (caps:=Ji!) YG C! ((FF s4).sq q1) (Ml! s4 q2) (λH2 a' u Q' sJ ha hu' q=>?_) λH6 eP s6 qg XB=>?_;(.obtain⟨o,g,eo⟩:=om! (sJ l (E7 hl) (s4 _ _ el));refine od!;rw[eo];exact Pm!);.have XB:AX H6 eP (OL hl t):=XB;have zz:=rc.len;rw[ZE] at zz;have l1:=L? ZW;have l2:=L? XB;refine⟨aa,pl,_,_,rfl,rfl,hk!,qg,mq! Ew,?_⟩;rw[<-ZF];(have TZ:BM H6 (Sx! H6 aa (JY++eP).map):=Ag! hk!);refine⟨a++OL hl t,HH!,JY++eP,_,rfl,Ie!,?_,Ab,AX.keep TZ (N4 (Ml! s6 ZW) XB),rc,?_,Ii!⟩;(.rw[Eu! iR];exact iU! s6);(.rw[Ac iQ];exact F! s6 fg);(.rw[ZE];show found.length+1+m<=6000;lia);.rcases Iz! with hu|hu;(.exact hk u jV!);.have:=OB! hu;simpa using this
universe E
theorem Xt(a:T!)(t:T2):((Ca (a.map EO!) (tk t)).getD (g! 0))=g! (Gg a t):=by rw[m7!];unfold Gg;cases Fl! a.find? z? with | none=>rfl | some r=>rfl
theorem Jfl(a:T!)(q:Cz!):F5! addW a q d9!:=by have lp:=Fg (a.map EO!) (tk q.1) (g! (Gg a q.1+q.2));rw[Ez,ZA,ZA] at lp;exact lp
theorem R9:∀(l a:T!),F5! l.foldl addW a (a.length+l.length)
 | [],a=>At
 | q::l,a=>by have h1:=R9 l (addW a q);have h2:=Jfl a q;show(l.foldl addW (addW a q)).length<=_;simp only[BO];lia
abbrev FZ(L:L4!):DR!:=L.map C5!
theorem Jn8{H:Hp}{d:Addr}{L:L4!}{i:Nat}{k:Key}{v:V}(h:MT! ((L.map ay!)[i]?)):∃q,L[i]?=B! q/\v=l! D?:=by rw[ZH] at h;cases e:L[i]? with | none=>rw[e] at h;cases h | some q =>rw[e] at h;have h:((H! q.1:Key),qC!)=(k,v):=ZO h;exact FZ! rfl (Prod.mk.inj h).2.symm
universe S
theorem cp:I? [DN!,"weights",TM!,KZ!,az!] Ha! G8:={}
inductive Ow(vs:E!)(H:Hp)(Q:VK)(E:XK):Prop
 | mk (d:Addr) (L:L4!) (_:vs=[DD!]) (_:iC H d L) (_:D6! (FZ L).flatMap C5! 1200) (_:∀(r:Addr)(H':Hp),iT! PR! (WT! r Kj!) r)
theorem Wu{f:Addr}{fd:FuncData}(F:j! a8! a8! G8):BW! Ha! Ow:=by
 refine Y? cp;obtain⟨d,L,rfl,S,zl,k⟩:=h;refine Y!;have hu:=V?;refine P4! cp.nd E2 (Ad (N1! (Rp (Mi DE IG OE Mp E?)) 2 cp.nd (Ag (ql! (mG! L!) (Iy rfl (By (aj! 3 cp.nd) (By (aj! 4 cp.nd) F2))) (Ag (TQ! Q! A? (Ay Eo (Pi hu Q! A? Af BR!) O?)))))) (QO.ZY (Ag (Az (pv 1)))));intro r YS;have s1:=WQ! YS;have e1:b? (Nw! r []) r C5 []:=Ab;generalize W3! H r=H1 at s1 e1;have uj:=F! s1 S.ob;refine⟨_,rfl,Ix! (n? (VS! uj)),d,_,rfl,rfl,uj,E4!⟩;have s2:=Dr! (Ig p d) hp;have e2:z! (upd H1 p G0!) p G0!:=Ab;generalize upd H1 p G0!=H2 at s2 e2;have ed2:=F! s2 uj;have qe:=H9! s2;have dv:r≠d:=λz=>by rw[z,S.ob] at YS;cases YS
 refine⟨p,d,_,rfl,e2,ed2,λo=>?_⟩;have kd:∀{H':Hp} {u:HO},z! H' d (.dK (L.map ay!))->BM H' (upd H' d u):=λ{H'} {u} e=>UA λo' e'=>by rw[e] at e';cases e';exact uM!
 refine Qf (d:=d) (ob:=o) (λi σ H'=>∃(u2 u3 u4:SB),σ=[Vf!,UF r,u2,u3,u4]/\mb!/\WT! r ((Io! C5!).foldl addW [])/\BM H2 H'/\oi!) ⟨_,_,_,rfl,Ab,i! dv qe,kd ed2,J9! (i! n (cF! s2 s1))⟩ (λi σ H' _ h9=>by obtain⟨_,_,_,_,e,_⟩:=h9;exact e) ?_ ?_;.rintro i kk v σ H3 hi ⟨u2,u3,u4,rfl,ef,er,kt,fr⟩;obtain⟨q,eq,rfl⟩:=Jn8 (H:=H) (d:=d) hi;have mq:=ZP eq;have ag:=AX! eq;have NT:=((S.st q mq).keep ((FF s1).trans (FF s2))).keep kt;obtain⟨y1,y2,y3,as,bs,ds,f0,f1,t1,f2,t2,f3,t3⟩:=NT;refine⟨_,rfl,D?,_,2,m? y3,rfl,rfl,f0,rfl,y3,rfl,T? f3,?_⟩;(have HE:Ff! L.take=L.take i++[q]:=dv! eq);(have lT:o? Io! C5!+q.2.2.2.2.length<=1200:=by (have e5:FZ L=i4!++FZ (L.drop FB):=NF! ZF EJ);rw[e5,CF,ZE,HE] at zl;rw[show FZ (L.take i++[q])=FZ (L.take i)++[GE] by unfold FZ;rw[ZF];rfl,CF,ZE] at zl;simp only[CJ,HX,AH] at zl;lia);refine Vf (K:=K) (a:=y3) (xs:=ds) (λj σ H'=>∃(w3 w4:SB),σ=[Vf!,UF r,UF D?,w3,w4]/\mb!/\WT! r (((Io! C5!)++q.2.2.2.2.take j).foldl addW [])/\BM H2 H'/\BM H3 H'/\oi!) ⟨_,_,rfl,ef,dq! AH er,kt,PL!,fr⟩ (λj σ H' _ h9=>by obtain⟨_,_,_,_,_,_,k3,_⟩:=h9;exact k3.sq f3) ?_ ?_;(.rintro j v σ H4 hj ⟨w3,w4,rfl,fg,YW,MV,tO,bL⟩;obtain⟨x,ex⟩:=mc! q.2.2.2.2 (L? t3);obtain⟨a,t,rfl,g1,g2⟩:=(Ax t3 j v x hj ex).keep tO;have fM:=AX! ex;refine SY! a g1;refine⟨_,rfl,r,rfl,T5! YW,_,rfl,_,DV.t (k:=tk x.1) YW g2,_,rfl,_,x.2,Xt _ _,rfl,_,rfl,_,rfl,r,_,rfl,GQ.t (k:=tk x.1) YW g2 (by rw[ZA];have:=R9 ((Io! C5!)++q.2.2.2.2.take j) [];rw[ZE,CG] at this;simp only[BX] at this;exact AW! Ew),?_⟩;rw[Ez];(have XM:∀u:HO,BM H4 (upd H4 r u):=λu=>Ag! YW);refine⟨_,_,rfl,K3! dv fg,?_,MV.trans (XM _),tO.trans (XM _),J9! (tJ! YS (h! bL e n))⟩;(have e7:∀l:T!,(l++[x]).foldl addW []=addW (l.foldl addW []) x:=λl=>EQ List.foldl_append);(have e8:Io! C5!++q.2.2.2.2.take (j+1)=(Io! C5!++q.2.2.2.2.take j)++[x]:=by rw[DK,ex,<-BE];rfl);rw[e8,e7];exact Ab);.rintro σ H4 ⟨w3,w4,rfl,fg,YW,MV,tO,bL⟩;rw[L? t3,BS] at YW;refine⟨_,_,_,rfl,fg,?_,MV,bL⟩;rw[HE,show FZ (L.take i++[q])=FZ (L.take i)++[GE] by unfold FZ;rw[ZF];rfl,CF];simp only[CJ,HX,AH];exact YW
 .rintro σ H3 ⟨u2,u3,u4,rfl,ef,er,kt,fr⟩;rw[ZA,BS] at er;refine Go (upd H3 d sY!) ⟨d,o,_,ef,λob v z=>?_,rfl⟩;(.have z:GD! (.GB ob v):=z;rw[S.ob] at z;cases z);refine t? (k r _ YS (λb ob e=>?_) (Hd! dv er));by_cases hb:b=d;(.rw[hb,Ab];rw[hb,S.ob] at e;exact e);.rw[DE!];exact fr b ob e hb
universe E
structure aJ(L:DR!):Prop where
 nd:y? Ye!
 rz:Wj! rowsOf L
 hz:(L.flatMap (·.1)).length<=800
 oz:∀r∈RY!,r.2.2.length<=60
 tz:D6! L.flatMap C5! 1200
def C3(ws:T!)(L:DR!):D!:=L.flatMap λS=>S.1++HA! (S.2.1.filter (eC! (Gg ws r.1))).map
theorem Hu(ws:T!):∀L:DR!,F5! C3 ws L ((L.flatMap (·.1)).length+o? rowsOf L)
 | []=>by simp[C3]
 | S::L=>by have ih:=Hu ws L;have h:=AN (λr:T2×Int×List T2=>! Du! be (Gg ws r.1)) Ho!;unfold C3 rowsOf at *;simp only[CJ,ZE,ZA] at *;lia
theorem NR:t∈C3 ws L↔(∃S∈L,t∈S.1)\/∃r∈RY!,r.1=t/\be≠Gg ws r.1:=by
 unfold C3 rowsOf;simp only[DS,DB,AG,AB];constructor;.rintro⟨S,hS,(h|⟨r,⟨hr,c⟩,e⟩)⟩;(.exact H! ⟨S,hS,h⟩);.exact QS! r ⟨S,hS,hr⟩ NV!
 .rintro(⟨S,hS,h⟩|⟨r,⟨S,hS,hr⟩,e,c⟩);(.exact⟨S,hS,W?⟩);.exact⟨S,hS,N! ⟨r,⟨hr,NV!⟩,e⟩⟩
def OT(hl:HL)(rows:Dd!):Prop:=hl.map (λq=>(q.1,GE))=rows.map λr=>(r.1,BP!)
theorem OT.keys(h:OT hl rows):T0! hl.map rows.map:=GA! (congrArg (List.map Prod.fst) h) AQ AQ
theorem OT.get(h:OT hl rows)(nd:y? rows.map)(hr:r∈rows):Ck hl r.1=BP!:=by
 have m:(r.1,BP!)∈hl.map λq=>(q.1,GE):=G! h (Ku! r hr)
 obtain⟨q,hq,e⟩:=BD!;have e1:=(Prod.mk.inj e).1;have e2:=cm! e;unfold Ck;rw[<-e1,FX.GF (k:=DC!) (P! h.keys nd) hq];exact e2
theorem Jg4(nd:y? Ye!)(h:OT hl (rowsOf L))(rc:oW! (C3 (Cq L) L).filter) : ∀t,AT! Ye!->(A7!↔MX!):=by
 have start:∀t,t∈C3 (Cq L) L->MX!:=h? (by rcases NR.mp ht with⟨S,hS,m⟩|⟨r,hr,e,c⟩;(.exact .hand hS m);.rw[<-e];exact .out hr c)
 have row:∀t,Ez!->∃r∈RY!,r.1=t:=h? (by rw[h.keys] at ht;obtain⟨r,hr,e⟩:=ZN ht;exact Gh! e)
 have cl:∀t∈R,MX!:=LC.least (S:=λt=>MX!) (λt lt u hu=>by have l_:=AB.mp hu;by_cases c:Ez!;(.obtain⟨r,hr,e⟩:=row t c;subst e;have zT:=l_.1;rw[h.get nd hr] at zT;exact .step hr zT lt);.exfalso;(have:Ck hl t=[]:=ad! (Zp! KJ! c));rw[this] at l_;exact Iy! l_.1 DX) rc (C4! (sw ht)) (h? (start t (Fe! ht)));have closed:=LC.closed rc (h? (sw ht));have sub:=(LC.sub rc).2;have back:∀t,MX!->AT! Ye!->A7!:=λt lt=>by induction lt with | hand hS m=>intro ht;exact sub _ (AB.mpr ⟨E6! NR.mpr (Az! hS m),by rw[h.keys];simpa using ht⟩) | out hr c=>intro ht;exact sub _ (AB.mpr ⟨NR.mpr (y! ⟨_,hr,rfl,c⟩),by rw[h.keys];simpa using ht⟩) | @step r u hr m _ ih =>intro ht;refine closed _ (ih (AG.mpr (D0! hr))) u (AB.mpr ⟨G! (h.get nd hr) m,by rw[h.keys];simpa using ht⟩)
 exact h? ⟨λm=>cl t m,λl=>back t l ht⟩
theorem Jdm(F:aJ L)(h:OT hl (rowsOf L)):∃n R,n<=6000/\oW! (C3 (Cq L) L).filter:=by
 have lk:(hl.map (·.1)).length<=60:=ut h.keys ZA F.rz
 have ls:=Hu (Cq L) L;have l2:=AN (BO! Ez!) (C3 (Cq L) L);have sz:∀t,(OL hl t).length<=60:=λt=>by refine Ja! ?_;by_cases c:Ez!;(.rw[h.keys] at c;obtain⟨r,hr,e⟩:=ZN c;rw[<-e,h.get F.nd hr];exact F.oz r hr);·(have:Ck hl t=[]:=ad! (Zp! KJ! c));rw[this];simp
 have:=F.rz;have:=F.hz;obtain⟨n,R,h1,h2⟩:=LC.ex (nx:=OL hl) (keys:=G? hl.map) (B:=60) (Jek hl) sz 6000 (b8! (C3 (Cq L) L).filter Ez!) [] (C4! kW!) (by have:Wj! (hl.map (·.1)).filter (sA! Pu!):=Ja! lk;have:=FU (60+1) this;lia);exact⟨n,R,A!,h2⟩
universe S
theorem WL:I? [DN!,"weights",Ay!,"starts",TM!,KZ!,"out","held","kept"] Ha! Fw:={}
inductive MQ(vs:E!)(H:Hp)(Q:VK)(E:XK):Prop
 | mk (d:Addr) (L:L4!) (_:vs=[DD!]) (_:iC H d L) (_:aJ (FZ L)) (_:∀(x:Addr)(as:J!)(ts:D!)(H':Hp),TJ! KB (Ym! x) Qv! (Found (FZ L) ts))
theorem OT.snoc(h:OT hl rows)(r:K8!)(a:Addr):OT (hl++[(r.1,a,BP!)]) (rows++[r]):=by unfold OT at *;rw[ZF,ZF,h];rfl
theorem W_(F:j! a7! a7! Fw)(T:Jk9)(MR:Ae! Kc! Fd Gn! fR dR)(MD:gD! a8! G8 fD dD):Gt! Ha! MQ:=by
 have GR:CJ! fR dR Gn! Gy:=Kd MR.fn;have GD:CJ! fD dD Ha! Ow:=Wu MD.fn;refine Y? WL;obtain⟨d,L,rfl,S,fi,k⟩:=h;refine Y!;have hu:=V?;have FV:ca:=k!;refine P4! WL.nd (S3! GD FV MD.mg MD.fn.kp MD.bd fA!) (MB! 2 WL.nd E2 3 WL.nd ER! (N1! (Rp (Mi DE IG OE Mp E?)) 4 WL.nd (gx! OF OD Y2 A? (CK! O?) (ql! (mG! O?) (Iy rfl (By (aj! 5 WL.nd) (By (aj! 6 WL.nd) (By (aj! 7 WL.nd) F2)))) (ED! (TQ! L! IN Ap!) (Dv! (fi! Tg! (Pi hu Q! IN Af BR!)) (SO! A? IN)))))) (QO.ZY (Ad (Vm! 8 WL.nd (S3! GR FV MR.mg MR.fn.kp MR.bd (wT A? L!))) (BS! (Yt! (n0! (e0! 8) (C9 (Zi! L!)) W6! (sa! Ee)))))));refine⟨_,rfl,d,L,rfl,S,fi.tz,λws H1 zQ s1 ew=>?_⟩;intro hd bJ;have s2:=WQ! bJ;have e2:b? (AA! H1 hd .dT []) hd E7 []:=Ab;generalize W3! H1 hd=H2 at s2 e2;refine s0! (λsl XN=>?_);have s3:=N0! XN;have e3:Ss! (so! sl) sl []:=Ab;generalize YL! sl=H3 at s3 e3;have sQ:=Ak s1 (Ak s2 s3);have ew3:=DA! s3 s2 ew;have gq:=D8! e2;have qF:p? hd:=C0 s1 bJ;have qD:p? sl:=C0 s1 (C0 s2 XN);have nwh:ws≠hd:=Aj ew bJ;have qB:ws≠sl:=Aj (v! s2 ew) XN;have sv:hd≠sl:=Aj e2 XN;have gu:=F! sQ S.ob;have tE:hd≠d:=λz=>by rw[z,S.ob] at qF;cases qF
 have bF:sl≠d:=λz=>by rw[z,S.ob] at qD;cases qD
 have ndw:ws≠d:=λz=>by rw[z,S.ob] at zQ;cases zQ
 refine⟨_,rfl,Ix! (n? (VS! gu)),d,_,rfl,rfl,gu,E4!⟩;have s4:=Dr! (Ig p d) hp;have e4:z! (upd H3 p G0!) p G0!:=Ab;generalize upd H3 p G0!=H4 at s4 e4;have ed4:=DT! gu;refine⟨p,d,_,rfl,e4,ed4,λo=>?_⟩;have JCd:∀i,SF!=Io! FR!:=λi=>rfl;have pe:∀{i:Nat} {q:Int×Addr×HS},L[i]?=B! q->i4!=FZ (L.take i)++[GE]:=λ{i q} eq=>by rw[DK,eq];show List.map _ (L.take i++[q])=_;rw[ZF];rfl
 refine Qf (d:=d) (ob:=o) (λi σ H'=>∃(u4 u5 u6 u7:SB)(hl:HL)(as:J!),σ=[Vf!,UF ws,DW!,UF sl,u4,u5,u6,u7,none]/\mb!/\WT! ws Kj!/\b? H' hd E7 hl/\OT hl (rowsOf bH!)/\PF H' hl/\MP! sl/\AX H' as (C3 Kj! bH!)/\BM H4 H'/\oi!) ⟨_,_,_,_,[],[],rfl,Ab,i! ndw (DT! ew3),i! tE (DT! gq),rfl,(TD (sw hq)),i! bF (DT! e3),O!,UA (λo' e'=>by rw[ed4] at e';cases e';exact uM!),J9! (i! n (cF! s4 sQ))⟩ (λi σ H' _ h9=>by obtain⟨_,_,_,_,_,_,_,e,_⟩:=h9;exact e) ?_ ?_;.rintro i kk v σ H5 hi ⟨u4,u5,u6,u7,hl,as,rfl,ef,ew5,cU,d_,uH,mh,YO,XM,TQ⟩;obtain⟨q,eq,rfl⟩:=Jn8 (H:=H) (d:=d) hi;have mq:=ZP eq;have gO:=((S.st q mq).keep ((FF sQ).trans (FF s4))).keep XM;obtain⟨y1,y2,y3,JL,bs,ds,f0,f1,t1,f2,t2,f3,t3⟩:=gO;(have yN:rowsOf (FZ L)=SF!++(q.2.2.2.1++rowsOf (FZ (L.drop FB))):=by (have e5:FZ L=i4!++FZ (L.drop FB):=NF! ZF EJ);rw[e5,pe eq];unfold rowsOf;simp only[CF,CJ,HX,AH,BE]);(have vh:G? (FZ L).flatMap=G? Io!++(q.2.2.1++G? (FZ (L.drop FB)).flatMap):=by (have e5:FZ L=i4!++FZ (L.drop FB):=NF! ZF EJ);rw[e5,pe eq];simp only[CF,CJ,HX,AH,BE]);have zr:=fi.rz;have zh:=fi.hz;have ls:=Hu Kj! bH!;have tG:=L? YO;have l1:=L? t1;rw[yN,ZE,ZE] at zr;rw[vh,ZE,ZE] at zh;have nd:=fi.nd;rw[yN] at nd;refine⟨_,rfl,Bk! mh,_,rfl,D?,_,0,m? y1,rfl,rfl,f0,rfl,sl,y1,_,_,rfl,rfl,mh,f1,mq! Ew,?_⟩;rw[<-ZF];(have WG:BM H5 ne!:=Ag! mh);(have YV:∀b ob,It! H5->b≠sl->It! ne!:=J9! gH!);have mf:Dx! ne! sl (as++JL).map:=Ab;have XB:AX ne! (as++JL) (C3 Kj! bH!++q.2.2.1):=AX.keep WG (N4 YO t1);generalize JU! H5 sl (as++JL).map=H6 at WG YV mf XB;refine⟨_,rfl,D?,_,1,m? y2,rfl,rfl,WG.sq f0,rfl,y2,rfl,T? (WG.sq f2),?_⟩;refine Vf (K:=K) (a:=y2) (xs:=bs) (λj σ H'=>∃(w5 w6 w7:SB)(hl:HL)(as:J!),σ=[Vf!,UF ws,DW!,UF sl,UF D?,w5,w6,w7,none]/\mb!/\WT! ws Kj!/\b? H' hd E7 hl/\OT hl (SF!++q.2.2.2.1.take j)/\PF H' hl/\MP! sl/\AX H' as ((C3 Kj! bH!++q.2.2.1)++VV! (U5! j).filter (eC! RG!))/\BM H6 H'/\oi!) ⟨_,_,_,hl,as++JL,rfl,ID! YV ef bF,h! YV ew5 qB,h! YV cU sv,dq! AH d_,uH.keep WG,mf,by rw[IW];simpa using XB,PL!,J9! (h! YV (TQ _ _ e n) (Aj e qD))⟩ (λj σ H' _ h9=>by obtain⟨_,_,_,_,_,_,_,_,_,_,_,_,_,k3,_⟩:=h9;exact(WG.trans k3).sq f2) ?_ ?_;(.rintro j v σ H7 hj ⟨w5,w6,w7,XO,g7,rfl,ui,ub,fb,aB,jS,ud,dm,l6,T_⟩;obtain⟨r,er⟩:=mc! q.2.2.2.1 (L? t2);obtain⟨a,t,ha,cs,rfl,g1,g2,g3,g4⟩:=(Ax t2 j v r hj er).keep (WG.trans l6);have fM:=AX! er;(have HE:U5! (j+1)=q.2.2.2.1.take j++[r]:=dv! er);(have dt:r.1∉G? XO.map:=by rw[aB.keys];intro z;have e9:q.2.2.2.1=U5! (j+1)++q.2.2.2.1.drop (j+1):=(EJ _ _).symm;rw[e9,HE,<-BE,<-BE,<-BE,BE (SF!++q.2.2.2.1.take j++[r])] at nd;(have jv:y? (SF!++q.2.2.2.1.take j++[r]).map:=by rw[ZF] at nd;exact(AK.mp nd).1);rw[ZF] at jv;exact(AK.mp jv).2.2 r.1 z r.1 (B?) rfl);(have lh:XO.length<=60:=by have:=MJ! aB.keys;rw[ZA,ZA,ZE,CG] at this;lia);have lf:=AN (λr:T2×Int×List T2=>! Du! be RG!) (U5! j);rw[CG] at lf;have la7:=L? dm;rw[ZE,ZE,ZA] at la7;refine⟨a,_,rfl,g1,rfl,_,_,rfl,_,_,rfl,_,_,rfl,rfl,?_⟩;refine⟨_,rfl,_,rfl,_,rfl,hd,_,rfl,TO! r.1 fb g2 (AW! Ew),?_⟩;rw[Jm (V.ref ha) (NG! (F2! dt be!))];rw[show(XO.map JP!)++[(tk r.1,m? ha)]=(N2!).map JP! by rw[ZF];rfl];(have TY:BM H7 (AA! H7 hd E7 UZ!):=Ag! fb);(have eE:∀b ob,It! H7->b≠hd->It! (AA! H7 hd E7 UZ!):=J9! gH!);have kP:b? (AA! H7 hd E7 UZ!) hd E7 UZ!:=Ab;rw[EX! (HO.dT ((N2!).map JP!)=E7 (N2!))];generalize AU! H7 hd E7 UZ!=H8 at TY eE kP;(have og:PF H8 (N2!):=λq' bH=>by rcases ZI bH with bH|bH;(.exact(jS.keep TY) q' bH);.rw[ZK bH];exact⟨cs,TY.sq g3,HX! TY g4⟩);(have oq:OT (N2!) (SF!++U5! (j+1)):=by rw[HE,<-BE];exact aB.snoc r ha);have qa:=h! eE ub nwh;have qd:=ID! eE ud sv;have ef8:=ID! eE ui tE;have g28:=F! TY.BG g2;have lF:=HX! TY dm;refine⟨_,rfl,_,rfl,ws,rfl,T5! qa,_,rfl,_,DV.t (k:=tk r.1) qa g28,?_⟩;rw[Xt];refine Fg! rfl _ ?_;refine kj (λc=>?_) (λc=>?_);(·(have c:¬be=RG!:=λz=>by rw[z] at c;simp at c);refine ol! (Bk! qd) sl _ rfl qd (Ew (To!));(have iX:Lm! H8 H8 sl (Dy! g7.map) (m? t):=Ag! qd);refine⟨_,_,_,N2!,g7++[t],rfl,K3! bF ef8,i! qB qa,i! sv kP,oq,og.keep iX,G! ZF Ab,?_,(l6.trans TY).trans iX,J9! (tJ! qD (h! eE (T_ _ _ e n) (Aj e qF)))⟩;rw[HE,FD,ZF,<-BE];(have kQ:([r].filter (eC! RG!))=[r]:=by simp[c]);rw[kQ];exact Hy (AX.keep iX lF) (v! iX.BG g28));·(have c:be=RG!:=NV!);refine⟨_,_,_,N2!,g7,rfl,ef8,qa,kP,oq,og,qd,?_,l6.trans TY,J9! (h! eE (T_ _ _ e n) (Aj e qF))⟩;rw[HE,FD];(have kQ:([r].filter (eC! RG!))=[]:=by simp[c]);rw[kQ,AH];exact lF);.rintro σ H7 ⟨w5,w6,w7,XO,g7,rfl,ui,ub,fb,aB,jS,ud,dm,l6,T_⟩;rw[L? t2,BS] at aB dm;refine⟨_,_,_,_,XO,g7,rfl,ui,ub,fb,?_,jS,ud,?_,(XM.trans WG).trans l6,T_⟩;(.rw[pe eq];unfold rowsOf at aB ⊢;simp only[CF,CJ,HX,AH];exact aB);.rw[pe eq];unfold C3 at dm ⊢;simp only[CF,CJ,HX,AH];rw[BE] at dm;exact dm
 .rintro σ H5 ⟨u4,u5,u6,u7,hl,as,rfl,ef,ew5,cU,d_,uH,mh,YO,XM,TQ⟩;rw[ZA,BS] at d_ YO;refine Go (upd H5 d sY!) ⟨d,o,_,ef,λob v z=>?_,rfl⟩;(.have z:GD! (.GB ob v):=z;rw[S.ob] at z;cases z);(have s6:An! SQ!:=λb ob e=>by by_cases hb:b=d;(.rw[hb,Ab];rw[hb,S.ob] at e;exact e);.rw[DE!];exact TQ b ob e hb);(have yM:∀{b:Addr} {xs:E!},DN K H5 b xs->DN K SQ! b xs:=λ{b xs} z=>by rcases z with(z|⟨ob,z⟩)|z;(.exact Fp! (P! (Ac (λy=>by rw[y,ef] at z;cases z)) z));(.exact Nx! (HS! ob (Ac (λy=>by rw[y,ef] at z;cases z)) z));.exact LO!);have XB:∀{as:J!} {ts:D!},bN! H5->bN! SQ!:=λ{as ts} z=>Aw (λb t e=>cJ! (λy=>by rw[y,ef] at e;cases e)) z;(have oj:PF SQ! hl:=TD (by obtain⟨cs,e,t⟩:=uH q hq;exact⟨cs,yM e,XB t⟩));have ny:=XB YO;(have mf:rO! SQ! sl:=i! bF mh);(have fe:b? SQ! hd E7 hl:=i! tE cU);clear yM XB;generalize upd H5 d sY!=H6 at s6 oj ny mf fe;obtain⟨n,R,zn,rc⟩:=Jdm fi d_;have ls:=Hu Kj! (FZ L);have zr:=fi.rz;have zh:=fi.hz;(have lh:hl.length=(rowsOf (FZ L)).length:=GA! (MJ! d_.keys) ZA ZA);refine⟨_,rfl,_,rfl,sl,hd,as,_,hl,n,R,rfl,mf,ny,A!,fe,A!,oj,CX!,rc,zn,λx H7 hx s7 ex=>?_⟩;(·(have m:K7! q.1 (rowsOf (FZ L)).map:=dT! d_.keys q hq);(have e8:Ck hl q.1=GE:=ad! (FX.GF (k:=DC!) (P! d_.keys fi.nd) hq));obtain⟨r,JE,e⟩:=BD!;rw[<-e,d_.get fi.nd JE] at e8;rw[<-e8];exact L5! (fi.oz r JE));have fb:=F! s7 fe;obtain⟨so,pm,pw⟩:=oA! FX.sorts (G? (rowsOf (FZ L)).map) fi.nd;(have pw:so.Pairwise HR:=by simpa using pw);(have dr:Rd H7 hd (.dT ((hl.map λq=>(q.1,qC!)).map JO!)):=by (have e:HE! hl.map (λq=>(q.1,qC!)) JO!=hl.map JP!:=Hv!);rw[e];exact H! fb);refine⟨_,rfl,hd,_,so,rfl,dr,To!,?_,pw,λr2 OI IP NB=>?_⟩;(.rw[AQ];show so.Perm (hl.map BF!);rw[d_.keys];exact pm);have s8:=IU! OI.map IP;have e8:Dx! (uK! H7) r2 OI.map:=Ab;have lF:=Bi! s8 NB;generalize JU! H7 r2 OI.map=H8 at s8 e8 lF;have ex8:=F! s8 ex;refine rg! r2 e8 (λp2 FE=>?_);(have lso:so.length<=60:=ut pm.length_eq ZA zr);refine Hk (b:=λt=>Hw! A7!) (caps:=e0! 8) FE C! e8 lF (λH9 a t Q' sm ha ht q=>?_) λH9 bs sm ea tb=>?_;(.refine⟨_,rfl,_,rfl,x,_,rfl,Ic (v! sm ex8) ha,_,rfl,?_⟩;by_cases c:A7!;(.rw[Ch];rw[show AY! (Hw! A7!) by simp[c]] at q;exact q);.rw[IR];rw[show Aa! (Hw! A7!) by simp[c]] at q;exact q);.refine RC! p2 ea (λtt htt=>?_);have s9:=Wv! bs.map htt;refine k tt bs _ _ (Ak s6 (Ak s7 (Ak s8 (Ak sm s9)))) Ab (Ml! s9 tb) ⟨pw.filter _,EH!⟩;have li:=Jg4 fi.nd d_ rc;rw[AB];constructor;(.rintro⟨h1,h2⟩;have m:=pm.mem_iff.mp h1;exact⟨m,λz=>by rw[(li t m).mpr z |> decide_eq_true] at h2;simp at h2⟩);.rintro⟨h1,h2⟩;exact⟨pm.mem_iff.mpr h1,by have:KR!:=λz=>h2 ((li t h1).mp z);simp[this]⟩
universe E
universe E K65F
universe N FX
open PySem PySem.Spec PyProof.Rows L2
theorem Pj:∀{es:List DictEntry} {vs:el!} {ns:d!},Pairs Ki! es vs->G? vs.map=ns.map Sum.inl->IntsAre (es.map M3!) ns
 | _,_,ns,.nil,e=>by cases ns with | nil=>exact O! | cons n ns=>cases e
 | _,_,ns,.cons (e:=d) (kv:=kv) h _ t,e=>by cases ns with | nil=>cases e | cons n ns =>have e:kv.1::_=cB!::ns.map Sum.inl:=e;obtain⟨e1,e2⟩:=List.cons.inj e;have ih:=Pj t e2;rcases Cs (k:=kv.1) (v:=d.key) h with⟨i,tk,e3,e4⟩|⟨x,tk,e3,e4⟩;(.rw[e1] at e3;have:n=i:=Sum.inl.inj e3;rw[AI,e4,<-this];exact q! n tk ih);.rw[e1] at e3;cases e3
theorem Jfm{es:Db!}{acc:E1!}(ha:ItemsOf (oD!) acc es.size):jZ! (es.toList.map M3!):=by
 refine Y3!;by_cases hj:hc!;·(have h1:j<acc.size:=G! ha.1 hj);obtain⟨e2,e3,e4⟩:=ha.2 j acc[j] (je!);(have e5:es[j]?=B! (es[j]):=hg!);rw[e5] at e3;cases e3;(have h2:acc.toList[j]?=B! (acc[j]):=je!);(have h3:es.toList[j]?=B! (es[j]):=hg!);rw[h2,ZH,h3,e4];rfl
 .rw[CS (ut DA ha.1 IJ!),CS (ut ZA DA IJ!)]
universe S
variable {X:Cx Kx}
inductive Km(xs:E!)(H:Hp)(Q:VK):Prop
 | mk (d:Addr) (kvs:bi) (ns:d!) (_:hL!) (_:W0!) (_:G? kvs.map=ns.map Sum.inl) (_:ns.length<64) (_:∀(r:Addr)(ms:d!),PR!->ms.Perm ns->ms.Pairwise (·<=·)->am r (upd H r (.BF (ms.map V.int))))
theorem Ly(hc:BI!):YN! Km:=by
 intro AA s σ H xs us Q I rv h;obtain⟨d,kvs,ns,rfl,hd,ek,aj,q⟩:=h;obtain⟨u,rfl,rx⟩:=vals1 rv;cases rx;obtain⟨z,lo,vs,rel,o,es,ep,g1,g2,g3,g4,g5,g6⟩:=cp! ip! hd;have ev:∀{a:bi} {b:el!},KV a b->T0! b.map a.map:=λ{a b} r=>by induction r with | nil=>rfl | cons h _ ih=>rw[AI,AI,ih,h.1]
 have hI:IntsAre (es.toList.map M3!) ns:=Pj g5 (R? (ev rel) ek);have hl:es.size=ns.length:=g4! IntsAre.length hI ZA DA
 refine pe! (by unfold Builtin.«sorted»;refine pr! (W.kdu_collect (T5 lo (es:=es) (ep:=ep)) (Eq! _ (I.ok.hd hc)) ⟨o,g1,g2,g3⟩ (OZ! hl DF) λh1 tk acc kp ha=>?_);rw[Jfm ha];have I1:FV! { s with heap:=h1,toks:=tk }:=jJ!;refine lH! (by rw[ZA,DA,hl,DF];lia);have e1:We! (h1.push (seqObj ci (es.toList.map M3!).toArray 0)).get? h1.objs.size (es.toList.map M3!).toArray:=CS!;refine pN! e1 (list_sort_tree e1 hI (by rw[ZA,DA,hl];exact aj) λout ms a1 a2 a3=>Vn!);have hn:e9!:=QO!;obtain⟨c,ec⟩:=sortedHeap_at (out:=out) e1;(have old:∀b ob,It! h1.get?->It! (sortedHeap (h1.push (seqObj ci (es.toList.map M3!).toArray 0)) h1.objs.size (es.toList.map M3!) out).get?:=λb ob hb=>by have JK:=AV hb;rw[sortedHeap_old (BQ JK) (Va! size_push' Nat.lt_succ_of_lt JK)];exact ZT _ hb);refine ml! (I1.laid (a:=h1.objs.size) (o:=.BF (ms.map V.int)) (t':=tk) old GM ⟨?_,out.toList,c,Ra a1,by simpa using ec⟩) (q _ ms hn a2 a3);rw[ZA,a2.length_eq,DF];lia)
universe E
universe E FX
universe N K65F
open PySem L2 FX K65
def iN(os:BB!):E!:=os.map (G7! (Ef! k))
theorem Jkk(n:Nat):(rg n).map V.int=h6! iN:=by unfold rg iN;rw[AQ];rfl
theorem Ja6{L:L4!}{h:Int}(n:h∉VT!):Ca (L.map ay!) S1!=none:=by
 unfold Ca;rw[List.find?_map,BD.mpr];.rfl
 .intro q hq z;(have z:C9! q.1=W?:=aW!);injection z with z;exact F2! n be!
theorem q1:AE! E3! HW!:=ZV
theorem q2:AE! E3! GE!:=ZV
theorem q3:AE! E3! DN!:=ZV
theorem q4:AE! DN! HW!:=ZV
theorem q5:AE! DN! GE!:=ZV
theorem q6:AE! GE! HW!:=ZV
def F6(m:Int)(sd fd cd:Addr):Bc!:=Ar HW! (K? cd) (Ar GE! (K? fd) (Ar DN! (K? sd) (Ar E3! (dj m) [])))
universe S
theorem Jal:b? (F6 m sd fd cd).lookup (E3!:Str) g! m:=by unfold F6;rw[Bb,AD q1,Bb,AD q2,Bb,AD q3,Bb,e?]
theorem Sa:NU! (F6 m sd fd cd).lookup (DN!:Str) sd:=by unfold F6;rw[Bb,AD q4,Bb,AD q5,Bb,e?]
theorem Lo:NU! (F6 m sd fd cd).lookup (GE!:Str) fd:=by unfold F6;rw[Bb,AD q6,Bb,e?]
theorem Mx:NU! (F6 m sd fd cd).lookup (HW!:Str) cd:=by unfold F6;rw[Bb,e?]
theorem a_{x:Str}(h1:¬x=HW!)(h2:¬x=GE!)(h3:¬x=DN!)(h4:¬x=E3!):AT (F6 m sd fd cd).lookup x:=by unfold F6;rw[Bb,AD h1,Bb,AD h2,Bb,AD h3,Bb,AD h4];rfl
universe E
structure Iq where
 m:Int
 sd:Addr
 fd:Addr
 cd:Addr
 ss:bi
 fs:bi
 cs:bi
structure FG(H:Hp)(p:Addr)(I:Iq):Prop where
 ob:∃dx,Wd! CI pd!
 s:fE! I.sd I.ss
 f:fE! I.fd I.fs
 c:fE! I.cd I.cs
 sf:I.sd≠I.fd
 sc:I.sd≠I.cd
 fc:I.fd≠I.cd
theorem FG.keep(x:R8!)(k:oc! (b=p) (∀o,Dt!->FA!)):FG H' p I :=⟨bk! (k p Bv! _ e),k _ P6! _ x.s,k _ (wp P6!) _ x.f,k _ (wp iE!) _ x.c,x.sf,x.sc,x.fc⟩
theorem FG.same(x:R8!)(s:KB):FG H' p I:=x.keep λb _ o e=>s b o e
universe S
inductive NK(vs:E!)(H:Hp)(Q:VK)(E:XK):Prop
 | mk (p dx:Addr) (n:Int) (_:WM!) (_:Wd! CI []) (_:∀(H':Hp)(I:Iq),(J1! H')->FG H' p I->I.m=n->I.ss=[]->I.fs=[]->I.cs=[]->p? I.sd->p? I.fd->p? I.cd->Hh!)
theorem Jmc:I? LQ! LQ! O7:={}
theorem WY(F:fP! qt! O7)(T:Vn):BW! LQ! NK:=by
 refine Y? Jmc;obtain⟨p,dx,n,rfl,hp,k⟩:=h;refine Y!;refine IF! (TP! Q!) (ZT! Fe Fe (Wf! Dk Fe rfl));have l1:=A3 E3! ao! [];refine⟨_,rfl,_,rfl,p,CI,dx,[],rfl,hp,T.cl,T.nM,ma!,λd1 h1=>?_⟩;have gU:p≠d1:=Aj Ab h1;have l2:=λv=>A3 DN! v (Ar E3! ao! []);refine qz! CI (hC! gU) T.cl T.nS (by simp only[BX] at l1;lia) (λd2 h2=>?_);have jr:p≠d2:=Aj Ab h2;have l3:=λv u=>A3 GE! u (Ar DN! v (Ar E3! ao! []));refine qz! CI (hC! jr) T.cl T.nF (by have:=l2 (BG! d1);simp only[BX] at l1;lia) (λd3 h3=>?_);have lV:p≠d3:=Aj Ab h3;refine qz! CI (hC! lV) T.cl T.nT (by have:=l2 (BG! d1);have:=l3 (K? d1) ej!;simp only[BX] at l1;lia) ?_;have g1:p? d1:=by rw[Lp!] at h1;exact h1
 have eZ:d1≠d2:=λz=>by rw[<-z,Lp!,Ab] at h2;cases h2
 have g2:p? d2:=by rw[WJ!,ak! eZ,WJ!] at h2;exact h2
 have iS:d2≠d3:=λz=>by rw[<-z,WJ!,Ab] at h3;cases h3
 have iT:d1≠d3:=λz=>by rw[<-z,Lp!,Ac eZ,Lp!,Ab] at h3;cases h3
 have g3:p? d3:=by rw[f3!,ak! iS,f3!,ak! iT,f3!] at h3;exact h3
 refine k _ ⟨n,d1,d2,d3,[],[],[]⟩ (λb u e hb=>?_) ⟨Fh! Ab,?_,?_,?_,eZ,iT,iS⟩ rfl rfl rfl rfl g1 g2 g3;.have m1:=Aj e g1;have m2:=Aj e g2;have m3:=Aj e g3;rw[DE!,Ac m3,DE!,Ac m2,DE!,Ac m1,DE!];exact e
 .rw[Lp!,Ac iT,Lp!,Ac eZ,Lp!];exact Ab
 .rw[WJ!,Ac iS,WJ!];exact Ab
 .rw[f3!];exact Ab
inductive QH(vs:E!)(H:Hp)(Q:VK)(E:XK):Prop
 | mk (p:Addr) (I:Iq) (h t:Int) (v:V) (_:vs=[Op,D7!,R! t,v]) (_:R8!) (_:I.fs.length<=500) (_:I.ss.length<=500) (_:∀H',FG H' p { I with ss:=putK I.ss S1! v,fs:=putK I.fs S1! (g! t) }->(OF! (b≠I.sd) (b≠I.fd) FA!)->Q (YU! (Ef! (putK I.fs (.inl h) (.int t)).length=H? I.m)) H')
theorem sM:I? Mo! Mo! K6:={}
theorem dg(F:j! "first" qv! K6)(T:Vn)(hl:WW!):BW! Mo! QH:=by
 refine Y? sM;obtain⟨p,I,h,t,v,rfl,S,zf,zs,k⟩:=h;refine Y!;have hu:=V?;obtain⟨dx,hp⟩:=S.ob;refine S2! (pL! L!) (g7! (Q2! A?) (mY! (s2! M7 hl C?) C?));have npf:p≠I.fd:=λz=>by rw[z,S.f] at hp;cases hp
 have nps:p≠I.sd:=λz=>by rw[z,S.s] at hp;cases hp
 refine py! CI dx hp T.cl T.nF Lo I.fd (GQ.k (k:=VW!) S.f (Ew C!));have HQ:NX! (CG! I.fd .dK (TK! I.fs)) CI pd!:=i! npf hp
 have s1:Qx! I.fd I.fs I.sd I.ss:=i! S.sf S.s
 have c1:Qx! I.fd I.fs I.cd I.cs:=K3! S.fc S.c
 have f1:Qx! I.fd I.fs I.fd sq!:=Ab;have k1:OF! (b≠I.sd) (b≠I.fd) (AB! (CG! I.fd .dK (TK! I.fs))):=λb o e _ n=>gH!
 generalize AU! H I.fd .dK sq!=H1 at HQ s1 c1 f1 k1;refine py! CI dx HQ T.cl T.nS Sa I.sd (GQ.k (k:=VW!) s1 (Ew C!));have FE:NX! (AA! H1 I.sd .dK Mu!) CI pd!:=i! nps HQ
 have s2:Rw! H1 I.sd Mu! I.sd Mu!:=Ab;have c2:Rw! H1 I.sd Mu! I.cd I.cs:=K3! S.sc c1
 have f2:Rw! H1 I.sd Mu! I.fd sq!:=K3! S.sf f1
 have k2:OF! (b≠I.sd) (b≠I.fd) (AB! (AA! H1 I.sd .dK Mu!)):=λb o e n1 n2=>i! n1 (k1 b o e n1 n2)
 generalize AU! H1 I.sd .dK Mu!=H2 at FE s2 c2 f2 k2;exact⟨_,rfl,p,CI,dx,_,_,rfl,FE,T.cl,T.nF,Lo,I.fd,_,rfl,f2,_,rfl,p,CI,dx,_,_,rfl,FE,T.cl,T.nM,Jal,rfl,k H2 ⟨Fh! FE,s2,f2,c2,S.sf,S.sc,S.fc⟩ k2⟩
inductive YE(vs:E!)(H:Hp)(Q:VK)(E:XK):Prop
 | mk (p:Addr) (I:Iq) (h t:Int) (_:vs=[Op,D7!,R! t]) (_:R8!) (_:I.cs.length<=500) (_:∀H',FG H' p { I with cs:=putK I.cs S1! (g! t) }->(MK! (b≠I.cd))->Q (YU! (Ef! (putK I.cs (.inl h) (.int t)).length=H? I.m)) H')
theorem jo:I? Lw! Lw! Ir:={}
theorem bg(F:j! "second" qw! Ir)(T:Vn)(hl:WW!):BW! Lw! YE:=by
 refine Y? jo;obtain⟨p,I,h,t,rfl,S,zc,k⟩:=h;refine Y!;have hu:=V?;obtain⟨dx,hp⟩:=S.ob;refine S2! (pL! L!) (BS! (mY! (s2! M7 hl C?) C?));have npc:p≠I.cd:=λz=>by rw[z,S.c] at hp;cases hp
 refine py! CI dx hp T.cl T.nT Mx I.cd (GQ.k (k:=VW!) S.c (Ew C!));have HQ:NX! (CG! I.cd .dK (TK! I.cs)) CI pd!:=i! npc hp
 have s1:Qx! I.cd I.cs I.sd I.ss:=i! S.sc S.s
 have c1:Qx! I.cd I.cs I.cd (TK! I.cs):=Ab;have f1:Qx! I.cd I.cs I.fd I.fs:=i! S.fc S.f
 have k1:fo! (b≠I.cd) (CG! I.cd .dK (TK! I.cs)):=λb o e n=>gH!
 generalize AU! H I.cd .dK (TK! I.cs)=H1 at HQ s1 c1 f1 k1;exact⟨_,rfl,p,CI,dx,_,_,rfl,HQ,T.cl,T.nT,Mx,I.cd,_,rfl,c1,_,rfl,p,CI,dx,_,_,rfl,HQ,T.cl,T.nM,Jal,rfl,k H1 ⟨Fh! HQ,s1,f1,c1,S.sf,S.sc,S.fc⟩ k1⟩
structure Full(I:Iq)(n:Nat)(f c:Cb!)(a:I4!):Prop where
 ks:∃os:BB!,h6! os.Perm/\G? I.fs.map=os.map (G7! (C9! CY!))
 fs:∀k<n,DV! Ca I.fs CY!=B! (g! (f k))
 cs:∀k<n,DV! Ca I.cs CY!=B! (g! (c k))
 ss:∀k<n,DV! Ca I.ss CY!=B! (BG! (a k))
def C8(n:Nat)(f c:Cb!):BB!:=(List.range n).filter λk=>Kq! (f k) c k
theorem Jbd:∀{ms:d!} {n:Nat},ms.Perm (rg n)->ms.Pairwise (·<=·)->ms=rg n:=λ{ms n} pm pw=>by (have pr:(rg n).Pairwise (·<=·):=by unfold rg;rw[EC];exact en! (λ{a b} (h:a<b)=>A!) PZ);exact pm.eq_of_pairwise (λa b _ _ h1 h2=>A!) pw pr
inductive WV(vs:E!)(H:Hp)(Q:VK)(E:XK):Prop
 | mk (p:Addr) (I:Iq) (n:Nat) (f c:Cb!) (a:I4!) (_:Gf!) (_:R8!) (_:n<=60) (_:Full I n f c a) (_:∀(l:Addr)(H':Hp),iT! FB! (QQ! iN (C8 n f c)) l)
theorem Jl3:Xe! K5:={}
def Jj1:TT:=Kw (WC iK (aH! GE!) (aH! HW!))
theorem df(F:j! "still" qx! K5)(T:Vn)(hso:gL!):QC! WV:=by
 refine Y? Jl3;obtain⟨p,I,n,f,c,a,rfl,S,hz,fu,k⟩:=h;refine Y!;have hu:=V?;obtain⟨dx,hp⟩:=S.ob;refine SJ! (E4 (tt:=Jj1) (te:=B9 0) (caps:=Jx!) rfl (C9 (r1! Ly hso C?)) rfl ZV rfl ZV rfl He! W6! Hm! ZV (kH! ZW! ZW!) Hi!);obtain⟨os,pm,ek⟩:=fu.ks;have lo:os.length=n:=R? pm.length_eq CB
 refine⟨_,rfl,p,CI,dx,_,_,rfl,hp,T.cl,T.nF,Lo,I.fd,I.fs,os.map (G7! CY!),rfl,S.f,Cx! ek AQ,To!,λr ms JE pm2 pw=>?_⟩;have em:ms=rg n:=Jbd (pm2.trans (pm.map _)) pw;subst em;rw[Jkk];have s1:=Dr! (.BF (iN (List.range n))) JE;have e1:Ss! (CG! r .BF sp!) r sp!:=Ab;generalize KO! H r sp!=H1 at s1 e1;refine rg! r e1 Il!;refine Fs (K:=K) (a:=r) (xs:=h6! iN) (tt:=Jj1) (te:=B9 0) (caps:=Jx!) (λi ys H'=>S0! H' l/\Bl H1 H'/\ys=iN (C8 i f c)) (GO! Ab (Ah hl)) (λi ys H' _ z=>Uh! z.2.1 e1 z.1) ?_ ?_;.rintro i v ys H2 N hi ⟨el,s2,rfl⟩ hN;have ag:=AX! hi;(have li:(iN (List.range n)).length=n:=by unfold iN;rw[ZA,CB]);rw[li] at ag;(have hi:H? U?=v:=by unfold iN at hi;rw[ZH,List.getElem?_range ag] at hi;exact ZO hi);subst hi;have iJ:=Ak s1 s2;have S2:=S.same iJ;obtain⟨GX,FE⟩:=S2.ob;(have gf:DV H2 I.fd (dj U?) (some (g! (f i))):=f4! U? S2.f (fu.fs i ag));(have gc:DV H2 I.cd (dj U?) (some (g! (c i))):=f4! U? S2.c (fu.cs i ag));(have BF:(C8 i f c).length<=i:=f5! (AN (λk=>Kq! (f k) c k) (rB! i)));(have yJ:C8 (i+1) f c=C8 i f c++Wi! (f i=c i) [i]:=by unfold C8;rw[EE,FD];congr 1;by_cases z:f i=c i;(.rw[AE z];simp[z]);.rw[AD z];simp[z]);refine⟨_,rfl,p,CI,GX,_,_,rfl,FE,T.cl,T.nF,Lo,_,rfl,I.fd,_,rfl,gf,_,rfl,p,CI,GX,_,_,rfl,FE,T.cl,T.nT,Mx,_,rfl,I.cd,_,rfl,gc,rfl,_,rfl,?_⟩;refine kj (AI!) (AI!);(·(have z:f i=c i:=by have:=BK z;injection this);refine Aj! rfl el (Ew (by unfold iN;rw[ZA];lia)) (F! hN (Go Ab (h2! hl s2)));rw[yJ,AE z];unfold iN;rw[ZF];rfl);.have z:¬f i=c i:=λy=>z (BH! y);refine F! hN (Go el s2);rw[yJ,AD z,AH]
 .rintro ys H2 ⟨el,s2,rfl⟩;(have li:(iN (List.range n)).length=n:=by unfold iN;rw[ZA,CB]);rw[li] at el;exact k l H2 (C0 s1 hl) (Ak s1 s2) el
def J_(n:Nat)(f c:Cb!)(a:I4!)(S:GX!):L4!:=(C8 n f c).map (G7! (CY!,a k,S k))
inductive TK(vs:E!)(H:Hp)(Q:VK)(E:XK):Prop
 | mk (p:Addr) (I:Iq) (n:Nat) (f c:Cb!) (a:I4!) (S:GX!) (_:Gf!) (_:R8!) (_:n<=60) (_:Full I n f c a) (_:(∀k<n,XS K H (a k) (S k))) (_:aJ (FZ (J_ n f c a S))) (_:∀(x:Addr)(as:J!)(ts:D!)(H':Hp),TJ! KB (Ym! x) Qv! (Found (FZ (J_ n f c a S)) ts))
theorem dB:bX! [BX!,DN!,"h"] Iu:={}
theorem Jfx{a:I4!}{S:GX!}{ks:BB!}{k:Nat}(h:k∉ks):Ca ((ks.map (G7! (CY!,a k,S k))).map ay!) (A1! CY!)=none:=by refine Ja6 Ij!;rw[AQ] at m;obtain⟨j,hj,e⟩:=BD!;have e:No EA! k:=e;exact h (G! (Cy! (k=j)) hj)
theorem Jc0(n:Nat)(f c:Cb!):(C8 n f c).Nodup:=List.nodup_range.filter _
theorem bo{f fS fU:Addr}{fd dS dU:FuncData}(F:j! "result" qy! Iu)(T:Vn)(MS:Qg! "still" qx! K5 fS dS)(GS:Pj! fS dS WV)(MU:gD! a7! Fw fU dU)(GU:DR 2 fU dU Ha! (MQ)):R2! UV TK:=by
 refine Y? dB;obtain⟨p,I,n,f,c,a,Sf,rfl,S,hz,fu,st,fi,k⟩:=h;refine Y!;have hu:=V?;have FV:ca:=k!;have IP:Lg!:=k!;obtain⟨dx,hp⟩:=S.ob;refine P4! dB.nd Fe (g7! (N1! (C9 (bR! E? T.cl MS.mt GS FV MS.bd Au)) 2 dB.nd (Ag (TQ! Q! L! (bf! L!)))) (S3! GU IP MU.mg MU.fn.kp MU.bd fB!));intro d hd;have s1:=gB! hd;have e1:b? (CG! d .dK []) d .dK []:=Ab;generalize MI! H d=H1 at s1 e1;have S1:=Qq!;obtain⟨FK,HQ⟩:=S1.ob;refine⟨_,rfl,p,FK,_,rfl,HQ,o6! a_,p,I,n,f,c,a,rfl,S1,hz,fu,λl H2 hl s2 el=>?_⟩;refine rg! l el ?_;have ju:d≠l:=λz=>by rw[z] at e1;rw[e1] at hl;cases hl
 have ls:o? iN (C8 n f c)=(C8 n f c).length:=by unfold iN;rw[ZA]
 have lz:(C8 n f c).length<=n:=f5! (AN (λk=>Kq! (f k) c k) (rB! n))
 refine RK! l (iN (C8 n f c)) (λj σ H'=>∃u2,σ=[GT!,Vf!,u2]/\KB/\QQ! iN (C8 n f c)/\b? H' d .dK (((C8 n f c).take j).map (G7! (CY!,a k,Sf k)) |>.map ay!)) (Aj! rfl (Ak s1 s2) el (H9! s2)) (λj σ H' _ h9=>by obtain⟨_,_,_,z,_⟩:=h9;exact WF z);.rintro j v σ H3 hj ⟨u2,rfl,s3,eN,gu⟩;have fM:=AX! hj;rw[ls] at fM;obtain⟨kk,qh⟩:=An (xs:=C8 n f c) fM;(have hj:Ef! kk=v:=by unfold iN at hj;rw[ZH,qh] at hj;exact ZO hj);subst hj;have mk:=ZP qh;have hk:kk<n:=BI.mp (Fe! mk);have S3:=S.same s3;obtain⟨OH,ND⟩:=S3.ob;(have gs:DV H3 I.sd (dj (S? kk)) (some (BG! (a kk))):=f4! (S? kk) S3.s (fu.ss kk hk));(have dt:kk∉(C8 n f c).take j:=λz=>by obtain⟨i,hi,e⟩:=List.mem_iff_getElem.mp z;rw[CG] at hi;rw[List.getElem_take] at e;have e3:=(ZJ qh).2;have:=(JR (Jc0 n f c)).mp (e.trans e3.symm);lia);refine p1! CI OH ND T.nS Sa I.sd gs rfl d _ rfl (GQ.k (k:=H! (S? kk)) gu (Ew (by rw[ZA,ZA,CG];lia)));rw[Ha _ (Jfx dt)];refine Aj! rfl (bj! hd Wk!) (K3! ju eN) ?_;rw[Ab,DK,qh];simp only[Option.toList_some,ZF,AI,EY]
 .rintro σ H3 ⟨u2,rfl,s3,eN,gu⟩;rw[ls,BS] at gu;refine⟨_,rfl,d,J_ n f c a Sf,rfl,⟨gu,CX!⟩,fi,λx as ts H4 s4 ex th fo=>k x as ts H4 (Ak s3 s4) ex th fo⟩;obtain⟨j,hj,rfl⟩:=ZN hq;exact(st j (BI.mp (Fe! hj))).keep (FF s3)
universe E
universe E K65F
universe N K65
open PySem L2 FX
theorem Fx:∀{R U:D!},R.Nodup->(∀t∈R,t∈U)->R.length<=U.length
 | [],U,_,_=>AZ!
 | a::R,U,nd,h=>by have MT:=Bg!;have ha:=Cj! a;have ih:=Fx (R:=R) (U:=U.erase a) MT.2 (h? ((List.mem_erase_of_ne (rV! MT.1 ht)).mpr (h t (ZD _ ht))));rw[List.length_erase_of_mem ha] at ih;have:=P_ ha;simp only[BO];lia
def vI(p:Addr)(W:DI)(io:Addr)(I:K65F.Iq):Prop:=oc! (b=io) EF!
structure kZ(H:Hp)(c b:Int)(ts:D!)(L:o!)(m:Nat):Prop where
 BR:VT!=(List.range m).map mB!
 LF:H8! (λ(y:Int×Addr)(i:Nat)=>WQ H y.2 y.1 b U? (b8! ts.filter JB!)) L List.range m
theorem kZ.len(x:kZ H c b ts L m):L.length=m:=f5! (L? x.LF)
universe S
inductive Mc(vs:E!)(H:Hp)(Q:VK)(E:XK):Prop
 | mk (p:Addr) (b n:Int) (W:DI) (io:Addr) (I:K65F.Iq) (m:Nat) (f c:Cb!) (a:I4!) (S:GX!) (_:vs=[Op,R! b,R! n]) (_:ol) (_:N4! (hr! W.JJ n) io) (_:K65F.FG H io I) (_:m<=60) (_:K65F.Full I m f c a) (_:(∀k<m,XS K H (a k) (S k))) (_:K65F.aJ (K65F.FZ nn!)) (_:VI!) (_:GR!) (_:W.ED.length<=900) (_:(∀e∈W.ED,e.1≠n)) (_:∀(x xf:Addr)(as:J!)(ts:D!)(L:o!)(H':Hp),Found (K65F.FZ nn!) ts->Fs! { W with c:=BE!,ls:=Dj!,ED:=Gk! }->kZ H' W.c b ts L W.qs.length->Ym! xf->Qv!->sJ! RS! RQ! cR!)
theorem YA:I? [BX!,q8!,"n","found","went","h","there"] Mk! Ip:={}
def Jlt:TT:=Kw (WC iK (oU! Jo!) (B9 1))
theorem Y0(F:j! q9! rA! Ip)(T:Txt)(TW:Hs)(TP:L4)(TI:Vn)(M1:Qg! "result" qy! Iu f1 d1)(G1:DR 3 f1 d1 UV (K65F.TK))(M3:SC!):DR 4 f fd Mk! (Mc):=by
 have G3:Zs!:=Zg!;refine Y? YA;obtain⟨p,b,n,W,io,I,m,f,c,a,Sf,rfl,S,vi,SI,zm,fu,st,fi,z1,z2,z3,nf,k⟩:=h;refine Y!;have hu:=V?;have FV:ca:=k!;obtain⟨dx,hp⟩:=S.ob;obtain⟨gx,kD⟩:=SI.ob;refine TC! 3 YA.nd (Oa! (bf! L!) TI.cl M1.mt G1 hr M1.bd) (Ad (rX! L! A?) (NZ! 4 YA.nd ER! (ql! (b3! T.range mk!) (Bc (i:=5) YA.nd rfl (Or.inr rfl)) (Ke! 6 YA.nd (Yt! (E4 (tt:=Jlt) (te:=B9 0) (caps:=[("h",5)]) rfl (Kb (pv 3)) rfl ZV rfl ZV rfl He! W6! Hm! ZV (kH! V6! Q!) Hi!)) (SO! O? (MC! C? TP.cl M3.mt G3 M3.bd (rx! Q! IN Tg!))))) (TH! pv 4)));have gi:DV H W.iq ao! (aw! io):=f4! n S.iq vi
 refine⟨_,rfl,p,CW,dx,_,_,rfl,hp,TW.cl,TW.nI,L9 W,_,rfl,W.iq,_,rfl,gi,io,gx,_,rfl,kD,o6! K65F.a_,io,I,m,f,c,a,Sf,rfl,SI,zm,fu,st,fi,λxf as ts H1 s1 eF th fo=>?_⟩;have W1:=Qq!;obtain⟨FK,HQ⟩:=W1.ob;refine py! CW FK HQ TW.cl TW.nF (Ol W) W.fi (iV! cB! W1.fi Td!);rw[U2 nf];obtain⟨W2,QB⟩:=Jn7 W1 (l:=Gk!);have bG:=Ep! W1 QB;have bx:HG! (rw! H1 W.fi Gk!):=eV! QB (v! s1 eb);have jV:=F! bG.BG eF;have NB:=HX! bG th;generalize upd H1 W.fi (.dK (kvsOf (Gk!)))=H2 at W2 bG bx jV NB;refine s0! VB!;have s3:=XJ!;have e3:Ss! (so! r) r []:=Ab;have W3:=gI!;generalize YL! r=H3 at s3 e3 W3;have oG:∀W':DI,Qr!=KM!->r∉Qr!:=λW' e m=>by rw[e] at m;exact W2.MX JE m
 obtain⟨OH,ND⟩:=W3.ob;have e0:S? (o? W.qs.map Jr!)=W.qs.length:=B?
 refine⟨_,rfl,p,CW,OH,_,_,rfl,ND,TW.cl,TW.nH,Dq _,W.hs,_,rfl,Kb! W3.hs,PE!,(by rw[<-e0]),A!,A!,?_⟩;rw[AM];have aT:as.length=ts.length:=L? NB;have JMb:ts.length<=60:=by have nd:ts.Nodup:=en! (λ{a b} (h:HR a b) (z:a=b)=>l6!) fo.pw;have:=Fx nd (h? (PQ! fo.mem ht));rw[ZA] at this;exact AR this fi.rz
 refine Fq (lo:=0) (n:=W.qs.length) (λi σ H'=>∃(u5 u6:SB)(L:o!),σ=[GT!,Br! b,Br! n,UF xf,UF r,u5,u6]/\ti! r/\Fs! { W with c:=qg!,ls:=Dj!,ED:=Gk! }/\kZ H' W.c b ts L i/\BM H3 H'/\Fy!) ⟨_,_,[],rfl,e3,by (have e:({ W with c:=VA!,ls:=W.ls++[],ED:=Gk! }:DI)={ W with ED:=Gk! }:=B?);rw[e];exact W3,n? O!,PL!,Q3! (D8! (bx b o eb hb))⟩ ?_ ?_;.rintro i σ H4 hi ⟨u5,u6,L,rfl,er,W4,l4,k4,TU⟩;rw[KA! Xr!];have o4:=DA! k4.BG s3 jV;have lG:=AX.keep k4 (AX.keep (FF s3) NB);refine hv! xf (FM o4) CX!;refine Qk (K:=K) (b:=BO! JB!) (caps:=[("h",5)]) hq C! (DN.of o4) lG (λH5 a5 t5 Q' sm ha ht qq=>?_) λH5 bs sm ep tb=>?_;(.refine⟨_,rfl,a5,_,0,H? t5.1,rfl,rfl,FM ha,rfl,_,rfl,rfl,_,rfl,?_⟩;rw[show b1! t5.1 U?=a? (No t5.1 i) by by_cases z:No t5.1 i;(.rw[z];simp);.rw[decide_eq_false z,Al! (λy=>z (by injection y))]];exact qq);refine RC! q ep (λx6 hx6=>?_);have s6:=Wv! bs.map hx6;have e6:ro! (upd H5 x6 (.BG (bs.map V.ref))) x6 bs.map:=Ab;have yG:=Bi! s6 tb;have lK:=Ak sm s6;generalize upd H5 x6 (WD! bs.map)=H6 at s6 e6 yG lK;have W6:=W4.same lK;obtain⟨XE,aX⟩:=W6.ob;obtain⟨my,hq7⟩:=W6.po.ob;have er6:=F! lK er;refine⟨_,rfl,Bk! er6,_,rfl,p,CW,XE,_,_,rfl,aX,TW.cl,TW.nP,Em _,W.po,my,_,rfl,hq7,Kw!,_,rfl,_,rfl,_,rfl,?_⟩;refine re! _ _ W6.po (OZ! ZE l4.len) (λt7 H7 ht7 uc S7 T_=>?_);obtain⟨W7,jk⟩:=W6.IT S7 T_;have TZ:=Ep! W6 jk;have er7:ab! H7 r L.map (λy=>H? y.1):=h! jk er6 (oG _ rfl);refine aC! r er7 (Wb! l4.len);(have kq:Lm! H7 H7 r mI! (Sw! EL!):=Ag! er7);have kk:=((FF lK).trans TZ).trans kq;refine⟨_,_,L++[(EL!,t7)],rfl,G! ZF Ab,?_,JE!,k4.trans kk,?_⟩;(·(have e1:W.c+fW!=EL!:=A!);rw[e1,<-BE];exact lk! W7.keep (λz=>oG _ rfl (c5! hb)));(.rw[ZF,l4.BR,EE,ZF];congr 1;show [EL!]=[f8+U?];congr 1;lia);(.rw[EE];exact F4 ⟨x6,bs,F! kq.BG uc,DA! kq.BG TZ.BG e6,AX.keep kq (AX.keep TZ yG)⟩ (Aw (λ_ _ rr=>rr.keep kk) l4.LF));.intro b' o' e' IC;have mK:b'≠r:=Aj (bx b' o' e' IC) JE;rw[Ac mK];exact jk b' o' (v! lK (UB! TU)) IC
 .rintro σ H4 ⟨u5,u6,L,rfl,er,W4,l4,k4,TU⟩;exact t? (k r xf as ts L H4 fo W4 l4 (Aq! k4.BG s3 jV) (AX.keep k4 (AX.keep (FF s3) NB)) TU er (λz=>by have:=W2.hs;rw[FU! (({ W with ED:=Gk! }:DI).hs=W.hs),<-z,JE] at this;cases this) (Q3! (Aj (bx b o eb hb) JE)))
universe E
def XT(p:Addr)(W:DI)(I:K65F.Iq)(H H':Hp):Prop:=cr (Dt!->EF!->b≠I.sd->b≠I.fd->b≠I.cd->FA!)
universe S
theorem XT.CQ(x:ol)(y:K65F.FG H io I)(f:XT p W I H H'):u?:=by
 have ne:∀{b:Addr} {o:HO} {d:Addr} {kvs:bi},Dt!->(∀kvs,o≠.dK kvs)->W0!->b≠d:=λ{b o d kvs} e n ed z=>by rw[z,ed] at e;injection e with e;exact n _ e.symm
 exact iN! (f a _ e (x.dY e) (SK! y.s) (SK! y.f) (SK! y.c)) (f a _ e (λm=>by obtain⟨o,e',_,h⟩:=fz!;rw[e] at e';cases e';exact F! h rfl) (SK! y.s) (SK! y.f) (SK! y.c))
theorem AO.off(x:ol)(f:MK! dN!):sz! H':=x.keep λb o m e=>BU! f m
theorem Jao(nd:JC! kX!):hr! (kX!) k=B! (K? e)/\Dp (kvsOf (kX!)) (A1! k)=kvsOf (xL):=⟨U2! (Xu nd),Xy nd⟩
universe E
universe S
inductive Ov(vs:E!)(H:Hp)(Q:VK)(E:XK):Prop
 | mk (p t:Addr) (W:DI) (k s g n u:Int) (e1 e2:o!) (e xs:Addr) (tick:Int) (io:Addr) (I:K65F.Iq) (_:Gc!) (_:ol) (_:R9! k FO! n) (_:W.EF=kX!) (_:y? W.EF.map) (_:KT! e [R! tick,l! xs]) (_:N4! (hr! W.JJ n) io) (_:K65F.FG H io I) (_:vI p W io I) (_:I.fs.length<=500) (_:I.ss.length<=500) (_:I.cs.length<=500) (_:VI!) (_:GR!) (_:((u=1/\(b9! I.fs≠I.m->rP! (of! (Fs! VJ!) { I with ss:=sZ! I.ss,fs:=a0! I.fs } (Xf! [])))/\(eW! I.fs->eR! (Fs! { W with EF:=xL,c:=BE!,ls:=Dj! }->of! (M_ H' W.c g n 2 L W.qs.length) { I with ss:=sZ! I.ss,fs:=a0! I.fs } RS!)))\/(u≠1/\(b9! I.cs≠I.m->rP! (of! (Fs! VJ!) { I with cs:=a0! I.cs } (Xf! [])))/\(eW! I.cs->∃(m:Nat)(f c:Cb!)(a:I4!)(S:GX!),m<=60/\K65F.Full { I with cs:=a0! I.cs } m f c a/\(∀k<m,XS K H (a k) (S k))/\K65F.aJ (K65F.FZ nn!)/\W.ED.length<=900/\(∀e∈W.ED,e.1≠n)/\∀(x xf:Addr)(as:J!)(ts:D!)(L:o!)(H':Hp),Found (K65F.FZ nn!) ts->Fs! { W with EF:=xL,c:=BE!,ls:=Dj!,ED:=Gk! }->kZ H' W.c g ts L W.qs.length->Ym! xf->of! Qv! { I with cs:=a0! I.cs } RS!))))
theorem TC:Vp! [BX!,TR!,"sender",q8!,"n",NJ!,"last"] Ey:={}
theorem Jgn(F:j! q3! q4! Ey)(T:Txt)(TW:Hs)(TI:Vn)(M1:DC K CI "first" qv! K6 Mo! f1 d1)(M2:DC K CI "second" qw! Ir Lw! f2 d2)(M3:pJ! f3 d3)(G3:DR 2 f3 d3 OJ! (Gx))(M4:Eh! q9! rA! Ip Mk! f4 d4)(G4:DR 4 f4 d4 Mk! (Mc)) : DR 5 f fd AF! (Ov):=by
 have G1:CJ! f1 d1 Mo! K65F.QH:=K65F.dg M1.fn TI T.len;have G2:CJ! f2 d2 Lw! K65F.YE:=K65F.bg M2.fn TI T.len;refine Z2! TC;.obtain⟨p,t,W,k,s,g,n,u,e1,e2,e,xs,tick,io,I,rfl,_⟩:=h;rfl
 .obtain⟨p,t,W,k,s,g,n,u,e1,e2,e,xs,tick,io,I,rfl,S,⟨a,et,ea⟩,ee,nde,he,vi,SI,off,zf,zs,zc,z1,z2,kk⟩:=h;have hu:=V?;have FV:ca:=k!;have IP:Lg!:=k!;obtain⟨dx,hp⟩:=S.ob;refine XI! TC.nd (MB! 3 TC.nd Nb! 4 TC.nd Pk! (Fa! 5 TC.nd (Wp C? Nb! BR!)) (Bs! (Dv! (s9! Pk!) (Ke! 6 TC.nd (MC! (bf! O?) TI.cl M1.mt G1 M1.bd (HN! L! (CK! IN) (CK! IN))) (BS! (Wo (Hw (pv 6)) (tC! TW.cl M3.mt G3 IP M3.bd (HN! A? O? Af)) ER!)))) (Fa! 6 TC.nd (MC! (bf! O?) TI.cl M2.mt G2 M2.bd (wT L! (CK! IN)))) (BS! (Wo (Hw (pv 6)) (Wx! TW.cl M4.mt G4 M4.bd (wT A? O?)) ER!))));have oI:=nde;rw[ee] at oI;obtain⟨ev,ed⟩:=Jao oI;refine nM! 2 s;refine nM! 3 g;refine⟨_,rfl,t,_,4,N8!,rfl,rfl,E0!,rfl,a,_,0,H? n,rfl,rfl,FM ea,rfl,?_⟩;have ue:=S.en;rw[ee] at ue;refine⟨_,rfl,p,CW,dx,_,_,rfl,hp,TW.cl,TW.nE,Jcp W,W.en,rfl,VS! (H! ue),_,rfl,t,_,0,H? k,rfl,rfl,E0!,rfl,_,Sum.inl k,_,ue,rfl,ev,?_⟩;rw[ed];obtain⟨W1,HK⟩:=Jn5 S (l:=xL);have LB:=MQ!;have qu:K65F.FG (upd H W.en (.dK (kvsOf (xL)))) io I:=SI.keep (Zw! HK);generalize upd H W.en (.dK (kvsOf (xL)))=H1 at W1 HK LB qu;have fX:=bV! et;have ea1:=bV! ea;have uM:=bV! he;obtain⟨FK,HQ⟩:=W1.ob;obtain⟨gx,kD⟩:=qu.ob;(have gi:DV H1 W.iq ao! (aw! io):=GA! (DV.k (k:=H! n) W1.iq) (FU! ((VJ!:DI).JJ=W.JJ)) vi);refine⟨_,rfl,t,_,4,N8!,rfl,rfl,FM fX,rfl,a,_,1,H? u,rfl,rfl,FM ea1,rfl,rfl,_,rfl,?_⟩;have wD:=off I.sd P6!;have wF:=off I.fd (y! P6!);have wG:=off I.cd (y! iE!);rcases kk with⟨u1,k1,k2⟩|⟨u1,k1,k2⟩;(.subst u1;refine Cd!;refine⟨_,rfl,p,CW,FK,_,_,rfl,HQ,TW.cl,TW.nI,L9 _,_,rfl,W.iq,_,rfl,gi,io,gx,_,rfl,kD,o6! K65F.a_,_,rfl,_,rfl,e,_,0,H? tick,rfl,rfl,FM uM,rfl,_,rfl,e,_,1,m? xs,rfl,rfl,FM uM,rfl,?_⟩;refine⟨io,I,s,tick,l! xs,rfl,qu,zf,zs,λH2 kY KC=>?_⟩;have W2:GZ! VJ!:=AO.off W1 (Q3! (KC b o eb (Qz! wD) (Qz! wF)));have kK:XT p W I H H2:=Sb! (KC b o he! n1 n2);obtain⟨GX,FE⟩:=W2.ob;refine lL!;by_cases c:eW! I.fs;(.rw[gu! c];refine Cd!;refine no! GX FE (Bw _ ZV) g n 2 _ W2 z1 z2 (λx L H3 W3 l3 aQ ex _ _=>?_);refine k2 c x L H3 W3 l3 (kY.keep (Zw! aQ)) (Sb! (aQ b o n4! hb)) ex);.rw[Nl! (M? c (by injection z))];refine Cb ⟨a!,DP!⟩;have s3:=N0! hx;exact k1 c x _ (W2.same s3) (kY.same s3) (Sb! (D8! n4!)) Ab);.rw[Nl! (M? u1 (by injection z))];refine At!;refine⟨_,rfl,p,CW,FK,_,_,rfl,HQ,TW.cl,TW.nI,L9 _,_,rfl,W.iq,_,rfl,gi,io,gx,_,rfl,kD,o6! K65F.a_,_,rfl,_,rfl,e,_,0,H? tick,rfl,rfl,FM uM,rfl,?_⟩;refine⟨io,I,s,tick,rfl,qu,zc,λH2 kY KC=>?_⟩;have W2:GZ! VJ!:=AO.off W1 (Q3! (KC b o eb (Qz! wG)));have kK:XT p W I H H2:=Sb! (KC b o he! n3);obtain⟨GX,FE⟩:=W2.ob;refine lL!;by_cases c:eW! I.cs;(.rw[gu! c];refine Cd!;obtain⟨m,f,cf,af,Sf,zm,fu,st,fi,z3,nf,k3⟩:=k2 c;have kt:=XT.CQ S SI kK;refine⟨_,rfl,p,GX,_,rfl,FE,Bw _ ZV,_,rfl,_,rfl,p,g,n,_,io,_,m,f,cf,af,Sf,rfl,W2,vi,kY,zm,fu,λj hj=>(st j hj).keep kt,fi,z1,z2,z3,nf,λx xf as ts L H3 fo W3 l3 eF th aQ ex _ _=>?_⟩;exact k3 x xf as ts L H3 fo W3 l3 eF th (kY.keep (Zw! aQ)) (Sb! (aQ b o n4! hb)) ex);.rw[Nl! (M? c (by injection z))];refine Cb ⟨a!,DP!⟩;have s3:=N0! hx;exact k1 c x _ (W2.same s3) (kY.same s3) (Sb! (D8! n4!)) Ab
inductive Th(vs:E!)(H:Hp)(Q:VK)(E:XK):Prop
 | mk (p:Addr) (h:Int) (W:DI) (q:Addr) (G:BV) (_:WL!) (_:ol) (_:Bx!) (_:VI!) (_:GR!) (_:W.JJ.length<=400) (_:(∀l∈W.JJ,l.1≠bb!)) (_:∀(io:Addr)(I:K65F.Iq)(L:o!)(H':Hp),Fs! { W with JJ:=YT!,c:=BE!,ls:=Dj! }->M_ H' W.c h (bb!) 1 L W.qs.length->K65F.FG H' io I->vI p W io I->(oc! (b=io) s?)->I.m=PE!->I.ss=[]->I.fs=[]->I.cs=[]->Fy!->W5! (bb!))
theorem dZ:I? [BX!,"h","n"] CL! Z2:={}
theorem Jgm(F:j! pu "World.ask" Z2)(T:Txt)(TW:Hs)(TI:Vn)(MH:Mr!)(nJ:Mk K CI fI)(FI:Lb! qt! O7 fI dI)(bI:Km! dI LQ!)(M1:pJ! f1 d1)(G1:mf! OJ! Gx):XP! CL! Th:=by
 have GH:SG!:=SM!;have GI:ID 1 fI dI LQ! (K65F.NK):=Pf! K65F.WY FI TI;have G1':ID 2 f1 d1 OJ! (Gx):=OX! G1;refine Co! dZ;obtain⟨p,h,W,q,G,rfl,S,i,z1,z2,z3,h1,k⟩:=h;refine Y!;have hu:=V?;have FV:ca:=k!;obtain⟨dx,hp⟩:=S.ob;refine Rs! SW! (Ke! 2 dZ.nd (Le! (s2! M7 T.len C?)) (Jk! (rX! L! (T8 nJ GI hr KG! TI.iU bI O! Cr (wP mk!))) (by! TW.cl M1.mt G1' hr M1.bd Cr (HN! Q! L! Af)) 2));refine uF! (N! ⟨q,G,i,?_⟩);refine⟨_,rfl,p,CW,dx,_,_,rfl,hp,TW.cl,TW.nI,L9 W,W.iq,_,rfl,S.iq,_,_,rfl,rfl,?_⟩;rw[Lg];refine pl! CW dx hp TW.cl TW.nH (Dq W) W.hs gv! (λio gx su gV sy=>?_);refine⟨io,gx,_,rfl,Ab,λH1 I iY A1 im is tQ ic n1 n2 n3=>IC!⟩;have s0:An! (upd (CG! gx CA! io) io (Sc CI gx [])):=o8! su gV
 have s1:An! H1:=np! iY s0 su;have FC:oc! (b=io) s?:=Q? (by rcases hb with rfl|rfl|rfl|rfl;(.exact su);(.exact C0 s0 n1);(.exact C0 s0 n2);.exact C0 s0 n3)
 have off:vI p W io I:=Q? (S.MX (FC b hb));have S1:=Qq!;obtain⟨FK,HQ⟩:=S1.ob;refine⟨_,rfl,p,CW,FK,_,_,rfl,HQ,TW.cl,TW.nI,L9 W,_,rfl,W.iq,_,rfl,iV! (Sum.inl (bb!)) S1.iq Td!,?_⟩;rw[U2 h1];obtain⟨W2,QB⟩:=S1.wb (l:=YT!);have A2:K65F.FG (rw! H1 W.iq YT!) io I:=A1.keep (Zw! QB);have bx:HG! (rw! H1 W.iq YT!):=eV! QB (v! s1 eb);generalize upd H1 W.iq (.dK (kvsOf (YT!)))=H2 at W2 QB A2 bx;obtain⟨GX,FE⟩:=W2.ob;refine no! GX FE (Bw _ ZV) h bb! 1 _ W2 z1 z2 (λx L H3 W3 l3 aQ _ _ _=>?_);refine t? (k io I L H3 W3 l3 (A2.keep (Zw! aQ)) off FC ?_ is tQ ic (eV! aQ (bx b o eb hb)));rw[im];simp
universe E
universe S
inductive Gb(vs:E!)(H:Hp)(Q:VK)(E:XK):Prop
 | mk (p:Addr) (n:Int) (W:DI) (l1 l2:o!) (t:Addr) (m s g:Int) (kind:Str) (v:V) (_:WM!) (_:ol) (_:W.ls=l1++(n,t)::l2) (_:gU! [R! m,re kind,R! s,R! g,v]) (_:∀H1,Vv! { W with ls:=NI! }->Ll!->((kind=Di!/\lV! Kz)\/(kind=pu/\lV! Fv)\/(kind=FO!/\lV! Ov)\/(kind=F7!/\lV! Fu)\/((Ht! Di!/\Ht! pu/\Ht! FO!/\Ht! F7!)/\Gw [Op,HJ!] H1 (λ_ H2=>∀r,AT H2 r->am r (so! r)) E)))
theorem Jgl(F:j! "deliver" "World.deliver" Ji)(TW:Hs)(TP:L4)(M1:DC K CP "taken" qn! K4 CU! f1 d1)(M2:B1! qo! qp! Io f2 d2)(G2:DR 3 f2 d2 AF! (Gw))(M3:B1! qq! qr! O1 f3 d3)(G3:DR 2 f3 d3 AF! (Kz))(M4:B1! q1! q2! G0 f4 d4)(G4:DR 3 f4 d4 AF! (Fv))(M5:B1! q3! q4! Ey f5 d5)(G5:DR 5 f5 d5 AF! (Ov))(M6:B1! q5! q7! Gz f6 d6)(G6:DR 3 f6 d6 AF! (Fu)):ID 6 f fd CU! (Gb):=by
 have G1:ID 1 f1 d1 CU! (V2):=Jbr M1.fn TP;have WK:ID 3 f2 d2 AF! (Gw):=OX! G2;have G3':ID 2 f3 d3 AF! (Kz):=OX! G3;have vW:ID 3 f4 d4 AF! (Fv):=OX! G4;have G5':ID 5 f5 d5 AF! (Ov):=OX! G5;have G6':ID 3 f6 d6 AF! (Fu):=OX! G6;refine yf F NQ (λvs H Q E h=>?_) (λDZ A outer s H vs Q E hr h=>?_);.obtain⟨p,n,W,l1,l2,t,m,s,g,kind,v,rfl,_⟩:=h;rfl
 .obtain⟨p,n,W,l1,l2,t,m,s,g,kind,v,rfl,S,el,et,k⟩:=h;have FV:ca:=k!;have IP:Lg!:=k!;have aW:WP 3:=k!;obtain⟨dx,hp⟩:=S.ob;obtain⟨FK,hq⟩:=S.po.ob;refine Nz! NQ.nd (oj! C? TP.cl FV fB!) (gf! NQ.nd (CK! L!) (oR! M3.mt G3' IP M3.bd) (Bs! (oR! M4.mt vW aW M4.bd) (oR! M5.mt G5' hr M5.bd) (Bs! (oR! M6.mt G6' aW M6.bd) (js! TW.cl M2.mt WK aW M2.bd L!) (TH! De Ae))));refine p0! dx hp (Em W) FK hq W.po W.pd W.c W.ls n S.po ?_;refine H! ⟨l1,l2,t,el,H1!⟩;obtain⟨W1,HK⟩:=S.IT S1 (EV! (BU! KW h2));have LB:=MQ!;obtain⟨GX,FE⟩:=W1.ob;refine ii! _ (gK! LB.BG et);have k2:=k H1 W1 HK;clear k;rcases k2 with⟨rfl,k⟩|⟨rfl,k⟩|⟨rfl,k⟩|⟨rfl,k⟩|⟨nk,k⟩;(.exact ko lh!);(.exact bE (ko lh!));(.exact bE (bE (ko lh!)));(.exact bE (bE (bE (ko lh!))));.refine bE (ne:=nk.1) (bE (ne:=nk.2.1) (bE (ne:=nk.2.2.1) (bE (ne:=nk.2.2.2) ⟨_,rfl,p,GX,_,rfl,FE,Bw _ ZV,_,rfl,?_⟩)));obtain⟨p',t',W',n',s',g',pL,tb,wt,q,G,G',e1,h1,h2,h3,h4,h5,h6⟩:=k;exact⟨p',t',W',n',s',g',pL,tb,wt,q,G,G',e1,h1,h2,h3,h4,h5,λH2 a1 a2=>⟨AZ!,h6 H2 a1 a2⟩⟩
universe E
def Cd(qs:x!):Int:=(qs.map λq=>q.2.AW).sum
theorem Mr:∀{l:x!} {i:Nat} {q r:Sp!},MA!->Cd YH!=Cd l-q.2.AW+r.2.AW
 | [],i,q,r,h=>Cu!
 | a::l,0,q,r,h=>by (have e:a=q:=x?);subst e;simp only[List.set_cons_zero,Cd,AI,CK];lia
 | a::l,i+1,q,r,h=>by have ih:=Mr (l:=l) (i:=i) (q:=q) (r:=r) (x?);simp only[List.set_cons_succ,Cd,AI,CK] at *;lia
def WE(qs:x!)(h:Nat):Int:=(qs[h]?.map λq=>q.2.AW).getD 0
theorem Ia:∀{qs:x!},(au! V5!)->BN! (Tl! qs.length (ZH! qs))=Cd qs
 | [],_=>by simp[Cd]
 | q::qs,nn=>by have ih:=Ia (qs:=qs) (ry! nn);rw[BO,List.range_succ_eq_map];simp only[AI,AQ,CK];(have e1:((λh=>(WE (q::qs) h).toNat) ∘ Nat.succ)=ZH! qs:=by funext h;simp[WE]);rw[e1];(have e2:WE (q::qs) 0=q.2.AW:=by simp[WE]);have:=nn q (AV!);rw[e2];show _=q.2.AW+Cd qs;lia
def pX(m:Nat)(mx:Nat->Nat):D!:=(List.range m).flatMap (G7! ((List.range (mx k)).map λj:Nat=>((CY!,EA!):T2)))
theorem Zo(m:Nat)(mx:Nat->Nat):(pX m mx).length=Qo! mx:=by simp_all [pX]
theorem Zt{f:Nat->Nat}:∀{l:BB!} {x:Nat},x∈l->dj! (f x)
 | y::l,x,h=>by rw[AI,CK];rcases ZM h with rfl|h;(.lia);.have:=Zt (f:=f) h;lia
def MJ(qs:x!)(t:T2):Prop:=∃(j:Nat)(q:Addr)(G:BV),tK!/\Vy!/\0<=t.2/\t.2<G.AW
theorem MJ.set{qs:x!}{i:Nat}{q:Addr}{G G':BV}{t:T2}(hi:w?)(md:G6!)(h:MJ qs t):MJ D4! t:=by
 obtain⟨j,r,M,e,h1,h2,h3⟩:=h;by_cases c:j=i;.subst c;rw[hi] at e;cases e;exact⟨j,q,G',Uo! EZ hi,h1,h2,A!⟩
 .exact⟨j,r,M,G! (ES (Ne.symm c)) e,h1,h2,h3⟩
theorem Lf{qs:x!}{l:D!}(nd:l.Nodup)(h:∀t∈l,MJ qs t)(m0:au! V5!):S? l.length<=Cd qs:=by
 have:=Fx (U:=pX qs.length (ZH! qs)) nd (h? (by obtain⟨j,r,M,e,h1,h2,h3⟩:=A6! h;have jl:j<qs.length:=AX! e;(have em:WE qs j=M.AW:=by unfold WE;rw[e];rfl);refine DS.mpr ⟨j,BI.mpr jl,KL! db! (BI.mpr (by show _<(WE qs j).toNat;rw[em];lia)) ?_⟩;exact Prod.ext h1.symm (M7! (BN! db!=t.2))))
 rw[Zo] at this;have e:=Ia m0;lia
def QG(G:BV)(t:T2):Prop:=Dc!\/Vh!
structure Mk(qs:x!)(ls:v?):Prop where
 has:VG! (∀t,EN!->MJ qs t)
 lt:A0! (MJ qs l.th)
theorem Mk.next{qs:x!}{ls NC:v?}{i:Nat}{q:Addr}{G G':BV}(x:Mk qs ls)(hi:w?)(md:G6!)(h1:gE! (EN!\/MJ D4! t))(h2:∀l∈NC,L6!\/MJ qs l.th):kP! Mk :=⟨λj r M e t ht=>by rcases Ca! with⟨_,e2,_⟩|⟨_,e⟩;(.subst e2;rcases A6! h1 with h|h;(.exact(x.has i q G hi t h).set hi md);.exact h);.exact(x.has j r M e t ht).set hi md,C2! (by rcases h2 l hl with h|h;(.exact(x.lt l h).set hi md);.exact h.set hi md)⟩
theorem Ok.dn{qs:x!}{i:Nat}{q:Addr}{G:BV}{ls:v?}{n k:Nat}(ok:Ok G k)(x:Mk qs ls)(hi:w?)(nu:LF!)(ob:Oz! (0<=t.2))(m0:au! V5!)(h:Cd qs<=n):f?:=by have a1:=n6! ok.hn (x.has i q G hi t (P? (P? ht)));have a2:=n6! ok.on ⟨i,q,G,hi,R? (ok.new t ht).1 nu,A6! ob,(ok.new t ht).2⟩;have a3:=n6! ok.rn (x.has i q G hi t (wp ht));rw[ZA] at a2 a3;refine⟨ok.hn,A!,ok.on,A!,ok.ke,ok.rn,A!,CE! (d? (OM! ok.ln)),ok.new,ok.hk,ok.lk,ok.rk⟩;have a4:=n6! (OM! ok.ln) (x.has i q G hi t (P? (y! (Gh! ht))));lia
def JA(H:Hp)(EF:o!)(y:So!):Vs!
 | .w l=>JZ H y.2 y.1 l.kind l.s l.g l.th l.x
 | .ask s g n u=>OU H y.2 y.1 pu s g n u
 | .IJ s g n u tick S=>OU H y.2 y.1 FO! s g n u/\∃e xs,(y.1,e)∈EF/\KT! e [R! tick,l! xs]/\XS K H xs S
 | .lt s g ts=>WQ H y.2 y.1 s g ts
theorem JA.keep(h:Yx!)(k:u?):JA H' EF y z:=by cases z with | w l=>exact JZ.keep h k | ask s g n u=>exact OU.keep h k | IJ s g n u tick S =>obtain⟨h1,e,xs,h2,h3,h4⟩:=h;exact⟨h1.keep k,e,xs,h2,Nv! h3,h4.keep k⟩ | lt s g ts=>exact WQ.keep h k
theorem JA.more(h:Yx!)(sb:∀e,(y.1,e)∈EF->(y.1,e)∈xZ):JA H xZ y z:=by cases z with | w l=>exact h | ask s g n u=>exact h | IJ s g n u tick S =>obtain⟨h1,e,xs,h2,h3,h4⟩:=h;exact⟨h1,e,xs,sb e h2,h3,h4⟩ | lt s g ts=>exact h
theorem Eg(x:CI! (JA H EF) ys al)(k:u?):CI! (JA H' EF) ys al:=P0! (r.keep k) x
structure Qy where
 n:Int
 io:Addr
 I:K65F.Iq
 fi:Gi!
 se:em!
def Dz(y:Qy):J!:=[y.io,y.I.sd,y.I.fd,y.I.cd]
theorem EU:b∈Dz y↔(b=y.io\/b=y.I.sd\/b=y.I.fd\/b=y.I.cd):=by simp[Dz]
structure S_(H:Hp)(m:Nat)(y:Qy):Prop where
 at_:K65F.FG H y.io y.I
 many:y.I.m=A4!
 fs:y.I.fs=y.fi.map (m9! be)
 cs:y.I.cs=y.se.map (m9! r.2)
 ss:DU! (λ(kv:Key×V)(r:Int×Int×HS)=>pU!) y.I.ss y.fi
universe S
variable {H H':Hp}{m:Nat}{y:Qy}
theorem S_.has(x:S_ H m y)(hb:b∈Dz y):∃o,Dt!/\(∀xs,o≠RL!)/\(∀xs,o≠.BF xs)/\(∀ob u,o≠Zf!):=by
 rcases EU.mp hb with rfl|rfl|rfl|rfl;.obtain⟨dx,e⟩:=x.at_.ob;exact oL! e
 .exact oL! x.at_.s
 .exact oL! x.at_.f
 .exact oL! x.at_.c
theorem S_.keep(x:S_ H m y)(k:XG! (b∈Dz y))(kt:u?):S_ H' m y :=⟨x.at_.keep λb hb o e=>k b o (EU.mpr hb) e,x.many,x.fs,x.cs,f6! (by obtain⟨a,e,s⟩:=h9;exact⟨a,e,s.keep kt⟩) x.ss⟩
universe E
def Kn(ns:d!):Vs!
 | .ask _ _ n u=>n∈ns/\(u=1\/u=2)
 | .IJ _ _ n u _ _=>n∈ns/\(u=1\/u=2)
 | _=>True
def YN(l:LT):Nat:=sB VD! 5 (sB O6! 1 2)
def dq(w:Nat):LL->Nat
 | .w l=>w*YN l
 | .ask _ _ _ u=>Od! 5 3
 | .IJ _ _ _ u _ _=>Od! 4 2
 | .lt _ _ _=>1
def F0(m:Nat)(y:Qy):Nat:=sB (y.fi.length<m) (3*y.fi.length) (if y.se.length<m then y.se.length else 0)
def E1(w:Nat)(al:M!):Nat:=(al.map (dq w)).sum
def Ju(m:Nat)(ys:F?):Nat:=(ys.map (F0 m)).sum
def lN(w m:Nat)(qs:x!)(al:M!)(ys:F?):Nat:=E1 w al+Ju m ys+w*Mg qs
def PB(m A B:Nat)(qs:x!)(al:M!)(ys:F?):Prop:=A<=lN 0 m qs al ys/\lN 1 m qs al ys<=B
theorem Dm(w9:Nat)(a b:M!):E1 w9 (SZ)=IL! a+IL! b:=by unfold E1;rw[ZF,LA]
theorem He(w9:Nat)(a b:M!)(z:LL):E1 w9 (a++z::b)=E1 w9 (SZ)+dq w9 z:=cd! Dm Dm (IL! a+(dq w9 z+IL! b)=_)
theorem Yv(w9:Nat)(ls:v?):E1 w9 (ls.map .w)=w9*k2!:=by induction ls with | nil=>simp[E1] | cons l ls ih =>show w9*YN l+E1 w9 (ls.map .w)=w9*(YN l+k2!);rw[ih,Nat.mul_add]
theorem Wm:∀al:M!,al.length<=E1 1 al
 | []=>AZ!
 | z::al=>by have ih:=Wm al;(have h:1<=dq 1 z:=by cases z with | w l=>show 1<=1*YN l;unfold YN;split<;>(try split)<;>decide | ask s g n u=>show 1<=Od! 5 3;split<;>decide | IJ s g n u t S=>show 1<=Od! 4 2;split<;>decide | lt s g ts=>exact ZG 1);show al.length+1<=dq 1 z+E1 1 al;lia
theorem Jgd{qs:x!}{i:Nat}{q:Addr}{G G':BV}(hi:w?):M8! (Mg D4!)=WU! (Mg qs):=We (r:=AD!) hi
theorem PB.next{m A B A' B':Nat}{qs:x!}{al al':M!}{ys:F?}{i:Nat}{q:Addr}{G G':BV}(x:PB m A B qs al ys)(hi:w?)(h0:A'=0\/E1 0 al+A'<=E1 0 al'+A)(h1:WU! (E1 1 al')+B<=M8! (E1 1 al)+B'):PB m A' B' D4! al' ys:=by have h2:=Jgd (G':=G') hi;obtain⟨x1,x2⟩:=x;unfold PB lN at *;refine GP! A!;rcases h0 with h0|h0<;>lia
structure WI(H:Hp)(p:Addr)(W:DI)(D:J?)(m n d A B:Nat)(al:M!)(ys:F?):Prop where
 wa:ol
 wg:Wg D m n W.share W.qs GF!
 md:Q5!<=n
 ob:∀(j:Nat) q G,CH! Wa!->Oz! (0<=t.2)
 m1:1<=m
 m5:m<=12
 lw:tB! W.ls al
 en:y? W.EF.map
 ec:∀e∈W.EF,e.1<=W.c
 ez:W.EF.length<=d
 fz:W.ED.length<=d
 ma:Mk W.qs (IE al)
 pb:PB m A B W.qs al ys
 iz:ys.length<=n
 iq:W.JJ=ys.map dg!
 j5:ys.map KB!=(List.range ys.length).map λ(j:Nat)=>S? j+1
 nd:DI! ys.flatMap Dz
 off:∀y∈ys,∀b∈Dz y,EF!
 at_:∀y∈ys,S_ H m y
 iv:∀y∈ys,PL m W.qs GF! al y.n y.fi y.se
 kn:M9! (Kn (ys.map KB!) z)
 ff:∀e∈W.ED,∃y∈ys,y.n=e.1/\y.se.length=m
 lt:∀s g ts,R7! g∈al->0<=g/\g<m/\∃F,N_ W.qs GF! F/\(∀t,F t->D t)/\X5! (F t) (t.1=g)
def Lz(p:Addr)(W:DI)(ys:F?)(H H':Hp):Prop:=OF! EF! (b∉ys.flatMap Dz) FA!
universe S
variable {p:Addr}{H H1:Hp}{W W':DI}{D:T2->Prop}{m n:Nat}{al al':List LL}{ys:List Qy}
theorem WI.same(x:Db)(s:An! H1):sx! H1 p A :={ x with wa:=x.wa.same s,lw:=Eg x.lw (FF s),at_:=λy hy=>(x.at_ y hy).keep (λb o _ e=>E9! s) (FF s) }
theorem WI.len(x:Db):W.ls.length=al.length/\al.length<=B:=by have h1:=L? x.lw;have h2:=Wm al;have h3:=x.pb.2;unfold lN at h3;lia
theorem WI.QS(x:Db)(hB:A9!):GR!:=by have:=x.len;lia
theorem WI.dn(x:WI H p W D m Fb! d A B al ys)(h:Q5!<=n)(hy:ys.length<=n):Db:=by
 have m0:∀q∈W.qs,V5!:=TD (by obtain⟨j,hj⟩:=C_.mp hq;exact(x.wg.wl.sd j q.1 q.2 hj).1.m0)
 refine{ x with wg:=⟨⟨x.wg.wl.len,x.wg.wl.lZ,λi q G e=>?_,x.wg.wl.ok,x.wg.wl.sum,x.wg.wl.sh⟩,x.wg.sD,x.wg.rc⟩,md:=h,iz:=hy };obtain⟨s,nu⟩:=x.wg.wl.sd i q G e;refine⟨⟨Ok.dn s.ok x.ma e nu (x.ob i q G e) m0 h,s.nn,s.ip,s.rk,s.ir,s.n0,s.n1,s.m0,?_⟩,nu⟩;have e2:=Ia m0;have:(WE W.qs i).toNat<=Tl! W.qs.length (ZH! W.qs):=Zt (f:=ZH! W.qs) (BI.mpr (AX! e));have em:WE W.qs i=G.AW:=by unfold WE;rw[e];rfl
 rw[em] at this;lia
theorem Vp{i:Nat}{q:Addr}{G G':BV}{c:Int}{Ls:o!}(hi:r9!)(nw:MU!):∀b∈Bv p (ct! Rd!),b∈KM!\/s?:=Q? (by rcases ZI hb with hb|hb;(.exact H! (ZB _ hb));.obtain⟨z,hz,hm⟩:=DD.mp hb;have hz:z∈Rd!:=hz;rcases NS hz with hz|rfl;(.exact H! (nB! (Cn! hm)));.have mq:=ZP hi;rcases hm with hm|hm;(.exact H! (nB! ⟨Ed!,mq,H! hm⟩));.rcases nw b hm with h|h;(.exact H! (nB! ⟨Ed!,mq,Bd!⟩));.exact Bd!)
theorem GC.wi(f:Ll!):Lz p W ys H H1:=λb o e h _=>BU! f h
theorem WI.ay(x:Db)(f:Ll!)(hy:y∈ys):S_ H1 m y:=(x.at_ y hy).keep (Dk! (BU! f (x.off y hy b hb))) (GC.CQ x.wa f)
theorem WI.vu(x:Db)(sub:∀b∈Qr!,b∈KM!\/s?):∀y∈ys,∀b∈Dz y,b∉Qr!:=λy hy b hb m=>by rcases sub b m with h|h;(.exact x.off y hy b hb h);.obtain⟨o,e,_⟩:=f9!;rw[e] at h;cases h
theorem WI.dA(x:Db){j:Nat}{q:Addr}{G G':BV}{c:Int}{Ls:o!}(hi:CH! Wa!)(W1:Vv! (ct! (NL! j AD!)))(wf:Ll!)(nw:MU!)(tk:UJ!)(md:G6!)(mk:eX!)(ou:lG!)(wg:lM! cv! (IE al'))(st:md! cv! (IE al'))(hA:∀n u,Cf al' n u=iH!)(hB:∀n u,B8 al' n u=QU! u)(lw:CI! (JA H1 W.EF) Ls al')(mk':Mk cv! (IE al'))(pb':PB m A' B' cv! al' ys)(hc:W.c<=c)(sub:∀z∈al',NA!\/∃l,z=.w l):WI H1 p (ct! (NL! j AD!)) D m Fb! GM! A' B' al' ys:=by
 have a1:=x.md;have a2:=x.ez;have a3:=x.fz;have a4:=x.iz;refine⟨W1,wg,?_,λj2 q2 G2 e2 t ht=>?_,x.m1,x.m5,lw,x.en,Ea! (Int.le_trans (x.ec e he) hc),xz (UN! (d+1)),do! (d+1),mk',pb',A!,x.iq,x.j5,x.nd,x.vu (Vp hi nw),λy hy=>x.ay wf hy,λy hy=>(x.iv y hy).dA hi tk md (hA y.n) (hB y.n) st,Ac!,x.ff,Sc! ?_⟩;.show Cd (W.qs.set j AD!)<=_;rw[Mr hi];show Q5!-G.AW+G'.AW<=BN! (n+1);lia
 .have e2:I8! ((W.qs.set j (q,G'))[j2]?) q2:=e2;rcases Cy e2 with⟨_,e3,_⟩|⟨_,e3⟩;(.rw[e3] at ht;rcases A6! ou with h|h;(.exact x.ob j q G hi t h);.exact h);.exact x.ob j2 q2 G2 e3 t ht
 .rcases B3! sub with h|⟨l,rfl⟩;(.exact x.kn z h);.trivial
 .rcases sub _ hz with h|⟨l,h⟩;(.obtain⟨g0,g1,F,sF,fD,ht⟩:=lI!;exact⟨g0,g1,F,st F sF,fD,ht⟩);.cases h
universe E
theorem Dl{as:S!}{bs:BA!}{cs:S!}{ds:BA!}(p:me!)(q:HK! cs ds):Paired R (as++cs) (bs++ds):=Qx p q
theorem D0{α β γ:Type}{f:β->γ}{R:wE α γ}{l:S!}{m:BA!}(p:DU! (λa b=>R a (f b)) l m):H8! R l m.map f:=Jhz (g:=f) (λ_ _ h=>h) p
theorem Jcg(h:Af!):hE! z? t IE!:=by unfold Ai;cases e:jg! with | none =>obtain⟨q,hq,e2⟩:=DS!;have:=nS!;simp[e2] at this | some q =>have:=DW e;have:z?:=BK this;rw[<-this];rfl
def nums(c:Int)(k:Nat):d!:=WY! k mB!
theorem Jh1(c:Int):[c+1]=nums c 1:=by unfold nums;simp
structure Nv(W W':DI)(fA L:o!):Prop where
 ls:W'.ls=fA++L
 nu:G? L.map=nums W.c L.length
 c:W'.c=W.c+S? L.length
structure Nw(W W':DI)(fA L:o!):Prop extends Nv W W' fA L where
 fi:Cv!
theorem Nv.zero{W W':DI}{fA:o!}(h:W'.ls=fA)(c:W'.c=W.c):Nv W W' fA []:=DO! (R? h AH) (BH! c)
theorem Nv.one{W W':DI}{fA:o!}{t:Addr}(h:W'.ls=fA++fp!)(c:W'.c=f8):Nv W W' fA fp!:=⟨h,Jh1 _,c⟩
def Fp(p:Addr)(W:DI)(ys:F?)(W':DI)(EL:F?)(H:Hp):Prop:=∀b,(b∈Qr!\/b∈EL.flatMap Dz)->b∈KM!\/b∈ys.flatMap Dz\/s?
theorem Zd{p:Addr}{W:DI}{ys:F?}{H:Hp}{i:Nat}{q:Addr}{G G':BV}{c:Int}{Ls:o!}(hi:r9!)(nw:MU!):Fp p W ys (ct! Rd!) ys H:=Q? (by rcases hb with h|h;(.rcases Vp hi nw b h with h|h;(.exact W?);.exact B4! h);.exact Wy!)
theorem Ve{p:Addr}{W W':DI}{ys i1 i2:F?}{y y':Qy}{H:Hp}(ey:ZI!)(qf:Dz y'=Dz y)(ew:Qr!=KM!):Fp p W ys W' (H2!) H:=Q? (by rcases hb with h|h;(.exact WO! ew h);.refine HV! ?_;rw[ey,CF,CJ,<-qf];rw[CF,CJ] at h;exact h)
def KT(p:Addr)(K:W.Frag)(W:DI)(m n d A' B':Nat)(ys:F?)(H:Hp)(Q:VK)(R:V->DI->M!->Dq! F?):Prop:=∀(v:V)(W':DI)(D':J?)(al':M!)(EL:F?)(H':Hp),R v W' al' EL H'->Fp p W ys W' EL H->WI H' p W' D' m Fb! GM! A' B' al' EL->j7!->NE->IG!
universe S
variable {p:Addr}{H H1:Hp}{W W':DI}{D:T2->Prop}{m n:Nat}{al:List LL}{ys:List Qy}{Q:VK}{E:XK}{h:Int}{q:Addr}{G G':BV}
theorem Jhf{a:Addr}(ha:LU!):tW! (BL (HE bL!)):=Q? (by rw[Je8] at hb;rcases ZI hb with hb|hb;(.exact H! hb);.rw[ZK hb];exact N! ha)
theorem Jce(ta:T2)(l:D!):BL { G with AS:=CM!,holds:=Im G.holds ta l }=BL G:=by unfold BL;show G.h::G.o::G.l::G.r::UQ! (Im G.holds ta l).map=_;rw[Jdd]
theorem Jkv(ok:f?):fc!:=G! ok.ke ok.on
theorem Jey{a:Addr}(h:QG (HE bL!) t):EN!\/Hy!:=by
 rcases h with(h|⟨r,hr,ht⟩)|h;.have h:LA!:=h;rcases ZI h with h|h;(.exact Yd! P?);.exact y! (x?)
 .have hr:r∈IZ!:=hr;rcases GV! with hr|hr;(.exact H! (P? (y! (Gh! ht))));·(have e:r=(ii,a,[]):=by simpa using hr);rw[e] at ht;cases ht
 .exact XF!
theorem Jez(hb:B8!)(h:QG (Hl G ta tb) t):EN!:=by
 rcases h with(h|⟨r,hr,ht⟩)|h;.exact gP!
 .rcases Mq hr with⟨_,e⟩|hr;(.rw[e] at ht;rcases FG! with h|h;(.exact P? (Of h));.rw[h];exact Fp! hb);.exact Nx! (Gh! ht)
 .exact Bd!
theorem Je0{l:D!}(hl:∀t∈l,EN!)(h:QG (HE { G with hand:=l }) t):EN!:=by
 rcases h with(h|h)|h;.exact hl t h
 .exact XF!
 .exact Bd!
theorem Jca(h:QG (Fa G R) t):EN!:=by
 rcases h with h|h;.exact H! (Xm h).1
 .exact y! (Hl! h)
theorem Jhd(h:QG (Nz G ts) t):EN!:=by
 rcases h with h|h;.exact H! (U0 h).1
 .exact y! (Hl! h)
theorem X4{X:BV}{rs:T!}(pm:rs.Perm X.AJ):(Bn X rs).length+(GO X).AJ.length<=X.AJ.length:=by have h1:(Bn X rs).length<=Vj! (λq=>! Fi! X):=Ln!;have h2:=(pm.filter λq=>! Fi! X).length_eq;have h3:=Lq (Sn! (Fi! X)) X.AJ;show _+o? X.AJ.filter (λq=>Fi! X)<=_;lia
theorem Oj{f:Cz!->LT}(hf:∀r,(f r).kind=Bm!):∀rs:T!,((rs.map f).map YN).sum=rs.length
 | []=>rfl
 | r::rs=>by have ih:=Oj hf rs;(have e:YN (f r)=1:=by unfold YN;rw[hf];rfl);show YN (f r)+((rs.map f).map YN).sum=rs.length+1;lia
theorem Su{G:BV}{rs bs:T!}{f:Cz!->LT}(hf:∀r,(f r).th=r.1)(pm:Cm!)(sub:∀z∈bs,z∈rs):∀l∈bs.map f,QG G l.th:=C2! (by obtain⟨r,hr,rfl⟩:=ZN hl;rw[hf];exact N! (BC (pm.mem_iff.mp (sub r hr))))
theorem WI.dF(x:Db)(i:Bx!)(W1:Vv! (KH! td!))(wf:Ll!)(nw:MU!)(tk:UJ!)(md:G6!)(mk:eX!)(ou:lG!)(wg:lM! ML! GF!)(hs:gE! (EN!\/MJ ML! t))(rl:G'.AJ=G.AJ)(cA:A'<=A)(cB:B<=B')(st:md! ML! GF!)(k:Df!)(v:V)(hr:∀W',Yc! [] AD! (R v W' al ys H1)):Q v H1 :=lT! v (KH! td!) al H1 (hr (KH! td!) (BY! (Nv.zero rfl rfl)) rfl) (Zd (c:=W.c) (Ls:=W.ls) i.2 nw) (x.dA (c:=W.c) (Ls:=W.ls) i.2 W1 wf nw tk md mk ou wg st UT! UT! (Eg x.lw (GC.CQ x.wa wf)) (x.ma.next i.2 md hs (C2! (H! hl))) (x.pb.next i.2 (wp C!) (DG! rl)) GC! ZJ!)
theorem Vh(x:Db)(hn:AJ!)(hB:A9!)(i:Bx!)(cA:A'<=A)(cB:B<=B')(k:Df!)(hR:∀t a W' H',p? t->k0! ii->Nw W W' W.ls []->rv! (q,QM!)->Jl! Kg! al):CR! N5 [Op,D7!]:=by
 obtain⟨s,nu⟩:=MS!;have z1:=s.ok.hz;have z2:=s.ok.oz;have z3:=s.ok.QS;refine⟨p,h,W,rfl,x.wa,N! ⟨q,G,i,q,G,rfl,i.at x.wa,A!,A!,A!,s.ok.fresh.1,s.ok.fresh.2.1,s.ok.fresh.2.2,λt a H1 ht ha et S1 KW=>?_⟩⟩;have gT:=Jhf (G:=G) ha;obtain⟨W1,HK⟩:=x.wa.step i.2 (G':=QM!) S1 KW gT;refine x.dF i W1 HK gT P9! P8! GC! II! (x.wg.make i.2 hn a) (C4! ((Jey ht).imp id Up!)) rfl cA cB (Vx i.2 nu a) k _ λW' c e=>hR t a W' H1 ht et c e;rotate_left;.exact⟨h.toNat,q,QM!,Uo! EZ i.2,Hs! nu,Hs! s.m0,OP! e (G.AW<Dz!)⟩
 have ht:t∈(G.AF++[((ii,0):Cz!)]).map (Ab!):=ht;rw[ZF] at ht;rcases DY! with h|h;.exact W?
 ·(have e:Hy!:=x?);rw[e];exact N! s.m0
theorem Vi(x:Db)(hn:AJ!)(hB:A9!)(i:Bx!)(ea:Tp! ta)(eb:AP!)(ha:bI!)(hb:B8!)(hh:ta.1=G.BR)(cA:A'<=A)(cB:B<=B')(k:Df!)(hR:∀v W' H',Yc! [] (q,Mq!) (Jl! v al)):CR! N6 [Op,D7!,Tk,Os]:=by obtain⟨s,nu⟩:=MS!;obtain⟨ad,fd⟩:=s.ok.find ha hh;have z1:=(s.ok.get ta).2.1;refine⟨p,h,_,_,W,rfl,x.wa,N! ⟨q,G,i,q,a,b,G,ta,tb,rfl,i.at x.wa,ea,eb,B4! ⟨ha,hb,hh,ad,_,fd,A!,H1!⟩⟩⟩;rw[Jbe (Jhr (i.at x.wa).nd) (Jkv s.ok) fd] at S1;have gT:tW! (BL (Hl G ta tb)):=Q? (WO! (Jce (G:=G) ta gX!) hb);obtain⟨W1,HK⟩:=x.wa.step i.2 (G':=Mq!) S1 KW gT;obtain⟨g1,g2⟩:=x.wg.hold i.2 (ta:=ta) hb;exact x.dF i W1 HK gT P9! GC! P8! W4! g1 (rH! (Jez hb ht)) rfl cA cB g2 k _ λ_ c e=>hR _ _ _ c e
theorem Jaq(x:Db)(hn:AJ!)(hB:A9!)(i:Bx!)(eb:AP!)(hb:B8!)(cA:A'<=A)(cB:B<=B')(k:Df!)(hR:∀v W' H',Yc! [] (q,Je G tb) (Jl! v al)):CR! N8 [Op,D7!,Os]:=by refine⟨p,h,_,W,rfl,x.wa,N! ⟨q,G,i,q,b,G,tb,rfl,i.at x.wa,eb,c? hb H1!⟩⟩;have gT:tW! (BL (Je G tb)):=Q? (H! hb);obtain⟨W1,HK⟩:=x.wa.step i.2 (G':=Je G tb) S1 KW gT;obtain⟨g1,g2⟩:=x.wg.free i.2 tb;exact x.dF i W1 HK gT P9! GC! P8! W4! g1 (rH! (Je0 (λu hu=>Fp! (PP! hu)) ht)) rfl cA cB g2 k _ λ_ c e=>hR _ _ _ c e
theorem WI.oA(x:Db)(i:Bx!){c:Int}{L:o!}{ls:v?}(W1:Vv! (O8! Dj!))(wf:Ll!)(nw:MU!)(tk:UJ!)(md:G6!)(mk:eX!)(ou:lG!)(wg:lM! ML! (IE al++ls))(st:md! ML! (IE al++ls))(hs:gE! EN!)(lm:A0! (QG G l.th))(cA:A'<=A)(cB:WU! k2!+B<=G.AJ.length+B')(hc:W.c<=c)(nu:G? L.map=nums W.c L.length)(ec:c=W.c+S? L.length)(lw:DU! (λ(y:Int×Addr) (l:LT)=>JZ H1 y.2 y.1 l.kind l.s l.g l.th l.x) L ls)(k:Df!)(v:V)(hr:∀W',Yc! L AD! (R v W' (al++Jq!) ys H1)):Q v H1:=by
 have e:IE (al++Jq!)=IE al++ls:=R? Di vT
 refine lT! v (O8! Dj!) (al++Jq!) H1 (hr (O8! Dj!) (BY! (Bu! nu ec)) rfl) (Zd i.2 nw) (x.dA (al':=al++Jq!) i.2 W1 wf nw tk md mk ou (bJ! wg) (bJ! st) (λn u=>Ig! Bz (Mo ls n u).1) (λn u=>Ig! Bt (Mo ls n u).2) (Dl (Eg x.lw (GC.CQ x.wa wf)) (D0 (f:=LL.w) (R:=JA H1 W.EF) lw)) ?_ ?_ hc Ac!);.rw[e];refine x.ma.next i.2 md (hG! hs) Il!;rcases ZI hl with h|h;(.exact W?);.exact y! (x.ma.has _ q G i.2 _ (lm l h))
 .refine x.pb.next i.2 (wp ?_) ?_;(.rw[Dm];lia);.rw[Dm,Yv];lia
 .rcases As! with h|h;(.exact W?);.obtain⟨l,_,rfl⟩:=DS!;exact Ph! l
theorem Jap(x:Db)(hn:AJ!)(hB:A9!)(i:Bx!){g:Int}(g0:0<=g)(g1:g<m){b:Addr}{tb:T2}(eb:AP!)(hb:B8!)(near:O0!)(cA:A'<=A)(cB:B+5<=B')(k:Df!)(hR:∀W' t H',Yc! fp! (q,Jv G tb (Fo! G.AF+W.share)) (Jl! (dj Ko!) (al++[.w ⟨SL,h,g,tb,W.share⟩]))):CR! Jg [Op,D7!,R! g,Os]:=by
 obtain⟨s,nu⟩:=MS!;have z1:=s.ok.oz;have z2:=s.ok.rz;have z3:=MR!;have hN:BN! h.toNat=h:=BW i.1;have ig:∃q2 G2,JV W g q2 G2:=by obtain⟨y,hy⟩:=nt!;exact⟨y.1,y.2,g0,hy⟩
 refine⟨p,b,h,g,W,tb,q,G,rfl,x.wa,eb,i,ig,A!,A!,A!,?_⟩;have ho:=s.ok.hk tb hb near;refine HV! ⟨hb,near,_,Jcg ho,BD.mpr Ac!,λt H1 W1 l1 HK=>?_⟩;.have:=s.ok.rk z.1 (AG.mpr (Cn! rfl));have:¬z.1=tb:=λe=>this (Hs! near);simpa using this
 obtain⟨wg,st⟩:=x.wg.TL i.2 hb near g0 g1;rw[hN] at wg st;exact x.oA (G':=Jv G tb (Fo! G.AF+W.share)) i W1 HK (Q? (H! hb)) P9! GC! P8! (C4! (Ad! (by rcases Lv! with h|h;(.rw[h];exact ho);.exact h))) wg st (λt h=>h) (C2! (G! (ZK hl) (Fp! hb))) cA (TD! (M8! 2+B<=_)) C! (Jh1 _) rfl (iP! l1) k _ λ_ c e=>hR _ _ _ c e
theorem Nk{p:GN! T2}:∀{l:HL},p t=true->Ck (l.filter λq=>p q.1) t=Ck l t
 | [],_=>rfl
 | a::l,hp=>by have ih:=Nk (l:=l) hp;unfold Ck at *;by_cases h:Ix p a.1;(.rw[List.filter_cons_of_pos (x?)];simp only[BU];by_cases e:a.1=t;(.simp[e]);.simp only[e,decide_false];exact ih);.rw[List.filter_cons_of_neg (x?)];have e:¬a.1=t:=M? h (K1! hp);simp only[BU,e,decide_false];exact ih
theorem Xv(x:Db)(hn:AJ!)(hB:A9!)(i:Bx!)(cA:A'<=A)(cB:B<=B')(k:Df!)(hR:∀v W' kk R' (rs:T!) H' L,LC (OL G.holds) kk (startT G) [] R'->Cm!->Nw W W' W.ls L->rv! (q,Fa G R')->Jl! v (al++Bw! (Bn (keepR G R') rs).map (λr=>(⟨Bm!,h,r.1.1,r.1,r.2⟩:LT)) .w)):CR! Il [Op,D7!]:=by
 obtain⟨s,nu⟩:=MS!;have z3:=MR!;have hN:BN! h.toNat=h:=BW i.1;obtain⟨hs,os,rs,KS⟩:=(x.wg.wl.good C! i.2).told;obtain⟨kk,R,hk,rc⟩:=FX.LC.ofN s.ok C!;have zb:(Bn FS rs).length<=60:=by have h1:(Bn FS rs).length<=Vj! XX!:=Ln!;have h2:=AN (Sn! (! Fi! FS)) rs;have h3:=KS.pr.length_eq;have h4:=s.ok.rz;lia
 refine⟨p,h,W,q,G,n,kk,rs,R,rfl,x.wa,i,s.ok,A!,h? (s.ip t (P? ht)).1,λz hz t ht=>(s.ip t (y! (Cn! ht))).1,KS.pr,KS.wr,rc,hk,FX.Ok.clean s.ok rc,zb,A!,λy L H1 W1 bk HK k8 k6 ey=>?_⟩;obtain⟨wg,st⟩:=x.wg.clean i.2 rc KS.pr;rw[hN] at wg st;exact x.oA (G':=Fa G R) i W1 HK (hh! Ki) P9! GC! P8! km! wg st (λt=>Jca) (Su US! KS.pr (AC (Fe! (Fe! hz)))) cA (by rw[Oj (EZ!)];have:=X4 (X:=YG!) KS.pr;show _+(GO FS).AJ.length+B<=_;have e:(keepR G R).AJ.length=G.AJ.length:=rfl;lia) C! (YE! fN! bk.BR) (KD! fN!) (D0 bk.LF) k _ λ_ c e=>hR _ _ kk R rs _ _ rc KS.pr c e
universe E
theorem Jc2{l1:o!}{al:M!}(h:HK! (l1++y::l2) al):∃(a:M!)(z:LL)(b:M!),g5!/\HK! l1 a/\R y z/\HK! l2 b:=by induction l1 generalizing al with | nil=>(cases h with|cons r pr=>exact⟨[],_,_,rfl,O!,r,pr⟩) | cons x l1 ih=>cases h with | cons r pr =>obtain⟨a,z,b,e,p1,p2,p3⟩:=ih pr;subst e;exact⟨_::a,z,b,rfl,q! r p1,p2,p3⟩
universe S
theorem mN{l:x!}{j:Nat}{q:Addr}{G G':BV}(hi:CH! (l[j]?))(e:cb!):Cd (l.set j AD!)=Cd l:=OP! (Mr hi) (Cd l-G.AW+G'.AW=_)
theorem Ok.sz(ok:f?)(hn:AJ!):Sz G:=by grind [Ok,Sz]
theorem WI.got(x:Db)(i:Bx!)(es:g5!)(p1:Ry!)(p3:Rz!)(W1:Vv! (O8! E5!))(wf:Ll!)(nw:MU!)(tk:UJ!)(md:G6!)(mk:eX!)(ou:lG!)(wg:lM! ML! (XS!++ls))(st:md! ML! (XS!++ls))(hc:W.c<=c)(nu:G? L.map=nums W.c L.length)(ec:c=W.c+S? L.length)(lw:DU! (λ(y:Int×Addr) (l:LT)=>JZ H1 y.2 y.1 l.kind l.s l.g l.th l.x) L ls)(mu:∀n u,Zi n u z=none/\kh n u z=none)(hs:gE! (EN!\/MJ W.qs t))(lm:A0! (MJ W.qs l.th))(z0:dq 0 z<=1)(cw:WU! k2!+1<=M8! (dq 1 z))(cA:Rn!)(cB:Mi!)(k:Df!)(v:V)(hr:∀W',hQ! L->rv! AD!->R v W' (SZ++Jq!) ys H1):Q v H1:=by
 have e:IE (SZ++Jq!)=XS!++ls:=R? Di vT
 have kt:=Ep! x.wa wf;refine lT! v (O8! E5!) (SZ++Jq!) H1 (hr (O8! E5!) (BY! (Bu! nu ec)) rfl) (Zd i.2 nw) (x.dA (al':=SZ++Jq!) i.2 W1 wf nw tk md mk ou (bJ! wg) (bJ! st) (λn u=>?_) (λn u=>?_) (Dl (Dl (Eg p1 kt) (Eg p3 kt)) (D0 (f:=LL.w) (R:=JA H1 W.EF) lw)) ?_ ?_ hc Ac!);.rw[Bz,(Mo ls n u).1,AH,es,Bz,Bz,Ft,(mu n u).1];rfl
 .rw[Bt,(Mo ls n u).2,AH,es,Bt,Bt,Eh,(mu n u).2];rfl
 .rw[e];refine x.ma.next i.2 md (C4! ((hs t ht).imp id λh=>h.set i.2 md)) Il!;rcases ZI hl with h|h;(.refine PI!;rw[es,Di];rw[Di] at h;rcases ZI h with h|h;(.exact B0!);.refine Bt! ?_;show l∈(z::b).filterMap pW;rw[GA];cases pW z with | none=>exact h | some _=>exact ZD _ h);.exact N! (lm l h)
 .have e0:=He 0 a b z;have e1:=He 1 a b z;rw[<-es] at e0 e1;refine x.pb.next i.2 ?_ ?_;(.rw[Dm,Yv];lia);.rw[Dm,Yv];lia
 .rcases As! with h|h;(.refine PI!;rw[es];rcases ZI h with h|h;(.exact B0!);.exact MO!);.obtain⟨l,_,rfl⟩:=DS!;exact Ph! l
theorem Jh8(es:Gj! (LL.w l)):IE al=IE a++l::IE b:=Cx! es Di
theorem Jmt(ok:K_ g0 l)(e:l.kind=kind)(np:kind≠Di!):Ht! Di!/\Ht! pu/\Ht! FO!/\Ht! F7!:=by
 obtain⟨_,_,_,kk⟩:=ok;rw[e] at kk;rcases kk with⟨e,_⟩|⟨e,_⟩|⟨e,_⟩|⟨e,_⟩;.rw[e];exact⟨ZV,ZV,ZV,ZV⟩
 .rw[e];exact⟨ZV,ZV,ZV,ZV⟩
 .rw[e];exact⟨ZV,ZV,ZV,ZV⟩
 .exact LY! np
theorem Wt.has(w9:RF! x)(h:QG G' t):EN!\/CF!:=by
 have hd:∀{M:BV},(t∈B4 M.hand tb->t∈M.hand\/CF!):=λh=>DL.mp h;rcases w9 with⟨_,⟨_,o,_,rfl⟩|⟨_,rfl⟩⟩|⟨_,rfl⟩|⟨_,rfl⟩;.rcases h with(h|h)|h;(.rcases hd h with h|h;(.exact Yd! P?);.exact Bd!);(.exact Yd! y!);.exact XF!
 .rcases h with(h|h)|h;(.rcases hd h with h|h;(.exact Yd! P?);.exact Bd!);(.exact Yd! y!);.rcases tT! t h with h|h;(.exact Bd!);.exact XF!
 .rcases h with h|h;(.exact gP!);.rcases tT! t h with h|h;(.exact Bd!);.exact XF!
 .exact W?
theorem Wt.cost(w9:RF! x):(WU! (([]:v?).map YN).sum+1:Nat)<=M8! (dq 1 (.w ⟨kind,s,g,tb,x⟩)):=by
 rcases w9 with⟨rfl,⟨_,o,_,rfl⟩|⟨_,rfl⟩⟩|⟨rfl,rfl⟩|⟨rfl,rfl⟩;.show k6! (M8! 0) 2;lia
 .have:=Jn G.AJ tb (VH!);show k6! (0+(Bh G.AJ tb (VH!)).length) 2;lia
 .have:=Jn G.AJ tb (VH!);show k6! (0+(Bh G.AJ tb (VH!)).length) 2;lia
 .show k6! (M8! 0) 1;lia
theorem Sg(x:Db)(hn:AJ!)(hB:A9!)(el:Ra!)(es:Gj! (LL.w l))(p1:Ry!)(p2:m4! (.w l))(p3:Rz!)(cA:Rn!)(cB:Mi!)(k:Df!)(np:VE!)(hR:∀y W' q G G' H',hQ! []->CH! (W.qs[l.g.toNat]?)->oS!->HI! l.g.toNat AD!->Jl! LN! DF!):Zh!:=by
 have z3:=MR!;have ew:=Jh8 es;have hl:l∈IE al:=tY! ew
 have lok:=x.wg.wl.ok _ hl;obtain⟨kind,sn,g,th,xx⟩:=l;obtain⟨g0,g1,ib,kk⟩:=lok;have g0:0<=g:=g0;have g1:g<m:=g1;obtain⟨⟨q,G⟩,hi⟩:=nt!;have i:Pz!:=⟨g0,hi⟩;obtain⟨s,nu⟩:=MS!;have bW:mV!:=pE!
 have p2:JZ H t BR kind sn g th xx:=p2;obtain⟨a0,b0,et,_⟩:=id p2;refine p5! sn kind;have LB:=ha!;have mu:∀n u,Zi n u (.w ⟨kind,sn,g,th,xx⟩)=none/\kh n u (.w ⟨kind,sn,g,th,xx⟩)=none:=λ_ _=>DL!;have hp:Ht! Di!:=np;obtain⟨G',wt,wg,st⟩:=x.wg.wt ew hp hi;rw[<-Di] at wg st;have wt:Wt kind G th xx G':=wt;refine B4! (bt! ⟨Jmt (x.wg.wl.ok _ hl) rfl hp,p,t,_,BR,sn,g,kind,th,xx,q,G,G',rfl,W1,p2.keep LB,i,wt,Ok.sz s.ok hn,λH2 W2 QB r hr=>?_⟩);have s3:=N0! hr;obtain⟨_,_,h3,_,h5,_,h6,_⟩:=wt.ZQ;have W2:GZ! { W with qs:=V4! AD!,c:=W.c,ls:=NI!++[] }:=G! AH W2
 exact x.got i (ls:=[]) es p1 p3 (W2.same s3) (Cw! (D8! (QB b o sL! hb))) (Q? (WO! wt.BL hb)) C! C! C! (hG! h6) (P! AH wg) (P! AH st) GC! rfl XV O! mu (C4! ((wt.has ht).imp id λe=>Hs! (x.ma.lt _ hl))) (λ_ h=>DQ!) (TD! (0*_<=1)) wt.cost cA cB k _ λ_ c e=>by{ rw[EY,AH];exact hR r _ q G G' _ c hi wt e }
theorem Jjk(x:Db)(hn:AJ!)(hB:A9!)(el:Ra!)(es:Gj! (R7! g))(p1:Ry!)(p2:m4! (.lt s g ts))(p3:Rz!)(cA:Rn!)(cB:Mi!)(k:Df!)(hR:∀y L W' H' q G hs os rs,Pe!->Gm!->hQ! L->HI! g.toNat (q,Nz G ts)->tP! y (λz=>H? z.1)->Jl! LN! (SZ++Bw! (Bn q? rs).map (λr=>(⟨Bm!,g,r.1.1,r.1,r.2⟩:LT)) .w)):Zh!:=by
 have z3:=MR!;have ew:IE al=XS!:=G9! es Di Di
 obtain⟨g0,g1,F,sF,fD,ht⟩:=x.lt s g ts XE!;obtain⟨⟨q,G⟩,hi⟩:=nt!;have i:Pz!:=⟨g0,hi⟩;obtain⟨sd,nu⟩:=MS!;have hN:BN! g.toNat=g:=Jc!;have bW:mV!:=pE!
 have p2:le! BR:=p2;obtain⟨a0,as0,et,_⟩:=id p2;refine p5! s F7!;have LB:=ha!;refine B4! (ar! IC!);obtain⟨hs,os,rs,KS⟩:=(x.wg.wl.good C! i.2).told;obtain⟨wg,st,qA⟩:=x.wg.wU i.2 sF fD (P! hN ht) KS.pr;rw[hN,ew] at wg st;have zb:(Bn q? rs).length<=60:=by have h1:(Bn q? rs).length<=Vj! hd!:=Ln!;have h2:=AN (Sn! (! Fi! q?)) rs;have h3:=KS.pr.length_eq;have h4:=sd.ok.rz;lia
 refine⟨p,t,_,BR,s,g,ts,q,G,n,rs,rfl,W1,p2.keep LB,i,sd.ok,A!,h? (sd.ip t (P? ht)).1,λz hz t ht=>(sd.ip t (y! (Cn! ht))).1,KS.pr,KS.wr,qA,zb,bW,λy L H2 W2 bk QB k8 k6 ey=>?_⟩;exact x.got (G':=Nz G ts) i es p1 p3 W2 (Cw! (QB b o sL! hb)) (hh! Qh) P9! GC! P8! km! wg (P! ew st) (TD! (W.c<=W.c+_)) (YE! fN! bk.BR) (KD! fN!) (D0 bk.LF) (λ_ _=>DL!) (C4! (P? (Jhd ht))) (λl h=>x.ma.has _ q G i.2 _ (Su US! KS.pr (AC (Fe! (Fe! hz))) l h)) (ZG 1) (by rw[Oj (EZ!)];have:=X4 (X:=Am G ts) KS.pr;show _+(GO q?).AJ.length+1<=1+_;have e:(Am G ts).AJ.length=G.AJ.length:=rfl;lia) cA cB k _ λ_ c e=>hR _ _ _ _ _ _ hs os rs i.2 KS c e ey
universe E
theorem Jel:∀{l:BM! (T2×α)},V1!->∀{a b:T2×α},a∈l->b∈l->Y7!->a=b
 | [],_,a,b,ha,_,_=>sw ha
 | c::l,nd,a,b,ha,hb,e=>by rw[AI] at nd;obtain⟨n1,n2⟩:=Bg!;rcases ZM ha with ha|ha;(.rcases FE! with hb|hb;(.rw[ha,hb]);.exact gc! ⟨b,hb,d1! ha⟩ n1);.rcases FE! with hb|hb;(.exact gc! ⟨a,ha,R? e hb⟩ n1);.exact Jel n2 ha hb e
universe S
variable {G:BV}{hs:List T2}{os:List (T2×Int×List T2)}{rs:List (T2×Int)}{n:Nat}
theorem Told.pF(t:Gm!)(ok:f?):Sv G GH!:=by
 have kn:fc!:=Jkv ok;refine⟨λu hu=>t.pm.mem_iff.mpr hu,Ii!,CE! JE!,λr hr q hq e u hu=>?_,λu=>?_,λu hu=>t.pm.mem_iff.mp hu,λr hr u hu=>?_⟩;.obtain⟨r,hr,e⟩:=ZN (t.XC.pm.mem_iff.mpr hu);exact Gh! e
 .exact F2! t.XC.pm.mem_iff.mp (Gh! rfl)
 .unfold Ai;rw[OM! t.XC.at_];rfl
 .obtain⟨_,a,hl,f,_,pm,_⟩:=t.XC.at_ r hr;refine pm.mem_iff.mpr ?_;have f2:=DW f;have m2:=A_ f;(have:q=(r.1,a,hl):=by have h1:q.1=(r.1,a,hl).1:=e;exact Jel kn hq m2 h1);rw[this] at hu;exact hu
 .have nd:V2!:=c1! t.pr.map ok.rn;show Ht u rs=_;rw[Vu nd,Qe t.pr ok.rn]
 .obtain⟨_,a,hl,f,_,pm,_⟩:=t.XC.at_ r hr;unfold Ck;rw[f];exact pm.mem_iff.mp hu
theorem Told.pk(t:Gm!)(ok:f?)(hn:n<=60)(ob:Oz! (0<=t.2)):nA G.BR GH!/\∀w9∈os,w9.1.2<G.AW:=by
 have h1:=t.pm.length_eq;have h2:=t.pr.length_eq;have z1:=ok.hz;have z2:=ok.rz;have key:∀w9∈os,w9.1∈CO!:=λw9 hw=>F2! t.XC.pm.mem_iff.mp (GO! w9 hw);refine⟨⟨?_,xz (hs.length<=60),xz (rs.length<=60),λw9 hw=>Go (ok.new w9.1 (key w9 hw)).1 (ob _ (key w9 hw))⟩,λw9 hw=>(ok.new w9.1 (key w9 hw)).2⟩;.exact t.XC.pm.nodup_iff.mpr ok.on
 .obtain⟨_,a,hl,f,_,pm,_⟩:=t.XC.at_ w9 hw;have:=(ok.ln _ (A_ f)).2;have:=pm.length_eq;(have e:hl.length<=n:=iu!);lia
theorem Told.tells(t:Gm!)(ok:f?)(hn:n<=60):Tells G hs os rs:=by have z1:=ok.hz;have z2:=ok.rz;have z3:=ok.oz;exact⟨A!,A!,A!,t.pm,t.pw,t.XC,t.pr,t.wr⟩
universe E
theorem Jak(kn:M9! (Kn ns z))(h:n∉ns)(u:Int):MD! u/\ME! u:=by
 refine⟨FO.mpr Ac!,FO.mpr Ac!⟩;.have k:=B3! kn;cases z with | ask s g n' u'=>exact AD (M? h (N? z.1 k.1)) | w l=>rfl | IJ s g n' u' tk S=>rfl | lt s g ts=>rfl
 .have k:=B3! kn;cases z with | IJ s g n' u' tk S=>exact AD (M? h (N? z.1 k.1)) | w l=>rfl | ask s g n' u'=>rfl | lt s g ts=>rfl
universe S
theorem PL.xn(x:Jv!)(hu:u=1\/u=2)(h:g∈iH!):0<=g/\g<m:=by
 rcases hu with rfl|rfl;.exact NM.mp (x.t1.mem_iff.mp (k4! h))
 .rcases x.t2 with⟨_,e,_⟩|⟨_,pm⟩;(.rw[e] at h;cases h);.exact NM.mp (pm.mem_iff.mp (k4! h))
universe E
theorem Wg.up(x:B6!):Sz! Wg D Fb!:=⟨x.wl.up,x.sD,x.rc⟩
universe S
theorem PB.same{qs:x!}{ys EL:F?}(x:PB m A B qs al ys)(h0:A'=0\/E1 0 al+Ju m ys+A'<=E1 0 al'+Ju m EL+A)(h1:E1 1 al'+Ju m EL+B<=E1 1 al+Ju m ys+B'):PB m A' B' qs al' EL:=by obtain⟨x1,x2⟩:=x;unfold PB lN at *;refine GP! A!;rcases h0 with h0|h0<;>lia
theorem Ro(w9 m:Nat)(g n u:Int):IL! (C7 m g n u)=m*go! 5 3:=by
 unfold E1 C7;rw[AQ];have h:∀l:BB!,b6! (λ_=>Od! 5 3)=l.length*go! 5 3:=λl=>by induction l with | nil=>rw[BX,Nat.zero_mul];rfl | cons _ l ih=>rw[AI,CK,ih,BO,Nat.succ_mul,Nat.add_comm]
 exact(h (List.range m)).trans (KD! CB)
theorem K9(m:Nat)(a b:F?):Ju m (SZ)=Ju m a+Ju m b:=by unfold Ju;rw[ZF,LA]
theorem Xw(x:Db)(hn:AJ!)(hB:A9!)(hd:d<900)(el:Ra!)(es:Gj! (jo! n'))(p1:Ry!)(p2:m4! ou!)(p3:Rz!)(cA:Rn!)(cB:Mi!)(k:Df!)(hR:∀y L W' H' q G hs os rs,Pe!->Gm!->hQ! L->NB!->tP! y (λz=>H? z.1)->Jl! LN! (SZ++[nF!])):Zh!:=by
 have z3:=MR!;have z4:=x.ez;have hz:jo! n'∈al:=Q7!
 obtain⟨k1,ku⟩:=x.kn _ hz;obtain⟨y0,qL,mV⟩:=ZN k1;have mg:g∈Cf al n' u:=CV.mpr (Az! hz e6!);obtain⟨g0,g1⟩:=(x.iv y0 qL).xn ku (P! mV mg);obtain⟨⟨q,G⟩,hi⟩:=nt!;have i:Pz!:=⟨g0,hi⟩;obtain⟨sd,nu⟩:=MS!;have hN:BN! g.toNat=g:=Jc!;have bW:mV!:=pE!
 have p2:R9! BR pu n':=p2;obtain⟨a0,et,_⟩:=id p2;refine p5! s pu;have LB:=ha!;refine HV! IC!;obtain⟨hs,os,rs,KS⟩:=(x.wg.wl.good C! i.2).told;refine⟨p,t,_,BR,s,g,n',u,q,G,hs,os,rs,rfl,W1,p2.keep LB,i,KS.tells sd.ok C!,bW,xz (UN! 900),Ea! (by have:=x.ec e he;show e.1≠f8;lia),λy t1 e xs H2 W2 al2 he st QB eyl _ _=>?_⟩;have wf:HG! H2:=Cw! (QB b o sL! hb);have kt:=Ep! x.wa wf;have ew:IE (L9! nF!)=IE al:=by rw[es,Di,Di,Di];show _++_++[]=_;rw[AH];rfl
 have mo:∀{L:o!} {c:M!},tB! L c->CI! (JA H2 (Nf!)) L c:=λpp=>P0! ((r.keep kt).more (Ea! (j? he))) pp;have c8:∀z∈L9! (LL.IJ g s n' u G.AS GH!),NA!\/z=LL.IJ g s n' u G.AS GH!:=AC (by rcases As! with h|h;(.refine PI!;rw[es];rcases ZI h with h|h;(.exact B0!);.exact MO!);.exact y! (ZK h))
 obtain⟨pk,nw⟩:=KS.pk sd.ok C! (x.ob _ _ _ hi);rw[nu,hN] at pk;have a1:=x.md;have a3:=x.fz;have a4:=x.iz;refine lT! LN! (ZK! (NI!++[(f8,t1)])) (SZ++[nF!]) H2 (hR y [(f8,t1)] (ZK! (NI!++[(f8,t1)])) _ q G hs os rs hi KS (BY! (Nv.one rfl rfl)) rfl eyl) (Q? (hb.elim P? λh=>Wy!)) ⟨W2,Ok! x.wg.up,xz (Q5!<=_),x.ob,x.m1,x.m5,?_,?_,?_,?_,do! (d+1),Ok! x.ma,?_,A!,x.iq,x.j5,x.nd,x.off,λy hy=>x.ay wf hy,If!,Ac!,x.ff,Sc! ?_⟩;.exact T8! Dl (Dl (mo p1) (mo p3)) ⟨al2,e,xs,Bt! e1!,he,st⟩
 .show JC! Nf!;rw[ZF];refine jn! x.en ?_;obtain⟨w9,hw,ew⟩:=ZN hu;have:=x.ec w9 hw;have hv:v=f8:=ZK hv;lia
 .intro w9 hw;have hw:w9∈Nf!:=hw;show w9.1<=f8;rcases ZI hw with hw|hw;(.have:=x.ec w9 hw;lia);.rw[ZK hw];exact AL!
 .show(Nf!).length<=d+1;rw[ZE];show W.EF.length+1<=d+1;lia
 .have e0:=He 0 a b ou!;have e1:=He 1 a b ou!;rw[<-es] at e0 e1;(have pa:∀w9,dq w9 ou!=IL! [nF!]+1:=λw9=>by show go! 5 3=go! 4 2+0+1;split<;>rfl);rw[pa] at e0 e1;refine x.pb.same ?_ ?_;(.rw[Dm];lia);.rw[Dm];lia
 .rw[ew];exact(x.iv y hy).asked es g0 hi rfl (KS.pF sd.ok) pk nw
 .rcases B3! c8 with h|rfl;(.exact x.kn z h);.exact⟨k1,ku⟩
 .rcases c8 _ hz with h|h;(.rw[ew];exact lI!);.cases h
theorem WI.jf(x:Db):∀y∈ys,1<=y.n/\y.n<=S? ys.length:=λy hy=>by have:y.n∈ys.map KB!:=Ku! y hy;rw[x.j5] at this;obtain⟨j,hj,e⟩:=ZN this;have:=BI.mp hj;lia
theorem Jjl(x:Db)(hn:AJ!)(hB:A9!)(hd:d<900)(i:Bx!)(cA:A'<=A+5*m)(cB:B+5*m<=B')(k:Df!)(hR:∀W' L H' io I,Nw W W' W.ls L->L.length=m->NB!->R (dj (E2!)) W' (al++oz!) (ys++dX! E2!) H'):CR! Th [Op,D7!]:=by
 have z3:=MR!;have a1:=x.md;have a2:=x.ez;have a3:=x.fz;have a4:=x.iz;have a5:=x.m5;have fY:W.qs.length=m:=x.wg.wl.len;have kO:W.JJ.length=ys.length:=Un! x.iq
 have dt:E2!∉ys.map KB!:=λz=>by obtain⟨y,hy,e⟩:=ZN z;have:=x.jf y hy;lia
 refine⟨p,h,W,q,G,rfl,x.wa,i,A!,A!,A!,λl hl e=>?_,λio I L H1 W1 i9 cX WN FC im is tQ ic wf=>?_⟩;.rw[kO] at e;rw[x.iq] at hl;obtain⟨y,hy,e2⟩:=ZN hl;rw[<-e2] at e;exact F2! dt ⟨y,hy,e⟩
 rw[fY] at i9;rw[kO] at W1 i9;have kt:=Ep! x.wa wf;have ew:IE (al++oz!)=IE al:=Ig! Di Jax
 let y1:Qy:=⟨E2!,io,I,[],[]⟩;have c8:∀z∈al++oz!,NA!\/∃g,z=LL.ask h g (E2!) 1:=AC (by rcases As! with h|h;(.exact W?);.obtain⟨j,_,e⟩:=DS!;exact N! (T? e.symm))
 have atY:S_ H1 m y1:=⟨cX,eE! (I.m=_) im,tQ,ic,p8! (Paired _ I.ss []) is O!⟩;have ndY:DI! Dz y1:=by obtain⟨dx,e⟩:=cX.ob;(have n1:io≠I.sd:=Ul! cX.s);(have n2:io≠I.fd:=Ul! cX.f);(have n3:io≠I.cd:=Ul! cX.c);show [io,I.sd,I.fd,I.cd].Nodup;simp[n1,n2,n3,cX.sf,cX.sc,cX.fc]
 refine k _ { W with JJ:=W.JJ++[(E2!,io)],c:=BE!,ls:=Dj! } D (al++oz!) (ys++[y1]) H1 (P! kO (hR { W with JJ:=W.JJ++[(E2!,io)],c:=BE!,ls:=Dj! } L _ io I (BY! (Bu! (YE! i9.len i9.BR) (eE! (BE!=_) i9.len))) i9.len rfl)) (Q? (hb.elim P? λh=>(by rw[CF] at h;rcases ZI h with h|h;(.exact Wy!);.exact B4! (FC b (EU.mp (x?)))))) ⟨W1,Ok! x.wg.up,xz (Q5!<=_),x.ob,x.m1,x.m5,?_,x.en,Os!,xz (UN! (d+1)),do! (d+1),Ok! x.ma,?_,?_,?_,?_,?_,If!,If!,If!,Ac!,Os!,Sc! ?_⟩ (GC.wi wf) rfl;.exact Dl (Eg x.lw kt) (D0 (f:=λi:Nat=>LL.ask h U? (E2!) 1) (R:=JA H1 W.EF) i9.LF)
 .have:=x.ec e he;show e.1<=BE!;lia
 ·(have q0:Ju m [y1]=0:=by show F0 m y1+0=0;unfold F0;have:(y1.fi.length:Nat)=0:=rfl;split<;>(try split)<;>simp_all [y1]);have q1:∀w9,IL! (C7 m h (E2!) 1)=m*5:=λw9=>Ro w9 m h _ 1;refine x.pb.same (y! ?_) ?_;(.rw[Dm,K9,q0,q1];lia);.rw[Dm,K9,q0,q1];lia
 .rw[ZE];show ys.length+1<=n+1;lia
 .show W.JJ++_=_;rw[x.iq,ZF];rfl
 .rw[ZF,ZE,x.j5];show _++[E2!]=(List.range (ys.length+1)).map _;rw[EE,ZF];rfl
 .rw[CF];refine Kr! x.nd (by simpa using ndY) (λu hu v hv z=>?_);obtain⟨y,hy,hb⟩:=DS.mp hu;obtain⟨o,e,_⟩:=f9!;(have hv:v∈Dz y1:=by simpa using hv);have:=FC v (EU.mp hv);rw[<-z,e] at this;cases this
 .rcases ZI hy with hy|hy;(.exact x.off y hy);.rw[ZK hy];exact Q? (WN b (EU.mp hb))
 .rcases ZI hy with hy|hy;(.exact x.ay wf hy);.rw[ZK hy];exact atY
 .rcases ZI hy with hy|hy;(.have ne:¬E2!=y.n:=bc! dt ⟨y,hy,z.symm⟩;refine(x.iv y hy).jN (λu=>?_) (λu=>?_) (P! ew (NU.refl _ _));(.rw[Bz,Hr,AD (λz=>ne z.1),AH]);.rw[Bt,Js,AH]);.rw[ZK hy];exact Jnm x.m1 (λu=>(Jak x.kn dt u).1) (λu=>(Jak x.kn dt u).2) h
 .rcases B3! c8 with h|⟨g,rfl⟩;(.have kz:=x.kn z h;rw[ZF];cases z with | w l=>trivial | ask s g n' u=>exact Oh! kz.1 kz.2 | IJ s g n' u tk S=>exact Oh! kz.1 kz.2 | lt s g ts=>trivial);.exact⟨Ku! y1 (Bt! e1!),bn⟩
 .obtain⟨y,hy,e1,e2⟩:=x.ff e he;exact⟨y,j? hy,e1,e2⟩
 .rcases c8 _ hz with h|⟨_,h⟩;(.rw[ew];exact lI!);.cases h
universe E
theorem Yw{as:S!}{bs:BA!}(h:∀a∈as,∀b,R a b->S a b)(p:me!):CI! S as bs:=by revert h;induction p with | nil=>exact λ_=>O! | cons r _ ih=>exact λh=>q! (h _ En! _ r) (ih λa ha=>h a (wn ha))
universe S
variable {p:Addr}{H H2:Hp}{W:DI}{D D':T2->Prop}{m n:Nat}{al a b new:List LL}{ys i1 i2:List Qy}{y y':Qy}
theorem Jfa(ey:ZI!)(nd:DI! ys.flatMap Dz):∀z,(z∈i1\/z∈i2)->∀b∈Dz z,b∉Dz y:=λz hz b hb hb2=>by rw[ey,CF,CJ] at nd;obtain⟨_,n2,n3⟩:=AK.mp nd;rcases hz with hz|hz;(.exact n3 b (DS.mpr (Cn! hb)) b (ZB _ hb2) rfl);.exact(AK.mp n2).2.2 b hb2 b (DS.mpr (Cn! hb)) rfl
theorem Ue(ey:ZI!)(nd:DI! ys.map KB!):∀z,(z∈i1\/z∈i2)->z.n≠y.n:=λz hz e=>by rw[ey,ZF,AI] at nd;obtain⟨_,n2,n3⟩:=AK.mp nd;rcases hz with hz|hz;(.exact n3 z.n (AG.mpr (Cn! rfl)) y.n (AV!) e);.exact F2! (AZ.mp n2).1 (Cn! e)
theorem WI.qH(x:Db):DI! ys.map KB!:=by rw[x.j5];unfold List.Nodup;rw[EC];exact en! (λ{a b} (h:a<b)=>A!) PZ
theorem WI.answer(x:Db){BR s g u tick:Int}{S:HS}{t e:Addr}{l1 l2 L e1 e2 eD:o!}{c':Int}(el:Ra!)(es:Gj! (.IJ s g y.n u tick S))(p1:Ry!)(p3:Rz!)(ey:ZI!)(ee:W.EF=e1++(BR,e)::e2)(W2:GZ! { W with c:=c',ls:=E5!,EF:=xL,ED:=eD })(fr:m0!)(en:y'.n=y.n)(eo:y'.io=y.io)(qf:Dz y'=Dz y)(at2:S_ H2 m y')(hc:W.c<=c')(hw:Wg D' m n W.share W.qs GF!)(hD:∀t,D t->D' t)(lw:CI! (JA H2 (xL)) L new)(pn:∀w9,lU! (IL! new) (dq w9 (.IJ s g y.n u tick S)))(cA:Rn!)(cB:Mi!)(qB:IE new=[])(nkn:∀z∈new,Kn (ys.map KB!) z)(nas:∀k u,k≠y.n->Cf new k u=[])(nan:∀k u,B8 new k u=[])(nlt:∀s g ts,R7! g∈new->0<=g/\g<m/\∃F,N_ W.qs GF! F/\(∀t,F t->D' t)/\X5! (F t) (t.1=g))(iv':PL m W.qs GF! (VK!) y'.n y'.fi y'.se)(ff':∀e∈eD,e∈W.ED\/(e.1=y.n/\y'.se.length=m))(fz':eD.length<=d+1)(se:y.se.length=m->y'.se.length=m) : WI H2 p { W with c:=c',ls:=E5!,EF:=xL,ED:=eD } D' m Fb! GM! A' B' (VK!) (H2!)/\Lz p W ys H H2:=by
 have hy:y∈ys:=tY! ey
 have kt:BM H H2:=XT.CQ x.wa (x.at_ y hy).at_ fr;have ew:IE (VK!)=IE al:=by rw[es,Di,Di,qB,Di,AH];rfl
 have em:∀{α:Type} (f:Qy->α),f y'=f y->(H2!).map f=ys.map f:=λf ef=>by rw[ey,ZF,AI,ZF,AI,ef]
 have emn:=em KB! en;have ju:=x.wa.po.nd;rw[el,ZF,AI] at ju;obtain⟨_,nl2,nl3⟩:=AK.mp ju;have nd1:∀z∈l1,z.1≠BR:=AC (nl3 z.1 (AG.mpr (Cn! rfl)) BR En!);have jv:∀z∈l2,z.1≠BR:=λz hz q=>F2! (AZ.mp nl2).1 (Cn! q);have mo:∀{L:o!} {c:M!},(∀z∈L,z.1≠BR)->tB! L c->CI! (JA H2 (xL)) L c:=λfJ pp=>Yw (λz hz r hr=>(hr.keep kt).more λe' he'=>by rw[ee] at he';rcases ZI he' with h|h;(.exact B0!);.rcases ZM h with h|h;(.exact ga (Prod.mk.inj h).1 (fJ z hz));.exact Bt! h) pp;have mid:∀z∈H2!,z=y'\/(z∈ys/\(z∈i1\/z∈i2)):=AC (by rcases As! with h|h;(.exact c? (G! ey B0!) W?);.rcases ZM h with h|h;(.exact W?);.exact c? (G! ey MO!) Bd!)
 have oM:∀z∈VK!,NA!\/z∈new:=AC (by rcases As! with h|h;(.refine PI!;rw[es];rcases ZI h with h|h;(.exact B0!);.exact MO!);.exact Bd!)
 have jD:(xL).Sublist W.EF:=G! ee (List.Sublist.append_left (List.sublist_cons_self _ _) _)
 have a1:=x.md;have a2:=x.ez;have a4:=x.iz;have a5:=jD.length_le;have eqf:(H2!).flatMap Dz=ys.flatMap Dz:=by rw[ey,CF,CJ,CF,CJ,qf]
 refine d? ⟨W2,Ok! hw.up,xz (Q5!<=_),x.ob,x.m1,x.m5,Dl (Dl (mo nd1 p1) (mo jv p3)) lw,x.en.sublist (jD.map _),Ea! (Int.le_trans (x.ec e (jD.subset he)) hc),M7! ((xL).length<=d+1),fz',Ok! x.ma,?_,?_,?_,?_,G! eqf x.nd,Ac!,Ac!,Ac!,Ac!,Os!,Sc! ?_⟩;.have f0:=He 0 a b (.IJ s g y.n u tick S);have f1:=He 1 a b (.IJ s g y.n u tick S);rw[<-es] at f0 f1;have q0:=pn 0;have q1:=pn 1;(have qy:Ju m (H2!)+F0 m y=Ju m ys+F0 m y':=by rw[ey,K9,K9];show Ju m i1+(F0 m y'+Ju m i2)+F0 m y=Ju m i1+(F0 m y+Ju m i2)+F0 m y';lia);refine x.pb.same ?_ ?_;(.rw[Dm];lia);.rw[Dm];lia
 ·(have:By! H2!=ys.length:=BH! ey);lia
 .show W.JJ=_;rw[x.iq];exact(em (dg!) (F8! en eo)).symm
 ·(have:By! H2!=ys.length:=BH! ey);rw[emn,x.j5,this]
 .rcases B3! mid with rfl|⟨h,_⟩;(.rw[qf];exact x.off y hy);.exact x.off z h
 .rcases B3! mid with rfl|⟨h,h2⟩;(.exact at2);.refine(x.at_ z h).keep (λb o hb eb=>?_) kt;have nb:=Jfa ey x.nd z h2 b hb;exact fr b o eb (x.off z h b hb) (λq=>nb (EU.mpr gC!)) (λq=>kk! nb gC!) (λq=>kk! nb (bt! q))
 .rcases B3! mid with rfl|⟨h,h2⟩;(.rw[ew];exact iv');.have ne:=Ue ey x.qH z h2;refine(x.iv z h).jN (λv=>?_) (λv=>?_) (P! ew (NU.refl _ _));(.rw[Bz,F! nas ne,AH,es,Bz,Bz,Ft];rfl);.rw[Bt,nan,AH,es,Bt,Bt,Eh];show _=_++(b5! (y.n=z.n) (u=v) OE!++_);rw[AD λq=>ne q.1.symm];rfl
 .rw[emn];rcases B3! oM with h|h;(.exact x.kn z h);.exact nkn z h
 .rcases ff' e he with h|⟨h1,h2⟩;(.obtain⟨z,hz,q1,q2⟩:=x.ff e h;rw[ey] at hz;rcases As! with hz|hz;(.exact⟨z,j? hz,q1,q2⟩);.rcases ZM hz with rfl|hz;(.exact⟨y',s5!,G! en q1,se q2⟩);.exact⟨z,rN! hz,q1,q2⟩);.exact⟨y',s5!,G! en h1.symm,h2⟩
 .rw[ew];rcases oM _ hz with h|h;(.obtain⟨g0,g1,F,sF,fD,ht⟩:=lI!;exact⟨g0,g1,F,sF,λt ft=>hD t (fD t ft),ht⟩);.exact nlt s g ts h
 .intro b o eb h1 h2;have hq:b∉Dz y:=λq=>h2 (DS.mpr ⟨y,hy,q⟩);exact fr b o eb h1 (λq=>hq (EU.mpr gC!)) (λq=>kk! hq gC!) (λq=>kk! hq (bt! q))
universe E
theorem Qi{α:Type}{f:HS->S!}{c:Nat}:∀{L:DR!},(∀S∈L,o? f S<=c)->D6! L.flatMap f (L.length*c)
 | [],_=>B?
 | S::L,h=>by have ih:=Qi (f:=f) (c:=c) (L:=L) X8!;have:=Cj! S;rw[CJ,ZE,BO,Nat.succ_mul];lia
theorem Z5:∀{ks:BB!},ks.Nodup->(∀k∈ks,nA CY! (S k))->y? (rowsOf (ks.map S)).map
 | [],_,_=>by simp[rowsOf]
 | k::ks,nd,h=>by obtain⟨n1,n2⟩:=Bg!;have ih:=Z5 (S:=S) n2 X8!;have so:=Cj! k;(have e:rowsOf ((k::ks).map S)=(S k).2.1++rowsOf (ks.map S):=by unfold rowsOf;rw[AI,CJ]);rw[e,ZF];refine Kr! so.nd ih (λu hu v hv z=>?_);obtain⟨r,hr,e1⟩:=ZN hu;obtain⟨r2,IP,e2⟩:=ZN hv;obtain⟨S2,hS,aW⟩:=IA.mp IP;obtain⟨k2,zu,e3⟩:=ZN hS;have c1:=OM! so.oz;subst e3;have c2:=((h k2 (ZD _ zu)).oz r2 aW).1;(have:k=k2:=by rw[e1] at c1;rw[e2] at c2;rw[z] at c1;lia);rw[this] at n1;exact n1 zu
theorem Jhg{ks:BB!}{S:GX!}{mx:Nat->Nat}{m:Nat}(nd:ks.Nodup)(kz:ks.length<=12)(km:∀k∈ks,k<m)(so:∀k∈ks,nA CY! (S k))(nw:∀k∈ks,∀w9∈(S k).2.1,w9.1.2<mx k)(sm:Qo! mx<=60):K65F.aJ (ks.map S):=by
 have dv:=Z5 nd so;refine⟨dv,?_,?_,Ik!,?_⟩;·(have:=Fx (U:=pX m mx) dv (h? (by obtain⟨r,hr,e⟩:=ZN ht;obtain⟨S2,hS,IP⟩:=IA.mp hr;obtain⟨k,hk,e2⟩:=ZN hS;subst e2;obtain⟨c1,c2,_⟩:=(so k hk).oz r IP;have c3:=nw k hk r IP;rw[e] at c1 c2 c3;refine DS.mpr ⟨k,BI.mpr (km k hk),KL! db! fU! ?_⟩;exact Prod.ext c1.symm (M7! (BN! db!=t.2)))));rw[Zo,ZA] at this;lia
 ·(have:=Qi (f:=λS=>S.1) (c:=60) (L:=ks.map S) (AC (by obtain⟨k,hk,e2⟩:=Cc!;subst e2;exact(so k hk).hz)));rw[ZA] at this;have:ks.length*60<=12*60:=FU 60 kz;lia
 .obtain⟨S2,hS,IP⟩:=IA.mp hr;obtain⟨k,hk,e2⟩:=ZN hS;subst e2;exact((so k hk).oz r IP).2.2
 ·(have:=Qi (f:=λS=>S.2.2) (c:=60) (L:=ks.map S) (AC (by obtain⟨k,hk,e2⟩:=Cc!;subst e2;exact(so k hk).rz)));rw[ZA] at this;have:ks.length*60<=12*60:=FU 60 kz;lia
theorem U9{α:Type}{l:S!}{k:α->Int}{f:FD!}{n:Int}:Ca (l.map nA!) (Sum.inl n)=(l.find? (Et! (k r=n))).map f:=by
 unfold Ca;rw[List.find?_map,Option.map_map];congr 1;congr 1;funext r;show g1! (Sum.inl (k r):Key) Sum.inl n (k r=n);by_cases e:k r=n;.rw[e];simp
 .rw[IB!,Al! (Tr! Sum.inl.inj)]
theorem Jah{α:Type}{l:S!}{k:α->Int}{f:FD!}{r:α}(h:k r∉l.map k):putK (C6! nA!) (Sum.inl (k r)) (f r)=(l++[r]).map nA!:=by
 have e:Ca (l.map nA!) (Sum.inl (k r))=none:=by rw[U9];(have:l.find? (λz=>Kq! (k z) k r)=none:=BD.mpr (AC (by have:k z≠k r:=λe=>h (TW! (BC hz));simpa using this)));rw[this];rfl
 rw[Ha _ e,ZF];rfl
theorem Je9{se:em!}{h:Int}(m:h∈PJ!):∃r∈se,r.1=h/\se.find? (Et! (r.1=h))=B! r:=by cases e:se.find? (Et! (r.1=h)) with | none =>obtain⟨r0,YS,e0⟩:=BD!;have:=BD.mp e r0 YS;simp[e0] at this | some r=>exact⟨r,A_ e,Uv!,rfl⟩
theorem Jim{ss:bi}{fi:Gi!}(p:DU! (λ(kv:Key×V) (r:Int×Int×HS)=>pU!) ss fi){h:Int}{r:eI!}(e:fi.find? (Et! (r.1=h))=B! r):∃a,Ca ss (Sum.inl h)=B! PP/\XS K H a BP!:=by induction p with | nil=>simp at e | @cons kv r0 ss fi q pp ih =>obtain⟨a,ea,st⟩:=q;subst ea;unfold Ca;rw[BU] at e ⊢;by_cases c:r0.1=h;(.rw[WR!] at e;have e:r0=r:=ZO e;rw[show Du! (C9! r0.1) VW!=true by rw[c];simp];exact DO! a (TW! st));.rw[Pt!] at e;rw[iW! (C9! r0.1=VW!) c Sum.inl.inj];exact ih e
theorem Jf2{ss:bi}{fi:Gi!}(p:DU! (λ(kv:Key×V) (r:Int×Int×HS)=>pU!) ss fi):G? ss.map=fi.map λr=>C9! r.1 :=(vK (by rintro kv r ⟨a,e,_⟩;rw[e]) p).symm
theorem Jin(pp:DU! (λ(kv:Key×V) (r:Int×Int×HS)=>pU!) ss fi)(h:s∉VU!)(v:V):putK ss (Sum.inl s) v=ss++[(Sum.inl s,v)]:=by refine Ha _ ?_;unfold Ca;rw[BD.mpr λkv hkv=>?_];rfl;have:K7! kv.1 ss.map:=BC hkv;rw[Jf2 pp] at this;obtain⟨r,hr,e⟩:=ZN this;have ne:¬kv.1=Sum.inl s:=M? h (by rw[z] at e;rw[<-Sum.inl.inj e];exact BC hr);simpa using ne
theorem Oi{m:Nat}{fi:Gi!}(pm:XN! fi.map){h:Nat}(hh:h<m):∃r∈fi,HR!/\fi.find? (JW!)=B! r/\Jb!=be/\Et fi h=BP!:=by have m1:K7! r? fi.map:=pm.mem_iff.mpr (NM.mpr (Ug! A!));obtain⟨r0,YS,e0⟩:=ZN m1;cases e:fi.find? JW! with | none =>have:=BD.mp e r0 YS;simp[e0] at this | some r =>refine⟨r,A_ e,Uv!,rfl,?_,?_⟩;(.unfold Gk;rw[e];rfl);.unfold Et;rw[e];rfl
def J2(m:Nat)(g:Int)(ts:D!):M!:=WY! m (λi:Nat=>.lt g U? (ts.filter (BO! JB!)))
theorem Rx:Cf (J2 m g ts) n u=[]:=FO.mpr (AC (by obtain⟨i,_,e⟩:=Cc!;rw[<-e];rfl))
theorem Ry:B8 (J2 m g ts) n u=[]:=FO.mpr (AC (by obtain⟨i,_,e⟩:=Cc!;rw[<-e];rfl))
theorem Jg1:IE (J2 m g ts)=[]:=FO.mpr (AC (by obtain⟨i,_,e⟩:=Cc!;rw[<-e];rfl))
theorem Jdw{l:d!}{m:Nat}(pm:l.Perm (rg m)):(l.map cz!).Perm (List.range m):=by
 have:=pm.map cz!;have e:(rg m).map cz!=List.range m:=by unfold rg;rw[AQ];(have:((λx:Int=>x.toNat) ∘ G7! CY!)=id:=by funext k;simp);rw[this,List.map_id]
 rw[e] at this;exact this
universe S
theorem Jbk(w9 m:Nat)(g:Int)(ts:D!):IL! (J2 m g ts)=m:=by
 unfold E1 J2;rw[AQ];have h:∀l:BB!,b6! (λ_=>1)=l.length:=λl=>by induction l with | nil=>rfl | cons _ l ih=>rw[AI,CK,ih,BO,Nat.add_comm]
 exact(h (List.range m)).trans CB
theorem Jmy{y y':Qy}(h:y'.fi.length=LH!)(l:LH!<m):lU! 0 4:=by unfold F0;rw[IH!,IH!];lia
theorem Jmx{y y':Qy}(h:y'.fi.length=m)(hs:y'.se.length=0)(m1:1<=m)(e:LH!=m):lU! (m*3) 4:=by unfold F0;rw[I6!,IH!,IH!,hs];lia
theorem Jmw{y y':Qy}(h:y'.fi.length=m)(h2:y.fi.length=m)(hs:y'.se.length=LI!)(l:LI!<m):lU! 0 2:=by unfold F0;rw[I6!,IH!,I6!,IH!];lia
theorem Jmv{y y':Qy}(h:y'.fi.length=m)(h2:y.fi.length=m)(hs:y'.se.length=m)(l:LI!=m):m+F0 m y'+1=2+F0 m y:=by unfold F0;rw[I6!,I6!,I6!,IH!];lia
inductive Jlp(m:Nat)(W W':DI)(a b al':M!)(ys EL:F?)(H':Hp)(s g n u tick:Int)(S:HS):Prop
 | mk (y y':Qy) (i1 i2:F?) (new:M!) (e1:ZI!) (e2:EL=H2!) (e3:y.n=n) (e4:y'.n=n) (e5:al'=VK!) (e6:(u=1/\y'.se=y.se/\y'.fi=b7!/\Cv!/\((new=[]/\LH!≠m)\/(new=RV! 2/\LH!=m)))\/(u=2/\y'.fi=y.fi/\y'.se=GB!/\((new=[]/\LI!≠m/\Cv!)\/(LI!=m/\∃(ts:D!)(xf:Addr)(as:J!),new=J2 m g ts/\W'.ED=Gk!/\Ym! xf/\Qv!/\∃cf:Cb!,(∀h:Nat,h<m->∃r∈y'.se,HR!/\r.2=cf h)/\Found (Lb m (λh=>Yv!) hB!) ts))))
theorem Jch(x:Db)(hn:AJ!)(hB:A9!)(hd:d<900){BR:Int}{l1 l2:o!}{t:Addr}{s g n' u tick:Int}{S:HS}(el:Ra!)(es:Gj! (LL.IJ s g n' u tick S))(p1:Ry!)(p2:m4! (.IJ s g n' u tick S))(p3:Rz!)(cA:Rn!)(cB:Mi!)(k:Df!)(hR:∀v L W' al' EL H',NB!->Nv W W' (NI!) L->tP! v (λz=>H? z.1)->Jlp m W W' a b al' ys EL H' s g n' u tick S->R VO! W' al' EL H'):Zh!:=by
 have z3:=MR!;have z5:=x.fz;have fY:W.qs.length=m:=x.wg.wl.len;have m5:=x.m5;have hz:LL.IJ s g n' u tick S∈al:=Q7!
 obtain⟨k1,ku⟩:=x.kn _ hz;obtain⟨y,hy,mV⟩:=ZN k1;have mV:y.n=n':=mV;subst mV;obtain⟨i1,i2,ey⟩:=IM hy;obtain⟨pA,e,xs,me,he,st⟩:=p2;obtain⟨e1,e2,ee⟩:=IM me;have pA:R9! BR FO! y.n:=pA;have iv:=x.iv y hy;have WA:=x.at_ y hy;have lf:y.fi.length<=m:=by have:=iv.t1.length_eq;rw[ZE,ZE,ZA,ZA,Gd] at this;lia
 have lse:y.se.length<=m:=by rcases iv.t2 with⟨_,_,_,e⟩|⟨_,pm⟩;(.rw[e];exact AZ!);.have:=pm.length_eq;rw[ZE,ZE,ZA,ZA,Gd] at this;lia
 have lfs:y.I.fs.length=y.fi.length:=Un! WA.fs
 have lcs:y.I.cs.length=y.se.length:=Un! WA.cs
 have lss:y.I.ss.length=y.fi.length:=L? WA.ss;have bW:mV!:=pE!
 obtain⟨a0,et,_⟩:=id pA;refine p5! s FO!;have LB:=ha!;have cX:=x.ay HK hy;have vi:N4! (hr! W.JJ y.n) y.io:=by (have e1:W.JJ=(i1.map dg!)++(y.n,y.io)::i2.map dg!:=by rw[x.iq,ey,ZF,AI]);(have nd:y? W.JJ.map:=ut x.iq AQ x.qH);rw[e1] at nd ⊢;exact(Jao nd).1
 refine Ix! IC!;refine⟨p,t,_,BR,s,g,y.n,u,e1,e2,e,xs,tick,y.io,y.I,rfl,W1,pA.keep LB,ee,x.en,bV! he,vi,cX.at_,Q? (x.off y hy b (EU.mpr hb)),A!,A!,A!,xz VI!,bW,?_⟩;have qX:∀{H2:Hp},XT p W y.I H1 H2->m0!:=λfr b o eb hb n1 n2 n3=>fr b o he! hb n1 n2 n3;rcases ku with rfl|rfl;· obtain⟨lt,sn,ivA,ivB⟩:=iv.first (D:=D) (N:=n) (sh:=W.share) es;(have ef:tx!=(b7!).map (m9! be):=G! WA.fs (Jah (k:=λr:Int×Int×HS=>r.1) (f:=eB! be) (r:=OE!) sn));(have zE:b9! y.I.fs=S? y.fi.length+1:=G9! ef ZA ZE);(have m7:∀{H2:Hp},m0!->K65F.FG H2 y.io { y.I with ss:=sZ! y.I.ss,fs:=tx! }->S_ H2 m mD!:=λfr at2=>by have kt:=XT.CQ x.wa WA.at_ fr;refine⟨at2,WA.many,ef,WA.cs,?_⟩;show Paired _ (putK y.I.ss (A1! s) (K? xs)) _;rw[Jin WA.ss sn];exact T8! Dl (Aw (λ_ _ h9=>by obtain⟨a,e,s⟩:=h9;exact⟨a,e,s.keep kt⟩) WA.ss) (DO! xs (st.keep kt)));refine H! (Bu! (λne v H2 W2 at2 KC fW=>?_) (λeq v L H2 W2 aT at2 KC fW=>?_));(.have ne':LH!≠m:=M? ne (Sa! zE WA.many);have fr:=qX KC;(have i_:GZ! mE!:=G! AH W2);obtain⟨wi,rX⟩:=p7! [] D mD! GC! x.wg OU! O! (Jmy (by show By! b7!=_;rw[ZE];rfl) C!) rfl kM! K0! UT! (λ_ _ _ hz=>sw hz) (Va! AH ivA ne') (H! he) C! (λh=>h);refine k _ _ D _ _ H2 ?_ ?_ wi rX rfl;(.exact pz! [] mE! (Nv.zero (AH _) rfl) [] (H! (br! rfl rfl (H! (n? ne')))));.exact on!);·(have OM:LH!=m:=by rw[zE,WA.many] at eq;lia);(have se0:y.se=[]:=by rcases iv.t2 with⟨_,_,_,e⟩|⟨e,_⟩;(.exact e);.lia);have fr:=qX KC;(have aT:M_ H2 W.c g y.n 2 L m:=N? fY aT);have i_:GZ! { W with c:=BE!,ls:=E5!,EF:=xL,ED:=W.ED }:=W2;refine(λ(A:_/\_)=>k VO! { W with c:=BE!,ls:=E5!,EF:=xL,ED:=W.ED } D (SZ++C7 m g y.n 2) (i1++mD!::i2) H2 (pz! L { W with c:=BE!,ls:=E5!,EF:=xL,ED:=W.ED } (Bu! (YE! aT.len aT.BR) (eE! (BE!=_) aT.len)) _ (H! (br! rfl rfl (N! (n? OM))))) (Fu! on!) A.1 A.2 rfl) (p7! (C7 m g y.n 2) D mD! C! x.wg OU! (D0 (f:=λi:Nat=>LL.ask g U? y.n 2) (R:=JA H2 (xL)) aT.LF) (G! Ro (Jmx (by show By! b7!=m;rw[ZE];exact OM) (by show y.se.length=0;rw[se0];rfl) x.m1 OM)) Jax c4! (λk u ne=>R? Hr (AD λz=>ne z.1.symm)) (λ_ _=>Js) (Sc! ?_) (ivB OM x.wg g) (H! he) C! (λh=>h));(.obtain⟨j,_,ez⟩:=Cc!;rw[<-ez];exact⟨Ku! y hy,EK!⟩);.obtain⟨j,_,ez⟩:=Cc!;cases ez
 · obtain⟨fl,lt,sn,qK⟩:=iv.second es;have pf:=(iv.whole fl).2.2;(have ec:ty!=(GB!).map (m9! r.2):=G! WA.cs (Jah (k:=λr:Int×Int=>r.1) (f:=eB! r.2) (r:=(s,tick)) sn));(have zF:b9! y.I.cs=S? y.se.length+1:=G9! ec ZA ZE);(have jO:By! GB!=LI!:=EQ ZE);(have m7:∀{H2:Hp},m0!->K65F.FG H2 y.io { y.I with cs:=ty! }->S_ H2 m mF!:=λfr at2=>by have kt:=XT.CQ x.wa WA.at_ fr;exact⟨at2,WA.many,WA.fs,ec,f6! (by obtain⟨a,e,s⟩:=h9;exact⟨a,e,s.keep kt⟩) WA.ss⟩);refine N! ⟨a!,λne v H2 W2 at2 KC fW=>?_,λeq=>?_⟩;(.have ne':LI!≠m:=M? ne (Sa! zF WA.many);have fr:=qX KC;(have i_:GZ! mE!:=G! AH W2);obtain⟨wi,rX⟩:=p7! [] D mF! GC! x.wg OU! O! (Jmw fl fl jO C!) rfl kM! K0! UT! (λ_ _ _ hz=>sw hz) (P! AH qK) (H! he) C! (λh=>A!);refine k _ _ D _ _ H2 ?_ ?_ wi rX rfl;(.exact pz! [] mE! (Nv.zero (AH _) rfl) [] (N! (ae! rfl (H! (Bu! ne' rfl)))));.exact on!);·(have OM:By! GB!=m:=by rw[zF,WA.many] at eq;lia);(have ps:XN! (GB!).map:=by rcases qK.t2 with⟨h,_⟩|⟨_,pm⟩;(.lia);.have l:=pm.length_eq;rw[ZE,ZE,ZA,ZA,Gd] at l;have q1:Cf (SZ) y.n 2=[]:=JA!;have q2:B8 (SZ) y.n 2=[]:=JA!;rw[q1,q2] at pm;exact pm);(have mz:∀h:Nat,∃ah:Addr,h<m->DV! Ca y.I.ss r?=B! (K? ah)/\XS K H1 ah (Et y.fi h):=λh=>by by_cases hh:h<m;(.obtain⟨r,_,_,ef,_,es2⟩:=Oi pf hh;obtain⟨ah,va,sa⟩:=Jim cX.ss ef;exact⟨ah,λ_=>HS! va es2 sa⟩);.exact⟨e,λz=>ga z hh⟩);let cf:Cb!:=λh=>ko! (GB!).find? JW!;(have mI:∀h:Nat,h<m->∃r∈GB!,HR!/\(GB!).find? (JW!)=B! r/\r.2=cf h:=λh hh=>by obtain⟨r,hr,er,ef⟩:=Je9 (se:=GB!) (h:=r?) (ps.mem_iff.mpr (NM.mpr (Ug! A!)));exact⟨r,hr,er,ef,by show r.2=((((GB!).find? JW!).map T0).getD 0);rw[ef];rfl⟩);(have sF:=qK.done fl (c:=cf) λh hh=>by obtain⟨r,hr,er,_,ev⟩:=mI h hh;exact⟨r,hr,er,ev⟩);(have eL:K65F.FZ (K65F.J_ m (Gk y.fi) cf (λh=>Classical.choose (mz h)) hB!)=Lb m (λh=>Yv!) (Et y.fi):=by show List.map _ (List.map _ _)=_;rw[AQ];rfl);(have xR:K65F.aJ (K65F.FZ (K65F.J_ m (Gk y.fi) cf (λh=>Classical.choose (mz h)) hB!)):=by rw[eL];have cN:∀k∈ji! (λh=>Yv!),k<m:=λk hk=>BI.mp (Fe! hk);(have nn:∀q∈W.qs,V5!:=TD (by obtain⟨j,hj⟩:=C_.mp hq;exact(x.wg.BR (q:=q.1) (G:=q.2) hj).1.m0));refine Jhg (mx:=λk=>(WE W.qs k).toNat) (m:=m) (List.nodup_range.filter _) ?_ cN (U3!) (λk hk w9 hw=>?_) ?_;(.have:=AN (λh=>Yv!) (rB! m);rw[CB] at this;lia);(.obtain⟨r,hr,er,_,_,e4⟩:=Oi pf (cN k hk);have:=(iv.f1 r hr).so;rw[er,<-e4] at this;exact this);(.obtain⟨r,hr,er,_,_,e4⟩:=Oi pf (cN k hk);obtain⟨⟨q,G⟩,hi⟩:=S9! W.qs k (BJ! (cN k hk));rw[e4] at hw;have h1:=(iv.f1 r hr).nw k q G hi er w9 hw;(have h2:WE W.qs k=G.AW:=by unfold WE;rw[hi];rfl);have h3:=(x.wg.BR hi).1.m0;show w9.1.2<BN! (WE W.qs k).toNat;rw[h2];lia);.have h1:=Ia nn;have h2:=x.md;rw[fY] at h1;lia);refine⟨m,Gk y.fi,cf,λh=>Classical.choose (mz h),Et y.fi,A!,⟨Go (Bw! y.fi.map BF! cz!) (Jdw pf),U3!,U3!,λk hk=>((Classical.choose_spec (mz k)) hk).1⟩,λk hk=>((Classical.choose_spec (mz k)) hk).2,xR,do! 900,λe he z=>?_,λv xf as ts L H2 fo W2 aT eF th at2 KC fW=>?_⟩;(.show G? y.I.fs.map=_;rw[WA.fs,AQ,AQ,AQ];refine CD Ik!;have:=NM.mp (pf.mem_iff.mp (AG.mpr (Gh! rfl)));show C9! r.1=Sum.inl (BN! r.1.toNat);rw[BW this.1]);(.show Ca y.I.fs _=_;obtain⟨r,_,_,ef,e3,_⟩:=Oi pf hk;rw[WA.fs,U9 (k:=λr:Int×Int×HS=>r.1) (f:=eB! be),ef,e3];rfl);(.show Ca (putK y.I.cs (A1! s) (dj tick)) _=_;obtain⟨r,_,_,ef,e3⟩:=mI k hk;rw[ec,U9 (k:=λr:Int×Int=>r.1) (f:=eB! r.2),ef,<-e3];rfl);(.obtain⟨y0,qL,q1,q2⟩:=x.ff e he;(have:y0=y:=by rw[ey] at qL;rcases ZI qL with h|h;(.exact Ek! (R? q1 z) (Ue ey x.qH y0 S1!));.rcases ZM h with h|h;(.exact h);.exact Ek! (R? q1 z) (Ue ey x.qH y0 (wp h)));rw[this] at q2;lia);.have fr:=qX KC;rw[eL] at fo;(have aT:kZ H2 W.c g ts L m:=N? fY aT);have i_:GZ! { W with c:=BE!,ls:=E5!,EF:=xL,ED:=W.ED++[(y.n,xf)] }:=W2;refine(λ(A:_/\_)=>k VO! { W with c:=BE!,ls:=E5!,EF:=xL,ED:=W.ED++[(y.n,xf)] } _ (SZ++J2 m g ts) (i1++mF!::i2) H2 (pz! L { W with c:=BE!,ls:=E5!,EF:=xL,ED:=W.ED++[(y.n,xf)] } (Bu! (YE! aT.len aT.BR) (eE! (BE!=_) aT.len)) _ (N! (ae! rfl (N! ⟨N? jO OM,ts,xf,as,rfl,rfl,eF,th,cf,λh hh=>(let⟨r,hr,er,_,ev⟩:=mI h hh;⟨r,hr,er,ev⟩),fo⟩)))) (Fu! on!) A.1 A.2 rfl) (p7! (J2 m g ts) (λt=>D t\/GS m (λh=>Yv!) hB! t) mF! C! (x.wg.more sF) (λ_ h=>W?) (D0 (f:=λi:Nat=>LL.lt g U? (ts.filter (BO! JB!))) (R:=JA H2 (xL)) aT.LF) (G! Jbk (Jmv fl fl OM (Hr! jO OM))) Jg1 c4! (λ_ _ _=>Rx) (λ_ _=>Ry) (λs0 g0 ts0 hz=>?_) (qK.jN (λu=>Ig! Bz Rx) (λu=>Ig! Bt Ry) (NU.refl _ _)) ?_ ?_ (λh=>A!));(.obtain⟨j,_,ez⟩:=Cc!;rw[<-ez];trivial);(.obtain⟨j,hj,ez⟩:=Cc!;injection ez with q1 q2 q3;have hj:=BI.mp hj;refine⟨A!,A!,_,sF,Es! Bd!,EH!⟩;rw[<-q3,<-q2,AB,fo.mem];constructor;(.rintro⟨h1,h2⟩;exact⟨h1,BK h2⟩);.rintro⟨h1,h2⟩;exact⟨h1,D2! h2⟩);(.rcases ZI he with he|he;(.exact H! he);.rw[ZK he];exact N! (n? OM));.rw[ZE];show W.ED.length+1<=d+1;lia
universe E
universe E K65
universe N FX
open PySem PySem.Spec PyProof.Rows L2
universe S
universe E
universe E FX
universe N K65
open PySem L2 FX
theorem gSt(g:GG):DR 2 QZ RY UV K0:=Jeb g.mSt.fn g.T g.mTo.fn g.mTo.bd g.mTo.mt
theorem Jm2(g:GG):ID 3 KG KN CL! Ot:=Jbp g.mWSt.fn g.T g.TW g.mWH g.mSt (FX.EB.aR (gSt g))
theorem gCa(g:GG):DR 2 RP SV El! Yl:=Jgy g.mCa.fn g.T g.mNe g.mAR
theorem gAd(g:GG):DR 2 RT SY El! Tp:=Jej g.mAd.fn g.T g.mAR
theorem gWe(g:GG):DR 3 LH LV AF! Gw:=Yz g.mWWe.fn g.T g.TW g.mCa (gCa g) g.mAd (gAd g) g.mGi
theorem Jm3(g:GG):DR 2 LI LW AF! Kz:=Jd5 g.mWPa.fn g.T g.TW g.TP g.mPs g.mPP
theorem gPt(g:GG):ID 3 RC SD Lk! Yi:=Jgr g.mPa.fn g.T g.mNe g.mQH g.mPR g.mP1
theorem gSd(g:GG):ID 4 KH KO Qn! Jg:=Jd4 g.mWSe.fn g.T g.TW g.TP g.mWH g.mPa (gPt g) g.mSp g.mPP
theorem uV(g:GG):DR 2 LJ LX UV Ou:=Wq g.mWLe.fn g.TW g.TP g.mPL
theorem gFr(g:GG):ID 2 RM SR Kh! Tn:=Jgw g.mFr.fn g.T g.mQH
theorem gHo(g:GG):ID 3 RK SO Jy! Tl:=Jgv g.mHo.fn g.T g.mNe g.mQH g.mQN
theorem gMk(g:GG):ID 1 cT cV UV Tj:=Pf! Jgs g.mM.fn g.T
theorem gCh(g:GG):DR 2 RO SU UV To:=Jei g.mCl.fn g.T g.Tx g.mR1 g.mLo g.mGb
theorem gWG(g:GG):DR 2 LP MB Ty! N7:=Jd9 g.mWGb.fn g.TW g.TP g.mPP
theorem gWC(g:GG):DR 3 KJ KQ CL! Il:=Jbq g.mWCl.fn g.T g.TW g.mWH g.mCl (gCh g) g.mWGb (gWG g)
theorem gAa(g:GG):DR 2 LU MI OJ! Gx:=Y1 g.mWAa.fn g.T g.TW g.TP g.mPP
theorem gAc(g:GG):DR 3 LS MF AF! Fv:=Ws g.mWAc.fn g.T g.TW g.TP g.mTi g.mSt (gSt g) g.mPP
theorem gLh(g:GG):DR 2 RG SH Fx! Yj:=Jgu g.mLH.fn g.T g.Tx g.mLo g.mGb
theorem gLc(g:GG):DR 3 LK LY AF! Fu:=Wr g.mWLc.fn g.T g.TW g.mLH (gLh g) g.mWGb (gWG g)
theorem gUn(g:GG):DR 2 QY RX Ha! K65F.MQ:=K65F.W_ g.mUn.fn g.TF g.mR1 g.mRc
theorem gIL(g:GG):DR 1 RI SK UV K65F.WV:=K65F.df g.mIL.fn g.TI g.T.sorted
theorem gIR(g:GG):DR 3 RH SJ UV K65F.TK:=K65F.bo g.mIR.fn g.TI g.mIL (gIL g) g.mUn (gUn g)
theorem gLa(g:GG):DR 4 LM LZ Mk! Mc:=Y0 g.mWLa.fn g.T g.TW g.TP g.TI g.mIR (gIR g) g.mPP
theorem gAn(g:GG):DR 5 LR ME AF! Ov:=Jgn g.mWAn.fn g.T g.TW g.TI g.mIF g.mIS g.mWAa (gAa g) g.mWLa (gLa g)
theorem gAs(g:GG):ID 3 KL KR CL! Th:=Jgm g.mWAs.fn g.T g.TW g.TI g.mWH g.jb g.rO g.uw g.mWAa (gAa g)
theorem gDl(g:GG):ID 6 KI KP CU! Gb:=Jgl g.mWDe.fn g.TW g.TP g.mPT g.mWWe (gWe g) g.mWPa (Jm3 g) g.mWAc (gAc g) g.mWAn (gAn g) g.mWLc (gLc g)
theorem nh{A B:TS}{D:Ends}{σ:L2.St}{H:Hp}(R:La!)(h1:∀nx,(∀EN H',R EN H'->nx EN H')->A { D with nx:=nx } σ H)(h2:∀EN H',R EN H'->B D EN H'):Jj8 A B D σ H:=h1 _ h2
theorem YU(g:GG):DR 1 RR SW ZG! Jda:=Jgx g.mC1.fn g.T.len
theorem WB:I? [TX!,"_law_many","_law_xs",bA!,a4!] l2! Tw:={}
inductive Jc6(vs:E!)(H:Hp)(Q:VK)(E:XK):Prop
 | mk (c:Int) (m:Nat) (_:vs=QA! c m) (_:m<=20) (_:∀(l:Addr)(xs:d!)(H':Hp),KB->QQ! xs.map V.int->xs.length=m->BQ! l)
theorem gSm(g:GG):DR 1 Q_ RZ l2! Jc6:=by
 refine C3! g.mSm.fn.II WB;obtain⟨c,m,rfl,hm,k⟩:=h;refine Y!;refine Nz! WB.nd ER! (gf! WB.nd (KS! E?) (XL! Q! 4 WB.nd (Ag (Bo (uN! E?) (gx! CO CN Df L! (Ay Bj A? (Ay Yx Af Af)) (WF! WB.nd (Ay Cj A? (Ay Yx Af Af)))) (Ke! 3 WB.nd (HM! (Le! (Lf! A?))) (SO! L! (HM! (Lf! A?))))))) (TH! pv 2));refine s0! Il!;refine pj!;refine Hj! A4! rfl A! A! ?_;rw[AM];refine Fq (lo:=0) (n:=m) (λi σ H2=>∃(xs:d!)(z:Int)(u:SB),σ=[FC!,Br! m,LV!,Lc!,u]/\OC!/\ab! H2 l xs.map V.int/\xs.length=i) ⟨[],_,_,rfl,Ah hl,Ab,rfl⟩ ?_ ?_;.rintro i σ H2 hi ⟨xs,z,u,rfl,s2,e2,len⟩;have put:∀y:Int,An! (FX! H2 l (xs.map V.int++[H? y]))/\ab! (FX! H2 l (xs.map V.int++[H? y])) l (xs++[y]).map V.int/\By! (xs++[y])=i+1:=λy=>dE! (h2! hl s2) ZF Ab (du! len);refine pi! Lo!;by_cases c1:IW! (c % 2);(.rw[WS!];refine Ce ⟨_,rfl,Bk! e2,_,rfl,_,_,rfl,rfl,⟨a!,a!,a!⟩,_,_,rfl,rfl,NN! (10 ^ 4),l,_,_,rfl,rfl,e2,Wc!,?_⟩;refine ol! _ rfl ⟨a!,a!,a!⟩ _ rfl A8!;obtain⟨p1,p2,p3⟩:=put (z % S? 10 ^ de! 4);exact⟨_,_,_,rfl,p1,p2,p3⟩);.rw[WH!];refine Cb ⟨_,rfl,_,_,rfl,rfl,Jt!,_,_,rfl,rfl,_,_,rfl,rfl,NN! 2147483647,?_⟩;generalize (z*48271+12345) % 2147483647=y;refine⟨_,rfl,Bk! e2,_,rfl,_,_,rfl,rfl,Jt!,_,_,rfl,rfl,f1!,l,_,_,rfl,rfl,e2,Wc!,?_⟩;obtain⟨p1,p2,p3⟩:=put (y*69621 % 2147483629);exact⟨_,_,_,rfl,p1,p2,p3⟩
 .rintro σ H2 ⟨xs,z,u,rfl,s2,e2,len⟩;exact t? (k l xs H2 s2 e2 len)
theorem oC:I? W1! W1! Yp:={}
inductive Jir(vs:E!)(H:Hp)(Q:VK)(E:XK):Prop
 | mk (z c:Int) (_:vs=QA! z c) (_:∀(t:Addr)(x y:Int)(H':Hp),KB->Tz! t (QA! x y)->BQ! t)
theorem uU(g:GG):DR 1 RD SF W1! Jir:=by
 refine C3! g.mNx.fn.II oC;obtain⟨z,c,rfl,k⟩:=h;refine Y!;refine IF! (Pq! Q! (gl! (wT (HM! E?) (KS! E?)))) (ED! (Fa! 0 oC.nd (HM! (Le! (Lf! E?)))) (Az (Co (wT (HM! (Lf! E?)) E?))));refine pi! Lo!;by_cases c1:IW! (c % 2);.rw[WS!];refine Ce ⟨_,rfl,_,_,rfl,rfl,NN! 1000,_,rfl,_,_,rfl,rfl,A8!,AN!,h? (k t _ _ _ (Ah ht) Ab)⟩
 .rw[WH!];refine Cb ⟨_,rfl,_,_,rfl,rfl,Jt!,_,_,rfl,rfl,_,_,rfl,rfl,NN! 2147483647,?_⟩;generalize (z*48271+12345) % 2147483647=y;exact Tm! _ _ rfl Jt! _ rfl f1! _ rfl AN! (h? (k t _ _ _ (Ah ht) Ab))
theorem cq:I? [Kd!,"_law_many",TY!,TZ!,rF!] EE! O8:={}
def Dg(m:Nat)(p q:Nat):d!:=Bw! ji! (λh=>a? (h≠p)&&a? (h≠q)) (λh:Nat=>r?)
theorem MO{m p q:Nat}{z:Int}:z∈Rg!↔∃h:Nat,z=r?/\h<m/\h≠p/\h≠q:=by
 unfold Dg;rw[AG];constructor;.rintro⟨h,hh,rfl⟩;have:=AB.mp hh;simp at this;exact F3! h this.1 this.2.1 this.2.2
 .rintro⟨h,rfl,h1,h2,h3⟩;exact GO! h (CV! (BI.mpr h1) (by simp[h2,h3]))
inductive Jc8(vs:E!)(H:Hp)(Q:VK)(E:XK):Prop
 | mk (a:Addr) (ns:d!) (_:vs=[Tk]) (_:ix!) (_:U6!) (_:∀(m p q r:Nat)(t l:Addr)(H':Hp),3<=m->m<=6->p<m->q<m->p≠q->r<m->r≠p->r≠q->KB->Tz! t [R! m,R! p,R! q,R! r,Kk!]->QQ! YW! V.int->BQ! t)
theorem gHs(g:GG):DR 2 RJ SN EE! Jc8:=by
 refine C3! g.mHs.fn.II cq;obtain⟨a,ns,rfl,hS,hlen,k⟩:=h;refine Y!;have FV:ca:=k!;refine P4! cq.nd (Ay Eo Af (Ay Bj bO! Af)) (Ad (Vm! 2 cq.nd (Ay Bj QH! Q!)) (Bs! (Vm! 3 cq.nd (Ay Bj (Ay Eo (Le! L!) (Ay Bj QH! (Ay Uc Q! Af))) Q!)) (c6! i 4 te (B9 0) [(TY!,2),(TZ!,3)] cq.nd (b3! g.T.range Q!) (JG! trivial) (λy h=>vE AG! AG! h) ⟨BR!,BR!,trivial⟩ (Ej! (Dj (g9 (Yu (fi! E? Q!) (T6 (fi! E? L!)))))) Hi!) (TH! Co (e2! Q! L! A? (t9! QH!) O?))));refine jH! 0 (λv0=>⟨_,_,rfl,rfl,Px!,_,_,rfl,rfl,?_⟩);have m0:=Xq! v0 4;have m1:=CA v0 (ah! 4);obtain⟨m,em,hm3,hm6⟩:∃m:Nat,No (3+v0 % 4) m/\3<=m/\m<=6:=iM! (Fm! (3+v0 % 4)) A!;rw[em];have mp:Ei! A4!:=A!
 refine jH! 0 (λv1=>⟨_,_,rfl,rfl,A8!,_,rfl,_,_,rfl,rfl,mp,?_⟩);have p0:=Q0! (v1 / 4) A4!;have p1:=CA (v1 / 4) mp;obtain⟨p,ep,hp⟩:∃p:Nat,No (O3! (v1 / 4)) p/\p<m:=Ud! (Fm! (O3! (v1 / 4))) A!;rw[ep];refine⟨_,rfl,_,_,rfl,rfl,_,rfl,a,ns,0,rfl,hS.sq,hlen,a!,a!,λv2=>⟨_,_,rfl,rfl,A8!,_,rfl,_,_,rfl,rfl,_,_,rfl,rfl,(KA! (Ei! h4!)),_,_,rfl,rfl,_,rfl,_,_,rfl,rfl,mp,?_⟩⟩;have d0:=Q0! (v2 / 24) h4!;have d1:=CA (v2 / 24) (KA! (Ei! h4!));generalize v2 / 24 % (h4!)=dd at d0 d1;obtain⟨q,eq,hq,npq⟩:∃q:Nat,No (O3! (Jw!)) q/\q<m/\p≠q:=by have q0:=Q0! Jw! A4!;have q1:=CA (Jw!) mp;refine iM! (Fm! (O3! (Jw!))) AI!;have e:=Int.emod_add_mul_ediv (Jw!) A4!;(have e2:No (O3! (Jw!)) p:=A!);rw[e2] at e;(have e3:A4!*((Jw!) / A4!)=1+dd:=A!);generalize (Jw!) / A4!=k9 at e3;rcases(Cy! (k9<=0\/1<=k9)) with h|h;(.have:=Int.mul_le_mul_of_nonneg_left h (KA! (Sq!<=A4!));lia);.have:=Int.mul_le_mul_of_nonneg_left h (KA! (Sq!<=A4!));lia
 rw[eq];clear eq d0 d1 ep p0 p1 em m0 m1;refine Hj! A4! rfl A! A! Il!;rw[AM];refine Kk (lo:=0) (n:=m) (te:=B9 0) (caps:=[(TY!,2),(TZ!,3)]) (nN! l (ys=(Dg i p q).map V.int) OC!) (DO! Ab (Ah hl)) (c3! h.1) ?_ ?_;.rintro i ys H2 N hi ⟨el,rfl,sm⟩ hN;rw[KA! Xr!];(have r1:Dg (i+1) p q=Dg i p q++Wi! (i≠p/\i≠q) [U?]:=by unfold Dg;rw[EE,FD,ZF];congr 1;by_cases h1:i=p;(.simp[h1]);.by_cases h2:i=q;(.simp[h2]);.simp[h1,h2]);(have rl:(Dg i p q).length<=i:=by unfold Dg;rw[ZA];exact Ja! (P! CB At));have no:¬(i≠p/\i≠q)->N ((Dg i p q).map V.int) H2:=λz=>F! hN ⟨el,Ig! r1 (AD z),sm⟩;refine RH! rfl _ ?_;by_cases h1:i=p;(.rw[L7! (jP! (Ef! p)) h1];exact Cb (Cb (no λz=>z.1 h1)));.rw[cH! (jP! (Ef! p)) (M? h1 (BJ! (V.int.inj z)))];refine Ce (RH! rfl _ ?_);by_cases h2:i=q;(.rw[L7! (jP! (Ef! q)) h2];exact Cb (no λz=>z.2 h2));.rw[cH! (jP! (Ef! q)) (M? h2 (BJ! (V.int.inj z)))];refine Ce (Aj! rfl el Wc! (F! hN ⟨Ab,G9! r1 (AE Q6!) ZF,h2! hl sm⟩))
 .rintro ys H2 ⟨el,rfl,sm⟩;have hS2:=hS.keep (FF sm);(obtain⟨h3,e3,e4⟩:∃h3:Nat,h3<m/\h3≠p/\h3≠q:=by by_cases a0:0≠p/\0≠q;(.exact Ud! 0 a0);.by_cases a1:1≠p/\1≠q;(.exact Ud! 1 a1);.exact iM! 2 A!);(have lp:Ei! (Tx! YW!):=by have:S? h3∈Rg!:=MO.mpr (F3! h3 e3 e4.1 e4.2);have:=P_ this;rw[ZA];lia);refine⟨_,rfl,_,rfl,_,rfl,_,rfl,_,rfl,a,ns,0,rfl,hS2.sq,hlen,a!,a!,λv3=>⟨_,_,rfl,rfl,A8!,_,rfl,l,_,rfl,Kb! el,_,_,rfl,rfl,lp,?_⟩⟩;have j0:=Q0! (v3 / 144) (Tx! YW!);have j1:=CA (v3 / 144) lp;obtain⟨z,hz⟩:=Lq! Rg! (v3 / 144 % Tx! YW!) (by rw[ZA] at j0 j1 ⊢;lia);obtain⟨r,rfl,r1,r2,r3⟩:=MO.mp (ZP hz);refine⟨l,_,_,Ef! r,rfl,rfl,WF el,RU! hz,_,rfl,NO! 5,EJ!⟩;exact k m p q r t l _ hm3 hm6 hp hq npq r1 r2 r3 (Ak sm (Ah ht)) Ab (Ah ht _ _ el)
structure PH(p q:Nat)(G:BV)(j:Nat)(T L:D!)(E:pi):Prop where
 AF:∀t,BV!↔(CC!/\Vy!)
 hand:∀t,CN!↔t∈L
 holds:∀t u,CC!->Vy!->(u∈Ck G.holds t↔FL!)
 AJ:hM! (CC!/\((j=p\/j=q)\/t∈L))
structure JG(qs:x!)(p q:Nat)(T:D!)(L:l?)(E:pi):Prop where
 pq:p≠q
 own:KC! (fa!\/St! q)
 ed:∀t u,FL!->CC!/\u∈T
 lt:∀j,∀t∈L j,CC!
 at_:∀(j:Nat) a G,Fr! (qs[j]?)->PH p q G j T (L j) E
def XA(L:l?)(h:Nat)(l:D!):l?:=λj=>if j=h then l else L j
theorem Bp:XA L h l h=l:=e?
theorem Bm(e:j≠h):XA L h l j=L j:=Rs
theorem Je4(l:HL)(t0:T2)(a:Addr)(t:T2):Ck (l++[(t0,a,[])]) t=Ck l t:=by unfold Ck;rw[List.find?_append];cases e:jg! with | some r=>rfl | none =>by_cases c:t0=t;(.simp[c]);.simp[c]
theorem Je3(l:HL)(ta:T2)(h:D!)(t:T2)(m:Af!):Ck (Im l ta h) t=if t=ta then h else Ck l t:=by induction l with | nil=>cases m | cons z l ih =>unfold Ck Im at *;rw[AI,BU,BU];by_cases c:z.1=t;(.by_cases c2:z.1=ta;(.have:t=ta:=c.symm.trans c2;simp[c2,this]);.have:¬t=ta:=λe=>c2 (c.trans e);rw[AD c2];simp[c,this]);·(have m':Af!:=by rcases ZM m with e|e;(.exact ga e.symm c);.exact e);(have e1:Uc! ((if z.1=ta then(z.1,z.2.1,h) else z).1=t):=by by_cases c2:z.1=ta;(.rw[AE c2];simpa using c);.rw[AD c2];simpa using c);rw[e1,Pt!];exact ih m'
universe S
variable {qs:List (Addr×BV)}{p q:Nat}{T:List T2}{L:Nat->List T2}{E:T2->T2->Prop}{i:Nat}{a:Addr}{G G':BV}{D:T2->Prop}{m n:Nat}{sh:Int}{ls:List LT}
theorem JG.set{T':D!}{L':l?}{E':pi}(x:FK!)(own:∀t∈T',fa!\/St! q)(ed:∀t u,E' t u->t∈T'/\u∈T')(lt:∀j,∀t∈L' j,t∈T')(o:∀(j:Nat) G,j≠i->PH p q G j T (L j) E->PH p q G j T' (L' j) E')(hi:PH p q G' i T' (L' i) E'):JG (bq! G') p q T' L' E' :=⟨x.pq,own,ed,lt,λj b G2 e=>by rcases Ca! with⟨rfl,rfl,_⟩|⟨ne,e⟩;(.exact hi);.exact o j G2 ne (x.at_ j b G2 e)⟩
theorem JG.same(x:FK!)(hi:IO!)(o:∀t,AT! G'.AF.map↔BV!)(h:G'.hand=G.hand)(l:cj!)(r:rJ! G'.AJ.map Vh!):gZ! G':=by have z:=Ms!;exact x.set x.own x.ed x.lt (λ_ _ _ z=>z) ⟨λt=>(o t).trans (z.AF t),G! h z.hand,G! l z.holds,h? (z.AJ t (r t ht))⟩
theorem Lh{l:T!}{t:T2}{v:Int}(h:Af!)(u:T2):u∈Zk!↔u∈N7! :=⟨λz=>(Cu l t v).2.2 u z |>.elim (λe=>e▸h) id,(Cu l t v).2.1 u⟩
theorem JG.make(x:FK!)(hi:IO!)(ok:f?)(nu:LF!)(pq:i=p\/i=q)(ad:Addr):ii∉T/\JG (bq! ga!) p q (T++qU!) (XA L i (L i++qU!)) E:=by
 have z:=Ms!;have no:ii∉T:=λh=>by have:=(z.AF _).mpr ⟨h,nu⟩;have:=(ok.new _ this).2;exact ga this (Int.lt_irrefl _)
 refine⟨no,x.set II! (λt u e=>Oh! (x.ed t u e).1 (j? (x.ed t u e).2)) (eY!) (λj G2 ne y=>?_) ?_⟩;.rcases DY! with h|h;(.exact x.own t h);.rw[ZK h];exact pq.imp (λe=>nu.trans (Fd!)) λe=>nu.trans (Fd!)
 .by_cases e:j=i;(.subst e;rw[Bp] at ht;rcases DY! with h|h;(.exact j? (x.lt _ t h));.exact Bt! h);.rw[Bm e] at ht;exact j? (x.lt _ t ht)
 ·(have nn:∀t,t∈T++qU!->Vy!->CC!:=λt h e=>by rcases ZI h with h|h;(.exact h);.rw[ZK h] at e;have e:G.BR=EA!:=e;exact Ek! A! ne);rw[Bm ne];exact⟨λt=>(y.AF t).trans ⟨λh=>Oh! h.1 h.2,λh=>⟨nn t h.1 h.2,h.2⟩⟩,y.hand,λt u h e=>y.holds t u (nn t h e) e,h? (Oh! (y.AJ t ht).1 (y.AJ t ht).2)⟩
 .rw[Bp];refine⟨EH!,EH!,λt u ht e=>?_,h? (Oh! (z.AJ t ht).1 ((z.AJ t ht).2.imp id λh=>B0!))⟩;(.show fD!↔_;rw[ZF,DB,DB,z.AF];constructor;(.rintro(h|h);(.exact⟨H! h.1,h.2⟩);·(have h:Hy!:=x?);exact HS! (y! (by simp[h])) h nu);.rintro⟨h|h,e⟩;(.exact Am! h e);.exact y! (x?));(.show LA!↔_;rw[DB,DB,z.hand]);.show u∈Ck (G.holds++[(ii,ad,[])]) t↔_;rw[Je4];rcases DY! with h|h;(.exact nz!);.have h:=ZK h;constructor;(.intro hu;obtain⟨r0,h0,e0,_⟩:=Ln hu;(have:BV!:=Sv! ok.ke e0 (BC h0));have:=(z.AF t).mp this;rw[h] at this;exact ga this.1 no);.intro hu;have:=(x.ed t u hu).1;rw[h] at this;exact ga this no
theorem JG.hold{ta tb:T2}(x:FK!)(hi:IO!)(ok:f?)(nu:LF!)(ha:ta∈T)(hb:tb∈T)(e1:No ta.1 i):JG (bq! Mq!) p q T L (λt u=>FL!\/(t=ta/\u=tb)):=by
 have z:=Ms!;refine x.set x.own (λt u h=>h.elim (x.ed t u) λh=>⟨h.1▸ha,h.2▸hb⟩) x.lt (λj G2 ne y=>⟨y.AF,y.hand,λt u h e=>(y.holds t u h e).trans ⟨P?,l4! h.elim ?_⟩,y.AJ⟩) ⟨z.AF,z.hand,λt u h e=>?_,z.AJ⟩;.rw[h.1,e1] at e;exact WG! (j=i) ne
 .show u∈Ck (Im G.holds ta gX!) t↔_;rw[Je3 _ _ _ _ (EW! ok.ke (V3! z.AF h e))];by_cases c:t=ta;(.subst c;rw[e?,DL,nz!];exact⟨l4! h.imp (n? h),l4! h.imp h.2⟩);.rw[IR,nz!];exact⟨P?,l4! h.elim (PU! c)⟩
theorem JG.free{tb:T2}(x:FK!)(hi:IO!)(pq:i=p\/i=q){l:D!}(hl:∀t,C1!↔(t∈L i/\t≠tb)):JG (bq! (Je G tb)) p q T (XA L i l) E:=by
 have z:=Ms!;refine x.set x.own x.ed (eY!) (λj G2 ne y=>dI! ne y) ?_;.by_cases e:j=i;(.subst e;rw[Bp] at ht;exact x.lt _ t (PQ! hl ht));.rw[Bm e] at ht;exact x.lt _ t ht
 .rw[Bp];refine⟨z.AF,EH!,z.holds,h? ⟨(z.AJ t ht).1,H! pq⟩⟩;show t∈P2!↔_;rw[HC,z.hand,hl]
theorem JG.out{tb:T2}{v:Int}(x:FK!)(hi:IO!)(ht:EI!):gZ! (Jv G tb v) :=x.same hi (λt=>Lh ht t) rfl rfl OU!
theorem JG.back{tb:T2}{wt:Int}(x:FK!)(hi:IO!)(w:Wt Bm! G tb wt G'):gZ! G':=by
 rcases w with⟨k,_⟩|⟨k,_⟩|⟨_,rfl⟩;.exact Qy!
 .exact Qy!
 .refine x.same hi (EH!) rfl rfl OU!;show YI! YH G wt↔_;unfold YH;by_cases c:EI!;(.rw[Ch];exact Lh c t);.rw[IR]
theorem JG.OS{tb:T2}{wt:Int}(x:FK!)(hi:IO!)(nu:LF!)(w:Wt SL G tb wt G')(ne:tb.1≠U?)(ht:tb∈T){l:D!}(hl:∀t,C1!↔(t∈L i\/CF!)):JG (bq! G') p q T (XA L i l) E:=by
 have z:=Ms!;rcases w with⟨_,⟨e,_⟩|⟨_,rfl⟩⟩|⟨k,_⟩|⟨k,_⟩;.exact HO! e.trans nu ne
 .refine x.set x.own x.ed (λj t h=>?_) (λj G2 n2 y=>dI! n2 y) ?_;(.by_cases e:j=i;(.subst e;rw[Bp] at h;rcases(hl t).mp h with h|h;(.exact x.lt _ t h);.rw[h];exact ht);.rw[Bm e] at h;exact x.lt _ t h);.rw[Bp];refine⟨z.AF,EH!,z.holds,Es! ?_⟩;(.show t∈Fz!↔_;rw[DL,z.hand,hl]);.rcases tT! t h with h|h;(.rw[h];exact⟨ht,N! ((hl tb).mpr (y! rfl))⟩);.exact⟨(z.AJ t h).1,(z.AJ t h).2.imp id λh=>E6! (hl t).mpr h⟩
 .exact Qy!
 .exact Qy!
theorem JG.clean{R:D!}(x:FK!)(hi:IO!)(hR:KC! (JB!->A7!)):gZ! (Fa G R):=by
 have z:=Ms!;refine x.set x.own x.ed x.lt (λ_ _ _ y=>y) ⟨EH!,z.hand,λt u h e=>?_,XZ! z.AJ Hl!⟩;.show AT! (G.AF.filter (Et! (r.1∈R))).map↔_;rw[<-z.AF];constructor;(.exact λh=>Hl! h);.intro h;have h2:=(z.AF t).mp h;obtain⟨r,hr,e⟩:=DS!;exact jf! (CV! hr (by simpa [e] using hR t h2.1 h2.2))
 .show u∈Ck (G.holds.filter (Et! (r.1∈R))) t↔_;rw[Nk (p:=V9!) (Ct! (hR t h e))];exact nz!
theorem Wg.AF(x:B6!){h:Nat}{b:Addr}{t:T2}(eq:qs[h]?=B! (b,G))(o1:BV!):Eo!=Qo! eT!+Ct t ls:=by
 have lm:=x.wl.len;have hm:h<m:=gt! eq
 obtain⟨s,nu⟩:=x.BR eq;have t1:Cg!:=jS! o1
 have sO:Qo! (λk=>V_ t qs k)=jl!:=Tf hm λk nk=>by by_cases hk:k<m;(.obtain⟨⟨b',G'⟩,OM⟩:=HT! qs k;(have e4:V_ t qs k=Bp! G'.AF:=cl! OM);rw[e4];exact x.wl.jL (r:=(b',G')) OM (DG! t1));.unfold V_;rw[AW! CS];rfl
 have oh:V_ t qs h=Eo!:=cl! eq
 have sm:=x.wl.sum t (wp ⟨h,b,G,eq,o1⟩);rw[J8,lm,sO,oh] at sm;lia
theorem Jkl(x:B6!)(t:T2):∀k∈List.range m,0<=T2! k:=λk hk=>by have lm:=x.wl.len;obtain⟨⟨b',G'⟩,OM⟩:=S9! qs k (BJ! (BI.mp hk));(have e:OK t qs k=LX!:=UI! OM);rw[e];exact Kh (x.BR OM).1.nn t
theorem Oq{f:Cb!}{j:Nat}:∀{l:BB!},(∀x∈l,0<=f x)->j∈l->dj! (f j)
 | [],_,h=>DQ!
 | a::l,nn,h=>by rw[AI,CK];(have nl:0<=b6! f:=by (have:∀{l:BB!},(∀x∈l,0<=f x)->0<=b6! f:=λ{l}=>by induction l with | nil=>intro _;exact AL! | cons b l ih=>intro h;rw[AI,CK];have:=ih (l0! h);have:=Cj! b;lia);exact this (l0! nn));rcases ZM h with rfl|h;(.lia);.have:=Oq (l0! nn) h;have:=nn a (AV!);lia
def NoP(ls:v?):Prop:=A0! (VE!/\l.kind≠Dh!)
inductive Lk(E:pi)(L:D!)(h:Int):J?
 | hand {t:T2} (_:t∈L) (_:t.1=h):Lk E L h t
 | kJ {u t:T2} (_:E u t) (_:u.1≠h) (_:t.1=h):Lk E L h t
 | near {u t:T2} (_:Lk E L h u) (_:E u t) (_:t.1=h):Lk E L h t
theorem Lk.own(h:Lk E l j t):t.1=j:=by cases h<;>assumption
theorem JG.lk{R:D!}{kk:Nat}(x:FK!)(w:B6!)(np:NoP ls)(hp:p<m)(hq:q<m)(hi:IO!)(rc:sW! kk){t:T2}(h:Lk E (L i) U? t):A7!:=by
 have z:=Ms!;obtain⟨s,nu⟩:=w.BR hi;have key:∀{t},CC!->JB!->Vg!:=λ{t} h e=>EW! s.ok.ke (V3! z.AF h e)
 have start:∀{t},CN!\/t∈J5 G->Vg!->A7!:=λ{t} h k=>(rc.sub).2 t (AB.mpr ⟨DB.mpr h,by simpa using k⟩);induction h with | hand h e=>exact start (P? ((z.hand _).mpr h)) (key (v! x.lt h) e) | @kJ u t e n1 e1 =>obtain⟨hu,ht⟩:=x.ed u t e;obtain⟨j,hj,ej⟩:∃j:Nat,j<m/\No u.1 j:=gk! x.own u hu ⟨p,hp,e⟩ (NQ! e);obtain⟨⟨b,G2⟩,e2⟩:=Nm! qs j w.wl.len hj;have z2:=x.at_ j b G2 e2;have hd:=(z2.holds u t hu ej).mpr e;(have r1:1<=Bp! G2.AJ:=by rcases w.rc j b G2 e2 t (Of hd) (P! e1 (λz=>n1 (ej.trans z.symm))) with h|⟨l,hl,_,h|h⟩;(.exact h);(.exact PU! (np l hl).1);.exact PU! (np l hl).2);have o1:=V3! z.AF ht e1;have so:=w.AF hi o1;have s1:=Oq (f:=eT!) (Jkl w t) (BI.mpr hj);(have e3:OK t qs j=Bp! G2.AJ:=UI! e2);have l0:=Js! Ky w.wl.ok;refine start (y! (AB.mpr (d? o1))) (key ht e1);(have:Wl!:=by have s1:T2! j<=_:=s1;lia);simpa using this | @near u t h e e1 ih =>obtain⟨hu,ht⟩:=x.ed u t e;have eu:=h.own;refine(rc.closed λ_ h=>DQ!) u ih t (AB.mpr (d? ((z.holds u t hu eu).mpr e)));simpa using key ht e1
universe E
theorem uT(g:GG):DR 3 QX RW CL! (b2! N5):=LM! (Jd6 g.mWM.fn g.T g.TW g.mWH g.mM (gMk g)).mono A5!
theorem ng(g:GG):Vl! 5 LO MA Qm! N6:=LM! (Jd8 g.mWHo.fn g.T g.TW g.mWH g.mHo (gHo g)).mono A5!
theorem Jk3(g:GG):Vl! 4 LQ MC P3! N8:=LM! (Jea g.mWFr.fn g.T g.TW g.mWH g.mFr (gFr g)).mono A5!
theorem vD(g:GG):Vl! 5 KH KO Qn! Jg:=LM! (gSd g).mono A5!
theorem nZ(g:GG):Vl! 7 KI KP CU! Gb:=LM! (gDl g).mono A5!
structure cn(H:Hp)(hd lp lq:Addr)(p q:Nat)(L:l?):Prop where
 ob:fE! hd SE!
 ha:ZL! (Nr! lp) (AX H as (L p))
 hb:ZL! (Nr! lq) (AX H as (L q))
 ne:lp≠lq
theorem cn.keep(x:jx!)(k:XG! (b=hd\/lm!))(kt:u?):cX! H' L:=by obtain⟨as,a1,a2⟩:=x.ha;obtain⟨bs,b1,b2⟩:=x.hb;exact⟨h! k Bv! x.ob,⟨as,h! k P6! a1,g9! a2⟩,⟨bs,h! k iE! b1,g9! b2⟩,x.ne⟩
theorem cn.has{b:Addr}(x:jx!)(h:b=hd\/b=lp\/b=lq):∃o,Dt!/\(∀xs,o≠RL!)/\∀ob u,o≠Zf!:=by
 obtain⟨as,a1,a2⟩:=x.ha;obtain⟨bs,b1,b2⟩:=x.hb;rcases h with rfl|rfl|rfl;.exact Kv! x.ob
 .exact Kv! a1
 .exact Kv! b1
theorem cn.get(x:jx!)(pq:p≠q)(hh:Rk!):∃l as,(l=lp\/l=lq)/\DV H hd (dj r?) (aw! l)/\Qe!/\AX H as (L h) /\ ∀(t:Addr)(th:T2),Ck!->cX! (QD! (JN!++[HJ!])) (XA L h (L h++[th])):=by
 obtain⟨as,a1,a2⟩:=x.ha;obtain⟨bs,b1,b2⟩:=x.hb;have g:=DV.k (k:=C9! r?) x.ob;have n1:hd≠lp:=Mb! x.ob a1;have n2:hd≠lq:=Mb! x.ob b1;have tn:∀{u:Addr} {ys} {l:Addr} {xs},KT! u ys->FM!->u≠l:=λe1 e2=>Mb! e1 e2;have qJ:∀{l:Addr} {xs:E!} {o:HO},FM!->∀{as:J!} {ts:D!},AO!->bN! QI!:=λe _ _ th=>Aw (λ_ _ e2=>i! (tn e2 e) e2) th;rcases hh with rfl|rfl;.refine⟨lp,as,bn,?_,a1,a2,λt th ht=>?_⟩;(·(have e:Ca [(C9! r?,m? lp),qK! Th! lq] (Sum.inl r?)=B! (V.ref lp):=by unfold Ca;simp);rw[e] at g;exact g);.refine⟨i! n1 x.ob,Go (as++[t]) hi!,Go bs (i! x.ne.symm b1),x.ne⟩;(.rw[Bp];exact T8! Qx (qJ a1 a2) (Hd! (tn ht a1) ht));.rw[Bm pq.symm];exact qJ a1 b2
 .refine⟨lq,bs,EK!,?_,b1,b2,λt th ht=>?_⟩;(·(have e:Ca [(f7!,m? lp),qK! r? lq] (Sum.inl r?)=B! (V.ref lq):=by unfold Ca;have:¬(KK! (S? p)):=M? pq A!;simp[this]);rw[e] at g;exact g);.refine⟨i! n2 x.ob,Go as (i! x.ne a1),Go (bs++[t]) hi!,x.ne⟩;(.rw[Bm pq];exact qJ b1 a2);.rw[Bp];exact T8! Qx (qJ b1 b2) (Hd! (tn ht b1) ht)
structure B1(H:Hp)(p0 hd lp lq:Addr)(W:DI)(m n d B:Nat)(al:M!)(p q:Nat)(T:D!)(L:l?)(E:pi):Prop where
 wi:∃D,af! H p0 0 al []
 pc:gY!
 hp:p<m
 hq:q<m
 tn:T.Nodup
 ln:∀j,DI! L j
 hl:jx!
 off:∀b,(b=hd\/lm!)->b∉MW!
def jA(p0 lp lq:Addr)(W:DI)(H H':Hp):Prop:=cr (Dt!->b∉MW!->b≠lp->b≠lq->FA!)
def ON(lp lq hs:Addr)(H H':Hp):Prop:=lr! (b≠hs) (NW! (.BF xs))
theorem ON.trans{lp lq hs:Addr}{H H1 H2:Hp}(a:Wh! H1)(b:ON lp lq hs H1 H2):Wh! H2:=λc xs e n1 n2 n3=>b c xs (a c xs e n1 n2 n3) n1 n2 n3
theorem ON.same{lp lq hs:Addr}{H H':Hp}(s:KB):Wh! H':=λc xs e _ _ _=>E9! s
universe S
variable {H H':Hp}{p0 hd lp lq:Addr}{W W':DI}{m n d B n' d' B':Nat}{al al':List LL}{p q:Nat}{T T':List T2}{L L':Nat->List T2}{E E':T2->T2->Prop}
theorem B1.CQ(x:J3!)(f:M0!):u?:=by
 obtain⟨D,wi⟩:=x.wi;have go:MK! ((∃xs,o=RL!)\/∃ob u,o=Zf!):=λb o e ho=>by (have ne:∀c,(c=hd\/c=lp\/c=lq)->b≠c:=λc hc z=>by obtain⟨o2,e2,n1,n2⟩:=x.hl.has hc;rw[<-z,e] at e2;cases e2;rcases ho with⟨xs,rfl⟩|⟨ob,u,rfl⟩;(.exact n1 _ rfl);.exact F! n2 rfl);refine f b o e (AI!) (ne _ P6!) (ne _ iE!);obtain⟨o2,e2,n1,n2⟩:=wi.wa.some_at z;rw[e] at e2;cases e2;rcases ho with⟨xs,rfl⟩|⟨ob,u,rfl⟩;(.exact n1 _ rfl);.exact F! n2 rfl
 exact⟨λa xs e=>go a _ e (A1! AG!),λa o u e=>go a _ e (wp (D0! _))⟩
theorem B1.NG(x:J3!)(f:M0!):Qc!:=λb xs e n1 n2 n3=>by obtain⟨D,wi⟩:=x.wi;exact f b _ e (wi.wa.IU e n1) n2 n3
theorem B1.same(x:J3!)(s:KB):TB! H' W n d B al T L E:=by obtain⟨D,wi⟩:=x.wi;exact lX! D (wi.same s) x.pc x.ln (VR! dP! (FF s)) x.off
theorem Gi(f:Mw!):M0!:=λb o e n1 _ _=>f b o e n1 (D9!)
theorem B1.X_(x:J3!){D':J?}(wi:Rf! H' W' D' n' d' B' al')(f:Mw!)(fp:pq!):cX! H' L/\(∀b,(b=hd\/lm!)->b∉Bv p0 W')/\u?:=by
 have kt:=x.CQ (Gi f);refine⟨VR! (Dk! (f b o e (x.off b hb) D9!)) kt,Sh! ?_,kt⟩;rcases DV! fp b z with h|h|h;.exact x.off b hb h
 .cases h
 .obtain⟨o,e,_⟩:=x.hl.has hb;rw[h] at e;cases e
theorem Sy(D:J?)(wi:af! H p0 0 al []){l:Addr}{o:HO}{xs:E!}(hl:FM!)(ho:l∉MW!):af! QI! p0 0 al []/\BM H QI!:=by have kt:BM H QI!:=iN! (nY! hl) (nY! hl);refine⟨{ wi with wa:=wi.wa.keep λb u hb e=>?_,lw:=Eg wi.lw kt,at_:=ly! },kt⟩;rw[Ac (EY! (b≠l) (Qz! ho))];exact e
universe E
theorem hU:I? [Kf!,a9!,rD!,"_law_thing"] oG! Yq:={}
inductive Jf4(vs:E!)(H:Hp)(Q:VK)(E:XK):Prop
 | mk (p0 hd lp lq:Addr) (W:DI) (m n d B p q h:Nat) (T:D!) (L:l?) (Ed:pi) (_:vs=[Fw!,e3!,l! hd]) (_:Rk!) (_:tS! [] Ed) (_:n<40) (_:d<800) (_:B<=400) (_:Wj! L h)
   (_:∀(t:Addr)(th:T2)(W':DI)(H':Hp),jz! Fb! GM! B (T++[th]) (XA L h (L h++[th])) Ed->th∉T->KK! th.1->k0! th->M0!->NE->BQ! t)
theorem mQ(g:GG):DR 4 RF SG oG! Jf4:=by
 refine C3! g.mMd.fn.II hU;obtain⟨p0,hd,lp,lq,W,m,n,d,nB,p,q,h,T,L,Ed,rfl,hh,x,hn,hd9,hB,hz,k⟩:=h;refine Y!;have hu:=V?;have aW:WP 3:=k!;refine TC! 3 hU.nd (ng! g.mWM.mt uT aW g.mWM.bd) (gx! CO CN Df (Ci hu L! Q!) A? (Az (pv 3)));obtain⟨D,wi⟩:=x.wi;have hm:h<m:=IQ! (e▸x.hp) (e▸x.hq);obtain⟨⟨a,G⟩,hq⟩:=nJ! wi.wg.wl.len;have iw:fr! a:=YV!;obtain⟨dx,hp⟩:=wi.wa.ob;obtain⟨sd,nu⟩:=wi.wg.BR hq;refine iY! dx hp ?_;refine ps! Vh nB (lB! (∃t ad,v=HJ!/\k0! ii/\HI! h (a,ga!))) wi C! C! GM Rj! (λt ad W' H' _ et _ e=>⟨rfl,rfl,t,ad,rfl,et,Go!⟩);obtain⟨rfl,rfl,t,ad,rfl,et,eq⟩:=r;obtain⟨bu,WN,LB⟩:=x.X_ XI fr fp;obtain⟨no,lO⟩:=x.pc.make hq sd.ok nu hh ad;obtain⟨l,as,el,gl,hl,th,put⟩:=bu.get x.pc.pq hh;refine⟨_,rfl,_,rfl,hd,_,rfl,gl,Bk! hl,_,rfl,l,_,_,rfl,rfl,hl,Wb! Cf!,?_⟩;have ho:l∉Bv p0 W':=WN l (y! el);obtain⟨IH,bG⟩:=Sy D' XI (o:=.BF (JN!++[HJ!])) hl ho;refine t? (k t ii W' _ ⟨⟨D',IH⟩,G! eq lO,x.hp,x.hq,jn! x.tn (lC! no (ZK hv)),a3!,put t _ et,WN⟩ no nu (P! (Ac (Fl et hl (by intro z;cases z))) et) (λb o e n1 n2 n3=>?_) IS);.by_cases e:j=h;(.rw[e,Bp];exact jn! (x.ln h) (no (Sv! (ZK hv) z (x.pc.lt h u hu))));.rw[Bm e];exact x.ln j
 .rw[Ac (EY! (b≠l) (λz=>el.elim (λe=>Xh!) λe=>bd! n3))];exact fr b o e n1 D9!
theorem WI.CQ{H H':Hp}{p:Addr}{W:DI}{D:J?}{m n d A B:Nat}{al:M!}{ys:F?}(x:Db)(f:j7!):u?:=by
 have no:cr (Dt!->((∃xs,o=RL!)\/∃ob u,o=Zf!)->EF!/\b∉ys.flatMap Dz):=λb o e c=>by refine⟨AI!,AI!⟩;(.obtain⟨o',e',h1,h2⟩:=x.wa.some_at z;rw[e] at e';cases e';rcases c with⟨xs,c⟩|⟨ob,u,c⟩;(.exact h1 _ c);.exact F! h2 c);.obtain⟨y,hy,hb⟩:=DS.mp z;obtain⟨o',e',h1,_,h2⟩:=f9!;rw[e] at e';cases e';rcases c with⟨xs,c⟩|⟨ob,u,c⟩;(.exact h1 _ c);.exact F! h2 c
 exact⟨λa xs e=>f a _ e (no a _ e (A1! (BY! xs))).1 (no a _ e (A1! (BY! xs))).2,λa o u e=>f a _ e (no a _ e (wp (BT! u rfl))).1 (no a _ e (wp (BT! u rfl))).2⟩
theorem WI.more(x:Db)(h:d<=d')(hB:B<=B'):WI H p W D m n d' A B' al ys:=by have a2:=x.ez;have a3:=x.fz;exact{ x with ez:=A!,fz:=A!,pb:=⟨x.pb.1,AR x.pb.2 hB⟩ }
theorem B1.more(x:J3!)(h:d<=d')(hB:B<=B'):qu! n d' B' al T L E:=by obtain⟨D,wi⟩:=x.wi;exact lX! D (wi.more h hB) x.pc x.ln x.hl x.off
theorem Rj{H:Hp}{p0:Addr}{W:DI}{D:J?}{m n d B o h:Nat}{a b:Addr}{G:BV}{th:T2}{Q:VK}{E:XK}(wi:af! H p0 0 [] [])(hn:AJ!)(hB:B<=470)(hd:d<800)(ho:Fr! (W.qs[o]?))(hh:h<m)(eb:s1! th)(ht:th∈G.hand)(e1:No th.1 o)(k:∀(BR:Int) (H1:Hp),(∃W1 dx,Yy! H1 p0 CW Eu W1)->(∀Q',(∀(v:V) (W':DI) (D':J?) (a2:Addr) (G2 WK:BV) (x:Int) (H':Hp),Zt! H' (d+2) (B+5) [] []->I8! ((W.qs.set o fm!)[h]?) a2->Wt SL G2 th x WK->W'.qs=(W.qs.set o fm!).set h (a2,WK)->pq!->Mw!->NE->Q' v H')->Gb (Ly! BR) H1 Q' E0)->Q (g! BR) H1):CR! Jg [Fw!,R! th.1,e3!,Os]:=by
 obtain⟨s,nu⟩:=wi.wg.BR ho;have iw:JV W th.1 a G:=⟨FP! e1,ut e1 AM ho⟩;have els:W.ls=[]:=by have:=L? wi.lw;exact BJ.mp this
 refine ov! Jap (B+5) (Sg! (EL=[]/\v=gr!/\al'=[.w ⟨SL,th.1,r?,th,W.share⟩]/\(∃t,W'.ls=fp!)/\HI! o (a,Jv G th (KP! th+W.share)))) wi hn C! C! eb ht e1 GM (λv W1 D1 OJ aO H1 r fp1 JU KW xg=>?_) (λW' t H' nw e=>Wp! rfl ⟨t,Cx! nw.ls els⟩ (by rw[e1,AM] at e;exact e));obtain⟨rfl,rfl,rfl,⟨t,el⟩,eq⟩:=r;have m1:X9! W1.qs:=G! eq (mN ho rfl)
 have JU:=N6! JU.dn m1 wi.md CT!;obtain⟨dx,hp⟩:=JU.wa.ob;refine k Ko! H1 ⟨W1,dx,hp⟩ λQ' k'=>?_;have lw:=JU.lw;rw[el] at lw;cases lw with | cons r0 pr =>refine Sg (A':=0) (B':=B+5) (l1:=[]) (l2:=[]) (a:=[]) (b:=[]) (R:=lB! (∃a2 G2 WK x,I8! (W1.qs[h]?) a2/\Wt SL G2 th x WK/\W'.qs=W1.qs.set h (a2,WK))) JU hn C! el rfl O! r0 O! CT! C! (λv W2 D2 al2 ys2 H2 r fp2 IH KC xc=>?_) (show(SL:Str)≠Di! by decide +kernel) (λy W' a2 G2 WK H' _ hi w e=>⟨rfl,rfl,a2,G2,WK,_,N? (AM h) hi,w,dS! (AM h)⟩);obtain⟨rfl,rfl,a2,G2,WK,x,hi,w,e2⟩:=r;have md:WK.AW=G2.AW:=w.ZQ.2.2.1;(have m2:Cd W2.qs=Cd W1.qs:=K2! (mN hi md));have IH:=N6! IH.dn m2 JU.md CT!;rw[eq] at hi e2;refine k' v W2 D2 a2 G2 WK x H2 IH hi w e2 (F9!) (λb o e n1 n2=>?_) (xc.trans xg);(.rcases Ci! fp2 with h|h|h;(.exact DV! fp1 b h);(.cases h);.by_cases hw:b∈MW!;(.exact H! hw);.refine B4! ?_;cases c:H b with | none=>rfl | some v=>rw[KW b v c hw D9!] at h;cases h);.refine KC b o (KW b o e n1 n2) (AI!) n2;rcases DV! fp1 b z with h|h|h;(.exact n1 h);(.exact n2 h);.rw[e] at h;cases h
theorem Jkg:I? Zq! Zq! Tz:={}
def Gr(L L':l?)(h:Nat)(th:T2):Prop:=(∀j,∀t∈L j,t∈L' j)/\th∈L' h/\(∀j,D6! L' j (o? L j+1))/\∀j,j≠h->L' j=L j
inductive Jc9(vs:E!)(H:Hp)(Q:VK)(E:XK):Prop
 | mk (p0 hd lp lq t:Addr) (W:DI) (m n d B p q h o:Nat) (T:D!) (L:l?) (Ed:pi) (th:T2) (_:vs=[Fw!,R! r?,HJ!,l! hd]) (_:Rk!) (_:tS! [] Ed) (_:n<40) (_:d<700) (_:B<=400) (_:Wj! L h) (_:Ck!) (_:th∈T) (_:No th.1 o) (_:th∈L o)
   (_:∀(v:V)(L':l?)(W':DI)(H':Hp),jz! n (d+2) (B+5) T L' Ed->Gr L L' h th->M0!->NE->IG!)
theorem gGv(g:GG):DR 8 RL SQ Zq! Jc9:=by
 refine C3! g.mGv.fn.II Jkg;obtain⟨p0,hd,lp,lq,t,W,m,n,d,nB,p,q,h,o,T,L,Ed,th,rfl,hh,x,hn,hd9,hB,hz,et,hT,e1,hL,k⟩:=h;refine Y!;have hu:=V?;have cP:WP 5:=k!;have fE:WP 7:=k!;refine Bq! (Ag (Bo (A5 (Nn (Mw hr)) L! (Ci hu A? Q!) rfl) (Ad (by! g.TW.cl g.mWDe.mt (nZ g) fE g.mWDe.bd Au (wP (SB! g.mWSe.mt vD g.mWSe.bd (CK! L!) Q! L!))) (SO! (Ci hu A? Q!) L!)) A8));obtain⟨D,wi⟩:=x.wi;obtain⟨l,as,el,gl,hl,ths,put⟩:=x.hl.get x.pc.pq hh;refine⟨_,rfl,_,rfl,_,rfl,hd,_,rfl,gl,t,l,th,as,L h,rfl,rfl,et,hl,ths,_,rfl,?_⟩;by_cases c:th∈L h;.rw[WR!];exact Cb (k _ L W H (x.more (HW ..) (HW ..)) ⟨λ_ _ z=>z,c,λ_=>HW ..,λ_ _=>rfl⟩ (λ_ _ e _ _ _=>e) rfl)
 .rw[Pt!];have oh:o≠h:=M? c (z▸hL);have hm:h<m:=IQ! (e▸x.hp) (e▸x.hq);(have om:o<m:=by rcases x.pc.own th hT with e|e;(·(have:o=p:=A!);rw[this];exact x.hp);·(have:o=q:=A!);rw[this];exact x.hq);obtain⟨⟨a,G⟩,hq⟩:=cI! o wi.wg.wl.len om;have z:=x.pc.at_ o a G hq;obtain⟨dx,hp⟩:=wi.wa.ob;refine Ce ⟨_,rfl,p0,dx,_,rfl,hp,Fq!,_,rfl,p0,dx,_,rfl,hp,Fq!,_,rfl,t,_,0,_,rfl,rfl,E0!,ww,_,rfl,_,rfl,?_⟩;refine Rj wi C! C! C! hq hm et ((z.hand th).mpr hL) e1 ?_;rintro BR H1 ⟨W1,FK,HQ⟩ del;refine del _ λv W2 D2 a2 G2 WK xx H2 IH mG wt e2 fp fr IS=>?_;have lO:=x.pc.out (v:=KP! th+W.share) hq ((z.AF th).mpr ⟨hT,e1⟩);(have yh:G2.BR=r?:=by have:=(IH.wg.BR (i:=h) (q:=a2) (G:=WK) (aq! e2 EZ (AX! mG))).2;rw[<-wt.ZQ.2.2.2.1];exact this);have sV:=lO.OS mG yh wt (DG! e1) hT (l:=L h++[th]) (λt=>R? DB CC);obtain⟨bu,WN,LB⟩:=x.X_ IH fr fp;obtain⟨l1,JL,gp,gl1,ij,ve,vv⟩:=bu.get x.pc.pq hh;refine⟨_,rfl,_,rfl,hd,_,rfl,gl1,Bk! ij,_,rfl,l1,_,_,rfl,rfl,ij,Wb! (L? ve),?_⟩;have ho:l1∉Bv p0 W2:=WN l1 (y! gp);obtain⟨LD,OG⟩:=Sy D2 IH (o:=.BF (Dy! JL.map++[HJ!])) ij ho;refine k _ _ W2 _ (lX! D2 LD (K2! sV) a3! (vv t th (v! LB.BG et)) WN) ⟨eY!,dM!,a3!,λj e=>Bm e⟩ (λb o e n1 n2 n3=>?_) IS;(.by_cases e:j=h;(.rw[e,Bp];exact jn! (x.ln h) (lC! c (ZK hv)));.rw[Bm e];exact x.ln j);(.by_cases e:j=h;(.rw[e,Bp];rw[e] at ht;exact j? ht);.rw[Bm e];exact ht);(.by_cases e:j=h;(.rw[e,Bp,ZE];exact At);.rw[Bm e];exact HW ..);.rw[Ac (EY! (b≠l1) (λz=>gp.elim (λe=>Xh!) λe=>bd! n3))];exact fr b o e n1 D9!
theorem B1.put{H:Hp}{l:Addr}{xs:E!}{o:HO}(x:J3!)(hl:FM!)(ho:l∉MW!)(n1:l≠lp)(n2:l≠lq):TB! QI! W n d B al T L E/\BM H QI!:=by
 obtain⟨D,wi⟩:=x.wi;obtain⟨IH,kt⟩:=Sy D wi (o:=o) hl ho;refine⟨⟨⟨D,IH⟩,x.pc,x.hp,x.hq,x.tn,x.ln,VR! (λb u hb e=>?_) kt,x.off⟩,kt⟩;rw[Ac];.exact e
 .rcases hb with rfl|rfl|rfl;(.exact Fl e hl (by intro z;rw[x.hl.ob] at e;cases e;cases z));(.exact n1.symm);.exact n2.symm
structure Rn(L:l?)(p q:Nat)(T:D!)(z:Nat):Prop where
 own:KC! (∀o:Nat,St! o->t∈L o)
 len:∀j,o? L j<=z
 aS:∀j,j≠p->j≠q->L j=[]
structure YL(H:Hp)(rl lp lq:Addr)(W:DI)(Rg:D!):Prop where
 at_:ZL! (Nr! rl) (AX H as Rg)
 n1:rl≠lp
 n2:rl≠lq
 hs:rl≠W.hs
theorem YL.off{H:Hp}{rl:Addr}(x:SX! Rg)(y:J3!):rl∉MW!:=by obtain⟨as,e,_⟩:=x.at_;obtain⟨D,wi⟩:=y.wi;exact wi.wa.IU e x.hs
theorem YL.next{H H':Hp}{rl:Addr}(x:SX! Rg)(y:J3!)(f:M0!)(e:NE):YL H' rl lp lq W' Rg:=by obtain⟨as,e1,th⟩:=x.at_;exact⟨⟨as,f _ _ e1 (x.off y) x.n1 x.n2,AX.keep (y.CQ f) th⟩,x.n1,x.n2,Hs! x.hs⟩
theorem YL.same{H H':Hp}{rl:Addr}(x:SX! Rg)(s:KB):YL H' rl lp lq W Rg:=by obtain⟨as,e1,th⟩:=x.at_;exact⟨⟨as,H9! s,Bi! s th⟩,x.n1,x.n2,x.hs⟩
theorem ON.trans'{lp lq hs rl:Addr}{H H1:Hp}{o:HO}(a:Wh! H1)(n:lr! (b≠hs) (b≠rl)):Wh! (upd H1 rl o):=λb xs e n1 n2 n3=>TV! (n b xs e n1 n2 n3) (a b xs e n1 n2 n3)
def RE(Rg:D!)(i:Nat)(t u:T2):Prop:=∃k,k<i/\Rg[k]?=B! t/\Rg[(k+1) % Rg.length]?=B! u
theorem XW:I? [Kf!,TX!,TY!,TZ!,rD!,"_law_ring_here","_law_bits",a4!,"_law_one","_law_other"] os! vN:={}
inductive Jip(vs:E!)(H:Hp)(Q:VK)(E:XK):Prop
 | mk (p0 hd lp lq:Addr) (c:Int) (W:DI) (m p q:Nat) (_:vs=[Fw!,R! c,R! (S? p),R! Th!,l! hd]) (_:qu! 0 0 0 [] [] Ma! F0!)
   (_:∀(rl:Addr)(Rg:D!)(L':l?)(W':DI)(H':Hp)(d' B':Nat),jz! Rg.length d' B' Rg L' (RE Rg Rg.length)->d'<=30->B'<=30->Rn L' p q Rg 20->eb!->Rg.length<=6->(∃t,Rg[0]?=B! t/\fa!)->(nk!)->YL H' rl lp lq W' Rg->u?->NE->Qc!->(lr! (b≠W.hs) (b≠rl))->BQ! rl)
theorem gRg(g:GG):DR 9 RA R_ os! Jip:=by
 refine C3! g.mRg.fn.II XW;obtain⟨p0,hd,lp,lq,c,W,m,p,q,rfl,x,k⟩:=h;refine Y!;have hu:=V?;have aV:WP 4:=k!;have cP:WP 5:=k!;have gY:WP 8:=k!;refine TC! 5 XW.nd (De (wT (aM! L! O?) (aM! A? O?))) (Ke! 6 XW.nd (KS! Q!) (Jk! (XL! (HM! Q!) 7 XW.nd (gx! CO CN Df IN (aM! (A6 Bk (De YJ!) (Ay Bj Tg! Af)) O?) (Fa! 6 XW.nd QG!))) (XL! (qN! g.T.len IN) 7 XW.nd (MB! 8 XW.nd (A6 Bk IN Ap!) 9 XW.nd (rY! IN (Le! Ap!) IN) (Av (RX! gGv g.mGv.mg g.mGv.fn.kp g.mGv.bd (qf! E? (CK! Is!) H4! O?))) (CQ! (SB! g.mWHo.mt ng g.mWHo.bd (CK! Is!) Is! H4!)))) 5));refine⟨_,rfl,_,rfl,_,rfl,p0,hd,lp,lq,W,m,0,0,0,p,q,p,[],_,_,rfl,bn,x,a!,a!,a!,Sk! (0<=60),λt1 cL W1 H1 x1 qE e1 fX f1 dy=>?_⟩;refine⟨_,rfl,_,rfl,_,rfl,p0,hd,lp,lq,W1,m,1,1,0,p,q,q,_,_,_,rfl,EK!,x1,a!,a!,a!,by rw[Bm x.pc.pq.symm];show 0<=60;decide,λt2 NB W2 H2 x2 iP e2 YJ f2 YR=>?_⟩;refine⟨Sk! U0!,λrl gX=>?_⟩;have s3:=Dr! (.BF mo!) gX;have e3:Ss! (FX! H2 rl mo!) rl mo!:=Ab;generalize KO! H2 rl mo!=H3 at s3 e3;have pq:=x.pc.pq;obtain⟨⟨OI,l2p,_⟩,⟨eP,l2q,_⟩⟩:=And.intro x2.hl.ha x2.hl.hb;obtain⟨D2,IH⟩:=x2.wi;have wR:YL H3 rl lp lq W2 [cL,NB]:=by refine⟨⟨[t1,t2],e3,T8! q! (Aq! s3 (x1.CQ f2).BG fX) (v! s3 YJ)⟩,AI!,AI!,AI!⟩;(.rw[z,l2p] at gX;cases gX);(.rw[z,l2q] at gX;cases gX);.rw[z,IH.wa.hs] at gX;cases gX
 have zH:tH! H2:=(x.NG f1).trans (bv! x1.NG f2 dy);have br:lr! (b≠W.hs) (b≠rl):=λb xs e n1 n2 n3 z=>by have:=zH b xs e n1 n2 n3;rw[z,gX] at this;cases this
 have l3:tH! H3:=zH.trans (ON.same s3);have OG:BM H H3:=(x.CQ f1).trans ((x1.CQ f2).trans (FF s3));have x3:TB! H3 W2 2 2 0 [] [cL,NB] (XA (XA Ma! p [cL]) q [NB]) F0!:=Fc! (x2.same s3) (Bm pq.symm)
 have rn3:Rn (XA (XA Ma! p [cL]) q [NB]) p q [cL,NB] 2:=by refine Y9! ec! (R? (Bm n2) (Bm n1));(.rcases ZM ht with rfl|ht;(·(have:o=p:=A!);rw[this,Bm pq,Bp];simp);.rw[ZK ht] at eo ⊢;(have:o=q:=A!);rw[this,Bp];simp);.by_cases c1:j=q;(.rw[c1,Bp];show 1<=2;decide);.rw[Bm c1];by_cases c2:j=p;(.rw[c2,Bp];show 1<=2;decide);.rw[Bm c2];decide
 refine⟨_,rfl,_,_,rfl,rfl,A8!,_,rfl,_,_,rfl,rfl,NN! 5,?_⟩;have c0:=Xq! c 5;have c5:=CA c (ah! 5);obtain⟨e,ee,e4⟩:∃e:Nat,No (c % 5) e/\e<=4:=Ud! (Fm! (c % 5)) A!;rw[ee];refine F3! (S? e) A! A! ?_;rw[AM];refine kJ! e (∃(Rg:D!)(L:l?)(W':DI)(z:Int)(u7:SB),σ=[DX!,FC!,Ga!,Gb!,DW!,GU!,Lc!,u7,none,none]/\TB! Hc W' Rg.length Rg.length 0 [] Rg L F0!/\Rg.length=2+i/\Rn L p q Rg (2+i)/\(∃t,Rg[0]?=B! t/\fa!)/\(nk!)/\YL Hc rl lp lq W' Rg/\JY!/\NE/\hH!) ⟨[cL,NB],_,W2,_,none,rfl,x3,rfl,rn3,DO! cL e1,DO! NB e2,wR,OG,YR.trans dy,l3⟩;.rintro i σ Hc hi ⟨Rg,L,W',z,u7,rfl,y,ln,rn,r0,r1,ls,kt,IS,NG⟩;obtain⟨as,el,th⟩:=ls.at_;have z0:=Xq! z 2;have z1:=CA z (ah! 2);(obtain⟨h,hh,fO⟩:∃h:Nat,ZQ!/\QE qI! (z % 2)=B! (V.int r?):=by rcases(Cy! (z % 2=0\/z % 2=1)) with e|e<;>rw[e];(.exact⟨p,bn,ww⟩);.exact FZ! EK! ww);refine⟨_,rfl,Bk! el,_,rfl,_,rfl,_,rfl,AN!,λsl XN=>?_⟩;have s4:=nP!;have e5:nj! Hc:=Ab;generalize mh! Hc=H4 at s4 e5;refine⟨_,rfl,_,_,rfl,rfl,Lo!,sl,_,_,_,rfl,rfl,WF e5,fO,_,rfl,p0,hd,lp,lq,W',m,Rg.length,Rg.length,0,p,q,h,Rg,L,_,rfl,hh,y.same s4,A!,A!,a!,nI! h,λt tt W3 H5 x5 sk e6 mX f5 iZ=>?_⟩;have ls4:=ls.same s4;have e_:=ls4.next (y.same s4) f5 iZ;obtain⟨as5,eJ,YO⟩:=e_.at_;refine aC! rl eJ (Wb! (L? YO));obtain⟨x6,WG⟩:=x5.put (o:=.BF (Dy! as5.map++[m? t])) eJ (e_.off x5) e_.n1 e_.n2;refine pj!;refine⟨Rg++[tt],_,W3,_,_,rfl,G! ZE x6,du! ln,?_,?_,?_,⟨Go (as5++[t]) hi!,e_.n1,e_.n2,e_.hs⟩,kt.trans ((FF s4).trans (((y.same s4).CQ f5).trans WG)),iZ.trans IS,((NG.trans (ON.same s4)).trans (iG! (y.same s4).NG f5)).trans' br⟩;(.refine Y9! (λu hu o eo=>?_) ?_;(.rcases Iz! with hu|hu;(.have:=rn.own u hu o eo;by_cases c:o=h;(.rw[c,Bp];rw[c] at this;exact j? this);.rw[Bm c];exact this);.rw[ZK hu] at eo ⊢;(have:o=h:=A!);rw[this,Bp];simp);(.by_cases c:j=h;(.rw[c,Bp,ZE];have:=rn.len h;show _+1<=_;lia);.rw[Bm c];have:=rn.len j;lia);.rw[Bm (λz=>IQ! (bd! n1) Xh!)];exact R3! rn.aS);(.obtain⟨t0,h0,h1⟩:=r0;exact dE! t0 (AW! EH) h0 h1);(.obtain⟨t0,h0,h1⟩:=r1;exact dE! t0 (AW! EH) h0 h1);.exact jq! (LJ! WG YO) WG.BG mX
 .rintro σ Hc ⟨Rg,L,W',z,u7,rfl,y,ln,rn,r0,r1,ls,kt,IS,NG⟩;obtain⟨as,el,th⟩:=ls.at_;(have la:o? as.map V.ref=Rg.length:=Oj! Cf!);(have n6:Rg.length<=6:=A!);refine Hj! rl _ rfl (Kb! el) ?_;rw[la];refine F3! (S? Rg.length) A! A! ?_;rw[AM];clear el th la;refine kJ! Rg.length (∃(L:l?)(W':DI)(u7 u8 u9:SB),σ=[DX!,FC!,Ga!,Gb!,DW!,GU!,Lc!,u7,u8,u9]/\TB! Hc W' Rg.length (Rg.length+3*i) (5*i) [] Rg L (RE Rg i)/\Rn L p q Rg (8+i)/\YL Hc rl lp lq W' Rg/\JY!/\NE/\hH!) ⟨L,W',_,none,none,rfl,?_,⟨rn.own,λj=>nI! j,rn.aS⟩,ls,kt,IS,NG⟩;(·(have e0:RE Rg 0=UH!:=by funext t u;exact propext ⟨λ⟨k,h,_⟩=>ga h (Nat.not_lt_zero _),False.elim⟩);rw[e0];exact y);(.clear y rn ls kt IS NG W' L;rintro i σ Hc hi ⟨L,W',u7,u8,u9,rfl,y,rn,ls,kt,IS,NG⟩;rw[KA! Xr!];obtain⟨as,el,th⟩:=ls.at_;have la:as.length=Rg.length:=Cf!;obtain⟨a1,qT⟩:=QT! as;obtain⟨o1,qP⟩:=aa! Rg i hi;have HR:ea!<Rg.length:=Nat.mod_lt _ C!;obtain⟨a2,YT⟩:=HT! as ea!;obtain⟨o2,d7⟩:=aa! Rg ea! HR;have fX:=ib! qT qP;have YJ:=ib! YT d7;have m1:=ZP qP;have m2:=ZP d7;obtain⟨h,hh,eh⟩:∃h:Nat,ZQ!/\KK! o1.1:=gk! y.pc.own o1 m1 ⟨p,bn,e⟩ (FZ! EK! e);obtain⟨h2,eh2⟩:∃h2:Nat,No o2.1 h2:=gk! y.pc.own o2 m2 ⟨p,e⟩ ⟨q,e⟩;have QT:N4! (QE (as.map V.ref) U?) a1:=Bu (A!) (dw! AM qT);(have xJ:k1! as.map V.ref (hJ! % th! as.map) a2:=by (have e:No (hJ! % th! as.map) (ea!:Nat):=by rw[ZA,la];push_cast;rfl);rw[e];exact Bu (A!) (dw! AM YT));refine⟨_,rfl,_,rfl,rl,_,_,m? a1,rfl,rfl,WF el,QT,?_⟩;refine⟨_,rfl,_,rfl,_,_,rfl,rfl,_,rfl,rl,_,rfl,Kb! el,_,_,rfl,rfl,(Sa! ZA la),rl,_,_,m? a2,rfl,rfl,WF el,xJ,?_⟩;refine⟨_,rfl,_,rfl,a1,_,0,H? o1.1,rfl,rfl,FM fX,ww,_,rfl,_,rfl,?_⟩;refine⟨p0,hd,lp,lq,a2,W',m,Rg.length,Rg.length+3*i,5*i,p,q,h,h2,Rg,L,_,o2,(EQ eh),hh,y,A!,A!,A!,nI! h,YJ,m2,eh2,rn.own o2 m2 h2 eh2,λv L2 W2 H2 y2 gr f2 YR=>?_⟩;obtain⟨D2,IH⟩:=y2.wi;have hm:h<m:=IQ! (e▸y.hp) (e▸y.hq);obtain⟨⟨aq,G⟩,hq⟩:=Nm! W2.qs h IH.wg.wl.len hm;obtain⟨sd,nu⟩:=IH.wg.BR hq;have pz:=y2.pc.at_ h aq G hq;have iw:JV W2 o1.1 aq G:=⟨FP! eh,ut eh AM hq⟩;have bG:=y.CQ f2;obtain⟨dx,hp⟩:=IH.wa.ob;refine pZ! dx hp W2 a1 _ 0 (H? o1.1) rfl rfl (gK! bG.BG fX) ww _ rfl _ rfl;refine ov! Vi (5*i+5) (lB! (W'.qs=W2.qs.set h (aq,Hl G o1 o2))) IH C! (v! bG.BG fX) (v! bG.BG YJ) ((pz.hand o1).mpr (gr.1 h _ (rn.own o1 m1 h eh))) ((pz.hand o2).mpr gr.2.1) eh GM ll! (λv W' H' _ e=>JG! (by rw[eh,AM] at e;exact e));obtain⟨rfl,rfl,eq3⟩:=r;(have iV:Cd W3.qs=Cd W2.qs:=nX!);have LD:=ok!;obtain⟨uE,jM,OG⟩:=y2.X_ LD KU i0;have gR:=y2.pc.hold hq sd.ok nu (tb:=o2) m1 m2 eh;(have eRE:(λt u=>RE Rg i t u\/(t=o1/\u=o2))=RE Rg (i+1):=by funext t u;refine propext ⟨?_,?_⟩;(.rintro(⟨k,hk,h1,h2⟩|⟨rfl,rfl⟩);(.exact⟨k,A!,h1,h2⟩);.exact⟨i,A!,qP,d7⟩);.rintro⟨k,hk,h1,h2⟩;by_cases c:k=i;(.subst c;exact c? (ZO (qP.symm.trans h1)).symm (ZO (d7.symm.trans h2)).symm);.exact E8! k A! h1 h2);rw[eRE] at gR;refine⟨L2,W3,_,_,_,rfl,⟨⟨D3,H7! LD.more C!⟩,G! eq3 gR,y.hp,y.hq,y.tn,y2.ln,uE,jM⟩,Y9! (λt ht o eo=>gr.1 o t (rn.own t ht o eo)) ?_,(ls.next y f2 YR).next y2 (Gi KU) U',kt.trans (bG.trans OG),U'.trans (YR.trans IS),(NG.trans (iG! y.NG f2)).trans (GA! (y2.NG (Gi KU)) YR IS)⟩;(.have h1:=gr.2.2.1 j;have h2:=rn.len j;lia);.rw[gr.2.2.2 j (λz=>IQ! (bd! n1) Xh!)];exact R3! rn.aS);.rintro σ Hc ⟨L,W',u7,u8,u9,rfl,y,rn,ls,kt,IS,NG⟩;exact t? (k rl Rg L W' Hc _ _ y C! C! ⟨rn.own,λj=>nI! j,rn.aS⟩ C! n6 r0 r1 ls kt IS NG br)
universe S
variable {Rg S L:List T2}{E:T2->T2->Prop}{X:T2->Prop}{v r0:T2}{p q h:Nat}
theorem Rm(cl:∀t u,Y0!->X u->X t)(h0:Rg[0]?=B! r0):∀{k:Nat} {t:T2},Rg[k]?=B! t->X t->X r0
 | 0,t,e,x=>by rw[h0] at e;cases e;exact x
 | k+1,t,e,x=>by have hk:k+1<Rg.length:=AX! e;obtain⟨u,hu⟩:=HT! Rg k;exact Rm cl h0 hu (cl u t ⟨k,A!,hu,G! (Nat.mod_eq_of_lt hk) e⟩ x)
theorem Z6(n2:eb!)(up:∀t u,Y0!->FL!){s:Nat}(hs:s<Rg.length)(ns:∀t,Rg[s]?=B! t->t.1≠r?){t:T2}(ht:t∈Rg)(e:Cg!):i8!:=by
 have np:0<Rg.length:=A!
 have go:∀(k:Nat)(t:T2),Rg[eZ! (s+k)]?=B! t->Cg!->i8!:=λk=>by induction k with | zero =>intro t ht e;rw[Nat.add_zero,Nat.mod_eq_of_lt hs] at ht;exact LY! (ns t ht) | succ k ih =>intro t ht e;obtain⟨u,hu⟩:=aa! Rg (eZ! (s+k)) (Nat.mod_lt _ np);have ed:E u t:=up u t ⟨_,Nat.mod_lt _ np,hu,by (have:(eZ! (s+k)+1) % Rg.length=eZ! (s+(k+1)):=by rw[Nat.add_mod,Nat.mod_mod,<-Nat.add_mod];rfl);rw[this];exact ht⟩;by_cases c:KK! u.1;(.exact .near (ih u hu c) ed e);.exact .kJ ed c e
 obtain⟨j,hj⟩:=C_.mp ht;have jl:=AX! hj;refine go (j+Rg.length-s) t ?_ e;rw[Cy! (s+(j+Rg.length-s)=j+Rg.length),Nat.add_mod_right,Nat.mod_eq_of_lt jl];exact hj
structure Sh(Rg S:D!)(v r0:T2)(E:pi)(c1:Prop):Prop where
 h0:Rg[0]?=B! r0
 ring:∀t u,Y0!->FL!
 rs:∀t∈Rg,Ec!
 sub:∀t∈S,t∈Rg\/E r0 t
 ed:∀t u,FL!->Ec!\/(t=v/\c1)
 one:c1->E v r0
theorem Sh.back(x:Sh Rg S v r0 E c1)(cl:∀t u,FL!->X u->X t){t:T2}(ht:Ec!)(h:X t):X r0:=by
 rcases A6! x.sub with h1|h1;.obtain⟨k,hk⟩:=C_.mp h1;exact Rm (λt u e=>cl t u (x.ring t u e)) x.h0 hk h
 .exact h! cl h1 h
theorem Sh.lk(x:Sh Rg S v r0 E c1)(n2:eb!)(pq:p≠q)(hh:Rk!)(e0:No r0.1 p)(e1:nk!)(hv:KK! v.1->v∈L){t:T2}(ht:Ec!\/t=v)(e:Cg!):i8!:=by
 have rg:∀t∈Rg,Cg!->i8!:=λt ht e=>by rcases hh with rfl|rfl;(.obtain⟨t1,h1,h2⟩:=e1;exact Z6 n2 x.ring (s:=1) C! (λt z=>by rw[h1] at z;cases z;rw[h2];lia) ht e);.exact Z6 n2 x.ring (s:=0) C! (λt z=>by rw[x.h0] at z;cases z;rw[e0];lia) ht e
 rcases ht with ht|rfl;.rcases A6! x.sub with h1|h1;(.exact rg t h1 e);.by_cases c:KK! r0.1;(.exact .near (rg r0 (ZP x.h0) c) h1 e);.exact .kJ h1 c e
 .exact .hand (hv e) e
universe E
theorem Vl{H:Hp}{p0 hd lp lq a b:Addr}{W:DI}{m n d B p q h:Nat}{T:D!}{L:l?}{Ed:pi}{ta tb:T2}{Q:VK}{E:XK}(x:tS! [] Ed)(hn:AJ!)(hB:A9!)(hh:Rk!)(ea:Tp! ta)(eb:AP!)(ha:ta∈L h)(hb:tb∈L h)(e1:KK! ta.1)(k:∀(v:V) (W':DI) (H':Hp),jz! n GM! B T L (λt u=>Ed t u\/(t=ta/\u=tb))->M0!->NE->IG!):CR! N6 [Fw!,R! r?,Tk,Os]:=by
 obtain⟨D2,IH⟩:=x.wi;have hm:h<m:=IQ! (e▸x.hp) (e▸x.hq);obtain⟨⟨aq,G⟩,hq⟩:=nJ! IH.wg.wl.len;obtain⟨sd,nu⟩:=IH.wg.BR hq;have pz:=x.pc.at_ h aq G hq;have iw:fr! aq:=YV!;refine Vi (A':=0) (B':=B) (R:=lB! (HI! h (aq,Mq!))) IH hn hB iw ea eb ((pz.hand ta).mpr ha) ((pz.hand tb).mpr hb) (F8! e1 nu) GM GM ll! (λv W' H' _ e=>JG! Go!);obtain⟨rfl,rfl,eq3⟩:=r;have iV:X9! W3.qs:=nX!
 have LD:=ok!;obtain⟨uE,jM,OG⟩:=x.X_ LD KU i0;exact k _ W3 H3 (lX! D3 LD (G! eq3 (x.pc.hold hq sd.ok nu (x.pc.lt h _ ha) (x.pc.lt h _ hb) e1)) x.ln uE jM) (Gi KU) U'
structure m_(H:Hp)(p0 hd lp lq rl lv:Addr)(W:DI)(m d B p q:Nat)(T:D!)(L:l?)(E:pi)(Rg S:D!)(v r0:T2)(c1:Prop):Prop where
 b:qu! T.length d B [] T L E
 rn:Rn L p q T 30
 ls:SX! S
 sh:Sh Rg S v r0 E c1
 hv:qD! lv v
 tt:∀t,CC!↔(Ec!\/t=v)
 tz:T.length<=8
 nv:v∉S
 sn:S.Nodup
 n2:eb!
 e0:No r0.1 p
 e1:nk!
 ev:No v.1 p
 dz:d<=60
 bz:B<=60
 s0:S[0]?=B! r0
universe S
variable {H H':Hp}{p0 hd lp lq rl lv:Addr}{W W':DI}{m d B p q:Nat}{T:List T2}{L:Nat->List T2}{Ed:T2->T2->Prop}{Rg S:List T2}{v r0:T2}{c1:Prop}
theorem m_.iL(x:p3! H W d B T L Ed S c1):r0∈T/\r0∈L p/\v∈T/\v∈L p:=by have h1:r0∈T:=E6! (x.tt r0).mpr (x.sh.rs r0 (ZP x.sh.h0));have h2:v∈T:=(x.tt v).mpr (y! rfl);exact⟨h1,x.rn.own r0 h1 p x.e0,h2,x.rn.own v h2 p x.ev⟩
theorem YL.first(x:SX! S)(h0:S[0]?=B! r0):∃(as:J!)(a:Addr),Nr! rl/\QE (as.map V.ref) 0=B! PP/\Tp! r0:=by obtain⟨as,e,th⟩:=x.at_;obtain⟨a,ha⟩:=S9! as 0 (Uo! Cf! h0);exact⟨as,a,e,Bu (a!) (dw! (FU! ((0:Int).toNat=0)) ha),ib! ha h0⟩
universe E
theorem JG.congr{L L':l?}(x:FK!)(h:∀j t,bx!↔t∈L' j):JG qs p q T L' E :=⟨x.pq,x.own,x.ed,λj t ht=>x.lt j t ((h j t).mpr ht),λj a G e=>by have z:=x.at_ j a G e;exact⟨z.AF,λt=>(z.hand t).trans (h j t),z.holds,h? ⟨(z.AJ t ht).1,(z.AJ t ht).2.imp id (h j t).mp⟩⟩⟩
structure Pf(p r:Nat)(T S:D!)(v:T2)(L:l?)(E:pi)(b:Bool):Prop where
 tt:∀t,CC!↔(Ec!\/t=v)
 tz:T.length<=8
 nv:v∉S
 sn:S.Nodup
 ev:No v.1 p
 lv:∀j t,bx!->(j=p/\t=v)\/(M2!/\j=r/\Ec!)
 vl:v∈L p
 bk:M2!->∀X:J?,(∀t u,FL!->X u->X t)->(∀j,∀t∈L j,¬X t)->∀t∈S,¬X t
 cl:b=false->∀t u,FL!->u∈S->Ec!
theorem Z_:I? [Kf!,Kd!,TY!,TZ!,Ta!,rD!,TX!,"_law_ring_here","_law_live","_law_more",a9!,"_law_thing"] pm! Ys:={}
def NP(al:M!):Prop:=M9! (∃l:LT,z=.w l/\O6!)
inductive Jf5(vs:E!)(H:Hp)(Q:VK)(E:XK):Prop
 | mk (p0 a hd lp lq:Addr) (ns:d!) (W:DI) (m p q r:Nat) (_:vs=[Fw!,Tk,R! (S? p),R! Th!,R! (S? r),l! hd]) (_:ix!) (_:U6!) (_:qu! 0 0 0 [] [] Ma! F0!) (_:r<m) (_:r≠p) (_:r≠q)
   (_:∀(x rl lv:Addr)(T S:D!)(v:T2)(L:l?)(Ed:pi)(b:Bool)(W':DI)(D:J?)(al:M!)(H':Hp),Rf! H' W' D T.length 200 100 al->JG W'.qs p q T L Ed->NP al->Pf p r T S v L Ed b->(ZL! (MP! rl) (AX H' as S))->rl≠W'.hs->rL! H' lv v->TJ! (hq! [l! rl,l! lv,.bl b]) u? NE Qc!)
structure bO(H:Hp)(p0 hd lp lq rl lv:Addr)(W:DI)(m d B:Nat)(al:M!)(p q:Nat)(T:D!)(L0 L:l?)(E:pi)(S:D!)(v:T2):Prop where
 wi:∃D,Rf! H W D T.length d B al
 pc:gY!
 hl:cX! H L0
 off:∀b,(b=hd\/lm!)->b∉MW!
 nb:NP al
 ls:SX! S
 hv:qD! lv v
structure L0f(p q r:Nat)(T:D!)(v r0:T2)(c2:Prop)(L:l?):Prop where
 own:KC! (∀o:Nat,St! o->t∈L o)
 len:∀j,D6! L j 40
 nd:∀j,DI! L j
 vq:∀j,j≠p->v∉L j
 aS:∀j,j≠p->j≠q->∀t∈L j,c2/\j=r/\t=r0
 two:c2->r0∈L r
theorem Yn{H:Hp}{p0:Addr}{W:DI}{D:J?}{m n d B o h:Nat}{a b:Addr}{G:BV}{th:T2}{zo:Int}{Q:VK}{E:XK}(ez:zo=th.1)(wi:af! H p0 0 [] [])(hn:AJ!)(hB:B<=470)(hd:d<800)(ho:Fr! (W.qs[o]?))(hh:h<m)(eb:s1! th)(ht:th∈G.hand)(e1:No th.1 o)(k:∀(BR:Int) (H1:Hp),(∃W1 dx,Yy! H1 p0 CW Eu W1)->(∀Q',(∀(v:V) (W':DI) (D':J?) (a2:Addr) (G2 WK:BV) (x:Int) (H':Hp),Zt! H' (d+2) (B+5) [] []->I8! ((W.qs.set o fm!)[h]?) a2->Wt SL G2 th x WK->W'.qs=(W.qs.set o fm!).set h (a2,WK)->pq!->Mw!->NE->Q' v H')->Gb (Ly! BR) H1 Q' E0)->Q (g! BR) H1):CR! Jg [Fw!,R! zo,e3!,Os]:=by subst ez;exact Rj wi hn hB hd ho hh eb ht e1 k
theorem bO.next{H H':Hp}{W W':DI}{D':J?}(x:lZ! E)(wi:Rf! H' W' D' T.length d' B' al')(pc:JG W'.qs p q T L' E)(fr:Mw!)(fp:pq!)(nb:NP al')(IS:NE):bS! H' W' d' B' al' L' E/\u?:=by
 obtain⟨D,pV⟩:=x.wi;have kt:=pV.CQ fr;obtain⟨as,e1,th⟩:=x.ls.at_;refine⟨⟨⟨D',wi⟩,pc,VR! (Dk! (fr b o e (x.off b hb) D9!)) kt,Sh! ?_,nb,⟨⟨as,lO! fr e1 (pV.wa.IU e1 x.ls.hs),g9! th⟩,x.ls.n1,x.ls.n2,G! IS x.ls.hs⟩,F! kt.BG x.hv⟩,kt⟩;rcases DV! fp b z with h|h|h;.exact x.off b hb h
 .cases h
 .obtain⟨o,e,_⟩:=x.hl.has hb;rw[h] at e;cases e
theorem bO.same{H H':Hp}(x:lZ! E)(s:KB):t6! H' W B E:=by obtain⟨D,pV⟩:=x.wi;exact⟨⟨D,pV.same s⟩,x.pc,VR! dP! (FF s),x.off,x.nb,x.ls.same s,F! s x.hv⟩
theorem NP.nop{al:M!}(h:NP al):NoP (IE al):=C2! (by obtain⟨z,hz,e⟩:=CV.mp hl;obtain⟨l',rfl,k⟩:=B3! h;have:l'=l:=ZO e;rw[<-this,k];exact⟨ZV,ZV⟩)
theorem Jc1{H:Hp}{p0 hd lp lq rl lv b:Addr}{W:DI}{m d B p q h:Nat}{al:M!}{T S:D!}{L0 L L':l?}{Ed:pi}{v th:T2}{Q:VK}{E:XK}(x:lZ! Ed)(hn:T.length<60)(hB:A9!)(hh:Rk!)(hm:h<m)(eb:s1! th)(hb:th∈L h)(hl:∀j t,t∈L' j↔(bx!/\(j=h->t≠th)))(k:∀(v9:V) (W':DI) (H':Hp),is! (bS! H' W' GM! B al L' Ed) Mw! (Q v9 H')):CR! N8 [Fw!,e3!,Os]:=by
 obtain⟨D2,IH⟩:=x.wi;obtain⟨⟨aq,G⟩,hq⟩:=nJ! IH.wg.wl.len;have pz:=x.pc.at_ h aq G hq;have iw:fr! aq:=YV!;refine Jaq (A':=0) (B':=B) (R:=Sg! (al'=al/\EL=[]/\HI! h (aq,Je G th))) IH hn hB iw eb ((pz.hand th).mpr hb) GM GM ll! (λv W' H' _ e=>JG! Go!);obtain⟨rfl,rfl,eq3⟩:=r;have iV:X9! W3.qs:=nX!
 have LD:=ok!;have gR:=x.pc.free hq hh (tb:=th) (l:=L' h) (λt=>(hl h t).trans ⟨λz=>Og! (z.2 rfl),λz=>Og! (λ_=>z.2)⟩);have gR:=gR.congr (L':=L') λj t=>by by_cases c:j=h;(.rw[c,Bp]);.rw[Bm c];exact(show bx!↔t∈L' j from Xm! ((hl j t).mpr ⟨z,λe=>LY! c⟩) ((hl j t).mp z).1)
 obtain⟨y,kt⟩:=x.next LD (P! eq3 gR) KU i0 x.nb U';exact k _ W3 H3 y kt KU U'
theorem Jbc{H:Hp}{p0 hd lp lq rl lv:Addr}{W:DI}{m d B p q h:Nat}{al:M!}{T S:D!}{L0 L:l?}{Ed:pi}{v:T2}{Q:VK}{E:XK}(x:lZ! Ed)(hn:T.length<60)(hB:A9!)(hm:h<m)(hp:p<m)(bH:q<m)(lk:KC! (Cg!->Lk Ed (L h) r? t))(k:∀(v9:V) (al':M!) (W':DI) (H':Hp),is! (bS! H' W' GM! B al' L Ed) Mw! (Q v9 H')):CR! Il (Ly! r?):=by
 obtain⟨D2,IH⟩:=x.wi;obtain⟨⟨aq,G⟩,hq⟩:=nJ! IH.wg.wl.len;have iw:fr! aq:=YV!;refine ps! Xv B (Sg! (EL=[]/\NP al'/\∃R' kk,LC (OL G.holds) kk (startT G) [] R'/\HI! h (aq,Fa G R'))) IH hn hB GM ll! (λv W' kk R' rs H' L rc _ _ e=>⟨rfl,Ac!,R',kk,rc,Go!⟩);.obtain⟨rfl,nb,R',kk,rc,eq3⟩:=r;(have iV:X9! W3.qs:=nX!);have LD:=ok!;have gR:=x.pc.clean hq (R:=R') λt ht e=>x.pc.lk IH.wg x.nb.nop hp bH hq rc (lk t ht e);obtain⟨y,kt⟩:=x.next LD (P! eq3 gR) KU i0 nb U';exact k _ qr W3 H3 y kt KU U'
 .rcases As! with h1|h1;(.exact x.nb z h1);.obtain⟨l,hl,rfl⟩:=ZN h1;obtain⟨r0,_,rfl⟩:=ZN hl;exact t? rfl
theorem Jfy:PyData.eqv (OX t) (OX u)=a? (t=u):=by obtain⟨a,b⟩:=t;obtain⟨c,d⟩:=u;unfold OX;simp only[PyData.eqv,PyData.eqvAll,Prod.mk.injEq];by_cases h1:a=c<;>by_cases h2:b=d<;>simp[h1,h2,PyData.eqv]
theorem Jk4(g:GG):DR 4 KJ KQ CL! Il:=(gWC g).mono (a!)
theorem gBu(g:GG):DR 10 RS SX pm! Jf5:=by
 refine C3! g.mBu.fn.II Z_;obtain⟨p0,a,hd,lp,lq,ns,W,m,p,q,r,rfl,hS,hlen,x,hrm,si,sZ,k⟩:=h;refine Y!;have hu:=V?;have FV:ca:=k!;have aV:WP 4:=k!;have cP:WP 5:=k!;have fE:WP 7:=k!;have gY:WP 8:=k!;have hr9:WP 9:=k!;refine TC! 6 Z_.nd (tF! Q!) (MB! 7 Z_.nd (S3! (gRg g) hr9 g.mRg.mg g.mRg.fn.kp g.mRg.bd (e2! E? (tF! Q!) L! A? IN)) 8 Z_.nd (aM! L! IN) (by! g.TW.cl g.mWHo.mt (ng g) cP g.mWHo.bd Au (HN! L! hF! Is!)) (Bs! (Pq! Tg! (Ke! 9 Z_.nd (aM! (A6 Bk (De YJ!) (Ay Bj QG! Af)) IN) (Bs! (Av (RX! gGv g.mGv.mg g.mGv.fn.kp g.mGv.bd (qf! E? L! H4! IN))) (by! g.TW.cl g.mWHo.mt (ng g) cP g.mWHo.bd Au (HN! L! hF! H4!)) (SO! Ap! H4!)))) (Pq! QG! (CQ! (SB! g.mWHo.mt ng g.mWHo.bd L! Is! hF!))) (Bs! (Pq! QG! (fy! g.mWDe.mt nZ fE g.mWDe.bd (SB! g.mWSe.mt vD g.mWSe.bd L! O? hF!))) (N1! (C9 (De YJ!)) 10 Z_.nd (ED! (N1! (C9 (Ci hu IN VM!)) 11 Z_.nd (Ag (Bo (RA! (pv 11) Is!) (CQ! (tC! g.TW.cl g.mWFr.mt (Jk3 g) aV g.mWFr.bd (wT VM! (pv 11)))) A8))) (Pq! QG! (fy! g.mWCl.mt Jk4 aV g.mWCl.bd VM!)))) (TH! Co (HN! Ap! Is! (La Jbo (HM! QG!) (bg! Af Af) rfl))))));have pq:=x.pc.pq;refine jH! 2 (λc=>?_);refine pu! 3 hS.sq (λc3=>Hj! _ rfl _ rfl ?_);refine⟨p0,hd,lp,lq,c3,W,m,p,q,rfl,x,λrl Rg L1 W1 H1 d1 rQ x1 hd1 hB1 gQ n2 n6 r0 r1 yx LB dy lp1 br=>?_⟩;refine⟨_,rfl,_,rfl,_,rfl,p0,hd,lp,lq,W1,m,Rg.length,d1,rQ,p,q,p,Rg,L1,_,rfl,bn,x1,A!,A!,A!,iQ! gQ.len p,λlv v W2 H2 x2 iP ev YJ f2 YR=>?_⟩;obtain⟨r0,h0,e0⟩:=r0;have tH:=yx.next x1 f2 YR;obtain⟨OI,a2,XQ,at2,kR⟩:=tH.first h0;have iL:r0∈Rg:=ZP h0;have yX:r0∈L1 p:=gQ.own r0 iL p e0;obtain⟨D2,IH⟩:=x2.wi;obtain⟨GX,FE⟩:=IH.wa.ob;refine pZ! GX FE W2 _ rfl rl _ _ _ rfl rfl (WF XQ) at2 _ rfl;refine Vl x2 C! C! Bv! kR YJ (P! Bp (j? yX)) (dM!) e0 λv9 W3 H3 x3 f3 ia=>?_;have tn:By! (Rg++[v])=Rg.length+1:=EQ ZE
 have yV:Rg.Nodup:=x1.tn;have vL:∀j,v∉L1 j:=λj z=>iP (x1.pc.lt j v z);have NT:p3! H3 W3 (d1+2) rQ (Rg++[v]) (XA L1 p (L1 p++[v])) (λt u=>Y0!\/(t=r0/\u=v)) Rg False:=by refine px! (G! tn x3) (Y9! ec! (dI! n1 (R3! gQ.aS))) (tH.next x2 f3 ia) (λt u h=>W?) (λt h=>h) (Es! W?) PI! False.elim (F! (x2.CQ f3).BG YJ) (λt=>R? DB CC) (FP! tn) iP yV h0;(.rcases DY! with h|h;(.have:=gQ.own t h o eo;by_cases c:o=p;(.rw[c,Bp];rw[c] at this;exact j? this);.rw[Bm c];exact this);.rw[ZK h] at eo ⊢;(have:o=p:=A!);rw[this,Bp];simp);(.by_cases c:j=p;(.rw[c,Bp,ZE];have:=gQ.len p;show _+1<=_;lia);.rw[Bm c];have:=gQ.len j;lia);.rcases h with⟨k,_,h,_⟩|h;(.exact ZP h);.rw[h.1];exact iL
 have lA:∀j,j≠p->v∉XA L1 p (L1 p++[v]) j:=λj n=>dI! n (vL j)
 have OG:BM H H3:=LB.trans ((x1.CQ f2).trans (x2.CQ f3));have gq:W3.hs=W.hs:=ia.trans (YR.trans dy);have tJ:tH! H3:=(lp1.trans (bv! x1.NG f2 dy)).trans (g4! x2.NG f3 YR dy);have sS:=gQ.len;clear x3 f3 ia x2 f2 YR tH XQ at2 kR YJ IH FE yx x1 LB dy gQ yX;generalize (λt u=>Y0!\/(t=r0/\u=v))=E3 at NT;have gF:∀j,(XA L1 p (L1 p++[v]) j).length<=21:=λj=>by by_cases c:j=p;(.rw[c,Bp,ZE];have:=sS p;show _+1<=_;lia);.rw[Bm c];have:=sS j;lia
 generalize XA L1 p (L1 p++[v])=L3 at NT lA gF;have t7:(Rg++[v]).length<=7:=FP! tn
 generalize Rg++[v]=T3 at NT t7;dsimp only [Zr];refine aE! (∃(T:D!)(L:l?)(Ed:pi)(S:D!)(W':DI)(d B:Nat)(u9:SB),EN=[DX!,EC!,Ga!,Gb!,JK!,DW!,FC!,GU!,LW!,u9,none,none]/\p3! H' W' d B T L Ed S False/\d<=40/\B<=40/\(∀j,j≠p->v∉L j)/\u?/\NE/\Qc!);.intro nx hx;refine pi! Lo!;by_cases c1:IW! (c % 2);(.rw[WS!];have z0:=BY (c / 2) (r0! 2);have z1:=CA (c / 2) (ah! 2);(obtain⟨h,hh,fO⟩:∃h:Nat,ZQ!/\QE qI! (c / 2 % 2)=B! (V.int r?):=by rcases(Cy! (c / 2 % 2=0\/c / 2 % 2=1)) with e|e<;>rw[e];(.exact⟨p,bn,ww⟩);.exact FZ! EK! ww);refine Ce ⟨_,rfl,_,rfl,_,rfl,AN!,λsl XN=>?_⟩;have s4:=nP!;have e5:nj! H3:=Ab;generalize mh! H3=H4 at s4 e5;have y4:=NT.b.same s4;have tz:=NT.tz;have dz:=NT.dz;have bz:=NT.bz;refine⟨_,rfl,_,_,rfl,rfl,A8!,_,_,rfl,rfl,Lo!,sl,_,_,_,rfl,rfl,WF e5,fO,_,rfl,p0,hd,lp,lq,W3,m,T3.length,_,rQ,p,q,h,T3,L3,_,rfl,hh,y4,A!,A!,A!,iQ! NT.rn.len h,λmt w W5 H5 x5 sk ew mX f5 iZ=>?_⟩;(have wL:w∈XA L3 h (L3 h++[w]) h:=dM!);have e_:=(NT.ls.same s4).next y4 f5 iZ;refine⟨_,rfl,_,rfl,_,rfl,_,rfl,p0,hd,lp,lq,mt,W5,m,T3.length+1,_,rQ,p,q,p,h,_,_,_,w,rfl,bn,x5,A!,A!,A!,?_,mX,B?,ew,wL,λv6 L6 W6 H6 x6 gr f6 uA=>?_⟩;(.by_cases c:p=h;(.rw[<-c,Bp,ZE];have:=NT.rn.len p;show _+1<=_;lia);.rw[Bm c];have:=NT.rn.len p;lia);have yw:=e_.next x5 f6 uA;obtain⟨as6,a6,ug,at6,ea6⟩:=yw.first NT.s0;obtain⟨jJ,cy,lB,rb⟩:=NT.iL;have yB:∀j t,t∈L3 j->t∈L6 j:=λj t ht=>gr.1 j t (by by_cases c:j=h;(.rw[c,Bp];rw[c] at ht;exact j? ht);.rw[Bm c];exact ht);have XM:=y4.CQ f5;have WG:=x5.CQ f6;obtain⟨D6,bp⟩:=x6.wi;obtain⟨XE,aX⟩:=bp.wa.ob;refine pZ! XE aX W6 _ rfl rl _ _ _ rfl rfl (WF ug) at6 _ rfl;refine Vl x6 C! C! Bv! ea6 (v! WG.BG mX) (yB p _ cy) gr.2.1 e0 λv7 W7 H7 x7 f7 zV=>?_;have iW:=yw.next x6 f7 zV;obtain⟨g7,uf,dm⟩:=iW.at_;(have sz:Rg.length<=8:=A!);refine ol! (Bk! uf) rl _ rfl uf (Wb! (L? dm));obtain⟨x8,TY⟩:=x7.put (o:=.BF (Dy! g7.map++[m? mt])) uf (iW.off x7) iW.n1 iW.n2;have TZ:=x6.CQ f7;have wS:w∉Rg:=λz=>sk ((NT.tt w).mpr (P? z));have wv:w≠v:=M? sk (K1! lB);refine F! hx ⟨T3++[w],L6,(λt u=>E3 t u\/(t=r0/\u=w)),Rg++[w],W7,_,_,_,rfl,px! (G! ZE x8) (Y9! ec! ?_) ⟨⟨g7++[mt],hi!,jq! (LJ! TY dm) TY.BG (Aq! TZ.BG WG.BG mX)⟩,iW.n1,iW.n2,iW.hs⟩ (λt u h=>P? (NT.sh.ring t u h)) (Es! B0!) (Es! ?_) PI! False.elim (F! TY.BG (Aq! TZ.BG WG.BG (Aq! XM.BG s4 NT.hv))) EH! (OP! ZE (_+1<=8)) ?_ ?_ ?_,A!,A!,λj nj=>?_,OG.trans ((FF s4).trans (XM.trans (WG.trans (TZ.trans TY)))),zV.trans (uA.trans (iZ.trans gq)),((((tJ.trans (ON.same s4)).trans (bv! y4.NG f5 gq)).trans (g4! x5.NG f6 iZ gq)).trans (by have:=x6.NG f7;rw[uA,iZ,gq] at this;exact this)).trans' br⟩;(.rcases DY! with h1|h1;(.exact yB o t (NT.rn.own t h1 o eo));.rw[ZK h1] at eo ⊢;(have:o=h:=A!);rw[this];exact gr.1 h w wL);(.have g1:=gr.2.2.1 j;by_cases c:j=h;(.rw[c,Bp,ZE] at g1;have g1:D6! L6 h (o? L3 h+1+1):=g1;have g2:=gF h;rw[c];lia);.rw[Bm c] at g1;have g2:=gF j;lia);(.rw[gr.2.2.2 j n1,Bm (λz=>IQ! (bd! n1) Xh!)];exact R3! NT.rn.aS);(.rcases ZI h with h1|h1;(.exact H! h1);.exact B4! (n? (ZK h1)));(.rcases h with h1|h1;(.rcases NT.sh.ed t u h1 with h2|h2;(.exact j? h2);.exact h2.2.elim);.rw[h1.1];exact j? iL);(.rw[DB,DB,NT.tt t,CC];constructor;(.rintro((h1|h1)|h1);(.exact Fp! h1);(.exact N! h1);.exact Nx! h1);.rintro((h1|h1)|h1);(.exact Fp! h1);(.exact N! h1);.exact Nx! h1);(.intro z;rcases ZI z with z|z;(.exact NT.nv z);.exact wv (Ao! ZK z));(.exact Kr! yV B? (λu hu y hy z=>lC! wS (ZK hy)));(.rw[AW! EH];exact h0);.rw[gr.2.2.2 j nj];by_cases c:j=h;(.rw[c,Bp];intro z;rcases ZI z with z|z;(.exact lA h (c▸nj) z);.exact wv (Ao! ZK z));.rw[Bm c];exact lA j nj);.rw[WH!];exact YK! ⟨T3,L3,E3,Rg,W3,_,_,none,rfl,NT,A!,A!,lA,OG,gq,tJ⟩
 clear NT lA OG gq tJ gF sS t7 tn vL;rintro EN H' ⟨T,L,Ed,S,W3,d,nB,u9,rfl,st,qR,qV,vq,kt,eh,NG⟩;obtain⟨jJ,cy,lB,rb⟩:=st.iL;have cc0:=BY (c / 4) (r0! 4);refine aE! (∃(Ed':pi)(W':DI)(d B:Nat),EN=[DX!,EC!,Ga!,Gb!,JK!,DW!,FC!,GU!,LW!,u9,none,none]/\p3! H' W' d B T L Ed' S (DM!=1)/\d<=41/\B<=40/\u?/\NE/\Qc!);.intro nx hx;refine Tm! _ _ rfl A8! _ rfl Px! rfl _ rfl ?_;have tz:=st.tz;by_cases c1:DM!=1;(.rw[L7! (IW! DM!) c1];obtain⟨OI,a2,XQ,at2,kR⟩:=st.ls.first st.s0;obtain⟨D2,IH⟩:=st.b.wi;obtain⟨GX,FE⟩:=IH.wa.ob;refine Ce (pZ! GX FE W3 _ rfl _ rfl rl _ _ _ rfl rfl (WF XQ) at2);refine Vl st.b C! C! Bv! st.hv kR rb cy ev λv9 W4 H4 x4 f4 zW=>?_;refine F! hx ⟨(λt u=>Ed t u\/(t=v/\u=r0)),W4,_,_,rfl,px! x4 st.rn (st.ls.next st.b f4 zW) (λt u h=>P? (st.sh.ring t u h)) st.sh.rs (Es! ((st.sh.sub t h).imp id P?)) ?_ (λ_=>N! DL!) (F! (st.b.CQ f4).BG st.hv) st.tt st.tz st.nv st.sn st.s0,A!,A!,kt.trans (st.b.CQ f4),zW.trans eh,NG.trans (bv! st.b.NG f4 eh)⟩;rcases h with h|h;(.exact(st.sh.ed t u h).imp id λz=>z.2.elim);.exact c? h.1 c1);.rw[iW! (IW! DM!) c1 V.int.inj];exact YK! ⟨Ed,W3,d,nB,rfl,px! st.b st.rn st.ls st.sh.ring st.sh.rs st.sh.sub ((st.sh.ed t u h).imp id λz=>z.2.elim) (Um! c1) st.hv st.tt st.tz st.nv st.sn st.s0,A!,A!,kt,eh,NG⟩
 clear st kt eh NG qR qV W3 d nB Ed H';rintro EN H' ⟨Ed,W3,d,nB,rfl,st,qR,qV,kt,eh,NG⟩;have sh:=st.sh;have tt:=st.tt;have tz:=st.tz;have nv:=st.nv;have sn:=st.sn;have s0:=st.s0;have yW:r0∈S:=sh.rs r0 iL;refine aE! (∃(L0:l?)(W':DI)(d B:Nat),EN=[DX!,EC!,Ga!,Gb!,JK!,DW!,FC!,GU!,LW!,u9,none,none]/\bS! H' W' d B [] L0 Ed/\L0f p q r T v r0 (DM!=2) L0/\d<=50/\B<=50/\u?/\NE/\Qc!);.intro nx hx;refine Tm! _ _ rfl A8! _ rfl Px! rfl _ rfl ?_;by_cases c1:DM!=2;(.rw[L7! (bC! DM! 2) c1];obtain⟨OI,a2,XQ,at2,kR⟩:=st.ls.first st.s0;obtain⟨D2,IH⟩:=st.b.wi;obtain⟨GX,FE⟩:=IH.wa.ob;obtain⟨⟨aq,G⟩,hq⟩:=Nm! W3.qs p IH.wg.wl.len st.b.hp;have z:=st.b.pc.at_ p aq G hq;refine Ce ⟨_,rfl,p0,GX,_,rfl,FE,Bw W3 ZV,_,rfl,p0,GX,_,rfl,FE,Bw W3 ZV,_,rfl,_,rfl,_,rfl,rl,_,_,_,rfl,rfl,WF XQ,at2,?_⟩;refine Yn e0.symm IH C! C! C! hq hrm kR ((z.hand r0).mpr cy) e0 ?_;rintro BR H1 ⟨W1,FK,HQ⟩ del;refine del _ λv4 W4 D4 a4 G4 vW xx H4 PJ zw wt e4 fp fr IS=>?_;have lO:=st.b.pc.out (v:=KP! r0+W3.share) hq ((z.AF r0).mpr ⟨jJ,e0⟩);(have nu4:G4.BR=S? r:=by have:=(PJ.wg.BR (i:=r) (q:=a4) (G:=vW) (aq! e4 EZ (AX! zw))).2;rw[<-wt.ZQ.2.2.2.1];exact this);have Lr:L r=[]:=st.rn.aS r si sZ;have sV:=lO.OS zw nu4 wt (DG! e0) jJ (l:=[r0]) (λt=>BH! Lr);obtain⟨bu,WN,LB⟩:=st.b.X_ PJ fr fp;have up:∀j,j=p\/j=q->XA L r [r0] j=L j:=λj hj=>Bm (λz=>hj.elim (λe=>si (z.symm.trans e)) λe=>sZ (z.symm.trans e));refine F! hx ⟨XA L r [r0],W4,d+2,nB+5,rfl,⟨⟨D4,PJ⟩,GQ! sV,⟨bu.ob,G! (up p Bv!) bu.ha,G! (up q (y! rfl)) bu.hb,bu.ne⟩,WN,kM!,st.ls.next st.b (Gi fr) IS,bV! st.hv⟩,⟨ec!,a3!,a3!,λj nj=>?_,λj n1 n2 t ht=>?_,λ_=>dM!⟩,A!,A!,kt.trans LB,IS.trans eh,NG.trans (Fc! (st.b.NG (Gi fr)) eh)⟩;(·(have:o=p\/o=q:=(st.b.pc.own t ht).imp (λe=>A!) λe=>A!);rw[up o this];exact st.rn.own t ht o eo);(.by_cases cj:j=r;(.rw[cj,Bp];show 1<=40;decide);.rw[Bm cj];exact iQ! st.rn.len j);(.by_cases cj:j=r;(.rw[cj,Bp];simp);.rw[Bm cj];exact st.b.ln j);(.by_cases cj:j=r;(.rw[cj,Bp];intro z;rw[ZK z] at nv;exact nv yW);.rw[Bm cj];exact vq j nj);.by_cases cj:j=r;(.rw[cj,Bp] at ht;exact⟨c1,cj,ZK ht⟩);.rw[Bm cj,R3! st.rn.aS] at ht;cases ht);.rw[iW! (bC! DM! 2) c1 V.int.inj];exact YK! ⟨L,W3,d,nB,rfl,⟨st.b.wi,st.b.pc,st.b.hl,st.b.off,kM!,st.ls,st.hv⟩,⟨st.rn.own,λj=>iQ! st.rn.len j,st.b.ln,vq,(λj n1 n2 t ht=>by rw[R3! st.rn.aS] at ht;cases ht),Um! c1⟩,A!,A!,kt,eh,NG⟩
 have zZ:=st.b.hp;have j_:=st.b.hq;clear st kt eh NG qR qV W3 d nB H' vq cy rb L;rintro EN H' ⟨L0,W3,d,nB,rfl,st,lf,qR,qV,kt,eh,NG⟩;refine⟨_,rfl,_,rfl,AN!,λsl XN=>Xt! sl ?_⟩;have s5:=nP!;have mZ:nj! H':=Ab;have yP:sl≠W.hs:=λz=>by obtain⟨D,wi⟩:=st.wi;have:=wi.wa.hs;rw[eh,<-z,XN] at this;cases this
 generalize mh! H'=H5 at s5 mZ;refine RK! sl qI! (λi σ Hc=>∃(L:l?)(W':DI)(d:Nat)(al:M!)(iE cK:SB),σ=[DX!,EC!,Ga!,Gb!,JK!,DW!,FC!,GU!,LW!,u9,iE,cK]/\t6! Hc W' nB Ed/\(nq! (t=v\/j∉iC!))/\d<=50+50*i/\(JY!/\hH!)/\NE/\t5! Hc) ⟨L0,W3,d,[],none,none,rfl,st.same s5,λj t=>B?,A!,⟨kt.trans (FF s5),NG.trans (ON.same s5)⟩,eh,mZ⟩ (λi σ Hc _ h=>by obtain⟨_,_,_,_,_,_,_,_,_,_,_,_,h⟩:=h;exact DO.of h);.rintro i x σ Hc hi ⟨L,W4,d4,qk,iE,cK,rfl,y,hL,gm,aU,YX,PU⟩;(obtain⟨h,hh,rfl,mG,tk⟩:∃h:Nat,ZQ!/\x=fQ!/\i<2/\Ff! [p,q].take=iC!++[h]:=by rcases i with _|_|i;(.exact⟨p,bn,jh!,a!,rfl⟩);(.exact⟨q,EK!,jh!,a!,rfl⟩);.cases hi);have hm:h<m:=IQ! (e▸zZ) (e▸j_);(have dt:h∉iC!:=λz=>by rcases i with _|_|i;(.cases z);(.have z:h∈[p]:=z;have e:[p,q].take 2=[p]++[h]:=tk;(have:h=q:=by simpa using e.symm);rw[ZK z] at this;exact pq this);.lia);obtain⟨l,as,el,gl,hl,th,_⟩:=y.hl.get pq hh;refine⟨_,rfl,_,rfl,hd,_,rfl,gl,l,rfl,T? (WF hl),?_⟩;have tG:as.length=o? L0 h:=Cf!;have lz:=lf.len h;refine RK! l JN! (λn σ Hc=>∃(L:l?)(W':DI)(d:Nat)(cK:SB),σ=[DX!,EC!,Ga!,Gb!,JK!,DW!,FC!,GU!,LW!,u9,Br! r?,cK]/\bS! Hc W' d nB qk L Ed/\(nq! (t=v\/(j∉iC!/\(j=h->t∉l8! n))))/\d<=50+50*i+n/\(JY!/\hH!)/\NE/\t5! Hc/\rO! Hc l/\AX Hc as (L0 h)) ⟨L,W4,d4,_,rfl,y,λj t=>BH! hL,A!,aU,YX,PU,hl,th⟩ (λi σ Hc _ h=>by obtain⟨_,_,_,_,_,_,_,_,_,_,_,h,_⟩:=h;exact DO.of h);(.clear y hL gm aU YX PU gl hl th W4 L d4;rintro n x σ Hc hn ⟨L,W4,d4,cK,rfl,y,hL,gm,aU,YX,PU,hl,th⟩;(obtain⟨b,rfl,hb⟩:∃b,x=bD!/\as[n]?=B! b:=by rw[ZH] at hn;cases e:as[n]? with | none=>rw[e] at hn;cases hn | some b=>rw[e] at hn;exact GO! b (Ao! ZO hn));have nl:=AX! hb;obtain⟨t,ht⟩:=HT! (L0 h) n;have et:=ib! hb ht;(have HE:l8! (n+1)=l8! n++[t]:=dv! ht);refine⟨_,rfl,_,rfl,OX t,OX v,.one (Tb et),.one (Tb y.hv),Tc t,Tc v,_,rfl,?_⟩;rw[Jfy];by_cases qi:t=v;(.rw[D2! qi];refine Cb ⟨L,W4,d4,_,rfl,y,λj u=>?_,A!,aU,YX,PU,hl,th⟩;rw[hL,HE];refine Xm! (Og! (z.2.elim P? λw=>?_)) (Og! (z.2.imp id (Yb! (λe m=>w.2 e JI!))));by_cases cu:u=v;(.exact H! cu);.refine c? w.1 (λe m=>?_);rcases ZI m with m|m;(.exact w.2 e m);.exact cu ((ZK m).trans qi));.rw[Al! qi];obtain⟨D4,PJ⟩:=y.wi;obtain⟨XR,cQ⟩:=PJ.wa.ob;(have tnt:t∉l8! n:=λz=>by obtain⟨k,hk,e⟩:=List.mem_iff_getElem.mp z;rw[List.getElem_take] at e;(have kn:k<n:=by rw[CG] at hk;lia);have:=(List.nodup_iff_pairwise_ne.mp (lf.nd h));have e2:=(List.pairwise_iff_getElem.mp this) k n C! C! kn;rw[e] at e2;have e3:=(ZJ ht).2;exact e2 e3.symm);have tL:t∈L h:=(hL h t).mpr ⟨ZP ht,c? dt (λ_=>tnt)⟩;refine Ce ⟨_,rfl,p0,XR,_,rfl,cQ,Bw W4 ZV,_,rfl,_,rfl,?_⟩;refine Jc1 (L':=λj=>if j=h then(L h).filter (HU! (u≠t)) else L j) y C! C! hh hm et tL (λj u=>?_) λv9 W5 H5 y5 XM TQ cU=>?_;(.by_cases cj:j=h;(.subst cj;simp);.simp[cj]);.obtain⟨D5,TR⟩:=y5.wi;refine⟨_,W5,d4+1,_,rfl,y5,λj u=>?_,A!,⟨aU.1.trans XM,aU.2.trans (λb xs e n1 _ _=>TQ b _ e (PJ.wa.IU e (ey! n1)) D9!)⟩,cU.trans YX,lO! TQ PU (PJ.wa.IU PU (ey! yP)),lO! TQ hl (y.off l (y! el)),HX! XM th⟩;by_cases cj:j=h;(.subst cj;rw[e?,AB,hL,HE];constructor;(.rintro⟨⟨z1,z2⟩,z3⟩;have z3:u≠t:=BK z3;exact lt! (Yb! (λe m=>(ZI m).elim (w.2 e) λm=>z3 (ZK m))));.rintro⟨z1,z2⟩;refine⟨lt! (Yb! (λe m=>w.2 e JI!)),decide_eq_true ?_⟩;intro e;rcases z2 with z2|z2;(.exact qi (e.symm.trans z2));.exact z2.2 rfl (BH! e));.rw[AD cj,hL];exact Xm! (Og! (z.2.imp id (Yb! (λe=>LY! cj)))) (Og! (z.2.imp id (Yb! (λe=>LY! cj)))));.clear y hL gm aU YX PU gl hl th W4 L d4;rintro σ Hc ⟨L,W4,d4,cK,rfl,y,hL,gm,aU,YX,PU,hl,th⟩;(have hL:nq! (t=v\/j∉Ff! [p,q].take):=λj t=>by rw[hL,tk,ZA,tG,BS,DB,CC];constructor;(.rintro⟨z1,z2⟩;refine lt! (λw e=>e.elim w.1 λe=>w.2 e (e▸z1)));.rintro⟨z1,z2⟩;exact lt! (λw=>⟨λe=>w (P? e),λe=>HO! y! e w⟩));rw[ZA,tG] at gm;refine Tm! _ _ rfl A8! _ rfl Lo! rfl _ rfl ?_;by_cases c1:IW! (c / 16 % 2);(.rw[WS!];obtain⟨D4,PJ⟩:=y.wi;obtain⟨XR,cQ⟩:=PJ.wa.ob;refine Ce (iX! XR cQ W4 ?_);refine Jbc y C! C! hm zZ j_ (λt ht e=>sh.lk n2 pq hh e0 r1 (λev2=>(hL h v).mpr ⟨lf.own v lB h ev2,bn⟩) ((tt t).mp ht) e) λv9 kW W5 H5 y5 XM TQ cU=>?_;exact⟨L,W5,d4+1,kW,_,_,rfl,y5,hL,A!,⟨aU.1.trans XM,aU.2.trans (λb xs e n1 _ _=>TQ b _ e (PJ.wa.IU e (ey! n1)) D9!)⟩,cU.trans YX,lO! TQ PU (PJ.wa.IU PU (ey! yP))⟩);.rw[WH!];exact Cb ⟨L,W4,d4,qk,_,_,rfl,y,hL,A!,aU,YX,PU⟩
 .rintro σ Hc ⟨L,W4,d4,qk,iE,cK,rfl,y,hL,gm,aU,YX,PU⟩;(have hL:nq! (t=v\/(j≠p/\j≠q)):=λj t=>by rw[hL];refine and_congr Iff.rfl (or_congr Iff.rfl ?_);show j∉[p,q]↔_;simp);obtain⟨D4,PJ⟩:=y.wi;obtain⟨as4,WH,lG⟩:=y.ls.at_;refine⟨_,rfl,_,rfl,_,rfl,_,_,rfl,rfl,A8!,_,_,rfl,rfl,Px!,AN!,λt2 ht2=>?_⟩;have gm:d4<=150:=gm;have s6:=Ev! Mp! ht2;have e6:Mn! Hc t2 Mp! t2 Mp!:=Ab;generalize GY! Hc t2 Mp!=H6 at s6 e6;(have bb:l8 (V.int (DM!)) Mp!=true↔(DM!=1\/DM!=2):=by show Aa! (eI (V.int 1) mO! || (eI (V.int 2) mO! || false))↔_;show Aa! ((VN!==DM!) || ((S? 2==DM!) || false))↔_;rw[Bool.or_false,Bool.or_eq_true,JN,JN];exact or_congr eq_comm eq_comm);refine⟨t2,_,rfl,y! (DN.of e6),rfl,rfl,NO! 3,DP!⟩;have s7:=Ak s6 (gV! [m? rl,bp!,V.bl (l8 mO! Mp!)]);refine k x rl lv T S v L Ed (l8 mO! Mp!) W4 D4 qk _ ((PJ.same s7).more C! C!) y.pc y.nb ⟨tt,tz,nv,sn,ev,eY!,?_,λb X cl no t ht hX=>?_,λb t u h hu=>?_⟩ ⟨as4,F! s7 WH,Bi! s7 lG⟩ y.ls.hs (v! s7 y.hv) Ab (aU.1.trans (FF s7)) YX (aU.2.trans (ON.same s7));(.obtain⟨z1,z2⟩:=(hL j t).mp ht;rcases z2 with z2|z2;(.by_cases cj:j=p;(.exact Am! cj z2);.rw[z2] at z1;exact ga z1 (lf.vq j cj));.obtain⟨w1,w2,w3⟩:=lf.aS j z2.1 z2.2 t z1;exact N! (Oc! (bb.mpr (y! w1)) w2 w3 yW));(.exact(hL p v).mpr ⟨lf.own v lB p ev,bn⟩);(.have x0:=sh.back cl ht hX;rcases bb.mp b with w|w;(.exact no p v ((hL p v).mpr ⟨lf.own v lB p ev,bn⟩) (cl v r0 (sh.one w) x0));.exact no r r0 ((hL r r0).mpr ⟨lf.two w,c? si sZ⟩) x0);.rcases sh.ed t u h with w|w;(.exact w);.have:=E6! bb.mpr w.2;rw[b] at this;cases this
def ki(n:Int)(kind:Str)(s g:Int)(th:T2)(x:Int):PyData:=Bn! (kF! kind (Bn! [OX th,R! x]))
def Zj(n:Int)(kind:Str)(s g k u:Int):PyData:=Bn! (kF! kind (Bn! (QA! k u)))
def jx(n s g:Int)(ts:D!):PyData:=Bn! (kF! F7! (Bn! (ts.map OX)))
theorem Jg2{H:Hp}{t:Addr}{n:Int}{kind:Str}{s g:Int}{tb:T2}{x:Int}(h:JZ H t n kind s g tb x):DZ! Kg! (ki n kind s g tb x):=by obtain⟨a,b,e1,e2,e3⟩:=h;exact mL! e1 (q! CZ! (q! (re _) (q! CZ! (q! CZ! (q! (.tupP (DN.of e2) (sf! (Tb e3) CZ!)) O!)))))
theorem Jay{H:Hp}{t:Addr}{n:Int}{kind:Str}{s g k u:Int}(h:R9! n kind k):DZ! Kg! (Zj n kind s g k u):=by obtain⟨a,e1,e2⟩:=h;exact mL! e1 (q! CZ! (q! (re _) (q! CZ! (q! CZ! (q! (.tupP (DN.of e2) (sf! CZ! CZ!)) O!)))))
theorem Ji4{H:Hp}{t:Addr}{n s g:Int}{ts:D!}(h:le! n):DZ! Kg! (jx n s g ts):=by obtain⟨a,as,e1,e2,th⟩:=h;exact mL! e1 (q! CZ! (q! (re _) (q! CZ! (q! CZ! (q! (.tupP (DN.of e2) (F1 th)) O!)))))
theorem Jg3{n:Int}{kind:Str}{s g:Int}{th:T2}{x:Int}(hk:U9!\/kind=Dh!\/kind=Bm!\/kind=Di!):(ki n kind s g th x).canLay0=true/\(ki n kind s g th x).depth<=20:=by
 have t1:(OX th).canLay0=true:=(Tc th).1;refine JE!;.rcases hk with rfl|rfl|rfl|rfl;all_goals unfold ki;simp only[PyData.canLay0,PyData.canLayAll0,t1,Bool.and_true,Bool.true_and];decide +kernel
 .unfold ki;simp[PyData.depth,PyData.depthAll,OX]
theorem Jaz{n:Int}{kind:Str}{s g k u:Int}(hk:kind=pu\/kind=FO!):(Zj n kind s g k u).canLay0=true/\(Zj n kind s g k u).depth<=20:=by
 refine JE!;.rcases hk with rfl|rfl;all_goals unfold Zj;simp only[PyData.canLay0,PyData.canLayAll0,Bool.and_true,Bool.true_and];decide +kernel
 .unfold Zj;simp[PyData.depth,PyData.depthAll]
theorem Ta(ts:D!):∀d∈ts.map OX,jy!:=λd hd=>by obtain⟨t,_,rfl⟩:=ZN hd;exact⟨(Oo t).1,L5! (Oo t).2⟩
theorem Zq(ts:D!):∀d∈ts.map OX,t4! 5:=λd hd=>by obtain⟨t,_,rfl⟩:=ZN hd;exact⟨(Oo t).1,by unfold OX;simp[PyData.depth,PyData.depthAll]⟩
theorem Ji5{n s g:Int}{ts:D!}:(jx n s g ts).canLay0=true/\(jx n s g ts).depth<=20:=by
 obtain⟨h1,h2⟩:=vA (Zq ts);refine JE!;.unfold jx;simp only[PyData.canLay0,PyData.canLayAll0,h1,Bool.and_true,Bool.true_and];decide +kernel
 .unfold jx;simp only[PyData.depth,PyData.depthAll];lia
theorem K_.kd{m:Nat}{l:LT}(h:IY!):eS!\/l.kind=Dh!\/O6!\/VD!:=by
 rcases h.2.2.2 with⟨h,_⟩|⟨h,_⟩|⟨h,_⟩|⟨h,_⟩;.exact W?
 .exact Wy!
 .exact Ix! h
 .exact N! (bt! h)
def yz(n:Int):LL->PyData
 | .w l=>ki n l.kind l.s l.g l.th l.x
 | .ask s g k u=>Zj n pu s g k u
 | .IJ s g k u _ _=>Zj n FO! s g k u
 | .lt s g ts=>jx n s g ts
def Xk:d!->M!->LK!
 | n::ns,l::ls=>yz n l::Xk ns ls
 | _,_=>[]
theorem Ji6{H:Hp}{EF:o!}{y:So!}{z:LL}(h:Yx!):DZ! (K? y.2) (yz y.1 z):=by cases z with | w l=>exact Jg2 h | ask s g k u=>exact Jay h | IJ s g k u t S=>exact Jay h.1 | lt s g ts=>exact Ji4 h
theorem Xj{H:Hp}{EF:o!}{ys:o!}{ls:M!}(p:CI! (JA H EF) ys ls):Vu! JM (ys.map λy=>m? y.2) (Xk (HA! ys.map) ls):=by induction p with | nil=>exact O! | cons h _ ih=>exact q! (Ji6 h) ih
theorem P7{m:Nat}:∀{ns:d!} {ls:M!},(∀l∈IE ls,IY!)->∀d∈Xk ns ls,jy!
 | [],_,_,d,h=>DQ!
 | _::_,[],_,d,h=>DQ!
 | n::ns,l::ls,k,d,h=>by rcases ZM h with rfl|h;(.cases l with | w l=>exact Jg3 (k l En!).kd | ask s g k u=>exact E6! Jaz rfl | IJ s g k u t S=>exact Jaz (y! rfl) | lt s g ts=>exact Ji5);.refine P7 (AC (k z ?_)) d h;cases l with | w l=>exact ZD _ hz | ask s g k u=>exact hz | IJ s g k u t S=>exact hz | lt s g ts=>exact hz
theorem Rw{R:wE So! LL}{ys:o!}{ls:M!}(p:HK! ys ls)(ne:ys≠[]):i? (Xk (HA! ys.map) ls).isEmpty:=by cases p with | nil=>exact Fn! ne | cons _ _=>rfl
theorem Jbw{ls:M!}:(Xk (HA! ([]:o!).map) ls).isEmpty=true:=by cases ls<;>rfl
theorem JA.BG{H:Hp}{EF:o!}{y:So!}{z:LL}(h:Yx!):∃xs,KT! y.2 (R! y.1::xs):=by cases z with | w l=>obtain⟨a,b,e,_⟩:=h;exact AM! | ask s g k u=>obtain⟨a,e,_⟩:=h;exact AM! | IJ s g k u t S=>obtain⟨⟨a,e,_⟩,_⟩:=h;exact AM! | lt s g ts=>obtain⟨a,as,e,_⟩:=h;exact AM!
def Dv(m:Nat)(W W':DI)(a b al':M!)(ys EL:F?)(H':Hp):Vs!
 | .w l=>EL=ys/\Cv!/\al'=SZ/\∃q G G',CH! (W.qs[l.g.toNat]?)/\oS!/\HI! l.g.toNat AD!
 | .lt _ g ts=>EL=ys/\Cv!/\∃q G bs,Pe!/\HI! g.toNat (q,Nz G ts)/\al'=SZ++(bs:v?).map .w/\∀l∈bs,O6!
 | .ask s g n u=>EL=ys/\Cv!/\NB!/\∃q G hs os rs,Pe!/\Gm!/\al'=L9! (.IJ g s n u G.AS GH!)
 | .IJ s g n u tick S=>NB!/\Jlp m W W' a b al' ys EL H' s g n u tick S
def hG(m:Nat)(W W':DI)(al al':M!)(ys EL:F?)(H':Hp):Prop:=∃a z b,g5!/\Dv m W W' a b al' ys EL H' z
def nV(al:M!):Prop:=∀l,LL.w l∈al->VE!
theorem hG.len(h:j2!):EL.length=ys.length/\X9! W'.qs:=by obtain⟨a,z,b,_,h⟩:=h;cases z with | w l =>obtain⟨e,_,_,q,G,G',hi,w,e2⟩:=h;exact HS! Fd! e2 (mN hi w.ZQ.2.2.1) | lt s g ts =>obtain⟨e,_,q,G,bs,hi,e2,_⟩:=h;exact HS! Fd! e2 (mN hi rfl) | ask s g n u=>exact⟨KD! h.1,KD! h.2.2.1⟩ | IJ s g n u tk S =>obtain⟨e,y,y',i1,i2,new,e1,e2,_⟩:=h;exact⟨by rw[e1,e2,ZE,ZE];rfl,Fd!⟩
theorem Jff{H:Hp}{p:Addr}{W:DI}{D:J?}{m n d B B':Nat}{al:M!}{ys:F?}{BR:Int}{l1 l2:o!}{t:Addr}{Q:VK}{E:XK}(x:sy! p 0)(hn:AJ!)(hB:A9!)(hd:d<900)(cB:Mi!)(np:nV al)(el:Ra!)(k:∀(v:V) (W':DI) (D':J?) (al':M!) (EL:F?) (H':Hp),j2!->WI H' p W' D' m n GM! 0 B' al' EL->j7!->Fp p W ys W' EL H->NE->IG!):Zh!:=by
 have kk:KT p K W m n d 0 B' ys H Q (λ_ W' al' EL H'=>j2!):=λv W' D' al' EL H' r fp wi fr IS=>by obtain⟨h1,h2⟩:=r.len;exact k v W' D' al' EL H' r (wi.dn (P! h2 x.md) (P! h1 x.iz)) fr fp IS
 have lw:=x.lw;rw[el] at lw;obtain⟨a,z,b,es,p1,p2,p3⟩:=Jc2 lw;cases z with | w l=>exact Sg x hn hB el es p1 p2 p3 CT! cB kk (np l XE!) λy W' q G G' H' nw hi w e=>⟨a,_,b,es,rfl,nw.fi,rfl,q,G,G',hi,w,e⟩ | ask s g n' u=>exact Xw x hn hB hd el es p1 p2 p3 CT! cB kk λy L W' H' q G hs os rs hi tl nw e _=>⟨a,_,b,es,rfl,nw.fi,e,q,G,hs,os,rs,hi,tl,rfl⟩ | IJ s g n' u tk S=>exact Jch x hn hB hd el es p1 p2 p3 CT! cB kk λv L W' al' EL H' e _ _ an=>⟨a,_,b,es,e,an⟩ | lt s g ts=>exact Jjk x hn hB el es p1 p2 p3 CT! cB kk λy L W' H' q G hs os rs hi tl nw e _=>⟨a,_,b,es,rfl,nw.fi,q,G,_,hi,e,rfl,C2! (by obtain⟨r,_,rfl⟩:=ZN hl;rfl)⟩
def OO(hs:Addr)(H H':Hp):Prop:=∀b xs,sK!->b≠hs->NW! (.BF xs)
theorem WI.lists{H H':Hp}{p:Addr}{W:DI}{D:J?}{m n d A B:Nat}{al:M!}{ys:F?}(x:Db)(f:j7!):Xz!:=λb xs e ne=>f b _ e (x.wa.IU e ne) λz=>by obtain⟨y,hy,hb⟩:=DS.mp z;obtain⟨o,e2,_,h,_⟩:=f9!;rw[e] at e2;cases e2;exact h _ rfl
theorem OO.trans{hs:Addr}(a:OO hs H H1)(b:OO hs H1 H2):OO hs H H2:=λc xs e ne=>b c xs (a c xs e ne) ne
theorem OO.same{hs:Addr}(s:KB):OO hs H H':=λc xs e _=>E9! s
theorem bS:I? [Kf!,TX!,bA!,a4!,"_law_lying","_law_x"] Je! vM:={}
inductive Jiq(vs:E!)(H:Hp)(Q:VK)(E:XK):Prop
 | mk (p0:Addr) (c:Int) (W:DI) (D:J?) (m n d B:Nat) (al:M!) (ys:F?) (J:DI->wE M! F?) (_:vs=Ly! c) (_:sy! p0 0) (_:AJ!) (_:A9!) (_:d+B<900) (_:Zd!) (_:∀W al ys,Zd!->nV al)
   (_:∀(H1 H1':Hp)(W:DI)(D:J?)(d B:Nat)(al:M!)(ys:F?)(W':DI)(al':M!)(EL:F?),sx! H1 p0 0->Zd!->sh! m H1'->J W' al' EL)
   (_:∀(H':Hp)(W':DI)(D':J?)(EL:F?),WI H' p0 W' D' m n (d+B) 0 B [] EL->J W' [] EL->u?->Xz!->NE->mu!)
theorem Jd(ds:LK!):PyData.eqv (Dl! ds) (Dl! [])=ds.isEmpty:=by cases ds<;>rfl
theorem Ug:cZ (Dl! []):=Ff λd hd=>sw hd
theorem gRe(g:GG):DR 8 RB SA Je! Jiq:=by
 refine C3! g.mRe.fn.II bS;obtain⟨p0,c,W,D,m,n,d,nB,al,ys,J,rfl,wi,hn,hB,hd,j0,jp,js,k⟩:=h;refine Y!;have FV:ca:=k!;have IP:Lg!:=k!;have fE:WP 7:=k!;refine Nz! bS.nd (KS! Q!) (g7! (XL! Af 3 bS.nd (Ke! 4 bS.nd (Oa! E? g.TW.cl g.mWLe.mt (uV g) IP g.mWLe.bd) (fe! (tb! Yy O? ER!) (o2! (ax! uU g.mNx.mg g.mNx.fn.kp g.mNx.bd L! Q!) 5 bS.nd 2 bS.nd) (fy! g.mWDe.mt nZ fE g.mWDe.bd (CK! (t9! IN)))))) Dw);refine⟨_,rfl,_,_,rfl,rfl,A8!,600,rfl,a!,a!,?_⟩;refine kJ! 600 (∃(W':DI)(D':J?)(al':M!)(EL:F?)(z:Int)(u3 u4 u5:SB),σ=[DX!,FC!,Lc!,u3,u4,u5]/\i<=nB/\Zt! Hc (d+i) (nB-i) al' EL/\J W' al' EL/\JY!/\iI!/\NE) ⟨W,D,al,ys,_,none,none,none,rfl,AZ!,wi,j0,PL!,λ_ _ e _=>e,rfl⟩;.rintro i σ Hc hi ⟨W1,D1,OJ,aO,z,u3,u4,u5,rfl,mG,JU,j1,kt,lk,IS⟩;obtain⟨dx,hp⟩:=JU.wa.ob;refine⟨_,rfl,p0,dx,_,rfl,hp,Lj!,p0,W1,rfl,JU.wa,λl H2 hl el s2=>?_⟩;have IH:=Hq! s2;have bG:=kt.trans (FF s2);refine WZ! (λr JE=>o1! (ZV! (Ah JE _ _ el) Xj (Eg IH.lw (FF (Ah JE)))) (Ff (P7 IH.wg.wl.ok)));have s3:=XJ!;generalize YL! r=H3 at s3;have LD:=IH.same s3;have WD:=Ak s2 s3;have eN:=D8! el;by_cases e0:W1.ls=[];(.rw[Jd,e0,Jbw];(have ea:OJ=[]:=by have:=fO!;rw[e0] at this;exact BJ.mp this.symm);subst ea;exact Ce (k H3 W1 D1 aO (LD.more C! C!) j1 (kt.trans (FF WD)) (sl! WD) IS));.rw[Jd,Rw JU.lw e0];(have z1:1<=nB-i:=by have h1:=JU.len;have h2:=YC!;lia);refine Cb (RH! z c (λt x y H4 s4 et=>?_));have PJ:=LD.same s4;have WH:=DT! eN;have XJ:=Ak WD s4;refine SY! t E0!;(have XX:Ei! Gs!:=by rw[ZA];have:=YC!;lia);have j0:=h8! x Gs!;have l7:=CA x XX;obtain⟨⟨BR,t2⟩,hy⟩:=Lq! W1.ls (x % Gs!) (by rw[ZA] at j0 l7 ⊢;lia);have fO:k1! W1.ls.map Ne! (x % Gs!) t2:=RU! hy;obtain⟨lt,JK⟩:=Lq! OJ (x % Gs!) (KY! fO! hy);obtain⟨a1,YJ⟩:=JA.BG (Ax PJ.lw _ _ _ hy JK);have YJ:b? H4 t2 .BG (H? BR::a1):=YJ;obtain⟨l1,l2,mY⟩:=IM (ZP hy);obtain⟨XR,cQ⟩:=PJ.wa.ob;refine⟨_,rfl,p0,XR,_,rfl,cQ,Lj!,_,rfl,_,rfl,_,rfl,l,_,rfl,Kb! WH,_,_,rfl,rfl,XX,l,_,_,_,rfl,rfl,WF WH,fO,t2,_,0,_,rfl,rfl,FM YJ,ww,?_⟩;refine Jff (B':=nB-FB) PJ hn C! C! C! (jp _ _ _ j1) mY λv W5 D5 kW xy H5 dl TR TQ fp5 cU=>?_;exact⟨W5,D5,kW,xy,_,_,_,_,rfl,A!,TR,js H4 H5 W1 D1 _ _ OJ aO W5 kW xy PJ j1 dl,(kt.trans (FF XJ)).trans (PJ.CQ TQ),(lk.trans (OO.same XJ)).trans (iG! PJ.lists TQ),cU.trans IS⟩
 .rintro σ Hc ⟨W1,D1,OJ,aO,z,u3,u4,u5,rfl,mG,_⟩;exfalso;lia
theorem Jh2{a b:Str}{cl:Bz!}{y:Str}(h:HF! ([Ti!,Tk!]:rC!).lookup KM\/HF! ([Ti!,Tk!]:rC!).lookup Cq!):Mh!:=Ih!
def J7:GN! LL
 | .ask _ _ _ _=>true
 | _=>false
theorem JA.kind{H:Hp}{EF:o!}{y:So!}{z:LL}(h:Yx!)(ok:∀l,z=.w l->l.kind≠pu):∃(kd:Str)(xs:E!),KT! y.2 (R! y.1 :: re kd::xs)/\(kd=pu↔c9!):=by cases z with | w l=>obtain⟨a,b,e,_⟩:=h;exact Aj! _ e (Um! (ok l rfl)) D9! | ask s g k u=>obtain⟨a,e,_⟩:=h;exact Aj! _ e EZ! EZ! | IJ s g k u tk S=>obtain⟨⟨a,e,_⟩,_⟩:=h;exact Aj! _ e (Um! ZV) D9! | lt s g ts=>obtain⟨a,as,e,_⟩:=h;exact Aj! _ e (Um! ZV) D9!
def Du(ls:o!)(al:M!):d!:=Bw! (ls.zip al).filter (λz=>J7 z.2) (λz=>z.1.1)
def vF(W W':DI)(al al':M!):Prop:=∃a b s g n u q G hs os rs,Gj! (.ask s g n u)/\Pe!/\Gm!/\al'=L9! (.IJ g s n u G.AS GH!)/\NB!/\Cv!
theorem cv:I? [Kf!,TX!,bA!,"_law_asks","_law_x"] Je! T1:={}
inductive QH(vs:E!)(H:Hp)(Q:VK)(E:XK):Prop
 | mk (p0:Addr) (c:Int) (W:DI) (D:J?) (m n d B:Nat) (al:M!) (ys:F?) (J:DI->wE M! F?) (_:vs=Ly! c) (_:sy! p0 0) (_:AJ!) (_:A9!) (_:d+B<900) (_:Zd!)
   (_:∀(H1:Hp)(D:J?)(d B:Nat)(W:DI)(al:M!)(ys:F?)(W':DI)(al':M!),sx! H1 p0 0->Zd!->vF W W' al al'->nE!)
   (_:∀(H':Hp)(W':DI)(D':J?)(al':M!),WI H' p0 W' D' m n (d+B) 0 B al' ys->nE!->is! (∀z∈al',i? (J7 z)) Xz! mu!)
theorem X5{ls:o!}{al:M!}{i:Nat}{y:So!}{z:LL}(h1:ls[i]?=B! y)(h2:al[i]?=B! z):Du (ls.take FB) (al.take (i+1))=Du (ls.take i) (al.take i)++Wi! c9! [y.1]:=by
 unfold Du;have l1:=AX! h1;have l2:=AX! h2;rw[DK,DK,h1,h2];show(((ls.take i++[y]).zip (al.take i++[z])).filter _).map _=_;rw[List.zip_append (Sa! CG CG),FD,ZF];congr 1;by_cases c:c9!;.simp[c]
 .simp[c]
theorem Jep{ls:o!}{al:M!}{BR:Int}(h:BR∈Du ls al):∃(i:Nat)(t:Addr)(z:LL),ls[i]?=B! (BR,t)/\al[i]?=B! z/\c9!:=by unfold Du at h;obtain⟨w,hw,rfl⟩:=DS!;obtain⟨h1,h2⟩:=AB.mp hw;obtain⟨i,hi⟩:=C_.mp h1;rw[List.getElem?_zip_eq_some] at hi;exact⟨i,w.1.2,w.2,hi.1,hi.2,h2⟩
theorem Jck{ls:o!}{al:M!}(hl:ls.length=al.length)(h:Du ls al=[]):M9! (i? (J7 z)):=AC (by obtain⟨i,hi⟩:=C_.mp hz;obtain⟨y,hy⟩:=S9! ls i (Uo! hl hi);cases c:J7 z with | false=>rfl | true =>have m:(y,z)∈(ls.zip al).filter λz=>J7 z.2:=CV! (ZP (i:=i) (EW! List.getElem?_zip_eq_some ⟨hy,hi⟩)) c;have:y.1∈Du ls al:=AG.mpr (D0! m);rw[h] at this;cases this)
theorem ints_rep{H:Hp}{r:Addr}{ns:d!}(e:gd! r ns.map):LZ! (K? r) (Dl! (ns.map PyData.int)):=by refine .BF (DO.of e) ?_;clear e;induction ns with | nil=>exact O! | cons q qs ih=>exact q! (g! _) ih
theorem Jhb(ns:d!):cZ (Dl! (ns.map PyData.int)):=Ff λd hd=>by obtain⟨q,_,rfl⟩:=ZN hd;exact n? (by simp[PyData.depth])
theorem Ua{α β:Type}{R:IX!}{ls:S!}{al:BA!}(p:HK! ls al):∀{i:Nat} {y:α} {z:β},ls[i]?=B! y->al[i]?=B! z->∃l1 l2 a b,ls=l1++y::l2/\g5!/\HK! l1 a/\R y z/\HK! l2 b:=by induction p with | nil=>intro i y z h _;cases h | cons r pr ih =>intro i y z h1 h2;cases i with | zero =>cases h1;cases h2;exact⟨[],_,[],_,rfl,rfl,O!,r,pr⟩ | succ i =>obtain⟨l1,l2,a,b,e1,e2,p1,p2,p3⟩:=ih (i:=i) h1 h2;exact⟨_::l1,l2,_::a,b,EQ e1,EQ e2,q! r p1,p2,p3⟩
def Jj2:TT:=Kw (WC iK (oU! (tC (g! 1))) (JX! pu))
def Jj6:TE:=WC (Wi K) Py! Jo!
theorem gFa(g:GG):DR 8 RN SS Je! QH:=by
 refine C3! g.mFa.fn.II cv;obtain⟨p0,c,W,D,m,n,d,nB,al,ys,J,rfl,wi,hn,hB,hd,j0,js,k⟩:=h;refine Y!;have FV:ca:=k!;have IP:Lg!:=k!;have fE:WP 7:=k!;refine Nz! cv.nd (KS! Q!) (Ag (Pe PassesOwn.never (Hw Dw) (Ad (p2! i 3 Jj2 te Jj6 [] cv.nd (C9 (bR! E? g.TW.cl g.mWLe.mt (uV g) IP g.mWLe.bd Au)) trivial (λy h=>Jh2 h) trivial (kH! V6! Ej) (Ej! (A6 A9 E? Af))) (fe! (tb! Yy A? ER!) (o2! (ax! uU g.mNx.mg g.mNx.fn.kp g.mNx.bd L! Q!) 4 cv.nd 2 cv.nd) (fy! g.mWDe.mt nZ fE g.mWDe.bd (rY! A? O? A?))))));refine pj!;refine Go (λmm σ Hc=>∃(i:Nat)(W':DI)(D':J?)(al':M!)(z:Int)(u3 u4:SB),σ=[DX!,FC!,Lc!,u3,u4]/\mm=nB-i/\i<=nB/\Zt! Hc (d+i) (nB-i) al' ys/\nE!/\JY!/\iI!/\NE) ⟨nB,0,W,D,al,_,none,none,rfl,rfl,AZ!,wi,j0,PL!,λ_ _ e _=>e,rfl⟩;rintro mm σ Hc ⟨i,W1,D1,OJ,z,u3,u4,rfl,rfl,hi,JU,j1,kt,lk,IS⟩;refine t? (Ce ⟨λσ Hc=>∃(W':DI)(D':J?)(al':M!)(z:Int)(u3 u4:SB),σ=[DX!,FC!,Lc!,u3,u4]/\i+1<=nB/\Zt! Hc (d+FB) (nB-FB) al' ys/\nE!/\JY!/\iI!/\NE,λEN H' h=>?_,?_⟩);.obtain⟨W',D',al',z',u3',u4',e,h1,h2⟩:=h;exact⟨nB-FB,A!,i+1,W',D',al',z',u3',u4',e,rfl,h1,h2⟩
 obtain⟨dx,hp⟩:=JU.wa.ob;refine⟨_,rfl,p0,dx,_,rfl,hp,Lj!,p0,W1,rfl,JU.wa,λl H2 hl el s2=>rg! l el VB!⟩;have IH:=Hq! s2;have kdn:∀y z,y∈W1.ls->z∈OJ->∀l,z=.w l->l.kind≠pu:=λy z _ hz l e=>by have:=K_.kd (JU.wg.wl.ok l (CV.mpr (Cn! (EQ e))));rcases this with h|h|h|h<;>(rw[h];decide +kernel)
 have ll:=JU.len;refine Fs (K:=K) (a:=l) (xs:=W1.ls.map Ne!) (tt:=Jj2) (te:=Jj6) (caps:=[]) (λi ys H'=>S0! H' r/\ys=(Du (W1.ls.take i) (OJ.take i)).map V.int/\Bl H2 H') (DO! Ab (Ah JE)) (λi ys H' _ z=>Uh! z.2.2 el z.1) ?_ ?_;.rintro i v ys H3 N hv ⟨er,rfl,s3⟩ hN;rw[ZH] at hv;cases ey:W1.ls[i]? with | none=>rw[ey] at hv;cases hv | some y =>rw[ey] at hv;have hv:m? y.2=v:=ZO hv;subst hv;have il:=AX! ey;obtain⟨z,ez⟩:=QT! OJ;have lo:=Ax (IH.same s3).lw _ _ _ ey ez;obtain⟨kd,xs,e,ik⟩:=lo.kind (kdn y z (ZP ey) (ZP ez));have st:=X5 ey ez;refine⟨_,rfl,y.2,_,1,_,rfl,rfl,VY!,ww,rfl,_,rfl,?_⟩;by_cases ck:kd=pu;(.rw[L7! (V.str kd=V.str pu) ck];refine Ce ⟨_,rfl,y.2,_,0,_,rfl,rfl,VY!,ww,er,A4 ?_,F! hN ⟨Ab,G9! st (AE (ik.mp ck)) ZF,λb o h=>i! (Aj h JE) (s3 b o h)⟩⟩;unfold Du;rw[ZA,ZA];refine Ja! ?_;rw[List.length_zip,CG];lia);.rw[iW! (V.str kd=V.str pu) ck V.str.inj];exact Cb (F! hN ⟨er,Ig! st (AD λz=>ck (ik.mpr z)),s3⟩)
 rintro EL H3 ⟨er,rfl,s3⟩;have HE:W1.ls.take (o? W1.ls.map Ne!)=W1.ls:=R? ZA BS
 have tk2:OJ.take (o? W1.ls.map Ne!)=OJ:=by rw[ZA,ll.1,BS]
 rw[HE,tk2] at er;have WD:=Ak s2 s3;have LD:=Hq! WD;refine WZ! (λr2 bX=>o1! (ints_rep (Ah bX _ _ er)) (Jhb _));have s4:=N0! bX;generalize KO! H3 r2 []=H4 at s4;have XJ:=Ak WD s4;have PJ:=Hq! XJ;have YW:=DT! er;rw[Jd];by_cases e0:Du W1.ls OJ=[];.rw[e0];exact Ce (k H4 W1 D1 OJ (PJ.more C! C!) j1 (Jck ll.1 e0) (kt.trans (FF XJ)) (sl! XJ) IS)
 ·(have e1:i? ((Du W1.ls OJ).map PyData.int).isEmpty:=by cases c:Du W1.ls OJ with | nil=>exact ga c e0 | cons _ _=>rfl);rw[e1];refine Cb (RH! z c (λt x y H5 s5 et=>?_));have bD:=Ak XJ s5;have TR:=Hq! bD;have er5:=F! s5 YW;refine SY! t E0!;(have XX:Ei! ho!:=by rw[ZA];have:=YC!;lia);have j0:=h8! x ho!;have l7:=CA x XX;obtain⟨BR,hy⟩:=Lq! (Du W1.ls OJ) (x % ho!) (by rw[ZA] at j0 l7 ⊢;lia);have fO:QE ((Du W1.ls OJ).map V.int) (x % ho!)=B! (dj BR):=RU! hy;obtain⟨ix,t2,zz,h1,h2,h3⟩:=Jep (ZP hy);obtain⟨bN,aY⟩:=TR.wa.ob;refine⟨_,rfl,p0,bN,_,rfl,aY,Lj!,_,rfl,_,rfl,_,rfl,r,_,rfl,Kb! er5,_,_,rfl,rfl,XX,r,_,_,_,rfl,rfl,WF er5,fO,?_⟩;(have z1:1<=nB-i:=by have h4:=AX! h1;lia);obtain⟨l1,l2,a,b,mY,es,p1,p2,p3⟩:=Ua TR.lw h1 h2;cases zz with | ask s g n' u =>refine Xw (A':=0) (B':=nB-FB) (R:=λ_ W' al' EL H'=>EL=ys/\vF W1 W' OJ al'/\Cd W'.qs=Cd W1.qs) TR hn C! C! mY es p1 p2 p3 CT! C! (λv W6 D6 m8 xw H6 rr fp6 bp YV fe=>?_) (λy L W' H' q G hs os rs hi tl nw e _=>Bu! ⟨a,b,s,g,n',u,q,G,hs,os,rs,es,hi,tl,rfl,e,nw.fi⟩ Fd!);obtain⟨rfl,ad,md⟩:=rr;have bp:=N6! bp.dn md JU.md JU.iz;exact⟨W6,D6,m8,_,_,_,rfl,A!,bp,js _ _ _ _ _ _ _ _ _ TR j1 ad,(kt.trans (FF bD)).trans (TR.CQ YV),(lk.trans (OO.same bD)).trans (iG! TR.lists YV),fe.trans IS⟩ | w l=>cases h3 | IJ s g n' u tk S=>cases h3 | lt s g ts=>cases h3
structure Cn where
 m:Nat
 p:Nat
 q:Nat
 r:Nat
 ap:Addr
 aq:Addr
 Gp:BV
 Gq:BV
 t0:Int
 Lr:D!
def kg(c:Cn)(s tick:Int)(X:HS):Prop:=(s=eh!->tick=c.Gp.AS)/\(s=ei!->tick=c.Gq.AS)/\(s=Bb!->tick<=c.t0)/\(s≠eh!->s≠ei!->s≠Bb!->X.2.1=[]/\(∀t∈X.1,EM!)/\∀z∈X.2.2,Vd! z.1.1)
def nQ(c:Cn)(s tick:Int):Prop:=(s=eh!->tick=c.Gp.AS)/\(s=ei!->tick=c.Gq.AS)/\(s=Bb!->c.t0<tick)
def nK(c:Cn)(fst:Bool):Vs!
 | .w l=>eS!/\Vd! l.th.1/\l.g≠eh!/\l.g≠ei!
 | .ask _ _ n u=>n=1/\u=KW! (fst=true) 1 2
 | .IJ s _ n u tick X=>n=1/\(u=1->kg c s tick X)/\(u=2->nQ c s tick)
 | .lt _ _ _=>False
structure QF(c:Cn)(j:Nat)(G:BV):Prop where
 AF:j≠c.r->G.AF=[]
 hand:KI! (EM!\/(j=c.r/\aU!))
 AJ:hM! (EM!\/(j=c.r/\aU!))
 lr:j=c.r->∀t∈c.Lr,CN!
structure J3(c:Cn)(fst:Bool)(W:DI)(al:M!)(ys:F?):Prop where
 ep:W.qs[c.p]?=B! (c.ap,c.Gp)
 eq:W.qs[c.q]?=B! (c.aq,c.Gq)
 ho:∀(j:Nat) a G,Fr! Wa!->j≠c.p->j≠c.q->QF c j G
 tr:∀a G,Fr! (W.qs[c.r]?)->KW! (fst=true) (G.AS=c.t0) (c.t0<G.AS)
 le:M9! (nK c fst z)
 iq:∃y,ys=[y]/\y.n=1/\(∀e∈y.fi,ot!)/\(∀e∈y.se,nQ c e.1 e.2)/\y.se.length<c.m
 fi:W.ED=[]
universe S
variable {c:Cn}{fst:Bool}{W W':DI}{al al':List LL}{ys EL:List Qy}
theorem J3.cz(x:cS! fst):nV al:=C2! (by rw[(x.le _ hl).1];decide +kernel)
theorem WI.pC{H:Hp}{p:Addr}{D:J?}{m n d A B:Nat}{s g k u:Int}(x:Db)(h:jo! k∈al):0<=g/\g<A4!:=by
 have kn:=x.kn _ h;obtain⟨y,hy,e⟩:=ZN kn.1;have iv:=x.iv y hy;have hm:g∈Cf al y.n u:=k5! h (s3! (k=y.n/\u=u) g=B! g) (BY! e.symm);have:g∈rg m:=by rcases kn.2 with rfl|rfl;(.exact iv.t1.mem_iff.mp (k4! hm));.rcases iv.t2 with⟨_,e2,_⟩|⟨_,pm⟩;(.rw[e2] at hm;cases hm);.exact pm.mem_iff.mp (k4! hm)
 obtain⟨h1,h2⟩:=NM.mp this;exact Q6!
theorem J3.told{g:Int}{q:Addr}{G:BV}{hs:D!}{os:Dd!}{rs:T!}(x:cS! fst)(g0:0<=g)(hi:Pe!)(tl:Gm!):(fst=true->kg c g G.AS GH!)/\(fst=false->nQ c g G.AS):=by
 have at_:∀{j:Nat} {a:Addr} {G2:BV},I8! Wa! a->g=EA!->G=G2:=λ{j a G2} e1 e2=>by (have:g.toNat=j:=A!);rw[this,e1] at hi;cases hi;rfl
 have r1:g=Bb!->KW! (fst=true) (G.AS=c.t0) (c.t0<G.AS):=λe=>x.tr q G (by rw[<-hi];congr 1;lia);refine⟨λhf=>⟨lw! x.ep,lw! x.eq,Up!,λn1 n2 n3=>?_⟩,λhf=>⟨lw! x.ep,lw! x.eq,Up!⟩⟩;.have:=r1 e;rw[AE hf] at this;lia
 .have h:=x.ho g.toNat q G hi C! C!;(have nr:g.toNat≠c.r:=A!);refine⟨?_,EJ!,Ac!⟩;(.have pm:=tl.XC.pm;rw[h.AF nr] at pm;exact List.map_eq_nil_iff.mp pm.eq_nil);(.rcases h.hand t (tl.pm.mem_iff.mp ht) with h|h;(.exact h);.exact PU! nr);.rcases h.AJ z.1 (BC (tl.pr.mem_iff.mp hz)) with h|h;(.exact h);.exact PU! nr
 .have:=r1 e;rw[AD (by rw[hf];decide)] at this;exact this
theorem Fz{a b:M!}{z w:LL}(h:w∈SZ):w∈a++z::b:=by
 rcases ZI h with h|h;.exact B0!
 .exact MO!
theorem J3.asked{H:Hp}{p:Addr}{D:J?}{m n d A B:Nat}(x:cS! true)(wi:Db)(h:vF W W' al al'):J3 c true W' al' ys:=by
 obtain⟨a,b,s,g,k,u,q,G,hs,os,rs,es,hi,tl,e1,e2,e3⟩:=h;have hm:jo! k∈al:=Q7!
 have lz:=x.le _ hm;refine⟨K2! x.ep,K2! x.eq,K2! x.ho,K2! x.tr,Ac!,x.iq,Oi! x.fi⟩;rw[e1] at hz;rcases As! with hz|hz;.exact jc! (Fz hz)
 .rw[ZK hz];(have hu:u=1:=Fc! lz.2 e?);exact⟨lz.1,λ_=>(x.told (wi.pC hm).1 hi tl).1 rfl,λz=>A!⟩
theorem J3.work{i:Nat}{a:Addr}{G G':BV}{new:M!}(x:id!)(hi:Fr! (W.qs[i]?))(n1:i≠c.p)(n2:i≠c.q)(h:QF c i G')(tk:G.AS<=G'.AS)(eq:W'.qs=W.qs.set i (a,G'))(fi:Cv!)(nw:∀z∈al',NA!\/lE!):J3 c false W' al' ys:=by
 refine⟨dr! eq n1 x.ep,dr! eq n2 x.eq,λj b G2 e m1 m2=>?_,λb G2 e=>?_,AC ((nw z hz).elim (x.le z) id),x.iq,G! fi x.fi⟩;.rw[eq] at e;rcases Ca! with⟨rfl,rfl,_⟩|⟨_,e⟩;(.exact h);.exact x.ho j b G2 e m1 m2
 .rw[eq] at e;rcases Ca! with⟨z,rfl,_⟩|⟨_,e⟩;(.have:=x.tr a G (VZ! hi);rw[Da!] at this ⊢;lia);.exact x.tr b G2 e
theorem QF.OS{j:Nat}{G G':BV}{tb:T2}{wt:Int}(h:QF c j G)(nu:G.BR=EA!)(w:Wt SL G tb wt G')(e:Vd! tb.1):QF c j G':=by
 have hd:∀t∈Fz!,EM!\/(j=c.r/\aU!):=h? (by rcases FG! with z|z;(.exact h.hand t z);.rw[z];exact H! e)
 rcases w with⟨_,⟨e1,o,f,rfl⟩|⟨_,rfl⟩⟩|⟨k,_⟩|⟨k,_⟩;.refine⟨λnj=>?_,hd,h.AJ,λej t ht=>E6! DL.mpr (h.lr ej t ht)⟩;exact WG! (j=c.r) nj
 .refine⟨h.AF,hd,EJ!,λej t ht=>E6! DL.mpr (h.lr ej t ht)⟩;rcases Lv! with z|z;(.rw[z];exact H! e);.exact h.AJ t z
 .exact Qy!
 .exact Qy!
universe E
structure Sf(c:Cn)(T S:D!)(v:T2)(L:l?)(E:pi)(b:Bool):Prop where
 pq:c.p≠c.q
 rp:c.r≠c.p
 rq:c.r≠c.q
 pm:c.p<c.m
 qm:c.q<c.m
 rm:c.r<c.m
 own:KC! (St! c.p\/St! c.q)
 ed:∀t u,FL!->CC!/\u∈T
 hp:PH c.p c.q c.Gp c.p T (L c.p) E
 hq:PH c.p c.q c.Gq c.q T (L c.q) E
 pf:Pf c.p c.r T S v L E b
 lr:∀t,aU!↔t∈L c.r
theorem Jil{t:T2}:∀{ls:v?},(A0! (l.th≠t))->Ct t ls=0:=by intro ls;induction ls with | nil=>intro _;rfl | cons l ls ih =>intro h;have h1:=Cj! l;have h2:=ih X8!;show Jh!+Ct t ls=0;rw[h2];unfold TX;simp[h1]
theorem Jik{t:T2}{rs:T!}(h:∀z∈rs,z.1≠t):Ht t rs=0:=by unfold Ht;induction rs with | nil=>rfl | cons z rs ih =>rw[AI,CK,ih λy hy=>h y (wn hy),AD (h z En!)];rfl
theorem Jjg{t:T2}{rs:T!}(h:t∉G? rs.map):Bp! rs=0:=by unfold Ai;rw[BD.mpr (AC (Ct! (λe=>QR! (Cn! e))))];rfl
theorem Vt{f g:Cb!}{b:PV!}:∀{l:BB!},(∀k∈l,KW! (b k=true) (f k) 0=g k)->gb! l.filter f=(l.map g).sum
 | [],_=>rfl
 | k::l,h=>by have ih:=Vt (l:=l) λj hj=>h j (wn hj);have hk:=Cj! k;rw[AI,CK,DH];cases c:b k with | true=>rw[c,e?] at hk;rw[e?,AI,CK,ih,hk] | false=>rw[c,Da!] at hk;rw[Da!,ih];lia
def Si(b:Bool)(S:D!):D!:=if M2! then [] else S
universe S
variable {c:Cn}{T S:List T2}{v:T2}{L:Nat->List T2}{E:T2->T2->Prop}{b:Bool}{W:DI}{al:List LL}{D:T2->Prop}{n:Nat}{fi:List (Int×Int×HS)}{kp:Nat->Bool}{ts:List T2}
theorem Jcd(x:Y1! E)(wg:Wg D c.m n W.share W.qs GF!)(ep:W.qs[c.p]?=B! (c.ap,c.Gp))(eq:W.qs[c.q]?=B! (c.aq,c.Gq))(ho:∀(j:Nat) a G,Fr! Wa!->j≠c.p->j≠c.q->QF c j G)(le:∀l∈IE al,Vd! l.th.1)(pm:(fi.map (·.1)).Perm (rg c.m))(f1:∀e∈fi,F9 W.qs e)(e1:∀e∈fi,ot!)(iY:Ix kp c.p)(zI:Ix kp c.q)(kr:i? (kp c.r))(sh:N_ W.qs GF! (oJ! GS))(fo:Found (oJ! Lb) ts):∀t,NR!↔t∈Si b S:=by
 have at_:∀{h:Nat},h<c.m->∃r∈fi,HR!/\Jb!=be/\Et fi h=BP!:=λhh=>rF pm hh;have tp:Sv c.Gp (Et fi c.p):=by obtain⟨r,hr,h1,_,h3⟩:=at_ x.pm;rw[h3];exact((f1 r hr).tk c.p _ _ ep h1).2 ((e1 r hr).1 h1)
 have tq:Sv c.Gq (Et fi c.q):=by obtain⟨r,hr,h1,_,h3⟩:=at_ x.qm;rw[h3];exact((f1 r hr).tk c.q _ _ eq h1).2 ((e1 r hr).2.1 h1)
 have to:∀h,h<c.m->kp h=true->h≠c.p->h≠c.q->(Et fi h).2.1=[]/\(∀t∈(Et fi h).1,EM!)/\∀z∈(Et fi h).2.2,Vd! z.1.1:=λh hm hk n1 n2=>by obtain⟨r,hr,h1,_,h3⟩:=at_ hm;rw[h3];refine(e1 r hr).2.2.2 C! C! AI!;(have:h=c.r:=A!);rw[this,kr] at hk;cases hk
 have nT:KC! (t.1≠Bb!):=λt ht e=>by rcases A6! x.own with h|h;(.exact AW! x.rp);.exact AW! x.rq
 have gD:∀r∈rowsOf (Lb c.m kp (Et fi)),r.1∈T/\((r∈(Et fi c.p).2.1/\No r.1.1 c.p)\/(r∈(Et fi c.q).2.1/\No r.1.1 c.q)):=CE! (by obtain⟨X,hX,IP⟩:=IA.mp hr;obtain⟨h,hm,hk,rfl⟩:=NN.mp hX;by_cases c1:h=c.p;(.subst c1;have:=(x.hp.AF r.1).mp (tp.Z' r IP).1;exact⟨this.1,Am! IP this.2⟩);.by_cases c2:h=c.q;(.subst c2;have:=(x.hq.AF r.1).mp (tq.Z' r IP).1;exact⟨this.1,c? IP this.2⟩);.rw[(to h hm hk c1 c2).1] at IP;cases IP)
 have rZ:¬GS c.m kp bz! v:=λz=>sh.hand c.p _ _ ep v ((x.hp.hand v).mpr x.pf.vl) z;have cl:∀t u,FL!->GS c.m kp bz! u->GS c.m kp bz! t:=λt u e hu=>by obtain⟨ht,_⟩:=x.ed t u e;rcases A6! x.own with h|h;(.obtain⟨r0,h0,h1,h2⟩:=Ln ((x.hp.holds t u ht h).mpr e);rw[<-h1];exact sh.hold c.p _ _ ep r0 h0 u h2 hu);.obtain⟨r0,h0,h1,h2⟩:=Ln ((x.hq.holds t u ht h).mpr e);rw[<-h1];exact sh.hold c.q _ _ eq r0 h0 u h2 hu
 intro t;have mem:=fo.mem t;unfold Si;cases hb:b with | true =>rw[e?];constructor;(.intro ht;exfalso;have gs:=mem.mp ht;obtain⟨r,hr,e⟩:=ZN gs.1;have hT:=OM! gD;rw[e] at hT;rcases(x.pf.tt t).mp hT with hs|hs;(.refine x.pf.bk hb (oJ! GS) cl (λj u hu=>?_) t hs gs;rcases x.pf.lv j u hu with⟨_,e⟩|⟨_,e,_⟩;(.rw[e];exact rZ);.obtain⟨⟨ar,Gr⟩,er⟩:=cI! c.r wg.wl.len x.rm;exact sh.hand c.r _ _ er u ((ho c.r ar Gr er x.rp x.rq).lr rfl u ((x.lr u).mpr (e▸hu))));.rw[hs] at gs;exact rZ gs);.intro h;cases h | false =>rw[Da!];(have Lr0:c.Lr=[]:=List.eq_nil_iff_forall_not_mem.mpr λu hu=>by rcases x.pf.lv c.r u ((x.lr u).mp hu) with h|h;(.exact x.rp h.1);.rw[hb] at h;cases h.1);constructor;(.intro ht;have gs:=mem.mp ht;obtain⟨r,hr,e⟩:=ZN gs.1;have hT:=OM! gD;rw[e] at hT;rcases(x.pf.tt t).mp hT with hs|hs;(.exact hs);.rw[hs] at gs;exact ga gs rZ);.intro hs;have hT:∀{t},Ec!->CC!:=λh=>E6! (x.pf.tt _).mpr h;refine mem.mpr ⟨?_,λld=>?_⟩;(.rcases x.own t (hT hs) with h|h;(.obtain⟨r,hr,e⟩:=tp.row t ((x.hp.AF t).mpr ⟨hT hs,h⟩);exact jf! (IA.mpr (Az! (NN.mpr ⟨c.p,x.pm,iY,rfl⟩) hr)));.obtain⟨r,hr,e⟩:=tq.row t ((x.hq.AF t).mpr ⟨hT hs,h⟩);exact jf! (IA.mpr (Az! (NN.mpr ⟨c.q,x.qm,zI,rfl⟩) hr)));·(have key:∀{t},Led (oJ! Lb) t->Ec!->False:=λ{t} ld=>by induction ld with | @hand X t hX ht =>intro hs;obtain⟨h,hm,hk,rfl⟩:=NN.mp hX;by_cases c1:h=c.p;(.subst c1;rcases x.pf.lv c.p t ((x.hp.hand t).mp (tp.iA t ht)) with z|z;(.rw[z.2] at hs;exact x.pf.nv hs);.exact x.rp z.2.1.symm);(.by_cases c2:h=c.q;(.subst c2;rcases x.pf.lv c.q t ((x.hq.hand t).mp (tq.iA t ht)) with z|z;(.exact x.pq z.1.symm);.exact x.rq z.2.1.symm);.exact nT t (hT hs) ((to h hm hk c1 c2).2.1 t ht)) | @out r hr ne =>intro hs;refine ne ?_;have tT:=hT hs;have l0:Ct r.1 (IE al)=0:=Jil λl hl e=>nT r.1 tT (TW! (le l hl));(have eo:be=Tl! c.m (λk=>OK r.1 W.qs k):=by rcases(gD r hr).2 with⟨h1,h2⟩|⟨h1,h2⟩;(.rw[(tp.Z' r h1).2,wg.AF ep (tp.Z' r h1).1,l0];lia);.rw[(tq.Z' r h1).2,wg.AF eq (tq.Z' r h1).1,l0];lia);rw[eo,R5];unfold Lb;rw[AQ];refine(Vt (f:=λk=>Ht r.1 (Et fi k).2.2) (g:=λk=>OK r.1 W.qs k) U3!).symm;have km:=BI.mp hk;obtain⟨⟨a,G⟩,ek⟩:=cI! k wg.wl.len km;(have er:OK r.1 W.qs k=Ai G.AJ r.1:=UI! ek);show _=OK r.1 W.qs k;rw[er];by_cases c1:k=c.p;(.subst c1;rw[ep] at ek;cases ek;rw[AE iY];exact tp.AJ r.1);(.by_cases c2:k=c.q;(.subst c2;rw[eq] at ek;cases ek;rw[AE zI];exact tq.AJ r.1);(·(have z:Ai G.AJ r.1=0:=Jjg λm=>by rcases(ho k a G ek c1 c2).AJ r.1 m with h|h;(.exact nT r.1 tT h);.rw[Lr0] at h;cases h.2);rw[z];(cases ck:kp k with | true=>rw[e?];exact Jik λy hy e=>nT r.1 tT (by rw[<-e];exact(to k km ck c1 c2).2.2 y hy) | false=>rw[Da!]))) | @step r u hr hu _ ih =>intro hs;obtain⟨hT1,h⟩:=gD r hr;refine ih (x.pf.cl hb r.1 u ?_ hs);rcases h with⟨h1,h2⟩|⟨h1,h2⟩;(.exact(x.hp.holds r.1 u hT1 h2).mp (tp.hV r h1 u hu));.exact(x.hq.holds r.1 u hT1 h2).mp (tq.hV r h1 u hu));exact key ld hs
universe E
def Lt4(Y_:D!):Vs!
 | .w l=>eS!\/O6!
 | .lt _ g ts=>X5! (t∈Y_) (t.1=g)
 | _=>False
structure J4(c:Cn)(T Y_:D!)(W:DI)(al:M!):Prop where
 le:M9! (Lt4 Y_ z)
 kp:∀h:Nat,(h=c.p\/h=c.q)->∀a G,Fr! (W.qs[h]?)->(Oz! (CC!/\Cg!))/\(KC! (Cg!->t∉Y_->BV!))/\((∀s ts,R7! r?∉al)->∀t∈Y_,t∉CO!)
theorem J4.cz(x:J4 c T Y_ W al):nV al:=C2! (by rcases x.le _ hl with h|h<;>(rw[h];decide +kernel))
theorem Jfw{kind:Str}{G G':BV}{tb:T2}{wt:Int}(w:RF! wt)(k:U9!\/kind=Bm!)(t:T2):AT! G'.AF.map↔BV!:=by
 rcases w with⟨_,⟨_,o,f,rfl⟩|⟨_,rfl⟩⟩|⟨e,_⟩|⟨_,rfl⟩;.exact Lh (AG.mpr (D0! (A_ f))) t
 .exact Iff.rfl
 .rcases k with k|k;(.rw[k] at e;exact LY! ZV);.rw[k] at e;exact LY! ZV
 .show YI! YH G wt↔_;unfold YH;by_cases c:EI!;(.rw[Ch];exact Lh c t);.rw[IR]
universe S
variable {c:Cn}{T S Y_:List T2}{v:T2}{L:Nat->List T2}{E:T2->T2->Prop}{b:Bool}{W W':DI}{al al':List LL}{ys EL:List Qy}{H H':Hp}{p0:Addr}{D D':T2->Prop}{n d A B d' B':Nat}
theorem J4.OS(x:J4 c T Y_ W al)(wi:la! A)(h:sh! c.m H'):J4 c T Y_ W' al'/\Cv!/\EL=ys:=by obtain⟨a,z,b,es,h⟩:=h;have hz:=x.le z XE!;cases z with | w l =>obtain⟨e1,e2,e3,q,G,G',hi,w,e4⟩:=h;refine⟨⟨AC (x.le z (P! es (Fz (e3▸hz)))),λh hh a9 G2 e=>?_⟩,e2,e1⟩;(have no:(∀s ts,R7! r?∉al')->∀s ts,R7! r?∉al:=λk s ts m=>by rw[es] at m;refine k s ts ?_;rw[e3];rcases ZI m with m|m;(.exact j? m);.rcases ZM m with m|m;(.cases m);.exact Bt! m);rw[e4] at e;rcases Ca! with⟨e5,rfl,_⟩|⟨_,e⟩;(.obtain⟨k1,k2,k3⟩:=x.kp h hh q G (P! e5 hi);have kk:=Jfw w hz;exact⟨XZ! k1 (kk t).mp,λt ht e n=>(kk t).mpr (k2 t ht e n),λk t ht m=>k3 (no k) t ht ((kk t).mp m)⟩);.obtain⟨k1,k2,k3⟩:=x.kp h hh a9 G2 e;exact⟨k1,k2,λk=>k3 (no k)⟩ | lt s g ts =>obtain⟨e1,e2,q,G,bs,hi,e4,e3,kb⟩:=h;have g0:=(wi.lt s g ts XE!).1;refine⟨⟨λz l9=>?_,λh hh a9 G2 e=>?_⟩,e2,e1⟩;(.rw[e3] at l9;rcases ZI l9 with m|m;(.exact jc! (Fz m));.obtain⟨l,hl,rfl⟩:=BD!;exact N! (kb l hl));(.rw[e4] at e;rcases Ca! with⟨e5,rfl,_⟩|⟨ne,e⟩;(.obtain⟨k1,k2,k3⟩:=x.kp h hh q G (P! e5 hi);(have eg:g=r?:=A!);(have kk:∀t,AT! (Nz G ts).AF.map↔(BV!/\PH!):=λt=>by show AT! (G.AF.filter (AS! Hz!)).map↔_;constructor;(.intro m;obtain⟨r,hr,rfl⟩:=BD!;obtain⟨h1,h2⟩:=AB.mp hr;exact⟨BC h1,BK h2⟩);.rintro⟨m,n⟩;obtain⟨r,hr,rfl⟩:=BD!;exact Ku! r (CV! hr (D2! n)));refine⟨h? (k1 t (PQ! kk ht)),λt ht e n=>V3! kk (k2 t ht e n) (λm=>n (PQ! hz m)),λ_ t ht m=>?_⟩;obtain⟨m1,m2⟩:=(kk t).mp m;exact m2 ((hz t).mpr ⟨ht,EW! eg (k1 t m1).2⟩));(.obtain⟨k1,k2,k3⟩:=x.kp h hh a9 G2 e;refine⟨k1,k2,λk=>k3 λs' lC m=>?_⟩;rw[es] at m;refine k s' lC ?_;rw[e3];rcases ZI m with m|m;(.exact j? JI!);(.rcases ZM m with m|m;(.injection m with _ m2 _;exact WG! (h=g.toNat) ne);.exact j? (ZC _ m)))) | ask s g n u=>exact hz.elim | IJ s g n u tk X=>exact hz.elim
structure Dn(c:Cn)(T S:D!)(b:Bool)(W:DI)(al:M!)(H:Hp)(xf:Addr)(as:J!)(ts:D!):Prop where
 fi:W.ED=[(1,xf)]
 xt:kl! xf
 th:AO!
 mem:∀t,NR!↔t∈Si b S
 pw:ts.Pairwise HR
 j4:J4 c T (Si b S) W al
theorem J3.OS(x:id!)(sf:Y1! E)(wi:la! A)(XI:WI H' p0 W' D' c.m n d' A B' al' EL)(h:sh! c.m H'):J3 c false W' al' EL\/∃xf as ts,Dn c T S b W' al' H' xf as ts/\O9! (EL=[y]):=by
 obtain⟨a,z,bb,es,h⟩:=h;have hm:NA!:=Q7!
 have hz:=x.le z hm;obtain⟨y,ey,yn,f1,s1,sl⟩:=x.iq;cases z with | w l =>obtain⟨e1,e2,e3,q,G,G',hi,w,e4⟩:=h;obtain⟨k1,k2,k3,k4⟩:=hz;have g0:=(wi.wg.wl.ok l (CV.mpr (D0! hm))).1;rw[k1] at w;have nu:=(wi.wg.BR hi).2;subst e1;exact Ad! (x.work (new:=[]) hi C! C! ((x.ho _ q G hi C! C!).OS nu w k2) (BJ! w.ZQ.2.2.2.2.1) e4 e2 (AC (Ad! (G! es (Fz (e3▸hz)))))) | lt s g ts=>exact hz.elim | ask s g k u =>obtain⟨e1,e2,e4,q,G,hs,os,rs,hi,tl,e3⟩:=h;subst e1;have u2:u=2:=hz.2;refine H! ⟨GQ! x.ep,GQ! x.eq,GQ! x.ho,GQ! x.tr,λz l9=>?_,x.iq,K2! x.fi⟩;rw[e3] at l9;rcases ZI l9 with m|m;(.exact jc! (Fz m));.rw[ZK m];exact⟨hz.1,λe=>A!,λ_=>(x.told (wi.pC hm).1 hi tl).2 rfl⟩ | IJ s g k u tk X =>obtain⟨e4,y1,y',i1,i2,new,e1,e2,e5,e6,e3,h⟩:=h;obtain⟨h1,h2,h3⟩:=hz;(have one:i1=[]/\y1=y/\i2=[]:=by rw[ey] at e1;cases i1 with | nil=>injection e1 with a b;exact Bu! a.symm b.symm | cons w i1=>injection e1 with a b;exact Iy! b (by cases i1<;>(intro z;cases z)));obtain⟨rfl,rfl,rfl⟩:=one;have aO:EL=[y']:=e2;have old:∀z∈a++bb,lE!:=λz m=>jc! (Fz m);have NY:(∀z∈new,lE!)->(∀e∈y'.fi,ot!)->(∀e∈y'.se,nQ c e.1 e.2)->y'.se.length<c.m->Cv!->J3 c false W' al' EL:=λn1 n2 n3 n4 n5 =>⟨GQ! x.ep,GQ! x.eq,GQ! x.ho,GQ! x.tr,λz m=>(ZI (e3▸m)).elim (old z) (n1 z),⟨y',aO,R? e6 h1,n2,n3,n4⟩,G! n5 x.fi⟩;rcases h with⟨rfl,kL,ef,ew,hn⟩|⟨rfl,ef,kL,hn⟩;(.refine Ad! (NY (λz m=>?_) (λe m=>?_) (P! kL s1) (P! kL sl) ew);(.rcases hn with⟨rfl,_⟩|⟨rfl,_⟩;(.cases m);.unfold C7 at m;obtain⟨i,_,rfl⟩:=BD!;exact BY! h1);.rw[ef] at m;rcases ZI m with m|m;(.exact f1 e m);.rw[ZK m];exact h2 rfl);·(have s2:∀e∈y'.se,nQ c e.1 e.2:=λe m=>by rw[kL] at m;rcases ZI m with m|m;(.exact s1 e m);.rw[ZK m];exact h3 rfl);rcases hn with⟨rfl,hl,ew⟩|⟨hl,ts,xf,as,rfl,ew,ex,th,cf,mI,fo⟩;(.exact Ad! (NY (λz m=>sw m) (P! ef f1) s2 (cd! kL ZE (_+1<_)) ew));.refine N! ⟨xf,as,ts,?_,y',aO,R? e6 h1⟩;have iv:=XI.iv y' (P! aO gN!);(have rV:y'.n=1:=R? e6 h1);(have sm:y'.se.length=c.m:=ut kL ZE hl);(have fm:y'.fi.length=c.m:=by rcases iv.t2 with⟨_,_,_,e⟩|⟨h,_⟩;(.rw[e] at sm;have:=XI.m1;have sm:0=c.m:=sm;lia);.exact h);obtain⟨w1,w2,w3⟩:=iv.whole fm;(have w4:Cf al' y'.n 2=[]/\B8 al' y'.n 2=[]:=by rcases iv.t2 with⟨h,_⟩|⟨_,pm⟩;(.lia);.have l:=pm.length_eq;rw[ZE,ZE,ZA,ZA,Gd,sm] at l;exact⟨JA!,JA!⟩);(have qZ:∀e∈y'.fi,ot!:=G! ef f1);(have kk:∀{h:Nat},h<c.m->∃r∈y'.fi,∃r2∈y'.se,HR!/\Gk y'.fi h=be/\KK! r2.1/\r2.2=cf h:=λ{h} hm=>by obtain⟨r,hr,a1,a2,_⟩:=rF w3 hm;obtain⟨r2,IP,b1,b2⟩:=mI h hm;exact⟨r,hr,r2,IP,a1,a2,b1,b2⟩);rw[<-ef] at fo;have Y_:=Jcd (W:=W') (al:=al') (kp:=λh=>Du! (Gk y'.fi h) (cf h)) sf XI.wg (P! e4 x.ep) (P! e4 x.eq) (P! e4 x.ho) (Il!) w3 iv.f1 qZ ?_ ?_ ?_ (iv.s2 fm _ λh hm hk=>?_) fo;(.refine⟨G9! ew x.fi h1,ex,th,Y_,fo.pw,⟨λz m=>?_,λh hh a9 G e=>?_⟩⟩;(.rw[e3] at m;rcases ZI m with m2|m2;(.have hz:=old z m2;cases z with | w l=>exact H! hz.1 | lt _ _ _=>exact hz.elim | ask s' g' n' u' =>have:g'∈Cf al' y'.n 2:=k5! (Oi! m) (s3! (n'=y'.n/\u'=2) g'=B! g') ⟨G! rV hz.1,hz.2⟩;rw[w4.1] at this;cases this | IJ s' g' n' u' lD X' =>have kn:=(XI.kn (.IJ s' g' n' u' lD X') (P! e3 m)).2;rcases kn with rfl|rfl;(.have:oC!∈B8 al' y'.n 1:=k5! (Oi! m) (ff! (n'=y'.n) (VN!=1) oC!) (BY! (G! rV hz.1));rw[w2] at this;cases this);.have:oC!∈B8 al' y'.n 2:=k5! (Oi! m) (ff! (n'=y'.n) (S? 2=2) oC!) (BY! (G! rV hz.1));rw[w4.2] at this;cases this);.unfold J2 at m2;obtain⟨i,_,rfl⟩:=ZN m2;intro t;rw[AB,Y_ t,decide_eq_true_eq]);·(have ph:PH c.p c.q G h T (L h) E:=by rw[e4] at e;rcases hh with rfl|rfl;(.rw[x.ep] at e;cases e;exact sf.hp);.rw[x.eq] at e;cases e;exact sf.hq);have hm:h<c.m:=IQ! (e▸sf.pm) (e▸sf.qm);refine⟨λt m=>(ph.AF t).mp m,λt m e _=>V3! ph.AF m e,λno=>?_⟩;refine ga ?_ (no g (ts.filter (BO! Cg!)));rw[e3];exact Bt! (AG.mpr (GO! h (BI.mpr hm))));(.obtain⟨z,hz,e⟩:=CV.mp hl;rw[e3] at hz;rcases As! with m|m;(.cases z with | w l'=>cases e;exact(old _ m).2.1 | lt _ _ _=>cases e | ask _ _ _ _=>cases e | IJ _ _ _ _ _ _=>cases e);.unfold J2 at m;obtain⟨i,_,rfl⟩:=BD!;cases e);(.obtain⟨r,hr,r2,IP,a1,a2,b1,b2⟩:=kk sf.pm;refine decide_eq_true ?_;rw[a2,<-b2,(qZ r hr).1 a1,(s2 r2 IP).1 b1]);(.obtain⟨r,hr,r2,IP,a1,a2,b1,b2⟩:=kk sf.qm;refine decide_eq_true ?_;rw[a2,<-b2,(qZ r hr).2.1 a1,(s2 r2 IP).2.1 b1]);(.obtain⟨r,hr,r2,IP,a1,a2,b1,b2⟩:=kk sf.rm;refine Al! AI!;have z1:=(qZ r hr).2.2.1 a1;have z2:=(s2 r2 IP).2.2 b1;lia);.obtain⟨r,hr,r2,IP,a1,a2,b1,b2⟩:=kk hm;exact E8! r2 IP b1 (EW! b2 (Ao! BK hk))
universe E
theorem Jk2(g:GG):DR 3 KG KN CL! (b2! Ot):=LM! Jm2 g
theorem oB:I? [Kf!,Ta!,rF!,"_law_xs","_law_mine"] ob! vO:={}
inductive Jio(vs:E!)(H:Hp)(Q:VK)(E:XK):Prop
 | mk (c:Cn) (T S:D!) (v:T2) (L:l?) (Ed:pi) (b:Bool) (p0 rl xl:Addr) (xs:d!) (W:DI) (D:J?) (n d B:Nat) (al:M!) (ys:F?) (_:vs=[Fw!,R! Bb!,l! rl,l! xl]) (_:Y1! Ed) (_:la! 0) (_:id!) (_:n<40) (_:B<=400) (_:gd! rl Z5!) (_:rl≠W.hs) (_:gd! xl xs.map) (_:xs.length=4)
   (_:∀(v:V)(W':DI)(D':J?)(al':M!)(H':Hp),WI H' p0 W' D' c.m Fb! GM! 0 (B+5) al' ys->J3 c false W' al' ys->u?->Xz!->NE->IG!)
def Jlr:TT:=Kw (WC iK (oU! Jo!) (B9 1))
theorem Sf.lrn(x:Y1! E){t:T2}(h:aU!):t.1≠Bb!:=λe=>by (have hT:CC!:=by rcases x.pf.lv c.r t ((x.lr t).mp h) with z|z;(.exact ga z.1 x.rp);.exact E6! (x.pf.tt t).mpr z.2.2);rcases x.own t hT with z|z;(.exact AW! x.rp);.exact AW! x.rq
theorem QF.make{c:Cn}{G:BV}{ad:Addr}(h:Qu!)(nu:G.BR=Bb!):QF c c.r (HE (V' G ad)) :=kR! (h? ((ZI (show LA! from ht)).elim (h.hand t) λe=>Ad! (G! (ZK e) nu))) (λe t ht=>j? (h.lr e t ht))
theorem QF.free{c:Cn}{G:BV}{th:T2}(h:Qu!)(ne:th∉c.Lr):bM! (Je G th) :=kR! (h? (h.hand t (PP! (show t∈N0 G.hand th from ht)))) (λe t ht=>HC.mpr ⟨h.lr e t ht,M? ne (z▸ht)⟩)
theorem QF.hold{c:Cn}{G:BV}{ta tb:T2}(h:Qu!):bM! (Hl G ta tb):=kR! h.hand h.lr
theorem QF.out{c:Cn}{G:BV}{ta:T2}{x:Int}(h:Qu!):bM! (Jv G ta x):=kR! h.hand h.lr
theorem QF.clean{c:Cn}{G:BV}{R:D!}(h:Qu!):bM! (Fa G R):=⟨λz=>sF!,h.hand,XZ! h.AJ Hl!,h.lr⟩
theorem QF.pU{c:Cn}{G:BV}{R:D!}{rs:T!}(h:Qu!)(nu:G.BR=Bb!)(ok:f?)(pm:Cm!):Bn FS rs=[]:=by
 unfold Bn;have e:(rs.filter XX!)=[]:=by refine List.filter_eq_nil_iff.mpr Ac!;have m:K7! z.1 G.AJ.map:=BC (pm.mem_iff.mp hz);have hd:z.1∈G.hand:=gk! h.AJ z.1 m (HO! e.trans nu.symm (ok.rk _ m)) (h.lr rfl _ e.2);(have:Bi FS z.1=true:=by unfold Bi;rw[a2! (show z.1∈(keepR G R).hand from hd)];rfl);rw[this];decide
 rw[e];rfl
theorem gWk(g:GG):DR 6 QV RU ob! Jio:=by
 refine C3! g.mWk.fn.II oB;obtain⟨c,T,S,v,L,Ed,b,p0,rl,xl,xs,W,D,n,d,nB,al,ys,rfl,sf,wi,j3,hn,hB,kM,br,fW,lb,k⟩:=h;refine Y!;have aW:WP 3:=k!;have aV:WP 4:=k!;have cP:WP 5:=k!;refine S2! (p2! i 4 Jlr te (B9 0) [(Ta!,1)] oB.nd (mG! (ng! g.mWSt.mt Jk2 aW g.mWSt.bd)) He! Jg! Hm! (kH! V6! Q!) Hi!) (sr! (Zr! (tb! Yy O? ER!) hR!) (ng! g.mWM.mt uT aW g.mWM.bd) hR! (tC! g.TW.cl g.mWFr.mt (Jk3 g) aV g.mWFr.bd (Vi! j9!)) (sr! hR! (SB! g.mWHo.mt ng g.mWHo.bd Q! j9! j9!) hR! (ng! g.mWCl.mt Jk4 aV g.mWCl.bd) (CQ! (SB! g.mWSe.mt vD g.mWSe.bd Q! (rY! L! (A6 Bk A? Af) L!) j9!))));obtain⟨⟨a,G⟩,hq⟩:=cI! c.r wi.wg.wl.len sf.rm;have iw:JV W Bb! a G:=YV!;obtain⟨sd,nu⟩:=wi.wg.BR hq;have gd:=H7! wi.wg.wl.good hq;obtain⟨hs,os,rs,KS⟩:=gd.told;obtain⟨dx,hp⟩:=wi.wa.ob;refine Tm! p0 dx _ hp Fq! p0 Bb! W rfl wi.wa (N! ⟨a,G,iw,a,G,hs,os,rs,rfl,iw.at wi.wa,gd.h2,gd.o2,gd.r2,KS.pm,KS.pw,KS.XC,KS.pr,KS.wr,λx H1 s1 st=>?_⟩);obtain⟨y1,y2,y3,as,bs,ds,ex,e1,t1,e2,r2,⟨ob,e3,pl⟩,r3⟩:=st;refine⟨x,_,0,_,rfl,rfl,FM ex,ww,y1,rfl,T? OA!,λml fK=>?_⟩;have lhs:=KS.pm.length_eq;have z64:=gd.h2;refine Qk (K:=K) (b:=BO! EM!) (ts:=hs) (p:=ml) (caps:=[(Ta!,1)]) fK C! (DN.of e1) t1 (λH2 a2 t Q' s2 e _ q=>?_) λH2 cs s2 eml thm=>?_;.refine⟨_,rfl,a2,_,0,_,rfl,rfl,VY!,ww,_,rfl,rfl,_,rfl,?_⟩;(have:Du! (H? t.1) (Ef! c.r)=a? EM!:=by by_cases z:EM!;(.rw[decide_eq_true z,gu! z]);.rw[decide_eq_false z,Al! (λy=>z (V.int.inj y))]);rw[this];exact q
 have iH:=Ak s1 s2;have IH:=wi.same iH;have xV:=F! iH kM;have xU:=F! iH fW;have h_:∀t∈OY! hs.filter EM!,CN!/\EM!:=h? (by obtain⟨h1,h2⟩:=AB.mp ht;exact⟨KS.pm.mem_iff.mp h1,BK h2⟩)
 generalize b8! hs.filter EM!=mn at thm h_;clear ex e1 t1 e2 r2 e3 pl r3 s1 s2 hp;have lcs:cs.length=mn.length:=L? thm;have kA:=j3.ho c.r a G hq sf.rp sf.rq;obtain⟨x0,x1,x2,x3,rfl⟩:∃x0 x1 x2 x3,xs=[x0,x1,x2,x3]:=by rcases xs with _|⟨x0,_|⟨x1,_|⟨x2,_|⟨x3,_|⟨x4,xs⟩⟩⟩⟩⟩;(.cases lb);(.cases lb);(.cases lb);(.cases lb);(.exact⟨x0,x1,x2,x3,rfl⟩);.cases lb
 have QT:∀{H9:Hp},Bl H2 H9->DO K H9 xl [H? x0,H? x1,H? x2,H? x3]:=λs=>rn! s xU;have fin:∀{H3 H':Hp} {W':DI} {D':J?} {al':M!} {v:V},An! H3->WI H3 p0 W D c.m n d 0 nB al ys->WI H' p0 W' D' c.m Fb! GM! 0 (nB+5) al' ys->Lz p0 W ys H3 H'->NE->(∃G',bM! G'/\G.AS<=G'.AS/\MY! G')->Cv!->(∀z∈al',NA!\/lE!)->IG!:=λs3 w3 w' fr eh ⟨G',h1,h2,h3⟩ fi nw =>k _ _ _ _ _ w' (j3.work (new:=[]) hq sf.rp sf.rq h1 h2 h3 fi nw) ((FF s3).trans (w3.CQ fr)) ((OO.same s3).trans (w3.lists fr)) eh;have oJ:∀{H3:Hp},Bl H2 H3->∀{Q':VK},(∀v H',Hh!->Q' v H')->N5 (Ly! Bb!) H3 Q' E0:=λ{H3} s3 {Q'} hQ=>by have s4:=Ak iH s3;have w3:=wi.same s4;refine ps! Vh (nB+5) (lY! (∃ad,MY! ga!)) w3 C! C! C! Rj! (λt ad W' H' _ et nw e=>Wp! nw.fi ad Go!);obtain⟨rfl,rfl,fi,ad,eq⟩:=r;exact F! hQ (fin s4 w3 XI fr IS ⟨_,kA.make nu,xz (G.AS<=CM!),eq⟩ fi ZJ!)
 obtain⟨GX,FE⟩:=IH.wa.ob;refine WZ! (λr JE=>o1! (ZV! (Ah JE _ _ eml) F1 (LJ! (FF (Ah JE)) thm)) (Ff (Ta mn)));have s3:=XJ!;generalize YL! r=H3 at s3;rw[Jd];have ND:=D8! FE;by_cases m0:mn=[];.rw[m0];exact Ce (Ce (iY! GX ND (oJ s3 λv H' h=>h)))
 have me:i? (mn.map OX).isEmpty:=by cases mn with | nil=>exact Fn! m0 | cons _ _=>rfl
 rw[me];have x5:=Xq! x1 5;refine p6!;by_cases c0:bC! (x1 % 5) 0;.rw[D2! c0];exact Ce (iY! GX ND (oJ s3 λv H' h=>h))
 rw[Al! c0];have WD:=Ak iH s3;have LD:=wi.same WD;have XY:=D8! eml;have vf:=Bi! s3 thm;have lp:Ei! t1!:=by rw[ZA,lcs];have:=F'.mpr m0;lia
 have pick:∀x:Int,∃(a2:Addr)(t:T2),k1! cs.map V.ref ed! a2/\rL! H3 a2 t/\CN!/\EM!:=λx=>by have j0:=h8! x t1!;have j1:=CA x lp;(have jl:Fm! ed!<cs.length:=by rw[ZA] at j0 j1 ⊢;lia);obtain⟨a2,h2⟩:=aa! cs (Fm! ed!) jl;obtain⟨t,h3⟩:=HT! mn (Fm! ed!);exact⟨a2,t,RU! h2,Ax vf _ _ _ h2 h3,h_ t (ZP h3)⟩
 refine p6!;by_cases c1:IW! (x1 % 5);.rw[WS!];obtain⟨a2,t,h1,h2,h3,h4⟩:=pick x2;refine Ce ⟨_,rfl,p0,GX,_,rfl,ND,Fq!,_,rfl,_,rfl,_,rfl,xl,_,2,_,rfl,rfl,QT s3,ww,_,rfl,ml,_,rfl,gw!,_,_,rfl,rfl,lp,ml,_,_,_,rfl,rfl,WF XY,h1,?_⟩;refine Jaq (A':=0) (B':=nB+5) (R:=lY! (MY! (Je G t))) LD C! C! iw h2 h3 GM C! Rj! (λv W' H' nw e=>ae! nw.fi Go!);obtain⟨rfl,rfl,fi,eq⟩:=r;refine pv! (kA.free AI!) ZJ!;exact sf.lrn z h4
 rw[WH!];refine p6!;by_cases c2:bC! (x1 % 5) 2;.rw[D2! c2];obtain⟨a2,t,h1,h2,h3,h4⟩:=pick x2;obtain⟨a3,t3,g1,g2,g3,g4⟩:=pick x3;refine Ce ⟨_,rfl,p0,GX,_,rfl,ND,Fq!,_,rfl,_,rfl,_,rfl,xl,_,2,_,rfl,rfl,QT s3,ww,_,rfl,ml,_,rfl,gw!,_,_,rfl,rfl,lp,ml,_,_,_,rfl,rfl,WF XY,h1,_,rfl,_,rfl,xl,_,3,_,rfl,rfl,QT s3,ww,_,rfl,ml,_,rfl,gw!,_,_,rfl,rfl,lp,ml,_,_,_,rfl,rfl,WF XY,g1,?_⟩;refine ov! Vi (nB+5) (lY! (MY! (Hl G t t3))) LD C! h2 g2 h3 g3 h4 C! Rj! (λv W' H' nw e=>ae! nw.fi Go!);obtain⟨rfl,rfl,fi,eq⟩:=r;exact pv! kA.hold ZJ!
 rw[Al! c2];refine p6!;by_cases c3:bC! (x1 % 5) 3;.rw[D2! c3];refine Ce (iY! GX ND ?_);refine ps! Xv (nB+5) (lY! (∃R',MY! (Fa G R'))) LD C! C! C! Rj! (λv W' kk R' rs H' L _ pm nw e=>F3! ?_ nw.fi R' Go!);(.obtain⟨rfl,rfl,fi,R',eq⟩:=r;exact pv! kA.clean ZJ!);.rw[kA.pU nu sd.ok pm];simp
 rw[Al! c3];obtain⟨a2,t,h1,h2,h3,h4⟩:=pick x2;have o5:=D8! xV;have lr:Ei! (Tx! Z5!):=by have:Bb!∈Dg c.m c.p c.q:=MO.mpr (F3! c.r sf.rm sf.rp sf.rq);have:=P_ this;rw[ZA];lia
 have j0:=h8! x3 (Tx! Z5!);have j1:=CA x3 lr;obtain⟨gz,zy⟩:=Lq! (Dg c.m c.p c.q) (x3 % Tx! Z5!) (by rw[ZA] at j0 j1 ⊢;lia);obtain⟨gg,rfl,k1,k2,k3⟩:=MO.mp (ZP zy);refine Cb ⟨_,rfl,p0,GX,_,rfl,ND,Fq!,_,rfl,_,rfl,_,rfl,xl,_,3,_,rfl,rfl,QT s3,ww,_,rfl,rl,_,rfl,Kb! o5,_,_,rfl,rfl,lr,rl,_,_,Ef! gg,rfl,rfl,WF o5,RU! zy,_,rfl,_,rfl,xl,_,2,_,rfl,rfl,QT s3,ww,_,rfl,ml,_,rfl,gw!,_,_,rfl,rfl,lp,ml,_,_,_,rfl,rfl,WF XY,h1,?_⟩;refine ov! Jap (nB+5) (Sg! (al'=al++[.w ⟨SL,Bb!,S? gg,t,W.share⟩]/\EL=ys/\Cv!/\MY! (Jv G t (Eo!+W.share)))) LD C! C! C! h2 h3 h4 C! Rj! (λW' t' H' nw e=>ae! nw.fi Go!);obtain⟨rfl,rfl,fi,eq⟩:=r;refine pv! kA.out Ac!;rcases As! with h|h;.exact W?
 .rw[ZK h];exact N! ⟨rfl,h4,M7! (S? gg≠_),M7! (S? gg≠_)⟩
universe E K65
universe N FX
open PySem PySem.Spec PyProof.Rows L2
universe S
variable {X:Cx Kx}{AA:List (Addr×Obj)}{σ:L2.St}{H:Hp}{s:Shared}
universe E
inductive Jkn(neg:Bool)(x y:V)(H:Hp)(Q:VK):Prop
 | mk (a b:Bool) (_:x=.bl a) (_:y=.bl b) (_:ju! (!(a==b)) (a==b))
theorem Jiz{X:I!}:Jp! .Is Jkn false:=by intro AA s σ H x y u v Q I rx ry h;obtain⟨a,b,rfl,rfl,q⟩:=h;cases rx;cases ry;refine wpAny_is_plain rfl ⟨.bl (a==b),H,I,?_,q⟩;cases a<;>cases b<;>rfl
theorem Jbn{X:I!}:Jp! .IsNot Jkn true:=by intro AA s σ H x y u v Q I rx ry h;obtain⟨a,b,rfl,rfl,q⟩:=h;cases rx;cases ry;refine wpAny_isNot_plain rfl ⟨.bl (!(a==b)),H,I,?_,q⟩;cases a<;>cases b<;>rfl
universe E FX
universe N K65
open PySem L2 FX
theorem Jis:I? CU! CU! Md:={}
inductive Jc4(vs:E!)(H:Hp)(Q:VK)(E:XK):Prop
 | mk (p:Addr) (n:Int) (W:DI) (_:WM!) (_:ol) (_:∃l∈W.JJ,Kp!) (_:(Xj! W.ED=none/\∀(x e:Addr)(H':Hp),KB->hq! [.bl false,l! e]->Tz! e []->BQ! x)\/∃y,Xj! W.ED=B! LN!/\eK! KB (hq! [Vx!,l! y]) (BQ! x))
theorem Jg6{ls:o!}{n:Int}(h:∃l∈ls,Kp!):∃y,N4! (Xj! ls) y:=by obtain⟨l,hl,e⟩:=h;rw[Jq];cases q:ls.find? l7! with | none=>exact Iy! e (Ct! (BD.mp q l hl)) | some v=>exact AG!
theorem vC(g:GG):DR 1 LN L_ CU! Jc4:=by
 refine C3! g.mWIn.fn.II Jis;obtain⟨p,n,W,rfl,S,h1,k⟩:=h;refine Y!;have hu:=V?;obtain⟨dx,hp⟩:=S.ob;refine IF! (fq! Ee Jbj) (ED! (fq! Ee (gl! (wT Dw (Co Ae)))) (Az (Co (wT Dw Xk!))));obtain⟨y1,e1⟩:=Jg6 h1;refine lW! CW g.TW.cl g.TW.nI (L9 W) W.iq (hy! S.iq);rw[e1];refine Cb (lW! CW g.TW.cl g.TW.nF (Ol W) W.fi (hy! S.fi));rcases k with⟨e2,k⟩|⟨y,e2,k⟩;.rw[e2];refine Ce ⟨NO! 0,Ea! ⟨AN!,DP!⟩⟩;have s1:=Dr! (.BG []) he;have s2:=gV! [.bl false,l! e];exact k x e _ (λb o z=>DA! s2 s1 z) Ab (v! s2 Ab)
 .rw[e2];refine Cb ⟨_,rfl,p,CW,dx,_,_,rfl,hp,g.TW.cl,g.TW.nF,Ol W,_,rfl,W.fi,_,rfl,N? e2 (hy! S.fi),AN!,DP!⟩;exact k x _ (Ah hx) Ab
theorem J3.lies{c:Cn}{H:Hp}{p0:Addr}{W:DI}{D:J?}{n d A B:Nat}{ys:F?}(x:J3 c fst W [] ys)(wi:WI H p0 W D c.m n d A B [] ys):False:=by
 obtain⟨y,ey,_,_,_,sl⟩:=x.iq;have iv:=wi.iv y (P! ey gN!);have m1:=wi.m1;have h1:y.fi.length=c.m:=by have l:=iv.t1.length_eq;rw[ZE,ZE,ZA,ZA,Gd] at l;have e1:Cf f0! y.n 1=[]:=rfl;have e2:B8 f0! y.n 1=[]:=rfl;rw[e1,e2] at l;simpa using l
 rcases iv.t2 with⟨h,_⟩|⟨_,pm⟩;.lia
 .have l:=pm.length_eq;rw[ZE,ZE,ZA,ZA,Gd] at l;have e1:Cf f0! y.n 2=[]:=rfl;have e2:B8 f0! y.n 2=[]:=rfl;rw[e1,e2] at l;(have l:y.se.length=c.m:=by simpa using l);lia
theorem Jmu{c:Bool}{X A B:Prop}(hB:B)(h1:c=true->B->X):if c=true then X else(if cr! then A else B):=by cases c with | true=>rw[e?];exact h1 rfl hB | false=>rw[Da!,Da!];exact hB
theorem Zp:cZ (Bn! []):=n? (by simp[PyData.depth,PyData.depthAll])
theorem QQ:I? [Kf!,Kd!,"_law_n",Ta!,rF!,TX!,bA!,"_law_works",a4!,"_law_done","_law_things","_law_x","_law_lying"] pM! Tq:={}
inductive Jc3(vs:E!)(H:Hp)(Q:VK)(E:XK):Prop
 | mk (c:Cn) (T S:D!) (v:T2) (L:l?) (Ed:pi) (b:Bool) (p0 a rl:Addr) (ns:d!) (W:DI) (D:J?) (n d B:Nat) (al:M!) (ys:F?) (_:vs=[Fw!,Tk,R! 1,R! Bb!,l! rl]) (_:ix!) (_:U6!) (_:Y1! Ed) (_:la! 0) (_:id!) (_:n<=20) (_:B<=250) (_:d<=450) (_:gd! rl Z5!) (_:rl≠W.hs)
   (_:∀(W':DI)(D':J?)(al':M!)(EL:F?)(H':Hp)(xf:Addr)(as:J!)(ts:D!)(n' d' B':Nat),WI H' p0 W' D' c.m n' d' 0 B' al' EL->n'<=32->B'<=322->d'+B'<=772->Dn c T S b W' al' H' xf as ts->is! (O9! (EL=[y])) Xz! mu!)
theorem gWd(g:GG):DR 8 QW RV pM! Jc3:=by
 refine C3! g.mWd.fn.II QQ;obtain⟨c,T,S,v,L,Ed,b,p0,a,rl,ns,W,D,n,d,nB,al,ys,rfl,hS,hlen,sf,wi,j3,hn,hB,hd,kM,br,k⟩:=h;refine Y!;have FV:ca:=k!;have IP:Lg!:=k!;have hr6:WP 6:=k!;have fE:WP 7:=k!;refine TC! 5 QQ.nd (tF! Q!) (MB! 6 QQ.nd (KS! IN) 7 QQ.nd Af (XL! Af 8 QQ.nd (Ad (o2! (uB! g.mWIn.mt vC FV g.mWIn.bd L!) 9 QQ.nd 10 QQ.nd) (fe! (FY! Jiz H4! Dw) (cL! (Zr! (FY! Jbn H4! Dw) (RA! VM! (Co Ae)))) (Bs! (o2! (ax! uU g.mNx.mg g.mNx.fn.kp g.mNx.bd Tg! IN) 11 QQ.nd 6 QQ.nd) (Fa! 12 QQ.nd (Oa! E? g.TW.cl g.mWLe.mt (uV g) IP g.mWLe.bd)) (Ag (Bo (g9 (Yu (uN! (pv 11)) (T6 (FY! vQ Ap! Af)))) (Ke! 7 QQ.nd (Le! Ap!) (CQ! (S3! (gWk g) hr6 g.mWk.mg g.mWk.fn.kp g.mWk.bd (qf! E? A? O? (ax! gSm g.mSm.mg g.mSm.fn.kp g.mSm.bd (ax! YU g.mC1.mg g.mC1.fn.kp g.mC1.bd Q! (Ay Eo Af Ap!)) Af))))) (Ag (Bo (RA! VL! ER!) (CQ! (uB! g.mWDe.mt nZ fE g.mWDe.bd (CK! (rY! VL! (KS! (pv 11)) VL!)))) A8)))))))) (BS! Dw));refine jH! 5 (λcl=>⟨_,rfl,_,_,rfl,rfl,A8!,400,rfl,a!,a!,?_⟩);refine kJ! 400 (∃(W':DI)(D':J?)(al':M!)(EL:F?)(nn dd BB ws:Nat)(z:Int)(u8 u9 iE cK rj:SB),σ=[DX!,EC!,Br! 1,ai! c.r,GU!,Br! cl,Lc!,ai! ws,u8,u9,iE,cK,rj]/\WI Hc p0 W' D' c.m nn dd 0 BB al' EL/\(J3 c false W' al' EL\/∃xf as ts,Dn c T S b W' al' Hc xf as ts/\O9! (EL=[y]))/\ws<=12/\nn<=n+ws/\dd<=d+i/\BB+i<=nB+6*ws/\JY!/\iI!/\NE) ⟨W,D,al,ys,n,d,nB,0,_,none,none,none,none,none,rfl,wi,H! j3,a!,At,At,At,PL!,λ_ _ e _=>e,rfl⟩;.rintro i σ Hc hi ⟨W1,D1,OJ,aO,nn,dd,BB,ws,z,u8,u9,iE,cK,rj,rfl,JU,jd,hw,mE,hdd,hBB,kt,lk,IS⟩;(have JJ:∃l∈W1.JJ,l.1=1:=by have:O9! (aO=[y]):=jd.elim (λx=>let⟨y,h1,h2,_⟩:=x.iq;⟨y,h1,h2⟩) λ⟨_,_,_,_,h⟩=>h;obtain⟨y,h1,h2⟩:=this;exact⟨(y.n,y.io),ut JU.iq h1 gN!,h2⟩);obtain⟨dx,hp⟩:=JU.wa.ob;refine⟨_,rfl,p0,dx,_,rfl,hp,Lj!,_,rfl,p0,1,W1,rfl,JU.wa,JJ,?_⟩;rcases jd with j1|⟨xf,as,ts,dn,hy⟩;rotate_left;(.refine N! ⟨xf,EQ dn.fi,λx H1 s1 ex=>?_⟩;refine SY! x (FM ex);refine⟨_,rfl,true,true,rfl,rfl,_,rfl,Cd!⟩;exact k W1 D1 OJ aO H1 xf as ts nn dd BB (JU.same s1) C! C! C! ⟨dn.fi,F! s1 dn.xt,Bi! s1 dn.th,dn.mem,dn.pw,dn.j4⟩ hy (kt.trans (FF s1)) (sl! s1) IS);refine Am! (EQ j1.fi) (λx e H1 s1 ex ee=>?_);refine SY! x (FM ex);refine⟨_,rfl,false,true,rfl,rfl,_,rfl,At!⟩;refine⟨_,rfl,false,false,rfl,rfl,_,rfl,At!⟩;refine WZ! (λr JE=>⟨_,_,.one (.tupP (DN.of (Ah JE _ _ ee)) O!),.one (.tupP (DN.of Ab) O!),Zp,Zp,_,rfl,?_⟩);have s2:=Ak s1 (Dr! (.BG []) JE);generalize AU! H1 r .BG []=H2 at s2;rw[EX! (PyData.eqv (Bn! []) (Bn! [])=true)];refine Cb (RH! z cl (λt x2 z2 H3 s3 et=>?_));have WD:=Ak s2 s3;refine SY! t E0!;have LD:=Hq! WD;obtain⟨OH,ND⟩:=LD.wa.ob;refine⟨_,rfl,p0,OH,_,rfl,ND,Lj!,p0,W1,rfl,LD.wa,λl H4 hl el s4=>?_⟩;have XJ:=Ak WD s4;have PJ:=Hq! XJ;have MV:=kt.trans (FF XJ);have lk4:=lk.trans (OO.same (hs:=W.hs) XJ);refine pi! Px!;by_cases cw:x2 % 4=1/\ws<12;(.rw[L7! (IW! (x2 % 4)) cw.1];refine Ce ⟨_,rfl,_,_,rfl,rfl,_,rfl,?_⟩;rw[a2! (KA! (BN! ws<12))];refine Ce (Hj! _ _ rfl rfl ?_);have mP:=hS.keep MV;refine⟨_,rfl,_,rfl,_,rfl,_,rfl,_,rfl,_,_,rfl,rfl,a,ns,7+(S? ws+1),rfl,mP.sq,hlen,A!,A!,λc5=>?_⟩;refine⟨c5,4,rfl,a!,λl5 xs H5 s5 e5 lx=>?_⟩;have bD:=Ak XJ s5;have TR:=Hq! bD;have zB:=lk.trans (OO.same (hs:=W.hs) bD);refine⟨c,T,S,v,L,Ed,b,p0,rl,l5,xs,W1,D1,nn,dd,BB,OJ,aO,rfl,sf,TR,j1,A!,A!,h! zB kM br,G! IS br,e5,lx,λv6 W6 D6 m8 H6 bp j6 WG lg fe=>?_⟩;rw[IS] at lg;exact⟨W6,D6,m8,aO,nn+1,dd+1,BB+5,ws+1,_,_,_,_,_,_,by push_cast;rfl,bp,H! j6,A!,A!,A!,A!,(kt.trans (FF bD)).trans WG,zB.trans lg,fe.trans IS⟩);.refine Jmu ?els λc1 els=>?body;(case body =>have c1:x2 % 4=1:=V.int.inj (BK c1);refine⟨_,rfl,_,_,rfl,rfl,_,rfl,?_⟩;rw[cH! (BN! ws<12) (λz=>cw ⟨c1,A!⟩)];exact Cb els);case els =>refine WZ! (λr2 bX=>o1! (ZV! (Ah bX _ _ el) Xj (Eg PJ.lw (FF (Ah bX)))) (Ff (P7 PJ.wg.wl.ok)));have s5:=N0! bX;generalize KO! H4 r2 []=H5 at s5;have bD:=Ak XJ s5;have TR:=Hq! bD;have eJ:=F! s5 el;(have e0:W1.ls≠[]:=λz=>by have:=fO!;rw[z] at this;have ea:OJ=[]:=BJ.mp this.symm;subst ea;exact j1.lies JU);rw[Jd,Rw JU.lw e0];(have z1:1<=BB:=by have h1:=JU.len;have h2:=YC!;lia);(have XX:Ei! Gs!:=by rw[ZA];have:=YC!;lia);have j0:=Q0! (x2 / 4) Gs!;have l7:=CA (x2 / 4) XX;obtain⟨⟨BR,t2⟩,hy⟩:=Lq! W1.ls (x2 / 4 % Gs!) (by rw[ZA] at j0 l7 ⊢;lia);have fO:k1! W1.ls.map Ne! (x2 / 4 % Gs!) t2:=RU! hy;obtain⟨lt,JK⟩:=Lq! OJ (x2 / 4 % Gs!) (KY! fO! hy);obtain⟨a1,YJ⟩:=JA.BG (Ax TR.lw _ _ _ hy JK);have YJ:b? H5 t2 .BG (H? BR::a1):=YJ;obtain⟨l1,l2,mY⟩:=IM (ZP hy);obtain⟨bN,aY⟩:=TR.wa.ob;refine Ce ⟨_,rfl,p0,bN,_,rfl,aY,Lj!,_,rfl,_,rfl,_,_,rfl,rfl,A8!,_,rfl,l,_,rfl,Kb! eJ,_,_,rfl,rfl,XX,l,_,_,_,rfl,rfl,WF eJ,fO,t2,_,0,_,rfl,rfl,FM YJ,ww,?_⟩;refine Jff (B':=BB-1) TR C! C! C! C! j1.cz mY λv W6 D6 m8 xw H6 dl bp YV fp6 fe=>?_;have lg:=TR.lists YV;rw[IS] at lg;refine⟨W6,D6,m8,xw,nn,dd+1,BB-1,ws,_,_,_,_,_,_,rfl,bp,j1.OS sf TR bp dl,hw,mE,A!,A!,(kt.trans (FF bD)).trans (TR.CQ YV),(lk.trans (OO.same bD)).trans lg,fe.trans IS⟩
 .rintro σ Hc ⟨W1,D1,OJ,aO,nn,dd,BB,ws,z,u8,u9,iE,cK,rj,rfl,JU,jd,hw,mE,hdd,hBB,_⟩;exfalso;lia
theorem Re{l:x!}(h:∀z∈l,z.2.AJ=[]/\z.2.AF=[]):Gs t l=0/\Mg l=0:=by induction l with | nil=>exact DL! | cons z l ih =>obtain⟨h1,h2⟩:=ih λy hy=>h y (wn hy);obtain⟨h3,h4⟩:=Cj! z;refine JE!;(.show bh! z.2 l=0;unfold NI;rw[h1,h3,h4];rfl);.show z.2.AJ.length+Mg l=0;rw[h2,h3];rfl
theorem rG{n mm tk:Int}{h o l r:Addr}{t:T2}(ht:UB ⟨n,mm,tk,h,o,l,r,[],[],[],[]⟩ t):False:=by
 rcases ht with ht|⟨q,hq,_⟩;.cases ht
 .cases hq
theorem Jdf{i m:Nat}{h o l r:Addr}(hi:i<m):Sd m (tX! r) 0 :=⟨⟨CU,At,CU,At,rfl,CU,At,Rm!,Rm!,Rm!,Rm!,Rm!⟩,Rm!,h? lv!,h? lv!,h? (TL! ht),M7! (Sq!<=U?),M7! (U?<A4!),AL!,AL!⟩
theorem Y6{l:x!}(h:∀z∈l,z.2.AW=0):Cd l=0:=by induction l with | nil=>rfl | cons z l ih =>have ih:=ih λy hy=>h y (wn hy);have:=Cj! z;show z.2.AW+Cd l=0;lia
universe S
variable {p:Addr}{H H1:Hp}{W:DI}{D:T2->Prop}{m n d A B:Nat}{ys:List Qy}
theorem WI.start(S:sz! H1)(e2:W.c=0)(e3:W.ls=[])(e4:W.JJ=[])(e5:W.ED=[])(e6:W.EF=[])(e7:W.qs.length=m)(e8:∀i q G,c8! (rK G i))(m1:1<=m)(m5:m<=12)(sh:2<=W.share):WI H1 p W (λ_=>False) m 0 0 0 0 [] []:=by
 have ee:∀(i:Nat) q G,c8! (∃h o l r,G=tX! r):=λi q G hi=>by obtain⟨h,o,l,r,e⟩:=e8 i q G hi;exact⟨h,o,l,r,e⟩
 have em:∀z∈W.qs,z.2.AJ=[]/\z.2.AF=[]/\z.2.AW=0:=AC (by obtain⟨i,hi⟩:=C_.mp hz;obtain⟨_,_,_,_,e⟩:=ee i z.1 z.2 hi;rw[e];exact JG! rfl)
 have r0:=(Re (t:=(0,0)) (AC ⟨(em z hz).1,(em z hz).2.1⟩)).2;refine⟨S,⟨⟨e7,A!,λi q G hi=>?_,C2! (TL! hl),λt _=>?_,sh⟩,⟨λ_ _ _ _ _ _ z=>z,λ_ _ _ z=>z,λ_ _ _ _ _ _ _ _ z=>z,λ_ _ _ _ _ z=>z.elim⟩,λj q G hj t ht _=>?_⟩,?_,λj q G hj t ht=>?_,m1,m5,Oi! O!,G! e6 CU,Os!,G! e6 At,G! e5 At,⟨λj q G hj t ht=>?_,C2! (sw hl)⟩,d? AZ!,At,e4,rfl,CU,ly!,ly!,ly!,AC (TL! hz),Os!,Sc! (TL! hz)⟩;·(have hl:i<m:=KY! e7 hi);obtain⟨_,_,_,_,e⟩:=ee i q G hi;rw[e];exact BY! (Jdf hl)
 .rw[(Js! Re (AC ⟨(em z hz).1,(em z hz).2.1⟩)).1];rfl
 .obtain⟨_,_,_,_,e⟩:=ee j q G hj;rw[e] at ht;exact lv!
 .rw[Y6 (AC (em z hz).2.2)];exact AL!
 .obtain⟨_,_,_,_,e⟩:=ee j q G hj;rw[e] at ht;cases ht
 .rw[e6] at he;cases he
 .obtain⟨_,_,_,_,e⟩:=ee j q G hj;rw[e] at ht;rcases ht with ht|ht;(.exact lv!);.cases ht
 .show 0+0+1*Mg W.qs<=0;rw[r0];exact At
 .rw[e5] at he;cases he
universe E
theorem JG.start{W:DI}{p q:Nat}(pq:p≠q)(e8:∀i q G,c8! (rK G i)):JG W.qs p q [] Ma! F0!:=by refine⟨pq,(Es! DQ!),(λt u h=>h.elim),(λj t h=>DQ!),λj a G e=>?_⟩;obtain⟨h,o,l,r,rfl⟩:=e8 j a G e;exact⟨λt=>Xm! su! (TL! z.1),λt=>Iff.rfl,λt u z=>su!,λt z=>su!⟩
theorem Ji2{p q:Nat}{a b:V}(pq:p≠q):Ke [] [(f7!,a),(Sum.inl Th!,b)]=[(f7!,a),(Sum.inl Th!,b)]:=by unfold Ke putK;have:¬(f7!=Sum.inl Th!):=M? pq (BJ! (Sum.inl.inj z));simp[this]
theorem B1.start{H2:Hp}{p0 hd lp lq:Addr}{W:DI}{m p q:Nat}(W0:Rf! H2 W (λ_=>False) 0 0 0 [])(pc:JG W.qs p q [] Ma! F0!)(hp:p<m)(hq:q<m)(bJ:AT H2 hd)(d8:AT uA! lp)(aZ:AT (FX! uA! lp []) lq) : TB! (AA! mm! hd .dK SE!) W 0 0 0 [] [] Ma! F0!/\Bl H2 (AA! mm! hd .dK SE!):=by
 have n1:lp≠hd:=λz=>by rw[z,Ab] at d8;cases d8
 have n2:lq≠lp:=λz=>by rw[z,Ab] at aZ;cases aZ
 have n3:lq≠hd:=λz=>by rw[Ac n2,z,Ab] at aZ;cases aZ
 rw[Ac n1] at d8;rw[Ac n2,Ac n3] at aZ;have s:Bl H2 (AA! mm! hd .dK SE!):=AQ! (by rw[Eu! bJ,Eu! aZ,Eu! d8,Eu! bJ];exact e)
 refine⟨⟨T? (W0.same s),pc,hp,hq,CU,λ_=>CU,⟨Ab,⟨[],G9! (Ac n1) (Ac n2.symm) Ab,O!⟩,⟨[],Cx! (Ac n3) Ab,O!⟩,n2.symm⟩,F9!⟩,s⟩;have:C7! H2:=by rcases hb with rfl|rfl|rfl;(.exact bJ);(.exact d8);.exact aZ
 exact W0.wa.MX this
theorem J3.start{W W':DI}{m p q r:Nat}{ap aq ar:Addr}{Gp Gq Gr:BV}{T S:D!}{v:T2}{L:l?}{E:pi}{b:Bool}{h:Int}{io:Addr}{I:K65F.Iq}(pc:gY!)(pf:Pf p r T S v L E b)(pm:p<m)(qm:q<m)(rm:r<m)(rp:r≠p)(rq:r≠q)(ep:W.qs[p]?=B! (ap,Gp))(eq:W.qs[q]?=B! (aq,Gq))(er:W.qs[r]?=B! (ar,Gr))(e:NB!)(fi:W'.ED=[]) : J3 J6! true W' (C7 m h 1 1) (dX! 1)/\Sf J6! T S v L E b:=by
 have lv:∀{j:Nat} {t:T2},j≠p->bx!->j=r/\t∈L r:=λ{j t} n1 ht=>by rcases pf.lv j t ht with h|h;(.exact PU! n1);.exact⟨h.2.1,h.2.1▸ht⟩
 refine⟨⟨Hs! ep,Hs! eq,λj a G ej n1 n2=>?_,λa G ej=>?_,Ac!,⟨_,rfl,rfl,(Ea! (sw he)),(Ea! (sw he)),xz (0<m)⟩,fi⟩,⟨pc.pq,rp,rq,pm,qm,rm,pc.own,pc.ed,pc.at_ p ap Gp ep,pc.at_ q aq Gq eq,pf,λt=>Iff.rfl⟩⟩;.rw[e] at ej;have z:=pc.at_ j a G ej;refine⟨λnr=>?_,h? (N! (lv n1 ((z.hand t).mp ht))),EJ!,λej t ht=>(z.hand t).mpr (ej▸ht)⟩;(.cases eo:G.AF with | nil=>rfl | cons x xs =>obtain⟨h1,h2⟩:=(z.AF x.1).mp (G! eo (BC (AV!)));rcases pc.own _ h1 with h3|h3;(.exact WG! (j=p) n1);.exact WG! (j=q) n2);.rcases(z.AJ t ht).2 with(h|h)|h;(.exact I3! n1);(.exact I3! n2);.exact N! (lv n1 h)
 .rw[e,FU! ((Cn.r J6!)=r),er] at ej;cases ej;rw[e?]
 .unfold C7 at hz;obtain⟨i,_,rfl⟩:=Cc!;exact DL!
theorem J3.turn{c:Cn}{W W':DI}{al:M!}{ys:F?}{a:Addr}{G:BV}{ad:Addr}(x:cS! true)(rp:c.r≠c.p)(rq:c.r≠c.q)(nu:G.BR=Bb!)(na:M9! (i? (J7 z)))(er:Fr! (W.qs[c.r]?))(e:MY! ga!)(fi:Cv!):J3 c false W' al ys:=by
 have t0:=x.tr a G er;rw[e?] at t0;refine⟨dr! e rp x.ep,dr! e rq x.eq,λj b G2 ej n1 n2=>?_,λb G2 ej=>?_,Ac!,x.iq,G! fi x.fi⟩;.rw[e] at ej;rcases Cy ej with⟨rfl,rfl,_⟩|⟨_,ej⟩;(.exact(x.ho _ a G er n1 n2).make nu);.exact x.ho j b G2 ej n1 n2
 .rw[e] at ej;rcases Cy ej with⟨_,rfl,_⟩|⟨n,_⟩;(.rw[Da!];show c.t0<CM!;lia);.exact Fn! n
 .have h:=B3! x.le;cases z with | w l=>exact h | ask s g n u=>have:=na _ hz;cases this | IJ s g n u tk X=>exact h | lt s g ts=>exact h.elim
def J1(p q:Nat)(T:D!)(L:l?)(E:pi)(W:DI)(al:M!)(ys:F?):Prop:=gY!/\NP al/\ys=[]/\W.ED=[]
theorem J1.cz(x:J1 p q T L E W al ys):nV al:=C2! (by obtain⟨l',e,k⟩:=HY! _ hl;cases e;rw[k];decide +kernel)
theorem J1.OS{W W':DI}{al al':M!}{ys EL:F?}{H':Hp}(x:J1 p q T L E W al ys)(h:j2!):J1 p q T L E W' al' EL:=by obtain⟨a,z,b,es,h⟩:=h;obtain⟨x1,x2,x3,x4⟩:=x;obtain⟨l,rfl,kl⟩:=x2 z XE!;obtain⟨e1,e2,e3,q',G,G',hi,w,e4⟩:=h;rw[kl] at w;exact⟨GQ! (x1.back hi w),AC (x2 z (P! es (Fz (e3▸hz)))),e1.trans x3,e2.trans x4⟩
theorem Jby{c:Cn}{T S Y_ dl:D!}{v:T2}{W:DI}{h:Nat}{a:Addr}{G:BV}{hs:D!}{os:Dd!}{rs:T!}{n:Nat}(x:J4 c T Y_ W [])(hh:h=c.p\/h=c.q)(e:Fr! (W.qs[h]?))(ok:f?)(tl:Gm!)(tt:∀t,CC!↔(Ec!\/t=v))(nv:v∉S)(sn:S.Nodup)(md:∀t,t∈dl↔t∈Y_):(os.map (·.1)).Perm ((S++[v]).filter λt=>a? Cg! && Hw! (t∈dl)):=by
 obtain⟨k1,k2,k3⟩:=x.kp h hh a G e;have k3:=k3 λ_ _ z=>sw z
 refine(List.perm_ext_iff_of_nodup (tl.XC.pm.nodup_iff.mpr ok.on) ((AK.mpr ⟨sn,B?,λu hu y hy z=>lC! nv (ZK hy)⟩).sublist EW)).mpr EH!;rw[tl.XC.pm.mem_iff,AB,DB,CC,<-tt,HY,decide_eq_true_eq,Bool.not_eq_true',decide_eq_false_iff_not,md];constructor;.intro z;obtain⟨z1,z2⟩:=k1 t z;exact⟨z1,z2,λw=>k3 t w z⟩
 .rintro⟨z1,z2,z3⟩;exact k2 t z1 z2 z3
theorem Mv(ts:D!):cZ (Bn! [cC!,Bn! (ts.map OX)]):=by
 obtain⟨h1,h2⟩:=vA (Zq ts);refine JE!;.simp only[PyData.canLay0,PyData.canLayAll0,h1,Bool.and_true]
 .simp only[PyData.depth,PyData.depthAll];lia
universe E K65
universe N FX
open PySem PySem.Spec PyProof.Rows L2
universe S
variable {X:Cx Kx}
inductive Jmp(K:W.Frag)(neg:Bool)(x y:V)(H:Hp)(Q:VK):Prop
 | mk (b l:Addr) (tb:T2) (as:J!) (ts:D!) (_:x=Os) (_:y=Kk!) (_:AP!) (_:F4! l WB!) (_:AO!) (_:ju! (Hw! aX!) (a? aX!))
theorem Yd{AA:w!}{σ:L2.St}{H:Hp}{s:Shared}(hu:JV!){l b:Addr}{tb:T2}{as:J!}{ts:D!}(I:K!)(hb:AP!)(hl:DN Kx H l WB!)(th:AO!) : s.heap.IsTuple l F1!/\∀y,y∈F1!->SeqAt.EqAt X.A.in1 s y Ex! (cO H tb y):=by
 obtain⟨its,rv,it,_⟩:=I.tuple hl;have ei:=Ma rv;subst ei;refine⟨it,If!⟩;have hy:y∈YY!:=by simpa using hy
 obtain⟨a,ha,rfl⟩:=ZN hy;obtain⟨j,hj⟩:=C_.mp ha;obtain⟨t,ht⟩:=mc! ts Cf!;exact Jan (TD! FJ!) I (Ax th j a t hj ht) hb
theorem Mj(hu:JV!):Qj! OV! (Jmp Kx true):=by intro AA s σ H x y v u Q I rx ry h;obtain⟨b,l,tb,as,ts,rfl,rfl,hb,hl,th,q⟩:=h;cases rx;cases ry;obtain⟨a1,a2⟩:=Yd hu I hb hl th;refine SeqAt.notIn_tupleAt ZU! a1 a2 jr!;rw[aY! ((as.map Value.ref).toArray.any (cO H tb)=(as.map Value.ref).any ZU!),Ja0 th];exact q
universe E
universe E FX
universe N K65
open PySem L2 FX
theorem Jm4(g:GG):DR 3 OR PV Rr! Zv:=Jd7 g.rM g.T g.TW g.TP g.nJ g.FI g.bI g.ja g.rN g.uv
theorem Jm7(g:GG):Vl! 4 KL KR CL! Th:=LM! (gAs g).mono A5!
theorem KZ:I? [Kd!,"_law_many",TY!,TZ!,Ta!,rF!,"_law_share",Kf!,rD!,"_law_ring_here","_law_live","_law_reached","_law_due","_law_n",a9!,"_law_left"] EE! Yr:={}
def Jj4:TE:=WC (Wi K) Py! Jo!
theorem gW(g:GG):DR 12 ak ao EE! QZ!:=by
 refine C3! g.FW.II KZ;obtain⟨a,ns,rfl,hS,hlen,k⟩:=h;refine Y!;have hu:=V?;have FV:ca:=k!;have IP:Lg!:=k!;have aW:WP 3:=k!;have aV:WP 4:=k!;have gY:WP 8:=k!;have wu:WP 10:=k!;refine IF! (Mh (Ba (gHs g) IP KG! g.mHs.mg g.mHs.fn.kp g.mHs.bd O! Au fA!) (Iy rfl (By (JL! 1) (By (JL! 2) (By (JL! 3) (By (JL! 4) (By (JL! 5) F2))))))) (NZ! 6 KZ.nd (Ay Eo Af (Ay Bj bO! Af)) (Pq! QH! (Ag (sv! 6 KZ.nd (Ay Eo Af (Ay Bj QH! (Ay Yx Af Af)))))) (NZ! 7 KZ.nd (T8 g.jZ (Jm4 g) aV KG! g.TW.iU g.uu O! Au (Vi! Tg!)) (Fa! 8 KZ.nd (Jgj (Wk L! ER! (Wk A? ER! Jgg)) rfl rfl (by intro z;cases z) A5!)) (Bs! (Mh (Ba (gBu g) wu KG! g.mBu.mg g.mBu.fn.kp g.mBu.bd O! Au (Aa Ap! (Aa E? (qf! L! A? O? Is!)))) (Iy rfl (By (JL! 9) (By (JL! 10) (By (JL! 11) F2))))) (Vm! 12 KZ.nd (ba! Ds g.y2 DY (r1! Ho g.y3 H4!))) (Bs! (Dv! (Hw (pv 11)) (Ag (Vm! 12 KZ.nd (Co Ae)))) (cL! (T7 (Iv (RX! gRe g.mRe.mg g.mRe.fn.kp g.mRe.bd (wT Ap! bO!)) US!))) (NZ! 13 KZ.nd (Sr! Ap! g.TW.cl g.mWAs.mt (Jm7 g) aV g.mWAs.bd Au (wP (Ay Bj QH! Q!))) (Av (RX! gFa g.mFa.mg g.mFa.fn.kp g.mFa.bd (wT Ap! bO!))) (Bs! (Av (fJ! Ap! g.TW.cl g.mWM.mt (uT g) aW g.mWM.bd (wP O?))) (cL! (Zr! (T7 (Iv (RX! gWd g.mWd.mg g.mWd.fn.kp g.mWd.bd (e2! Ap! E? (pv 13) O? IN)) US!)) (RA! (MC! Ap! g.TW.cl g.mWIn.mt (vC g) g.mWIn.bd (wP (pv 13))) (bg! Dw VL!)))) (fe! (Zr! (T7 (Iv (RX! gRe g.mRe.mg g.mRe.fn.kp g.mRe.bd (wT Ap! bO!)) US!)) (RA! (MC! Ap! g.TW.cl g.mWIn.mt (vC g) g.mWIn.bd (wP (pv 13))) (bg! Dw VL!))) (ql! (C9 (De YJ!)) (Bc (i:=14) KZ.nd rfl (Or.inr rfl)) (ED! (c6! i 15 te Jj4 [] KZ.nd (mG! (Sr! Ap! g.TW.cl g.mWSt.mt (Jk2 g) aW g.mWSt.bd Au (wP (pv 14)))) trivial (λy h=>Jh2 h) trivial UU! (Ej! (A6 A9 E? Af))) (cL! (RA! (pv 15) (r1! Ho g.y3 (cY! (B9 0) [("_law_due",12),(a9!,14)] (C9 (Ay Jd3 H4! (De (wP VM!)))) (JG! trivial) (λy h=>vE AG! AG! h) ⟨BR!,BR!,trivial⟩ (Ej! (Dj (g9 (Yu (FY! Cz V6! L!) (T6 (A5 (Mj (Mw hr)) E? Q! rfl)))))) Hi!)))))) (BS! Dw))))))));refine⟨_,rfl,a,ns,rfl,hS,hlen,λm p q r t l H1 m3 m6 pm qm pq rm rp rq s1 et el=>?_⟩;refine⟨t,_,rfl,E0!,rfl,_,_,rfl,_,_,rfl,_,_,rfl,_,_,rfl,_,_,rfl,rfl,?_⟩;have iy:=hS.keep (FF s1);refine sg! 1 iy.sq (λv0=>⟨_,_,rfl,rfl,Lo!,_,_,rfl,rfl,?_⟩);have v00:=Xq! v0 2;dsimp only [Zr];refine aE! (H'=H1/\∃sh:Int,EN=[EC!,ai! m,Ga!,Gb!,JK!,LV!,fM!,none,none,none,none,none,none,none,none,none]/\2<=sh);.intro nx hx;refine sg! 1 iy.sq (λv1=>⟨_,_,rfl,rfl,A8!,_,_,rfl,rfl,Px!,rfl,_,rfl,?_⟩);by_cases c:IW! (v1 / 2 % 4);(.rw[WR!];refine Ce (sg! 1 iy.sq (λv2=>⟨_,_,rfl,rfl,A8!,_,_,rfl,rfl,⟨a!,a!,a!⟩,_,_,rfl,rfl,NN! (10 ^ 59),_,_,rfl,rfl,?_⟩));have e:=BY (v2 / 8) (show S? 10 ^ de! 59≠0 by decide);exact F! hx (Fg! rfl _ A!));.rw[Pt!];exact YK! (Fg! rfl _ A!)
 rintro EN H' ⟨rfl,sh,rfl,sh2⟩;refine lL!;intro p0 dx np gV sy;refine⟨p0,dx,A4!,sh,rfl,Ab,A!,A!,λW H2 S1 e1 e2 e3 e4 e5 e6 e7 e8 iY=>IC!⟩;have yU:Bl H' (upd (AA! H' dx CA! p0) p0 (Sc CW dx [])):=o8! np gV
 have s2:Bl H' H2:=np! iY yU np;clear yU iY np gV sy;rw[AM] at e7;have W0:Rf! H2 W (λ_=>False) 0 0 0 []:=WI.start S1 e2 e3 e4 e5 e6 e7 e8 C! C! (P! e1 sh2);intro hd bJ;refine Er! a! (λlp d8=>Er! a! (λlq aZ=>?_));obtain⟨B0,s4⟩:=B1.start (hd:=hd) (lp:=lp) (lq:=lq) W0 (JG.start pq e8) pm qm bJ d8 aZ;refine⟨?_,SE!,rfl,sw! (2<=15),?_⟩;·(have n1:lp≠hd:=λz=>by rw[z,Ab] at d8;cases d8);(have n2:lq≠lp:=λz=>by rw[z,Ab] at aZ;cases aZ);(have n3:lq≠hd:=λz=>by rw[Ac n2,z,Ab] at aZ;cases aZ);rw[Ac n3.symm,Ac n1.symm,Ab]
 rw[Ji2 pq];generalize AU! mm! hd .dK SE!=H4 at B0 s4;have XJ:=Ak s2 s4;have mP:=iy.keep (FF XJ);have WH:=F! XJ el;have sr:l≠W.hs:=λz=>by have h1:=F! s2 el;rw[z,W0.wa.hs] at h1;have h1:=HO.BF.inj (ZO h1);have hm:=W0.wg.wl.len;cases hq:W.qs with | nil=>rw[hq] at hm;have hm:0=m:=hm;lia | cons x xs =>rw[hq] at h1;cases hr:Rg! with | nil=>rw[hr] at h1;cases h1 | cons y ys=>rw[hr] at h1;injection h1 with h1 _;cases h1
 clear W0 S1 e2 e3 e4 e5 e6 e7 e8 bJ d8 aZ;refine⟨_,rfl,_,rfl,_,rfl,_,rfl,_,rfl,_,rfl,p0,a,hd,lp,lq,ns,W,m,p,q,r,rfl,mP,hlen,B0,rm,rp,rq,λx rl lv T S v L Ed b W5 D5 kW H5 TR pc5 nb5 pf YO br elv ex XM cU yy=>?_⟩;refine⟨x,_,rfl,FM ex,rfl,_,_,rfl,_,_,rfl,_,_,rfl,rfl,?_⟩;have rne:Rg!≠[]:=λz=>by have:S? r∈Rg!:=MO.mpr (F3! r rm rp rq);rw[z] at this;cases this
 have eJ:ab! H5 l YW! V.int:=by (have no:∀b,(ZL! (Bo! H4 W7!) (AX H4 as []))->l≠b:=λb ⟨as,e,th⟩ z=>by have:=BJ.mp (Paired.length th);subst this;rw[<-z,WH] at e;have e:=HO.BF.inj (ZO e);exact rne (List.map_eq_nil_iff.mp e));exact yy _ _ WH sr (no lp B0.hl.ha) (no lq B0.hl.hb)
 have yl:l≠W5.hs:=G! cU sr
 have hS5:=mP.keep XM;clear B0 WH sr mP XM yy XJ s2 s4 el;obtain⟨gy,kM,sE⟩:=YO;obtain⟨ss,sU,p9⟩:=oA! sorts S pf.sn;rw[GV] at p9;have S8:S.length<=8:=AR (Fx pf.sn (h? (E6! (pf.tt t).mpr ht))) pf.tz;refine⟨_,rfl,rl,gy,S,ss,rfl,kM,sE,A!,sU,p9,λr2 OI IP NB=>RC! r2 Ab (λdu hdu=>?_)⟩;have s6:=Ak (IU! OI.map IP) (Wv! OI.map hdu);have i6:ro! (upd (Sx! H5 r2 OI.map) du (.BG (OI.map V.ref))) du OI.map:=Ab;generalize upd (Sx! H5 r2 OI.map) du (WD! OI.map)=H6 at s6 i6;have XB:=Bi! s6 NB;dsimp only [Zr];refine aE! (∃(du:Addr)(ds:J!)(dl:D!),EN=[EC!,ai! m,Ga!,Gb!,JK!,LV!,fM!,DX!,DW!,GU!,LW!,XC! .bl,UF du,none,none,none]/\Bl H5 H'/\ro! H' du ds.map/\AX H' ds dl/\dl.Pairwise HR/\(∀t,t∈dl↔t∈Si b S));.intro nx hx;refine lL!;cases b with | true =>refine Ce ⟨AZ!,λd2 hd2=>F! hx ⟨d2,[],[],rfl,Ak s6 (Ah hd2),Ab,O!,List.Pairwise.nil,λt=>Iff.rfl⟩⟩ | false=>exact YK! ⟨du,OI,ss,rfl,s6,i6,XB,p9,λt=>sU.mem_iff⟩
 clear i6 XB hdu IP NB sU p9 s6 H6 du;rintro EN H6 ⟨du,ds,dl,rfl,s6,i6,r_,pwd,oK⟩;have bp:=TR.same s6;have mO:=hS5.keep (FF s6);have fi5:W5.ED=[]:=by cases hf:W5.ED with | nil=>rfl | cons e es =>obtain⟨y,hy,_⟩:=TR.ff e (P! hf AV!);cases hy
 have tz:=pf.tz;refine pu! 4 mO.sq (λc4=>?_);refine⟨p0,c4,W5,D5,m,T.length,200,100,kW,[],J1 p q T L Ed,rfl,bp,A!,a!,a!,Fg! pc5 nb5 fi5,λ_ _ _ x=>x.cz,λ_ _ _ _ _ _ _ _ _ _ _ _ x dl=>x.OS dl,λH7 W7 D7 ys7 dk j7 TZ zA fb=>⟨true,?_,At!⟩⟩;.exact rfl
 obtain⟨ye,_,rfl,fi7⟩:=j7;have hS7:=mO.keep TZ;have m0:Ei! A4!:=A!
 obtain⟨my,gh⟩:=dk.wa.ob;refine⟨_,rfl,p0,my,_,rfl,gh,Bw W7 ZV,_,rfl,a,ns,1,rfl,hS7.sq,hlen,a!,a!,λc1=>⟨_,_,rfl,rfl,A8!,_,rfl,_,_,rfl,rfl,m0,?_⟩⟩;have h0:=Q0! (c1 / 97) A4!;have h1:=CA (c1 / 97) m0;generalize O3! (c1 / 97)=hh at h0 h1;obtain⟨⟨ah,Gh⟩,ehh⟩:=S9! W7.qs hh.toNat (FP! dk.wg.wl.len);refine Jjl (A':=0) (B':=130) (R:=Sg! (v=R! 1/\al'=C7 m hh 1 1/\(∃io I,EL=dX! 1)/\W'.qs=W7.qs/\W'.ED=W7.ED)) dk C! A5! A5! (i:=⟨h0,ehh⟩) CT! C! (λv8 W8 D8 al8 ys8 H8 rr fp8 x_ eE kP=>?_) (λW' L' H' io I nw _ e=>Wp! (GO! io I) e nw.fi);obtain⟨rfl,rfl,⟨io,I,rfl⟩,eq8,fi8⟩:=rr;obtain⟨⟨ap,Gp⟩,ep⟩:=Nm! W7.qs p dk.wg.wl.len pm;obtain⟨⟨aq,Gq⟩,eq⟩:=Nm! W7.qs q dk.wg.wl.len qm;obtain⟨⟨ar,Gr⟩,er⟩:=Nm! W7.qs r dk.wg.wl.len rm;obtain⟨j8,sf⟩:=J3.start (W':=W8) (h:=hh) (io:=io) (I:=I) ye pf pm qm rm rp rq ep eq er eq8 (fi8.trans fi7);have nuR:=(dk.wg.BR er).2;have er8:W8.qs[r]?=B! (ar,Gr):=G! eq8 er
 have y_:OO W5.hs H6 H8:=zA.trans (bv! dk.lists eE fb);have TY:BM H6 H8:=TZ.trans (dk.CQ eE);have jW:W8.hs=W5.hs:=kP.trans fb;clear dk gh ye eE fp8 zA TZ kP ehh hS7;have hS8:=mO.keep TY;refine pu! 6 hS8.sq (λc6=>?_);refine⟨p0,c6,W8,D8,m,T.length+1,300+1,130,_,_,λW al ys=>J3 J6! true W al ys/\W.qs[r]?=B! (ar,Gr),rfl,x_,A!,a!,a!,⟨j8,er8⟩,λ_ _ _ _ _ _ _ _ _ wi x ad=>d? (x.1.asked wi ad),λH9 W9 D9 al9 k_ j9 na iX tK uh=>?_⟩;.obtain⟨_,_,_,_,_,_,_,_,_,_,_,_,_,_,_,e,_⟩:=ad;rw[e];exact x.2
 rw[jW] at tK;obtain⟨YZ,bt⟩:=k_.wa.ob;refine iX! YZ bt W9 ?_;refine Vh (A':=0) (B':=130) (R:=Sg! (al'=al9/\EL=dX! 1/\W'.ED=W9.ED/\∃ad,W'.qs=W9.qs.set r (ar,HE (V' Gr ad)))) k_ C! A5! (i:=tr! j9.2) GM A5! (λv10 W10 D10 JMk JMX i' rr xQ vc QU o7=>?_) (λt ad W' H' _ _ nw e=>Wp! nw.fi ad Go!);obtain⟨rfl,rfl,xT,ad,xW⟩:=rr;have j10:=j9.1.turn rp rq nuR na j9.2 xW xT;have oQ:OO W5.hs H6 i':=(y_.trans tK).trans (g4! k_.lists QU uh jW);have oU:BM H6 i':=(TY.trans iX).trans (k_.CQ QU);have dW:W10.hs=W5.hs:=o7.trans (uh.trans jW);have xb:=h! oQ (v! s6 eJ) yl;clear k_ bt QU xQ tK iX y_ TY uh o7 j9 x_ j8 hS8;have xM:=mO.keep oU;refine⟨_,rfl,_,rfl,_,rfl,_,rfl,_,rfl,J6!,T,S,v,L,Ed,b,p0,a,l,ns,W10,D10,_,_,_,_,_,rfl,xM,hlen,sf,vc,j10,A!,a!,a!,xb,G! dW yl,λW11 D11 xo vX nq xf as ts n11 d11 B11 jB JMc JMf JMe dn hy wW oP xh=>⟨true,?_,At!⟩⟩;.exact rfl
 rw[dW] at oP;have tsd:ts=dl:=Jdq dn.pw pwd λt=>(dn.mem t).trans (oK t).symm;subst tsd;have a7:=oU.trans wW;have pK:=oQ.trans oP;have pQ:=xh.trans dW;have told:∀{Hx:Hp} {Wx:DI} {Dx:J?} {nx dx Bx:Nat} {alx:M!} {xu:F?},WI Hx p0 Wx Dx m nx dx 0 Bx alx xu->Wx.ED=[(1,xf)]->(O9! (xu=[y]))->∀{Q':VK},(eK! (Bl Hx H') (hq! [Vx!,l! xf]) (Q' PF! H'))->Jc4 (Ly! 1) Hx Q' E0:=λ{Hx Wx _ _ _ _ _ _} wx fx hy {Q'} kx=>by obtain⟨y,h1,h2⟩:=hy;exact⟨p0,1,Wx,rfl,wx.wa,⟨(y.n,y.io),ut wx.iq h1 gN!,h2⟩,N! ⟨xf,EQ fx,kx⟩⟩
 obtain⟨xj,w8⟩:=jB.wa.ob;refine iX! xj w8 W11 (told jB dn.fi hy λx12 H12 iH e12=>Er! AN! (λsH wq=>?_));have WD:=Ev! Jz! wq;have e13:Mn! H12 sH Jz! sH Jz!:=Ab;generalize GY! H12 sH Jz!=H13 at WD e13;have WM:=Ak iH WD;refine⟨hf!,hf!,nl! (v! WD e12) (v! WM dn.xt) (Ml! WM dn.th),nl! e13 (Aq! WM a7.BG i6) (LJ! (a7.trans (FF WM)) r_),Mv ts,Mv ts,_,rfl,?_⟩;rw[Ql (Mv ts)];refine At!;have vZ:=jB.same WM;have xK:=mO.keep (a7.trans (FF WM));refine pu! 7 xK.sq (λc7=>?_);refine⟨p0,c7,W11,D11,m,n11,d11,B11,xo,vX,λW al ys=>J4 J6! T (Si b S) W al/\W.ED=[(1,xf)]/\O9! (ys=[y]),rfl,vZ,A!,A!,A!,⟨dn.j4,dn.fi,hy⟩,λ_ _ _ x=>x.1.cz,λ_ _ _ _ _ _ _ _ _ _ _ wi x dl=>?_,λH14 m9 D14 JMW bR j14 oS oO JMh=>⟨true,?_,At!⟩⟩;.obtain⟨x1,x2,x3⟩:=x;obtain⟨y1,y2,y3⟩:=x1.OS (c:=J6!) wi dl;exact Oc! y1 (y2.trans x2) y3 x3
 .exact rfl
 obtain⟨j4,xS,wj⟩:=j14;obtain⟨xi,wz⟩:=bR.wa.ob;have dE:=(a7.trans (FF WM)).trans oS;rw[pQ] at oO;have pJ:=(pK.trans (OO.same WM)).trans oO;have de:=(FF WM).trans oS;refine iX! xi wz m9 (told bR xS wj λx15 H15 bD e15=>Er! AN! (λsG wo=>?_));have sP:=Ev! Jz! wo;have e16:Mn! H15 sG Jz! sG Jz!:=Ab;generalize GY! H15 sG Jz!=H16 at sP e16;have cx:=Ak bD sP;refine⟨hf!,hf!,nl! (v! sP e15) (Aq! cx de.BG dn.xt) (LJ! (de.trans (FF cx)) dn.th),nl! e16 (Aq! cx dE.BG i6) (LJ! (dE.trans (FF cx)) r_),Mv ts,Mv ts,_,rfl,?_⟩;rw[Ql (Mv ts)];refine Cb ⟨_,rfl,_,rfl,AN!,λsl XN=>Xt! sl ?_⟩;have p7:=Ak cx (nP!);have mZ:nj! H16:=Ab;generalize mh! H16=H17 at p7 mZ;have vY:=bR.same p7;have az:=dE.trans (FF p7);have pR:=F! az.BG i6;have pG:=HX! az r_;have pO:Dx! H17 rl gy.map:=F! p7 (pJ _ _ (v! s6 kM) br);have pH:=AX.keep ((FF s6).trans az) sE;have pP:=DA! az.BG s6 elv;refine RK! sl qI! (λi σ Hc=>∃(ri rf:SB),σ=[EC!,ai! m,Ga!,Gb!,JK!,LV!,fM!,DX!,DW!,GU!,LW!,XC! .bl,UF du,Br! 1,ri,rf]/\Bl H17 Hc) (Fg! none none UG!) (λi σ Hc _ h=>by obtain⟨_,_,_,h⟩:=h;exact rn! h mZ);.rintro i x σ Hc hi ⟨ri,rf,rfl,sc⟩;(obtain⟨h,hh,rfl,hm⟩:∃h:Nat,ZQ!/\x=fQ!/\h<m:=by rcases i with _|_|i;(.exact⟨p,bn,jh!,pm⟩);(.exact⟨q,EK!,jh!,qm⟩);.cases hi);have rW:=vY.same sc;obtain⟨⟨ah,G⟩,eg⟩:=Nm! m9.qs h bR.wg.wl.len hm;have iw:JV m9 r? ah G:=tr! eg;obtain⟨sd,nu⟩:=bR.wg.BR eg;have gd:=H7! bR.wg.wl.good eg;obtain⟨hs,os,rs,KS⟩:=gd.told;obtain⟨dxc,hpc⟩:=rW.wa.ob;have lp:=Jby (c:=J6!) j4 hh eg sd.ok KS pf.tt pf.nv pf.sn oK;refine Tm! p0 dxc _ hpc (Bw m9 ZV) p0 r? m9 rfl rW.wa (N! ⟨ah,G,iw,ah,G,hs,os,rs,rfl,iw.at rW.wa,gd.h2,gd.o2,gd.r2,KS.pm,KS.pw,KS.XC,KS.pr,KS.wr,λy H18 s18 st=>?_⟩);obtain⟨y1,y2,y3,JL,bs,ds1,ey,e1,t1,e2,r2,_,_⟩:=st;refine⟨y,_,1,_,rfl,rfl,FM ey,ww,y2,rfl,T? (FM e2),λll d9=>?_⟩;have jy:bs.length=os.length:=L? r2;(have zos:os.length<=60:=by have h1:=KS.XC.pm.length_eq;rw[ZA,ZA] at h1;have h2:=sd.ok.oz;lia);refine X2 (K:=K) (a:=y2) (p:=ll) (xs:=bs) (tt:=RM!) (te:=Jj4) (caps:=[]) (λi ys H2=>∃cs:J!,ys=Dy! cs.map/\S0! H2 ll/\AX H2 cs ((os.take i).map BF!)/\Bl H18 H2) (F3! [] Ab O! (Ah d9)) (λi ys H2 _ ⟨cs,_,e,_,sm⟩=>⟨gK! sm e2,e⟩) ?_ ?_;(.rintro i z ys H2 N hz ⟨cs,rfl,mi,lE,sm⟩ hN;obtain⟨w9,zR⟩:=S9! os i (KY! jy hz);obtain⟨ra,rt,rh,rc,rfl,f1,f2,_,_⟩:=(Ax r2 _ _ _ hz zR).keep (FF sm);refine Ce ⟨_,rfl,ra,_,0,_,rfl,rfl,FM f1,ww,mi,A4 ?_,F! hN ⟨cs++[rt],Om!,Ab,?_,h2! d9 sm⟩⟩;(.rw[ZA,L? lE,ZA,CG];lia);.rw[DK,zR,ZF];have kt:Lm! H2 H2 ll (Dy! cs.map) (m? rt):=iN! (nY! mi) (nY! mi);exact jq! (LJ! kt lE) kt.BG f2);rintro ys H19 ⟨cs,rfl,mi,lE,sm⟩;rw[jy,BS] at lE;have s19:=Ak sc (Ak s18 sm);refine⟨_,rfl,_,rfl,_,rfl,NO! 1,λl1 bu=>?_⟩;have p6:=Dr! (.BF dW!) bu;have gp:Ss! (FX! H19 l1 dW!) l1 dW!:=Ab;generalize KO! H19 l1 dW!=H20 at p6 gp;have oF:=Ak s19 p6;refine⟨rl,l1,_,_,rfl,rfl,F! oF pO,gp,A4 ?_,λl2 ij=>Xt! l2 (λfl z_=>?_)⟩;(.rw[ZA,L? sE];lia);have p5:=Dr! (.BF (fw!++[bp!])) ij;have XQ:Ss! (FX! H20 l2 (fw!++[bp!])) l2 (fw!++[bp!]):=Ab;generalize KO! H20 l2 (fw!++[bp!])=H21 at p5 XQ z_;have gB:=Ak oF p5;(have XQ:Dx! H21 l2 (gy++[lv]).map:=G! ZF XQ);have NB:AX H21 (gy++[lv]) (S++[v]):=jq! (Ml! gB pH) gB pP;refine Hk (K:=K) (b:=λt=>a? Cg! && Hw! NR!) (ts:=S++[v]) (p:=fl) (caps:=[("_law_due",12),(a9!,14)]) z_ (OP! ZE (S.length+1<=900)) XQ NB (λH2 a2 t Q' s2 e _ qq=>?_) λH22 cs2 sN efl thf=>?_;(.refine⟨_,rfl,a2,_,0,_,rfl,rfl,VY!,ww,_,rfl,rfl,_,rfl,?_⟩;have oE:=Ak gB s2;by_cases z:Cg!;(.rw[L7! (H? t.1=fQ!) z];rw[decide_eq_true z,Bool.true_and] at qq;exact Ce ⟨_,rfl,_,rfl,a2,du,t,ds,ts,rfl,rfl,e,gK! oE pR,Bi! oE pG,_,rfl,qq⟩);.rw[cH! (H? t.1=fQ!) (λy=>z (V.int.inj y))];rw[decide_eq_false z,Bool.false_and] at qq;exact Cb qq);refine⟨fl,cs2,_,G? os.map,rfl,efl,thf,?_,lp,KS.XC.pw,λfr qj kE th3=>?_⟩;(.refine GW (AN _ _) ?_;rw[ZE];show S.length+1<64;lia);have gP:=IU! qj.map kE;have xa:=DA! gP sN (Aq! p5 p6 mi);have lG:=Bi! (Ak p6 (Ak p5 (Ak sN gP))) lE;refine⟨Dl! ((os.map BF!).map OX),Dl! ((os.map BF!).map OX),ZV! xa F1 lG,ZV! Ab F1 (Ml! gP th3),Ff (Ta _),Ff (Ta _),_,rfl,?_⟩;rw[Ql (Ff (Ta _))];exact Cb ⟨_,_,rfl,Ak gB (Ak sN gP)⟩
 .rintro σ Hc ⟨ri,rf,rfl,_⟩;exact k Hc
universe E K65
universe N K65
open PySem L2 FX
theorem goal_of{P:Program}{w:World}{K:W.Frag}{mg:k?}{C CW CP CI NH YK bQ NL NW b_ PQ OR cT RM RC RP RT UY UN RO QZ UG UT UI UM UP U_ UU UZ RK UL UH UQ UR UO QX LQ KH KJ KI KG LJ UE LH LI LP LO US UK RR PR UX UW RI RH RG KL LS LR LK LU LM QY UJ LN Q_ RL RF RA RJ RS RD RN QV QW RB ak:Addr}{cW SE PV cV SR SD SV SY VU VJ SU RY VC VQ VE VI VM VX VR VW SO VH VD VN VO VL RW MC KO KQ KP KN LX VB LV LW MB MA VP VG SW SM VT VS SK SJ SH KR MF ME LY MI LZ RX VF L_ RZ SQ SG R_ SN SX SF SS RU RV SA ao:FuncData}:Gl (∀base:Heap,ph! aw 12 ak ao EE! QZ!) K mg C CW CP CI NH YK bQ NL NW b_ PQ OR cT RM RC RP RT UY UN RO QZ UG UT UI UM UP U_ UU UZ RK UL UH UQ UR UO QX LQ KH KJ KI KG LJ UE LH LI LP LO US UK RR PR UX UW RI RH RG KL LS LR LK LU LM QY UJ LN Q_ RL RF RA RJ RS RD RN QV QW RB ak cW SE PV cV SR SD SV SY VU VJ SU RY VC VQ VE VI VM VX VR VW SO VH VD VN VO VL RW MC KO KQ KP KN LX VB LV LW MB MA VP VG SW SM VT VS SK SJ SH KR MF ME LY MI LZ RX VF L_ RZ SQ SG R_ SN SX SF SS RU RV SA ao:=λ_ X G aC aCW aCP aCI aNH aNHd aNNr aNL aNW xNH xNHd xNNr xNL xNW hI hPI hWI mM mFr mPa mCa mAd mGi mPs mCl mSt mTo mNe mSp mQH mPR mAR mLo mGb mHo mQN mTi mPP mPL mPT mWM mWFr mWSe mWCl mWDe mWSt mWLe mWH mWWe mWPa mWGb mWHo mP1 mR1 mC1 hII mIF mIS mIL mIR mLH mWAs mWAc mWAn mWLc mWAa mWLa mUn mRc mWIn mSm mGv mMd mRg mHs mBu mNx mFa mWk mWd mRe hW cC nC0 nC1 nC2 nC3 nC4 nC5 nC6 cCW nCW0 nCW1 nCW2 nCW3 nCW4 nCW5 cCP nCP0 nCP1 cCI nCI0 nCI1 nCI2 nCI3 z0 z1 z2 z3 z4 z5 z6 z7 z8 z9 base=>(Je1 (Jk1 gW) (P,w,K,mg,base,C,CW,CP,CI,NH,YK,bQ,NL,NW,CP! [b_,PQ,OR,cT,RM,RC,RP,RT,UY,UN,RO,QZ,UG,UT,UI,UM,UP,U_,UU,UZ,RK,UL,UH,UQ,UR,UO,QX,LQ,KH,KJ,KI,KG,LJ,UE,LH,LI,LP,LO,US,UK,RR,PR,UX,UW,RI,RH,RG,KL,LS,LR,LK,LU,LM,QY,UJ,LN,Q_,RL,RF,RA,RJ,RS,RD,RN,QV,QW,RB,ak].getD 0,CP! [cW,SE,PV,cV,SR,SD,SV,SY,VU,VJ,SU,RY,VC,VQ,VE,VI,VM,VX,VR,VW,SO,VH,VD,VN,VO,VL,RW,MC,KO,KQ,KP,KN,LX,VB,LV,LW,MB,MA,VP,VG,SW,SM,VT,VS,SK,SJ,SH,KR,MF,ME,LY,MI,LZ,RX,VF,L_,RZ,SQ,SG,R_,SN,SX,SF,SS,RU,RV,SA,ao].getD default):u_ P w K mg base C CW CP CI NH YK bQ NL NW b_ PQ OR cT RM RC RP RT UY UN RO QZ UG UT UI UM UP U_ UU UZ RK UL UH UQ UR UO QX LQ KH KJ KI KG LJ UE LH LI LP LO US UK RR PR UX UW RI RH RG KL LS LR LK LU LM QY UJ LN Q_ RL RF RA RJ RS RD RN QV QW RB ak cW SE PV cV SR SD SV SY VU VJ SU RY VC VQ VE VI VM VX VR VW SO VH VD VN VO VL RW MC KO KQ KP KN LX VB LV LW MB MA VP VG SW SM VT VS SK SJ SH KR MF ME LY MI LZ RX VF L_ RZ SQ SG R_ SN SX SF SS RU RV SA ao) X G aC aCW aCP aCI aNH aNHd aNNr aNL aNW xNH xNHd xNNr xNL xNW hI hPI hWI mM mFr mPa mCa mAd mGi mPs mCl mSt mTo mNe mSp mQH mPR mAR mLo mGb mHo mQN mTi mPP mPL mPT mWM mWFr mWSe mWCl mWDe mWSt mWLe mWH mWWe mWPa mWGb mWHo mP1 mR1 mC1 hII mIF mIS mIL mIR mLH mWAs mWAc mWAn mWLc mWAa mWLa mUn mRc mWIn mSm mGv mMd mRg mHs mBu mNx mFa mWk mWd mRe hW cC nC0 nC1 nC2 nC3 nC4 nC5 nC6 cCW nCW0 nCW1 nCW2 nCW3 nCW4 nCW5 cCP nCP0 nCP1 cCI nCI0 nCI1 nCI2 nCI3 z0 z1 z2 z3 z4 z5 z6 z7 z8 z9
theorem all_mk{P:Program}{w:World}{K:W.Frag}{h:Heap}{mg:k?}{fa f:Addr}{d:FuncData}(X:K.In h)(G:OH! h.Ns)(cR:i1! "law")(hW:GI K "law" Yr f d)(A:∀base:Heap,ph! aw 12 f d EE! QZ!) : ∃fd:FuncData,(∀(s:Shared)(v:Value),kA! [v] [(Kd!,v)])/\pR! (K.In base) P K aw 12 EE! QZ!:=by have e:=cR.symm.trans (N' X G hW.a);cases e;have z:=hW.fn;obtain⟨⟨oc,od,kV,doc,pm,an,DZ,ct,iM,rfl,lk,cd⟩,kp⟩:=z;exact⟨si! "law" "law" (Lw Yr) (F8 Yr) (Al Yr) KF,λs v=>.of_eq rfl,λbase _ _=>A base⟩
theorem walk{l:W.OpenLaw}{q:Program}{loose:X?}{XP:Iw! UW!}{YP:Iw! World}{d:DefRec}{K:Params->W.Frag}(hn:ds! 63)(mH:d.params.defaults=[])(hY:∀(w:World) (h:Heap),YP w h->er!)(F:∀(w:World) (mg:k?) (fa:Addr) (h:Heap),er!->OH! h.Ns->i1! d.name -> ∃fd:FuncData,(∀(s:Shared) (u:Value),kA! [u] [(Kd!,u)])/\pR! ((K w.params).In base) l.prog rs! aw 12 EE! (Nc (K w.params))) : W.WalkO q loose XP YP l.row.toRowW d [] (λf vs=>PySem.call f vs) :=L2.gK (n:=63) (k:=12) (x:=Kd!) (CX:=λw=>aw) (sp:=λw=>Nc (K w.params)) hn A5! mH (Bu! a! a!) hY F (λ_ H a ns hl hO hS=>⟨a,ns,rfl,cE.of hO hS,hl,EZ!⟩) λ_ _ _ _ _ z=>z
end
end K65
open PySem PySem.W PyProof.Rows
set_option maxRecDepth 100000 in
set_option maxHeartbeats 0 in
theorem PySem.Challenge.cw_farhold_k65_whole_still_houses_holds : PySem.Challenge.rw_farhold_k65_whole_still_houses.Holds := by
 w_on;o_law;k_head;(case hw=>w_witness2)
 k_fill
 refine K65.walk (l:=PySem.Challenge.rw_farhold_k65_whole_still_houses) rfl rfl (fun w h Y=>W.kIn_of Y) ?F
 case F =>
  intro w mg fa h KX G hmg
  refine' K65.all_mk KX G hmg ?hW (K65.goal_of KX G ?aC ?aCW ?aCP ?aCI ?aNH ?aNHd ?aNNr ?aNL ?aNW ?xNH ?xNHd ?xNNr ?xNL ?xNW ?hI ?hPI ?hWI ?mM ?mFr ?mPa ?mCa ?mAd ?mGi ?mPs ?mCl ?mSt ?mTo ?mNe ?mSp ?mQH ?mPR ?mAR ?mLo ?mGb ?mHo ?mQN ?mTi ?mPP ?mPL ?mPT ?mWM ?mWFr ?mWSe ?mWCl ?mWDe ?mWSt ?mWLe ?mWH ?mWWe ?mWPa ?mWGb ?mWHo ?mP1 ?mR1 ?mC1 ?hII ?mIF ?mIS ?mIL ?mIR ?mLH ?mWAs ?mWAc ?mWAn ?mWLc ?mWAa ?mWLa ?mUn ?mRc ?mWIn ?mSm ?mGv ?mMd ?mRg ?mHs ?mBu ?mNx ?mFa ?mWk ?mWd ?mRe ?hW ?cC ?nC0 ?nC1 ?nC2 ?nC3 ?nC4 ?nC5 ?nC6 ?cCW ?nCW0 ?nCW1 ?nCW2 ?nCW3 ?nCW4 ?nCW5 ?cCP ?nCP0 ?nCP1 ?cCI ?nCI0 ?nCI1 ?nCI2 ?nCI3 ?z0 ?z1 ?z2 ?z3 ?z4 ?z5 ?z6 ?z7 ?z8 ?z9)
  case aC|aCW|aCP|aCI|aNH|aNHd|aNNr|aNL|aNW=>k_is
  case xNH|xNHd|xNNr|xNL|xNW=>k_exc
  case hI|hPI|hWI|hII=>exact⟨by k_is,by k_is,⟨⟨_,_,_,_,_,_,_,_,_,rfl,by k_is,by k_is⟩,by k_is⟩⟩
  case mM|mFr|mPa|mCa|mAd|mGi|mPs|mCl|mSt|mTo|mNe|mSp|mQH|mPR|mAR|mLo|mGb|mHo|mQN|mTi|mPP|mPL|mPT|mWM|mWFr|mWSe|mWCl|mWDe|mWSt|mWLe|mWH|mWWe|mWPa|mWGb|mWHo|mIF|mIS|mIL|mIR|mLH|mWAs|mWAc|mWAn|mWLc|mWAa|mWLa|mWIn=>exact K65.MeI.mth ⟨by k_is,by k_is,⟨⟨_,_,_,_,_,_,_,_,_,rfl,by k_is,by k_is⟩,by k_is⟩⟩
  case mP1|mR1|mC1|mUn|mRc|mSm|mGv|mMd|mRg|mHs|mBu|mNx|mFa|mWk|mWd|mRe=>exact K65.GI.gdi ⟨by k_is,⟨⟨_,_,_,_,_,_,_,_,_,rfl,by k_is,by k_is⟩,by k_is⟩⟩
  case hW=>exact⟨by k_is,⟨⟨_,_,_,_,_,_,_,_,_,rfl,by k_is,by k_is⟩,by k_is⟩⟩
  case cC|cCW|cCP|cCI=>constructor<;>k_is
  case nC0|nC1|nC2|nC3|nC4|nC5|nC6|nCW0|nCW1|nCW2|nCW3|nCW4|nCW5|nCP0|nCP1|nCI0|nCI1|nCI2|nCI3|z0|z1|z2|z3|z4|z5|z6|z7|z8|z9=>k_is
