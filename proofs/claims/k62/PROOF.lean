import PyProof.Rows.All
import Wide.All
import OpenK.AllK
import Wide.FinOn
import Lean
import PyProof.EqAt
import PyProof.EqKinds
import PyProof.TupleCall
import PySem.Challenge.RW_farhold_k62_whole_nothing_reached_goes
set_option linter.all false
def AB:=@if_neg
def AD:=@if_pos
def AE:=@List.mem_filter
def AF:=@List.mem_map
def AG:=@List.append_nil
def AI:=@List.map_cons
def AJ:=@List.mem_of_find?_eq_some
def AK:=@List.nodup_append
def AL:=@List.map_map
def AM:=@List.nodup_cons
def AQ:=@List.append_assoc
def AR:=@PySem.Heap.lt_size
def AV:=@List.length_filter_le
def AX:=@Bool.false_ne_true
def AY:=@List.find?_eq_none
def A':=@Int.le_refl
def BA:=@Nat.le_trans
def BB:=@PySem.F.plainAttrs_list
def BD:=@List.size_toArray
def BE:=@Nat.zero_le
def BF:=@List.length_cons
def BG:=@List.mem_map_of_mem
def BH:=@Nat.ne_of_lt
def BJ:=@Int.toNat_of_nonneg
def BM:=@List.map_congr_left
def BN:=@List.find?_cons
def BO:=@of_decide_eq_true
def BP:=@List.take_length
def BQ:=@Nat.lt_of_lt_of_le
def BR:=@List.mem_range
def BS:=@List.length_nil
def BU:=@List.mem_cons
def BV:=@List.flatMap_append
def BZ:=@List.length_range
def B_:=@List.flatMap_cons
def B':=@List.length_take
def CA:=@List.length_eq_zero_iff
def CB:=@List.mem_iff_getElem?
def CD:=@PySem.wpAny_dictEntries
def CG:=@List.sum_cons
def CJ:=@PySem.boot_len
def CK:=@List.nodup_nil
def CL:=@Bool.false_eq_true
def CM:=@List.getElem?_eq_none
def CN:=@Nat.lt_irrefl
def CO:=@PyProof.Rows.boot_sorted
def CS:=@PySem.Heap.get?_update_other
def CT:=@Array.length_toList
def CV:=@List.mem_flatMap
def CY:=@List.filter_cons
def CZ:=@PySem.F.plainAttrs_dict
def Cn:=@PySem.sizeLine_eq
def C_:=@PySem.wpAny_call_entry
def DA:=@List.mem_singleton
def DB:=@Int.emod_lt_of_pos
def DD:=@List.not_mem_nil
def DE:=@PySem.F.type_list_append
def DF:=@PySem.F.slot_list_append
def DK:=@PyProof.Rows.boot_tuple
def DO:=@List.find?_some
def DP:=@Int.emod_nonneg
def DR:=@beq_eq_false_iff_ne
def DS:=@List.take_add_one
def DT:=@Int.toNat_natCast
def DV:=@List.length_singleton
def DW:=@PySem.wpAny_newObj_type
def DZ:=@List.getElem_inj
def EC:=@PySem.wpAny_mono
def ED:=@if_false
def EE:=@Nat.ne_of_gt
def EF:=@Nat.le_of_lt
def EG:=@List.pairwise_map
def EI:=@List.filter_eq_self
def EJ:=@PySem.wpAny_holding
def EK:=@List.take_append_drop
def EL:=@List.pairwise_cons
def EM:=@PySem.wpAny_dictEpoch
def ET:=@PySem.tupleKind_room_in1
def EW:=@List.getElem?_set
def EX:=@List.ext_getElem?
def EZ:=@List.range_succ
def FA:=@List.filter_sublist
def FC:=@Nat.le_succ
def FG:=@PySem.F.slot_dict_get
def FH:=@List.perm_append_comm
def FJ:=@PySem.Calls.callWith_builtin
def FL:=@PySem.F.plain_extend_loop
def FN:=@List.filterMap_eq_nil_iff
def FO:=@List.map_nil
def FQ:=@PySem.wpAny_setField_rec
def FR:=@Nat.le_succ_of_le
def FU:=@List.find?_append
def FV:=@Nat.mul_le_mul_right
def FY:=@PySem.MeetsSeq.plain_remove_loop
def FZ:=@PySem.Heap.get?_update_self
def GA:=@PySem.F.type_list_extend
def GB:=@PySem.F.slot_list_extend
def GQ:=@List.filterMap_cons
def GY:=@PySem.W.mg_none_of
def GZ:=@List.flatMap_nil
def G_:=@PySem.Obj.data_mapDictKeys
def HC:=@PySem.Calls.evalArgs_plain
def HD:=@PySem.Around.under_plainId
def HH:=@if_true
def HM:=@PySem.wpAny_typeNameOfWhole_itemiter
def HQ:=@PySem.wpAny_typeNameOfWhole_keyiter
def HR:=@PySem.F.slot_dict_itemiterator_next
def HW:=@PySem.codeAny_mono
def HX:=@PySem.wpAny_Call_Name_kw
def HY:=@PySem.Calls.spliced_cons
def IC:=@PySem.wpAny_passesOwn
def ID:=@List.getD_eq_getElem?_getD
def IE:=@PySem.F.slot_dict_keyiterator_next
def II:=@Nat.lt_succ_self
def IJ:=@PySem.wpAny_notOrdered_dict
def IL:=@PySem.mem_of_lookup
def IQ:=@PySem.F.type_list_remove
def IS:=@PySem.F.slot_list_remove
def IT:=@PySem.F.slot_dict_values
def IU:=@PyProof.Rows.get?_update_seq
def I_:=@Nat.lt_of_le_of_lt
def JA:=@List.filter_append
def JC:=@PySem.Calls.call_function_entry
def JM:=@or_false
def JN:=@PySem.plainId_quiet
def JO:=@List.map_id'
def JP:=@List.take_zero
def JQ:=@List.filter_congr
def JR:=@PySem.wpAny_typeNameOf_keyiter
def JS:=@PySem.F.entry_dict_get
def JZ:=@PySem.size_of_entries
def J_:=@PySem.codeAny_builtin
def KC:=@PySem.wpAny_callSpecial?_slot
def KD:=@PySem.F.slot_dict_pop
def KJ:=@List.any_eq_true
def KL:=@Array.isEmpty_iff_size_eq_zero
def KS:=@PySem.call_meetsIn
def KU:=@PySem.W.hideAll_none
def KW:=@PySem.Calls.spliced_nil
def K':=@List.mem_append
def LC:=@List.length_pos_iff
def LP:=@PySem.W.mg_of
def LX:=@beq_iff_eq
def LY:=@List.find?_map
def LZ:=@List.mem_filterMap
def L_:=@List.contains_cons
def MA:=@List.append_of_mem
def MB:=@List.getElem?_append_right
def ME:=@Array.getElem?_eq_some_iff
def M_:=@PySem.wpAny_execs_nil
def NB:=@List.mem_or_eq_of_mem_set
def NC:=@List.getElem?_append_left
def ND:=@PySem.Obj.isFreed_of_dict
def NO:=@PySem.W.KasT.kasWp_bind
def NP:=@PySem.F.type_dict_values
def OB:=@PySem.Obj.data_mapFields
def OC:=@List.range'_succ
def OD:=@List.lookup_cons
def OE:=@List.getElem?_cons_succ
def OQ:=@decide_false
def OR:=@Nat.lt_trans
def OS:=@List.pairwise_lt_range
def OT:=@List.Perm.append_right
def O_:=@PySem.wpAny_truthy_bool
def PB:=@PySem.wpAny_Call_method
def PD:=@List.filter_map
def PF:=@Bool.eq_iff_iff
def PZ:=@PySem.wpAny_newList
def QB:=@PySem.F.type_list_pop
def QC:=@PySem.F.slot_list_pop
def QD:=@List.filterMap_append
def QU:=@PySem.wpAny_forIn_list
def QV:=@Std.Legacy.Range.forIn_eq_forIn_range'
def RS:=@PySem.wpAny_isOneOf_itemiter
def WT:=@PyProof.Rows.listItems_at
def YJ:=@PyProof.Rows.entry_list_sort
local macro_rules(kind:=Lean.Parser.Command.mutual)|s=>do
 let c:=s[1].getArgs
 if c[0]![1][1][0].getId != `Z then Lean.Macro.throwUnsupported
 let q:=fun(m:Lean.NameMap (Array Lean.Name×Lean.Syntax))(x:Lean.Syntax)=>x.rewriteBottomUp fun y=>if y.isIdent then match m.find? y.getId with|some (#[],b)=>b|_=>y else if y.isOfKind `Lean.Parser.Term.app then match m.find? y[0].getId with|some (p,b)=>if p.isEmpty then y else b.rewriteBottomUp fun z=>if z.isIdent then match p.findIdx? (·==z.getId) with|some i=>y[1][i]|_=>z else z|_=>y else y
 let e:=c[0]![1][3][1][1].getSepArgs
 let n<-`(noncomputable def a:=1)
 let mut m:={}
 for i in [0:e.size/2] do
  let h:=e[2*i]!
  let b:=q m e[2*i+1]!
  m:=if h.isIdent then m.insert h.getId (#[],b) else m.insert h[0].getId (h[1].getArgs.map (·.getId),b)
 let o<-(c.extract 1 c.size).mapM fun c=>do
  if c.isOfKind `Lean.Parser.Command.universe then
   let a:=c[1].getArgs
   if a[0]!.getId==`S then `(section)
   else if a[0]!.getId==`N then `(namespace $(⟨a[1]!⟩))
   else if a.size==1 then `(end)
   else `(end $(⟨a[1]!⟩))
  else
   let c:=q m c
   if [`Lean.Parser.Command.definition,`Lean.Parser.Command.abbrev,`Lean.Parser.Command.instance].contains c[1].getKind&&c[0].getArgs.all (·.isNone) then return c.setArg 0 n.raw[0] else return c
 return Lean.mkNullNode o
noncomputable section
mutual
def Z:=#[W!,Type _,
G!,.inl,
h!,.inr,
C!,.int,
X!,.cons,
P!,.nil,
w?,xs.length<=sizeLine,
C?,.type,
Ci!,kvs.length<=sizeLine,
f?,(·.1),
U?,.none,
AD!,λ_ _ q=>q,
D? a b,by rw[a];exact b,
DD! a b,by subst z;rw[a] at mu;exact b,
AE! a,by rw[a];simp,
x?,.local,
y!,.cell,
AF!,X.calm=true,
DF!,b≠X.env.locals,
SZ,{ s with heap:=h',toks:=t' },
L?,by simp,
g?,by simpa using hb,
Sc,{ s with heap:=h' },
z? a b,by rw[<-a];exact b,
DH!,λ_ _ x=>x,
DI! a,λv u s2 x y H2 I2 rx ry q=>a,
DJ!,by decide,
DK! a,by intro AA s σ H Q I h;exact a,
At,(·.2),
I!,by lia,
Da!,i<=xs.length,
am a,λx y H Q=>a,
BB!,by simp at h,
Dg!,λ_=>none,
AC!,.Attribute,
v?,us++ds,
DE!,kvs.length<sizeLine,
y?,.Subscript,
DG! a,λw' s3 I3 PH=>a,
A! a,some a,
K! a,List a,
Y! a b,a->b->Prop,
V? a b,Inv X AA σ a b,
W? a,V? H a,
k! a c,a b=A! c,
L! a b,PE X a b,
B!,W? s,
S! a,(.ref a),
Z! a,Y! a Hp,
i! a,Option a,
M! a b,a x=A! b,
l!,(L?),
D!,K! (Addr×Obj),
E!,K! V,
N! a,decide (a),
AC a,k! a o,
AG! a b,a AA s σ H _ I b,
F!,K! Value,
H!,Y! Value Shared,
AT,.ref a,
M? a,(a)=false,
AH! a b,(DX (AG! a h) b),
DL! a b,λσ H Q=>a σ H b,
z!,Z! St,
Dh! a b,wpAny (model X.prog X.w) X.A a b X.xe s,
a! a,.ref a,
o! a b,a σ H1 b,
AI! b,H a=A! b,
J! a,a (B8 I q l!),
AJ!,s.heap.objs.size+1,
O!,K! α,
X?,S! f,
Q!,(ZG _),
R!,H b=none,
TD,(G! rfl),
Tk,K! Key,
Di!,Value.ref a,
T!,i! Int,
U!,RelV y u,
DM! a,AH! a ?_,
V!,Str->i! Value,
d!,x=AT,
g!,K! (κ×V),
N? a b,(D? a b),
j!,K! Str,
AK!,S! C,
O? a,(eval a X.env),
AL!,(.dK kvs),
T0 a,Pv a σ H,
UF a,D.nx σ a,
q!,u=Di!,
v!,K! Env,
Y? b,h.get? a=A! b,
DN! a b,Dh! a (b X AA σ Q),
AM! a,(.ins C dx a),
Dj!,M! X.env.cells.lookup c,
w!,LN P w H h,
x!,KV kvs vs,
DO! a,a AA s1 σ H1 _ I1 q1,
h? a b,B!->a->b,
AN! a,V? H' a,
i? a b c d,L! (a b c pos) d,
A?,RelV v u,
j? a,DL! t a,
UV b,(upd H a b),
Ch,Y! Hp VK,
Dk! a b c,{ cls:=C? a,data:=b c },
B?,absurd (show false=true from hs) AX,
E?,(I!),
F? a,⟨rfl,a⟩,
G?,K! Addr,
H? a b,H a=A! b,
I? a,H a=none,
J?,(.AZ xs),
Db b,Rd H a b,
Dl! a b c,wpAny (model a w) A b c E s,
K?,k _ _ TD e,
EQ a,wpAny (model X.prog X.w) A a Q E s,
Uf a,(show a from r),
DP! a,(show a from ry),
P? a b,⟨a,b,?_⟩,
WF a,D? a q,
AO! a,∀x c,Dj!->a,
DQ! a b,Inv X AA a b s',
Q?,K! (Key×V),
R?,S! a,
S?,AC h.get?,
DR!,eval e X.env,
T?,L! a ta,
Dw! a b c,wpAny (model X.prog X.w) X.A a b X.xe c,
Z? a b,λD σ H=>a σ H b,
DS! a,a (AJ!),
a?,AC s.heap.get?,
b?,(some v),
AP! a,Y! Hp (a),
c? a b c d,h! ⟨a,b,c,d⟩,
AQ! a,DN! a EP,
Dm! a b,Dk! a .fields b,
AR! a,Int->Int->a,
d?,Pv (i+1),
e?,L! b tb,
Dn! a b,W.findIn K AK! a=A! b,
AS! b,DN P w H h a b,
k? a b c,⟨σ,a,b,c⟩,
l? a,⟨a,?_⟩,
m?,p.1=k,
n?,K! Int,
o?,Z! Bool,
DT! a,((a:Nat):Int),
DU!,(I.tok _),
DV!,M? (a==sysModules),
DW! a b,Dh! a (b),
DX!,(.dT kvs),
p?,L4 I.DC e,
q?,Vals xs us,
r?,ZT _ q,
s?,T0 i,
DY!,UF H,
Dx! a,Dl! prog a Q,
t?,M? (x==("__debug__":Str)),
u?,L! o td,
Do! a b,a (DM! b),
Ev a,(∀b∈fp,a),
FB,(vs++OX),
FM a b,IntsAre a b,
FS,K! (Str×V),
GE,K! (Str×Value),
GM,W? s',
Go,H' b=none,
IN,L3 I.DC e,
IR,xs[i]?=A! x,
Is a b,QO X (compareOp a) b,
Ix a b,QO X (binaryOp a) b,
KB,AN! s',
KE a,a K C=true,
KF,L! e te,
KM a c,k! H a->k! H' c,
WP,(Bq P w),
Dp! a,(AC! o a apos),
DZ!,(putK kvs k v),
Dq!,λkv=>N! (kv.1=k),
NE,(Lo ry),
No,X.A.units+1<cLine,
Op a,(aA λi j=>a),
Os,ZU _ rfl,
PP,Vals OX ds,
Rs,Gl X x,
Dr! a b c,L! (.Call a b [] pos) c,
Ds! a,λOU H2=>tb a OU H2,
SB,Hv CX X E,
SC,Binds X.K fd ps ds,
SL,EO X.prog X.w X.K X.mg X.base CX k f fd ps sp,
XV a,AllBare a,
ap,λb o e n hb hx=>?_,
be a,∃ER H',DQ! ER H'/\a,
bi,x=C! i,
bn,[AT],
bv,{ s with toks:=s.toks+1 },
ca,K! Expr,
ci,K! (Tk×V),
cr,S! it,
db a b,a σ H λx H1=>b,
ga,RelV x u,
ii,(n:Int),
jp a,H1 a=none,
lc,Vals vs us,
o0,X.N[i]?=A! x,
pi,∃t,u=Value.int i t,
re,2 ^ 62,
sB,(.own x),
sK,UV o,
sw,DU K H a xs,
ut,CF K H a xs,
Dy! a b,Dn! a (some b),
v4 a b c d,Dx! (a b c d),
v6 a,a b o e n hb hx,
wE,K.In s.heap,
Dz! a,∀b u,k! a u->k! h'.get? u,
wP,(show False from r).elim,
wS,A.units+1<cLine,
wT a,(eval a env),
wp,DP! (u=Value.ref b),
wv,KT H kvs xs,
ww,hf it l!,
xL,TE->TE->TE,
xz,starEach (e::es) X.env=(false,DR!)::starEach es X.env,
AA!,behindInMarks op b=false,
AB!,Dm! "range" (#[C! lo t,C! hi u,C! 1 v]),
AT!,(DJ!),
AU!,(AJ!),
AV! a b c,if a then A! b else c,
AW! a,(a b o e).1,
AX!,λb hb=>?_,
AY! a,z? a z,
AZ!,y=C! j,
Aa! a b,h'.get? a=A! b,
Ab! b,h'.get? a=A! b,
Ac! b,b a=A! o,
Ad! a,M! sc.names.lookup a,
Ae!,Y! Unit Shared,
Af! a b,DX (DO! a) b,
Ag!,AI! AL!,
Ah!,G! rfl,
Ai!,DM! he,
Aj!,I.tuple hq,
Ak! a,⟨_,rfl,a⟩,
Al!,(.own a),
Am!,(.builtin id),
An!,Array Value,
Ao! a,o! ty (λy H2=>a),
Ap!,AO! (c≠b),
Aq!,DS! Value.ref,
Ar!,DM H a y o,
As!,VA X.K C,
At! a,⟨H,I.tok _,a⟩,
Au!,PA X (e::es) t,
Db!,(Ci kvs k),
Av!,Vals xs its,
Aw! a b,∀p,a->Q (S! p) b,
Ax!,PT X a tA,
Ay!,V->V->Ch,
Az!,Value->Value->Sem Value,
A0! a,Yg λi j=>N! a,
A1! a,wpAny M A a Q E s,
A2! a b,a λ_ _ _ _ _ _ _ q=>b q,
A3! a,⟨H1,I1,a⟩,
A4! a,DI (k+1) a,
A5!,L! i ty,
A6! a,wpAny (model X.prog X.w) X.A a Q E s,
A7!,Ci kvs k,
A8!,(.GF o u),
A9!,k! H (.AZ (k.map kV)),
BA! a b c d,a (DX (b AA s σ H c I h) d),
Dt!,(tupleKind (Bq P w)),
BC! a,(DX (ha pos AA s σ H _ I h) a),
BD! a b,absurd (BQ a b) (CN _),
BE! a b,Un fs ex H a h b,
BF!,(backTo pos (starEach es X.env)).any f?=false,
BG! a b c d e f g,⟨a,I.os,I.bare,b,c,d,I.free,I.IK,e,f,g⟩,
BH! a b c,wpAny (model prog w) A a b E c,
BI! a b,a hu I2 g ry b,
BJ!,λz=>e (h1.trans z),
BK! a,I.turned (t':=s.toks) (λb o hb e=>a) f0 f1 f3 f4 f5,
Dc! a,(Kh CX P w K mg base N qual scope f a A outer s H E),
Dd! a,False.elim a,
De! a,s.heap.push a,
Df! a,B!->a,
BL! a c,⟨a,k b c q⟩,
BM!,x≠"__name__",
BN!,λb o e=>ZT _ e,
BO! a,λb hb=>(a b hb).1,
BP! a b c d,λ_ _ _ H _ I h=>a ⟨b,H,c,d,h⟩,
BQ! a,by cases op<;>first|rfl|exact a,
BR! b c,show AS! b from c,
BS!,(rel.val k).KI,
BT!,(rel.val k).getD,
BU!,K! Keyword,
BV! a b,s.heap.get? a=A! b,
BW! a b,scope.names.lookup a=A! b,
BX! a,k! h'.get? a,
BY! b,b a=A! (AM! fs),
BZ!,Z! It,
Ba! a,M! X.mg a,
Bb! a,(starEach a X.env),
Bc!,AC h'.get?,
Bd! a b c d,DX (a AA b σ H2 _ c q2) d,
Be! a b,AH! a (λv s1 ⟨x,H1,I1,r1,q1⟩=>b),
Bf!,AI! o,
Bg!,AI! (AM! fs),
Bh!,AI! DX!,
Bi!,Str->i! NameKind,
Bj!,eval o X.env,
Bk!,I.list hq,
Bl!,L! o ta,
Bm! a c d,a/\DF!/\c/\d,
Bn!,Y? o,
Bo! a,DX (AG! a h) ?_,
Bp! a,DX (DO! a) ?_,
Bq! a,h? (t σ H Q) a,
Br! a b c,Q (.bool (a b c)) s,
Bs! a,j? (λc H1=>a),
Bt! a,a K X?=true,
Bu! a b c,PS X (.Assign a b pos) c,
Bv! a,o! tb (λy H2=>a),
Bw!,Db AL!,
Bx! a b,Uf (∃t,u=a b t),
By!,WF (Ab (Aj q hn)),
Bz! a b c,Dw! a (b) c,
B0!,(hi-lo).toNat,
B1! a,DL! ta (λx H1=>a),
B2! a,DL! td (λx H1=>a),
B3! a b,AQ! (call a b),
B4!,(.Name x pos),
B5!,AR! V,
B6! a b,HT.RU xs.length a b,
B7!,DT! 0,
B8! a b,DW! (O? a) b,
B9! a,Do! a ha,
CA!,⟨a! C::us,kw⟩,
CB!,(C! j u),
CC!,Dp! m,
CD!,W i m σ H,
CE! a,EP X AA σ Q a s,
CF! a,∀b o,AC X.base.get?->a,
CG!,∀p∈X.pn++AA,p.1≠b,
CH!,(kvs.any Dq!),
CI! b,b X.K H a xs,
CJ! a b,B!->RelV x v->a->b,
CK!,Loc X.env.scope x,
CL! a,⟨a,H,I.tok _,⟨_,rfl⟩,q⟩,
CM! a,Dy! a X?,
CN!,Dz! h.get?,
CO! a b c,PW X (.BoolOp a (b) pos) c,
CP! a,IC hp (DX (a) ?_),
CQ!,C! (g i j),
CR! a,St->AP! a,
CS!,Nat->z!,
CT!,⟨q,hq⟩,
CU! a,(W.instObj C a),
CV! b,Ci!/\DV!/\b,
CW!,L! value tv,
CX! a,Dr! (.Name x p) (e::es) a,
CY!,I.cell x c e,
CZ! a,UC a x dx C mA,
Ca! a b,swapsWith a b pos.line X.env=pure false,
Cb! a,N! (a≠k)=true,
Cc! a,λkv=>if kv.1=k then a else kv,
Cd!,K! (Tk×Addr×Value),
Ce! a b,a (B8 I q (congrArg not b)),
Cf!,(Bq X.prog X.w),
Cg! a,QI xs a=A! v,
Ch! a b,EQ (call (.builtin a) b),
Cj! a,Dw! (f v u) Q a,
Ck! a b c,Un a b H H' s.heap c,
Cl! a b,(∃xs,a/\k=!xs.isEmpty)\/b,
Cm!,I.base.there b o e hx,
Cn! a b,⟨a! s.heap.objs.size,_,a,rfl,b⟩,
Co!,(NS r ta tb),
Cp!,(b∈X.ex\/X.HU.heap.objs.size<=b),
Cq! a c,∀b u,a->k! c u->k! h'.get? u,
Cr! a,LN X.prog X.w H' a,
Cs!,h _ _ DU! ?_,
Ct! a b c,KS FG dd.typeIs JS a b c,
Cu! a c,⟨a,(hs.2 b (BH (BQ (AR e) c))).trans e1⟩,
Cv! a b c,F9 a (N? e True.intro) hs b c,
Cw! a b c,if a then b::r else(c,x)::Ar f v r,
Cx! a b,∀w' s',a->RelV b w'->Q w' s',
Cy!,(Ik I.DC eb),
Du! a,(A.under (.builtin "type.__call__" a)),
Dv! a,(backToKw a (keywordEach [] X.env)),
Cz!,h _ (I.tok _),
C0!,X.fn x=true\/M! X.env.scope.names.lookup x?,
C1! a b,a/\k=((b:Int) != 0),
C2! a b,i? .Constant a j (tC b),
C3!,(lD b o e hx),
C4! a b,mI (v:=v) (o:=a) b,
C5! a b,∃W:Nat->Nat->z!,(∃m,a)/\∀i m σ H,b,
C6! a b,a AA s1 σ H1 b I1 q1,
C7! a b c d,a AA s1 σ H1 b c d I1 r1 q1,
C8!,⟨hp,g,d,tk,os⟩,
C9! a b,a kindOf ((p,w)::P.zip vs) m b=_,
DA!,envOfC qual scope s.heap.objs.size f cd,
DB! a b c,(a i H/\DY!)\/(b i H/\∃N:z!,(∀ER H',N ER H'->∃m',m'<m/\W (i+1) m' ER H')/\∀x H',c i H x H'->g x σ H' (Ds! { D with nx:=N,ct:=N,bk:=D.nx })),
DC! a,UE P w K mg base a outer s H]
theorem ZV{p:Prop}(h:p:=by decide +kernel):p:=h
open PySem PySem.Spec PyProof.Rows in def ZR:=@wpAny_bind
open PySem PySem.Spec PyProof.Rows in def ZS:=@wpAny_pure
open PySem PySem.Spec PyProof.Rows in def ZT:=@Heap.get?_push_of_some
open PySem PySem.Spec PyProof.Rows in def ZU:=@Heap.get?_push_size
universe N PySem.W.Fast
def tw9672600542532394453:=()
def tw12765128406734199337:=()
def tw12531355081540745004:=()
def tw12898920597778502176:=()
def tw15502407541165578413:=()
def tw6285118595279588189:=()
def tw11746517518110078669:=()
def tw6306878858889053572:=()
def tw14111835448875652580:=()
def tw15996980598516252304:=()
def tw16259199338090129589:=()
def tw7611968942588546954:=()
def tw7302961016739652987:=()
def tw556518996620441478:=()
def tw8386843547197031038:=()
def tw5435171684635067932:=()
def tw16536937276955305758:=()
def tw12628719141287996363:=()
def tw4053696065969480862:=()
def tw7012799399566994772:=()
def tw1408937224694973241:=()
def tw13784175267927357472:=()
def tw14725899423044139349:=()
def tw382590827253284244:=()
def tw17517509063440271100:=()
def tw6345591539080710882:=()
def tw5782192261872994343:=()
def tw14371281660006838136:=()
def tw11180493863008256450:=()
def tw15438068631038261854:=()
def tw4752482878974980955:=()
def tw9853780194306752711:=()
def tw5749308549399378292:=()
def tw9090107485862205444:=()
def tw11363077472487192746:=()
def tw5749510988432065177:=()
def tw17544200602437160802:=()
def tw16179463816563957003:=()
def tw4598253569321634098:=()
def tw12413637691234579984:=()
def tw8963002124427692659:=()
def tw16692104669382125293:=()
def tw1339389436271945125:=()
def tw10825333481959343312:=()
def tw1471421677126664035:=()
def tw17116432102148025460:=()
def tw14441022899333704011:=()
def tw1926342087030666033:=()
def tw6508420025246363160:=()
def tw8371975233308020244:=()
def tw14757953351465301622:=()
def tw1196394091058336389:=()
def tw16816614290048950677:=()
def tw8451458932267862434:=()
def tw6530782741970136273:=()
def tw1906116392586683421:=()
def tw15805765715857894438:=()
def tw8884989446734377889:=()
def tw13334493191640690386:=()
def tw5067673610272262477:=()
def tw14425909048503875832:=()
def tw16047117914117225843:=()
def tw8227922530829236491:=()
def tw14126465531534156645:=()
def tw11440583793398427300:=()
def tw4649523972743894051:=()
def tw10580584245445206609:=()
def tw17138760493302478260:=()
def tw18201318663241112015:=()
def tw7428673191639383558:=()
def tw15078862907363098752:=()
def tw12050354961307816302:=()
def tw24960410713366341:=()
def tw14573042398341580525:=()
def tw6383108800853926683:=()
def tw16352770178656894818:=()
def tw6302357212221312835:=()
def tw14664692529569444861:=()
def tw14039300163590550897:=()
def tw6286655998416982355:=()
def tw8806989428275443485:=()
def tw17948775974147915482:=()
def tw17315246719797971474:=()
def tw17296356634677922820:=()
def tw16998153690098483855:=()
def tw18405729187678610944:=()
def tw4031390254768165371:=()
def tw5487259573018454726:=()
def tw9576698474045168685:=()
def tw16608478419224326790:=()
def tw13587111160050519948:=()
def tw4041322915394726041:=()
def tw7841628197304860160:=()
def tw10785407679322976918:=()
def tw8799634225913742865:=()
def tw4700614163003118314:=()
def tw13622249644427295191:=()
def tw12691939958019862928:=()
def tw10728126198296231188:=()
def tw8230769994732057006:=()
def tw6817300846928483190:=()
def tw17223646121255694205:=()
def tw12278732026250561639:=()
def tw9230798181355129658:=()
def tw14444441698418270797:=()
def tw12336802498073027886:=()
def tw14976078274817663538:=()
def tw13843968968203922039:=()
def tw11588305109258190570:=()
def tw10917797079785177748:=()
def tw2466571608135239339:=()
def tw14737390510714158869:=()
def tw6592828331161501552:=()
def tw12887923511241125920:=()
def tw9619910415414723108:=()
def tw44180091813435373:=()
def tw8265003402260855069:=()
def tw6061973821952322030:=()
def tw1594216370299857565:=()
def tw11456691187797075337:=()
def tw11967300485080581270:=()
def tw2859175082762216146:=()
def tw9198051001210412361:=()
def tw685100245740090234:=()
def tw3286318890506087535:=()
def tw7887017811621737626:=()
def tw6151351840527129928:=()
def tw17771482185238111378:=()
def tw1485184095352043099:=()
def tw5031760909129543572:=()
def tw12227970488893235782:=()
def tw9839299602034407952:=()
def tw9831389899157960323:=()
def tw13107803098652897701:=()
def tw12646806036081702269:=()
def tw880216646309807862:=()
def tw6659308337053572792:=()
def tw18359371239384958240:=()
def tw6010402519905032577:=()
def tw5881690232656307895:=()
def tw14212398787514310153:=()
def tw737542651130139778:=()
def tw11375849014720273811:=()
def tw18222578229697810697:=()
def tw17409568651354865353:=()
def tw11398100199034191117:=()
def tw10892173526473688741:=()
universe E PySem.W.Fast
theorem ZA {α β : W!} {as : O!} (f : α -> β) : (as.map f).length = as.length := List.length_map f
theorem ZB {α : W!} {a : α} {as : O!} (bs : O!) (h : a ∈ as) : a ∈ as ++ bs := List.mem_append_left bs h
theorem ZC {α : W!} {b : α} {bs : O!} (as : O!) (h : b ∈ bs) : b ∈ as ++ bs := List.mem_append_right as h
theorem ZD {α : W!} (y : α) {a : α} {l : O!} (h : a ∈ l) : a ∈ y :: l := List.mem_cons_of_mem y h
theorem ZE {α : W!} {as bs : O!} : (as ++ bs).length = as.length + bs.length := List.length_append
theorem ZF {α β : W!} {f : α -> β} {as bs : O!} : (as ++ bs).map f = as.map f ++ bs.map f := List.map_append
theorem ZG (n : Nat) : n <= n := Nat.le_refl n
theorem ZH {α β : W!} {f : α -> β} {as : O!} {i : Nat} : (as.map f)[i]? = as[i]?.map f := List.getElem?_map
theorem ZI {α : W!} {a : α} {s t : O!} : a ∈ s ++ t -> a ∈ s \/ a ∈ t := K'.mp
theorem ZJ {α : W!} {l : O!} {i : Nat} {a : α} : l[i]? = A! a -> ∃ h : i < l.length, l[i] = a := List.getElem?_eq_some_iff.mp
theorem ZK {α : W!} {a b : α} : a ∈ [b] -> a = b := DA.mp
theorem ZL {α : W!} {a : α} {l : O!} : a ∈ a :: l := List.mem_cons_self
theorem ZM {α : W!} {a b : α} {l : O!} : a ∈ b :: l -> a = b \/ a ∈ l := BU.mp
theorem ZN {α β : W!} {b : β} {f : α -> β} {l : O!} : b ∈ l.map f -> ∃ a, a ∈ l /\ f a = b := AF.mp
theorem ZO {α : W!} {a b : α} : A! a = A! b -> a = b := Option.some.inj
theorem ZP {α : W!} {l : O!} {i : Nat} {a : α} : l[i]? = A! a -> a ∈ l := List.mem_of_getElem?
set_option autoImplicit true
set_option Elab.async false
set_option maxRecDepth 100000
set_option maxHeartbeats 4000000
set_option linter.all false
universe N L2
open PySem PySem.Spec PyProof.Rows
abbrev Key:=Sum Int Str
def Rh:Key->Value->Bool
 | .inl k,v=>Value.isInt k v
 | .inr x,v=>Value.isStrOf x v
def x5(w:World):Key->Int
 | .inl k=>hashInt k
 | .inr x=>hashStr w x
theorem Cv:∀{k:Key} {v:Value},Rh k v=true->(∃i t,k=Sum.inl i/\v=Value.int i t)\/(∃x t,k=Sum.inr x/\v=Value.str x t)
 | .inl i,v,h=>by obtain⟨t,e⟩:=Value.isInt_shape (k:=i) (v:=v) h;exact G! ⟨i,t,rfl,e⟩
 | .inr x,v,h=>by obtain⟨t,e⟩:=Value.isStrOf_shape (x:=x) (v:=v) h;exact c? x t rfl e
theorem Jch(i:Int)(t:Tok):Rh (G! i) (C! i t)=true:=by simp[Rh,Value.isInt]
theorem Jcg(x:Str)(t:Tok):Rh (h! x) (.str x t)=true:=by simp[Rh,Value.isStrOf]
theorem Jjl(a b:Int):N! ((Sum.inl a:Key)=Sum.inl b)=(a==b):=by grind
theorem Jji(a b:Str):N! ((Sum.inr a:Key)=Sum.inr b)=N! (a=b):=by grind
theorem Jjk(a:Int)(b:Str):N! ((Sum.inl a:Key)=Sum.inr b)=false:=decide_eq_false (λq=>nomatch q)
theorem Jjj(a:Str)(b:Int):N! ((Sum.inr a:Key)=Sum.inl b)=false:=decide_eq_false (λq=>nomatch q)
def Bq(prog:Program)(w:World):PySem.KeyKind prog w Key where
 is:=Rh
 hash:=x5 w
 inj:=λv a b ha hb=>by
  rcases Cv ha with⟨i,t,rfl,rfl⟩|⟨x,t,rfl,rfl⟩
  .rcases Cv hb with⟨j,u,rfl,e⟩|⟨y,u,rfl,e⟩
   .injection e with e1 _;rw[e1]
   .exact nomatch e
  .rcases Cv hb with⟨j,u,rfl,e⟩|⟨y,u,rfl,e⟩
   .exact nomatch e
   .injection e with e1 _;rw[e1]
 byValue:=λk v h=>by
  rcases Cv h with⟨i,t,rfl,rfl⟩|⟨x,t,rfl,rfl⟩<;>rfl
 pyHash:=λhv h=>by
  rcases Cv hv with⟨i,t,rfl,rfl⟩|⟨x,t,rfl,rfl⟩
  .exact wpAny_pyHash_int h
  .exact wpAny_pyHash_str h
 eqBool:=λhu hv h=>by
  rcases Cv hu with⟨i,t,rfl,rfl⟩|⟨x,t,rfl,rfl⟩
  .rcases Cv hv with⟨j,u,rfl,rfl⟩|⟨y,u,rfl,rfl⟩
   .rw[Jjl] at h;exact wpAny_eqBool_int h
   .rw[Jjk] at h;exact SeqAt.EqAt.int_str i t y u _ _ _ _ h
  .rcases Cv hv with⟨j,u,rfl,rfl⟩|⟨y,u,rfl,rfl⟩
   .rw[Jjj] at h;exact SeqAt.EqAt.str_int x t j u _ _ _ _ h
   .rw[Jji] at h;exact wpAny_eqBool_str h
 «strs»:=λk x t v h=>by
  rcases Cv h with⟨i,u,rfl,e⟩|⟨y,u,rfl,e⟩
  .exact nomatch e
  .injection e with e1 _
   subst e1
   cases v<;>rfl
theorem Xc(prog:Program)(w:World)(i:Int)(t:Tok):(Bq prog w).is (G! i) (C! i t)=true:=Jch i t
theorem Xb(prog:Program)(w:World)(x:Str)(t:Tok):(Bq prog w).is (h! x) (.str x t)=true:=Jcg x t
inductive V where
 | E_|bl (b:Bool)|int (i:Int)|str (x:Str)|UY (b:Array UInt8)|lg (b:UInt64)|ref (a:Addr)|ty (n:String)
 deriving DecidableEq
def RelV:Y! V Value
 | .E_,u=>u=Value.none
 | .bl b,u=>u=Value.bool b
 | .int i,u=>pi
 | .str x,u=>∃t,u=Value.str x t
 | .UY b,u=>∃t,u=Value.bytes b t
 | .lg b,u=>∃t,u=Value.float b t
 | .ref a,u=>q!
 | .ty n,u=>u=Value.type n
abbrev Vals:Y! E! F!:=Paired RelV
theorem Vals.length(r:q?):xs.length=us.length:=Paired.length r
theorem Vals.get:∀{xs:E!} {us:F!} {i:Nat} {x:V},q?->IR->∃u,us[i]?=A! u/\ga
 | _,_,_,_,.nil,e=>by simp at e
 | _,_,0,_,.cons r _,e=>by simp at e;subst e;exact Ak! r
 | _,_,i+1,x,.cons _ t,e=>by obtain⟨u,h1,h2⟩:=Vals.get (i:=i) (x:=x) t (by simpa using e);exact⟨u,by simpa using h1,h2⟩
theorem Vals.append:∀{xs ys:E!} {us ws:F!},q?->Vals ys ws->Vals (xs++ys) (us++ws)
 | _,_,_,_,.nil,s=>s
 | _,_,_,_,.cons r t,s=>X! r (Vals.append t s)
theorem Vals.take:∀{xs:E!} {us:F!} (n:Nat),q?->Vals (xs.take n) (us.take n)
 | _,_,0,_=>P!
 | _,_,_+1,.nil=>P!
 | _,_,n+1,.cons r t=>X! r (Vals.take n t)
theorem Vals.drop:∀{xs:E!} {us:F!} (n:Nat),q?->Vals (xs.drop n) (us.drop n)
 | _,_,0,r=>r
 | _,_,_+1,.nil=>P!
 | _,_,n+1,.cons _ t=>Vals.drop n t
def OP:Y! (i! V) (i! Value)
 | some v,some u=>A?
 | none,none=>True
 | _,_=>False
def KV{κ:Type}:Y! g! (K! (κ×Value)):=Paired λ(p:κ×V)(q:κ×Value)=>p.1=q.1/\RelV p.2 q.2
def kV:Key->V
 | .inl i=>C! i
 | .inr x=>.str x
inductive HO where
 | BC (xs:E!)
 | AZ (xs:E!)
 | dK (kvs:Q?)|dT (kvs:ci)
 | set (S:Int->Bool) (n:Nat)
 | ins (C dx:Addr) (fs:FS)
 | own (x:Addr)
 | xd (fs:FS)
 | met (f x:Addr)
 | ko (lo hi:Int)
 | GF (o:Obj) (u:HO)
 | Z_ (ps:An!)
 | ext (φ:Heap->Prop)
abbrev Hp:=Addr->i! HO
def upd(H:Hp)(a:Addr)(o:HO):Hp:=λb=>AV! (b=a) o (H b)
theorem Ac{H:Hp}{a:Addr}{o:HO}:upd H a o a=A! o:=by unfold upd;rw[AD rfl]
theorem Ab(h:b≠a):upd H a o b=H b:=by unfold upd;rw[AB h]
theorem Sh:upd sK a u=upd H a u:=by funext b;unfold upd;split<;>rfl
theorem O2{H:Hp}{a b:Addr}{o u:HO}(h:Bf!)(h':k! H u)(d:o≠u):a≠b:=by intro e;subst e;rw[h] at h';exact d (ZO h')
theorem Aj{H:Hp}{a b:Addr}{o:HO}(h:Bf!)(h':R!):a≠b:=by intro e;subst e;rw[h] at h';cases h'
universe S
variable (P:Program)(w:World)
def DN(H:Hp)(h:Heap)(a:Addr):HO->Prop
 | .BC xs=>w?/\∃(its:F!)(n:Nat),Av!/\Y? { cls:=C? "list",data:=.seq its.toArray n }
 | .AZ xs=>w?/\∃its:F!,Av!/\IsTup h a its.toArray
 | .dK kvs=>CV! (∃vs,x!/\h.DictOf WP a vs)
 | .dT kvs=>CV! (∃xs:Cd!,
  Paired (λ(p:List Key×V)(q:List Key×Addr×Value)=>p.1=q.1/\H? q.2.1 (.AZ (p.1.map kV))/\RelV p.2 q.2.2) kvs xs /\
  ∃o es ep,Bn!/\o.ExactDict/\o.data=.dict es ep/\es.toList=xs.map (entryOfKey Dt!)/\(xs.map f?).Nodup)
 | .set S n=>h.SetOf (intKind P w) a S n
 | .ins C dx fs=>H? dx Al!/\fs.length<=1000/\dx≠a/\Y? (CU! dx) /\
  ∃mA,h.Ns1 dx mA/\(∀f,OP (fs.lookup f) (mA f))/\PySem.Within mA (fs.map f?)
 | .own _=>∃o,Bn!
 | .xd fs=>∃mA,h.Ns1 a mA/\∀f,OP (fs.lookup f) (mA f)
 | .ko lo hi=>∃t u v,Y? AB!
 | .GF o u=>Bn!/\DN H h a u
 | .Z_ ps=>Y? { cls:=U?,data:=.fields ps }
 | .met f x=>Y? (W.methodObj X? (S! x))
 | .ext φ=>φ h/\(∃o,Bn!)/\∀h1 h2:Heap,φ h1->(∀o,Ac! h1.get?->Ac! h2.get?)->φ h2
def LN(H:Hp)(h:Heap):Prop:=∀a o,Bf!->AS! o
universe E
universe S
variable {P:Program}{w:World}{H H':Hp}{h h':Heap}{a:Addr}{o:HO}
theorem DN.lt(x:AS! o):a<h.objs.size:=by cases o with | BC xs=>obtain⟨_,_,_,_,e⟩:=x;exact AR e | AZ xs=>obtain⟨_,_,_,p⟩:=x;exact p.lt | dK kvs=>obtain⟨_,_,_,_,o,_,_,e,_⟩:=x;exact AR e | dT kvs=>obtain⟨_,_,_,_,o,_,_,e,_⟩:=x;exact AR e | set S n=>obtain⟨o,_,_,_,e,_⟩:=x;exact AR e | ins C dx fs=>obtain⟨_,_,_,e,_⟩:=x;exact AR e | own y=>obtain⟨_,e⟩:=x;exact AR e | xd fs=>obtain⟨_,⟨_,_,_,e,_⟩,_⟩:=x;exact AR e | ko lo hi=>obtain⟨_,_,_,e⟩:=x;exact AR e | GF ob u=>obtain⟨e,_⟩:=x;exact AR e | Z_ ps=>exact AR (show Y? _ from x) | met f y=>exact AR (show Y? _ from x) | ext φ=>obtain⟨_,⟨_,e⟩,_⟩:=x;exact AR e
theorem qU:∀{RE:O!} {l₂:K! β},Paired F RE l₂->(∀a b,F a b->G a b)->Paired G RE l₂
 | _,_,.nil,_=>P!
 | _,_,.cons r t,f=>X! (f _ _ r) (qU t f)
theorem DN.PN(x:AS! o)(k:Cq! (b=a\/k! H Al!) h.get?)(ho:∀b,KM Al! Al!)(ht:∀b xs,KM J? J?):DN P w H' h' a o:=by induction o with | BC xs=>obtain⟨z,its,n,r,e⟩:=x;exact⟨z,its,n,r,K?⟩ | AZ xs=>obtain⟨z,its,r,ob,e,c⟩:=x;exact⟨z,its,r,ob,K?,c⟩ | dK kvs=>obtain⟨z,y,vs,r,ob,es,ep,e,c⟩:=x;exact⟨z,y,vs,r,ob,es,ep,K?,c⟩ | dT kvs =>obtain⟨z,y,xs,r,ob,es,ep,e,c⟩:=x;exact⟨z,y,xs,qU r λp q z=>⟨z.1,ht _ _ z.2.1,z.2.2⟩,ob,es,ep,K?,c⟩ | set S n=>obtain⟨ob,es,ep,t,e,c⟩:=x;exact⟨ob,es,ep,t,K?,c⟩ | ins C dx fs =>obtain⟨d,z,ne,e,mA,⟨od,es,ep,e2,c⟩,r⟩:=x;exact⟨ho _ d,z,ne,K?,mA,⟨od,es,ep,k _ _ (h! d) e2,c⟩,r⟩ | own y=>obtain⟨ob,e⟩:=x;exact⟨ob,K?⟩ | xd fs=>obtain⟨mA,⟨od,es,ep,e,c⟩,r⟩:=x;exact⟨mA,⟨od,es,ep,K?,c⟩,r⟩ | ko lo hi=>obtain⟨t,u,v,e⟩:=x;exact⟨t,u,v,K?⟩ | GF ob u ih=>obtain⟨e,q⟩:=x;exact⟨K?,ih q⟩ | Z_ ps =>have e:Y? { cls:=U?,data:=.fields ps }:=x;show Ab! { cls:=U?,data:=.fields ps };exact k a _ TD e | met f y =>have e:Y? (W.methodObj X? (S! y)):=x;show Ab! (W.methodObj X? (S! y));exact k a _ TD e | ext φ=>obtain⟨p,⟨o,e⟩,st⟩:=x;exact⟨st _ _ p λo q=>k _ _ TD q,⟨o,K?⟩,st⟩
theorem LN.lt(x:w!)(e:Bf!):a<h.objs.size:=(x a o e).lt
theorem LN.fresh(x:w!)(e:h.objs.size<=a):H a=none:=by cases q:H a with | none=>rfl | some u=>exact BD! (x.lt q) e
theorem LN.kept(x:w!)(k:CN!):LN P w H h':=λa o e =>(x a o e).PN (λb u _ q=>k b u q) (λ_ q=>q) AD!
theorem LN.laid(x:w!)(k:CN!)(hp:h.objs.size<=a)(new:DN P w sK h' a o):LN P w sK h':=λb u e=>by have hn:=x.fresh hp;by_cases hb:b=a;(.subst hb;rw[Ac] at e;cases e;exact new);.rw[Ab hb] at e;exact(x b u e).PN (λc v _ q=>k c v q) (λc q=>By!) λc xs q=>By!
universe E
def Rd(H:Hp)(a:Addr)(u:HO):Prop:=AI! u\/∃o,AI! A8!
theorem Rd.ok(r:Db u)(x:w!):AS! u:=by
 rcases r with r|⟨o,r⟩;.exact x a u r
 .obtain⟨_,q⟩:=x a _ r;exact q
def iY:i! HO->Prop
 | some (.BC _)=>True
 | some (.dK _)=>True
 | some (.dT _)=>True
 | some (.set _ _)=>True
 | some (.ins _ _ _)=>True
 | some (.ext _)=>True
 | _=>False
universe S
variable {P:Program}{w:World}{H:Hp}{h h':Heap}{x e:Addr}{o':HO}
theorem LN.write(ok:w!)(mu:iY (H x))(he:e=x\/H? e sB)(k:Cq! (b≠e) h.get?)(fj:∃u,Aa! e u)(new:DN P w (upd H x o') h' x o'):LN P w (upd H x o') h':=λb u q=>by (have i8:∀c y,H? c (.own y)->c≠x:=λc y r z=>DD! r mu);(have rT:∀c xs,H? c J?->c≠x:=λc xs r z=>DD! r mu);by_cases hb:b=x;(.subst hb;rw[Ac] at q;cases q;exact new);.rw[Ab hb] at q;by_cases cX:b=e;(·(have q':k! H sB:=by rcases he with z|z;(.exact absurd (cX.trans z) hb);.rw[cX];exact z);rw[q] at q';cases q';obtain⟨v,hv⟩:=fj;exact⟨v,D? cX hv⟩);·(refine(ok b u q).PN (λc v hc r=>k c v ?_ r) (λc r=>D? (Ab (i8 c b r)) r) λc xs r=>D? (Ab (rT c xs r)) r);rcases hc with rfl|hc;(.exact cX);.rintro rfl;rcases he with z|z;(.exact i8 c b hc z);.rw[hc] at z;cases z;exact hb rfl
universe E
structure Un(fs ex:G?)(H H':Hp)(h h':Heap):Prop where
 keep:∀b o,S?->R!->b∉fs->b∉ex->Bc!
 slot:∀b o,S?->R!->b∈fs->b∉ex->∃sl,BX! { o with slots:=sl }
 free:∀b o,S?->R!->b∉ex->Go
 there:∀b o,S?->b∉ex->∃o',BX! o'
 OK:∀b xs,KM J? J?
 MW:∀b o u,KM A8! A8!
 OL:∀b ps,k! H (.Z_ ps)->∃more,k! H' (.Z_ (ps++more))
universe S
variable {fs ZY ex ex':List Addr}{H H1 H2:Hp}{h h1 h2 h':Heap}{a x e:Addr}{o:HO}
theorem Un.any(u:BE! H1 h1)(q:k! h.get? ob)(n:R!)(hx:b∉ex):∃sl,k! h1.get? { ob with slots:=sl }:=by
 by_cases hb:b∈fs;.exact u.slot b ob q n hb hx
 .exact⟨ob.slots,u.keep b ob q n hb hx⟩
theorem Un.kept(k:CN!):BE! H h' :=⟨λb ob q _ _ _=>k b ob q,λb ob q _ _ _=>BL! ob.slots ob,λ_ _ _ n _=>n,λb ob q _=>BL! ob ob,AD!,λ_ _ _ q=>q,λ_ ps q=>⟨#[],AE! q⟩⟩
theorem Un.refl:BE! H h:=Un.kept AD!
theorem Un.laid(k:CN!)(hp:h.objs.size<=a)(hn:H a=none):BE! sK h' where
 keep:=λb u q _ _ _=>k b u q
 slot:=λb u q _ _ _=>BL! u.slots u
 free:=λb u q n _=>D? (Ab (BH (BQ (AR q) hp))) n
 there:=λb u q _=>BL! u u
 OK:=λb xs q=>By!
 MW:=λb u xs q=>By!
 OL:=λb ps q=>⟨#[],by rw[Ab (Aj q hn),q];simp⟩
theorem Un.write(mu:iY (H x))(he:e=x\/H? e sB)(k:Cq! (b≠e) h.get?)(fj:∃u,Aa! e u):BE! (upd H x o) h':=by
 have hx:∀b,R!->b≠x:=λb n z=>DD! n mu
 have hb:∀b,R!->b≠e:=λb n z=>by subst z;rcases he with r|r;(.exact hx b n r);.rw[n] at r;cases r
 have hm:∀b u,k! H u->¬iY (some u)->b≠x:=λb u q nm z=>DD! q (nm mu)
 refine⟨λb u q n _ _=>k b u (hb b n) q,λb u q n _ _=>⟨u.slots,k b u (hb b n) q⟩,λb u q n _=>D? (Ab (hx b n)) n,λb u q _=>?_,λb xs q=>WF (Ab (hm b _ q λz=>z)),λb u xs q=>WF (Ab (hm b _ q λz=>z)),λb ps q=>⟨#[],by rw[Ab (hm b _ q λz=>z),q];simp⟩⟩;by_cases cX:b=e;.subst cX;exact fj
 .exact⟨u,k b u cX q⟩
universe E
def kX(h:Heap)(H:Hp):G?:=(List.range h.objs.size).filter λa=>(H a).isSome
def Vc(h:Heap)(H:Hp):Heap:=W.hideAll h (kX h H)
theorem Jcm(h:Heap)(H:Hp):(Vc h H).objs.size=h.objs.size:=W.hideAll_size _ _
theorem Je8(e:S?)(n:R!):AC (Vc h H).get? :=W.hideAll_get _ e λhm=>by have q:(H b).isSome=true:=(AE.mp hm).2;rw[n] at q;simp at q
theorem Jg8(e:AC (Vc h H).get?):S?/\R!:=by have e':S?:=W.of_hideAll (kX h H) e;refine l? e';cases q:H b with | none=>rfl | some x =>have hm:b∈kX h H:=AE.mpr ⟨BR.mpr (AR e'),by simp[q]⟩;have z:(Vc h H).get? b=none:=KU (kX h H) hm;rw[z] at e;cases e
def Jh0(g h:Heap)(L:Addr):D!:=(List.range h.objs.size).filterMap λa=>if a=L\/(g.get? a).isSome=true then none else(h.get? a).map λo=>(a,o)
def rest(g h:Heap)(L d:Addr):D!:=(Jh0 g h L).filter λp=>N! (p.1≠d)
structure Mod(K:W.Frag)(mg:V!)(base:Heap):Prop where
 WH:K.In base
 glob:base.Ns mainGlobals mg
 blt:∃mb,base.Ns builtinsNs mb/\∀x:Str,BM!->mb x=bootBuiltins x
 nolimit:base.NoLimit
structure Cx where
 prog:Program
 w:World
 K:W.Frag
 mg:V!
 base:Heap
 A:Around
 N:j!
 HU:Shared
 PV:Hp
 env:Env
 outer:v!
 stack:v!
 ex:G?
 fn:Str->Bool
 calm:Bool
 pn:D!
 xe:H!
def LM(l:v!):G?:=l.filterMap (·.frame)
abbrev Cx.fs(X:Cx):G?:=LM X.outer
def qQ(sc:Scope)(x:Str):Prop:=Ad! x?\/Ad! y!\/M! sc.names.lookup .free
def Loc(sc:Scope)(x:Str):Prop:=Ad! x?\/M! sc.names.lookup y!
def Look(env:Env)(h:Heap)(m:V!)(x:Str)(u:Value):Prop :=
 (M! env.kindOf x?/\M! m u)\/((M! env.kindOf y!\/M! env.kindOf .free)/\∃c,M! env.cells.lookup c/\h.IsCell c (some u))
structure Cx.Ok(X:Cx):Prop where
 mod:Mod X.K X.mg X.base
 kind:X.env.scope.kind=.function
 glob:X.env.globals=mainGlobals
 blt:X.env.builtins=builtinsNs
 above:X.HU.heap.objs.size<=X.env.locals
 inj:∀x y c,Dj!->X.env.cells.lookup y=A! c->x=y
 has:∀x,(M! X.env.kindOf y!\/M! X.env.kindOf .free)->∃c,Dj!
 aY:∀x c,X.fn x=true->Dj!->X.HU.heap.objs.size<=c
 hd:AF!->X.A.handled=none
 frames:X.A.frames=A! X.stack
 bE:X.stack=X.outer\/(X.stack=X.env::X.outer/\X.env.frame=A! X.env.locals)
 VS:∀b∈X.ex,DF!/\Ap!
 bs:CF! (AC X.HU.heap.get?/\X.PV b=none)
 VU:X.base.objs.size<=X.HU.heap.objs.size
 RD:CF! (b∉X.ex)
 QS:∀b∈X.ex,b∉X.fs
 LU:X.HU.heap.FunFrames X.base X.outer
 XB:∀b∈X.fs,X.PV b=none
structure Inv(X:Cx)(AA:D!)(σ:K! (Option V))(H:Hp)(s:Shared):Prop where
 ok:X.Ok
 os:s.os=X.HU.os
 bare:XV s.gens
 base:Un X.fs X.ex X.PV H X.HU.heap s.heap
 loc:∃m,s.heap.Ns X.env.locals m/\∀(i:Nat)(x:Str)(v:V),o0->σ[i]?=A! b?->qQ X.env.scope x->∃u,A?/\Look X.env s.heap m x u
 cell:AO! (∃v,s.heap.IsCell c v)
 free:I? X.env.locals
 IK:AO! (I? c)
 pin:∀p∈X.pn++AA,BV! p.1 p.2/\I? p.1/\p.1≠X.env.locals/\p.1∉X.fs/\∀v,p.2.data≠y! v
 DC:LN X.prog X.w H s.heap
 len:σ.length=X.N.length
universe S
variable {X:Cx}{AA:List (Addr×Obj)}{σ:List (Option V)}{H H':Hp}{s:Shared}{h':Heap}
theorem Cx.Ok.rV(ok:X.Ok){b:Addr}{o:Obj}(e:AC X.base.get?):b∉X.fs:=λhb=>by have:=(ok.LU.mem hb).1;rw[e] at this;cases this
theorem Inv.bs(I:B!):CF! (a?/\R!):=λb o e =>⟨I.base.keep b o (AW! I.ok.bs) (I.ok.bs b o e).2 (I.ok.rV e) (I.ok.RD b o e),I.base.free b o (AW! I.ok.bs) (I.ok.bs b o e).2 (I.ok.RD b o e)⟩
theorem Inv.bk(I:B!):CF! a?:=λb o e=>AW! I.bs
theorem Inv.mod(I:B!):Mod X.K X.mg X.base:=I.ok.mod
theorem Inv.RW(I:B!):X.K.In s.heap:=I.ok.mod.WH.keeps I.bk
theorem Inv.lt(I:B!):X.env.locals<s.heap.objs.size:=let⟨_,hn,_⟩:=I.loc;hn.lt
theorem Inv.sz(I:B!):X.HU.heap.objs.size<=s.heap.objs.size:=BA I.ok.above (EF I.lt)
theorem Inv.rU(I:B!)(h:s.heap.objs.size<=a):a∉X.fs:=λhb=>by obtain⟨_,o,ho,_⟩:=I.ok.LU.mem hb;exact BD! (AR ho) (BA I.sz h)
theorem Inv.ck(I:B!):AO! (c≠X.env.locals):=λx c e z=>by obtain⟨v,o,ho,hd⟩:=CY!;obtain⟨m,⟨o',es,ep,aM,RY,_⟩,_⟩:=I.loc;rw[z,aM] at ho;cases ho;rw[RY] at hd;cases hd
theorem Inv.LU(I:B!):s.heap.FunFrames X.base X.outer:=by
 have all:∀(l:v!),(∀b∈LM l,b∈X.fs)->X.HU.heap.FunFrames X.base l->s.heap.FunFrames X.base l:=by intro l;induction l with | nil=>intro _ _;trivial | cons env r ih =>intro hs hl;obtain⟨hk,⟨L,o,hf,hn,ho,hd⟩,hr⟩:=hl;have hL:L∈X.fs:=hs L (by unfold LM;rw[GQ,hf];exact ZL);obtain⟨sl,e⟩:=I.base.slot L o ho (I.ok.XB L hL) hL λz=>I.ok.QS L z hL;exact⟨hk,⟨L,_,hf,hn,e,hd⟩,ih (λb hb=>hs b (by unfold LM;rw[GQ,hf];exact ZD _ hb)) hr⟩
 exact all X.outer (λ_ hb=>hb) I.ok.LU
theorem Inv.stack(I:B!):s.heap.FunFrames X.base X.stack:=by
 rcases I.ok.bE with e|⟨e,hf⟩;.rw[e];exact I.LU
 .rw[e];obtain⟨m,hn,_⟩:=I.loc;refine X! (by rw[I.ok.kind];decide) hf hn ?_ I.LU;exact Heap.get?_none_of_le (BA I.ok.VU I.ok.above)
theorem Inv.PY(I:B!):∀b∈LM X.stack,b∈X.env.locals::X.fs:=λb hb=>by rcases I.ok.bE with e|⟨e,hf⟩;(.rw[e] at hb;exact ZD _ hb);.rw[e] at hb;unfold LM at hb;rw[GQ,hf] at hb;exact hb
theorem Inv.OZ(I:B!):∀b∈LM X.stack,R!:=λb hb=>by rcases ZM (I.PY b hb) with e|hb;(.rw[e];exact I.free);.obtain⟨_,o,ho,_⟩:=I.ok.LU.mem hb;exact I.base.free b o ho (I.ok.XB b hb) λz=>I.ok.QS b z hb
theorem Inv.step{g':Array GenState}{t':Nat}{d':Drawn}{ch:G?}(I:B!)(ZX:∀b∈ch,Bm! Cp! (Ap!) CG!)(keep:∀b o,DF!->b∉X.fs->b∉ch->a?->R!->Bc!)(slot:∀b o,DF!->b∈X.fs->b∉ch->a?->R!->∃sl,BX! { o with slots:=sl })(free:∀b o,b∉ch->a?->R!->Go)(there:∀b o,b∉ch->a?->∃o',BX! o')(OK:∀b xs,KM J? J?)(MW:∀b o u,KM A8! A8!)(OL:∀b ps,k! H (.Z_ ps)->∃more,k! H' (.Z_ (ps++more)))(ns:∀m,s.heap.Ns X.env.locals m->h'.Ns X.env.locals m)(DC:Cr! h')(hg:XV g') : AN! { s with heap:=h',gens:=g',drawn:=d',toks:=t' }:=by
 have uc:∀b o,AC X.HU.heap.get?->DF!:=λb o e=>BH (BQ (AR e) I.ok.above);have lD:∀b o,AC X.HU.heap.get?->b∉X.ex->b∉ch:=λb o e hx hb=>by rcases(ZX b hb).1 with z|z;(.exact hx z);.exact BD! (AR e) z
 have cellK:AO! (∀v,s.heap.IsCell c v->h'.IsCell c v):=λx c e v ⟨o,ho,hd⟩=>by have gr:c∉ch:=λz=>(ZX c z).2.2.1 x c e rfl;by_cases hc:c∈X.fs;(.obtain⟨sl,q⟩:=slot c o (I.ck x c e) hc gr ho (I.IK x c e);exact⟨_,q,hd⟩);.exact⟨o,keep c o (I.ck x c e) hc gr ho (I.IK x c e),hd⟩
 refine⟨I.ok,I.os,hg,⟨ap,ap,λb o e n hx=>?_,λb o e hx=>?_,λb xs e=>OK b xs (I.base.OK b xs e),λb o xs e=>MW b o xs (I.base.MW b o xs e),λb ps e=>?_⟩,?_,λx c e=>?_,?_,λx c e=>?_,λp hp=>?_,DC,I.len⟩;.exact keep b o (uc b o e) hb C3! (v6 I.base.keep) (I.base.free b o e n hx)
 .obtain⟨sl,e1⟩:=v6 I.base.slot;obtain⟨sl',e2⟩:=slot b _ (uc b o e) hb C3! e1 (I.base.free b o e n hx);exact⟨sl',e2⟩
 .obtain⟨o',e1⟩:=Cm!;exact free b o' C3! e1 (I.base.free b o e n hx)
 .obtain⟨o',e1⟩:=Cm!;exact there b o' C3! e1
 .obtain⟨m1,e1⟩:=I.base.OL b ps e;obtain⟨m2,e2⟩:=OL b _ e1;exact⟨m1++m2,by rw[e2,Array.append_assoc]⟩
 .obtain⟨m,hn,hl⟩:=I.loc;refine⟨m,ns m hn,λi x v e1 e2 e3=>?_⟩;obtain⟨u,r,l⟩:=hl i x v e1 e2 e3;refine P? u r;rcases l with l|⟨k,c,e,z⟩;(.exact G! l);.exact c? k c e (cellK x c e _ z)
 .obtain⟨v,z⟩:=CY!;exact⟨v,cellK x c e v z⟩
 .obtain⟨m,⟨o,_,_,ho,_⟩,_⟩:=I.loc;exact free _ o (λz=>(ZX _ z).2.1 rfl) ho I.free
 .obtain⟨v,o,ho,hd⟩:=CY!;exact free c o (λz=>(ZX c z).2.2.1 x c e rfl) ho (I.IK x c e)
 .obtain⟨e,n,ne,nf,d⟩:=I.pin p hp;have gr:p.1∉ch:=λz=>(ZX p.1 z).2.2.2 p hp rfl;exact⟨keep p.1 p.2 ne nf gr e n,free p.1 p.2 gr e n,ne,nf,d⟩
theorem Inv.un(I:B!)(u:Ck! X.fs [] h')(DC:Cr! h'):AN! SZ:=by obtain⟨m,⟨o,es,ep,ho,r⟩,_⟩:=id I.loc;obtain⟨sl,hL⟩:=u.any ho I.free l!;exact I.step (g':=s.gens) (d':=s.drawn) (ch:=[]) (λ_ z=>nomatch z) (λb o _ hb _ e n=>u.keep b o e n hb l!) (λb o _ hb _ e n=>u.slot b o e n hb l!) (λb o _ e n=>u.free b o e n l!) (λb o _ e=>u.there b o e l!) u.OK u.MW u.OL (λm' hm=>by obtain⟨o',cY,cZ,aM,r'⟩:=hm;rw[ho] at aM;cases aM;exact⟨_,cY,cZ,hL,r'⟩) DC I.bare
theorem Inv.call(I:B!)(u:Ck! (LM X.stack) ch h')(DC:Cr! h')(hg:XV g')(ZX:∀b∈ch,Bm! Cp! (Ap!) CG!) : AN! { s with heap:=h',gens:=g',drawn:=d',toks:=t' }:=by obtain⟨m,⟨o,es,ep,ho,r⟩,_⟩:=id I.loc;obtain⟨sl,hL⟩:=u.any ho I.free λz=>(ZX _ z).2.1 rfl;exact I.step (ch:=ch) ZX (λb o hL hb hc e n=>u.keep b o e n (λz=>(ZM (I.PY b z)).elim hL hb) hc) (λb o _ _ hc e n=>u.any e n hc) (λb o hc e n=>u.free b o e n hc) (λb o hc e=>u.there b o e hc) u.OK u.MW u.OL (λm' hm=>by obtain⟨o',cY,cZ,aM,r'⟩:=hm;rw[ho] at aM;cases aM;exact⟨_,cY,cZ,hL,r'⟩) DC hg
theorem Inv.turned{t':Nat}{it:Addr}(I:B!)(k:∀b o,b≠it->a?->Bc!)(hn:I? it)(hL:it≠X.env.locals)(h1:it∈X.ex\/X.HU.heap.objs.size<=it)(h2:AO! (c≠it))(h3:∀p∈X.pn++AA,p.1≠it):W? SZ:=by
 have ub:∀b u,k! H u->b≠it:=λb u e z=>by rw[z,hn] at e;cases e
 refine I.step (g':=s.gens) (d':=s.drawn) (ch:=[it]) (AX!) (λb o _ _ hc e _=>k b o (λz=>hc (by simp[z])) e) (λb o _ _ hc e _=>⟨o.slots,k b o (λz=>hc (by simp[z])) e⟩) (λ_ _ _ _ n=>n) (λb o hc e=>⟨o,k b o (λz=>hc (by simp[z])) e⟩) (λ_ _ e=>e) (λ_ _ _ e=>e) (λb ps e=>⟨#[],AE! e⟩) (λm hm=>?_) (λb u e=>?_) I.bare;·(have e:b=it:=g?);subst e;exact⟨h1,hL,h2,h3⟩
 .obtain⟨o,es,ep,ho,r⟩:=hm;exact⟨o,es,ep,k _ o (Ne.symm hL) ho,r⟩
 .refine(I.DC b u e).PN (λc v hc q=>k c v ?_ q) (λ_ q=>q) AD!;rcases hc with z|z;(.rw[z];exact ub b u e);.exact ub c _ z
theorem Inv.tok(I:B!)(t:Nat):W? { s with toks:=t }:=I.un (h':=s.heap) (t':=t) Un.refl I.DC
theorem Inv.kept(I:B!)(k:Dz! s.heap.get?):W? SZ:=I.un (Un.kept k) (I.DC.kept k)
theorem Inv.laid{a:Addr}{o:HO}{t':Nat}(I:B!)(k:Dz! s.heap.get?)(hp:s.heap.objs.size<=a)(new:DN X.prog X.w sK h' a o) : V? sK SZ:=I.un (Un.laid k hp (I.DC.fresh hp)) (I.DC.laid k hp new)
theorem Inv.write{x e:Addr}{o:HO}{t':Nat}(I:B!)(mu:iY (H x))(he:e=x\/H? e sB)(k:Cq! (b≠e) s.heap.get?)(fj:∃u,Aa! e u)(new:DN X.prog X.w (upd H x o) h' x o):V? (upd H x o) SZ:=I.un (Un.write mu he k fj) (I.DC.write mu he k fj new)
theorem Inv.VJ(I:B!)(h:∀p∈SN,BV! p.1 p.2/\I? p.1/\p.1≠X.env.locals/\p.1∉X.fs/\∀v,p.2.data≠y! v):Inv X SN σ H s :=BG! I.ok I.base I.loc I.cell (λp hp=>(ZI hp).elim (λz=>I.pin p (ZB _ z)) (h p)) I.DC I.len
theorem Wv{N:j!}(hN:N.Nodup){i j:Nat}{x:Str}(a:N[i]?=A! x)(b:N[j]?=A! x):i=j:=by obtain⟨h1,e1⟩:=ZJ a;obtain⟨h2,e2⟩:=ZJ b;exact(DZ hN).mp (e1.trans e2.symm)
theorem Md{M:Model}{A:Around}{E:H!}{i:Nat}{x:Str}{v:V}{u:Value}{Q:Ae!}(I:B!)(hN:X.N.Nodup)(hi:o0)(hx:CK!)(r:A?)(h:∀s',DQ! (σ.set i b?) H->(∃a,Heap.SameBut a s.heap s'.heap/\(a=X.env.locals\/M! X.env.cells.lookup a))->Q () s')(hf:C0!:=by first|exact Ah!|exact h! rfl|assumption):A1! (storeName X.env x u):=by
 obtain⟨m,hn,hl⟩:=id I.loc;have XY:M? (X.env.scope.kind == .class || (X.env.scope.kind == .module&&X.env.locals != X.env.globals)):=by rw[I.ok.kind];rfl
 have jA:i<σ.length:=by rw[I.len];exact(ZJ hi).1
 have ck:=I.ck;have tracked:∀{a:Addr} {h':Heap},(∃o,Ac! s.heap.get?/\H a=none)->Heap.SameBut a s.heap h'->LN X.prog X.w H h':=λ{a h'} ha hs b ob e=>by obtain⟨_,_,MK⟩:=ha;refine(I.DC b ob e).PN (λc w' hc q=>(hs.2 c ?_).trans q) (λ_ q=>q) AD!;rintro rfl;rcases hc with rfl|hc;(.rw[MK] at e;cases e);.rw[MK] at hc;cases hc
 rcases hx with hk|hk;.refine wpAny_storeName_local hk hn (λh' hn' hs=>?_) XY;obtain⟨oL,_,_,hoL,_⟩:=id hn;refine h _ (BG! I.ok ⟨ap,ap,I.base.free,λb o e hx=>?_,I.base.OK,I.base.MW,I.base.OL⟩ ⟨_,hn',λj y v' e1 e2 e3=>?_⟩ (λy c e=>?_) (λp hp=>?_) (tracked ⟨oL,hoL,I.free⟩ hs) (by simpa using I.len)) ⟨_,hs,Ah!⟩;(.exact(hs.2 b (BH (BQ (AR e) I.ok.above))).trans (v6 I.base.keep));(.obtain⟨sl,e1⟩:=v6 I.base.slot;exact Cu! sl I.ok.above);(.obtain⟨o',e1⟩:=Cm!;exact Cu! o' I.ok.above);(.by_cases hj:j=i;(.subst hj;rw[hi] at e1;cases e1;rw[List.getElem?_set_self jA] at e2;cases e2;exact⟨u,r,G! ⟨hk,L?⟩⟩);.rw[List.getElem?_set_ne (Ne.symm hj)] at e2;obtain⟨u',r',q⟩:=hl j y v' e1 e2 e3;refine P? u' r';rcases q with⟨k,e⟩|⟨k,c,e,z⟩;(.refine G! (l? k);have:y≠x:=λe=>hj (Wv hN e1 (e▸hi));simp[this,e]);.exact c? k c e (z.sameBut hs (ck y c e)));(.obtain⟨w',z⟩:=I.cell y c e;exact⟨w',z.sameBut hs (ck y c e)⟩);.obtain⟨e,n,ne,nf,d⟩:=I.pin p hp;exact⟨(hs.2 p.1 ne).trans e,n,ne,nf,d⟩
 ·(have pE:X.fn x=true:=by rcases hf with z|z;(.exact z);.rw[z] at hk;cases hk);obtain⟨c,hc⟩:=I.ok.has x (G! hk);obtain⟨w',z⟩:=I.cell x c hc;refine wpAny_storeName_cell I.ok.kind hk hc z (λh' pK hs=>?_);obtain⟨oc,ZQ,sE⟩:=id z;refine h Sc (BG! I.ok ⟨ap,ap,I.base.free,λb o e hx=>?_,I.base.OK,I.base.MW,I.base.OL⟩ ⟨m,hn.sameBut hs (Ne.symm (ck x c hc)),λj y v' e1 e2 e3=>?_⟩ (λy c' e=>?_) (λp hp=>?_) (tracked ⟨oc,ZQ,I.IK x c hc⟩ hs) (by simpa using I.len)) ⟨c,hs,h! hc⟩;(.exact(hs.2 b (BH (BQ (AR e) (I.ok.aY x c pE hc)))).trans (v6 I.base.keep));(.obtain⟨sl,e1⟩:=v6 I.base.slot;exact Cu! sl (I.ok.aY x c pE hc));(.obtain⟨o',e1⟩:=Cm!;exact Cu! o' (I.ok.aY x c pE hc));(.by_cases hj:j=i;(.subst hj;rw[hi] at e1;cases e1;rw[List.getElem?_set_self jA] at e2;cases e2;exact⟨u,r,c? (G! hk) c hc pK⟩);.rw[List.getElem?_set_ne (Ne.symm hj)] at e2;obtain⟨u',r',q⟩:=hl j y v' e1 e2 e3;refine P? u' r';rcases q with q|⟨k,c',e,z'⟩;(.exact G! q);.refine c? k c' e (z'.sameBut hs ?_);rintro rfl;exact hj (Wv hN e1 (I.ok.inj _ _ _ e hc▸hi)));(.by_cases ve:c'=c;(.subst ve;exact⟨_,pK⟩);.obtain⟨w2,z2⟩:=I.cell y c' e;exact⟨w2,z2.sameBut hs ve⟩);.obtain⟨e,n,ne,nf,d⟩:=I.pin p hp;refine⟨(hs.2 p.1 ?_).trans e,n,ne,nf,d⟩;intro q;rw[q,ZQ] at e;have q':oc=p.2:=ZO e;exact d w' (z? q' sE)
theorem Vx{M:Model}{A:Around}{E:H!}{i:Nat}{x:Str}{v:V}{u:Value}{Q:Ae!}(I:B!)(hN:X.N.Nodup)(hi:o0)(hx:CK!)(r:A?)(h:∀s',DQ! (σ.set i b?) H->Q () s')(hf:C0!:=by first|exact Ah!|exact h! rfl|assumption):A1! (storeName X.env x u) :=Md I hN hi hx r (λs' I' _=>h s' I') hf
theorem Inv.VF{s':Shared}{ch:G?}(I:B!)(ho:s'.os=s.os)(u:Ck! (LM X.stack) ch s'.heap)(DC:Cr! s'.heap)(hg:XV s'.gens)(ZX:∀b∈ch,Bm! Cp! (Ap!) CG!):KB:=by obtain⟨h',g',d',t',o'⟩:=s';have e:o'=s.os:=ho;subst e;exact I.call (g':=g') (t':=t') (d':=d') u DC hg ZX
universe E
abbrev XK:=Value->Z! (i! Addr)
abbrev St:=K! (Option V)
abbrev VK:=Z! V
abbrev TE:=St->Ch
abbrev TT:=CR! o?
abbrev TA:=CR! (Z! E!)
structure Ends where
 nx:z!
 rt:VK
 bk:z!:=λ_ _=>False
 ct:z!:=λ_ _=>False
abbrev TS:=Ends->z!
inductive EP(X:Cx)(AA:D!)(σ:St)(Q:VK)(u:Value)(s':Shared):Prop
 | mk v H' (_:KB) (_:A?) (_:Q v H')
inductive TP(X:Cx)(AA:D!)(σ:St)(Q:o?)(b:Bool)(s':Shared):Prop
 | mk H' (_:KB) (_:Q b H')
inductive AP(X:Cx)(AA:D!)(σ:St)(Q:Z! E!)(us:F!)(s':Shared):Prop
 | mk vs H' (_:KB) (_:lc) (_:Q vs H')
def SP(X:Cx)(AA:D!)(D:Ends)(f:Flow)(s':Shared):Prop :=
 match f with
 | .next=>be (D.nx ER H')
 | .brk=>be (D.bk ER H')
 | .cont=>be (D.ct ER H')
 | .ret u=>∃v ER H',DQ! ER H'/\A?/\D.rt v H'
def PE(X:Cx)(e:Expr)(t:TE):Prop :=
 ∀(AA:D!)(s:Shared)(σ:St)(H:Hp)(Q:VK),Bq! (AQ! (O? e))
def PT(X:Cx)(e:Expr)(t:TT):Prop :=
 ∀(AA:D!)(s:Shared)(σ:St)(H:Hp)(Q:o?),Bq! (DN! (isTrue e X.env (O? e)) TP)
def PW(X:Cx)(e:Expr)(t:TT):Prop :=
 ∀(whole:Sem Value)(AA:D!)(s:Shared)(σ:St)(H:Hp)(Q:o?),Bq! (DN! (isTrue e X.env whole) TP)
theorem ZZ(h:PW X e t):PT X e t:=h _
def PA(X:Cx)(es:ca)(t:TA):Prop :=
 ∀(pos:Pos)(AA:D!)(s:Shared)(σ:St)(H:Hp)(Q:Z! E!),Bq! (DN! (spliced (backTo pos (Bb! es))) AP)
def PS(X:Cx)(st:Stmt)(t:TS):Prop :=
 ∀(AA:D!)(s:Shared)(σ:St)(H:Hp)(D:Ends),h? (t D σ H) (Dh! (exec st X.env) (SP X AA D))
def OY(X:Cx)(st:K! Stmt)(t:TS):Prop :=
 ∀(AA:D!)(s:Shared)(σ:St)(H:Hp)(D:Ends),h? (t D σ H) (Dh! (execs st X.env) (SP X AA D))
theorem DX(h:A1! t)(hQ:∀a s,Q a s->Q' a s):wpAny M A t Q' E s:=EC h hQ DH!
universe S
variable {X:Cx}
theorem bin{a b:Expr}{ta tb:TE}(ha:T?)(hb:e?){AA:D!}{s:Shared}{σ:St}{H:Hp}{R:V->Z! V}(I:B!)(h:db ta (Bv! (R x y H2))){α:Type}{Q:Y! α Shared}{f:Value->Value->Sem α}(hf:∀v u s2 x y H2,V? H2 s2->RelV x v->U!->R x y H2->Cj! s2) : B8! a (λv EA=>Bz! (O? b) (λu QQ=>Cj! QQ) EA):=by refine Bo! ha;rintro v s1 ⟨x,H1,I1,r1,q1⟩;refine Bp! hb;rintro u s2 ⟨y,H2,I2,r2,q2⟩;exact hf v u s2 x y H2 I2 r1 r2 q2
inductive Jll(i:Nat)(σ:St)(H:Hp)(Q:VK):Prop
 | mk (v) (e0:σ[i]?=A! b?) (e1:Q v H)
def Bx(i:Nat):TE:=λσ H Q=>Jll i σ H Q
def tC(v:V):TE:=λ_ H Q=>Q v H
theorem Ji2(hN:o0)(hv:qQ X.env.scope x)(hd:t?:=by decide)(VQ:M? (x==("__classdict__":Str)):=by decide):L! B4! (Bx i):=by
 intro AA s σ H Q I h;obtain⟨v,e,h⟩:=h;obtain⟨m,hn,hl⟩:=I.loc;obtain⟨u,r,l⟩:=hl i x v hN e hv;have fin:CE! u:=⟨v,H,I,r,h⟩;rcases l with⟨hk,hm⟩|⟨hk,c,hc,KZ⟩;.exact wpAny_Name (wpAny_loadName_local I.ok.kind hk hn hm fin) hd
 .rcases hk with hk|hk;(.exact wpAny_Name (wpAny_loadName_cell I.ok.kind hk hc KZ fin) hd);.exact wpAny_Name (wpAny_loadName_free I.ok.kind hk hc KZ fin VQ) hd
theorem Ag:C2! (C! i) (C! i):=BP! wpAny_Constant_int (C! i) (I.tok _) ⟨_,rfl⟩
theorem Fz:C2! (.bool b) (.bl b):=BP! Constant_bool (.bl b) I rfl
theorem ye:C2! U? .E_:=BP! Constant_none .E_ I rfl
theorem A6:C2! (.str x) (.str x):=BP! Calls.Constant_str (.str x) (I.tok _) ⟨_,rfl⟩
def Gl(X:Cx)(x:Str):Prop:=M! X.env.kindOf .globalImplicit
theorem Jk{E:H!}{AA:D!}{s:Shared}{σ:St}{H:Hp}{x:Str}{u:Value}{pos:Pos}{Q:H!}(I:B!)(hg:Rs)(hm:Ba! u)(h:Q u s)(hd:t?:=by decide):A6! (O? B4!) :=Calls.Name_function_global I.ok.kind hg (Calls.loadGlobal_global (N? I.ok.glob (I.mod.glob.keeps I.bk)) hm h) hd
theorem Y8(I:B!)(hg:Rs)(hm:X.mg x=none)(hv:M! bootBuiltins u)(h:Q u s)(hn:BM!:=by decide)(hd:t?:=by decide):A6! (O? B4!):=by obtain⟨mb,h1,h2⟩:=I.mod.blt;exact Calls.Name_function_global I.ok.kind hg (Calls.loadGlobal_builtin (N? I.ok.glob (I.mod.glob.keeps I.bk)) hm (N? I.ok.blt (h1.keeps I.bk)) ((h2 x hn).trans hv) h) hd
def t2I(ta tb:TE)(k:Int->Z! Int):z!:=λσ H=>db ta (Bv! (∃i j,bi/\AZ!/\k i j H2))
variable {a b:Expr}{ta tb:TE}{pos:Pos}
def PC(X:Cx)(op:CmpOp)(a b:Expr)(t:TE):Prop :=
 ∀(AA:D!)(s:Shared)(σ:St)(H:Hp)(Q:VK),Df! (t σ H Q ->
  B8! a (λv EA=>Bz! (O? b) (λu QQ=>Dw! (compareOp op v u) (EP X AA σ Q) QQ) EA))
theorem Ww(b:Expr)(h:op≠.In)(h2:op≠.NotIn):AA!:=by
 have e1:M? (op==CmpOp.In):=BQ! (absurd rfl h)
 have e2:M? (op==CmpOp.NotIn):=BQ! (absurd rfl h2)
 cases b<;>simp[behindInMarks,e1,e2]
def Yg(p:AR! Bool)(ta tb:TE):TE:=λσ H Q=>t2I ta tb (λi j H2=>Q (.bl (p i j)) H2) σ H
abbrev tLt:xL:=A0! (i<j)
abbrev tLe:xL:=A0! (i<=j)
abbrev tGt:xL:=A0! (j<i)
abbrev tGe:xL:=A0! (j<=i)
abbrev Jl4:xL:=A0! (i=j)
abbrev Jne:xL:=Yg λi j=>! N! (i=j)
theorem Ji4{op:CmpOp}{p:AR! Bool}(ha:T?)(hb:e?)(rule:∀(i j:Int) (t u:Tok) (Q:H!) (s:Shared),Br! p i j->Dh! (compareOp op (C! i t) CB!) Q):PC X op a b (Yg p ta tb):=by intro AA s σ H Q I h;refine bin ha hb I h (DI! ?_);obtain⟨i,j,rfl,rfl,q⟩:=q;obtain⟨t,rfl⟩:=rx;obtain⟨t',rfl⟩:=ry;exact rule i j t t' _ s2 ⟨.bl _,H2,I2,rfl,q⟩
theorem Ji5(ha:T?)(hb:e?):PC X .Eq a b (Jl4 ta tb):=Ji4 ha hb λ_ _ _ _ _ _ h=>eq_int (D? Bool.beq_eq_decide_eq h)
inductive ItB  (x:V) (H1:Hp) (Q:o?):Prop
 | mk (c) (e0:x=.bl c) (e1:Q c H1)
def tB(t:TE):TT:=j? (λx H1=>ItB  x H1 Q)
theorem Ji3(h:PC X op a b t)(h1:AA!:=by first|exact Ww _ (DJ!) AT!|rfl):L! (.Compare a [op] [b] pos) t:=λAA s σ H Q I hw=>wpAny_Compare1 (h AA s σ H Q I hw) h1
theorem D3(h:PC X op a b t)(h1:AA!:=by first|exact Ww _ (DJ!) AT!|rfl):PT X (.Compare a [op] [b] pos) (tB t):=by intro AA s σ H Q I hw;refine wpAny_isTrue_Compare1 (DX (AG! h hw) λv s1 h1=>DX h1 λu s2 h2=>DX h2 λc s3 ⟨x,H1,I1,r1,q1⟩=>?_) h1;obtain⟨d,rfl,q⟩:=q1;cases r1;exact O_ (A3! q)
theorem Fx(h:L! e t)(he:∀whole,isTrue e X.env whole=(do let v <-whole;standAt e.pos;holding [v] (truthy v)):=by intro _;rfl):PT X e (tB t):=by
 intro AA s σ H Q I hw
 refine isTrue_plain (DX (AG! h hw) λv s1 ⟨x,H1,I1,r1,q1⟩=>?_) (he _)
 obtain⟨d,rfl,q⟩:=q1
 cases r1
 exact O_ (A3! q)
variable {tA kY:TT}{rest:List Expr}
def qY(t u:TT):TT:=Bs! (if c=true then o! u Q else Q false H1)
def tOr(t u:TT):TT:=Bs! (if c=true then Q true H1 else o! u Q)
def Jl2(t:TT):TT:=Bs! (Q (!c) H1)
theorem K8(ha:Ax!):PW X (.BoolOp .And [a] pos) tA:=by intro wh AA s σ H Q I h;refine BA! isTrue_and ha Q (λc s1 e=>?_);cases c with | true=>exact isTrue_and_nil e | false=>exact e
theorem Ov(ha:Ax!):PW X (.BoolOp .Or [a] pos) tA:=by intro wh AA s σ H Q I h;refine BA! isTrue_or ha Q (λc s1 e=>?_);cases c with | false=>exact isTrue_or_nil e | true=>exact e
theorem J7(ha:Ax!)(hb:CO! .And (b::rest) kY):CO! .And (a::b::rest) (qY tA kY):=by intro wh AA s σ H Q I h;refine B9! isTrue_and;rintro c s1 ⟨H1,I1,q1⟩;cases c with | true=>exact hb wh AA s1 σ H1 Q I1 q1 | false=>exact A3! q1
theorem Wa(ha:Ax!)(hb:CO! .Or (b::rest) kY):CO! .Or (a::b::rest) (tOr tA kY):=by intro wh AA s σ H Q I h;refine B9! isTrue_or;rintro c s1 ⟨H1,I1,q1⟩;cases c with | true=>exact A3! q1 | false=>exact hb wh AA s1 σ H1 Q I1 q1
theorem Yu(ha:Ax!):PT X (.UnaryOp .Not a pos) (Jl2 tA):=DK! (BA! isTrue_not ha (λc H1=>Q (!c) H1) (λc s1 ⟨H1,I1,q1⟩=>A3! q1))
def tIf(t:TT)(ta tb:TE):TE:=Bs! (if c=true then o! ta Q else o! tb Q)
theorem Wf(hc:PT X c tA)(ha:T?)(hb:e?):L! (.IfExp c a b pos) (tIf tA ta tb):=by intro AA s σ H Q I h;refine Do! wpAny_IfExp hc;rintro d s1 ⟨H1,I1,q1⟩;cases d with | true=>exact C6! ha Q | false=>exact C6! hb Q
universe E
def DU(K:W.Frag)(H:Hp)(a:Addr)(xs:E!):Prop :=
 Db (.BC xs) \/
  ∃(o:Obj)(its:An!)(n:Nat),Ac! K.lookup/\o.cls=C? "list"/\o.dict=none/\o.data=.seq its n/\its.size<=sizeLine/\Vals xs its.toList
def CF(K:W.Frag)(H:Hp)(a:Addr)(xs:E!):Prop :=
 Db J? \/
  ∃(o:Obj)(its:An!)(n:Nat),Ac! K.lookup/\o.cls=C? "tuple"/\o.data=.seq its n/\its.size<=sizeLine/\Vals xs its.toList
def Jm5:Value->i! V
 | .none=>A! .E_
 | .bool b=>A! (.bl b)
 | .int i _=>A! (C! i)
 | .str x _=>A! (.str x)
 | .bytes b _=>A! (.UY b)
 | .float b _=>A! (.lg b)
 | .ref a=>A! R?
 | .type n=>A! (.ty n)
 | _=>none
theorem RelV.abs(r:ga):Jm5 u=A! x:=by cases x with | E_=>cases r;rfl | bl _=>cases r;rfl | int _=>obtain⟨t,rfl⟩:=r;rfl | str _=>obtain⟨t,rfl⟩:=r;rfl | UY _=>obtain⟨t,rfl⟩:=r;rfl | lg _=>obtain⟨t,rfl⟩:=r;rfl | ref _=>cases r;rfl | ty _=>cases r;rfl
theorem RelV.inj(r:ga)(q:U!):x=y:=ZO (r.abs.symm.trans q.abs)
theorem Vals.inj:∀{xs ys:E!} {us:F!},q?->Vals ys us->xs=ys
 | _,_,_,.nil,.nil=>rfl
 | _,_,_,.cons r t,.cons r' t'=>by rw[r.inj r',Vals.inj t t']
universe S
variable {X:Cx}{AA:List (Addr×Obj)}{σ:St}{H:Hp}{s:Shared}{a:Addr}{xs ys:List V}
theorem DU.of{K:W.Frag}(h:AI! (.BC xs)):sw:=G! (G! h)
theorem CF.of{K:W.Frag}(h:AI! J?):ut:=G! (G! h)
theorem Inv.list(I:B!)(h:CI! DU):∃its:F!,Av!/\PlainL s.heap a its.toArray/\w?:=by
 rcases h with h|⟨o,its,n,hk,hc,hd,hs,hz,r⟩;.obtain⟨z,its,n,r,e⟩:=h.ok I.DC;exact⟨its,r,⟨_,n,e,rfl,rfl,rfl⟩,z⟩
 .refine⟨its.toList,r,⟨o,n,I.RW a o hk,hc,hd,by simpa using hs⟩,?_⟩;have e:=r.length;simp only[CT] at e;lia
theorem Inv.tuple(I:B!)(h:CI! CF):∃its:F!,Av!/\IsTup s.heap a its.toArray/\w?:=by
 rcases h with h|⟨o,its,n,hk,hc,hs,hz,r⟩;.obtain⟨z,its,r,p⟩:=h.ok I.DC;exact⟨its,r,p,z⟩
 .refine⟨its.toList,r,⟨o,I.RW a o hk,hc,n,by simpa using hs⟩,?_⟩;have e:=r.length;simp only[CT] at e;lia
theorem Inv.YO(I:B!)(h:CI! DU)(h':DU X.K H a ys):xs=ys:=by
 obtain⟨its,r,⟨o,n,e,_,_,d⟩,_⟩:=I.list h;obtain⟨its',r',⟨o',n',e',_,_,d'⟩,_⟩:=I.list h';rw[e] at e';cases e';rw[d] at d';injection d' with d1 _;have:its=its':=by simpa using congrArg Array.toList d1
 subst this;exact r.inj r'
theorem Inv.WB(I:B!)(h:CI! CF)(h':CF X.K H a ys):xs=ys:=by
 obtain⟨its,r,⟨o,e,_,n,d⟩,_⟩:=I.tuple h;obtain⟨its',r',⟨o',e',_,n',d'⟩,_⟩:=I.tuple h';rw[e] at e';cases e';rw[d] at d';injection d' with d1 _;have:its=its':=by simpa using congrArg Array.toList d1
 subst this;exact r.inj r'
universe E
abbrev Cx.QP(X:Cx)(E:H!):Cx:={ X with xe:=E }
abbrev Cx.gp(X:Cx):Cx:=X.QP λ_ _=>False
theorem Cx.Ok.QP{X:Cx}(ok:X.Ok)(E:H!):(X.QP E).Ok :=⟨ok.mod,ok.kind,ok.glob,ok.blt,ok.above,ok.inj,ok.has,ok.aY,ok.hd,ok.frames,ok.bE,ok.VS,ok.bs,ok.VU,ok.RD,ok.QS,ok.LU,ok.XB⟩
theorem Cx.Ok.LI{X:Cx}{E:H!}(ok:(X.QP E).Ok):X.Ok :=⟨ok.mod,ok.kind,ok.glob,ok.blt,ok.above,ok.inj,ok.has,ok.aY,ok.hd,ok.frames,ok.bE,ok.VS,ok.bs,ok.VU,ok.RD,ok.QS,ok.LU,ok.XB⟩
universe S
variable {X:Cx}{AA:List (Addr×Obj)}{σ:St}{H:Hp}{s:Shared}{E:Value->Shared->Prop}
theorem Inv.QP(I:B!)(E:H!):Inv (X.QP E) AA σ H s:=BG! (I.ok.QP E) I.base I.loc I.cell I.pin I.DC I.len
theorem Inv.LI(I:Inv (X.QP E) AA σ H s):B!:=BG! I.ok.LI I.base I.loc I.cell I.pin I.DC I.len
theorem SP.LI(h:SP (X.QP E) AA D f s'):SP X AA D f s':=by cases f with | next=>obtain⟨ER,H',I,q⟩:=h;exact⟨ER,H',I.LI,q⟩ | brk=>obtain⟨ER,H',I,q⟩:=h;exact⟨ER,H',I.LI,q⟩ | cont=>obtain⟨ER,H',I,q⟩:=h;exact⟨ER,H',I.LI,q⟩ | ret u=>obtain⟨v,ER,H',I,r,q⟩:=h;exact⟨v,ER,H',I.LI,r,q⟩
theorem OY.gp{st:K! Stmt}{t:TS}(h:OY X.gp st t):OY X st t:=λAA s σ H D I hw =>EC (h AA s σ H D (I.QP _) hw) (λ_ _ q=>q.LI) λ_ _ z=>Dd! z
universe E
universe S
variable {X:Cx}{st:Stmt}{rest:List Stmt}{t u:TS}{e:Expr}{te:TE}{pos:Pos}
def qg:TS:=λD σ H=>DY!
def xq(t u:TS):TS:=λD σ H=>t { D with nx:=u D } σ H
theorem A4:OY X [] qg:=λ_ _ σ H _ I h=>M_ (k? H I h)
theorem Ad(h1:PS X st t)(h2:OY X rest u):OY X (st::rest) (xq t u):=by intro AA s σ H D I h;refine BA! wpAny_execs_cons h1 { D with nx:=u D } (λf s1 q=>?_);cases f with | next =>obtain⟨ER,H',I',q⟩:=q;exact h2 AA s1 ER H' D I' q | ret v=>exact q | brk=>exact q | cont=>exact q
theorem Ae(h1:PS X st t):OY X [st] t:=by intro AA s σ H D I h;refine BA! wpAny_execs_cons h1 D (λf s1 q=>?_);cases f with | next=>exact M_ q | ret v=>exact q | brk=>exact q | cont=>exact q
theorem Inv.quiet(I:B!):interactive X.env=false:=by simp[interactive,I.ok.kind]
def Jkg(te:TE):TS:=Z? te (λ_ H1=>UF H1)
theorem A3(he:KF)(hs:Ca! e none:=by rfl):PS X (.Expr e pos) (Jkg te):=by intro AA s σ H D I h;exact wpAny_Expr_any (Be! he (k? H1 I1 q1)) I.quiet hs
def Jl1(te:TE):TS:=Z? te D.rt
theorem Ay(he:KF):PS X (.Return (some e) pos) (Jl1 te):=by intro AA s σ H D I h;exact wpAny_Return_some (Be! he ⟨x,σ,H1,I1,r1,q1⟩)
def Sm(c:TT)(t u:TS):TS:=Z? c (λb H1=>if b=true then t D σ H1 else u D σ H1)
theorem Bf(hc:PT X c tc)(ha:OY X a t)(hb:OY X b u):PS X (.If c a b pos) (Sm tc t u):=by intro AA s σ H D I h;refine Do! wpAny_If hc;rintro d s1 ⟨H1,I1,q1⟩;cases d with | true=>exact C6! ha D | false=>exact C6! hb D
universe E
abbrev TG:=V->St->AP! z!
abbrev bg:=E!->St->AP! z!
def PG(X:Cx)(target:Expr)(t:TG):Prop :=
 ∀(AA:D!)(s:Shared)(σ:St)(H:Hp)(v:V)(u:Value)(Q:z!),h? A? (t v σ H Q ->
  DW! (assign target X.env u) (λ_ s'=>be (Q ER H')))
def mF(X:Cx)(ts:ca)(t:bg):Prop :=
 ∀(AA:D!)(s:Shared)(σ:St)(H:Hp)(vs:E!)(us:F!)(Q:z!),h? lc (t vs σ H Q ->
  DW! (assignInOrder ((assignEach ts X.env).map At) us) (λ_ s'=>be (Q ER H')))
abbrev Jnf:=V->V->V->AP! (Hp->Prop)
abbrev TIp:=Ay!
universe S
variable {X:Cx}{pos:Pos}
def yD(i:Nat):TG:=λv σ H Q=>Q (σ.set i b?) H
theorem Bk{i:Nat}{x:Str}(hN:X.N.Nodup)(hi:o0)(hx:CK!)(hf:C0!:=by first|exact Ah!|exact h! rfl|assumption):PG X B4! (yD i):=by intro AA s σ H v u Q I r h;exact wpAny_assign_Name (Vx I hN hi hx r (λs' I'=>⟨_,H,I',h⟩) hf)
def Jm3:bg:=λvs σ H Q=>vs=[]/\Q σ H
inductive Jj5(t:TG)(u:bg)(vs:E!)(σ:St)(H:Hp)(Q:z!):Prop
 | mk (v r) (e0:vs=v::r) (e1:t v σ H λER H'=>u r ER H' Q)
def Jla(t:TG)(u:bg):bg:=λvs σ H Q=>Jj5 t u vs σ H Q
theorem Hr:mF X [] Jm3:=by intro AA s σ H vs us Q I r h;obtain⟨e,h⟩:=h;subst e;cases r;exact assignInOrder_nil (k? H I h)
theorem Ce(h1:PG X e t)(h2:mF X es u)(hs:(assignEach (e::es) X.env).map At=assign e X.env::(assignEach es X.env).map At:=by rfl):mF X (e::es) (Jla t u):=by intro AA s σ H vs us Q I r h;obtain⟨v,vr,e1,h⟩:=h;subst e1;cases r with | cons r rr =>rw[hs];refine assignInOrder_cons (DX (h1 AA s σ H _ _ _ I r h) ?_);rintro _ s1 ⟨UL,H1,I1,q1⟩;exact h2 AA s1 UL H1 _ _ Q I1 rr q1
inductive Jlv(K:W.Frag)(n:Nat)(t:bg)(v:V)(σ:St)(H:Hp)(Q:z!):Prop
 | mk (a xs) (e0:v=AT) (e1:ut) (e2:xs.length=n) (e3:t xs σ H Q)
def Jm2(K:W.Frag)(n:Nat)(t:bg):TG:=λv σ H Q=>Jlv K n t v σ H Q
theorem J8{es:ca}{k:Nat}{t:bg}{n:Nat}(hc:AF!)(h:mF X es t)(hn:(assignEach es X.env).length=n:=by rfl)(ow:(assignEach es X.env).findIdx? f?=none:=by rfl):PG X (.Tuple es k pos) (Jm2 X.K n t):=by intro AA s σ H v u Q I r hw;obtain⟨a,xs,e1,hq,hl,hw⟩:=hw;subst e1;cases r;obtain⟨its,rv,ht,hz⟩:=Aj!;refine assign_Tuple_tuple (I.ok.hd hc) ht (by simp[hn,<-hl,rv.length]) ow λh' hx=>?_;have I1:W? Sc:=I.kept (t':=s.toks) λb o e=>hx b o (BH (AR e)) e;exact h AA _ σ H xs _ Q I1 (by simpa using rv) hw
def xp(te:TE)(g:TG):TS:=Z? te (λx H1=>g x σ H1 D.nx)
theorem yf(he:KF)(hg:PG X tg g)(hs:swapsWithSole [tg] e pos.line X.env=pure false:=by rfl)(hw:swappedStores [tg] e X.env=pure none:=by rfl)(h1:(assignEach [tg] X.env).map At=[assign tg X.env]:=by rfl):Bu! [tg] e (xp te g):=by intro AA s σ H D I h;refine wpAny_Assign_stores Ai! hs hw;rintro v s1 ⟨x,H1,I1,r1,q1⟩;rw[h1];exact DX (C7! hg x v _) λ_ s2 q=>q
theorem Ax{i:Nat}{x:Str}{e:Expr}{te:TE}{pos':Pos}(hN:X.N.Nodup)(hi:o0)(hx:CK!)(he:KF)(hs:Ca! e (some (.Name x pos')):=by rfl)(hf:C0!:=by first|exact Ah!|exact h! rfl|assumption) : Bu! [.Name x pos'] e (xp te (yD i)):=by intro AA s σ H D I h;refine wpAny_Assign_Name Ai! hs;rintro v s1 ⟨y,H1,I1,r1,q1⟩;exact Vx I1 hN hi hx r1 (λs2 I2=>⟨_,H1,I2,q1⟩) hf
inductive Jio(c:TT)(tb:TS)(D:Ends)(σ:L2.St)(H:Hp):Prop
 | mk (W:CS!) (_:(∃m,W m σ H)) (_:∀m σ H,W m σ H->c σ H λb H1=>if b=true then ∃N:z!,(∀ER H',N ER H'->∃m',m'<m/\W m' ER H')/\tb { D with nx:=N,ct:=N,bk:=D.nx } σ H1 else UF H1)
theorem Ow(hp:PassesOwn (model X.prog X.w) X.A X.env X.xe)(hc:PT X c tc)(hb:OY X body tb):PS X (.While c body [] pos) (Jio tc tb):=by intro AA s σ H D I h;obtain⟨W,⟨m0,w0⟩,turn⟩:=h;refine wpAny_While (codeAny_whileLoop (λn s'=>be (W n ER H')) ?_ m0 (k? H I w0));rintro n s1 ⟨UL,H1,I1,w1⟩;refine CP! (hc AA s1 UL H1 _ I1 (turn n UL H1 w1));rintro b s2 ⟨H2,I2,q2⟩;cases b with | true =>obtain⟨N,hN,q2⟩:=q2;rw[AD rfl];refine IC hp (DX (hb AA s2 UL H2 _ I2 q2) λf s3 q3=>?_);(cases f with | next =>obtain⟨WV,H3,I3,n3⟩:=q3;obtain⟨m',hm,w3⟩:=hN WV H3 n3;exact⟨m',hm,WV,H3,I3,w3⟩ | cont =>obtain⟨WV,H3,I3,n3⟩:=q3;obtain⟨m',hm,w3⟩:=hN WV H3 n3;exact⟨m',hm,WV,H3,I3,w3⟩ | brk=>exact q3 | ret v=>exact q3) | false =>rw[AB AX];exact M_ ⟨UL,H2,I2,q2⟩
universe E
structure It where
 go:Z! Nat
 SW:Nat->Hp->Z! V
 stop:Z! Nat
def Nr(X:Cx)(AA:D!)(H:Hp)(b:Addr):Prop :=
 Bm! R! (b∉X.fs) (Cp!/\(Ap!)/\CG!)
theorem Inv.WA(I:B!)(hb:s.heap.objs.size<=b)(hn:Go):Nr X AA H' b:=by
 refine⟨hn,EE (BQ I.lt hb),I.rU hb,h! (BA I.sz hb),λx c e z=>?_,λp hp z=>?_⟩;.obtain⟨v,q⟩:=CY!;exact BD! q.lt (N? z hb)
 .exact BD! (AR (I.pin p hp).1) (N? z hb)
structure Turn(P:Program)(w:World)(K:W.Frag)(tg:Expr)(J:It)(fp:G?)(it:Addr)(tn:Y! Nat Heap):Prop where
 mem:it∈fp
 obj:∀i h,tn i h->∀b∈fp,∃o,S?/\∀v,o.data≠y! v
 keep:∀i h h',tn i h->Ev (∀o,S?->Bc!)->tn i h'
 item:∀(X:Cx),X.prog=P->X.w=w->X.K=K->AF!->∀(i:Nat)(AA:D!)(s:Shared)(σ:St)(H:Hp)(E:H!),B!->Ev (Nr X AA H b)->tn i s.heap->J.go i H ->
  wpAny (model P w) X.A (pyNext cr) (λr s1=>∃u,r=A! u /\
   wpAny (model P w) X.A (letOwnedTupleGo tg cr u) (λ_ s2=>∃x H',AN! s2/\ga/\J.SW i H x H'/\tn (i+1) s2.heap/\∀b∈fp,Go) E s1) E s
 done:∀(X:Cx),X.prog=P->X.w=w->X.K=K->AF!->∀(i:Nat)(AA:D!)(s:Shared)(σ:St)(H:Hp)(E:H!),B!->Ev (Nr X AA H b)->tn i s.heap->J.stop i H ->
  wpAny (model P w) X.A (pyNext cr) (λr s1=>r=none/\W? s1) E s
 self:∀(A:Around)(i:Nat)(s:Shared)(Q:H!)(E:H!),tn i s.heap->Q cr s->Dl! P (pyIter cr) Q
abbrev TI:=CR! BZ!
inductive xW(X:Cx)(AA:D!)(σ:St)(tg:Expr)(R:BZ!)(lM:Value)(s2:Shared):Prop
 | mk (it:Addr) (fp:G?) (tn:Y! Nat Heap) (J:It) (H':Hp) (_:lM=a! it) (_:AN! s2) (_:Turn X.prog X.w X.K tg J fp it tn) (_:tn 0 s2.heap) (_:Ev (Nr X AA H' b)) (_:R J H')
def PI(X:Cx)(tg iter:Expr)(wi:TI):Prop :=
 ∀(AA:D!)(s:Shared)(σ:St)(H:Hp)(R:BZ!),Df! (wi σ H R ->
  B8! iter (λv s1=>Bz! (pyIter v) (xW X AA σ tg R) s1))
theorem Xn{M:Model}{A:Around}{E:H!}{s:Shared}{tg:Expr}{it:Addr}{u:Value}{o:Obj}{n:String}{vs:An!}{Q:Ae!}(ho:BV! it o)(hc:o.cls=C? n)(hd:o.data=.fields vs)(hn:["enumerate","zip","dict_itemiterator","dict_reverseitemiterator","odict_iterator","itertools.zip_longest","itertools.pairwise"].contains n=false)(hQ:Q () s):A1! (letOwnedTupleGo tg cr u):=by unfold letOwnedTupleGo;cases tg<;>first | exact ZS hQ | (cases u<;>first | exact ZS hQ | (refine ZR (wpAny_load ho ?_);rw[hc,hd];show A1! (if(["enumerate","zip","dict_itemiterator","dict_reverseitemiterator","odict_iterator","itertools.zip_longest","itertools.pairwise"].contains n&&vs[0]?==A! (rawInt _))=true then _ else _);rw[AB (by intro h;rw[hn,Bool.false_and] at h;cases h)];exact ZS hQ))
def U_(K:W.Frag)(a:Addr):It :=
 ⟨λi H=>∃xs x,sw/\IR,λi H x H'=>H'=H/\∀xs,sw->IR,λi H=>∃xs,sw/\xs.length<=i⟩
def XF(K:W.Frag)(a:Addr):It :=
 ⟨λi H=>∃xs x,ut/\IR,λi H x H'=>H'=H/\∀xs,ut->IR,λi H=>∃xs,ut/\xs.length<=i⟩
def ag(lo:Int)(n:Nat):It:=⟨λi _=>i<n,λi H x H'=>H'=H/\x=C! (lo+i),λi _=>n<=i⟩
theorem Jbs{P:Program}{w:World}{K:W.Frag}{tg:Expr}(a it:Addr):Turn P w K tg (U_ K a) [it] it (λi h=>h.IsListIter it a i) where
 mem:=L?
 obj:=λi h st b hb=>by
  have e:b=it:=g?
  subst e
  obtain⟨o,e,c,d⟩:=st
  exact⟨o,e,λv z=>by rw[d] at z;cases z⟩
 keep:=λi h h' st k=>st.at λo e=>k it l! o e
 item:=by
  intro X hP hw hK hc i AA s σ H E I hf st hg
  subst hP hw hK
  obtain⟨xs,x,hq,hx⟩:=hg
  obtain⟨its,rv,p,hz⟩:=Bk!
  obtain⟨u,hu,ru⟩:=rv.get hx
  obtain⟨f0,f1,f2,f3,f4,f5⟩:=ww
  refine wpAny_pyNext_list_item st p.isList (x:=u) (by simpa using hu) λh' QL sb=>?_
  have I1:W? Sc:=BK! ((sb.2 b hb).trans e)
  obtain⟨o,e,c,d⟩:=id QL
  exact⟨u,rfl,Xn (s:=Sc) e c d AT! ⟨x,H,I1,ru,F? (λys hy=>D? (I.YO hy hq) hx),QL,BO! hf⟩⟩
 done:=by
  intro X hP hw hK hc i AA s σ H E I hf st hg
  subst hP hw hK
  obtain⟨xs,hq,hx⟩:=hg
  obtain⟨its,rv,p,hz⟩:=Bk!
  obtain⟨f0,f1,f2,f3,f4,f5⟩:=ww
  have hl:=rv.length
  exact wpAny_pyNext_list_end (I.ok.hd hc) st p.isList (by simp;lia) λh' eb=>F? (BK! (eb b o hb e))
 self:=λ_ _ _ _ _ st h=>wpAny_pyIter_listiter st h
theorem Yb{P:Program}{w:World}{K:W.Frag}{tg:Expr}(a it:Addr):Turn P w K tg (XF K a) [it] it (λi h=>h.IsTupleIter it a i) where
 mem:=L?
 obj:=λi h st b hb=>by
  have e:b=it:=g?
  subst e
  obtain⟨o,e,c,d⟩:=st
  exact⟨o,e,λv z=>by rw[d] at z;cases z⟩
 keep:=λi h h' st k=>st.at λo e=>k it l! o e
 item:=by
  intro X hP hw hK hc i AA s σ H E I hf st hg
  subst hP hw hK
  obtain⟨xs,x,hq,hx⟩:=hg
  obtain⟨its,rv,p,hz⟩:=Aj!
  obtain⟨u,hu,ru⟩:=rv.get hx
  obtain⟨f0,f1,f2,f3,f4,f5⟩:=ww
  refine wpAny_pyNext_tuple_item st (show s.heap.IsTuple a its.toArray from p) (x:=u) (by simpa using hu) λh' QL sb=>?_
  have I1:W? Sc:=BK! ((sb.2 b hb).trans e)
  obtain⟨o,e,c,d⟩:=id QL
  exact⟨u,rfl,Xn (s:=Sc) e c d AT! ⟨x,H,I1,ru,F? (λys hy=>D? (I.WB hy hq) hx),QL,BO! hf⟩⟩
 done:=by
  intro X hP hw hK hc i AA s σ H E I hf st hg
  subst hP hw hK
  obtain⟨xs,hq,hx⟩:=hg
  obtain⟨its,rv,p,hz⟩:=Aj!
  obtain⟨f0,f1,f2,f3,f4,f5⟩:=ww
  have hl:=rv.length
  exact wpAny_pyNext_tuple_end (I.ok.hd hc) st (show s.heap.IsTuple a its.toArray from p) (by simp;lia) λh' eb=>F? (BK! (eb b o hb e))
 self:=λ_ _ _ _ _ st h=>wpAny_pyIter_tupleiter st h
theorem Yc{P:Program}{w:World}{K:W.Frag}{tg:Expr}(it:Addr)(lo:Int)(n:Nat):Turn P w K tg (ag lo n) [it] it (λi h=>IsRangeIter h it (lo+(i:Nat)*1) (ii-(i:Nat)) 1) where
 mem:=L?
 obj:=λi h st b hb=>by
  have e:b=it:=g?
  subst e
  exact⟨_,st,λv z=>by
   have z':Data.fields _=Data.cell v:=z
   cases z'⟩
 keep:=λi h h' st k=>k it l! _ st
 item:=by
  intro X hP hw hK hc i AA s σ H E I hf st hg
  subst hP hw hK
  obtain⟨f0,f1,f2,f3,f4,f5⟩:=ww
  have W:=Walks.range (prog:=X.prog) (w:=X.w) (I.ok.hd hc) it lo 1 n
  refine W.item i s _ _ hg st λv h' tk hv QL kk=>?_
  obtain⟨t,rfl⟩:=hv
  have I1:W? { s with heap:=h',toks:=tk }:=I.turned (λb o hb e=>kk b o (g?) e) f0 f1 f3 f4 f5
  refine Ak! (Xn (s:={ s with heap:=h',toks:=tk }) (n:="range_iterator") QL rfl rfl AT! ⟨C! (lo+i),H,I1,l? t,F? rfl,QL,BO! hf⟩)
  rw[Int.mul_one]
 done:=by
  intro X hP hw hK hc i AA s σ H E I hf st hg
  subst hP hw hK
  obtain⟨f0,f1,f2,f3,f4,f5⟩:=ww
  exact wpAny_pyNext_range_end (I.ok.hd hc) st (by have:n<=i:=hg;lia) λh' eb=>F? (BK! (eb b o hb e))
 self:=λ_ _ _ _ _ st h=>wpAny_pyIter_rangeiter st h
universe S
variable {X:Cx}{tg:Expr}
def Jk6(K:W.Frag)(tl:TE):TI:=λσ H R=>db tl (∃a,d!/\(∃xs,DU K H1 a xs)/\R (U_ K a) H1)
def Jmy(K:W.Frag)(tl:TE):TI:=λσ H R=>db tl (∃a,d!/\(∃xs,CF K H1 a xs)/\R (XF K a) H1)
theorem Do{l:Expr}{tl:TE}(hl:L! l tl):PI X tg l (Jk6 X.K tl):=by
 intro AA s σ H R I h;refine Bo! hl;rintro v s1 ⟨x,H1,I1,r1,q1⟩;obtain⟨a,e,⟨xs,hq⟩,q⟩:=q1;subst e;cases r1;obtain⟨its,rv,p,hz⟩:=I1.list hq;refine wpAny_pyIter_list p.isList ?_;refine⟨s1.heap.objs.size,[s1.heap.objs.size],_,_,H1,rfl,I1.kept (t':=s1.toks) BN!,Jbs a _,⟨_,Os,rfl,rfl⟩,AX!,q⟩;have e:b=s1.heap.objs.size:=g?
 subst e;exact I1.WA Q! (I1.DC.fresh Q!)
theorem Ih{l:Expr}{tl:TE}(hl:L! l tl):PI X tg l (Jmy X.K tl):=by
 intro AA s σ H R I h;refine Bo! hl;rintro v s1 ⟨x,H1,I1,r1,q1⟩;obtain⟨a,e,⟨xs,hq⟩,q⟩:=q1;subst e;cases r1;obtain⟨its,rv,p,hz⟩:=I1.tuple hq;refine wpAny_pyIter_tuple (show s1.heap.IsTuple a its.toArray from p) ?_;refine⟨s1.heap.objs.size,[s1.heap.objs.size],_,_,H1,rfl,I1.kept (t':=s1.toks) BN!,Yb a _,⟨_,Os,rfl,rfl⟩,AX!,q⟩;have e:b=s1.heap.objs.size:=g?
 subst e;exact I1.WA Q! (I1.DC.fresh Q!)
theorem Jdv{AA:D!}{σ:St}{H:Hp}{s:Shared}{R:BZ!}{E:H!}{lo hi:Int}{t u v:Tok}{tk:Nat}(I:B!)(h1:-(re)<=lo)(h2:lo<re)(h3:-(re)<=hi)(h4:hi<re)(q:R (ag lo B0!) H):wpAny (model X.prog X.w) X.A (pyIter (S! s.heap.objs.size)) (xW X AA σ tg R) E { s with heap:=De! AB!,toks:=tk }:=by
 refine wpAny_pyIter_range (IsRange.new ..) (small_one h1 h2 h3 h4) ?_;have I1:W? { s with heap:=De! AB!,toks:=tk }:=I.kept BN!;refine⟨(s.heap.push AB!).objs.size,[(s.heap.push AB!).objs.size],_,_,H,rfl,I1.kept (t':=tk) BN!,Yc _ lo B0!,?_,AX!,q⟩;·(have e1:lo+B7!*1=lo:=L?);(have e2:DT! B0!-B7!=Builtin.Range.rangeSize lo hi 1:=by rw[rangeSize_one];split<;>lia);show IsRangeIter _ _ (lo+B7!*1) (DT! B0!-B7!) 1;rw[e1,e2];exact Os
 ·(have e:b=(s.heap.push AB!).objs.size:=g?);subst e;exact I1.WA Q! (I1.DC.fresh Q!)
def Jk5(ta:TA):TI:=λσ H R=>ta σ H λvs H1=>∃j:Int,vs=[C! j]/\-(re)<=j/\j<re/\R (ag 0 j.toNat) H1
theorem Gx{a:Expr}{ta:TA}{p pos:Pos}(hg:Gl X "range")(hm:X.mg "range"=none)(ha:PA X [a] ta)(hs:starEach [a] X.env=[(false,eval a X.env)]:=by rfl):PI X tg (.Call (.Name "range" p) [a] [] pos) (Jk5 ta):=by intro AA s σ H R I h;refine Call_ (Y8 I hg hm boot_range (PyProof.Rows.callWith_type1 (BC! (λus s1 ⟨vs,H1,I1,r1,q1⟩=>?_)) hs rfl));obtain⟨j,e,q1,q2,q⟩:=q1;subst e;cases r1 with | cons r rr =>cases rr;obtain⟨t,rfl⟩:=r;exact call_range_1 (Jdv I1 E? E? q1 q2 (by simpa using q))
def Jl3(wi:TI)(g:TG)(tb:TS):TS:=Z? wi (λJ H1=>C5! (W 0 m σ H1) (CD! ->
 DB! J.stop J.go J.SW))
def Mf(fp:G?)(h:Heap):D!:=fp.filterMap λb=>(h.get? b).map λo=>(b,o)
theorem E9(hb:b∈fp)(e:S?):(b,o)∈Mf fp h:=LZ.mpr ⟨b,hb,by rw[e];rfl⟩
theorem Jcb(hp:p∈Mf fp h):p.1∈fp/\h.get? p.1=A! p.2:=by obtain⟨b,hb,e⟩:=LZ.mp hp;cases q:h.get? b with | none=>rw[q] at e;cases e | some o =>rw[q] at e;have e':(b,o)=p:=ZO e;subst e';exact⟨hb,q⟩
theorem Inv.pinned(I:B!)(hf:∀b∈fp,Nr X AA H b)(ho:∀b∈fp,∃o,a?/\∀v,o.data≠y! v):Inv X (AA++Mf fp s.heap) σ H s :=I.VJ λp hp=>(ZI hp).elim (λz=>I.pin p (ZC _ z)) λz=>by obtain⟨hb,e⟩:=Jcb z;obtain⟨f0,f1,f2,_⟩:=hf p.1 hb;obtain⟨o,e',d⟩:=ho p.1 hb;rw[e] at e';cases e';exact⟨e,f0,f1,f2,d⟩
theorem Inv.JJ(I:Inv X (AA++pl) σ H s):B!:=I.VJ λp hp=>I.pin p (ZC _ (ZB _ hp))
theorem Ee(hp:PassesOwn (model X.prog X.w) X.A X.env X.xe)(hc:AF!)(hi:PI X tg iter wi)(hg:PG X tg g)(hb:OY X body tb)(hs:∀x,foldedSetIterable iter X.env x=pure x:=by intro _;rfl):PS X (.For tg iter body [] pos) (Jl3 wi g tb):=by
 intro AA s σ H D I h;refine wpAny_For (AH! hi (λv s1 h1=>DX h1 λlM s2 h2=>?_)) hs;obtain⟨it,fp,tn,J,H2,e,I2,T,YS,f2,W,⟨m0,w0⟩,turn⟩:=h2;subst e;have PQ:∀{H':Hp},Ev Go->∀b∈fp,Nr X AA H' b:=λhn b hb=>⟨hn b hb,(f2 b hb).2⟩;refine codeAny_forLoop_any (λn s'=>∃i ER H',DQ! ER H'/\tn i s'.heap/\Ev Go/\W i n ER H') ?_ m0 ⟨0,σ,H2,I2,YS,BO! f2,w0⟩;rintro n s3 ⟨i,WV,H3,I3,bF,MQ,w3⟩;rcases turn i n WV H3 w3 with⟨stop,qn⟩|⟨go,N,hN,step⟩;.refine CP! (T.done X rfl rfl rfl hc i AA s3 WV H3 X.xe I3 (PQ MQ) bF stop);rintro r s4 ⟨hr,I4⟩;subst hr;exact M_ ⟨WV,H3,I4,qn⟩
 .refine CP! (T.item X rfl rfl rfl hc i AA s3 WV H3 X.xe I3 (PQ MQ) bF go);rintro r s4 ⟨u,hr,h4⟩;subst hr;refine IC hp (DX h4 ?_);rintro _ s5 ⟨x,H5,I5,r5,y5,WW,TN⟩;have I5':=I5.pinned (PQ TN) (T.obj _ _ WW);refine CP! (hg _ s5 WV H5 x u _ I5' r5 (step x H5 y5));rintro _ s6 ⟨z_,H6,I6,q6⟩;refine IC hp (DX (hb _ s6 z_ H6 _ I6 q6) λf s7 q7=>?_);(have again:∀{WU:St} {H7:Hp},Inv X (AA++Mf fp s5.heap) WU H7 s7->N WU H7->∃m,m<n/\∃i ER H',Inv X AA ER H' s7/\tn i s7.heap/\Ev Go/\W i m ER H':=λ{WU H7} I7 n7=>by obtain⟨m',hm,w7⟩:=hN WU H7 n7;refine⟨m',hm,i+1,WU,H7,I7.JJ,T.keep _ _ _ WW λb hb o e=>(I7.pin (b,o) (ZC _ (ZC _ (E9 hb e)))).1,AX!,w7⟩;obtain⟨o,e,d⟩:=T.obj _ _ WW b hb;exact(I7.pin (b,o) (ZC _ (ZC _ (E9 hb e)))).2.1);cases f with | next=>obtain⟨WU,H7,I7,n7⟩:=q7;exact again I7 n7 | cont=>obtain⟨WU,H7,I7,n7⟩:=q7;exact again I7 n7 | brk=>obtain⟨WU,H7,I7,q7⟩:=q7;exact⟨WU,H7,I7.JJ,q7⟩ | ret v=>obtain⟨x7,WU,H7,I7,r7,q7⟩:=q7;exact⟨x7,WU,H7,I7.JJ,r7,q7⟩
universe E
theorem Io{K:W.Frag}{a:Addr}{xs:E!}{g:TG}{tb:TS}{D:Ends}{σ:St}{H:Hp}(Pv:CS!)(h0:T0 0)(hl:∀i σ H,Da!->s?->sw)(hs:∀i x σ H,IR->s?->g x σ H (Ds! { D with nx:=d?,ct:=d?,bk:=D.nx }))(hd:∀σ H,T0 xs.length->DY!) : C5! (W 0 m σ H) (CD! -> DB! (U_ K a).stop (U_ K a).go (U_ K a).SW):=by
 refine P? (λi m σ H=>m=xs.length-i/\Da!/\s?) ⟨xs.length,L?,BE _,h0⟩;rintro i m σ H ⟨rfl,hi,p⟩;have q:=hl i σ H hi p;by_cases JU:i<xs.length;.refine c? ⟨xs,xs[i],q,by simp[JU]⟩ d? (λER H' p'=>⟨xs.length-(i+1),I!,rfl,JU,p'⟩) (λx H' y=>?_);obtain⟨e,y⟩:=y;subst e;exact hs i x σ _ (y xs q) p
 ·(have e:i=xs.length:=I!);subst e;exact G! ⟨⟨xs,q,ZG _⟩,hd σ H p⟩
theorem Lv{K:W.Frag}{a:Addr}{xs:E!}{g:TG}{tb:TS}{D:Ends}{σ:St}{H:Hp}(Pv:CS!)(h0:T0 0)(hl:∀i σ H,Da!->s?->ut)(hs:∀i x σ H,IR->s?->g x σ H (Ds! { D with nx:=d?,ct:=d?,bk:=D.nx }))(hd:∀σ H,T0 xs.length->DY!) : C5! (W 0 m σ H) (CD! -> DB! (XF K a).stop (XF K a).go (XF K a).SW):=by
 refine P? (λi m σ H=>m=xs.length-i/\Da!/\s?) ⟨xs.length,L?,BE _,h0⟩;rintro i m σ H ⟨rfl,hi,p⟩;have q:=hl i σ H hi p;by_cases JU:i<xs.length;.refine c? ⟨xs,xs[i],q,by simp[JU]⟩ d? (λER H' p'=>⟨xs.length-(i+1),I!,rfl,JU,p'⟩) (λx H' y=>?_);obtain⟨e,y⟩:=y;subst e;exact hs i x σ _ (y xs q) p
 ·(have e:i=xs.length:=I!);subst e;exact G! ⟨⟨xs,q,ZG _⟩,hd σ H p⟩
theorem Rp{lo:Int}{n:Nat}{g:TG}{tb:TS}{D:Ends}{σ:St}{H:Hp}(Pv:CS!)(h0:T0 0)(hs:∀i σ H,i<n->s?->g (C! (lo+i)) σ H (Ds! { D with nx:=d?,ct:=d?,bk:=D.nx }))(hd:∀σ H,T0 n->DY!) : C5! (W 0 m σ H) (CD! -> DB! (ag lo n).stop (ag lo n).go (ag lo n).SW):=by
 refine P? (λi m σ H=>m=n-i/\i<=n/\s?) ⟨n,L?,BE _,h0⟩;rintro i m σ H ⟨rfl,hi,p⟩;by_cases JU:i<n;.refine c? JU d? (λER H' p'=>⟨n-(i+1),I!,rfl,JU,p'⟩) (λx H' y=>?_);obtain⟨e,y⟩:=y;subst e y;exact hs i σ _ JU p
 ·(have e:i=n:=I!);subst e;exact G! ⟨ZG _,hd σ H p⟩
abbrev R2:=Ay!
def QO(X:Cx)(f:Az!)(r:R2):Prop :=
 ∀(AA:D!)(s:Shared)(σ:St)(H:Hp)(x y:V)(v u:Value)(Q:VK),CJ! U! (r x y H Q ->
  AQ! (f v u))
def Ga(X:Cx)(f:Value)(r:E!->Ch):Prop :=
 ∀(AA:D!)(s:Shared)(σ:St)(H:Hp)(xs:E!)(us:F!)(Q:VK),h? q? (r xs H Q ->
  B3! f us)
def Jm6(X:Cx)(r:V->AP! o?):Prop :=
 ∀(AA:D!)(s:Shared)(σ:St)(H:Hp)(x:V)(v:Value)(Q:o?),h? (RelV x v) (r x H Q ->
  DN! (truthy v) TP)
def NS(r:R2)(ta tb:TE):TE:=B1! (Bv! (r x y H2 Q))
inductive IrI(C:Y! Int Int)(g:B5!)(x:V)(y:V)(H:Hp)(Q:VK):Prop
 | mk (i j) (e0:bi) (e1:AZ!) (e2:C i j) (e3:Q (g i j) H)
def rI(C:Y! Int Int)(g:B5!):R2:=am (IrI C g x y H Q)
inductive Jm9(g:B5!)(x:V)(y:V)(H:Hp)(Q:VK):Prop
 | mk (i j) (e0:bi) (e1:AZ!) (e2:Q (g i j) H)
def aA(g:B5!):R2:=am (Jm9 g x y H Q)
universe S
variable {X:Cx}{a b c:Expr}{ta tb tc:TE}{pos:Pos}
theorem qW(ha:T?)(hb:e?){AA:D!}{s:Shared}{σ:St}{H:Hp}{R:V->Z! V}(I:B!)(h:db ta (Bv! (R x y H2))){Q:H!}{f:Az!}(hf:∀v u s2 x y H2,V? H2 s2->RelV x v->U!->R x y H2->Cj! s2) : B8! a (λv EA=>Bz! (O? b) (λu QQ=>Cj! QQ) EA):=by refine Bo! ha;rintro v s1 ⟨x,H1,I1,r1,q1⟩;refine Bp! hb;rintro u s2 ⟨y,H2,I2,r2,q2⟩;exact hf v u s2 x y H2 I2 r1 r2 q2
theorem Bl{op:Operator}{r:R2}(ho:Ix op r)(ha:T?)(hb:e?):L! (.BinOp a op b pos) Co!:=DK! (wpAny_BinOp (qW ha hb I h (DI! (ho AA s2 σ H2 x y v u Q I2 rx ry q))))
theorem ky{f:Az!}{C:Y! Int Int}{g:AR! Int}(rule:∀(i j:Int) (t u:Tok) (s:Shared) (Q:H!) (E:H!),C i j->Q (C! (g i j) s.toks) bv->A6! (f (C! i t) CB!)) : QO X f (rI C λi j=>CQ!):=by intro AA s σ H x y v u Q I rx ry h;obtain⟨i,j,rfl,rfl,hc,q⟩:=h;obtain⟨t,rfl⟩:=rx;obtain⟨t',rfl⟩:=ry;exact rule i j t t' s _ _ hc (CL! CQ!)
theorem xk{f:Az!}{g:AR! Int}(rule:∀(i j:Int) (t u:Tok) (s:Shared) (Q:H!) (E:H!),Q (C! (g i j) s.toks) bv->A6! (f (C! i t) CB!)) : QO X f (Op CQ!):=by intro AA s σ H x y v u Q I rx ry h;obtain⟨i,j,rfl,rfl,q⟩:=h;obtain⟨t,rfl⟩:=rx;obtain⟨t',rfl⟩:=ry;exact rule i j t t' s _ _ (CL! CQ!)
theorem qa{f:Az!}{g:AR! Bool}(rule:∀(i j:Int) (t u:Tok) (s:Shared) (Q:H!) (E:H!),Br! g i j->A6! (f (C! i t) CB!)) : QO X f (Op (.bl (g i j))):=by intro AA s σ H x y v u Q I rx ry h;obtain⟨i,j,rfl,rfl,q⟩:=h;obtain⟨t,rfl⟩:=rx;obtain⟨t',rfl⟩:=ry;exact rule i j t t' s _ _ ⟨.bl (g i j),H,I,rfl,q⟩
def Jnd(i j:Int):Prop:=0<j/\j<1073741824
def Jnc(i j:Int):Prop:=0<=j/\j<=1000000/\i.natAbs<2 ^ 64
def eC(i j:Int):Prop:=(-(2 ^ 64)<i/\i<2 ^ 64)\/(-(2 ^ 64)<j/\j<2 ^ 64)
theorem eC.ok(h:eC i j):IntMulOk i j:=by
 rcases h with⟨h1,h2⟩|⟨h1,h2⟩;.exact .of_left (intBits_le_64 h1 h2)
 .exact .of_right (intBits_le_64 h1 h2)
theorem Hs:Ix .Add (Op (C! (i+j))):=A2! xk add_int
theorem Uc:Ix .Sub (Op (C! (i-j))):=A2! xk sub_int
theorem Ge:Ix .Mult (rI eC λi j=>C! (i*j)):=ky λ_ _ _ _ _ _ _ hc q=>mul_int q hc.ok
theorem F6:Ix .FloorDiv (rI Jnd λi j=>C! (i / j)):=ky λi j _ _ _ _ _ hc q=>by have h1:(0:Int)<j:=hc.1;have h2:j<1073741824:=hc.2;exact floordiv_int E? (WF (Int.fdiv_eq_ediv_of_nonneg i E?)) (G! (PyProof.noPylong_small (I!)))
theorem Dg:Ix .Mod (rI (λ_ j=>0<j) λi j=>C! (i % j)):=ky λi j _ _ _ _ _ hc q=>by have h1:(0:Int)<j:=hc;exact mod_int' (I!) (N? (Int.fmod_eq_emod_of_nonneg i E?) q)
theorem Ji6:Ix .Pow (rI Jnc λi j=>C! (i ^ j.toNat)):=ky λ_ _ _ _ _ _ _ hc q=>pow_int_small hc.1 hc.2.1 hc.2.2 q
universe E
def xn:V->V->Bool
 | .E_,.E_=>true|.E_,.int _=>true|.int _,.E_=>true|.E_,.bl _=>true|.bl _,.E_=>true|.E_,.str _=>true|.str _,.E_=>true
 | .int _,.int _=>true|.bl _,.bl _=>true|.str _,.str _=>true|.UY _,.UY _=>true
 | .int _,.str _=>true|.str _,.int _=>true|.bl _,.str _=>true|.str _,.bl _=>true
 | _,_=>false
def UP:R2:=am (xn x y=true/\Q (.bl (decide (x=y))) H)
def rNe:R2:=am (xn x y=true/\Q (.bl (! N! (x=y))) H)
theorem yu:N! (V.int i=V.int j)=(i==j):=AE! PF
theorem yP:N! (V.bl i=V.bl j)=(i==j):=AE! PF
theorem yv:N! (V.str i=V.str j)=(i==j):=AE! PF
theorem yt:N! (V.UY i=V.UY j)=(i.toList==j.toList):=by rw[PF];cases i;cases j;simp
universe S
variable {X:Cx}{a b c:Expr}{ta tb tc:TE}{pos:Pos}
theorem B8(I:B!)(q:Q (.bl k) H)(e:k=k'):CE! (.bool k'):=by subst e;exact⟨.bl k,H,I,rfl,q⟩
theorem Ca:Is .Eq UP:=by intro AA s σ H x y v u Q I rx ry h;obtain⟨hs,q⟩:=h;cases x with | E_ =>cases rx;(cases y with | E_=>cases ry;exact J! PySem.EqNone.eq_none_none | bl j=>cases ry;exact J! PySem.EqNone.eq_none_bool | int j=>obtain⟨t',rfl⟩:=ry;exact J! PySem.EqNone.eq_none_int | str j=>obtain⟨t',rfl⟩:=ry;exact J! PySem.EqNone.eq_none_str | _=>exact B?) | bl i =>cases rx;(cases y with | E_=>cases ry;exact J! PySem.EqNone.eq_bool_none | bl j=>cases ry;exact eq_bool (B8 I q yP) | str j=>obtain⟨t',rfl⟩:=ry;exact J! PySem.EqMixed.eq_bool_str | _=>exact B?) | int i =>obtain⟨t,rfl⟩:=rx;(cases y with | E_=>cases ry;exact J! PySem.EqNone.eq_int_none | int j=>obtain⟨t',rfl⟩:=ry;exact eq_int (B8 I q yu) | str j=>obtain⟨t',rfl⟩:=ry;exact J! PySem.EqMixed.eq_int_str | _=>exact B?) | str i =>obtain⟨t,rfl⟩:=rx;(cases y with | E_=>cases ry;exact J! PySem.EqNone.eq_str_none | bl j=>cases ry;exact J! PySem.EqMixed.eq_str_bool | int j=>obtain⟨t',rfl⟩:=ry;exact J! PySem.EqMixed.eq_str_int | str j=>obtain⟨t',rfl⟩:=ry;exact eq_str (B8 I q yv) | _=>exact B?) | UY i =>obtain⟨t,rfl⟩:=rx;(cases y with | UY j=>obtain⟨t',rfl⟩:=ry;exact W.eq_bytes (B8 I q yt) | _=>exact B?) | _=>cases y<;>exact B?
theorem yF:Is .NotEq rNe:=by intro AA s σ H x y v u Q I rx ry h;obtain⟨hs,q⟩:=h;cases x with | E_ =>cases rx;(cases y with | E_=>cases ry;exact J! PySem.EqNone.ne_none_none | bl j=>cases ry;exact J! PySem.EqNone.ne_none_bool | int j=>obtain⟨t',rfl⟩:=ry;exact J! PySem.EqNone.ne_none_int | str j=>obtain⟨t',rfl⟩:=ry;exact J! PySem.EqNone.ne_none_str | _=>exact B?) | bl i =>cases rx;(cases y with | E_=>cases ry;exact J! PySem.EqNone.ne_bool_none | bl j=>cases ry;exact Ce! ne_bool yP | str j=>obtain⟨t',rfl⟩:=ry;exact J! PySem.EqMixed.ne_bool_str | _=>exact B?) | int i =>obtain⟨t,rfl⟩:=rx;(cases y with | E_=>cases ry;exact J! PySem.EqNone.ne_int_none | int j=>obtain⟨t',rfl⟩:=ry;exact Ce! ne_int yu | str j=>obtain⟨t',rfl⟩:=ry;exact J! PySem.EqMixed.ne_int_str | _=>exact B?) | str i =>obtain⟨t,rfl⟩:=rx;(cases y with | E_=>cases ry;exact J! PySem.EqNone.ne_str_none | bl j=>cases ry;exact J! PySem.EqMixed.ne_str_bool | int j=>obtain⟨t',rfl⟩:=ry;exact J! PySem.EqMixed.ne_str_int | str j=>obtain⟨t',rfl⟩:=ry;exact Ce! ne_str yv | _=>exact B?) | UY i =>obtain⟨t,rfl⟩:=rx;(cases y with | UY j=>obtain⟨t',rfl⟩:=ry;exact Ce! W.ne_bytes yt | _=>exact B?) | _=>cases y<;>exact B?
theorem Wi:Is .Lt (Op (.bl (decide (i<j)))):=A2! qa lt_int
theorem Q7:Is .Gt (Op (.bl (decide (j<i)))):=A2! qa gt_int
theorem Jky:Is .GtE (Op (.bl (decide (j<=i)))):=A2! qa ge_int
theorem A7(b:Expr)(h:op≠.In:=by decide)(h2:op≠.NotIn:=by decide):AA!:=by
 have e1:M? (op==CmpOp.In):=BQ! (absurd rfl h)
 have e2:M? (op==CmpOp.NotIn):=BQ! (absurd rfl h2)
 cases b<;>simp[behindInMarks,e1,e2]
theorem Lc{op:CmpOp}{r:R2}(ho:Is op r)(ha:T?)(hb:e?)(hm:AA!):L! (.Compare a [op] [b] pos) Co!:=DK! (wpAny_Compare1 (qW ha hb I h (DI! (ho AA s2 σ H2 x y v u Q I2 rx ry q))) hm)
inductive Jj1  (x:V) (H':Hp) (Q:o?):Prop
 | mk (k) (e0:x=.bl k) (e1:Q k H')
def Fi(t:TE):TT:=j? (λx H'=>Jj1  x H' Q)
theorem Az(ho:Is op r)(ha:T?)(hb:e?)(hm:AA!):PT X (.Compare a [op] [b] pos) (Fi Co!):=by intro AA s σ H Q I h;refine wpAny_isTrue_Compare1 (Be! ha (Af! hb (λu s2 ⟨y,H2,I2,r2,q2⟩ =>DX (ho AA s2 σ H2 x y v u _ I2 r1 r2 q2) λc s3 ⟨z,H3,I3,r3,k,e,q3⟩=>?_))) hm;subst e;cases r3;exact O_ ⟨H3,I3,q3⟩
def xi(K:W.Frag)(x:V)(H:Hp)(k:Bool):Prop :=
 match x with
 | .E_=>k=false
 | .bl b=>k=b
 | .int i=>k=(i != 0)
 | .str y=>C1! (y.length<=sizeLine) y.length
 | .UY y=>C1! (y.size<=sizeLine) y.size
 | .ref p=>Cl! (DU K H p xs) (Cl! (CF K H p xs) (∃kvs,H? p AL!/\k=!kvs.isEmpty))
 | _=>False
theorem Zc(r:x!):(!vs.isEmpty)=!kvs.isEmpty:=by cases r<;>rfl
theorem Pw(r:Av!):(!its.toArray.isEmpty)=!xs.isEmpty:=by cases r<;>simp
theorem Uw:(sizeLine:Nat)<2 ^ 63:=by rw[Cn];decide
theorem Jin:Jm6 X (λx H Q=>∃k,xi X.K x H k/\Q k H):=by intro AA s σ H x v Q I rx h;obtain⟨k,e,q⟩:=h;have hl:=Uw;have hs:sizeLine=16777216:=Cn;cases x with | E_ =>cases rx;have e':k=false:=e;subst e';exact truthy_none ⟨H,I,q⟩ | bl b =>cases rx;have e':k=b:=e;subst e';exact O_ ⟨H,I,q⟩ | int i =>obtain⟨t,rfl⟩:=rx;have e':k=(i != 0):=e;subst e';exact PySem.P.truthy_int ⟨H,I,q⟩ | str y =>obtain⟨t,rfl⟩:=rx;obtain⟨hy,e'⟩:C1! (y.length<=sizeLine) y.length:=e;subst e';exact PySem.P.truthy_str (I!) (At! q) | UY y =>obtain⟨t,rfl⟩:=rx;obtain⟨hy,e'⟩:C1! (y.size<=sizeLine) y.size:=e;subst e';exact W.truthy_bytes (I!) (At! q) | ref p =>cases rx;have e':Cl! (DU X.K H p xs) (Cl! (CF X.K H p xs) (∃kvs,H? p AL!/\k=!kvs.isEmpty)):=e;rcases e' with⟨xs,hx,e'⟩|⟨xs,hx,e'⟩|⟨kvs,hx,e'⟩;(.subst e';obtain⟨its,r,pl,hz⟩:=I.list hx;have hlen:=r.length;exact wpAny_truthy_list pl.isList (by simp only[BD];lia) (At! (WF (Pw r))));(.subst e';obtain⟨its,r,pl,hz⟩:=I.tuple hx;have hlen:=r.length;exact truthy_tuple pl (by simp only[BD];lia) (At! (WF (Pw r))));.subst e';obtain⟨hz,hS,vs,r,m⟩:Ci!/\M? (p==sysModules)/\∃vs,x!/\s.heap.DictOf Cf! p vs:=I.DC p _ hx;have hlen:kvs.length=vs.length:=Paired.length r;exact wpAny_truthy_dict hS m E? (At! (WF (Zc r))) | _=>exact(show False from e).elim
theorem Wc(ha:T?)(he:∀whole,isTrue a X.env whole=(do let v <-whole;standAt a.pos;holding [v] (truthy v))) :
 PT X a (DL! ta (λx H'=>∃k,xi X.K x H' k/\Q k H')):=by
 intro AA s σ H Q I h
 exact isTrue_plain (Be! ha (C7! Jin x v Q)) (he _)
theorem vals1(r:Vals [x] us):∃u,us=[u]/\ga:=by cases r with | cons r1 r2=>cases r2;exact Ak! r1
universe E
structure UC(h:Heap)(x dx C:Addr)(mA:V!):Prop where
 obj:M! h.get? (CU! dx)
 ns:h.Ns1 dx mA
 ne:dx≠x
theorem Jcc{h:Heap}{dx:Addr}{mA:V!}(n:h.Ns1 dx mA):∃od,h.get? dx=A! od/\∀name,W.lookIn name od=A! (mA name):=by
 obtain⟨o,es,ep,ho,hd,hk,_,hm⟩:=n;refine⟨o,ho,λname=>?_⟩;have e:=hm name;unfold nsFind findBy at e;rw[<-Array.find?_toList] at e;unfold W.lookIn;rw[hd];dsimp only;split;.rename_i y q;rw[q] at e;exact congrArg some e
 .rename_i q;rw[q] at e;(have a:es.toList.any (·.refKey)=false:=by rw[List.any_eq_false];intro y hy;obtain⟨z,t,V'⟩:=hk y (Array.mem_toList_iff.mp hy);simp[DictEntry.refKey,V']);(have a':¬es.toList.any (·.refKey)=true:=D? a AX);rw[AB a'];exact congrArg some e
theorem UC.look(I:CZ! h):∃od,W.InstAt h x (CU! dx) C (some od)/\∀name,W.lookIn name od=A! (mA name) :=let⟨od,ho,hl⟩:=Jcc I.ns;⟨od,⟨I.obj,rfl,rfl,ho⟩,hl⟩
universe S
variable {prog:Program}{w:World}{A:Around}{E:Value->Shared->Prop}{s:Shared}{K:W.Frag}{x dx C f:Addr}{mA:Str->Option Value}{name:Str}{v:Value}
theorem Jhh{expr:Bool}{Q:H!}(X:wE)(I:CZ! s.heap)(hg:W.plainGet K C name=true)(hh:KE W.hasDictIn)(ha:Dn! name none)(hv:mA name=A! v)(hv':W.handedIn v=true)(h:Q v bv) : v4 getAttr (S! x) name expr:=by obtain⟨od,J,hl⟩:=I.look;exact W.get_value X J (W.plainGet_of hg).1 (W.findObj_own hh ha rfl (by rw[hl,hv])) hv' h
theorem Je9{pl:Sem Bool}{Q:Y! (Value×F!) Shared}(X:wE)(I:CZ! s.heap)(hg:W.plainGet K C name=true)(hf:CM! name)(ht:Bt! W.isFn)(hv:mA name=none)(h:Q (a! f,[a! x]) s) : v4 getMethod (S! x) name pl:=by obtain⟨od,J,hl⟩:=I.look;exact W.method_fn X J (W.plainGet_of hg).1 (W.plainGet_of hg).2 hf (LX.mp ht) (by show(W.lookIn name od).map (·.isSome)=A! false;rw[hl,hv];rfl) h
theorem Jga{ns:j!}{Q:Ae!}(X:wE)(I:CZ! s.heap)(hs:Dy! "__setattr__" (.builtin "object.__setattr__"))(hp:KE W.plainOver)(ht:W.takerIn K C name=A! none)(hh:KE W.hasDictIn)(hw:PySem.Within mA ns)(hsz:ns.length<=sizeLine)(h:∀h',UC h' x dx C (λy=>AV! (y=name) v (mA y))->Heap.SameBut dx s.heap h'->Q () { s with heap:=h',toks:=s.toks+2 }) : v4 setAttr (S! x) name v:=by obtain⟨od,J,hl⟩:=I.look;refine W.set_plain X J hs (W.osa_open (s:=bv) (r:=none) X J hp ht λb=>?_);obtain⟨cd,hc,RY⟩:=W.any_some hh;have hx:M! s.heap.get? ⟨a! C,A! dx,.plain,#[]⟩:=I.obj;refine ZR (ZS (ZR (ZR (wpAny_loadPart hx (ZR (W.Looks.here (s:=bv) (W.looks_clsIn X hc) ?_))))));rw[RY];refine ZS (a:=A! dx) (ZR (ZS (ZR ?_)));refine wpAny_nsSet1 (s:=bv) I.ns λh' bR bO=>?_;obtain⟨oD,esD,epD,hoD,hdD,hcD⟩:=bR.count (PySem.Within.cons name v hw);refine ZR (wpAny_lookBehind hoD (N? hdD (pastItsLine_dict (BA hcD (by rw[BF];lia)))) ?_);exact ZS (h _ ⟨(bO.2 _ (Ne.symm I.ne)).trans I.obj,bR,I.ne⟩ bO)
theorem Je0{R:Y! Result Shared}{vs:F!}{kw:GE}(X:wE)(hm:KE W.makesIn)(hi:CM! "__init__")(hf:W.typeIn K X?=A! (C? "function"))(h:codeAny (model prog w) (Du! ⟨a! C::vs,kw⟩) (.call X? ⟨DS! .ref::vs,kw⟩) (W.InitBack (AJ!) R) { s with heap:=(s.heap.push W.emptyDict).push (W.instObj C s.heap.objs.size) }) : codeAny (model prog w) A (.call AK! ⟨vs,kw⟩) R s:=by obtain⟨hh,g,d,t,os⟩:=s;exact W.make_core (W.makes_of X hm) (W.looks_findIn X hi) (λself=>W.bind_fn X self hf) TD h
universe E
def Ar(f:Str)(v:V):FS->FS
 | []=>[(f,v)]
 | (g,x)::r=>Cw! (g=f) (g,v) g
theorem Bc(f g:Str)(v:V):∀fs:FS,(Ar f v fs).lookup g=AV! (g=f) v (fs.lookup g)
 | []=>by show List.lookup g [(f,v)]=_;by_cases h:g=f;(.have hb:(g==f)=true:=LX.mpr h;simp only[List.lookup,hb,AD h]);.have hb:M? (g==f):=DR.mpr h;simp only[List.lookup,hb,AB h]
 | (k,x)::r=>by have ih:=Bc f g v r;rw[show Ar f v ((k,x)::r)=(Cw! (k=f) (k,v) k) from rfl];by_cases hk:k=f;(.rw[AD hk];by_cases h:g=k;(.have hb:(g==k)=true:=LX.mpr h;simp only[List.lookup,hb,AD (h.trans hk)]);.have hb:M? (g==k):=DR.mpr h;simp only[List.lookup,hb,AB (λe:g=f=>h (e.trans hk.symm))]);.rw[AB hk];by_cases h:g=k;(.have hb:(g==k)=true:=LX.mpr h;simp only[List.lookup,hb,AB (λe:g=f=>hk (h.symm.trans e))]);.have hb:M? (g==k):=DR.mpr h;simp only[List.lookup,hb];exact ih
theorem Mn(f:Str)(v:V):∀fs:FS,f∈(Ar f v fs).map f?/\∀g,g∈fs.map f?->g∈(Ar f v fs).map f?
 | []=>⟨by simp[Ar],λg h=>BB!⟩
 | (k,x)::r=>by obtain⟨i1,i2⟩:=Mn f v r;rw[show Ar f v ((k,x)::r)=(Cw! (k=f) (k,v) k) from rfl];by_cases hk:k=f;(.rw[AD hk];subst hk;exact⟨L?,λg h=>by simpa using h⟩);.rw[AB hk];refine⟨?_,λg h=>?_⟩;(.rw[AI];exact ZD _ i1);.rw[AI] at h ⊢;rcases ZM h with e|e;(.exact BU.mpr (G! e));.exact ZD _ (i2 g e)
theorem A5(f:Str)(v:V):∀fs:FS,(Ar f v fs).length<=fs.length+1
 | []=>by simp[Ar]
 | (k,x)::r=>by have ih:=A5 f v r;rw[show Ar f v ((k,x)::r)=(Cw! (k=f) (k,v) k) from rfl];by_cases hk:k=f;(.rw[AD hk,BF,BF];lia);.rw[AB hk,BF,BF];lia
theorem mI{v:V}{o:i! Value}(r:OP b? o):∃u,o=A! u/\A?:=by cases o with | none=>exact wP | some u=>exact⟨u,rfl,r⟩
theorem Jnh(r:OP none o):o=none:=by cases o with | none=>rfl | some u=>exact wP
theorem Jcp(r:A?):W.handedIn u=true:=by cases v with | E_=>cases Uf (u=Value.none);rfl | bl b=>cases Uf (u=Value.bool b);rfl | int i=>obtain⟨t,e⟩:=Uf pi;cases e;rfl | str x=>obtain⟨t,e⟩:=Bx! Value.str x;cases e;rfl | UY b=>obtain⟨t,e⟩:=Bx! Value.bytes b;cases e;rfl | lg b=>obtain⟨t,e⟩:=Bx! Value.float b;cases e;rfl | ref a=>cases Uf q!;rfl | ty n=>cases Uf (u=Value.type n);rfl
universe S
theorem Vb(DC:w!)(e:Bg!):∃mA,UC h a dx C mA/\(∀f,OP (fs.lookup f) (mA f))/\PySem.Within mA (fs.map f?)/\fs.length<=1000/\H? dx Al!:=by obtain⟨d,z,ne,ob,mA,n,r,q⟩:=(BR! (AM! fs) (DC a _ e));exact⟨mA,⟨ob,n,ne⟩,r,q,z,d⟩
universe E
structure VA(K:W.Frag)(C:Addr):Prop where
 pg:W.plainGet K C Str.empty=true
 hd:KE W.hasDictIn
 po:KE W.plainOver
 sa:Dy! "__setattr__" (.builtin "object.__setattr__")
theorem VA.get{K:W.Frag}{C:Addr}(c:VA K C)(f:Str):W.plainGet K C f=true:=c.pg
def EB(K:W.Frag)(C:Addr)(f:Str):Prop:=Dn! f none
theorem EB.kF{K:W.Frag}{C:Addr}{f:Str}(n:EB K C f):W.takerIn K C f=A! none:=by unfold W.takerIn;rw[show Dn! f none from n];rfl
structure iZ(K:W.Frag)(C:Addr)(m:Str)(f:Addr):Prop where
 at_:CM! m
 fn:Bt! W.isFn
 kp:Bt! W.keepIn
universe S
theorem P0(I:B!)(e:Bg!)(c:As!)(n:EB X.K C f)(l:fs.lookup f=A! v)(h:∀u s',GM->A?->Q u s'):EQ (getAttr R? f b):=by obtain⟨mA,O,r,_,_,_⟩:=Vb I.DC e;obtain⟨u,hu,ru⟩:=C4! (mA f) (z? l (r f));exact Jhh I.RW O (c.get f) c.hd n hu (Jcp ru) (h u _ DU! ru)
theorem Pz(I:B!)(e:Bg!)(c:As!)(k:iZ X.K C m g)(l:fs.lookup m=none)(h:Q (a! g,bn) s):EQ (getMethod R? m pl):=by obtain⟨mA,O,r,_,_,_⟩:=Vb I.DC e;have hn:mA m=none:=Jnh (z? l (r m));exact Je9 I.RW O (c.get m) k.at_ k.fn hn h
theorem Ol(I:B!)(e:Bg!)(c:As!)(n:EB X.K C f)(hl:fs.length<1000)(ry:U!)(h:∀s',V? (UV (AM! (Ar f y fs))) s'->Q () s'):EQ (setAttr R? f u):=by
 obtain⟨mA,O,r,wi,_,ho⟩:=Vb I.DC e;have hz:(fs.map f?).length<=sizeLine:=by rw[ZA,Cn];lia
 refine Jga I.RW O c.sa c.po n.kF c.hd wi hz λh' O' sb=>h _ ?_;have hd:∃o,Aa! dx o:=let⟨o,_,_,e',_⟩:=O'.ns;⟨o,e'⟩;refine I.write (x:=a) (e:=dx) (N? e True.intro) (h! ho) (λb q hb z=>(sb.2 b hb).trans z) hd ?_;refine⟨D? (Ab O.ne) ho,?_,O.ne,O'.obj,_,O'.ns,λg=>?_,λg hg=>?_⟩;.have:=A5 f y fs;lia
 .show OP ((Ar f y fs).lookup g) (AV! (g=f) u (mA g));rw[Bc];by_cases q:g=f;(.rw[AD q,AD q];exact ry);.rw[AB q,AB q];exact r g
 .by_cases q:g=f;(.rw[q];exact(Mn f y fs).1);.refine(Mn f y fs).2 g (wi g λz=>hg ?_);show(AV! (g=f) u (mA g))=none;rw[AB q];exact z
theorem Inv.AU(I:B!):V? (upd (upd H s.heap.objs.size (.own (AJ!))) AU! (.ins C s.heap.objs.size [])) { s with heap:=(s.heap.push W.emptyDict).push (W.instObj C s.heap.objs.size) }:=by
 have e1:(s.heap.push W.emptyDict).get? s.heap.objs.size=A! W.emptyDict:=ZU s.heap rfl;have e2:((s.heap.push W.emptyDict).push (W.instObj C s.heap.objs.size)).get? AU!=A! (CU! s.heap.objs.size):=by have:=ZU (s.heap.push W.emptyDict) (o:=W.instObj C s.heap.objs.size) rfl;rwa [Heap.size_push] at this
 have e3:(s.heap.push W.emptyDict).Ns s.heap.objs.size (Dg!):=⟨W.emptyDict,#[],_,e1,rfl,(λe he=>absurd he l!),λ_=>rfl⟩;have I1:=I.laid (a:=s.heap.objs.size) (o:=DS! .own) (h':=De! W.emptyDict) (t':=s.toks) (λb u q=>r?) Q! ⟨_,e1⟩;refine I1.laid (a:=AJ!) (o:=.ins C s.heap.objs.size []) (t':=s.toks) (λb u q=>r?) (Nat.le_of_eq (Heap.size_push _ _)) ?_;have ne:s.heap.objs.size≠AJ!:=BH (II _);refine⟨by rw[Ab ne,Ac],BE _,ne,e2,Dg!,(Heap.Ns1.of_empty e3).at λo q=>r?,λ_=>True.intro,λy hy=>absurd rfl hy⟩
theorem Jhx(hb:attributeBase e f env (wT e)=eval e env)(h:Dl! prog (wT e) (λo EA=>BH! (getAttr o f true) Q EA)):Dx! (wT (AC! e f pos)) :=Attribute_any_ h (by rw[arm_eval_Attribute,hb])
universe E
inductive Jlo(K:W.Frag)(f:Str)(x:V)(H1:Hp)(Q:VK):Prop
 | mk (a C dx fs v) (e0:d!) (e1:BY! H1) (e2:VA K C) (e3:EB K C f) (e4:fs.lookup f=A! v) (e5:Q v H1)
def Sn(K:W.Frag)(ta:TE)(f:Str):TE:=B1! (Jlo K f x H1 Q)
def Jmo(K:W.Frag)(ta tv:TE)(f:Str):TS:=Z? tv (λy H1=>o! ta (λx H2=>∃a C dx fs,d!/\BY! H2/\VA K C/\EB K C f/\fs.length<1000 /\
 UF (upd H2 a (AM! (Ar f y fs)))))
def mK(X:Cx)(op:Operator)(rd:Ay!):Prop :=
 ∀(AA:D!)(s:Shared)(σ:St)(H:Hp)(x y:V)(u v:Value)(Q:VK),h? ga (RelV y v->rd x y H Q->AQ! (inplaceOp op u v))
def Jgi(K:W.Frag)(ta tv:TE)(rd:Ay!)(f:Str):TS:=Z? ta (λx H1=>∃a C dx fs v,d!/\BY! H1/\VA K C/\EB K C f/\fs.lookup f=A! v /\
 o! tv (λy H2=>rd v y H2 λz H3=>∃qH ZY,H3 a=A! (.ins C qH ZY)/\ZY.length<1000/\UF (upd H3 a (.ins C qH (Ar f z ZY)))))
universe S
theorem Ao(he:L! e ta)(hb:attributeBase e f X.env (O? e)=DR!):i? AC! e f (Sn X.K ta f):=by intro AA s σ H Q I h;refine Jhx hb Ai!;rintro u s1 ⟨x,H1,I1,rx,a,C,dx,fs,v,ex,ea,c,n,l,q⟩;subst ex;obtain rfl:q!:=rx;exact P0 I1 ea c n l λu' s2 I2 ru=>⟨v,H1,I2,ru,q⟩
theorem Dm(ha:Bl!)(hv:CW!)(hs:Ca! value (some (AC! o f pos'))):Bu! [AC! o f pos'] value (Jmo X.K ta tv f):=by intro AA s σ H D I h;refine plainObj_wpAny_Assign_Attribute (DM! hv) hs;rintro u s1 ⟨y,H1,I1,ry,q⟩;refine DX (ha AA s1 σ H1 _ I1 q) ?_;rintro ov s2 ⟨x,H2,I2,rx,a,C,dx,fs,ex,ea,c,n,l,q2⟩;subst ex;obtain rfl:ov=Di!:=rx;exact Ol I2 ea c n l ry λs3 I3=>k? _ I3 q2
theorem Cq(ha:Bl!)(hv:CW!)(o6:mK X op rd):PS X (.AugAssign (AC! o f qv) op value pos) (Jgi X.K ta tv rd f):=by intro AA s σ H D I h;refine B9! wpAny_AugAssign_AttributeAny;rintro ov s1 ⟨x,H1,I1,rx,a,C,dx,fs,v,ex,ea,c,n,l,q⟩;subst ex;obtain rfl:ov=Di!:=rx;refine P0 I1 ea c n l λu s2 I2 ru=>DX (hv AA s2 σ H1 _ I2 q) ?_;rintro w3 s3 ⟨y,H2,I3,ry,q3⟩;refine DX (o6 AA s3 σ H2 v y u w3 _ I3 ru ry q3) ?_;rintro w4 s4 ⟨z,H3,I4,rz,qH,ZY,QH,l',q4⟩;exact Ol I4 QH c n l' rz λs5 I5=>k? _ I5 q4
inductive Jmw(x:V)(y:V)(H:Hp)(Q:VK):Prop
 | mk i j (_:bi) (_:AZ!) (_:Q (C! (i+j)) H)
inductive Jmp(x:V)(y:V)(H:Hp)(Q:VK):Prop
 | mk i j (_:bi) (_:AZ!) (_:Q (C! (i-j)) H)
theorem D4:mK X .Add Jmw:=by rintro AA s σ H x y u v Q I rx ry ⟨i,j,rfl,rfl,q⟩;obtain⟨t,rfl⟩:=(show pi from rx);obtain⟨t',rfl⟩:=DP! (∃t',v=Value.int j t');exact PyProof.Rows.iadd_int (CL! (C! (i+j)))
theorem yT:mK X .Sub Jmp:=by rintro AA s σ H x y u v Q I rx ry ⟨i,j,rfl,rfl,q⟩;obtain⟨t,rfl⟩:=(show pi from rx);obtain⟨t',rfl⟩:=DP! (∃t',v=Value.int j t');exact PyProof.Rows.isub_int (CL! (C! (i-j)))
universe E
universe S
universe E
structure DI(k:Nat)(A:Around):Prop where
 hd:A.handled=none
 dp:A.depth+3*k+5<recursionLimit
 un:A.units+16*k+200<cLine
theorem DI.mono(r:DI k A)(h:j<=k):DI j A:=⟨r.hd,by have:=r.dp;lia,by have:=r.un;lia⟩
theorem DI.deeper(r:A4! A)(env:Env):DI k (A.deeper env) :=⟨r.hd,by have:=r.dp;show A.depth+1+3*k+5<_;lia,by have:=r.un;show A.units+3+16*k+200<_;lia⟩
theorem Y5{A:Around}{C:Addr}{us:F!}{kw:GE}:(A.under (.builtin "type.__call__" CA!)).depth=A.depth+1:=by first|rfl|simp[Around.under,Code.weight,Code.isCreation,Code.isGuard,Code.isCaller,Code.frames,Code.isFrame,guardIds]
theorem Y4{A:Around}{C:Addr}{us:F!}{kw:GE}:(A.under (.builtin "type.__call__" CA!)).units=A.units+1:=by first|rfl|simp[Around.under,Code.cUnits,Code.frames,Code.isFrame]
theorem DI.make(r:A4! A)(C:Addr)(us:F!)(kw:GE):DI k (A.under (.builtin "type.__call__" CA!)) :=⟨r.hd,by have:=r.dp;rw[Y5];lia,by have:=r.un;rw[Y4];lia⟩
theorem DI.depth(r:DI k A):A.depth<recursionLimit:=by have:=r.dp;lia
theorem DI.units(r:DI k A):A.units+64<cLine:=by have:=r.un;lia
def Jz:TA:=λ_ H Q=>Q [] H
def Dz(ta:TE)(tr:TA):TA:=B1! (o! tr (λxs H2=>Q (x::xs) H2))
universe S
theorem Af:PA X [] Jz:=λ_ _ _ _ H Q I h=>KW ⟨[],H,I,P!,h⟩
theorem Aa(ha:KF)(hr:PA X es t)(hs:xz:=by rfl):PA X (e::es) (Dz te t):=by intro pos AA s σ H Q I h;rw[hs];show wpAny _ _ (spliced ((false,DR!)::backTo pos (Bb! es))) _ _ s;refine B9! HY;rintro u s1 ⟨x,H1,I1,r1,q1⟩;exact DX (hr pos AA s1 σ H1 _ I1 q1) λus s2 ⟨xs,H2,I2,r2,q2⟩=>⟨x::xs,H2,I2,X! r1 r2,q2⟩
inductive Jlm  (xs:E!) (H1:Hp) (Q:VK):Prop
 | mk  (e0:w?) (e1:Aw! (jp p) (upd H1 p J?))
def mQ(t:TA):TE:=j? (λxs H1=>Jlm  xs H1 Q)
inductive Jln  (xs:E!) (H1:Hp) (Q:VK):Prop
 | mk  (e0:w?) (e1:Aw! (jp p) (upd H1 p (.BC xs)))
def qZ(t:TA):TE:=j? (λxs H1=>Jln  xs H1 Q)
theorem Cj(h:PA X es t):i? .Tuple es x1 (mQ t):=by intro AA s σ H Q I hq;refine wpAny_Tuple_spliced (DX (h pos AA s σ H _ I hq) λus s1 ⟨xs,H1,I1,r,z,q⟩=>l? (AY! r.length));have hf:jp s1.heap.objs.size:=I1.DC.fresh (ZG _);refine⟨a! s1.heap.objs.size,upd H1 s1.heap.objs.size J?,I1.laid (t':=s1.toks) (λb u e=>ZT _ e) Q! ?_,rfl,q _ hf⟩;exact⟨z,us,r,⟨_,Os,rfl,_,rfl⟩⟩
theorem Es(h:PA X es t):L! (.List es pos) (qZ t):=by intro AA s σ H Q I hq;refine wpAny_List_spliced (DX (h pos AA s σ H _ I hq) λus s1 ⟨xs,H1,I1,r,z,q⟩=>l? (AY! r.length));have hf:jp s1.heap.objs.size:=I1.DC.fresh (ZG _);refine⟨a! s1.heap.objs.size,upd H1 s1.heap.objs.size (.BC xs),I1.laid (t':=s1.toks) (λb u e=>ZT _ e) Q! ?_,rfl,q _ hf⟩;exact⟨z,us,0,r,Os⟩
universe E
abbrev Sp:=E!->Hp->Y! VK XK
abbrev WS:=v!->Hp->Shared->XK->H!
structure UE(P:Program)(w:World)(K:W.Frag)(mg:V!)(base:Heap)(A:Around)(outer:v!)(s:Shared)(H:Hp):Prop where
 frames:A.frames=A! outer
 mod:Mod K mg base
 bs:∀b o,AC base.get?->a?/\R!
 VU:base.objs.size<=s.heap.objs.size
 LU:s.heap.FunFrames base outer
 XB:∀b∈LM outer,R!
 DC:LN P w H s.heap
 bare:XV s.gens
inductive CE(outer:v!)(P:Program)(w:World)(H:Hp)(s:Shared)(Q:VK)(u:Value)(s':Shared):Prop
 | mk v H' (_:s'.os=s.os) (_:XV s'.gens) (_:Ck! (LM outer) [] s'.heap) (_:LN P w H' s'.heap) (_:A?) (_:Q v H')
def CR(CX:WS)(outer:v!)(P:Program)(w:World)(H:Hp)(s:Shared)(Q:VK)(E:XK)(r:Result)(s':Shared):Prop :=
 match r with
 | .ok (.ret u)=>CE outer P w H s Q u s'
 | .ok _=>False
 | .error e=>CX outer H s E e s'
structure EO(P:Program)(w:World)(K:W.Frag)(mg:V!)(base:Heap)(CX:WS)(k:Nat)(f:Addr)(fd:FuncData)(ps:j!)(sp:Sp):Prop where
 len:∀vs H Q E,sp vs H Q E->vs.length=ps.length
 run:∀(A:Around)(outer:v!)(s:Shared)(H:Hp)(args:Args)(us:F!)(vs:E!)(Q:VK)(E:XK),DI k A->DC! A->BindsTo s fd args (ps.zip us)->lc->sp vs H Q E ->
  codeAny (model P w) A (.call X? args) (CR CX outer P w H s Q E) s
theorem EO.mono{P:Program}{w:World}{K:W.Frag}{mg:V!}{base:Heap}{CX:WS}{j k:Nat}{f:Addr}{fd:FuncData}{ps:j!}{sp:Sp}(F:EO P w K mg base CX j f fd ps sp)(h:j<=k) : EO P w K mg base CX k f fd ps sp:=⟨F.len,λA outer s H args us vs Q E hr=>F.run A outer s H args us vs Q E (hr.mono h)⟩
theorem UE.make{P:Program}{w:World}{K:W.Frag}{mg:V!}{base:Heap}{A:Around}{outer:v!}{s:Shared}{H:Hp}(e:DC! A)(C:Addr)(us:F!)(kw:GE) : DC! (Du! CA!):=⟨by first|exact e.frames|(simpa [Around.under,Code.envs,Code.isFrame,pushEnvs] using e.frames),e.mod,e.bs,e.VU,e.LU,e.XB,e.DC,e.bare⟩
universe S
theorem Inv.dz(I:B!):UE X.prog X.w X.K X.mg X.base X.A X.stack s H :=⟨I.ok.frames,I.ok.mod,I.bs,BA I.ok.VU I.sz,I.stack,I.OZ,I.DC,I.bare⟩
theorem Inv.after(I:B!)(h:CE X.stack X.prog X.w H s Q u s'):EP X AA σ Q u s':=by obtain⟨v,H',os,bare,un,DC,r,q⟩:=h;obtain⟨hh,g,d,t,os'⟩:=s';obtain rfl:os'=s.os:=os;exact⟨v,H',I.call (h':=hh) (g':=g) (d':=d) (t':=t) (ch:=[]) un DC bare (λb z=>absurd z l!),r,q⟩
universe E
def Jki(sp:Sp)(OX:E!)(E:XK)(t:TA):TE:=j? (λvs H1=>sp FB H1 Q E)
inductive Jj2(C:Addr)(m:Str)(sp:Sp)(OX:E!)(E:XK)(t:TA)(σ:St)(x:V)(H1:Hp)(Q:VK):Prop
 | mk (a dx fs) (e0:d!) (e1:BY! H1) (e2:fs.lookup m=none) (e3:o! t (λvs H2=>sp (x::FB) H2 Q E))
def Qw(C:Addr)(m:Str)(sp:Sp)(OX:E!)(E:XK)(ta:TE)(t:TA):TE:=B1! (Jj2 C m sp OX E t σ x H1 Q)
def Zs(C:Addr)(sp:Sp)(OX:E!)(E:XK)(t:TA):TE:=j? (λvs H1=>∀x dx,jp x->jp dx->dx≠x ->
 sp (a! x::FB) (upd (upd H1 dx sB) x (AM! [])) (λv H2=>v=.E_/\Q (S! x) H2) E)
def Binds(K:W.Frag)(fd:FuncData)(ps:j!)(ds:F!):Prop :=
 ∀(s:Shared)(us:F!),wE->(v?).length=ps.length->BindsTo s fd ⟨us,[]⟩ (ps.zip (v?))
theorem Binds.all{K:W.Frag}{fd:FuncData}{ps:j!}(h:∀us:F!,us.length=ps.length->bindArgs fd ⟨us,[]⟩=pure (ps.zip us)):Binds K fd ps []:=λs us _ hl=>by rw[AG] at hl ⊢;exact .of_eq (h us hl)
def Hv(CX:WS)(X:Cx)(E:XK):Prop:=∀(AA:D!)(σ:St)(H:Hp)(s:Shared)(e:Value)(s':Shared),h? (CX X.stack H s E e s') (X.xe e s')
universe S
theorem Yt{AA:D!}{σ:St}{H:Hp}{s:Shared}{Q:VK}{us:F!}{vs:E!}(F:SL)(hr:DI k X.A)(hb:SC)(hd:PP)(hx:SB)(I:B!)(r:lc)(h:sp FB H Q E):B3! X? us:=by
 have r2:Vals (vs++OX) (v?):=r.append hd;have hl:(v?).length=ps.length:=z? r2.length (F.len _ _ _ _ h)
 refine wpAny_call (HW (F.run X.A X.stack s H ⟨us,[]⟩ (v?) FB Q E hr I.dz (hb s us I.RW hl) r2 h) λr s' hq=>?_);cases r with | error e=>exact hx AA σ H s e s' I hq | ok fl =>cases fl with | ret u=>exact I.after hq | next=>exact False.elim hq | brk=>exact False.elim hq | cont=>exact False.elim hq
theorem Co(F:SL)(hr:DI k X.A)(hg:Rs)(hm:Ba! X?)(hk:W.keepIn X.K X?=true)(hb:SC)(hd:PP)(hx:SB)(ha:Au!)(WZ:t?:=by decide)(he:xz:=by rfl)(QM:BF!:=by rfl) : CX! (Jki sp OX E t):=by intro AA s σ H Q I h;refine HX (Jk I hg hm ?_ WZ);refine W.callWith_K (h₀:=X.base) I.ok.mod.WH hk (BC! (λus s1 ⟨vs,H1,I1,r,q⟩=>l? I1.RW)) he QM;exact Yt F hr hb hd hx I1 r q
theorem As{pl:Sem Bool}(he:Bl!)(c:As!)(hm:iZ X.K C m f)(F:SL)(hr:DI k X.A)(hb:SC)(hd:PP)(hx:SB)(ha:Au!)(ow:xz:=by rfl)(QM:BF!:=by rfl)(ht:eval (.Call CC! (e::es) [] pos) X.env=(do
  let ov <-Bj!
  standAt apos.atName
  let(f,first) <-holding [ov] (getMethod ov m pl)
  callWith pos f first (backTo pos (starEach (e::es) X.env)) (Dv! pos)):=by rfl) :
 Dr! CC! (e::es) (Qw C m sp OX E ta t):=by
 intro AA s σ H Q I h
 refine W.methodCall_KW (pl:=pl) Ai! ht
 rintro u s1 ⟨x,H1,I1,rx,a,dx,fs,ex,ea,l,q⟩
 subst ex
 obtain rfl:q!:=rx
 refine Pz I1 ea c hm l ?_
 refine W.callWith_K (first:=bn) (h₀:=X.base) I.ok.mod.WH hm.kp (DX (ha pos AA s1 σ H1 _ I1 q) λus s2 ⟨vs,H2,I2,r,q2⟩=>l? I2.RW) ow QM
 exact Yt (us:=AT::us) (vs:=AT::vs) F hr hb hd hx I2 (X! rfl r) q2
theorem Dr{pl:Sem Bool}(he:Bl!)(c:As!)(hm:iZ X.K C m f)(F:SL)(hr:DI k X.A)(hb:SC)(hd:PP)(hx:SB)(ht:eval (.Call CC! [] [] pos) X.env=(do
  let ov <-Bj!
  standAt apos.atName
  let(f,first) <-holding [ov] (getMethod ov m pl)
  callWith pos f first (backTo pos (starEach [] X.env)) (Dv! pos)):=by rfl) :
 Dr! CC! [] (Qw C m sp OX E ta Jz):=by
 intro AA s σ H Q I h
 refine W.methodCall_KW (pl:=pl) Ai! ht
 rintro u s1 ⟨x,H1,I1,rx,a,dx,fs,ex,ea,l,q⟩
 subst ex
 obtain rfl:q!:=rx
 refine Pz I1 ea c hm l ?_
 exact W.callWith_K0 (first:=bn) I1.RW hm.kp (Yt (us:=bn) (vs:=bn) F hr hb hd hx I1 (X! rfl P!) q)
structure Mk(K:W.Frag)(C f:Addr):Prop where
 makes:KE W.makesIn
 init:CM! "__init__"
 fn:Bt! W.isFn
 kp:W.keepIn K AK!=true
theorem V6{AA:D!}{σ:St}{H:Hp}{s:Shared}{Q:VK}{us:F!}{vs:E!}(M:Mk X.K C f)(F:SL)(hr:A4! X.A)(hb:SC)(hd:PP)(hx:SB)(I:B!)(r:lc)(h:∀x dx,I? x->I? dx->dx≠x->sp (a! x::FB) (upd (upd H dx sB) x (AM! [])) (λv H2=>v=.E_/\Q (S! x) H2) E) : B3! AK! us:=by
 have hq:=h AU! s.heap.objs.size (I.DC.fresh (FC _)) (I.DC.fresh Q!) (BH (II _));have I2:=Inv.AU (C:=C) I;have r2:Vals (DS! V.ref::FB) (Aq!::(v?)):=X! rfl (r.append hd);have hl:(Aq!::us++ds).length=ps.length:=by have e:=r2.length;rw[F.len _ _ _ _ hq] at e;exact e.symm
 refine wpAny_call (Je0 (f:=f) I.RW M.makes M.init (LX.mp M.fn) (HW (F.run _ X.stack _ _ ⟨Aq!::us,[]⟩ (Aq!::(v?)) _ _ E (hr.make C us []) (I2.dz.make C us []) (hb _ (Aq!::us) I2.RW hl) r2 hq) λr s' OG=>?_));cases r with | error e=>exact hx AA σ _ _ e s' I2 OG | ok fl =>cases fl with | ret u =>obtain⟨v,H',I3,rv,ev,q3⟩:=I2.after OG;subst ev;exact⟨rv,⟨DS! V.ref,H',I3,rfl,q3⟩⟩ | next=>exact Dd! OG | brk=>exact Dd! OG | cont=>exact Dd! OG
theorem Ub(M:Mk X.K C f)(F:SL)(hr:A4! X.A)(hg:Rs)(hm:Ba! AK!)(hb:SC)(hd:PP)(hx:SB)(ha:Au!)(WZ:t?:=by decide)(he:xz:=by rfl)(QM:BF!:=by rfl) : CX! (Zs C sp OX E t):=by intro AA s σ H Q I h;refine HX (Jk I hg hm ?_ WZ);refine W.callWith_K (h₀:=X.base) I.ok.mod.WH M.kp (BC! (λus s1 ⟨vs,H1,I1,r,q⟩=>l? I1.RW)) he QM;exact V6 M F hr hb hd hx I1 r q
theorem Jd7(M:Mk X.K C f)(F:SL)(hr:A4! X.A)(hg:Rs)(hm:Ba! AK!)(hb:SC)(hd:PP)(hx:SB)(WZ:t?:=by decide):Dr! (.Name x p) [] (Zs C sp OX E Jz):=by intro AA s σ H Q I h;refine HX (Jk I hg hm ?_ WZ);exact W.callWith_K0 I.RW M.kp (V6 (us:=[]) M F hr hb hd hx I P! h)
universe E
universe S
universe E
structure An(N P:j!)(sc:Scope):Prop where
 kind:sc.kind=.function:=by rfl
 co:sc.isCoroutine=false:=by rfl
 gen:sc.isGenerator=false:=by rfl
 nd:N.Nodup:=by decide +kernel
 pre:N.take P.length=P:=by rfl
 par:∀x∈P,Ad! x?\/M! sc.names.lookup y!:=by decide +kernel
 eF:∀y∈sc.names,y.2≠.free:=by decide +kernel
theorem R7{kindOf:Bi!}{x:Str}:∀{binds:GE} {m:V!},(∀v,(x,v)∉binds)->bindL kindOf binds m x=m x
 | [],_,_=>rfl
 | (n,v)::r,m,h=>by unfold bindL;rw[R7 λw hw=>h w (ZD _ hw)];split;(·(have:x≠n:=by rintro rfl;exact h v ZL);simp[this]);.rfl
theorem R9{kindOf:Bi!}{x:Str}:∀{binds:GE} {m:V!},(∀v,(x,v)∉binds)->bindC kindOf binds m x=m x
 | [],_,_=>rfl
 | (n,v)::r,m,h=>by unfold bindC;rw[R9 λw hw=>h w (ZD _ hw)];split;(.rfl);·(have:x≠n:=by rintro rfl;exact h v ZL);simp[this]
theorem R8{kindOf:Bi!}{x:Str}{v:Value}:∀{P:j!} {vs:F!} {i:Nat} {m:V!},P.Nodup->P[i]?=A! x->vs[i]?=A! v->M! kindOf x? -> bindL kindOf (P.zip vs) m x=A! v
 | [],_,_,_,_,h,_,_=>BB!
 | _::_,[],_,_,_,_,h,_=>BB!
 | p::P,w::vs,0,m,nd,h1,h2,hk=>by simp at h1 h2;subst h1;subst h2;show C9! bindL p;unfold bindL;rw[R7 λv hv=>(AM.mp nd).1 (List.of_mem_zip hv).1,AD hk];simp
 | p::P,w::vs,i+1,m,nd,h1,h2,hk=>by show C9! bindL x;unfold bindL;exact R8 (i:=i) (AM.mp nd).2 (by simpa using h1) (by simpa using h2) hk
theorem Sa{kindOf:Bi!}{x:Str}{v:Value}:∀{P:j!} {vs:F!} {i:Nat} {m:V!},P.Nodup->P[i]?=A! x->vs[i]?=A! v->kindOf x≠A! x? -> bindC kindOf (P.zip vs) m x=A! v
 | [],_,_,_,_,h,_,_=>BB!
 | _::_,[],_,_,_,_,h,_=>BB!
 | p::P,w::vs,0,m,nd,h1,h2,hk=>by simp at h1 h2;subst h1;subst h2;show C9! bindC p;unfold bindC;rw[R9 λv hv=>(AM.mp nd).1 (List.of_mem_zip hv).1,AB hk];simp
 | p::P,w::vs,i+1,m,nd,h1,h2,hk=>by show C9! bindC x;unfold bindC;exact Sa (i:=i) (AM.mp nd).2 (by simpa using h1) (by simpa using h2) hk
def start(N:j!)(vs:E!):St:=vs.map some++List.replicate (N.length-vs.length) none
def Kh(CX:WS)(P:Program)(w:World)(K:W.Frag)(mg:V!)(base:Heap)(N:j!)(qual:Str)(scope:Scope)(f:Addr)(cd:Value)(A:Around)(outer:v!)(s:Shared)(H:Hp)(E:XK):Cx where
 prog:=P
 w:=w
 K:=K
 mg:=mg
 base:=base
 A:=A.deeper (envOfC qual scope s.heap.objs.size f cd)
 N:=N
 HU:=s
 PV:=H
 env:=DA!
 outer:=outer
 stack:=DA!::outer
 ex:=[]
 calm:=true
 fn:=λ_=>true
 pn:=[]
 xe:=λe s'=>wpAny (model P w) (A.deeper (DA!)) (leaving (DA!) e) (λ_ nq=>CX outer H s E e nq) (λe' nq=>CX outer H s E e' nq) s'
theorem X8{sc:Scope}{n:Nat}{x:Str}(h:Ad! y!):∃c,M! (cellsFrom n sc.names []).lookup c:=by have q:=W.cellsFrom_some sc.names n [] (G! h);exact Option.isSome_iff_exists.mp q
theorem Jcl{CX:WS}{P:Program}{w:World}{K:W.Frag}{mg:V!}{base:Heap}{N ps:j!}{qual:Str}{scope:Scope}{f:Addr}{cd:Value}{A:Around}{outer:v!}{s s1:Shared}{H:Hp}{E:XK}{us:F!}{vs:E!}(S:An N ps scope)(hd:A.handled=none)(e0:DC! A)(hl:vs.length=ps.length)(r:lc)(x:InCallC s s.heap.objs.size (bindL (envOfC qual scope s.heap.objs.size f cd).kindOf (ps.zip us) Dg!) (cellsFrom AU! scope.names []) (bindC (envOfC qual scope s.heap.objs.size f cd).kindOf (ps.zip us) Dg!) s1) : Inv (Dc! cd) [] (start N vs) H s1:=by
 have QM:ps.length<=N.length:=by have:=congrArg List.length S.pre;rw[B'] at this;lia
 obtain⟨h1,tk,rfl,hk⟩:=x.done;have gq:∀b:Addr,b∉(Kh CX P w K mg base N qual scope f cd A outer s H E).ex:=λb z=>absurd (show b∈([]:G?) from z) l!;refine⟨⟨e0.mod,S.kind,rfl,rfl,ZG _,λy z c h1 h2=>?_,λy hy=>?_,λy c _ h=>?_,λ_=>hd,Around.frames_deeper e0.frames,h! (F? rfl),λb z=>absurd z (gq b),e0.bs,e0.VU,λb _ _=>gq b,λb z=>absurd z (gq b),e0.LU,e0.XB⟩,rfl,e0.bare,Un.kept hk,⟨_,x.toInCall.ns,λi y v h1 h2 h3=>?_⟩,λy c h=>⟨_,x.cell y c h⟩,e0.DC.fresh (ZG _),λy c h=>?_,λp hp=>absurd (show p∈([]:D!) from hp) l!,e0.DC.kept hk,?_⟩;.exact name_of_addr x.apart (IL h1) (IL h2)
 .have hy:BW! y y!\/BW! y .free:=hy;rcases hy with hy|hy;(.exact X8 hy);.exact absurd rfl (S.eF _ (IL hy))
 .exact EF (x.above y c (IL h))
 ·(have hi:i<vs.length:=by unfold start at h2;by_cases hi:i<vs.length;(.exact hi);.rw[MB (by simpa using hi)] at h2;rw[List.getElem?_replicate] at h2;split at h2<;>cases h2);(have ha:vs[i]?=A! v:=by unfold start at h2;rw[NC (by simpa using hi),ZH] at h2;cases e:vs[i]? with | none=>rw[e] at h2;cases h2 | some a=>rw[e] at h2;cases h2;rfl);obtain⟨u,hu,rv⟩:=r.get ha;(have hp:ps[i]?=A! y:=by rw[<-S.pre,List.getElem?_take_of_lt (I!)];exact h1);(have uf:ps.Nodup:=z? S.pre (S.nd.sublist (List.take_sublist _ _)));refine P? u rv;rcases S.par y (ZP hp) with k|k;(.exact G! ⟨k,R8 uf hp hu k⟩);.obtain⟨c,e⟩:=X8 (n:=AJ!) k;refine c? (G! k) c e ?_;have q:=x.cell y c e;rw[Sa uf hp hu (by show scope.names.lookup y≠_;rw[k];decide)] at q;exact q
 .exact e0.DC.fresh (EF (x.above y c (IL h)))
 .unfold start;show _=N.length;rw[ZE,ZA,List.length_replicate];lia
theorem yC{CX:WS}{P:Program}{w:World}{K:W.Frag}{mg:V!}{base:Heap}{k:Nat}{f:Addr}{name qual:Str}{params:Arguments}{body:K! Stmt}{scope:Scope}{dV kV doc pm D_ ct oc:Value}{an od:i! Addr}{cI:Array (Option Value)}{N ps:j!}{sp:Sp}(lk:K.lookup f=A! ⟨oc,od,.func (W.fnOf name qual params body scope dV kV doc pm an D_ ct),cI⟩)(VQ:W.codeIn K D_ qual=true)(S:An N ps scope)(len:∀vs H Q E,sp vs H Q E->vs.length=ps.length)(SR:∀(A:Around) (outer:v!) (s:Shared) (H:Hp) (vs:E!) (Q:VK) (E:XK),DI k (A.deeper (envOfC qual scope s.heap.objs.size f D_))->sp vs H Q E -> ∃t,OY (Dc! D_) body t/\t { nx:=λ_ H'=>Q .E_ H',rt:=Q } (start N vs) H) : EO P w K mg base CX (k+1) f (W.fnOf name qual params body scope dV kV doc pm an D_ ct) ps sp:=by
 refine⟨len,λA outer s H args us vs Q E hr e0 hb r YY=>?_⟩;have hl:=len _ _ _ _ YY;have KX:wE:=e0.mod.WH.keeps λb o e=>AW! e0.bs;have lim:s.heap.NoLimit:=e0.mod.nolimit.keeps λb o e=>AW! e0.bs;have JE:∀y∈ps.zip us,BW! y.1 x?\/(BW! y.1 y!/\((cellsFrom AU! scope.names []).lookup y.1).isSome=true):=λ⟨n,v⟩ hy=>by rcases S.par n (List.of_mem_zip hy).1 with q|q;(.exact G! q);.exact h! ⟨q,W.cellsFrom_some _ _ _ (G! q)⟩
 refine codeAny_call_function hr.depth (KX _ _ lk) rfl S.co S.gen rfl (W.codeRec_of KX VQ) (hb _ _ _ _ ?_);refine wpAny_newFunctionEnv_cells S.kind JE λenv he s1 x=>?_;subst he;refine⟨lim.keeps x.toInCall.keep,codeAny_func ?_⟩;obtain⟨t,ht,hq⟩:=SR A outer s H vs Q E (hr.deeper _) YY;have I:Inv (Dc! D_) [] (start N vs) H s1:=Jcl S hr.hd e0 hl r x;refine EC (ht [] s1 (start N vs) H _ I hq) (λfl s' hs=>?_) λe s' hs=>hs;have fin:∀{ER:St} {H':Hp} {v:V} {u:Value},Inv (Dc! D_) [] ER H' s'->A?->Q v H'->CE outer P w H s Q u s' :=λ{ER H' v u} J rv q=>⟨v,H',J.os,J.bare,J.base,J.DC,rv,q⟩;cases fl with | ret u =>obtain⟨v,ER,H',J,rv,q⟩:=hs;exact fin J rv q | next =>obtain⟨ER,H',J,q⟩:=hs;exact fin (v:=V.E_) (u:=Value.none) J rfl q | brk =>obtain⟨_,_,_,q⟩:=hs;exact False.elim q | cont =>obtain⟨_,_,_,q⟩:=hs;exact False.elim q
universe S
variable {X:Cx}{x:Str}{p pos:Pos}{e:Expr}{es:List Expr}{t:TA}{id T:String}{r:List V->Hp->VK->Prop}
def tf(r:E!->Ch)(t:TA):TE:=j? (λvs H1=>r vs H1 Q)
theorem Bm(hc:Ga X Am! r)(hg:Rs)(hm:X.mg x=none)(hv:M! bootBuiltins Am!)(ha:Au!)(hn:BM!:=by decide)(WZ:t?:=by decide)(he:xz:=by rfl)(QM:BF!:=by rfl):CX! (tf r t):=by intro AA s σ H Q I h;refine HX (Y8 I hg hm hv ?_ hn WZ);exact PyProof.Rows.callWith_builtin1 (BC! (λus s1 ⟨vs,H1,I1,r1,q1⟩=>C7! hc vs us Q)) he QM
theorem Df(hc:Ga X (C? T) r)(hg:Rs)(hm:X.mg x=none)(hv:M! bootBuiltins (C? T))(ha:Au!)(hn:BM!:=by decide)(WZ:t?:=by decide)(he:xz:=by rfl)(QM:BF!:=by rfl):CX! (tf r t):=by intro AA s σ H Q I h;refine HX (Y8 I hg hm hv ?_ hn WZ);exact PyProof.Rows.callWith_type1 (BC! (λus s1 ⟨vs,H1,I1,r1,q1⟩=>C7! hc vs us Q)) he QM
universe E
universe S
variable [DecidableEq κ]
def Ci(kvs:g!)(k:κ):i! V:=(kvs.find? Dq!).map At
def putK(kvs:g!)(k:κ)(v:V):g! :=
 if CH!=true then kvs.map (Cc! (kv.1,v)) else kvs++[(k,v)]
def Dt(kvs:g!)(k:κ):g!:=kvs.filter λkv=>N! (kv.1≠k)
theorem Jc7:Ci ([]:g!) k=none:=rfl
theorem Ft{p:κ×V}{r:g!}{k:κ}(e:m?):Ci (p::r) k=A! p.2:=by simp[Ci,BN,e]
theorem Eg{p:κ×V}{r:g!}{k:κ}(e:¬m?):Ci (p::r) k=Ci r k:=by simp[Ci,BN,e]
theorem Kq(k:κ):∀kvs:g!,CH!=(Ci kvs k).isSome
 | []=>rfl
 | p::r=>by rw[List.any_cons];by_cases e:m?;(.simp only[Ft e,decide_eq_true e,Bool.true_or,Option.isSome_some]);.rw[Eg e,decide_eq_false e,Bool.false_or];exact Kq k r
theorem Ff(kvs:g!)(k:κ)(v:V):(putK kvs k v).length<=kvs.length+1:=by
 unfold putK;split;.rw[ZA];lia
 .rw[ZE,BF,BS];lia
theorem Ex{kvs:g!}{k:κ}(v:V)(h:A7!=none):putK kvs k v=kvs++[(k,v)]:=by unfold putK;rw[Kq,h];exact AB (DJ!)
theorem OP.KI(r:OP o u):o.isSome=u.isSome:=by cases o with | none=>(cases u with | none=>rfl | some _=>exact wP) | some _=>cases u with | none=>exact wP | some _=>rfl
theorem OP.getD(r:OP o u)(rd:RelV d d'):RelV (o.getD d) (u.getD d'):=by cases o with | none=>(cases u with | none=>exact rd | some _=>exact wP) | some _=>cases u with | none=>exact wP | some _=>exact r
theorem KV.val(r:x!)(k:κ):OP Db! (valueAt vs k):=by unfold KV at r;induction r with | nil=>exact True.intro | @cons p q ps qs h t ih =>obtain⟨h1,h2⟩:=h;by_cases e:m?;(.have e':q.1=k:=h1.symm.trans e;(have b:valueAt (q::qs) k=A! q.2:=by simp[valueAt,BN,e']);rw[Ft e,b];exact h2);.have e':¬q.1=k:=BJ!;(have b:valueAt (q::qs) k=valueAt qs k:=by simp[valueAt,BN,e']);rw[Eg e,b];exact ih
theorem KV.any(r:x!)(k:κ):CH!=vs.any Dq!:=by unfold KV at r;induction r with | nil=>rfl | cons h t ih=>rw[List.any_cons,List.any_cons,ih,h.1]
theorem KV.dQ(r:x!)(k:κ)(ry:U!) : KV (kvs.map (Cc! (kv.1,y))) (vs.map (Cc! (kv.1,u))):=by unfold KV at r ⊢;induction r with | nil=>exact P! | @cons p q ps qs h t ih =>rw[AI,AI];refine X! ?_ ih;obtain⟨h1,h2⟩:=h;by_cases e:m?;(.rw[AD e,AD (h1.symm.trans e)];exact⟨h1,ry⟩);.rw[AB e,AB (BJ!)];exact⟨h1,h2⟩
theorem KV.put{kvs:g!}{vs:K! (κ×Value)}(r:x!)(k:κ){y:V}{u:Value}(ry:U!):KV (putK kvs k y) (stored vs k u):=by
 unfold putK stored;rw[r.any k];by_cases e:(vs.any Dq!)=true;.rw[AD e,AD e];exact r.dQ k ry
 .rw[AB e,AB e];exact Paired.snoc r (F? ry)
theorem KV.drop{kvs:g!}{vs:K! (κ×Value)}(r:x!)(k:κ):KV (Dt kvs k) (without vs k):=by unfold KV at r ⊢;unfold Dt without;induction r with | nil=>exact P! | @cons p q ps qs h t ih =>obtain⟨h1,h2⟩:=h;rw[CY,CY];by_cases e:m?;(·(have a:¬Cb! p.1:=by simp[e]);(have b:¬Cb! q.1:=by simp[h1.symm.trans e]);rw[AB a,AB b];exact ih);.have e':¬q.1=k:=BJ!;(have a:Cb! p.1:=by simp[e]);(have b:Cb! q.1:=by simp[e']);rw[AD a,AD b];exact X! ⟨h1,h2⟩ ih
theorem KV.length(r:x!):kvs.length=vs.length:=Paired.length r
theorem Jfl(kvs:g!)(k:κ):(Dt kvs k).length<=kvs.length:=AV _ _
universe E
theorem Lo(r:RelV (kV k) u):(Bq P w).is k u=true:=by cases k with | inl i=>obtain⟨t,e⟩:=Uf pi;subst e;exact Xc P w i t | inr x=>obtain⟨t,e⟩:=Bx! Value.str x;subst e;exact Xb P w x t
theorem Ri:∀{ks:Tk} {us:F!},Vals (ks.map kV) us->ItemsAre WP ks us
 | [],_,r=>by rw[FO] at r;cases r;exact P!
 | k::ks,_,r=>by rw[AI] at r;cases r with | cons h t=>exact X! (Lo h) (Ri t)
abbrev KT(H:Hp):Y! ci Cd!:=Paired λp q=>p.1=q.1/\H? q.2.1 (.AZ (p.1.map kV))/\RelV p.2 q.2.2
theorem KT.val(r:wv)(k:Tk):OP Db! ((atKey xs k).map At):=by induction r with | nil=>exact True.intro | @cons p q ps qs h t ih =>obtain⟨h1,_,h2⟩:=h;by_cases e:m?;(.have e':q.1=k:=h1.symm.trans e;(have b:atKey (q::qs) k=A! q.2:=by simp[atKey,BN,e']);rw[Ft e,b];exact h2);.have e':¬q.1=k:=BJ!;(have b:atKey (q::qs) k=atKey qs k:=by simp[atKey,BN,e']);rw[Eg e,b];exact ih
theorem KT.dQ(r:wv)(k:Tk)(ry:U!) : KT H (kvs.map (Cc! (kv.1,y))) (xs.map (putAt k u)):=by induction r with | nil=>exact P! | @cons p q ps qs h t ih =>rw[AI,AI];refine X! ?_ ih;obtain⟨h1,h2,h3⟩:=h;unfold putAt;by_cases e:m?;(.rw[AD e,AD (h1.symm.trans e)];exact⟨h1,h2,ry⟩);.rw[AB e,AB (BJ!)];exact⟨h1,h2,h3⟩
theorem KT.put{H:Hp}{kvs:ci}{xs:Cd!}(r:wv)(k:Tk){b:Addr}{y:V}{u:Value}(hb:A9!)(ry:U!) : KT H (putK kvs k y) (storedH xs k b u):=by
 have e:CH!=(atKey xs k).isSome:=by rw[Kq,(r.val k).KI,Option.isSome_map]
 unfold putK storedH;rw[e];by_cases q:(atKey xs k).isSome=true;.rw[AD q,AD q];exact r.dQ k ry
 .rw[AB q,AB q];exact Paired.snoc r ⟨rfl,hb,ry⟩
theorem KT.keeps(r:wv)(ht:∀b ys,KM (.AZ ys) (.AZ ys)):KT H' kvs xs :=qU r λ_ _ z=>⟨z.1,ht _ _ z.2.1,z.2.2⟩
universe S
theorem yH(ok:w!)(e:Db u):AS! u:=e.ok ok
theorem L4(ok:w!)(e:Bw!):CV! (∃vs,x!/\h.DictOf WP a vs) :=BR! AL! (yH ok e)
theorem X2(ok:w!)(e:Ag!):CV! (∃vs,x!/\h.DictOf WP a vs):=L4 ok (G! e)
theorem Ik(ok:w!)(e:AI! (.AZ (ks.map kV))):(tupleKind (Bq P w)).is h ks a:=by obtain⟨_,its,r,o,h1,h2,n,h3⟩:=(BR! (.AZ (ks.map kV)) (ok a _ e));exact⟨o,its.toArray,n,h1,h2,h3,by simpa using Ri r⟩
theorem L3(ok:w!)(e:Db DX!):Ci!/\DV! /\ ∃xs,wv/\h.DictOfH Dt! a xs:=by
 obtain⟨z,y,xs,r,o,es,ep,h1,h2,h3,h4,h5⟩:=(BR! DX! (yH ok e));refine⟨z,y,xs,r,o,es,ep,h1,h2,h3,h4,λx hx=>?_,h5⟩;have all:∀{l:ci} {m:Cd!},KT H l m->∀x∈m,(tupleKind (Bq P w)).is h x.1 x.2.1:=by intro l m q;induction q with | nil=>intro x hx;exact nomatch hx | @cons p q ps qs hq t ih =>intro x hx;rcases ZM hx with e|hx;(.subst e;exact Ik ok (z? hq.1 hq.2.1));.exact ih x hx
 exact all r x hx
theorem Rz(ok:w!)(e:Bh!):Ci!/\DV! /\ ∃xs,wv/\h.DictOfH Dt! a xs:=L3 ok (G! e)
universe E
def DM(H:Hp)(a:Addr)(y:V)(r:i! V):Prop :=
 (∃kvs k,Bw!/\y=kV k/\r=A7!)\/∃kvs k b,Db DX!/\y=.ref b/\A9!/\r=A7!
def F_(H:Hp)(a:Addr)(y v:V)(H':Hp):Prop :=
 (∃kvs k,Ag!/\y=kV k/\DE!/\H'=upd H a (.dK DZ!)) \/
 ∃kvs k b,Bh!/\y=.ref b/\A9!/\DE!/\H'=upd H a (.dT DZ!)
theorem DM.k{H:Hp}{a:Addr}{kvs:Q?}{k:Key}(e:Ag!):DM H a (kV k) Db!:=G! ⟨kvs,k,G! e,rfl,rfl⟩
theorem DM.t{H:Hp}{a b:Addr}{kvs:ci}{k:Tk}(e:Bh!)(eb:A9!):DM H a (S! b) Db!:=h! ⟨kvs,k,b,G! e,rfl,eb,rfl⟩
theorem F_.k{H:Hp}{a:Addr}{kvs:Q?}{k:Key}{v:V}(e:Ag!)(hl:DE!):F_ H a (kV k) v (UV (.dK DZ!)):=G! ⟨kvs,k,e,rfl,hl,rfl⟩
theorem F_.t{H:Hp}{a b:Addr}{kvs:ci}{k:Tk}{v:V}(e:Bh!)(eb:A9!)(hl:DE!) : F_ H a (S! b) v (UV (.dT DZ!)):=h! ⟨kvs,k,b,e,rfl,eb,hl,rfl⟩
universe S
theorem Inv.big(I:B!):sysModules<s.heap.objs.size:=by have h:mainGlobals<s.heap.objs.size:=(I.mod.glob.keeps I.bk).lt;exact OR (DJ!) h
theorem R3(hu:wS)(I:B!)(g:DM H a y b?)(ry:U!)(h:Cx! GM v) : EQ (getItem R? u):=by
 rcases g with⟨kvs,k,e,ey,l⟩|⟨kvs,k,b,e,ey,eb,l⟩;.subst ey;obtain⟨z,hd,vs,rel,dd⟩:=p?;obtain⟨w',hw,PH⟩:=C4! (valueAt vs k) (N? l (rel.val k));exact wpAny_getItem_of NE dd.mapOf hw (h w' _ DU! PH)
 .subst ey;cases wp;obtain⟨z,hd,xs,rel,dd⟩:=IN;obtain⟨w',hw,PH⟩:=C4! ((atKey xs k).map At) (N? l (rel.val k));obtain⟨p,hp,GO⟩:=Option.map_eq_some_iff.mp hw;refine wpAny_getItem_heap (ET hu) Cy! dd hp ?_;rw[GO];exact h w' _ DU! PH
theorem Jm4(hu:wS)(I:B!)(g:Ar!)(ry:U!)(h:∀s',GM->Q (.bool o.isSome) s') : EQ (compareOp .In u R?):=by
 rcases g with⟨kvs,k,e,ey,l⟩|⟨kvs,k,b,e,ey,eb,l⟩;.subst ey;obtain⟨z,hd,vs,rel,dd⟩:=p?;refine wpAny_in_of NE hd dd.mapOf ?_;rw[<-BS!,<-l];exact Cz!
 .subst ey;cases wp;obtain⟨z,hd,xs,rel,dd⟩:=IN;refine wpAny_in_heap (ET hu) Cy! hd dd ?_;have q:=BS!;rw[Option.isSome_map] at q;rw[<-q,<-l];exact Cz!
theorem Jht(hu:wS)(I:B!)(g:Ar!)(ry:U!)(h:∀s',GM->Q (.bool (!o.isSome)) s') : EQ (compareOp .NotIn u R?):=by
 rcases g with⟨kvs,k,e,ey,l⟩|⟨kvs,k,b,e,ey,eb,l⟩;.subst ey;obtain⟨z,hd,vs,rel,dd⟩:=p?;refine wpAny_notIn_of NE hd dd.mapOf ?_;rw[<-BS!,<-l];exact Cz!
 .subst ey;cases wp;obtain⟨z,hd,xs,rel,dd⟩:=IN;refine wpAny_notIn_heap (ET hu) Cy! hd dd ?_;have q:=BS!;rw[Option.isSome_map] at q;rw[<-q,<-l];exact Cz!
theorem F9(I:B!)(mu:iY (H a))(hs:Heap.SameBut a s.heap h')(he:∃q,Ab! q)(new:DN X.prog X.w (UV ob) h' a ob) : V? (UV ob) SZ :=I.write (x:=a) (e:=a) mu TD (λb q hb z=>(hs.2 b hb).trans z) he new
theorem Zj(z:Ci!)(hd:DV!)(rel:x!)(dd:h'.DictOf WP a vs) : DN P w H' h' a AL!:=⟨z,hd,vs,rel,dd⟩
theorem R1{H':Hp}{Q:Ae!}(hu:wS)(I:B!)(g:F_ H a y v H')(ry:U!)(rv:RelV v r)(h:∀s',KB->Q () s') : EQ (setItem R? u r):=by
 rcases g with⟨kvs,k,e,ey,l,eH⟩|⟨kvs,k,b,e,ey,eb,l,eH⟩;.subst ey eH;obtain⟨z,hd,vs,rel,dd⟩:=X2 I.DC e;(have hz:vs.length<=sizeLine:=AY! rel.length);(have hl:(putK kvs k v).length<=sizeLine:=by have:=Ff kvs k v;lia);refine wpAny_setItem_pairs (hsz:=hz) NE dd λh' WO hs=>h _ ?_;have he:∃q,Ab! q:=let⟨q,_,_,hq,_⟩:=WO;CT!;exact Cv! I he (Zj hl hd (rel.put k rv) WO)
 .subst ey eH;cases wp;obtain⟨z,hd,xs,rel,dd⟩:=Rz I.DC e;(have hz:w?:=AY! (Paired.length rel));(have hl:(putK kvs k v).length<=sizeLine:=by have:=Ff kvs k v;lia);refine wpAny_setItem_heap (hsz:=hz) (ET hu) Cy! dd λh' WO hs=>h _ ?_;obtain⟨q,es,ep,hq,h2,h3,h4,_,h5⟩:=WO;refine Cv! I CT! ⟨hl,hd,_,(rel.put k eb rv).keeps λc ys ec=>?_,q,es,ep,hq,h2,h3,h4,h5⟩;rw[Ab (O2 ec e (λz=>nomatch z))];exact ec
universe E
universe S
theorem Jlc(I:B!)(e:Ag!)(ry:RelV (kV k) u)(l:A7!=A! v)(hm:more=[]\/∃x,more=[x])(h:Cx! (V? (UV (.dK (Dt kvs k))) s') v):Ch! "dict.pop" (AT::u::more):=by
 obtain⟨z,hd,vs,rel,dd⟩:=X2 I.DC e;obtain⟨w',hw,PH⟩:=C4! (valueAt vs k) (z? l (rel.val k));have hp:(keyPart u).isSome=true:=by cases k with | inl i=>obtain⟨t,q⟩:=DP! pi;subst q;rfl | inr x=>obtain⟨t,q⟩:=DP! (∃t,u=Value.str x t);subst q;rfl
 have ha:argsOk "dict.pop" ⟨AT::u::more,[]⟩:=by rcases hm with q|⟨x,q⟩;(.subst q;exact PySem.F.args_dict_pop_2 _ _);.subst q;exact PySem.F.args_dict_pop_3 _ _ _
 refine KS KD dd.typeIs PySem.F.entry_dict_pop ha (meets_dict_pop_there Cf! a NE more hm hp) ⟨vs,w',dd,AY! rel.length,hw,λh' WO hs=>h w' _ ?_ PH⟩;have he:∃q,Ab! q:=let⟨q,_,_,hq,_⟩:=WO;CT!;exact Cv! I he (Zj (BA (Jfl kvs k) z) hd (rel.drop k) WO)
theorem Jld(I:B!)(e:Bw!)(h:∀t s',GM->Q (C! kvs.length t) s'):Ch! "len" bn:=by obtain⟨z,hd,vs,rel,dd⟩:=p?;refine call_len_dict hd dd (by rw[<-rel.length];rw[Cn] at z;lia) ?_;rw[<-rel.length];exact h _ _ DU!
universe E
def xg(i:Expr):Prop:=∀ov iv,subscripted i false ov iv=operate [ov,iv] (getItem ov iv)
theorem Jf7{prog:Program}{w:World}{A:Around}{E:H!}{s:Shared}{env:Env}{value slice:Expr}{pos:Pos}{T id:String}{Q:H!}(hl:typeLookup (C? T) "__getitem__"=pure (some Am!))(hs:xg slice)(h:Dl! prog (wT value) (λo EA=>BH! (wT slice) (λi QQ=>QQ.TypeIs o T/\BH! (getItem o i) Q QQ) EA)) : Dx! (wT (y? value slice pos)):=by
 refine Subscript_ (EC h (λo EA h₁=>EC h₁ (λi QQ di=>?_) DH!) DH!);obtain⟨hT,di⟩:=di;unfold subscriptTail;refine ZR ?_;rw[getitemInPython_of_ne hT.not_modules];refine ZR (wpAny_specialOf hT hl ?_);have fin:BH! (subscripted slice false o i) (λr ix=>BH! (letTemporaryGo value o r >>= λ_=>pure r) Q ix) QQ:=D? (hs o i) (wpAny_operating (EC di (λr ix r4=>ZR (wpAny_letTemporaryGo (ZS r4))) DH!))
 first | exact ZS (ZR fin) | exact ZR (ZS (ZR fin)) | exact ZR fin
theorem X4(I:B!)(g:Ar!):s.TypeIs R? "dict":=by
 rcases g with⟨kvs,k,e,_,_⟩|⟨kvs,k,b,e,_,_,_⟩;.obtain⟨_,_,vs,_,dd⟩:=p?;exact dd.typeIs
 .obtain⟨_,_,xs,_,dd⟩:=IN;exact dd.typeIs
inductive Jj3  (x:V) (y:V) (H2:Hp) (Q:VK):Prop
 | mk (a v) (e0:d!) (e1:DM H2 a y b?) (e2:Q v H2)
def Qx(td ty:TE):TE:=B2! (Ao! (Jj3  x y H2 Q))
inductive Jlp  (x:V) (y:V) (H2:Hp) (Q:VK):Prop
 | mk (a o) (e0:d!) (e1:DM H2 a y o) (e2:Q (.bl o.isSome) H2)
def Jl5(ty td:TE):TE:=DL! ty (λy H1=>o! td (λx H2=>Jlp  x y H2 Q))
inductive Jfz  (x:V) (y:V) (H2:Hp) (Q:VK):Prop
 | mk (a o) (e0:d!) (e1:DM H2 a y o) (e2:Q (.bl (!o.isSome)) H2)
def Jf6(ty td:TE):TE:=DL! ty (λy H1=>o! td (λx H2=>Jfz  x y H2 Q))
inductive Jj4  (x:V) (y:V) (v:V) (H3:Hp) (σ:St) (D:Ends):Prop
 | mk (a H4) (e0:d!) (e1:F_ H3 a y v H4) (e2:UF H4)
def Jkq(td ty tv:TE):TS:=Z? tv (λv H1=>o! td (λx H2=>ty σ H2 λy H3=>Jj4  x y v H3 σ D))
def Jkr(td ty tv:TE)(rd:Ay!):TS:=Z? td (λx H1=>Ao! (∃a v,d!/\DM H2 a y b? /\
 tv σ H2 λy2 H3=>rd v y2 H3 λz H4=>∃H5,F_ H4 a y z H5/\UF H5))
universe S
theorem Ba(hu:No)(ho:u?)(hi:A5!)(hs:xg i:=by exact λ_ _=>rfl):i? y? o i (Qx td ty):=by intro AA s σ H Q I h;refine Jf7 PySem.F.slot_dict_getitem.lookup hs (AH! ho (λu s1 ⟨x,H1,I1,rx,q1⟩=>Af! hi (λiv s2 ⟨y,H2,I2,ry,a,v,ex,g,q2⟩=>?_)));subst ex;obtain rfl:q!:=rx;exact⟨X4 I2 g,BI! R3 (DG! ⟨v,H2,I3,PH,q2⟩)⟩
theorem Ka(hu:No)(hi:A5!)(ho:u?):PC X .In i o (Jl5 ty td):=by intro AA s σ H Q I h;refine DX (AG! hi h) λiv s1 ⟨y,H1,I1,ry,q1⟩=>Bp! ho;rintro u s2 ⟨x,H2,I2,rx,a,ov,ex,g,q2⟩;subst ex;obtain rfl:q!:=rx;exact BI! Jm4 (λs3 I3=>⟨.bl ov.isSome,H2,I3,rfl,q2⟩)
theorem Dv(hu:No)(hi:A5!)(ho:u?):PC X .NotIn i o (Jf6 ty td):=by intro AA s σ H Q I h;refine DX (AG! hi h) λiv s1 ⟨y,H1,I1,ry,q1⟩=>Bp! ho;rintro u s2 ⟨x,H2,I2,rx,a,ov,ex,g,q2⟩;subst ex;obtain rfl:q!:=rx;exact BI! Jht (λs3 I3=>⟨.bl (!ov.isSome),H2,I3,rfl,q2⟩)
theorem B6(hu:No)(ho:u?)(hi:A5!)(hv:CW!)(hs:Ca! value (some (y? o i pos'))) : Bu! [y? o i pos'] value (Jkq td ty tv):=by intro AA s σ H D I h;refine wpAny_Assign_Subscript (AH! hv (λr s1 ⟨v,H1,I1,rv,q1⟩=>Af! ho (λu s2 ⟨x,H2,I2,rx,q2⟩=>Bd! hi s2 I2 (λiv s3 ⟨y,H3,I3,ry,a,H4,ex,g,q3⟩=>?_)))) hs;subst ex;obtain rfl:q!:=rx;exact R1 hu I3 g ry rv λs4 I4=>k? H4 I4 q3
theorem K9(hu:No)(ho:u?)(hi:A5!)(hv:CW!)(o6:mK X op rd)(ha:∀ov iv new,augStore i ov iv new=(do holding [new,ov,iv] (setItem ov iv new);release [new,ov,iv] [];pure .next)):PS X (.AugAssign (y? o i qv) op value pos) (Jkr td ty tv rd):=by
 intro AA s σ H D I h
 refine wpAny_AugAssign_SubscriptAny (AH! ho (λu s1 ⟨x,H1,I1,rx,q1⟩=>Af! hi (λiv s2 ⟨y,H2,I2,ry,a,v,ex,g,q2⟩=>?_))) ha
 subst ex
 obtain rfl:q!:=rx
 refine BI! R3 (DG! (Bd! hv s3 I3 (λw2 s4 ⟨y2,H3,I4,ry2,q3⟩=>DX (o6 AA s4 σ H3 v y2 w' w2 _ I4 PH ry2 q3) ?_)))
 rintro w3 s5 ⟨z,H4,I5,rz,H5,g5,q4⟩
 exact R1 hu I5 g5 ry rz λs6 I6=>k? H5 I6 q4
universe E
theorem X3(h:Heap)(hb:sysModules<h.objs.size):DN P w H (h.push (Dk! "dict" .dict (#[]))) h.objs.size (.dK []) :=⟨BE _,DR.mpr (Ne.symm (BH hb)),[],P!,Heap.DictOf.new h⟩
theorem X0(h:Heap)(hb:sysModules<h.objs.size):DN P w H (h.push (Dk! "dict" .dict (#[]))) h.objs.size (.dT []) :=⟨BE _,DR.mpr (Ne.symm (BH hb)),[],P!,_,#[],0,Os,⟨rfl,rfl,rfl⟩,rfl,rfl,CK⟩
def Jit:TE:=λ_ H Q=>Aw! (I? p) (upd H p (.dK []))
def Jis:TE:=λ_ H Q=>Aw! (I? p) (upd H p (.dT []))
universe S
theorem Fd:i? .Dict [] [] Jit:=λAA s σ H Q I h =>wpAny_Dict_empty (Cn! (I.laid (a:=s.heap.objs.size) (o:=.dK []) (t':=s.toks) (λ_ _ q=>r?) Q! (X3 s.heap I.big)) (h _ (I.DC.fresh Q!)))
theorem Ds:i? .Dict [] [] Jis:=λAA s σ H Q I h =>wpAny_Dict_empty (Cn! (I.laid (a:=s.heap.objs.size) (o:=.dT []) (t':=s.toks) (λ_ _ q=>r?) Q! (X0 s.heap I.big)) (h _ (I.DC.fresh Q!)))
universe E
def Yf:K! (TE×TE)->St->AP! (Z! (K! (V×V)))
 | [],_,H,Q=>Q [] H
 | (tk,tv)::r,σ,H,Q=>db tk (o! tv (λy H2=>Yf r σ H2 λps H3=>Q ((x,y)::ps) H3))
abbrev VV:Y! (K! (V×V)) (K! (Value×Value)):=Paired λp q=>RelV p.1 q.1/\RelV p.2 q.2
def mE(X:Cx)(pos:Pos)(keys:K! (Option Expr))(values:ca)(cB:K! (TE×TE)):Prop :=
 ∀(AA:D!)(s:Shared)(σ:St)(H:Hp)(Q:Z! (K! (V×V))),Df! (Yf cB σ H Q ->
  DW! (evalPairs (pairTrees keys values X.env pos)) (λvs s'=>∃ps H',KB/\VV ps vs/\Q ps H'))
theorem Jgm:mE X pos [] [] []:=λAA s σ H Q I h=>pairTrees_nil_walk ⟨[],H,I,P!,h⟩
theorem Ox(hk:L! k tk)(hv:L! v tv)(hr:mE X pos ks vs cB) : mE X pos (A! k::ks) (v::vs) ((tk,tv)::cB):=λAA s σ H Q I h =>pairTrees_cons_walk (AH! hk (λu s1 ⟨x,H1,I1,rx,q1⟩=>Af! hv (λw2 s2 ⟨y,H2,I2,ry,q2⟩ =>Bd! hr s2 I2 (λws s3 ⟨ps,H3,I3,rel,q3⟩=>⟨(x,y)::ps,H3,I3,X! ⟨rx,ry⟩ rel,q3⟩))))
def Kd(kvs more:Q?):Q?:=more.foldl (λacc kv=>putK acc kv.1 kv.2) kvs
theorem KV.merge:∀{more:Q?} {rs:K! (Key×Value)} {kvs:Q?} {vs:K! (Key×Value)},KV more rs->x!->KV (Kd kvs more) (merged vs rs):=by intro more rs kvs vs r;unfold KV at r;induction r generalizing kvs vs with | nil=>intro q;exact q | @cons p q ps qs h t ih =>intro r0;(have e:KV (putK kvs p.1 p.2) (stored vs q.1 q.2):=by have:=r0.put p.1 h.2;rw[<-h.1];exact this);exact ih e
theorem Jx:∀(more kvs:Q?),(Kd kvs more).length<=kvs.length+more.length
 | [],kvs=>by show kvs.length<=kvs.length+0;lia
 | p::r,kvs=>by have h1:=Jx r (putK kvs p.1 p.2);have h2:=Ff kvs p.1 p.2;show(Kd (putK kvs p.1 p.2) r).length<=_;rw[BF];lia
theorem Qc{P:Program}{w:World}:∀{kvs:Q?} {ws:K! (Value×Value)},VV (kvs.map λkv=>(kV kv.1,kv.2)) ws->∃rs,Carries WP ws rs/\KV kvs rs
 | [],_,r=>by rw[FO] at r;cases r;exact⟨[],True.intro,P!⟩
 | p::kvs,_,r=>by rw[AI] at r;cases r with | @cons a b as bs h t =>obtain⟨rs,c,q⟩:=Qc (P:=P) (w:=w) t;obtain⟨b1,b2⟩:=b;exact⟨(p.1,b2)::rs,⟨Lo h.1,rfl,c⟩,X! (F? h.2) q⟩
def Jkh(cB:K! (TE×TE)):TE:=λσ H Q=>∀p,I? p->Yf cB σ (upd H p (.dK [])) λps H2=>H2 p=A! (.dK [])/\∃kvs:Q?,ps=kvs.map (λkv=>(kV kv.1,kv.2))/\kvs.length<=15/\Q (S! p) (upd H2 p (.dK (Kd [] kvs)))
theorem Jgp(h:mE X pos keys values cB)(du:keys.all (·.isSome)=true)(hl:keys.length=values.length)(h0:keys≠[])(h15:keys.length<=15):i? .Dict keys values (Jkh cB):=by
 intro AA s σ H Q I q;have hn:=I.DC.fresh (ZG s.heap.objs.size);have I1:=I.laid (a:=s.heap.objs.size) (o:=.dK []) (h':=De! (Dk! "dict" .dict (#[]))) (t':=s.toks) (λ_ _ q=>r?) Q! (X3 s.heap I.big);refine wpAny_Dict_walk (knd:=Bq X.prog X.w) du hl h0 h15 (DX (h AA _ σ _ _ I1 (q _ hn)) ?_);rintro ws s2 ⟨ps,H2,I2,rel,e,kvs,ep,lk,q2⟩;subst ep;obtain⟨rs,c,rk⟩:=Qc (P:=X.prog) (w:=X.w) rel;obtain⟨z,hd,vs0,r0,dd⟩:=X2 I2.DC e;cases r0;refine⟨rs,c,dd,λh' WO hs=>Cn! ?_ q2⟩;have hz:(Kd [] kvs).length<=sizeLine:=by have h1:=Jx kvs [];rw[BS] at h1;rw[Cn];lia
 have he:∃q,Aa! s.heap.objs.size q:=let⟨q,_,_,hq,_⟩:=WO;CT!;exact Cv! I2 he (Zj hz hd (rk.merge P!) WO)
structure M1(X:Cx)(o:Expr)(m:Str)(apos:Pos)(e:Expr)(HG:Pos):Prop where
 base:attributeBase o m X.env (O? o)=Bj!
 iE:((backTo HG (starEach [e] X.env)).all (λx=>! x.1)&&(backToKw HG (keywordEach [] X.env)).all (λx=>x.1.isSome)
  && N! (([e]:ca).length+([]:BU!).length+(if([]:BU!).isEmpty then 0 else 1)<30))=true
 line:(apos.endLine==HG.line)=true
 trees:backTo HG (Bb! [e])=[(false,DR!)]
structure M2(X:Cx)(o:Expr)(m:Str)(apos:Pos)(e f:Expr)(HG:Pos):Prop where
 base:attributeBase o m X.env (O? o)=Bj!
 iE:((backTo HG (starEach [e,f] X.env)).all (λx=>! x.1)&&(backToKw HG (keywordEach [] X.env)).all (λx=>x.1.isSome)
  && N! (([e,f]:ca).length+([]:BU!).length+(if([]:BU!).isEmpty then 0 else 1)<30))=true
 line:(apos.endLine==HG.line)=true
 trees:backTo HG (Bb! [e,f])=[(false,DR!),(false,eval f X.env)]
def ij(H:Hp)(a:Addr):Prop:=(∃kvs,Bw!)\/∃kvs,Db DX!
theorem U9(I:B!)(d:ij H a) : s.TypeIs R? "dict"/\(∀b,Di!=.ref b->∃ob,k! s.heap.get? ob/\ob.dict=none)/\DV!:=by
 rcases d with⟨kvs,e⟩|⟨kvs,e⟩;.obtain⟨_,hd,vs,_,dd⟩:=p?;refine⟨dd.typeIs,λb q=>?_,hd⟩;cases q;obtain⟨ob,_,_,h1,h2,_⟩:=dd;exact⟨ob,h1,h2.2.1⟩
 .obtain⟨_,hd,xs,_,dd⟩:=IN;refine⟨dd.typeIs,λb q=>?_,hd⟩;cases q;obtain⟨ob,_,_,h1,h2,_⟩:=dd;exact⟨ob,h1,h2.2.1⟩
universe S
theorem Jjv(hu:wS)(I:B!)(g:Ar!)(ry:U!)(h:Cx! GM (o.getD .E_)) : Ch! "dict.get" [AT,u]:=by
 rcases g with⟨kvs,k,e,ey,l⟩|⟨kvs,k,b,e,ey,eb,l⟩;.subst ey;obtain⟨z,hd,vs,rel,dd⟩:=p?;refine Ct! (PySem.F.args_dict_get_2 _ _) (meets_dict_get Cf! a NE hd) ⟨_,dd.mapOf,Cs!⟩;rw[l];exact BT! rfl
 .subst ey;cases wp;obtain⟨z,hd,xs,rel,dd⟩:=IN;refine Ct! (PySem.F.args_dict_get_2 _ _) (meetsH_dict_get (tupleKind (Bq X.prog X.w)) a b hd) ⟨ET hu,k,xs,Ik I.DC eb,dd,Cs!⟩;rw[l];exact BT! rfl
theorem Jju(hu:wS)(I:B!)(g:Ar!)(ry:U!)(rd:RelV d r)(h:Cx! GM (o.getD d)) : Ch! "dict.get" [AT,u,r]:=by
 rcases g with⟨kvs,k,e,ey,l⟩|⟨kvs,k,b,e,ey,eb,l⟩;.subst ey;obtain⟨z,hd,vs,rel,dd⟩:=p?;refine Ct! (PySem.F.args_dict_get_3 _ _ _) (meets_dict_get_default Cf! a NE hd r) ⟨_,dd.mapOf,Cs!⟩;rw[l];exact BT! rd
 .subst ey;cases wp;obtain⟨z,hd,xs,rel,dd⟩:=IN;refine Ct! (PySem.F.args_dict_get_3 _ _ _) (meetsH_dict_get_default (tupleKind (Bq X.prog X.w)) a b hd r) ⟨ET hu,k,xs,Ik I.DC eb,dd,Cs!⟩;rw[l];exact BT! rd
universe E
def Jiv(td ty:TE):TE:=B2! (∃a,d!/\ij H1 a/\Ao! (∃o,DM H2 a y o/\Q (o.getD .E_) H2))
inductive Jh5(ty tx:TE)(x:V)(H1:Hp)(σ:St)(Q:VK):Prop
 | mk (a) (e0:d!) (e1:ij H1 a) (e2:Ao! (tx σ H2 λz H3=>∃o,DM H3 a y o/\Q (o.getD z) H3))
def Jiu(td ty tx:TE):TE:=B2! (Jh5 ty tx x H1 σ Q)
def Jir(td ty:TE):TE:=B2! (∃a,d!/\ij H1 a/\Ao! (∃kvs k v,H2 a=A! AL!/\y=kV k/\A7!=A! v/\Q v (upd H2 a (.dK (Dt kvs k)))))
universe S
theorem Jd8(hu:No)(ho:u?)(he:L! e ty)(m:M1 X o "get" apos e HG):L! (.Call (Dp! "get") [e] [] HG) (Jiv td ty):=by intro AA s σ H Q I h;refine PB m.base m.iE m.line CZ FG PySem.F.type_dict_get (DM! ho);rintro u s1 ⟨x,H1,I1,rx,a,ex,d,q1⟩;subst ex;obtain rfl:q!:=rx;obtain⟨t1,t2,_⟩:=U9 I1 d;refine P? t1 t2;rw[m.trees];refine FJ rfl (HC (HY (DX (DO! he) λiv s2 ⟨y,H2,I2,ry,ov,g,q2⟩=>KW ?_)));exact BI! Jjv (DG! ⟨_,H2,I3,PH,q2⟩)
theorem Oz(hu:No)(ho:u?)(he:L! e ty)(hf:L! f tx)(m:M2 X o "get" apos e f HG):L! (.Call (Dp! "get") [e,f] [] HG) (Jiu td ty tx):=by intro AA s σ H Q I h;refine PB m.base m.iE m.line CZ FG PySem.F.type_dict_get (DM! ho);rintro u s1 ⟨x,H1,I1,rx,a,ex,d,q1⟩;subst ex;obtain rfl:q!:=rx;obtain⟨t1,t2,_⟩:=U9 I1 d;refine P? t1 t2;rw[m.trees];refine FJ rfl (HC (HY (DX (DO! he) λiv s2 ⟨y,H2,I2,ry,q2⟩ =>HY (DX (hf AA s2 σ H2 _ I2 q2) λfv s3 ⟨z,H3,I3,rz,ov,g,q3⟩=>KW ?_))));exact Jju hu I3 g ry rz λw' s4 I4 PH=>⟨_,H3,I4,PH,q3⟩
theorem Wh(ho:u?)(he:L! e ty)(m:M1 X o "pop" apos e HG):L! (.Call (Dp! "pop") [e] [] HG) (Jir td ty):=by intro AA s σ H Q I h;refine PB m.base m.iE m.line CZ KD PySem.F.type_dict_pop (DM! ho);rintro u s1 ⟨x,H1,I1,rx,a,ex,d,q1⟩;subst ex;obtain rfl:q!:=rx;obtain⟨t1,t2,_⟩:=U9 I1 d;refine P? t1 t2;rw[m.trees];refine FJ rfl (HC (HY (DX (DO! he) λiv s2 ⟨y,H2,I2,ry,kvs,k,v,ea,ey,l,q2⟩=>KW ?_)));subst ey;exact Jlc I2 ea ry l TD (DG! ⟨v,_,I3,PH,q2⟩)
universe E
universe S
variable {X:Cx}{AA:List (Addr×Obj)}{σ:St}{H:Hp}{s:Shared}{a:Addr}{kvs:List (Key×V)}{A:Around}{E:Value->Shared->Prop}
universe E
universe S
variable {X:Cx}{AA:List (Addr×Obj)}{σ:St}{H:Hp}{s:Shared}{a:Addr}{y:V}{u:Value}{A:Around}{E:Value->Shared->Prop}
universe E
universe E L2
universe N HT
open PySem PyProof.Rows
def lexLt:n?->n?->Bool
 | [],[]=>false
 | [],_::_=>true
 | _::_,[]=>false
 | x::xs,y::ys=>if x=y then lexLt xs ys else N! (x<y)
theorem GK(x y:Int)(xs ys:n?):lexLt (x::xs) (y::ys)=if x=y then lexLt xs ys else N! (x<y):=rfl
theorem MO:lexLt [] []=false:=rfl
theorem Pn(y:Int)(ys:n?):lexLt [] (y::ys)=true:=rfl
theorem Po(x:Int)(xs:n?):lexLt (x::xs) []=false:=rfl
theorem Jfg(A:Around)(s:Shared)(a:Int)(t:Tok)(c:Int)(u:Tok):∃e,SeqAt.EqAt A s (C! a t) (C! c u) e/\(e=true↔a=c) :=⟨(a==c),SeqAt.EqAt.int_int a t c u,L?⟩
theorem Jdu(A:Around)(s:Shared)(a:Int)(t:Tok)(c:Int)(u:Tok)(prog:Program)(w:World)(E:H!)(Q:H!)(h:Q (.bool (decide (a<c))) s) : v4 richCompare .Lt (C! a t) (C! c u) :=(PyProof.Rows.lt_int h:v4 compareOp .Lt (C! a t) (C! c u))
universe S
open PySem.SeqAt
open PySem.AutoSeq1 (wpAny_loadPart')
open PySem.MeetsSeq PySem.MeetsSeq2 PySem.MeetsSeq3
theorem Qj(l b:Addr)(items KQ:An!)(n n2:Nat)(dd qJ:i! Addr)(sl bG:Array (Option Value))(ns ms:n?)(hi:FM items.toList ns)(hj:FM KQ.toList ms) : Meets (Builtin.«tuple.__lt__» ⟨[a! l,.ref b],[]⟩) (λ_ R s=>BV! l { cls:=C? "tuple",dict:=dd,data:=.seq items n,slots:=sl }/\k! s.heap.get? { cls:=C? "tuple",dict:=qJ,data:=.seq KQ n2,slots:=bG } /\ R (.ok (.ret (.bool (lexLt ns ms)))) s) :=.of_wp λprog w A R s h=>by obtain⟨hp,g,d,tk,os⟩:=s;obtain⟨hl,hb,h⟩:=h;have f2:=AutoSeq1.sub_tuple_tuple;(have z1:items.size=ns.length:=by rw[<-hi.length];simp);(have z2:KQ.size=ms.length:=by rw[<-hj.length];simp);wp_walk using wpAny_loadPart' hl,wpAny_loadPart' hb,QU _ (λrest b s'=>b.1=none/\s'=C8!/\∃(vs ws:F!)(cK fQ:n?),rest=vs.zip ws /\ FM vs cK/\FM ws fQ/\cK.length+KQ.size=fQ.length+items.size/\R (.ok (.ret (.bool (lexLt cK fQ)))) C8!) _;(case turn =>rintro⟨y,x⟩ rest b s' ⟨H_,rfl,vs,ws,cK,fQ,hz,oX,lO,hlen,hR⟩;cases oX with | nil=>rw[List.zip_nil_left] at hz;cases hz | cons a t r9 =>cases lO with | nil=>rw[List.zip_nil_right] at hz;cases hz | cons c u r8 =>rw[List.zip_cons_cons] at hz;injection hz with hyx kK;injection hyx with hy hx;subst hy hx;rw[GK] at hR;simp only[BF] at hlen;obtain⟨e,he,jC⟩:=Jfg A.in1 C8! a t c u;refine ZR (he prog w _ _ ?_);cases e with | true =>rw[AD (jC.mp rfl)] at hR;wp_walk;exact⟨rfl,rfl,_,_,_,_,kK,r9,r8,I!,hR⟩ | false =>rw[AB (λq=>absurd (jC.mpr q) AX)] at hR;have hri:=Jdu A.in1 C8! a t c u prog w;wp_walk using hri;exact Ak! (by simpa using hR));(case fin =>rintro⟨b1,b2⟩ s' ⟨H_,rfl,vs,ws,cK,fQ,hz,oX,lO,hlen,hR⟩;simp only at H_;subst H_;(have hv:lexLt cK fQ=N! (items.size<KQ.size):=by cases oX with | nil =>(cases lO with | nil =>simp only[BS] at hlen;rw[MO];exact(decide_eq_false (I!)).symm | cons c u hw =>simp only[BS,BF] at hlen;rw[Pn];exact(decide_eq_true (I!)).symm) | cons a t hv =>cases lO with | nil =>simp only[BS,BF] at hlen;rw[Po];exact(decide_eq_false (I!)).symm | cons c u hw =>rw[List.zip_cons_cons] at hz;cases hz);rw[hv] at hR;wp_walk;exact Ak! (by simpa [Builtin.Tuple.tupleCompareSizes] using hR));case h =>exact⟨rfl,rfl,items.toList,KQ.toList,ns,ms,rfl,hi,hj,I!,h⟩
universe E
universe S
variable {prog:Program}{w:World}{A:Around}{E:Value->Shared->Prop}{s:Shared}
theorem UK(hl:IsTup s.heap l items)(hb:IsTup s.heap b KQ)(hi:FM items.toList ns)(hj:FM KQ.toList ms)(hu:A.units<cLine)(h:Br! lexLt ns ms):v4 compareOp .Lt (S! l) (S! b):=by obtain⟨⟨cls,dd,data,sl⟩,ho,hc,n,hd⟩:=id hl;obtain⟨⟨JKd,qJ,data2,bG⟩,hU,vf,n2,hd2⟩:=id hb;simp only at hc hd vf hd2;subst hc hd vf hd2;exact richCompare_meets_room (op:=.Lt) ⟨_,ho,rfl⟩ ⟨_,hU,rfl⟩ PySem.F.slot_tuple_lt PySem.F.entry_tuple_lt (PySem.F.args_tuple_lt_2 _ _) (Qj l b items KQ n n2 dd qJ sl bG ns ms hi hj) ⟨ho,hU,show Value.bool (lexLt ns ms)≠Value.notImplemented/\Br! lexLt ns ms from⟨(λx=>nomatch x),h⟩⟩ hu
def RU(n d:Nat):T!->Nat
 | none=>d
 | some v=>if v<0 then(v+ii).toNat else min v.toNat n
theorem VI(n d k:Nat):RU n d (some (k:Int))=min k n:=by show(if(k:Int)<0 then((k:Int)+ii).toNat else min (k:Int).toNat n)=min k n;rw[AB (I!),DT]
universe E
universe E HT
universe N L2
open PySem PySem.Spec PyProof.Rows
abbrev TO:=CR! (Z! T!)
def PO(X:Cx)(e:i! Expr)(t:TO):Prop :=
 ∀(AA:D!)(s:Shared)(σ:St)(H:Hp)(Q:Z! T!),Df! (t σ H Q ->
  DW! (evalPart e X.env) (λu s'=>∃o H',KB/\IsPart u o/\Q o H'))
def Jkf(t:TE):TO:=j? (λx H1=>∃i,bi/\Q (some i) H1)
theorem intsAre_of{ns:n?}:∀{us:F!},Vals (ns.map V.int) us->FM us ns:=by induction ns with | nil=>intro us r;rw[FO] at r;cases r;exact P! | cons n ns ih =>intro us r;rw[AI] at r;cases r with | cons r1 r2 =>obtain⟨t,e⟩:=r1;subst e;exact X! n t (ih r2)
universe S
variable {X:Cx}{e:Expr}{te:TE}{lo hi:Option Expr}{tl th:TO}{pos p2:Pos}
theorem zK(h:KF):PO X (some e) (Jkf te):=by intro AA s σ H Q I hw;rw[evalPart_some];refine DX (AG! h hw) ?_;rintro u s1 ⟨x,H1,I1,r1,q1⟩;obtain⟨i,rfl,q⟩:=q1;obtain⟨t,rfl⟩:=r1;exact⟨A! i,H1,I1,C! i t,q⟩
def xV(X:Cx)(r:V->T!->T!->Ch):Prop :=
 ∀(AA:D!)(s:Shared)(σ:St)(H:Hp)(x:V)(v vl vu:Value)(lo hi:T!)(sl:Addr)(Q:VK),CJ! (s.heap.IsSliceOf sl vl vu U?) (IsPart vl lo->IsPart vu hi->r x lo hi H Q ->
  ∃T id,typeLookup (C? T) "__getitem__"=pure (some Am!)/\s.TypeIs v T/\AQ! (getItem v (S! sl)))
def tSl(r:V->T!->T!->Ch)(te:TE)(tl th:TO):TE:=DL! te (λx H1=>o! tl (λl H2=>th σ H2 λu H3=>r x l u H3 Q))
theorem Jd5{r:V->T!->T!->Ch}(hr:xV X r)(he:KF)(hl:PO X lo tl)(hu:PO X hi th):i? y? e (.Slice lo hi none p2) (tSl r te tl th):=by intro AA s σ H Q I h;refine Do! Subscript_ he;rintro v s1 ⟨x,H1,I1,r1,q1⟩;refine wpAny_Slice (DX (DO! hl) λvl s2 ⟨l,H2,I2,pl,q2⟩=>Bd! hu s2 I2 (λvu s3 ⟨u,H3,I3,pu,q3⟩=>?_));rw[evalPart_none];refine ZS ?_;have I4:V? H3 { s3 with heap:=s3.heap.push (Dm! "slice" (#[vl,vu,U?])) }:=I3.kept (t':=s3.toks) λb ob q=>r?;obtain⟨T,id,hT,ht,hg⟩:=hr AA { s3 with heap:=s3.heap.push (Dm! "slice" (#[vl,vu,U?])) } σ H3 x v vl vu l u s3.heap.objs.size Q I4 r1 (Heap.IsSliceOf.new ..) pl pu q3;show Dw! (subscriptTail e (.Slice lo hi none p2) v (S! s3.heap.objs.size)) (EP X AA σ Q) { s3 with heap:=s3.heap.push (Dm! "slice" (#[vl,vu,U?])) };exact tail_any (ops:=[a! s3.heap.objs.size,v]) ht hT hg (by with_unfolding_all rfl)
def L5(xs:E!)(lo hi:T!):E!:=(xs.drop (HT.RU xs.length 0 lo)).take (B6! xs.length hi-B6! 0 lo)
theorem X5(xs:E!)(lo hi:T!):(L5 xs lo hi).length<=xs.length:=by unfold L5;rw[B',List.length_drop];lia
universe E
def fZ(n:Nat)(i:Int):i! Nat:=if 0<=i then(if i<n then A! i.toNat else none) else if -ii<=i then A! (i+n).toNat else none
def QI{α:Type}(xs:O!)(i:Int):i! α:=(fZ xs.length i).bind λj=>xs[j]?
theorem Jhf(h:fZ n i=A! j):seqIndex? i n=A! j/\j<n/\-ii<=i/\i<n:=by
 unfold fZ at h;by_cases h0:0<=i;.rw[AD h0] at h;by_cases h1:i<n;(.rw[AD h1] at h;have e:i.toNat=j:=ZO h;exact⟨by rw[seqIndex_of h0 h1,e],I!,I!,h1⟩);.rw[AB h1] at h;cases h
 .rw[AB h0] at h;by_cases h1:-ii<=i;(.rw[AD h1] at h;have e:(i+n).toNat=j:=ZO h;exact⟨by rw[seqIndex_neg (I!) h1,e],I!,h1,I!⟩);.rw[AB h1] at h;cases h
theorem yq(h:Cg! i):∃j,seqIndex? i xs.length=A! j/\xs[j]?=A! v/\j<xs.length/\-(xs.length:Int)<=i/\i<xs.length:=by unfold QI at h;cases e:fZ xs.length i with | none=>rw[e] at h;cases h | some j =>rw[e] at h;obtain⟨h1,h2,h3,h4⟩:=Jhf e;exact⟨j,h1,h,h2,h3,h4⟩
theorem Jhy{α:Type}{xs:O!}{j:Nat}{v:α}(h:xs[j]?=A! v):Cg! (j:Int):=by
 have hj:j<xs.length:=(ZJ h).1;have e:fZ xs.length (j:Int)=A! j:=by unfold fZ;rw[AD (I!),AD (I!)];simp
 unfold QI;rw[e];exact h
def Jh3(b:Expr):Prop:=∀o i,subscripted b false o i=operate [o,i] (getItem o i)
def qj(X:Cx)(r:R2):Prop :=
 ∀(value slice:Expr)(AA:D!)(s:Shared)(σ:St)(H:Hp)(x y:V)(v u:Value)(Q:VK),CJ! U! (r x y H Q ->
  subscripted slice false v u=operate [v,u] (getItem v u)->AQ! (subscriptTail value slice v u))
def mG(X:Cx)(id:String)(r:V->E!->Ch):Prop :=
 ∀(AA:D!)(s:Shared)(σ:St)(H:Hp)(x:V)(xs:E!)(v:Value)(us:F!)(Q:VK),CJ! q? (r x xs H Q ->
  B3! Am! (v::us))
universe S
variable {X:Cx}{a b:Expr}{ta tb:TE}{pos:Pos}
theorem Av{r:R2}(hr:qj X r)(ha:T?)(hb:e?)(hs:Jh3 b:=by exact λ_ _=>rfl):i? y? a b Co!:=DK! (Subscript_ (qW ha hb I h (DI! (hr a b AA s2 σ H2 x y v u Q I2 rx ry q (hs _ _)))))
inductive Jlt(K:W.Frag)(x:V)(y:V)(H:Hp)(Q:VK):Prop
 | mk (p xs i v) (e0:x=a! p) (e1:y=C! i) (e2:DU K H p xs) (e3:Cg! i) (e4:Q v H)
def Jmt(K:W.Frag):R2:=am (Jlt K x y H Q)
inductive Jls(K:W.Frag)(x:V)(y:V)(H:Hp)(Q:VK):Prop
 | mk (p xs i v) (e0:x=a! p) (e1:y=C! i) (e2:CF K H p xs) (e3:Cg! i) (e4:Q v H)
def Ql(K:W.Frag):R2:=am (Jls K x y H Q)
theorem C4:qj X (Jmt X.K):=by
 intro value slice AA s σ H x y v u Q I rx ry h hs;obtain⟨p,xs,i,z,rfl,rfl,hq,he,q⟩:=h;cases rx;obtain⟨t,rfl⟩:=ry;obtain⟨its,r,pl,hz⟩:=Bk!;obtain⟨j,h1,h2,h3,h4,h5⟩:=yq he;obtain⟨w,ew,PH⟩:=r.get h2;have hl:=r.length;have hn:=Uw;have fin:CE! w:=⟨z,H,I,PH,q⟩;by_cases h0:0<=i;·(have hj:i.toNat=j:=by rw[seqIndex_of h0 h5] at h1;exact ZO h1);exact item_listR pl.isList h0 E? (by rw[hj];simpa using ew) fin hs
 ·(have hj:(i+(its.toArray.size:Int)).toNat=j:=by rw[seqIndex_neg (I!) h4] at h1;rw[BD,<-hl];exact ZO h1);exact subscriptTail_builtinR (x:=w) pl.isList.typeIs slot_list_getitem.lookup (wpAny_getItem_list_neg (Q:=λr s'=>r=w/\EP X AA σ Q r s') pl.isList E? (by rw[BD]<;>lia) E? (by rw[hj];simpa using ew) (F? fin)) hs
theorem Aq:qj X (Ql X.K):=by intro value slice AA s σ H x y v u Q I rx ry h hs;obtain⟨p,xs,i,z,rfl,rfl,hq,he,q⟩:=h;cases rx;obtain⟨t,rfl⟩:=ry;obtain⟨its,r,pl,hz⟩:=Aj!;obtain⟨j,h1,h2,h3,h4,h5⟩:=yq he;obtain⟨w,ew,PH⟩:=r.get h2;have hl:=r.length;have hn:=Uw;have fin:CE! w:=⟨z,H,I,PH,q⟩;exact subscriptTail_builtinR (x:=w) pl.typeIs slot_tuple_getitem.lookup (getItem_tuple (j:=j) (Q:=λr s'=>r=w/\EP X AA σ Q r s') pl E? E? (by rw[BD,<-hl];exact h1) (by simpa using ew) (F? fin)) hs
theorem Tl(lo hi:T!)(n:Nat):(sliceBounds lo hi none n).1=DT! (HT.RU n 0 lo)/\(sliceBounds lo hi none n).2.1=DT! (HT.RU n n hi)/\(sliceBounds lo hi none n).2.2=1:=by
 refine⟨?_,?_,rfl⟩;.cases lo with | none=>simp[sliceBounds,HT.RU] | some i =>simp only[sliceBounds,HT.RU,Option.getD_none,show(1:Int) > 0 by decide,HH];by_cases h:i<0;(.simp only[h,HH]<;>lia);.simp only[h,ED]<;>lia
 .cases hi with | none=>simp[sliceBounds,HT.RU] | some i =>simp only[sliceBounds,HT.RU,Option.getD_none,show(1:Int) > 0 by decide,HH];by_cases h:i<0;(.simp only[h,HH]<;>lia);.simp only[h,ED]<;>lia
theorem Qk(its:F!)(lo hi:T!):slicePick its.toArray lo hi none=((its.drop (HT.RU its.length 0 lo)).take (HT.RU its.length its.length hi-HT.RU its.length 0 lo)).toArray:=by obtain⟨h1,h2,h3⟩:=Tl lo hi its.toArray.size;unfold slicePick;rw[h1,h2,h3];simp only[sliceRange_one,pick_run,BD]<;>rfl
inductive Jmq(K:W.Frag)(x:V)(lo:T!)(hi:T!)(H:Hp)(Q:VK):Prop
 | mk a xs (_:d!) (_:sw) (_:Aw! (I? p) (upd H p (.BC (L5 xs lo hi))))
theorem Jf9:xV X (Jmq X.K):=by intro AA s σ H x v vl vu lo hi sl Q I rx hs pl pu h;obtain⟨a,xs,rfl,hx,q⟩:=h;cases rx;obtain⟨its,r,ht,hz⟩:=I.list hx;have hlen:=r.length;refine⟨"list",_,slot_list_getitem.lookup,ht.isList.typeIs,?_⟩;refine wpAny_getItem_list_slice ht.isList hs pl pu U? l! ?_ (by rw[BD]<;>lia);rw[Qk,<-hlen];refine Cn! (I.laid (t':=s.toks) (o:=.BC (L5 xs lo hi)) (λb ob q=>r?) Q! ?_) (q _ (I.DC.fresh Q!));exact⟨BA (X5 xs lo hi) hz,_,0,(r.drop (HT.RU xs.length 0 lo)).take (B6! xs.length hi-B6! 0 lo),Os⟩
theorem Bs:Ga X (.builtin "len") (λxs H Q=>∃p ys,xs=[a! p]/\(DU X.K H p ys\/CF X.K H p ys)/\Q (C! ys.length) H):=by
 intro AA s σ H xs us Q I r h;obtain⟨p,ys,rfl,hq,q⟩:=h;obtain⟨u,rfl,rx⟩:=vals1 r;cases rx;have hn:=Uw;rcases hq with hq|hq;.obtain⟨its,r',pl,hz⟩:=Bk!;have hlen:=r'.length;exact Calls.call_len_list pl.isList (by simp only[BD]<;>lia) ⟨C! ys.length,H,I.tok _,⟨s.toks+1,by rw[BD,hlen]⟩,q⟩
 .obtain⟨its,r',pl,hz⟩:=Aj!;have hlen:=r'.length;exact len_tuple pl (by simp only[BD]<;>lia) ⟨C! ys.length,H,I.tok _,⟨s.toks+1,by rw[BD,hlen]⟩,q⟩
end
mutual
def Z:=#[i!,.type,
y?,"tuple",
j!,{ s with heap:=h' },
WP a,{ s with heap:=a },
L? a,λb o e=>a,
Go,"list",
T?,.builtin,
P!,.nil,
S!,(·.1),
Q!,.cons,
T! a b,by rw[a];exact b,
k!,.inl,
Bk!,xs.length<=sizeLine,
H!,by lia,
X!,by simp,
Bm!,ns.length<=n,
D!,.int,
d!,by decide,
D?,.bool,
F!,.none,
BL!,λ_ _ _=>False,
BM! a,by rw[a];simp,
Y! a,λb hb=>a,
De!,by simp at hl,
AN!,(·.2),
AO!,.fields,
Z?,X.calm=true,
o! a b,by rw[<-a];exact b,
SB,by simpa using e,
Df!,j<xs.length,
SL,X.pn++AA,
m?,.cell,
n? a,∀b∈fp,a,
O? a,λb o hb e=>a,
AP! a,∀y∈sc.names,a,
BN!,"dict_keyiterator",
BO!,A.handled=none,
Sc,"StopIteration",
BP!,by size_fits,
AQ!,Addr×Value,
AR!,(·.2.1),
Di!,by simp[hi],
Bj!,{ s with heap:=hh },
sB a,show a by lia,
Bl!,j<L.length,
AK!,i<as.length,
U?,"number",
M?,"made",
N?,"ticks",
V?,"hand",
W?,"outs",
X?,"holds",
Y?,"records",
k? a,λq hq=>a,
l?,by simp[BI],
Bn! a,{ G with holds:=a },
AL!,"dict_items",
AM!,"ValueError.__new__",
Rs,"dict_itemiterator",
SC,{ s with heap:=h1 },
Dg! b,λj a q e1 e2=>b,
SZ a b,if a then b else q,
G! a,List a,
E! a b c,a b=some c,
B! a,(.ref a),
A!,(H!),
C! a,.ref a,
q! a,E! a b o,
v! a b,E! H a b,
E? a b,a->b->Prop,
TD a b,Inv X AA σ a b,
U! a,⟨_,a⟩,
L!,G! V,
P?,(model prog w),
Z! a b,λi=>a i b,
Tk a b,(seqObj Go a b),
BQ! a,TD H a,
BR!,(as.map Value.ref),
F? a b,T! (Ab a) b,
M!,G! Int,
K! a,H a=none,
N! a,E? a Shared,
g! a,some a,
O!,G! Value,
I!,G! Addr,
V!,G! T2,
J!,BQ! s,
a!,(X!),
w!,q.2.1,
BS!,q! s.heap.get?,
Q? a b,⟨o,a,b⟩,
BT!,x::Dy caps,
R! a,.inr a,
Dh! a b,{ cls:=i! a,data:=b },
a? b c,E! b a c,
l!,(ZG _),
T0 a,Option a,
x! a,a b=none,
y! a b,Q (B! a) b,
W!,BI G,
o?,B! it,
Ds!,q! h'.get?,
BU!,(h.lt A!),
h! a,k! a,
p? a,⟨a,[]⟩,
G?,G! α,
R? a,a S!,
Dt! a b,wpAny P? A a b E s,
AS! a,LV a d es ep,
b? a b,(T! a b),
c?,ZU _ rfl,
d?,Z! as.getD 0,
AT!,C0 σ caps,
z!,(i+1),
q?,(L.map S!).getD,
A?,G! Str,
UF,G! Key,
Dj! a,a (env::outer),
IN,C! d,
B?,U! e,
H? a,(a b o e),
C?,AS C H p G,
I? a,⟨a,?_⟩,
J? a,decide (a),
UV a b c,v! a (.AZ (b c)),
Du! a,Tk (as.map Value.ref).toArray a,
Dk! a b c,Dt! (a b) c,
K?,Pm p n,
Dl! a,Tk (#[]) a,
Uf a,∀b o,BS!->a,
BV! a b c,TJ a it d b c ep,
S?,Str->T0 Value,
WF a b,lt (p.getD a 0) (p.getD b 0)=true,
BW!,(relabel sc X.env).names.lookup,
e?,G! (Addr×Obj),
f?,G! (T2×Int),
AU! a,(upd H p a),
Dv! a c,∀b o,a->c->Ds!,
Dw! a b,Dh! a (.seq b),
AV!,ZT _ e,
BX! a b c,DN X.prog X.w a s.heap b c,
Dx!,[q.1.1,q.1.2],
Dy!,(λ_ _=>False),
Dm!,(ys++[v]),
r? a,Paired.length a,
s? a,⟨a,rfl⟩,
BY! a,a (H!),
t? a b,HT.lexLt a b=true,
u? a b,JL K H a b,
BZ!,Array Value,
v?,Array DictEntry,
w? a,⟨_,rfl,a⟩,
x? a,Q? e a,
g?,(Ak st),
h?,AS! s.heap,
i?,Du! 0,
j? b,b K H a xs,
AW! a b,wpAny a _ (b) _ _ s,
z? a,o! z a,
Ba! a,xs[j]?=some a,
AC a b,some (a b),
AT,B! a,
At,B! D,
Ch a,E! H b a,
Db,G! (Str×Addr),
EQ,G! (Str×Nat),
Bb! a b c,TD (upd H a b) c,
Bc! a,Q a j!,
Ev,Array Nat,
FB,AB (X!),
Bd! a b,v! a (b kvs),
FM a,E! a d o,
FS a,(ZS (ZR a)),
Be! a b,Dk! a b Q,
GE a,D! a 0,
Bf!,(model X.prog X.w),
Bg! a,IntsAre a ns,
GM,(tk q.1,V.int q.2),
Bh! a b,Ga X a (λxs H Q=>b),
Dz! a,MF X sc cl a (BT!) s1 H1 fp AA,
D0! a b,(.ListComp elt [⟨a,iter,ifs,0⟩] b pos),
Bi! a b c,Kh a P w K mg base N qual b f c A outer s H E,
IR a,xs=[C! a],
Is a,T! ZA a,
Ix a,(a S!).Nodup,
KB,(as.map Value.ref).getD,
KE a b,E! h.get? a b,
KF,q! h.get?,
KM a,(upd H l a),
NE,p? [C! a],
No,λq=>((Dx!:M!),q.2),
Op a,Up lt p a,
Os,Dl! 0,
Dn! a,Dv! a BS!,
D1! a,Dw! Go a,
Do! a b,EO P w K mg base a b f fd ps sp,
Dp! a b,E! (Cc G).lookup (a:Str) b,
D2!,MF X sc cl s3.heap.objs.size (BT!) s3 H3 fp AA,
PP,(.GF o (.dT kvs)),
AX!,(e::es),
XV a,(by rw[a];lia),
am a,Value.type a,
ap a b,λσ H Q=>a σ H b,
be,(by cases h),
bi,w!=a,
bn,λt=>[t.1,t.2],
bv,by rw[AL];rfl,
ca,C! ka,
ci,G! (κ×V),
cr a,ZR (ZR a),
db a,ZR (EJ a),
ga a,¬((U?:Str)=a),
ii a,¬((M?:Str)=a),
jp a,¬((N?:Str)=a),
lc a,¬((V?:Str)=a),
o0 a,¬((W?:Str)=a),
pi a,¬((X?:Str)=a),
re a,¬((Y?:Str)=a),
sK,U! rfl,
sw a,E! a x c,
ut,λq=>(tk q.1,q.2),
v4,I.DC.fresh (ZG _),
v6 a,E! BW! y a,
wE a,(.Name x a),
wP a,bf a g e cls,
wS a,∃m',m'<m/\a,
wT,(by rw[e] at z;cases z),
wp,inr i hi,
wv,x.hl q hq,
ww,(.BC (as.map V.ref)),
xL a,BV! a i n,
xz,G! (UF×V),
AA!,v! l (.BC xs),
AB!,(List.range as.length)[j]?,
AC! a b c,∀C s1 H1 fp AA,a (Dz! C) b c,
AD!,G! (T2×Addr×V!),
AE!,TD H1 s1,
AF! a b,ZR (FQ a a! b),
AG! a b c,wpAny P? A a (b) Dy! c,
AH!,D0! (.Name x px) sc,
AI!,V->L!->E? Hp VK,
AJ!,LW cmp lt n s,
AY!,(D2!),
AZ! a,s.heap.push a,
Aa! a,Builtin.Dict_items.ownsTuple a,
Ab! a,([]:a).length,
Ac!,λp hp=>?_,
Ad! a,by simp[sB a],
Ae! a b,vs[a]?=some b,
Af!,G! Nat,
Ag! a b c d,E! (a b).get? c d,
Ah!,G! (Addr×L!),
Ai! a,v! d a,
Aj!,K! s.heap.objs.size,
Ak!,N! Value,
Al! a,(eval a X.env),
Am! b,a? h.get? b,
An!,x! H1,
Ao! a,y! p a,
Ap!,(Hu st),
Aq! a,E! a x .local,
Ar! a,eval a X.env,
As!,(.GF o u),
At!,E! H2 p (.BC ys),
Au!,AO! vs,
Av!,(l.map λq=>(tk (k q),f q)),
Aw!,(CS _ _ (Ne.symm hb)).trans,
Ax!,vals1 r,
Ay!,(D? true),
Az! a,Dh! a (AO! #[IN]),
A0! a b,k _ _ (.inr a) b,
A1!,D1! vs.toArray,
A2! a,WQ a it es as,
A3!,(tk q,V.bl true),
A4! a b,Heap.SameBut a b h',
A5! a,q.Perm (List.range a),
A6! a,kp b o a e,
A7! a b c,⟨C! a,_,b,rfl,q _ c⟩,
A8!,JI X sc cl caps,
A9!,HI X.env.cells cl,
Dq! a b,(show BX! H d a from I.DC d _ b),
BA! a b,a it d b es.size ep,
BB!,o.data=.dict es ep,
BC!,(l+r) / 2,
BD!,s.toks+knd.draws k,
BE!,(.dT kvs),
BF! a b c d e,a->b->c (d (.ret e)) j!,
BG! a,q.Pairwise (λi j=>a),
Dr!,(Vc EA.heap H),
BH!,UV ka tv q.1,
BI!,(upd H5 p (.BC Dm!)),
BJ!,b∈Dj! LM\/g b,
BK!,EU K x qual st f fd,
Bo! a,Paired R xs ys->a,
Bp!,L? AV!,
Bq!,(as.map Value.ref).length,
Br!,by rw[ZA];lia,
Bs! a,∀vs H Q E,sp vs H Q E->a,
Bt! a,X.A.units+a<cLine,
Bu!,sc.kind=.function,
Bv! a,by rw[ZH,a];rfl,
Bw!,G! PyData,
Bx! a b c d,a->b->WF c d,
By! a b,E! a b .local,
Bz!,B! ka,
B0!,q! h1.get?,
B1! a,E? a Heap,
B2!,False.elim h,
B3!,i! y?,
B4! a,F? a x.dO,
B5! a,F? a x.dr,
B6! a b,AB (T! a b),
B7! a b,wpAny M A a b E s,
B8! a c d,∀b o,a->c->q! d,
B9! b,a? s.heap.get? b,
CA! a b,v! a (A8 b),
CB! a b,v! a (C7 b),
CC!,ZR (ZS ?_),
CD! a b,R? (backTo a (starEach b X.env)).any,
CE! a,b? cV a,
CF! a,(show a from ?_),
CG!,((0,0),0),
CH!,(d==sysModules)=false,
CI! a,(x==(a:Str))=false,
CJ! a,λz=>a (z▸m),
CK!,⟨_,e,rfl⟩,
CL!,⟨_,c?,rfl⟩,
CM!,(.AZ p.2),
CN!,AU! (.BC []),
CO! a b c,wpAny P? A a b E c,
CP! a b,(a b).map AN!,
CQ! a,absurd rfl a,
CR!,BY! decide_eq_true,
CS! a b,Bb! a b s,
CT! a,Bd! d a,
CU! a b,ZR (ZS (ZR (CD a b ?_))),
CV! a b,ZR (ZS (ZR (EM a b ?_))),
CW!,Bg! vs,
CX! a b,tt (g! x::AT!) a b,
CY!,ZR (HQ tI (ZS ?_)),
CZ!,ZR (JR tI (ZS ?_)),
Ca!,BM λq _=>?_,
Cb!,(k! rfl),
Cc! a b c,Ba! x->a=some b->c,
Cd!,Dn! (b≠a),
Ce! a,Do! (TV P w) a,
Cf!,(lay H ps),
Cg! a b,Dp! a (B! b),
Ch!,Dj! LM++[e,T],
Ci! a b,(DX (a AA s σ H _ I h) b),
Cj! a,AW! _ (a >>= _),
Ck!,Pv i ys H2,
Cl!,(Uf Ds!),
Cm!,lt i j=true,
Cn! a b,T! (Ab (n a)) b,
Co! a,(Q! a P!),
Cp!,E? L! Hp,
Cq!,AB (show ¬((Value.ref d==Value.none)=true) from AX),
Cr!,(q.1,a,h),
Cs! a,Bh! (T? "sorted") a,
Ct! a b c,AS C (upd H a (b l)) p c,
Cu! a,wpAny _ _ a _ _ _,
Cv!,Nat->Nat->Bool,
Cw! a b c d f g,⟨⟨dx,F? np.symm e⟩,F? a x.dh,b,c,d,f,g⟩,
Cx!,K _ _ BU! BU! _ ?_,
Cy! a b,wpAny_field (x:=a) e1 rfl rfl b,
Cz! b c d e f,b (a:=c) (o:=d) (t':=s.toks) (e) l! f,
C0!,AllBare s'.gens,
C1!,EX λj=>?_,
C2!,p.1.map Sum.inl,
C3! a,d.canLay0=true/\d.depth<=a,
C4! a,a mainGlobals mg,
C5!,by rw[ZA,Cn];lia,
C6! a,∀{xs:G?} {ys:G! β},a,
C7! a b c,∀h',a->b->Bc! c,
C8! a c,λb H4 =>if b=true then a else c,
C9!,(I.ok.hd hc),
DA!,(p.map d?),
DB! a,pure (ForInStep.yield a),
DC! a,.ok (.ret a),
DD!,¬((i:Int)<0),
DE! a b c,setField o? a (b c),
DF! a,a base (env::outer),
DG! a c d,∀b o,a->c->∃sl,E! d b { o with slots:=sl },
DH! a,IsTup h a its,
DI! a,q? i []=a,
DJ!,Be! pyNext o?,
DK! a,⟨_,a,rfl,rfl⟩,
DL! a b,lt (p.getD a 0) (p.getD b 0),
DM! a,x.PR (b:=a) (l?),
DN! a b,a b c (IX.look e),
DO! a b,Rd H d (.dT (a b)),
DP!,Bi! (TV P w) scope cd,
DQ!,if(Value.ref d==Value.none)=true then _ else _,
DR!,λq=>(tk q.1,V.ref w!),
DS!,{ cls:=i! Go,dict:=none,data:=.seq ([]:O!).toArray },
DT! a b c,Au (xs:=a) (j:=b) c,
DU! a b,wpAny Bf! X.A a b X.xe s,
DV!,(Ab λz=>by rw[z,e] at q;cases q),
DW! a,te (g! x::AT!) H4 λv H5=>E! H5 p (.BC ys)/\ys.length<sizeLine/\a,
DX! a b c,ZR (wpAny_attempt (KC (name:=Str.ofString "__next__") a b c)),
DY! a b d,a (λc w' _ q=>q) (λc q=>b) λc xs q=>d,
DZ!,[.Constant (.str msg) j p1],
Da!,((s.heap.update a (Obj.mapSeq λ_=>(#[]:BZ!))).push (seqObj y? vs.toArray 0)).push,
Db! a b c d,O.tr _ _ _ a BU! b c d,
Dc! a b,⟨a,I.os,I.bare,I.base,I.loc,I.cell,I.free,I.IK,b,I.DC,I.len⟩,
Dd!,An N ps (Ak st)]
theorem Da:Bh! (i! y?) (∃p ys,IR p/\((DU X.K H p ys/\∀l,K! l->y! l (KM (.AZ ys)))\/(CF X.K H p ys/\Ao! H))):=by
 intro AA s σ H xs us Q I r h;obtain⟨p,ys,rfl,h⟩:=h;obtain⟨u,rfl,rx⟩:=Ax!;cases rx;rcases h with⟨hq,q⟩|⟨hq,q⟩;.obtain⟨its,r',pl,hz⟩:=I.list hq;have hlen:=r'.length;refine call_tuple_list pl.isList (λh' kp=>?_) (by simp only[BD]<;>lia);have I1:BQ! j!:=I.kept (t':=s.toks) kp;have I2:Bb! h'.objs.size (.AZ ys) (WP (h'.push (Dw! y? its.toArray))) :=I1.laid (t':=s.toks) (Bp!) l! (show DN X.prog X.w _ _ _ (.AZ ys) from⟨hz,its,r',IsTup.new _ _⟩);exact A7! h'.objs.size I2 (I1.DC.fresh (ZG _))
 .obtain⟨its,r',pl,hz⟩:=I.tuple hq;exact call_tuple_same pl ⟨C! p,H,I,rfl,q⟩
def m9(K:W.Frag)(T:String)(x:V)(H:Hp):Prop:=match x with
 | .str _=>T="str"
 | .int _=>T="int"
 | .ref p=>(T=Go/\∃xs,DU K H p xs)\/(T=y?/\∃o,E! K.lookup p o/\o.cls=B3!/\o.dict=none) \/
  (T="dict"/\((∃kvs,Bd! p .dK)\/∃kvs,Bd! p .dT))\/(T="set"/\∃S n,v! p (.set S n))
 | _=>False
theorem yd(I:J!)(r:RelV x v)(ty:m9 X.K T x H) : s.TypeIs v T/\∀a,v=C! a->∃ob,B9! ob/\ob.dict=none:=by cases x with | str z =>obtain⟨t,rfl⟩:=r;cases (show T="str" from ty);exact⟨typeIs_str s z t,λ_ e=>nomatch e⟩ | int i =>obtain⟨t,rfl⟩:=r;cases (show T="int" from ty);exact⟨typeIs_int s i t,λ_ e=>nomatch e⟩ | ref p =>cases r;rcases ty with⟨rfl,xs,hq⟩|⟨rfl,o,hk,hc,hd⟩|⟨rfl,hk⟩|⟨rfl,S,n,hk⟩;(.obtain⟨its,_,pl,_⟩:=I.list hq;refine⟨pl.isList.typeIs,λa e=>?_⟩;cases e;obtain⟨o,n,e,c,hd,_⟩:=pl;exact x? hd);(.refine⟨Q? (I.RW p o hk) hc,λa e=>?_⟩;cases e;exact Q? (I.RW _ o hk) hd);(·(have z:∃o,E! s.heap.get? p o/\o.ExactDict:=by rcases hk with⟨kvs,hk⟩|⟨kvs,hk⟩;(.obtain⟨_,_,_,_,o,_,_,e,ex,_⟩:=I.DC p _ hk;exact x? ex);.obtain⟨_,_,_,_,o,_,_,e,ex,_⟩:=I.DC p _ hk;exact x? ex);obtain⟨o,e,ex⟩:=z;refine⟨x? ex.1,λa e2=>?_⟩;cases e2;exact x? ex.2.1);.obtain⟨o,_,_,_,e,ex,_⟩:=I.DC p _ hk;refine⟨x? ex.1,λa e2=>?_⟩;cases e2;exact x? ex.2.1 | _=>exact False.elim ty
inductive Jlq(K:W.Frag)(T:String)(r:AI!)(x:V)(H1:Hp)(Q:VK):Prop
 | mk  (e0:m9 K T x H1) (e1:r x [] H1 Q)
def Jl6(K:W.Frag)(T:String)(r:AI!)(to:TE):TE:=ap to (λx H1=>Jlq K T r x H1 Q)
inductive Jm8(K:W.Frag)(T:String)(r:AI!)(t:TA)(σ:St)(x:V)(H1:Hp)(Q:VK):Prop
 | mk  (e0:m9 K T x H1) (e1:t σ H1 λxs H2=>r x xs H2 Q)
def tBM(K:W.Frag)(T:String)(r:AI!)(to:TE)(t:TA):TE:=ap to (λx H1=>Jm8 K T r t σ x H1 Q)
variable {o e:Expr}{es:List Expr}{to:TE}{t:TA}{name:Str}{apos HG:Pos}{T id:String}{r:V->List V->Hp->VK->Prop}
theorem J9(pa:PlainAttrs T)(slot:Slot T name id)(oj:typeOf (T? id)=pure (i! "method_descriptor"))(hm:mG X id r)(ho:PE X o to)(YG:attributeBase o name X.env (Al! o)=Ar! o:=by rfl)(YF:(apos.endLine==HG.line)=true:=by rfl):PE X (.Call (.Attribute o name apos) [] [] HG) (Jl6 X.K T r to):=by intro AA s σ H Q I h;refine wpAny_Call_method0_late YG YF (Ci! ho ?_);rintro v s1 ⟨x,H1,I1,r1,ty,q1⟩;obtain⟨h1,h2⟩:=yd I1 r1 ty;exact⟨T,id,pa,slot,oj,h1,h2,FJ rfl (PySem.evalArgs_none (hm AA s1 σ H1 x [] v [] Q I1 r1 P! q1))⟩
theorem E6(pa:PlainAttrs T)(slot:Slot T name id)(oj:typeOf (T? id)=pure (i! "method_descriptor"))(hm:mG X id r)(ho:PE X o to)(ha:PA X AX! t)(YG:attributeBase o name X.env (Al! o)=Ar! o:=by rfl)(sJ:((backTo HG (starEach AX! X.env)).all (λx=>! x.1)&&(backToKw HG (keywordEach [] X.env)).all (λx=>x.1.isSome) && J? ((e::es).length+Ab! (G! Keyword)+(if([]:G! Keyword).isEmpty then 0 else 1)<30))=true:=by rfl)(YF:(apos.endLine==HG.line)=true:=by rfl)(hs:starEach (e::es) X.env=(false,Ar! e)::starEach es X.env:=by rfl)(UI:CD! HG es=false:=by rfl) : PE X (.Call (.Attribute o name apos) AX! [] HG) (tBM X.K T r to t):=by intro AA s σ H Q I h;refine wpAny_Call_method_late YG sJ YF rfl (Ci! ho ?_);rintro v s1 ⟨x,H1,I1,r1,ty,q1⟩;obtain⟨h1,h2⟩:=yd I1 r1 ty;refine⟨T,id,pa,slot,oj,h1,h2,?_⟩;have hA:=ha HG AA s1 σ H1 _ I1 q1;rw[hs] at hA ⊢;refine FJ (by show(false || CD! HG es)=false;rw[UI]<;>rfl) (HC ?_);exact DX hA λus s2 ⟨vs,H2,I2,r2,q2⟩=>hm AA s2 σ H2 x vs v us Q I2 r1 r2 q2
universe E
def cw(X:Cx)(id:String)(r:AI!):Prop :=
 ∀(AA:e?)(s:Shared)(σ:St)(H:Hp)(x:V)(xs:L!)(v:Value)(us:O!)(Q:VK),J!->RelV x v->Vals xs us->r x xs H Q ->
  DU! (call (T? id) (v::us)) (EP X AA σ Q)
theorem Vals.one:∀{x:V} {us:O!},Vals [x] us->∃u,us=[u]/\RelV x u
 | _,_,.cons r .nil=>w? r
theorem Vals.zero:∀{us:O!},Vals [] us->us=[]
 | _,.nil=>rfl
theorem Vals.dropLast(h:Vals xs us):Vals xs.dropLast us.dropLast:=by induction h with | nil=>exact P! | cons r t ih =>cases t with | nil=>exact P! | cons q t'=>exact Q! r ih
theorem Zg(l:G?):l.eraseIdx (l.length-1)=l.dropLast:=by grind
universe S
variable {X:Cx}{AA:List (Addr×Obj)}{σ:St}{H:Hp}{s:Shared}{l b:Addr}{xs ys zs:List V}
theorem Inv.ax{its its':O!}{n:Nat}{f:BZ!->BZ!}{t':Nat}(I:J!)(hH:AA!)(e:E! s.heap.get? l (Dh! Go (.seq its.toArray n)))(hf:f its.toArray=its'.toArray)(hv:Vals ys its')(hz:ys.length<=sizeLine) : Bb! l (.BC ys) { s with heap:=s.heap.update l (Obj.mapSeq f),toks:=t' }:=by have q:=PySem.IsL.update e f;rw[hf] at q;refine I.write (x:=l) (e:=l) (b? hH trivial) Cb! (λb' u hb hu=>(CS s.heap (Obj.mapSeq f) (Ne.symm hb)).trans hu) (U! q) ?_;exact⟨hz,its',_,hv,q⟩
theorem Inv.df(I:J!)(hv:Vals ys its)(hz:ys.length<=sizeLine) : Bb! s.heap.objs.size (.BC ys) { s with heap:=AZ! (D1! its.toArray),toks:=t' } :=I.laid (λ_ _ q=>ZT _ q) l! ⟨hz,its,0,hv,c?⟩
theorem Inv.fresh(I:J!):Aj!:=v4
theorem Inv.TY(I:J!)(hH:AA!):Bk!/\∃(its:O!)(n:Nat),Vals xs its/\xs.length=its.length/\E! s.heap.get? l (Dh! Go (.seq its.toArray n)):=by obtain⟨z,its,n,r,e⟩:=I.DC l _ hH;exact⟨z,its,n,r,r.length,e⟩
theorem Ws(h:n<=sizeLine):Builtin.List.listTooLong n=false:=by unfold Builtin.List.listTooLong;exact BY! decide_eq_false
universe E
universe S
variable {X:Cx}
inductive Jf0  (x:V) (vs:L!) (H:Hp) (Q:VK):Prop
 | mk (l xs y) (e0:x=C! l) (e1:vs=[y]) (e2:AA!) (e3:xs.length<sizeLine) (e4:Q .E_ (KM (.BC (xs++[y]))))
def Jgl:AI!:=λx vs H Q=>Jf0  x vs H Q
theorem Dw:cw X "list.append" Jgl:=by intro AA s σ H x vs v us Q I rx rv h;obtain⟨l,xs,y,rfl,rfl,hH,hz,q⟩:=h;cases rx;obtain⟨u,rfl,ru⟩:=rv.one;obtain⟨z,its,n,r,hl,e⟩:=I.TY hH;refine call_meets F.slot_list_append CK! F.entry_list_append (F.args_list_append_2 _ _) (PySem.list_append l its.toArray n u (XV BD)) (I? e);refine⟨.E_,_,I.ax (its':=its++[u]) hH e a! (r.append (Q! ru P!)) ?_,rfl,q⟩;rw[ZE,DV];lia
inductive Jgk(x:V)(vs:L!)(H:Hp)(Q:VK):Prop
 | mk l b xs zs (_:x=C! l) (_:vs=[C! b]) (_:AA!) (_:Ch (.BC zs)) (_:xs.length+zs.length<=sizeLine) (_:Q .E_ (KM (.BC (xs++zs))))
theorem Ji:cw X "list.extend" Jgk:=by
 intro AA s σ H x vs v us Q I rx rv h;obtain⟨l,b,xs,zs,rfl,rfl,hH,hB,hz,q⟩:=h;cases rx;obtain⟨u,rfl,ru⟩:=rv.one;cases ru;obtain⟨z,its,n,r,hl,e⟩:=I.TY hH;obtain⟨z2,ON,n2,r2,hl2,e2⟩:=I.TY hB;have hsz:its.toArray.size+ON.toArray.size<=sizeLine:=by rw[BD,BD];lia
 have YE:¬(!its.toArray.isEmpty&&Builtin.List.listTooLong (its.toArray.size+ON.toArray.size))=true:=by rw[Ws hsz,Bool.and_false];exact AX
 refine call_meets F.slot_list_extend CK! F.entry_list_extend (F.args_list_extend_2 _ _) (AutoSeq1.list_extend_list_list_0 l its.toArray n b ON.toArray n2 YE (XV BD) A!) ⟨e,e2,?_⟩;refine⟨.E_,_,I.ax (its':=its++ON) hH e a! (r.append r2) ?_,rfl,q⟩;rw[ZE];lia
inductive Jmr(x:V)(vs:L!)(H:Hp)(Q:VK):Prop
 | mk l xs y (_:x=C! l) (_:vs=[]) (_:AA!) (_:xs[xs.length-1]?=some y) (_:Q y (KM (.BC xs.dropLast)))
theorem Y1:cw X "list.pop" Jmr:=by
 intro AA s σ H x vs v us Q I rx rv h;obtain⟨l,xs,y,rfl,rfl,hH,hy,q⟩:=h;cases rx;have lP:=rv.zero;subst lP;obtain⟨z,its,n,r,hl,e⟩:=I.TY hH;obtain⟨u,hu,ru⟩:=r.get hy;have lN:its.toArray[its.toArray.size-1]?=some u:=by show its.toArray[its.length-1]?=some u;rw[<-Array.getElem?_toList,<-hl];exact hu
 refine call_meets F.slot_list_pop CK! F.entry_list_pop (F.args_list_pop_1 _) (MeetsSeq.list_pop_last l its.toArray n u lN (XV BD)) (I? e);refine⟨y,_,I.ax (its':=its.dropLast) hH e ?_ r.dropLast ?_,ru,q⟩;.show its.toArray.eraseIdxIfInBounds (its.toArray.size-1)=its.dropLast.toArray;rw[BD,List.eraseIdxIfInBounds_toArray,Zg]
 .rw[List.length_dropLast];lia
inductive Jmv(x:V)(y:V)(H:Hp)(Q:VK):Prop
 | mk l b xs zs (_:x=C! l) (_:y=C! b) (_:AA!) (_:Ch (.BC zs)) (_:xs.length+zs.length<=sizeLine) (_:∀p,K! p->Ao! (AU! (.BC (xs++zs))))
theorem Ji7:QO X (binaryOp .Add) Jmv:=by
 intro AA s σ H x y v u Q I rx ry h;obtain⟨l,b,xs,zs,rfl,rfl,hH,hB,hz,q⟩:=h;cases rx;cases ry;obtain⟨z,its,n,r,hl,e⟩:=I.TY hH;obtain⟨z2,ON,n2,r2,hl2,e2⟩:=I.TY hB;refine PySem.P.add_list e e2 ?_ (by rw[BD,BD];lia);have ea:its.toArray++ON.toArray=(its++ON).toArray:=X!
 rw[ea];exact A7! _ (I.df (t':=s.toks) (r.append r2) (XV ZE)) I.fresh
universe E
universe S
universe E
universe S
variable {X:Cx}
universe E
universe E L2
universe N Att
open PySem PySem.W PySem.Calls PyProof.Rows
theorem Np:∀(ns:M!)(vs:O!),WellAll P h vs (ns.map WData.int)->CW!:=by intro ns;induction ns with | nil =>intro vs w;rw[FO] at w;cases w;exact P! | cons n ns ih =>intro vs w;rw[AI] at w;cases w with | cons a b =>cases a;exact Q! _ _ (ih _ b)
theorem Jbz{l:OpenLaw}{n:Nat}(hn:l.most=g! n){P:Params}{h:Heap}{args:G! WData}{vals:O!}(az:l.row.toRowW.claim.pre args=true)(gz:WellAll P h vals args) : ∃a vs ns,vals=[Value.ref a]/\args=[WData.list (ns.map WData.int)]/\Am! A1!/\CW!/\Bm!:=by
 have ox:WShape.hasAll [] args [.list D!]=true:=(pre_splitW az).1;have hc:l.pre.holds [] { args:=args }=true:=(pre_splitW az).2;obtain⟨d,r,rfl,h1,h2⟩:=hasAllW_cons ox;obtain rfl:=hasAllW_nil h2;obtain⟨xs,rfl,h3⟩:=hasW_list h1;obtain⟨ns,rfl⟩:=items_int h3;have hlen:Bm!:=by unfold OpenLaw.pre at hc;(have h4:(WTm.not (.lt (.lit (D! (n:Int))) (.len (.arg 0)))).holds [] { args:=[.list (ns.map D!)] }=true:=by have h4:=(holds_andW hc).1;rw[hn] at h4;exact h4);have h5:=condW_of h4 (w_not (w_lt w_lit (w_len_list (w_arg rfl))));rw[ZA] at h5;refine Nat.le_of_not_lt λq=>?_;(have q':(n:Int)<((ns.length:Nat):Int):=H!);first | (rw[decide_eq_true q'] at h5;exact absurd h5 (d!)) | (simp at h5;lia)
 cases gz with | cons w1 w2 =>cases w2;cases w1 with | list ho du=>exact⟨_,_,ns,rfl,rfl,ho,Np ns _ du,hlen⟩
theorem Jb4(l:OpenLaw)(args:G! WData):l.row.toRowW.claim.post args Ay! args=true :=postW_of (r:=l.row.toRowW) (X:=(true==true)) (show WShape.has [] Ay! D?=true by first|rfl|decide|simp[WShape.has,WShape.arms,WShape.armsAll]) (show(WTm.eq .res (.lit (D? true))).value [] { args:=args,res:=AC D? true,after:=args }=some (D? (true==true)) from w_eq_bool (w_res rfl) w_lit) rfl
theorem SV{l:OpenLaw}{n:Nat}{q:Program}{loose:A?}{XP:B1! (S?)}{YP:B1! World}{d:DefRec}(hn:l.most=g! n)(iA:d.params.defaults=[])(call:∀(w:World) (HU EA:Shared) (mg mb:S?) (fa:Addr) (o:Obj) (pm cd doc:Value) (a:Addr) (vs:O!) (ns:M!),Ground q loose [] XP w HU mg mb EA.heap->YP w EA.heap -> E! EA.heap.get? fa o->o.data=.func (docDef d.name d.params d.body d.scope pm cd doc)->EA.heap.CodeRec cd d.name->E! mg d.name (B! fa) -> a? EA.heap.get? A1!->CW!->Bm!->EA.gens=#[] -> codeAny (model l.prog w) callerA (.call (B! fa) NE) (λr s'=>r=DC! Ay!/\OldK EA.heap s'.heap/\s'.os=EA.os/\C0!) EA) : WalkO q loose XP YP l.row.toRowW d [] (λf vs=>PySem.call f vs):=by intro w HU EA mg mb G Y fa o pm cd doc dV kV ho hd VQ hD hmg hg args vals as az JKa hrd gz hlo;obtain rfl:dV=F!:=Dflts.none hD iA;obtain rfl:kV=F!:=Dflts.noKw hD;obtain⟨a,vs,ns,rfl,rfl,dm,hints,hlen⟩:=Jbz hn az gz;refine enter_call (HW (call w HU EA mg mb fa o pm cd doc a vs ns G Y ho (fd_plain hd) VQ hmg dm hints hlen hg) λr s' hq=>?_);obtain⟨rfl,h2,h3,h4⟩:=hq;exact⟨h! ⟨D? true,D? true,[],rfl,λ_=>rfl,D? true,Jb4 l _,λ_=>⟨List.Pairwise.nil,λ_ hm=>(nomatch hm)⟩⟩,h2,h3,h4⟩
universe S
variable {prog:Program}{w:World}{A:Around}{E:Value->Shared->Prop}{s:Shared}{K:Frag}
def ledger(h:Heap)(L d:Addr):e?:=(List.range h.objs.size).filterMap λa=>if a=L\/a=d then none else(h.get? a).map λo=>(a,o)
universe E
universe E Att
universe N L2
open PySem PySem.Spec PyProof.Rows
theorem L9:∀{vs:O!} {ns:M!},IntsAre vs ns->Vals (ns.map V.int) vs
 | _,_,.nil=>P!
 | _,_,.cons n t h=>Q! (s? t) (L9 h)
def mL(H:Hp):Prop:=∀b,K! b\/∃o xs,Ch (.GF o (.BC xs))
theorem Je3{P:Program}{w:World}{K:W.Frag}{mg mb:S?}{CX:WS}{k:Nat}{fa a:Addr}{fd:FuncData}{x:Str}{sp:Sp}{EA:Shared}{vs:O!}{ns:M!}(KX:K.In EA.heap)(vR:C4! EA.heap.Ns)(hb:EA.heap.Ns builtinsNs mb)(hbb:∀x:Str,x≠"__name__"->mb x=bootBuiltins x)(sI:EA.heap.NoLimit)(hg:EA.gens=#[])(ha:a? EA.heap.get? A1!)(hi:CW!)(hl:ns.length<=sizeLine)(hr:DI k callerA)(F:∀base:Heap,K.In base->C4! base.Ns->EO P w K mg base CX k fa fd [x] sp)(kL:∀(s:Shared) (u:Value),BindsTo s fd (p? [u]) [(x,u)])(YY:∀H:Hp,mL H->DU K H a (ns.map V.int)->sp [C! a] H (λv _=>v=.bl true) BL!)(pS:∀H e s',CX [] H EA (BL!) e s'->False) : codeAny (model P w) callerA (.call (B! fa) NE) (λr s'=>r=DC! Ay!/\OldK EA.heap s'.heap/\s'.os=EA.os/\C0!) EA:=by
 have rv:=L9 hi;have ri:=hi.length;have core:∀H:Hp,mL H->DU K H a (ns.map V.int)->LN P w H EA.heap->(∀b,H b≠none->b=a)->(H a≠none->K.lookup a=none) -> codeAny (model P w) callerA (.call (B! fa) NE) (λr s'=>r=DC! Ay!/\OldK EA.heap s'.heap/\s'.os=EA.os/\C0!) EA:=by intro H hO hS DC hA hK;have VM:∀{b:Addr} {o:Obj},q! EA.heap.get?->K! b->q! (Vc EA.heap H).get?:=λe n=>Je8 e n;(have gq:∀{b:Addr} {o:Obj} {es:v?} {ep:Nat},q! EA.heap.get?->BB!->K! b:=λ{b o es ep} e d=>by cases q:H b with | none=>rfl | some u =>have e':b=a:=hA b (BM! q);subst e';rw[ha] at e;cases e;have d':Data.seq vs.toArray _=Data.dict es ep:=d;cases d');have lA:∀{b:Addr} {m:S?},EA.heap.Ns b m->(Vc EA.heap H).Ns b m:=λ{b m} ⟨o,es,ep,e,d,r⟩=>⟨o,es,ep,VM e (gq e d),d,r⟩;have vk:K.In Dr!:=L? (VM (H? KX) (by cases q:H b with | none=>rfl | some u =>have e':b=a:=hA b (BM! q);subst e';rw[hK (BM! q)] at e;cases e));have hM:Mod K mg Dr!:=⟨vk,lA vR,⟨mb,lA hb,hbb⟩,let⟨mc,h1,h2⟩:=sI;⟨mc,lA h1,h2⟩⟩;have e0:UE P w K mg Dr! callerA [] EA H:=⟨rfl,hM,L? (Jg8 e),Nat.le_of_eq (Jcm _ _),trivial,Y! (absurd (show b∈([]:I!) from hb) a!),DC,.of_eq hg⟩;refine HW ((F _ vk (lA vR)).run callerA [] EA H NE [C! a] [C! a] _ _ hr e0 (kL EA AT) (Co! rfl) (YY H hO hS)) λr s' h=>?_;cases r with | error e=>exact(pS H e s' h).elim | ok fl =>cases fl with | next=>exact B2! | brk=>exact B2! | cont=>exact B2! | ret u =>obtain⟨v,H',os,bare,un,sC,r',q⟩:=h;have q':v=.bl true:=q;subst q';obtain rfl:u=Value.bool true:=r';refine⟨rfl,OldK.of_keep (L? ?_),os,bare⟩;cases q:H b with | none=>exact un.keep b o e q (by intro z;exact absurd (show b∈([]:I!) from z) a!) a! | some u =>rcases hO b with z|⟨ob,xs,z⟩;(.rw[q] at z;cases z);.have z2:=un.MW b ob _ z;obtain⟨e1,_⟩:=DC b _ z;obtain⟨e2,_⟩:=sC b _ z2;rw[e] at e1;cases e1;exact e2
 cases hk:K.lookup a with | some o =>have e:=KX a o hk;rw[ha] at e;cases e;refine core (λ_=>none) (λ_=>h! rfl) (.inr ⟨_,vs.toArray,_,hk,rfl,rfl,rfl,by rw[BD,ri];exact hl,by simpa using rv⟩) (λb u z=>by have z':(none:T0 HO)=some u:=z;cases z') (λb z=>CQ! z) λz=>CQ! z | none =>refine core (λb=>if b=a then g! (.GF A1! (.BC (ns.map V.int))) else none) (λb=>?_) (k! (.inr ⟨A1!,AD rfl⟩)) (λb u z=>?_) (λb z=>?_) λ_=>hk;(.by_cases hb:b=a;(.exact R! ⟨_,_,AD hb⟩);.exact k! (AB hb));(.by_cases hb:b=a;(.have z':=(AD hb).symm.trans z;cases z';subst hb;exact⟨ha,Is hl,vs,_,rv,ha⟩);.have z':=(AB hb).symm.trans z;cases z');.by_cases hb:b=a;(.exact hb);.exact absurd (AB hb) z
abbrev KOf{K:W.Frag}{h:Heap}(_:K.In h):W.Frag:=K
theorem bA{l:W.OpenLaw}{n k:Nat}{q:Program}{loose:A?}{XP:B1! (S?)}{YP:B1! World}{d:DefRec}{K:Params->W.Frag}{CX:World->WS}{sp:World->Sp}{x:Str}(hn:l.most=g! n)(bR:n<=sizeLine)(iA:d.params.defaults=[])(hr:DI k callerA)(hY:∀(w:World) (h:Heap),YP w h->(K w.params).In h)(F:∀(w:World) (mg:S?) (fa:Addr) (h:Heap),(K w.params).In h->C4! h.Ns->E! mg d.name (B! fa) -> ∃fd:FuncData,(∀(s:Shared) (u:Value),BindsTo s fd (p? [u]) [(x,u)]) /\ ∀base:Heap,(K w.params).In base->C4! base.Ns->EO l.prog w (K w.params) mg base (CX w) k fa fd [x] (sp w))(YY:∀(w:World) (H:Hp) (a:Addr) (ns:M!),Bm!->mL H->DU (K w.params) H a (ns.map V.int)->sp w [C! a] H (λv _=>v=.bl true) BL!)(pS:∀(w:World) (H:Hp) (s:Shared) (e:Value) (s':Shared),CX w [] H s (BL!) e s'->False) : W.WalkO q loose XP YP l.row.toRowW d [] (λf vs=>PySem.call f vs):=by refine Att.SV hn iA λw HU EA mg mb fa o pm cd doc a vs ns G Y ho hd VQ hmg dm hints hlen hg=>?_;have KX:=hY w _ Y;obtain⟨fd,hb,hF⟩:=F w mg fa _ KX G.T.g hmg;exact Je3 KX G.T.g G.T.b G.T.builtins G.T.nolimit hg dm hints (BA hlen bR) hr hF hb (λH hO hS=>YY w H a ns hlen hO hS) λH e s'=>pS w H EA e s'
def inClass(s:Stmt)(j:Nat):Stmt:=match s with
 | .ClassDef _ _ _ body _ _ _ _ _ _ _=>body.getD j (.Pass ⟨0,0,0,0⟩)
 | _=>.Pass ⟨0,0,0,0⟩
def N7(s:Stmt):Arguments:=match s with
 | .FunctionDef _ a _ _ _ _ _ _ _ _=>a
 | _=>{ posonlyargs:=[],args:=[],vararg:=none,kwonlyargs:=[],kw_defaults:=[],kwarg:=none,defaults:=[] }
def Hu(s:Stmt):G! Stmt:=match s with
 | .FunctionDef _ _ b _ _ _ _ _ _ _=>b
 | _=>[]
def Ak(s:Stmt):Scope:=match s with
 | .FunctionDef _ _ _ _ _ _ sc _ _ _=>sc
 | _=>{ kind:=.function,names:=[],isGenerator:=false,isCoroutine:=false }
abbrev XI:WS:=λ_ _ _ _ _ _=>False
abbrev E0:XK:=BL!
theorem Bg:Hv XI X E0:=λ_ _ _ _ _ _ _ h=>h.elim
structure EU(K:W.Frag)(x qual:Str)(st:Stmt)(f:Addr)(fd:FuncData):Prop where
 ex:∃(oc:Value)(od:T0 Addr)(kV doc pm:Value)(an:T0 Addr)(D_ ct:Value)(cI:Array (Option Value)),
  fd=W.fnOf x qual (N7 st) Ap! g? F! kV doc pm an D_ ct/\E! K.lookup f ⟨oc,od,.func fd,cI⟩/\W.codeIn K D_ qual=true
 kp:W.keepIn K (B! f)=true
universe S
variable {P:Program}{w:World}{K:W.Frag}{mg:Str->Option Value}{base:Heap}
theorem EU.ok{x qual:Str}{st:Stmt}{f:Addr}{fd:FuncData}{N ps:A?}{k:Nat}{sp:Sp}(F:BK!)(S:Dd!)(len:Bs! (vs.length=ps.length))(SR:∀(D_:Value) (A:Around) (outer:G! Env) (s:Shared) (H:Hp) (vs:L!) (Q:VK) (E:XK),DI k (A.deeper (envOfC qual g? s.heap.objs.size f D_))->sp vs H Q E -> ∃t,OY (Bi! XI g? D_).gp Ap! t/\t { nx:=λ_ H'=>Q .E_ H',rt:=Q } (start N vs) H):Do! XI (k+1):=by obtain⟨oc,od,kV,doc,pm,an,D_,ct,cI,rfl,lk,VQ⟩:=F.ex;refine yC lk VQ S len λA outer s H vs Q E hr YY=>?_;obtain⟨t,h,q⟩:=SR D_ A outer s H vs Q E hr YY;exact⟨t,h.gp,q⟩
def Bd(P:Program)(w:World)(K:W.Frag)(mg:S?)(base:Heap)(CX:WS)(b:Bool)(N ps:A?)(qual:Str)(st:Stmt)(f:Addr)(k:Nat)(vs:L!)(H:Hp)(Q:VK)(E:XK):Prop :=
 vs.length=ps.length/\∀(D_:Value)(A:Around)(outer:G! Env)(s:Shared),DI k (A.deeper (envOfC qual g? s.heap.objs.size f D_)) ->
  ∃t,OY (bif b then(Bi! CX g? D_).gp else Bi! CX g? D_) Ap! t/\t { nx:=λ_ H'=>Q .E_ H',rt:=Q } (start N vs) H
theorem EU.JD{x qual:Str}{st:Stmt}{f:Addr}{fd:FuncData}{N ps:A?}{k:Nat}{sp:Sp}(F:BK!)(S:Dd!)(h:Bs! (Bd P w K mg base XI true N ps qual st f k vs H Q E)):Do! XI (k+1) :=F.ok S (λvs H Q E z=>(h vs H Q E z).1) λD_ A outer s H vs Q E hr z=>(h vs H Q E z).2 D_ A outer s hr
theorem EU.binds{x qual:Str}{st:Stmt}{f:Addr}{fd:FuncData}{ps:A?}(F:BK!)(h:∀(kV doc pm:Value) (an:T0 Addr) (D_ ct:Value) (us:O!),us.length=ps.length->bindArgs (W.fnOf x qual (N7 st) Ap! g? F! kV doc pm an D_ ct) (p? us)=pure (ps.zip us)):Binds K fd ps []:=by obtain⟨oc,od,kV,doc,pm,an,D_,ct,cI,rfl,lk,VQ⟩:=F.ex;exact .all (h kV doc pm an D_ ct)
universe E
theorem Cf(hr:DI k A):A.units+1<cLine:=I_ (Nat.add_le_add_left (d!:1<=64) _) hr.units
theorem Bb(h:n<=1000):n<sizeLine:=I_ h (d!)
universe S
variable {X:Cx}
theorem pv(i:Nat)(hN:X.N[i]?=some x:=by rfl)(hv:qQ X.env.scope x:=by first|exact Or.inl rfl|exact Or.inr (Or.inl rfl)|exact Or.inr (Or.inr rfl))(hd:CI! "__debug__":=by decide)(VQ:CI! "__classdict__":=by decide):PE X (wE pos) (Bx i):=Ji2 hN hv hd VQ
theorem My:Bh! (T? "len") (∃a kvs,xs=[V.ref a]/\Bd! a .dK/\Q (D! kvs.length) H):=by intro AA s σ H xs us Q I r h;obtain⟨a,kvs,rfl,ha,q⟩:=h;obtain⟨u,rfl,ru⟩:=Ax!;cases ru;exact Jld I (k! ha) λt s' I'=>⟨D! kvs.length,H,I',s? t,q⟩
universe E
theorem By{A B:Prop}(h:B):if false=true then A else B:=T! (AB AX) h
theorem B7{A B:Prop}(h:A):if true=true then A else B:=T! (AD rfl) h
theorem U8{c A B:Prop}[Decidable c](h1:c->A)(h2:¬c->B):if c then A else B:=by
 by_cases h:c;.rw[AD h];exact h1 h
 .rw[AB h];exact h2 h
def Bh(H H':Hp):Prop:=∀b o,q! H->q! H'
universe S
variable {κ:Type}[DecidableEq κ]
theorem F7:∀{l:G! κ} {k:κ},l.Nodup->¬k∈l->(l++[k]).Nodup
 | [],k,_,_=>X!
 | a::r,k,h,hk=>by obtain⟨h1,h2⟩:=AM.mp h;show(a::(r++[k])).Nodup;refine AM.mpr ⟨λm=>?_,F7 h2 λm=>hk (BU.mpr (Or.inr m))⟩;rcases ZI m with q|q;(.exact h1 q);.exact hk (BU.mpr (Or.inl (ZK q).symm))
theorem Jcv{p:κ×V}{r:ci}{k:κ}(e:p.1=k):Dt (p::r) k=Dt r k:=by unfold Dt;rw[CY,AB (by simp[e])]
theorem R0{p:κ×V}{r:ci}{k:κ}(e:¬p.1=k):Dt (p::r) k=p::Dt r k:=by unfold Dt;rw[CY,AD (by simp[e])]
theorem Qb:∀{kvs:ci} {k:κ},¬k∈R? kvs.map->Dt kvs k=kvs
 | [],_,_=>rfl
 | p::r,k,h=>by (have h':¬k∈R? r.map:=λm=>by obtain⟨q,hq,e⟩:=ZN m;exact h (AF.mpr ⟨q,BU.mpr (Or.inr hq),e⟩));rw[R0 λe=>h (AF.mpr ⟨p,BU.mpr (Or.inl rfl),e⟩),Qb h']
universe E
universe E L2
set_option maxHeartbeats 4000000
universe N FX
open PySem PySem.Spec PyProof.Rows L2
inductive JL(K:W.Frag)(H:Hp):E? V PyData
 | E_:u? .E_ F!
 | bl (b:Bool):u? (.bl b) (D? b)
 | int (i:Int):u? (D! i) (D! i)
 | str (x:Str):u? (.str x) (.str x)
 | AZ {a:Addr} {xs:L!} {ds:Bw!}:j? CF->xs.length=ds.length->(∀(j:Nat)(x:V)(d:PyData),Cc! (ds[j]?) d (u? x d))->u? AT (.tuple ds)
inductive Rep(K:W.Frag)(H:Hp):E? V PyData
 | one {x:V} {d:PyData}:u? x d->Rep K H x d
 | BC {a:Addr} {xs:L!} {ds:Bw!}:j? DU->Paired (JL K H) xs ds->Rep K H AT (.list ds)
theorem Aw:C6! (Bo! (∀(j:Nat)(x:α)(y:β),Cc! (ys[j]?) y (R x y)))
 | _,_,.nil,j,x,y,h,_=>by simp at h
 | _,_,.cons r t,0,x,y,h,h'=>by simp at h h';subst h;subst h';exact r
 | _,_,.cons r t,j+1,x,y,h,h'=>Aw t j x y (by simpa using h) (by simpa using h')
theorem D8:C6! (xs.length=ys.length->(∀(j:Nat)(x:α)(y:β),Cc! (ys[j]?) y (R x y))->Paired R xs ys)
 | [],[],_,_=>P!
 | x::xs,y::ys,hl,h=>Q! (h 0 x y rfl rfl) (D8 (by simpa using hl) λj a b e1 e2=>h (j+1) a b (by simpa using e1) (by simpa using e2))
 | [],_::_,hl,_=>De!
 | _::_,[],hl,_=>De!
theorem JL.tupP{K:W.Frag}{H:Hp}{a:Addr}{xs:L!}{ds:Bw!}(h:j? CF)(r:Paired (JL K H) xs ds):u? AT (.tuple ds) :=.AZ h (Paired.length r) λj x d e1 e2=>Aw r j x d e1 e2
structure BW(H H':Hp):Prop where
 AZ:∀a xs,v! a (.AZ xs)->a? H' (.AZ xs)
 GF:∀a o u,v! a As!->a? H' As!
theorem BW.refl(H:Hp):BW H H:=⟨λ_ _ e=>e,λ_ _ _ e=>e⟩
theorem BW.trans(a:BW H H1)(b:BW H1 H2):BW H H2:=⟨λc xs e=>b.AZ c xs (a.AZ c xs e),λc o u e=>b.GF c o u (a.GF c o u e)⟩
theorem HN(s:Bh H H'):BW H H':=⟨λa xs e=>s a _ e,λa o u e=>s a _ e⟩
theorem BW.sq{K:W.Frag}{H H':Hp}(k:BW H H'){a:Addr}{xs:L!}(h:j? CF):CF K H' a xs:=by
 rcases h with(e|⟨o,e⟩)|z;.exact k! (k! (k.AZ a xs e))
 .exact k! (.inr ⟨o,k.GF a o _ e⟩)
 .exact R! z
theorem OI(h:∀o',v! p o'->(∀xs,o'≠.AZ xs)/\∀b u,o'≠.GF b u):BW H (AU! o) :=⟨λa xs e=>by (have:a≠p:=λz=>by subst z;exact(h _ e).1 xs rfl);rw[Ab this];exact e,λa b u e=>by (have:a≠p:=λz=>by subst z;exact(h _ e).2 b u rfl);rw[Ab this];exact e⟩
universe S
theorem Ig:∀{xs:L!} {us:O!} {ds:Bw!},Vals xs us->xs.length=ds.length -> (∀(j:Nat)(x:V)(d:PyData),Cc! (ds[j]?) d (∀u,RelV x u->∃as,Reads h u d as))->∃as,ReadsAll h us ds as
 | _,_,[],.nil,_,_=>⟨[],P!⟩
 | _,_,d::ds,.cons (a:=x) (b:=u) r t,hl,f=>by obtain⟨as,r1⟩:=f 0 x d rfl rfl u r;obtain⟨bs,r2⟩:=Ig t (by simpa using hl) λj y e h1 h2=>f (j+1) y e (by simpa using h1) (by simpa using h2);exact⟨as++bs,Q! r1 r2⟩
 | _,_,_::_,.nil,hl,_=>De!
 | _,_,[],.cons _ _,hl,_=>De!
theorem JL.reads(I:J!)(r:JL X.K H v d):∀u,RelV v u->∃as,Reads s.heap u d as:=by induction r with | E_=>intro u e;cases e;exact U! F! | bl b=>intro u e;cases e;exact U! (D? b) | int i=>intro u e;obtain⟨t,rfl⟩:=e;exact U! (D! i t) | str x=>intro u e;obtain⟨t,rfl⟩:=e;exact U! (.str x t) | AZ h hl _ ih =>intro u e;cases e;obtain⟨its,rv,⟨o,ho,hc,n,hd⟩,_⟩:=I.tuple h;obtain⟨as,ra⟩:=Ig rv hl λj x d e1 e2=>ih j x d e1 e2;exact⟨as,.tuple ho hc hd (by simpa using ra)⟩
theorem Rep.reads(I:J!)(r:Rep X.K H v d)(e:RelV v u):∃as,Reads s.heap u d as:=by cases r with | one r=>exact r.reads I u e | BC h p =>cases e;obtain⟨its,rv,pl,_⟩:=I.list h;obtain⟨o,ho,hc,n,hd⟩:=pl.isList;obtain⟨as,ra⟩:=Ig rv (Paired.length p) λj x d e1 e2=>(Aw p j x d e1 e2).reads I;exact U! (.list ho hc hd (by simpa using ra))
def WR(d:PyData):Prop:=C3! 40
inductive Jlu(K:W.Frag)(x:V)(y:V)(H:Hp)(Q:VK):Prop
 | mk (d e) (e0:Rep K H x d) (e1:Rep K H y e) (e2:WR d) (e3:WR e) (e4:Q (.bl (PyData.eqv d e)) H)
def Jmu(K:W.Frag):R2:=λx y H Q=>Jlu K x y H Q
inductive Jlr(K:W.Frag)(x:V)(y:V)(H:Hp)(Q:VK):Prop
 | mk (d e) (e0:Rep K H x d) (e1:Rep K H y e) (e2:WR d) (e3:WR e) (e4:Q (.bl (! PyData.eqv d e)) H)
def Jms(K:W.Frag):R2:=λx y H Q=>Jlr K x y H Q
theorem Ue(hu:Bt! 64):QO X (compareOp .Eq) (Jmu X.K):=by intro AA s σ H x y v u Q I rx ry h;obtain⟨d,e,r1,r2,o1,o2,q⟩:=h;obtain⟨as,g1⟩:=r1.reads I rx;obtain⟨bs,g2⟩:=r2.reads I ry;exact PySem.SeqAt.compareEq_reads g1 g2 o1.1 o2.1 (by have:=o1.2;lia) ⟨.bl _,H,I,rfl,q⟩
theorem Ud(hu:Bt! 64):QO X (compareOp .NotEq) (Jms X.K):=by intro AA s σ H x y v u Q I rx ry h;obtain⟨d,e,r1,r2,o1,o2,q⟩:=h;obtain⟨as,g1⟩:=r1.reads I rx;obtain⟨bs,g2⟩:=r2.reads I ry;exact PySem.SeqAt.compareNe_reads g1 g2 o1.1 o2.1 (by have:=o1.2;lia) ⟨.bl _,H,I,rfl,q⟩
theorem Xy(h:WR d):PyData.eqv d d=true:=PySem.SeqAt.eqv_refl d h.1
theorem Js(r:DI k A):A.units+64<cLine:=r.units
universe E
def Hx(p d:Addr):HO:=.ext λh=>h.IsValuesView p d
universe S
theorem zY:∀{kvs:ci} {vs:G! (κ×Value)},KV kvs vs->Vals (kvs.map AN!) (vs.map AN!)
 | _,_,.nil=>P!
 | _,_,.cons r t=>Q! r.2 (zY t)
theorem Ml:mG X "dict.values" (λx xs H Q=>∃d kvs,x=IN/\xs=[]/\CT! .dK/\∀p,K! p->Ao! (AU! (Hx p d))):=by intro AA s σ H x xs v us Q I rx rs h;obtain⟨d,kvs,rfl,rfl,hd,q⟩:=h;cases rx;cases rs;obtain⟨z,lo,vs,rel,dd⟩:=X2 I.DC hd;refine PySem.call_meetsIn IT dd.typeIs PySem.F.entry_dict_values (PySem.F.args_dict_values_1 _) (meets_dict_values (Bq X.prog X.w) d lo) (I? ⟨vs,dd⟩);have hn:Aj!:=v4;refine A7! s.heap.objs.size (Cz! I.laid s.heap.objs.size (Hx s.heap.objs.size d) Bp! ?_) hn;have g:Ag! s.heap.push (Az! "dict_values") s.heap.objs.size (Az! "dict_values"):=c?;exact⟨DK! g,U! g,λh1 h2 ⟨o,e,r⟩ k=>Q? (k o e) r⟩
theorem Mx(hc:Z?):Bh! (i! Go) (∃p d kvs,IR p/\v! p (Hx p d)/\CT! .dK/\∀l,K! l->y! l (KM (.BC (kvs.map AN!)))):=by intro AA s σ H xs us Q I r h;obtain⟨p,d,kvs,rfl,hp,hd,q⟩:=h;obtain⟨u,rfl,rx⟩:=Ax!;cases rx;obtain⟨z,lo,vs,rel,dd⟩:=X2 I.DC hd;obtain⟨ep,da⟩:=dd.dictAt;have hv:s.heap.IsValuesView p d:=(I.DC p _ hp).1;refine W.kdl_call (W.kdl_values (knd:=Bq X.prog X.w) (r:=p) (d:=d) (kvs:=vs) (ep:=ep)) C9! ⟨hv,da⟩ (o! rel.length z) λh' tk d_ c' kp e ha=>?_;have hn:Aj!:=v4;have e1:d_.toList=vs.map AN!:=W.kdl_vals_eq d_.toList (b? CT ha.1) λj v hj=>ha.2 j v (o! Array.getElem?_toList hj);refine A7! s.heap.objs.size (I.laid (t':=tk) kp l! (show DN X.prog X.w _ h' _ (.BC (kvs.map AN!)) from⟨Is z,d_.toList,c',?_,SB⟩)) hn;rw[e1];exact zY rel
universe E
universe S
universe E
theorem Ah(hp:K! p):Bh H (AU! o):=λb u e=>F? (Aj e hp) e
theorem Al(a:Bh H H1)(b:Bh H1 H2):Bh H H2:=λc o h=>b c o (a c o h)
theorem Bw(e:Bh H H')(h:H' l=none):K! l:=by cases q:H l with | none=>rfl | some o=>rw[e l o q] at h;cases h
theorem D9:∀{xs:G?} {ys:G! β} (j:Nat),Bo! (Paired R (xs.eraseIdx j) (ys.eraseIdx j))
 | _,_,_,.nil=>P!
 | _,_,0,.cons _ t=>t
 | _,_,j+1,.cons r t=>Q! r (D9 j t)
theorem Fe{α β:Type}{R:E? α β}{x:α}{y:β}(r:R x y):C6! (Bo! (Paired R (xs++[x]) (ys++[y])))
 | _,_,.nil=>Q! r P!
 | _,_,.cons q t=>Q! q (Fe r t)
theorem Ap{α β:Type}{R S:E? α β}(f:∀a b,R a b->S a b):C6! (Bo! (Paired S xs ys))
 | _,_,.nil=>P!
 | _,_,.cons q t=>Q! (f _ _ q) (Ap f t)
theorem A9(h0:0<=i)(h:xs[i.toNat]?=some v):QI xs i=some v:=by have:=Jhy h;rwa [BJ h0] at this
theorem Au{α:Type}{xs:G?}{j:Nat}(h:Df!):∃x,Ba! x:=⟨xs[j],List.getElem?_eq_some_iff.mpr (s? h)⟩
theorem yE(h:∀d∈ds,C3! 20):PyData.canLayAll0 ds=true/\PyData.depthAll ds<=20:=by induction ds with | nil=>exact⟨by simp[PyData.canLayAll0],by simp[PyData.depthAll]⟩ | cons d ds ih =>obtain⟨a,b⟩:=ih λe he=>h e (ZD _ he);obtain⟨c,g⟩:=h d (ZL ..);exact⟨by simp[PyData.canLayAll0,a,c],by simp only[PyData.depthAll];lia⟩
theorem Le(h:∀d∈ds,C3! 20):WR (.list ds):=by obtain⟨a,b⟩:=yE h;exact⟨by simp only[PyData.canLay0];exact a,by simp only[PyData.depth];lia⟩
theorem Jf(h:∀d∈ds,C3! 20):WR (.tuple ds):=by obtain⟨a,b⟩:=yE h;exact⟨by simp only[PyData.canLay0];exact a,by simp only[PyData.depth];lia⟩
universe S
universe E
def ae(K:W.Frag)(H:Hp)(a:Addr)(xs:L!):Prop:=(∃o,v! a (.GF o (.BC xs)))\/∀H':Hp,DU K H' a xs
theorem ae.sq{K:W.Frag}{H:Hp}{a:Addr}{xs:L!}(h:j? ae):j? DU:=h.elim (λ⟨o,e⟩=>k! (.inr ⟨o,e⟩)) λz=>z H
theorem ae.keep{K:W.Frag}{H H':Hp}{a:Addr}{xs:L!}(h:j? ae)(kt:BW H H'):ae K H' a xs:=h.elim (λ⟨o,e⟩=>h! ⟨o,kt.GF _ _ _ e⟩) λz=>R! z
theorem ae.of{K:W.Frag}{H:Hp}{a:Addr}{xs:L!}(hO:mL H)(h:j? DU):j? ae:=by
 rcases h with(e|⟨o,e⟩)|z;.rcases hO a with q|⟨o,ys,q⟩;(.rw[q] at e;cases e);.rw[q] at e;cases e
 .exact h! ⟨o,e⟩
 .exact R! (λH'=>R! z)
theorem R4{prog:Program}{w:World}{A:Around}{R:N! Result}{s:Shared}{elt target iter:Expr}{ifs:G! Expr}{scope:Scope}{pos:Pos}{it acc:Value}{env:Env}(J:N! Nat)(turn:∀k s0,J k s0->AG! (pyNext it) (λr s1=>match r with
  | none=>R (.ok .next) s1
  | some v=>AG! (letOwnedTupleGo target it v) (λ_ sg=>AG! (assign target env v) (λ_ s2 =>
   AG! (forIn ifs true λc r=>if r=true then do let ok <-isTrue c env (eval c env);DB! ok else DB! r) (λok s3 =>
    if ok=true then AG! (eval elt env) (λx s4 =>
     AG! (call (T? "list.append") [acc,x]) (λ_ s5=>∃m,m<k/\J m s5) s4) s3
    else ∃m,m<k/\J m s3) s2) sg) s1) s0)(k:Nat)(h:J k s):codeAny P? A (.compLoop (D0! target scope) 0 it acc env) R s:=by
 refine codeAny_loop rfl J (λk s0 hI=>?_) k h
 show wpAny _ A ((compTurn (D0! target scope) 0 it acc env).onRaise (λx=>do noteFrame x env;theTreesLotGoes x)) _ _ s0
 have no:∀{E:Ak!} (e:Value) (s':Shared),False->notedBy P? A env E e s':=λ_ _ z=>z.elim
 refine wpAny_noted ?_
 rw[compTurn_list]
 refine ZR (wpAny_standAt (ZR (EC (turn k s0 hI) (λr s1 h1=>?_) no)))
 cases r with
 | none=>exact ZS h1
 | some v =>
   refine ZR (EC h1 (λ_ sg hg=>ZR (EC hg (λ_ s2 h2=>ZR (EC h2 (λok s3 h3=>?_) no)) no)) no)
   cases ok with
   | false =>
     simp only[CL,ED] at h3 ⊢
     exact ZS ⟨rfl,h3⟩
   | true =>
     simp only[HH] at h3 ⊢
     exact cr (EC h3 (λx s4 h4=>ZR (EC h4 (λ_ s5 h5=>ZS (ZS ⟨rfl,h5⟩)) no)) no)
def MF(X:Cx)(sc:Scope)(cl:Db)(C:Addr)(N:A?)(s1:Shared)(H1:Hp)(fp:I!)(AA:e?):Cx where
 prog:=X.prog
 w:=X.w
 K:=X.K
 mg:=X.mg
 base:=X.base
 A:=X.A
 N:=N
 HU:=s1
 PV:=H1
 env:=compEnvC sc cl C X.env
 outer:=X.stack
 stack:=X.stack
 ex:=fp
 fn:=λ_=>false
 calm:=X.calm
 pn:=SL
 xe:=λ_ _=>False
def HI(cells:Db):Db->Prop
 | []=>True
 | (x,c)::r=>sw cells.lookup/\HI cells r
theorem HI.look{cells:Db}:∀{cl:Db} {x:Str} {c:Addr},HI cells cl->sw cl.lookup->sw cells.lookup
 | [],_,_,_,e=>by simp at e
 | (y,d)::r,x,c,h,e=>by rw[OD] at e;cases q:x==y with | true =>rw[q] at e;have e1:x=y:=eq_of_beq q;cases e;rw[e1];exact h.1 | false =>rw[q] at e;exact HI.look h.2 e
structure x_(X:Cx)(sc:Scope)(cl:Db)(p:Str×Nat):Prop where
 n:X.N[p.2]?=some p.1
 k:E! X.env.scope.names.lookup p.1 m?
 l:cl.lookup p.1=X.env.cells.lookup p.1
 f:E! BW! p.1 m?
def JI(X:Cx)(sc:Scope)(cl:Db):EQ->Prop
 | []=>True
 | p::r=>x_ X sc cl p/\JI X sc cl r
theorem JI.at{X:Cx}{sc:Scope}{cl:Db}:∀{caps:EQ} {j:Nat} {p:Str×Nat},A8!->caps[j]?=some p->x_ X sc cl p
 | [],_,_,_,e=>by simp at e
 | q::r,0,p,h,e=>by simp at e;subst e;exact h.1
 | q::r,j+1,p,h,e=>JI.at h.2 (SB)
abbrev Dy(caps:EQ):A?:=caps.map λp=>p.1
def C0(σ:L2.St)(caps:EQ):L2.St:=caps.map λp=>(σ[p.2]?).join
universe S
variable {X:Cx}{sc:Scope}{cl:List (Str×Addr)}{AA:List (Addr×Obj)}{σ:L2.St}{H1:Hp}{s1:Shared}{fp:List Addr}{N:List Str}
theorem yN(I:AE!)(hf:n? (Nr X AA H1 b))(ho:n? (∃o,q! s1.heap.get?))(hk:Bu!)(IX:A9!)(has:∀x,(E! BW! x m?\/E! BW! x .free)->∃c,sw cl.lookup):(MF X sc cl s1.heap.objs.size N s1 H1 fp AA).Ok where
 mod:=I.ok.mod
 kind:=hk
 glob:=I.ok.glob
 blt:=I.ok.blt
 above:=ZG _
 inj:=λx y c e1 e2=>I.ok.inj x y c (IX.look e1) (IX.look e2)
 has:=has
 aY:=λx c e _=>by cases e
 hd:=I.ok.hd
 frames:=I.ok.frames
 bE:=h! rfl
 VS:=Y! ⟨λz=>by
  obtain⟨o,e⟩:=ho b hb
  exact BH (AR e) z,λx c e=>DN! (hf b hb).2.2.2.2.1 x⟩
 bs:=L? (I.bs b o e)
 VU:=BA I.ok.VU I.sz
 RD:=λb o e hb=>by
  rcases(hf b hb).2.2.2.1 with z|z
  .exact I.ok.RD b o e z
  .exact absurd (BQ (BQ (AR e) I.ok.VU) z) (CN _)
 QS:=λb hb z=>by
  rcases ZM (I.PY b z) with q|q
  .exact(hf b hb).2.1 q
  .exact(hf b hb).2.2.1 q
 LU:=I.stack
 XB:=Y! (I.OZ b hb)
theorem Jjz{x:Str}{caps:EQ}{h':Heap}{m:S?}{t':Nat}{o:Obj}(I:AE!)(ok:(Dz! s1.heap.objs.size).Ok)(IX:A9!)(NV:A8!)(hx:Aq! BW!)(hn:h'.Ns s1.heap.objs.size m)(hs:A4! s1.heap.objs.size (s1.heap.push o)) : Inv (Dz! s1.heap.objs.size) [] (none::AT!) H1 { s1 with heap:=h',toks:=t' }:=by
 have kp:∀b u,E! s1.heap.get? b u->E! h'.get? b u:=λb u e=>(hs.2 b (BH (AR e))).trans (ZT _ e);have MK:H1 s1.heap.objs.size=none:=v4;refine⟨ok,rfl,I.bare,Un.kept kp,⟨m,hn,λi y v e1 e2 e3=>?_⟩,λy c e=>?_,MK,λy c e=>DN! I.IK y,Ac!,I.DC.kept kp,?_⟩;.cases i with | zero=>simp at e2 | succ j =>have QZ:(BT!)[j+1]?=some y:=e1;rw[OE] at QZ;(have TR:(C0 σ caps)[j]?=some (some v):=by simpa using e2);rw[ZH] at QZ;unfold C0 at TR;rw[ZH] at TR;cases q:caps[j]? with | none=>rw[q] at QZ;cases QZ | some p =>rw[q] at QZ TR;have e4:p.1=y:=ZO QZ;have e5:(σ[p.2]?).join=some v:=ZO TR;have hc:=NV.at q;(have e6:σ[p.2]?=some (some v):=by cases z:σ[p.2]? with | none=>rw[z] at e5;cases e5 | some w' =>rw[z] at e5;have:w'=g! v:=e5;rw[this]);obtain⟨mm,hV,hl⟩:=I.loc;obtain⟨u,r,lk⟩:=hl p.2 p.1 v hc.n e6 (.inr (k! hc.k));refine⟨u,r,R! (I? (k! (o! e4 hc.f)))⟩;rcases lk with⟨k1,_⟩|⟨_,c,W_,ce⟩;(.have:By! X.env.scope.names.lookup p.1:=k1;rw[hc.k] at this;cases this);.obtain⟨oc,ZQ,hd⟩:=ce;exact⟨c,o! e4 (hc.l.trans W_),oc,kp _ _ ZQ,hd⟩
 .obtain⟨v,oc,ZQ,hd⟩:=DN! I.cell y;exact⟨v,oc,kp _ _ ZQ,hd⟩
 .have VO:p∈(SL)++[]:=hp;rw[AG] at VO;obtain⟨a1,a2,a3,a4,a5⟩:=I.pin p VO;refine⟨kp _ _ a1,a2,BH (AR a1),λz=>?_,a5⟩;rcases ZM (I.PY _ z) with q|q;(.exact a3 q);.exact a4 q
 .simp[C0,MF]
theorem yr{SN:e?}{ER:L2.St}{H':Hp}{s':Shared}(I:AE!)(hf:n? (Nr X AA H1 b))(I':Inv (MF X sc cl s1.heap.objs.size N s1 H1 fp AA) SN ER H' s'):TD H' s' :=I.VF (ch:=fp) I'.os I'.base I'.DC I'.bare (Y! ⟨(hf b hb).2.2.2.1,(hf b hb).2.1,(hf b hb).2.2.2.2.1,(hf b hb).2.2.2.2.2⟩)
theorem Vk{H':Hp}{s':Shared}{h':Heap}{OU:L2.St}{sA:Shared}(I:AE!)(I2:Inv X AA OU H' sA)(hn:H' s1.heap.objs.size=none)(hs:A4! s1.heap.objs.size sA.heap):Inv X AA OU H' { sA with heap:=h' } :=I2.turned (it:=s1.heap.objs.size) (t':=sA.toks) (O? ((hs.2 b hb).trans e)) hn (EE I.lt) (.inr I.sz) (λx c e z=>by obtain⟨v,q⟩:=I.cell x c e;exact absurd q.lt (T! z (CN _))) λp hp z=>by have:=AR (I.pin p hp).1;rw[z] at this;exact absurd this (CN _)
universe E
def cv(X:Cx)(ifs:G! Expr)(t:TT):Prop :=
 ∀(AA:e?)(s:Shared)(σ:L2.St)(H:Hp)(Q:E? Bool Hp),J!->t σ H Q ->
  DU! (forIn ifs true λc r=>if r=true then do let ok <-isTrue c X.env (Al! c);DB! ok else DB! r) (TP X AA σ Q)
theorem Jd{X:Cx}:cv X [] (λ_ H Q=>Q true H):=λAA s σ H Q I h=>wpAny_tests_nil ⟨H,I,h⟩
theorem D7{X:Cx}{c:Expr}{t:TT}(h:PT X c t):cv X [c] t:=λAA s σ H Q I hw=>wpAny_tests_one (h AA s σ H Q I hw)
def qe(wi:TI)(caps:EQ)(tt:TT)(te:TE):TE:=ap wi (λJ H1=>∀p,H1 p=none->∃W:Nat->Nat->E? L! Hp,(∃m,W 0 m [] (upd H1 p (.BC [])))/\∀i m ys H2,W i m ys H2->At! /\
 ((J.stop i H2/\Ao! H2)\/(J.go i H2/\∀x H3,J.SW i H2 x H3->CX! H3 (λb H4 =>
   if b=true then DW! (wS (W z! m' Dm! BI!))
   else wS (W z! m' ys H4)))))
universe S
variable {X:Cx}{elt iter:Expr}{x:Str}{px pos:Pos}{ifs:List Expr}{sc:Scope}{cl:List (Str×Addr)}{caps:List (Str×Nat)}{wi:TI}{tt:TT}{te:TE}
theorem R5{AA:e?}{σ:L2.St}{H:Hp}{s:Shared}{Q:VK}{use:Option (Value->Sem Unit)}{RQ:Ak!}(hc:Z?)(hi:PI X (wE px) iter wi)(NJ:closureFor sc X.env=pure cl)(KZ:AP! (y.2≠m?))(JE:Bu!)(KR:AP! (y.2=.local->By! sc.names.lookup y.1))(hx:Aq! sc.names.lookup)(IX:A9!)(has:∀y,(v6 m?\/v6 .free)->∃c,E! cl.lookup y c)(NV:A8!)(hN:(BT!).Nodup)(ht:AC! cv ifs tt)(he:AC! PE elt te)(I:J!)(h:qe wi caps tt te σ H Q)(fin:∀(C D:Addr) (H':Hp) (s1 s':Shared) (H1:Hp),C=s1.heap.objs.size->AE!->TD H' s'->H' C=none->(∃m,s'.heap.Ns C m)->y! D H'->compPost Bf! X.A X.xe use RQ At C (.ok .next) s')(hs:∀v,foldedSetIterable iter X.env v=pure v) : DU! (comprehension AH! sc X.env (firstIterPos [⟨.Name x px,iter,ifs,0⟩] pos) (newList []) false (Al! iter) use) RQ:=by
 refine wpAny_comprehension_free rfl hs NJ JE KR (Ci! hi (λv s1 h1=>DX h1 λlM s2 h2=>?_));obtain⟨it,fp,tn,J,H2,e,I2,T,YS,f2,hW⟩:=h2;subst e;refine DW ?_;have UJ:H2 s2.heap.objs.size=none:=I2.DC.fresh (ZG _);have I3:TD (upd H2 s2.heap.objs.size (.BC [])) { s2 with heap:=s2.heap.push DS! }:=I2.df (t':=s2.toks) (its:=[]) P! (BE _);obtain⟨W,⟨m0,w0⟩,turn⟩:=hW s2.heap.objs.size UJ;have pV:n? (b≠s2.heap.objs.size):=λb hb z=>by obtain⟨o,e,_⟩:=T.obj 0 _ YS b hb;exact absurd (AR e) (T! z (CN _))
 have f3:n? (Nr X AA (upd H2 s2.heap.objs.size (.BC [])) b):=Y! ⟨by rw[Ab (pV b hb)];exact(f2 b hb).1,(f2 b hb).2⟩;have bF:tn 0 (s2.heap.push DS!):=T.keep 0 _ _ YS λb hb o e=>AV!;obtain⟨D,hD⟩:∃D,D=s2.heap.objs.size:=sK;obtain⟨H3,pQ⟩:∃H3,H3=upd H2 s2.heap.objs.size (.BC []):=sK;obtain⟨s3,cT⟩:∃s3:Shared,s3={ s2 with heap:=s2.heap.push DS! }:=sK;have XJ:tn 0 s3.heap:=T! cT bF
 rw[<-pQ] at I3 f3 w0;rw[<-cT] at I3;rw[<-hD] at turn;show wpAny _ _ _ _ _ ({ s2 with heap:=s2.heap.push DS! }:Shared);rw[<-cT,<-hD];refine wpAny_newFunctionEnv KZ (by intro y hy;simp at hy) (λh1 o8 g8=>?_) JE;have ok:=yN (N:=BT!) I3 f3 (Y! (let⟨o,e,_⟩:=T.obj 0 _ XJ b hb;⟨o,e⟩)) JE IX has;have cR:Aq! BW!:=lookup_relabel_local hx;have J4:=Jjz (t':=s3.toks+Ab! (G! (Str×Value))) I3 ok IX NV cR o8 g8;have gV:tn 0 h1:=T.keep 0 _ _ XJ λb hb o e=>(g8.2 b (BH (AR e))).trans (ZT _ e);have PQ:∀{H':Hp},(n? (x! H'))->n? (Nr AY! [] H' b):=λhn b hb=>by refine⟨hn b hb,?_,λz=>ok.QS b hb z,h! hb,λy c e=>DN! (f3 b hb).2.2.2.2.1 y,Ac!⟩;(.exact(ok.VS b hb).1);.have VO:p∈(SL)++[]:=hp;rw[AG] at VO;exact(f3 b hb).2.2.2.2.2 p VO
 have loop:∀s4:Shared,s4={ s3 with heap:=h1,toks:=s3.toks+Ab! (G! (Str×Value)) } -> codeAny Bf! X.A (.compLoop AH! 0 o? At (compEnvC sc cl s3.heap.objs.size X.env)) (compPost Bf! X.A X.xe use RQ At s3.heap.objs.size) s4:=by rintro s4 rfl;refine R4 (λk s'=>∃i v0 ys H',Inv AY! [] (v0::AT!) H' s'/\tn i s'.heap/\(n? (x! H'))/\W i k ys H') ?_ m0 ⟨0,none,[],H3,J4,gV,Y! (f3 b hb).1,w0⟩;rintro k s5 ⟨i,v0,ys,H5,I5,WW,TN,w5⟩;obtain⟨hD5,stop|⟨go,step⟩⟩:=turn i k ys H5 w5;(.obtain⟨stop,q⟩:=stop;refine DX (T.done AY! rfl rfl rfl hc i [] s5 _ H5 Dy! I5 (PQ TN) WW stop) ?_;rintro r s6 ⟨hr,I6⟩;subst hr;obtain⟨mm,hV,_⟩:=I6.loc;exact fin _ D H5 s3 s6 H3 rfl I3 (yr I3 f3 I6) I6.free ⟨mm,hV⟩ q);.refine DX (T.item AY! rfl rfl rfl hc i [] s5 _ H5 Dy! I5 (PQ TN) WW go) ?_;rintro r s6 ⟨u,hr,h6⟩;subst hr;refine DX h6 ?_;rintro _ s7 ⟨y,H7,I7,r7,y7,cF,PK⟩;have qk:=I7.pinned (PQ PK) (T.obj _ _ cF);refine DX (Bk (X:=D2!) (i:=0) hN rfl (k! cR) (.inr cR) _ s7 (v0::AT!) H7 y u (λER H'=>ER=g! y::AT!/\H'=H7) qk r7 (s? rfl)) ?_;rintro _ s8 ⟨zy,H8,I8,e8,qE⟩;subst e8;subst qE;(have back:∀{gO:L2.St} {H9:Hp} {s9:Shared},Inv AY! ([]++Mf fp s7.heap) gO H9 s9->tn (i+1) s9.heap/\n? (x! H9):=λ{gO H9 s9} I9=>by refine⟨T.keep _ _ _ cF λb hb o e=>(I9.pin (b,o) (ZC _ (ZC _ (E9 hb e)))).1,Y! ?_⟩;obtain⟨o,e,d⟩:=T.obj _ _ cF b hb;exact(I9.pin (b,o) (ZC _ (ZC _ (E9 hb e)))).2.1);refine DX (ht _ _ _ _ _ _ s8 _ _ _ I8 (step y _ y7)) ?_;rintro ok s9 ⟨H9,I9,q9⟩;cases ok with | false =>simp only[CL,ED] at q9 ⊢;obtain⟨m',hm,w9⟩:=q9;exact⟨m',hm,i+1,g! y,ys,H9,I9.JJ,(back I9).1,(back I9).2,w9⟩ | true =>simp only[HH] at q9 ⊢;refine DX (he _ _ _ _ _ _ s9 _ _ _ I9 q9) ?_;rintro xv cG ⟨v,cy,qm,ny,dv,JU,m',hm,m7⟩;refine DX (Dw (X:=D2!) _ cG _ cy At [v] At [xv] (λ_ H'=>H'=upd cy D (.BC Dm!)) qm rfl (Co! ny) ⟨D,ys,v,rfl,rfl,dv,JU,rfl⟩) ?_;rintro _ s11 ⟨_,ik,cx,_,iS⟩;subst iS;exact⟨m',hm,i+1,g! y,ys++[v],_,cx.JJ,(back cx).1,(back cx).2,m7⟩
 exact codeAny_compStart_list (loop _ rfl) (T.self _ 0 _ _ _ gV (loop _ rfl))
theorem En(hc:Z?)(hi:PI X (wE px) iter wi)(NJ:closureFor sc X.env=pure cl)(KZ:AP! (y.2≠m?))(JE:Bu!)(KR:AP! (y.2=.local->By! sc.names.lookup y.1))(hx:Aq! sc.names.lookup)(IX:A9!)(has:∀y,(v6 m?\/v6 .free)->∃c,E! cl.lookup y c)(NV:A8!)(hN:(BT!).Nodup)(ht:AC! cv ifs tt)(he:AC! PE elt te)(hs:∀v,foldedSetIterable iter X.env v=pure v:=by intro _;rfl):PE X AH! (qe wi caps tt te):=by intro AA s σ H Q I h;rw[eval_ListComp];refine R5 (use:=none) hc hi NJ KZ JE KR hx IX has NV hN ht he I h (?_) hs;rintro C D H' s1 s' H1 hC I1 I' hn ⟨m,hm⟩ q;subst hC;exact⟨m,hm,λh' g9=>⟨C! D,H',Vk (s':=s') I1 I' hn g9,rfl,q⟩⟩
theorem Je{i:Nat}{y:Str}{py XO:Pos}(aR:X.N.Nodup)(SE:X.N[i]?=some y)(hy:E! X.env.scope.names.lookup y .local)(ot:swapsWith AH! (some (.Name y py)) XO.line X.env=pure true)(hc:Z?)(hi:PI X (wE px) iter wi)(NJ:closureFor sc X.env=pure cl)(KZ:AP! (y.2≠m?))(JE:Bu!)(KR:AP! (y.2=.local->By! sc.names.lookup y.1))(hx:Aq! sc.names.lookup)(IX:A9!)(has:∀y,(v6 m?\/v6 .free)->∃c,E! cl.lookup y c)(NV:A8!)(hN:(BT!).Nodup)(ht:AC! cv ifs tt)(he:AC! PE elt te)(hs:∀v,foldedSetIterable iter X.env v=pure v:=by intro _;rfl) :
 PS X (.Assign [.Name y py] AH! XO) (λD σ H=>qe wi caps tt te σ H λv H'=>D.nx (σ.set i (some v)) H'):=by
 intro AA s σ H D I h
 rw[exec_Assign_Name_used _ _ _ _ ot]
 refine ZR (wpAny_standAt (ZR ?_))
 show wpAny _ X.A (do let _ <-comprehension AH! sc X.env _ (newList []) false (Al! iter) (some (assign (.Name y py) X.env))) _ _ s
 refine ZR (EC (R5 (use:=g! (assign (.Name y py) X.env)) (RQ:=λ_ s'=>SP X AA D .next s') hc hi NJ KZ JE KR hx IX has NV hN ht he I h (λC Dd H' s1 s' H1 hC I1 I' hn ⟨m,hm⟩ q=>?_) hs) (λ_ s' hq=>ZS (ZS hq)) λ_ _ e=>e)
 subst hC
 show Cu! (assign (.Name y py) X.env (B! Dd))
 refine wpAny_assign_Name (Md I' aR SE (k! hy) (show RelV (B! Dd) (B! Dd) from rfl) (λs2 I2 ⟨a,bO,ha⟩=>?_) (.inr hy))
 have pR:s1.heap.objs.size≠a:=by
  rcases ha with z|z
  .rw[z];exact EE I1.lt
  .intro z2
   obtain⟨v,qc⟩:=I1.cell y a z
   exact absurd qc.lt (o! z2 (CN _))
 exact⟨m,hm.sameBut bO pR,λh' g9=>⟨_,H',Vk (s':=s') I1 I2 hn g9,q⟩⟩
universe E
def LV(h:Heap)(d:Addr)(es:v?)(ep:Nat):Prop:=∃o,FM h.get?/\o.ExactDict/\BB!
theorem LV.at(x:AS! h)(k:∀o,FM h.get?->FM h'.get?):AS! h':=let⟨o,e,r⟩:=x;Q? (k o e) r
universe S
theorem V9(nos:CH!)(hm:h?)(hQ:y! s.heap.objs.size (WP (AZ! (Dh! BN! (AO! #[IN,GE 0,GE es.size,GE ep]))))):Be! pyIter (B! d):=by obtain⟨ob,g1,g2,g3⟩:=id hm;have tD:s.TypeIs (B! d) "dict":=⟨ob,g1,g2.1⟩;refine wpAny_pyIter_slot tD F.slot_dict_iter (C_ F.slot_dict_iter tD F.entry_dict_iter ?_ (F.args_dict_iter_1 _));unfold Builtin.«dict.__iter__»;refine ZR ?_;unfold Builtin.Dict.dictSlotNone;refine ZR (IJ tD ?_);show wpAny _ _ (pure (Value.ref d)) _ _ s;refine ZS ?_;show Cj! (Builtin.Dict.showsAll d);unfold Builtin.Dict.showsAll;rw[B6! nos AX];refine CC!;refine ZR (CD g1 g3 (ZR (EM g1 g3 ?_)));refine ZR (DW (ZS ⟨_,rfl,BN!,_,CL!,F.slot_dict_keyiterator_next.lookup,by simpa [rawInt] using hQ⟩))
theorem V8(hit:BA! s.heap.IsKeyIter i)(hm:h?)(hx:es[i]?=some e)(hQ:C7! (BA! h'.IsKeyIter z!) (A4! it s.heap) (some e.key)):DJ!:=by
 obtain⟨oi,i1,i2,i3⟩:=id hit;obtain⟨ob,g1,g2,g3⟩:=id hm;have tI:=hit.typeIs;unfold pyNext;refine DX! tI IE (C_ IE tI F.entry_dict_keyiterator_next ?_ (F.args_dict_keyiterator_next_1 _));refine ZR (ZS (ZR (ZR ?_)));first|refine CY!|refine CZ!
 refine ZR (wpAny_fieldsOf i1 i3 ?_);have UG:Aa! BN!=false:=d!
 simp only[UG,CL,ED];show AW! _ DQ!;rw[Cq!];refine CU! g1 g3;rw[FB];refine CV! g1 g3;rw[FB];refine ZS ?_;have lt:i<es.size:=(ME.mp hx).1;have ee:es[i]=e:=(ME.mp hx).2;simp only[show DD! from H!,ED,DT,Array.getElem?_eq_getElem lt];refine ZR ?_;first|refine CY!|refine CZ!
 refine ZR (wpAny_isOneOf_keyiter tI ?_);show Cj! (DE! 1 rawInt ((i:Int)+1));refine ZR (wpAny_setField i1 i3 a! ?_);have jB:BA! (s.heap.update it (Obj.mapFields (·.setIfInBounds 1 (rawInt ((i:Int)+1))))).IsKeyIter z! :=⟨_,FZ _ i1 (Obj.isFreed_of_fields (OB i3 _)),(Obj.cls_mapFields ..).trans i2,by rw[OB i3];simp[rawInt]⟩;refine db ?_;refine ZR (wpAny_isOneOf_keyiter (s:=WP (s.heap.update it (Obj.mapFields (·.setIfInBounds 1 (rawInt ((i:Int)+1)))))) jB.typeIs ?_);show Cu! (pure es[i].key);rw[ee];exact ZS (ZS (w? (ZS (hQ _ jB (Heap.SameBut.update ..)))))
theorem zM(hh:BO!)(hit:BA! s.heap.IsKeyIter i)(hm:h?)(hx:es.size<=i)(hQ:∀h',Heap.ExtBut it s.heap h'->Bc! none):DJ!:=by
 obtain⟨oi,i1,i2,i3⟩:=id hit;obtain⟨ob,g1,g2,g3⟩:=id hm;have tI:=hit.typeIs;unfold pyNext;refine DX! tI IE (C_ IE tI F.entry_dict_keyiterator_next ?_ (F.args_dict_keyiterator_next_1 _));refine ZR (ZS (ZR (ZR ?_)));first|refine CY!|refine CZ!
 refine ZR (wpAny_fieldsOf i1 i3 ?_);have UG:Aa! BN!=false:=d!
 simp only[UG,CL,ED];show AW! _ DQ!;rw[Cq!];refine CU! g1 g3;rw[FB];refine CV! g1 g3;rw[FB];refine ZS ?_;simp only[show DD! from H!,ED,DT,Array.getElem?_eq_none hx];refine ZR ?_;first|refine CY!|refine CZ!
 show Cj! (setField o? 0 F!);refine ZR (wpAny_setField i1 i3 a! ?_);show Cu! (newExc (i! Sc) [] >>= _);refine ZR ?_;simp only[newExc,newTuple];refine ZR (DW ?_ (BP!));refine ZR (m:=firstArgMember _ _) (wpAny_of_eq (a:=Value.none) (by first|rfl|(simp only[firstArgMember];rfl)) ?_);refine DW ?_ (BP!);simp only[raiseNew];refine ZR (wpAny_handled ?_);rw[show A.in1.handled=none from hh];refine ZR (ZS (wpAny_throw ?_));refine ZR (wpAny_isInstance (T:=Sc) (b:=true) CL! isSubtype_stop ?_);exact ZS (hQ _ (((Heap.SameBut.update ..).extBut.push _).push _))
universe E
def mH(H:Hp)(kvs:xz)(as:I!):Prop:=Paired (λ(p:List Key×V)(a:Addr)=>UV a p.1.map kV) kvs as
universe S
theorem zX:∀{kvs:xz} {xs:G! (UF×AQ!)},KT H kvs xs->mH H kvs (xs.map AR!)
 | _,_,.nil=>P!
 | _,_,.cons r t=>Q! r.2.1 (zX t)
theorem Vh(I:J!)(e:Rd H d (.dT kvs)):kvs.length<=sizeLine/\CH!/\∃(es:v?)(ep:Nat)(as:I!),h?/\es.size=kvs.length/\mH H kvs as/\∀j (h:j<es.size),∃a,as[j]?=some a/\es[j].key=.ref a:=by
 obtain⟨z,lo,xs,rel,o,es,ep,g1,g2,g3,g4,g5⟩:=(show BX! H d BE! from e.ok I.DC);have hl:es.size=xs.length:=by have:=congrArg List.length g4;simpa using this
 refine⟨z,lo,es,ep,xs.map AR!,⟨o,g1,g2,g3⟩,by rw[hl];exact(Paired.length rel).symm,zX rel,λj h=>?_⟩;have hj:Df!:=H!
 have e1:es.toList[j]?=some es[j]:=by simp[h]
 rw[g4,ZH] at e1;have e2:Ba! (xs[j]):=by simp[hj]
 rw[e2] at e1;refine⟨xs[j].2.1,Bv! e2,?_⟩;have e3:entryOfKey (tupleKind (Bq X.prog X.w)) xs[j]=es[j]:=ZO e1;rw[<-e3];rfl
universe E
universe S
theorem Kf(I:J!)(hd:∃o,Ai! o)(nt:∀xs,H d≠AC .AZ xs)(no:∀y,H d≠AC .own y)(nf:∀o v,X.PV d≠g! (.GF o v))(ntb:∀ps,H d≠AC .Z_ ps)(new:BX! (upd H d u) d u):CS! d u:=by
 obtain⟨o,hd⟩:=hd;have fr:∀b,K! b->x! (upd H d u):=λb n=>F? (λz=>by rw[z,hd] at n;cases n) n
 refine⟨I.ok,I.os,I.bare,⟨I.base.keep,I.base.slot,λb ob e n hx=>fr b (I.base.free b ob e n hx),I.base.there,λb xs e=>?_,λb ob v e=>?_,λb ps e=>?_⟩,I.loc,I.cell,fr _ I.free,λy c e=>fr _ (I.IK y c e),Ac!,λb v e=>?_,I.len⟩;.have:=I.base.OK b xs e;rw[Ab λz=>nt xs (z? this)];exact this
 .have:=I.base.MW b ob v e;rw[Ab λz=>nf ob v (z? e)];exact this
 .obtain⟨more,q⟩:=I.base.OL b ps e;exact⟨more,F? (λz=>ntb _ (z? q)) q⟩
 .obtain⟨a1,a2,a3⟩:=I.pin p hp;exact⟨a1,fr _ a2,a3⟩
 .by_cases hb:b=d;(.subst hb;rw[Ac] at e;cases e;exact new);.rw[Ab hb] at e;refine DY! (I.DC b v e).PN ?_ ?_;(.rw[Ab λz=>no _ (z? q)];exact q);.rw[Ab λz=>nt _ (z? q)];exact q
theorem Zd(I:J!)(e:CT! .dT):∃o,FM s.heap.get?/\CS! d PP:=by
 have ok:=I.DC d _ e;obtain⟨_,_,xs,_,o,es,ep,g,_⟩:=id ok;refine Q? g (Kf I B? (λxs z=>wT) (λy z=>wT) (λob v z=>by have:=I.base.MW d ob v z;rw[e] at this;cases this) (λps z=>wT) (I? g));refine DY! ok.PN ?_ ?_;.rw[DV!];exact q
 .rw[DV!];exact q
theorem Xi(I:J!)(e:Ai! As!)(nf:∀o v,X.PV d≠g! (.GF o v)):CS! d u:=by
 obtain⟨g,ok⟩:=Dq! As! e;refine Kf I B? (λxs z=>wT) (λy z=>wT) nf (λps z=>wT) ?_;refine DY! ok.PN ?_ ?_;.rw[DV!];exact q
 .rw[DV!];exact q
inductive xh(PV H H':Hp):Prop
 | mk d o u (_:Ai! As!) (_:(∀o v,PV d≠g! (.GF o v))) (_:H'=upd H d u)
theorem PE.TX(h:PE X e t):PE X e (ap t (λv H1=>∃H2,xh X.PV H1 H2/\Q v H2)):=λAA s σ H Q I hw =>DX (h AA s σ H _ I hw) λu s' ⟨v,H1,I1,r,H2,⟨d,o,w',e1,e2,e3⟩,q⟩=>⟨v,H2,T! e3 (Xi I1 e1 e2),r,q⟩
theorem OY.TX(h:OY X GJ t):OY X GJ (λD σ H=>∃H2,xh X.PV H H2/\t D σ H2):=λAA s σ H D I ⟨H2,⟨d,o,w',e1,e2,e3⟩,q⟩=>by subst e3;exact h AA s σ _ D (Xi I e1 e2) q
universe E
def ak(d:Addr)(kvs:xz)(o:Obj):It :=
 ⟨λi H=>Ai! PP/\i<kvs.length,λi H x H'=>H'=H/\∃a k v,x=C! a/\kvs[i]?=some (k,v)/\UV a k.map kV,λi H=>Ai! PP/\kvs.length<=i⟩
theorem Jbt{P:Program}{w:World}{K:W.Frag}{tg:Expr}(d it:Addr)(kvs:xz)(o:Obj)(es:v?)(ep:Nat)(ho:o.ExactDict)(hd:BB!)(hz:es.size=kvs.length):Turn P w K tg (ak d kvs o) [it] it (λi h=>BA! h.IsKeyIter i) where
 mem:=X!
 obj:=λi h st b hb=>by
  have e:b=it:=by simpa using hb
  subst e
  obtain⟨oi,e,c,q⟩:=st
  exact⟨oi,e,λv z=>by rw[q] at z;cases z⟩
 keep:=λi h h' ⟨oi,e,r⟩ k=>⟨oi,k it a! oi e,r⟩
 item:=by
  intro X hP hw hK hc i AA s σ H E I hf st ⟨hg,hi⟩
  subst hP hw hK
  obtain⟨f0,f1,f2,f3,f4,f5⟩:=hf it (X!)
  have g:FM s.heap.get?:=(show DN X.prog X.w H s.heap d PP from I.DC d _ hg).1
  obtain⟨_,_,cY,cZ,as,⟨o',g',q1,q2⟩,z',ks,at_⟩:=Vh I (.inr ⟨o,hg⟩)
  rw[g] at g';cases g'
  rw[hd] at q2
  injection q2 with q2 q3
  subst q2;subst q3
  have lt:i<es.size:=H!
  obtain⟨a,ha,hk⟩:=at_ i lt
  have hx:kvs[i]?=some kvs[i]:=Di!
  refine V8 st ⟨o,g,ho,hd⟩ (e:=es[i]) (by simp[lt]) λh' QL sb=>?_
  have I1:BQ! j!:=I.turned (t':=s.toks) (λb ob hb e=>(sb.2 b hb).trans e) f0 f1 f3 f4 f5
  obtain⟨oi,e,c,q⟩:=id QL
  refine w? (Xn (s:=j!) e c q (d!) ⟨C! a,H,I1,hk,⟨rfl,a,kvs[i].1,kvs[i].2,rfl,hx,Aw ks i kvs[i] a hx ha⟩,QL,Y! (hf b hb).1⟩)
 done:=by
  intro X hP hw hK hc i AA s σ H E I hf st ⟨hg,hi⟩
  subst hP hw hK
  obtain⟨f0,f1,f2,f3,f4,f5⟩:=hf it (X!)
  have g:FM s.heap.get?:=(show DN X.prog X.w H s.heap d PP from I.DC d _ hg).1
  exact zM C9! st ⟨o,g,ho,hd⟩ A! λh' eb=>⟨rfl,I.turned (t':=s.toks) (λb ob hb e=>eb b ob hb e) f0 f1 f3 f4 f5⟩
 self:=λ_ _ _ _ _ st h=>wpAny_pyIter_keyiter st h
universe S
def Jk7(td:TE):TI:=λσ H R=>td σ H λx H1=>∃d kvs,x=IN/\E! H1 d BE!/\∀o,R (ak d kvs o) (upd H1 d PP)
theorem La{l:Expr}{td:TE}(hl:PE X l td):PI X tg l (Jk7 td):=by
 intro AA s σ H R I h;refine DX (hl AA s σ H _ I h) ?_;rintro v s1 ⟨x,H1,I1,r1,d,kvs,ex,hd,hR⟩;subst ex;cases r1;obtain⟨o,g,I2⟩:=Zd I1 hd;obtain⟨_,lo,es,ep,as,⟨o',g',q1,q2⟩,z,ks,at_⟩:=Vh I1 (k! hd);rw[g] at g';cases g';refine V9 lo ⟨o,g,q1,q2⟩ ?_;have fresh:=I2.DC.fresh (ZG _);have I3:TD (upd H1 d PP) { s1 with heap:=s1.heap.push (Dh! BN! (AO! #[IN,GE 0,GE es.size,GE ep])) }:=I2.kept (t':=s1.toks) λb ob e=>AV!;refine⟨s1.heap.objs.size,[s1.heap.objs.size],_,ak d kvs o,_,rfl,I3,Jbt d _ kvs o es ep q1 q2 z,DK! c?,Y! ?_,hR o⟩;have e:b=s1.heap.objs.size:=by simpa using hb
 subst e;exact I2.WA l! fresh
universe E
universe E FX
universe N FhS
open PySem PyProof.Rows PySem.W
def LW(cmp:Nat->Nat->N! (N! Bool))(lt:Cv!)(n:Nat)(s:Shared):Prop :=
 ∀i j,i<n->j<n->∀C:N! Bool,C (lt i j) s->cmp i j C s
structure j_(lt:Cv!)(n:Nat):Prop where
 tr:∀i j k,i<n->j<n->k<n->Cm!->lt j k=true->lt i k=true
 tot:∀i j,i<n->j<n->i≠j->lt i j=false->lt j i=true
structure Pm(p:Ev)(n:Nat):Prop where
 pm:p.toList.Perm (List.range n)
theorem Pm.size(h:K?):p.size=n:=by have:=h.pm.length_eq;simpa using this
theorem Pm.lt(h:K?)(hi:i<n):p.getD i 0<n:=by
 have hs:=h.size;have SE:i<p.size:=H!
 have e:p.getD i 0=p[i]:=by simp[Array.getD,SE]
 rw[e];have:p[i]∈List.range n:=h.pm.mem_iff.mp (X!);exact BR.mp this
theorem Pm.inj(h:K?)(hi:i<n)(hj:j<n)(e:p.getD i 0=p.getD j 0):i=j:=by
 have hs:=h.size;have SE:i<p.size:=H!
 have aO:j<p.size:=H!
 have nd:p.toList.Nodup:=h.pm.nodup_iff.mpr List.nodup_range;have e1:p.getD i 0=p[i]:=by simp[Array.getD,SE]
 have e2:p.getD j 0=p[j]:=by simp[Array.getD,aO]
 rw[e1,e2] at e;have:=(DZ (xs:=p.toList) (i:=i) (j:=j) (h₀:=by simpa using SE) (h₁:=by simpa using aO) nd).mp (SB);exact this
theorem Pm.VL(h:K?)(hq:q.Perm p):Pm q n:=⟨(Array.perm_iff_toList_perm.mp hq).trans h.pm⟩
theorem Jd3(n:Nat):Pm (List.toArray (List.range n)) n:=⟨X!⟩
def Up(lt:Cv!)(p:Ev)(m:Nat):Prop:=∀i j,Bx! (i<j) (j<m) i j
def Dn(lt:Cv!)(p:Ev)(m:Nat):Prop:=∀i j,Bx! (i<j) (j<m) j i
universe S
variable (O:j_ lt n)
include O
theorem other(h:K?)(hi:i<n)(hj:j<n)(US:i≠j)(e:DL! i j=false):WF j i :=O.tot _ _ (h.lt hi) (h.lt hj) (λz=>US (h.inj hi hj z)) e
theorem Up.snoc(h:K?)(h1:1<=a)(ha:a<n)(u:Op a)(e:WF (a-1) a):Op (a+1):=by
 intro i j US hj;by_cases h_:j=a;.subst h_;by_cases hi:i=j-1;(.rw[hi];exact e);.exact Db! BU! (h.lt ha) (u i (j-1) A! A!) e
 .exact u i j US A!
theorem Dn.snoc(h:K?)(h1:1<=a)(ha:a<n)(u:Dn lt p a)(e:WF a (a-1)):Dn lt p (a+1):=by
 intro i j US hj;by_cases h_:j=a;.subst h_;by_cases hi:i=j-1;(.rw[hi];exact e);.exact Db! (h.lt ha) BU! e (u i (j-1) A! A!)
 .exact u i j US A!
theorem Zp(K:AJ!)(h:K?):∀(f a:Nat)(G:N! Nat),1<=a->a+f<=n->Op a -> (∀m,a<=m->m<=a+f->Op m->(m=a+f\/WF m (m-1))->G m s)->(kas_asc p f a).kasWp cmp G s
 | 0,a,G,_,_,u,k=>k a l! l! u Cb!
 | f+1,a,G,h1,hn,u,k=>by unfold kas_asc;refine Cx!;cases e:DL! a (a-1) with | true =>simp only[HH];exact k a l! A! u (.inr e) | false =>simp only[CL,ED];exact Zp K h f (a+1) G A! A! (Up.snoc O h h1 A! u (other O h A! A! A! e)) λm a1 a2 a3 a4=>k m A! A! a3 (a4.imp (λz=>H!) λz=>z)
theorem yw(K:AJ!)(h:K?):∀(f a:Nat)(G:N! (Ev×Nat×Nat)),1<=a->a+f<=n->Dn lt p a -> (∀m,a<=m->m<=a+f->Dn lt p m->G (p,m,0) s)->(kas_desc f p a 0).kasWp cmp G s
 | 0,a,G,_,_,u,k=>k a l! l! u
 | f+1,a,G,h1,hn,u,k=>by unfold kas_desc;refine Cx!;cases e:DL! a (a-1) with | true =>simp only[HH,CN,gt_iff_lt,ED];exact yw K h f (a+1) G A! A! (Dn.snoc O h h1 A! u e) λm a1 a2 a3=>k m A! A! a3 | false =>simp only[CL,ED];refine Cx!;simp only[other O h A! A! A! e,HH];exact k a l! A! u
omit O in
theorem N4{p q:Array Nat}{i j:Nat}(e:p[i]?=q[j]?):p.getD i 0=q.getD j 0:=by
 rw[Array.getD_eq_getD_getElem?,Array.getD_eq_getD_getElem?,e]
omit O in
theorem Ji0{p:Array Nat}{m:Nat}(hm:m<=p.size)(d:Dn lt p m):Up lt (kas_rev p 0 m) m:=by
 intro i j US hj
 have g:∀k,k<m->(kas_rev p 0 m).getD k 0=p.getD (m-1-k) 0:=λk hk=>by
  refine N4 ?_
  unfold kas_rev
  rw[getElem?_mirror_all hm,AD ⟨BE _,hk⟩]
  congr 1;lia
 rw[g i (by lia),g j hj]
 exact d _ _ (by lia) (by lia)
theorem Jfo(K:AJ!)(hn:1<=n)(h:K?)(G:N! (Nat×Ev))(k:∀m q,1<=m->m<=n->Pm q n->Up lt q m->G (m,q) s):(kas_count n p).kasWp cmp G s:=by
 unfold kas_count;rw[NO];have up1:Op 1:=λi j h1 h2=>H!
 refine Zp O K h (n-1) 1 _ l! A! up1 λa a1 a2 a3 a4=>?_;by_cases ha:(a==n)=true;.rw[AD ha];exact k a p a1 A! h a3
 .rw[AB ha];(have pO:a≠n:=by simpa using ha);by_cases h1:a > 1;(.rw[AD h1];refine Cx!;simp only[a3 0 (a-1) A! A!,HH];exact k a p a1 A! h a3);.rw[AB h1];(have e1:a=1:=H!);subst e1;unfold kas_descPart;rw[NO];have e2:WF 1 0:=a4.elim (λz=>H!) λz=>z;(have d2:Dn lt p (1+1):=by intro i j US hj;(have e3:i=0:=H!);(have e4:j=1:=H!);rw[e3,e4];exact e2);refine yw O K h (n-(1+1)) (1+1) _ A! A! d2 λm q2 q3 q4=>?_;simp only[gt_iff_lt,CN,ED];unfold kas_tail3;rw[NO];have hr:Pm (kas_rev p 0 m) n:=h.VL (mirror_perm _ _ _ _);refine Zp O K hr (n-m) m _ A! A! (Ji0 (by rw[h.size];lia) q4) λb b1 b2 b3 _=>?_;exact k b _ A! A! hr b3
theorem Oy(K:AJ!)(h:K?)(hk:k<n)(u:Op k):∀(f l r:Nat)(G:N! Nat),l<=r->r<=k->r-l<=f->(∀i,i<l->WF i k)->(∀i,Bx! (r<=i) (i<k) k i) -> (∀m,m<=k->(∀i,i<m->WF i k)->(∀i,Bx! (m<=i) (i<k) k i)->G m s)->(kas_place p k f l r).kasWp cmp G s
 | 0,l,r,G,h1,h2,h3,lo,hi,g=>g l A! lo λi a b=>hi i A! b
 | f+1,l,r,G,h1,h2,h3,lo,hi,g=>by unfold kas_place;by_cases q:l ≥ r;(.rw[AD q];exact g l A! lo λi a b=>hi i A! b);.rw[AB q];refine K _ _ (h.lt hk) BU! _ ?_;cases e:DL! k (BC!) with | true =>simp only[HH];refine Oy K h hk u f l (BC!) G A! A! A! lo (λi a b=>?_) g;by_cases z:i=BC!;(.rw[z];exact e);.exact Db! (h.lt hk) BU! e (u _ _ A! b) | false =>simp only[CL,ED];have e':=other O h hk A! A! e;refine Oy K h hk u f (BC!+1) r G A! h2 A! (λi a=>?_) hi g;by_cases z:i=BC!;(.rw[z];exact e');.exact Db! BU! (h.lt hk) (u _ _ A! A!) e'
omit O in
theorem Jjy{p:Array Nat}(h:Pm p n){k l:Nat}(hk:k<n)(hl:l<=k)(u:Up lt p k)(lo:∀i,i<l->lt (p.getD i 0) (p.getD k 0)=true)(hi:∀i,l<=i->i<k->lt (p.getD k 0) (p.getD i 0)=true) :
 Up lt (bubble p k (k-l)) (k+1):=by
 have g:∀j,j<k+1->(bubble p k (k-l)).getD j 0=if j=l then p.getD k 0 else if l<j then p.getD (j-1) 0 else p.getD j 0:=λj hj=>by
  have e:=getElem?_bubble (xs:=p) (src:=k) (by rw[h.size];exact hk) (k-l) (by lia) j
  rw[show k-(k-l)=l by lia] at e
  by_cases c1:j=l
  .rw[AD c1] at e ⊢;exact N4 e
  .rw[AB c1] at e ⊢
   by_cases c2:l<j
   .rw[AD ⟨c2,by lia⟩] at e;rw[AD c2];exact N4 e
   .rw[AB (by lia)] at e;rw[AB c2];exact N4 e
 intro i j US hj
 rw[g i (by lia),g j hj]
 repeat' split
 all_goals first
  | (exfalso;lia)
  | exact lo _ (by lia)
  | exact hi _ (by lia) (by lia)
  | exact u _ _ (by lia) (by lia)
theorem yM(K:AJ!):∀(f:Nat)(p:Ev)(k:Nat)(G:N! Ev),K?->k+f=n->Op k->(∀q,Pm q n->Up lt q n->G q s)->(kas_bin f p k).kasWp cmp G s
 | 0,p,k,G,h,hk,u,g=>by (have e:k=n:=H!);subst e;exact g p h u
 | f+1,p,k,G,h,hk,u,g=>by unfold kas_bin;rw[NO];exact Oy O K h (k:=k) A! u k 0 k _ (BE _) l! A! (λi a=>H!) (λi a b=>H!) λm c1 c2 c3 =>yM K f _ (k+1) G (h.VL (bubble_perm _ _ _)) A! (Jjy h A! c1 u c2 c3) g
theorem bB(K:AJ!)(hn:1<=n)(G:N! Ev)(g:∀q,Pm q n->Up lt q n->G q s):(kas_sort n).kasWp cmp G s:=by
 unfold kas_sort;rw[NO];refine Jfo O K hn (Jd3 n) _ λm q h1 h2 h3 h4=>?_;by_cases c:m<n;.rw[AD c];(have e2:max m 1=m:=H!);show(kas_bin (n-max m 1) q (max m 1)).kasWp cmp G s;rw[e2];exact yM O K _ q m G h3 A! h4 g
 .rw[AB c];(have e2:m=n:=H!);subst e2;exact g q h3 h4
universe E
universe E FhS
universe N FX
open PySem PySem.Spec PyProof.Rows L2
universe S
theorem Jb3(hh:BO!)(I d:Addr)(aN:d≠I)(es:v?)(ep:Nat):Walks prog w A I [I,d] [I] es.size (λi v=>∃e,es[i]?=some e/\v=e.key) (λi h=>h.IsKeyIter I d i es.size ep/\AS! h) where
 sub:=Y! (by simp at hb;simp[hb])
 frame:=λ_ _ _ st hk=>⟨let⟨o,e,r⟩:=st.1;Q? (hk I a! o e) r,st.2.at λo e=>hk d a! o e⟩
 item:=λi s0 Q E0 hi st hQ=>V8 st.1 st.2 (e:=es[i]) (Di!) λh' it' sb =>
  hQ _ h' s0.toks ⟨es[i],Di!,rfl⟩ ⟨it',st.2.at λo e=>(sb.2 d aN).trans e⟩ (O? ((sb.2 b λz=>hb (by simp[z])).trans e))
 done:=λs0 Q E0 st hQ=>zM hh st.1 st.2 l! λh' eb=>hQ h' s0.toks (O? (eb b o (λz=>hb (by simp[z])) e))
 self:=λ_ _ _ _ st hQ=>wpAny_pyIter_keyiter st.1 hQ
theorem Ua(lo:CH!):W.KdlSrc prog w "dict" d d es.size (λi v=>∃e,es[i]?=some e/\v=e.key) (λh=>AS! h) where
 type:=λ_ ⟨o,e,x,_⟩=>x? x.1
 there:=λ_ ⟨o,e,_⟩=>⟨AR e,AR e⟩
 keep:=λ_ _ hm hk=>hm.at λo e=>hk d Cb! o e
 notList:=d!
 notTuple:=d!
 hint:=λ_ _ _ _ ⟨o,e,x,_⟩ hq=>W.kdl_hint_dict (x? x.1) hq
 iter:=λ_ s0 hh hm=>⟨_,_,(λ_ _ hq=>V9 lo hm hq),Jb3 hh _ d (let⟨o,e,_⟩:=hm;BH (AR e)) es ep,⟨DK! c?,hm.at λo e=>AV!⟩⟩
universe E
theorem Fo:∀as:I!,Vals (as.map V.ref) BR!
 | []=>P!
 | _::as=>Q! rfl (Fo as)
theorem X9{es:v?}{acc:BZ!}{as:I!}(ha:ItemsOf (λi v=>∃e,es[i]?=some e/\v=e.key) acc es.size)(VP:as.length=es.size)(at_:∀j (h:j<es.size),∃a,as[j]?=some a/\es[j].key=.ref a):acc.toList=as.map Value.ref:=by
 refine C1!;by_cases hj:j<es.size;·(have h1:j<acc.size:=T! ha.1 hj);obtain⟨e2,e3,e4⟩:=ha.2 j acc[j] (by simp[h1]);obtain⟨a,e5,e6⟩:=at_ j hj;(have e7:e2=es[j]:=by (have:es[j]?=some es[j]:=by simp[hj]);rw[this] at e3;exact(ZO e3).symm);rw[ZH,e5];(have:acc.toList[j]?=some acc[j]:=by simp[h1]);rw[this,e4,e7,e6];rfl
 ·(have h1:acc.toList.length<=j:=by rw[CT,ha.1];lia);(have h2:Bq!<=j:=Br!);rw[CM h1,CM h2]
universe S
variable {X:Cx}
theorem Qe(hc:Z?):Bh! (i! Go) (∃d kvs,IR d/\Rd H d (.dT kvs)/\∀l as,K! l->mH H kvs as->y! l (KM ww)):=by intro AA s σ H xs us Q I r h;obtain⟨d,kvs,rfl,hd,q⟩:=h;obtain⟨u,rfl,rx⟩:=Ax!;cases rx;obtain⟨z,lo,es,ep,as,raw,hz,ks,at_⟩:=Vh I hd;refine W.kdl_call (Ua lo (es:=es) (ep:=ep)) C9! raw (b? hz z) λh' tk acc c kp e ha=>?_;have hn:Aj!:=v4;have VP:as.length=kvs.length:=(Paired.length ks).symm;have e1:acc.toList=as.map Value.ref:=X9 ha A! at_;refine⟨C! s.heap.objs.size,_,I.laid (t':=tk) kp l! (show DN X.prog X.w _ h' _ ww from⟨Br!,acc.toList,c,?_,SB⟩),rfl,q _ as hn ks⟩;rw[e1];exact Fo as
universe E
theorem N2:∀xs:M!,HT.lexLt xs xs=false
 | []=>rfl
 | x::xs=>by rw[HT.GK,AD rfl];exact N2 xs
theorem Ux:∀{xs ys zs:M!},t? xs ys->t? ys zs->t? xs zs
 | [],[],_,h,_=>be
 | [],_::_,[],_,h=>be
 | [],_::_,_::_,_,_=>rfl
 | _::_,[],_,h,_=>be
 | _::_,_::_,[],_,h=>be
 | x::xs,y::ys,z::zs,h1,h2=>by rw[HT.GK] at h1 h2 ⊢;by_cases e1:x=y;(.rw[AD e1] at h1;by_cases e2:y=z;(.rw[AD e2] at h2;rw[AD (e1.trans e2)];exact Ux h1 h2);.rw[AB e2] at h2;rw[B6! e1 e2,e1];exact h2);.rw[AB e1] at h1;have h1:=BO h1;by_cases e2:y=z;(.rw[AB (o! e2 e1),<-e2];exact decide_eq_true h1);.rw[AB e2] at h2;have h2:=BO h2;rw[AB (H!)];exact CR!
theorem Uy:∀{xs ys:M!},xs≠ys->HT.lexLt xs ys=false->t? ys xs
 | [],[],h,_=>CQ! h
 | [],_::_,_,h=>be
 | _::_,[],_,_=>rfl
 | x::xs,y::ys,aN,h=>by rw[HT.GK] at h ⊢;by_cases e:x=y;(.rw[AD e] at h;rw[AD e.symm];exact Uy (λz=>aN (by rw[e,z])) h);.rw[AB e] at h;have h:=of_decide_eq_false h;rw[AB (Ne.symm e)];exact CR!
theorem Hm{α:Type}{lt:E? α α}(irr:∀a,¬lt a a)(j5:∀a b,lt a b->¬lt b a):∀{RE l₂:G?},RE.Perm l₂->RE.Pairwise lt->l₂.Pairwise lt->RE=l₂
 | [],l₂,p,_,_=>(List.Perm.nil_eq p)
 | a::RE,[],p,_,_=>by have:=p.length_eq;simp at this
 | a::RE,b::l₂,p,h1,h2=>by have vm:=EL.mp h1;have bU:=EL.mp h2;(have e:a=b:=by have ha:a∈b::l₂:=p.mem_iff.mp (ZL ..);have hb:b∈a::RE:=p.mem_iff.mpr (ZL ..);rcases ZM ha with e|ha;(.exact e);.rcases ZM hb with e|hb;(.exact e.symm);.exact absurd (bU.1 a ha) (j5 _ _ (vm.1 b hb)));subst e;rw[Hm irr j5 (List.Perm.cons_inv p) vm.2 bU.2]
universe S
theorem Re(ho:B9! (Tk vs.toArray n))(UU:vs.length<64)(O:FhS.j_ lt vs.length)(K:2<=vs.length->∀h',(Cd!)->∀Q:N! SortKind,(∀κ,FhS.LW (W.kas_ask prog w A κ vs) lt vs.length j!->Bc! κ)->CO! (keyKind' vs.toArray) Q j!)(h:∀q:Af!,A5! vs.length->BG! Cm!->∀h' c,BF! (Cd!) (a? h'.get? (Tk (q.map (Z! vs.getD F!)).toArray c)) P .done F!) :
 Dk! Builtin.«list.sort» NE P:=by
 rw[list_sort_plain]
 have al:a<s.heap.objs.size:=AR ho
 have small:∀{k:Nat},k<=63->k<=sizeLine:=λhk=>by rw[Cn];lia
 refine ZR (WT ho rfl (ZR (listUpdate_at ho rfl ?_ (b? BD (BY! small)) (BE _))))
 obtain⟨e1,g1⟩:∃e1,a? (s.heap.update a (Obj.mapSeq λ_=>(#[]:BZ!))).get? (Dl! e1):=U! (IU ho λ_=>#[])
 refine ZR (seqEpoch_at g1 rfl (ZR (wpAny_newTuple (ZR (PZ (EJ ?_) (BE _))) (by show vs.length<=_;exact BY! small))))
 have g2:a? (Da! Os).get? (Dl! e1):=ZT _ (ZT _ g1)
 have kp:B8! (b≠a) BS! (Da! Os).get?:=λb o hb e =>
  ZT _ (ZT _ (Aw! e))
 show CO! _ P (WP (Da! Os))
 generalize Da! Os=hh at g2 kp
 dsimp only
 have fin:∀(st:SortSt)(q:Af!),CP! arrOf st=(q.map (Z! vs.getD F!)).toArray->failedOf st=none->A5! vs.length->BG! Cm! ->
  CO! (do
   let touched:=(<-seqEpoch a) != e1
   Builtin.List.listUpdate AT λ_=>CP! arrOf st
   if let some e:=failedOf st then rule "list.sort.comparison-raised";throw e
   if touched then rule "list.sort.modified";raiseError "ValueError" "list modified during sort"
   ret F!) P Bj!:=λst q ea ef qp qo=>by
  have hl:q.length=vs.length:=by rw[qp.length_eq,BZ]
  refine ZR (seqEpoch_at g2 rfl ?_)
  rw[ea]
  refine ZR (listUpdate_at g2 rfl ?_ (BE _) (by show(q.map (Z! vs.getD Value.none)).toArray.size<=sizeLine+1;rw[BD,ZA,hl];exact FR (small A!)))
  rw[ef]
  simp only[bne_self_eq_false,CL,ED]
  refine ZS (h q qp qo _ _ (O? (Aw! (A6! hb))) (IU g2 _))
 by_cases h2:vs.toArray.size<2
 .rw[AD h2,AD h2]
  refine CC!
  rw[StateT.run_pure]
  refine CC!
  have bU:vs.length<2:=by simpa using h2
  refine fin (SortSt.mk' general' (vs.toArray.zip vs.toArray) #[] 7 none) (List.range vs.length) ?_ rfl (List.Perm.refl _) ?_
  .show CP! vs.toArray.zip vs.toArray=_
   match vs,bU with
   | [],_=>simp
   | [v],_=>simp
  .match vs,bU with
   | [],_=>exact List.Pairwise.nil
   | [v],_=>exact List.pairwise_singleton _ _
 .rw[AB h2,AB h2]
  have bU:2<=vs.length:=by simpa using h2
  refine ZR (K bU hh kp _ λκ ask=>?_)
  refine ZR (EC (W.kat_run (E:=E) (vs:=vs) (ks:=vs) (κ:=κ) (s:=Bj!) (Q:=λQL s'=>s'=Bj!/\∃q:Af!,CP! arrOf QL=(q.map (Z! vs.getD F!)).toArray/\failedOf QL=none/\A5! vs.length/\BG! Cm!)
   (G:=λp s'=>s'=Bj!/\FhS.Pm p vs.length/\FhS.Up lt p vs.length) rfl bU UU (λp QL s' hp ha hf ⟨e,pm,up⟩=>?_) (FhS.bB O ask A! _ λq pm up=>⟨rfl,pm,up⟩)) (λr s' hr=>?_) λ_ _ e=>e)
  .refine⟨e,p.toList,W.kat_snds rfl ha,hf,pm.pm,?_⟩
   rw[List.pairwise_iff_getElem]
   intro i j hi hj US
   have hs:=pm.size
   have:=up i j US (by rw[<-hs];simpa using hj)
   have gi:p.getD i 0=p.toList[i]:=by simp[Array.getD,show i<p.size by simpa using hi]
   have gj:p.getD j 0=p.toList[j]:=by simp[Array.getD,show j<p.size by simpa using hj]
   rw[gi,gj] at this
   exact this
  .obtain⟨u,QL⟩:=r
   obtain⟨e,q,q1,q2,q3,q4⟩:=hr
   dsimp only at e q1 q2 ⊢
   subst e
   exact fin QL q q1 q2 q3 q4
universe E
universe S
theorem Xh:∀{us ws:O!} {ns ms:M!} (i:Nat) (s:Shared),Bg! us->IntsAre ws ms->fin=J? (ns.length<ms.length)->Q (HT.lexLt ns ms) s->W.KatLex prog w A b fin Q (us.zip ws) i s
 | _,_,_,_,i,s,.nil,.nil,hf,h=>by rw[List.zip_nil_left];refine W.kat_nil ?_;rw[hf];exact h
 | _,_,_,_,i,s,.nil,.cons (ns:=ms) m t r,hf,h=>by rw[List.zip_nil_left];refine W.kat_nil ?_;rw[hf];(have:J? (Ab! M!<(m::ms).length)=true:=X!);rw[this];exact h
 | _,_,_,_,i,s,.cons (ns:=ns) n t r,.nil,hf,h=>by rw[List.zip_nil_right];refine W.kat_nil ?_;rw[hf];(have:J? ((n::ns).length<Ab! M!)=false:=X!);rw[this];exact h
 | _,_,_,_,i,s,.cons (ns:=ns) n t r,.cons (ns:=ms) m u q,hf,h=>by rw[List.zip_cons_cons];refine W.kat_cons (wpAny_eqBool_int (W.kat_go (λe=>W.kat_yes ?_) λe=>W.kat_no ?_));(·(have e:n=m:=SB);rw[HT.GK,AD e] at h;exact Xh z! s r q (BM! hf) h);·(have e:n≠m:=SB);rw[HT.GK,AB e] at h;cases hb:(b&&i==0) with | true=>exact oneLt_int h | false=>exact W.kat_one _ _ (lt_int h)
def JG(h:Heap):E? I! (G! (List Int)):=Paired λa ns=>ns≠[]/\∃its,DH! a/\Bg! its.toList
theorem M9:∀{as:I!} {QF:G! (List Int)},JG h as QF->∃fs:O!,W.KatTups h BR! fs/\fs.length=as.length/\∀v∈fs,∃n t,v=Value.int n t
 | _,_,.nil=>⟨[],trivial,rfl,λv hv=>by simp at hv⟩
 | _,_,.cons (a:=a) (b:=ns) r t=>by obtain⟨fs,a1,a2,a3⟩:=M9 t;obtain⟨aN,its,⟨o,ho,hc,n,hd⟩,hi⟩:=r;cases hL:its.toList with | nil=>rw[hL] at hi;cases hi;exact CQ! aN | cons f fr =>rw[hL] at hi;cases hi with | cons n0 t0 hr =>refine⟨Value.int n0 t0::fs,W.KatTups.cons ho hc hd ?_ a1,by simp[a2],λv hv=>?_⟩;(·(have:its[0]?=its.toList[0]?:=X!);rw[this,hL];rfl);.rcases ZM hv with rfl|hv;(.exact⟨_,_,rfl⟩);.exact a3 v hv
theorem JG.keep(k:Dv! KF (∃ts n,o.data=.seq ts n/\o.cls=B3!))(t:JG h as QF):JG h' as QF :=Ap (λa ns ⟨h1,its,⟨o,ho,hc,n,hd⟩,hi⟩=>⟨h1,its,⟨o,k a o ho ⟨_,_,hd,hc⟩,hc,n,hd⟩,hi⟩) t
theorem Jbu(hκ:∃b,κ=tuples' b)(t:JG s.heap as QF) : FhS.LW (W.kas_ask prog w A κ BR!) (λi j=>HT.lexLt (QF.getD i []) (QF.getD j [])) Bq! s:=by
 obtain⟨b,rfl⟩:=hκ;intro i j hi hj C hC;rw[ZA] at hi hj;have get:∀k,k<as.length->∃a ns its,KB k F!=.ref a/\QF.getD k []=ns/\IsTup s.heap a its/\Bg! its.toList:=λk hk=>by have hl:=r? t;(have h1:as[k]?=some as[k]:=by simp[hk]);(have h2:QF[k]?=some (QF[k]' A!):=Ad! (k<QF.length));obtain⟨_,its,q1,q2⟩:=Aw t k _ _ h1 h2;exact⟨as[k],_,its,by simp[hk],Ad! (k<QF.length),q1,q2⟩
 obtain⟨a,ns,its,e1,e2,⟨o,ho,hc,n,hd⟩,vW⟩:=get i hi;obtain⟨a',cK,its',QZ,TR,⟨o',aM,pK,n',RY⟩,jD⟩:=get j hj;unfold W.kas_ask;rw[e1,QZ];refine W.kat_lt ho hd aM RY (Xh 0 s vW jD ?_ (by dsimp only at hC;rw[e2,TR] at hC;exact hC));have l1:=vW.length;have l2:=jD.length;simp only[CT] at l1 l2;rw[l1,l2]
theorem Pl(ho:B9! (Du! n))(UU:as.length<64)(t:JG s.heap as QF)(nd:QF.Nodup)(h:∀q:Af!,A5! as.length->BG! (t? (QF.getD i []) (QF.getD j []))->∀h' c,BF! (Cd!) (a? h'.get? (Tk (q.map (Z! KB F!)).toArray c)) P .done F!) : Dk! Builtin.«list.sort» NE P:=by
 have hl:=r? t;have cV:Bq!=as.length:=ZA ..;refine Re (lt:=λi j=>HT.lexLt (QF.getD i []) (QF.getD j [])) ho (CE! UU) ⟨λi j k _ _ _=>Ux,λi j hi hj US e=>Uy (λz=>US ?_) e⟩ (λh2 h' kp Q hQ=>?_) (CE! h);·(have SE:i<QF.length:=H!);(have aO:j<QF.length:=H!);(have e1:QF[i]=QF[j]:=by simpa [SE,aO] using z);exact(DZ nd).mp e1
 .have t':JG h' as QF:=t.keep λb o e ⟨ts,k,q,qc⟩=>A6! (λz=>by rw[z,ho] at e;cases e;have qc:am Go=Value.type y?:=qc;injection qc with qc;exact absurd qc (d!));obtain⟨fs,f1,f2,f3⟩:=M9 t';refine W.kat_kind (s:=j!) (T:=i! "int") f1 (by rw[f2];rw[cV] at h2;lia) (λv hv=>?_) rfl (hQ _ (Jbu sK t'));obtain⟨m,tk,rfl⟩:=f3 v hv;exact W.Looks.of_pure rfl
universe E
theorem Ou(g:α->V)(f:α->Addr)(h:∀x,g x=V.ref (f x)):∀as:G?,Vals (as.map g) ((as.map f).map Value.ref)
 | []=>P!
 | a::as=>Q! (T! (h a) rfl) (Ou g f h as)
universe S
variable {X:Cx}
theorem Mw(hc:Z?):Cs! (∃d,∃L:G! (M!×V),IR d/\DO! L.map (λp=>(C2!,p.2))/\L.length<64/\(L.map S!).Nodup/\(∀p∈L,p.1≠[]) /\ ∀(l:Addr)(M:G! (M!×Addr)),K! l->(M.map S!).Perm (L.map S!)->M.Pairwise (λp q=>t? p.1 q.1)->(∀p∈M,UV p.2 p.1.map V.int)->y! l (KM (.BC (M.map λp=>V.ref p.2)))):=by
 intro AA s σ H xs us Q I r h;obtain⟨d,L,rfl,hd,UU,nd,aN,q⟩:=h;obtain⟨u,rfl,rx⟩:=Ax!;cases rx;obtain⟨z,lo,es,ep,as,raw,hz,ks,at_⟩:=Vh I hd;have hlL:(L.map λp=>((C2!:UF),p.2)).length=L.length:=ZA ..;have VP:as.length=L.length:=by rw[<-hlL];exact(Paired.length ks).symm
 have key:∀(j:Nat)(p:M!×V),L[j]?=some p->∃a,as[j]?=some a/\UV a p.1.map V.int:=λj p hp=>by have hj:Bl!:=(ZJ hp).1;obtain⟨a,ha⟩:=DT! as j A!;have:=Aw ks j ((C2!:UF),p.2) a (Bv! hp) ha;refine⟨a,ha,?_⟩;rw[this,AL];rfl
 have t0:JG s.heap as (L.map S!):=D8 (by rw[ZA,VP]) λj a ns e1 e2=>by rw[ZH] at e2;cases hp:L[j]? with | none=>rw[hp] at e2;cases e2 | some p =>rw[hp] at e2;have e3:p.1=ns:=ZO e2;obtain⟨a',h1,h2⟩:=key j p hp;rw[e1] at h1;cases h1;obtain⟨its,rv,it,_⟩:=I.tuple (CF.of (K:=X.K) h2);exact⟨o! e3 (aN p (ZP hp)),its.toArray,it,by rw[<-e3];simpa using intsAre_of rv⟩
 refine JC kind_sorted plain_sorted entry_sorted (args_sorted1 _) (by unfold Builtin.«sorted»;refine ZR (m:=checkCount "sorted" 1 1 _) (FS (W.kdu_collect (Ua lo (es:=es) (ep:=ep)) (show _ from I.ok.hd hc) raw (b? hz z) λh1 tk acc kp ha=>?_));have e1:acc.toList=as.map Value.ref:=X9 ha A! at_;rw[e1];have I1:BQ! { s with heap:=h1,toks:=tk }:=I.kept kp;refine ZR (PZ ?_ (C5!));have g1:Ag! h1.push i? h1.objs.size i?:=c?;have t1:JG (h1.push i?) as (L.map S!):=t0.keep λb o e _=>ZT _ (H? kp);refine db (C_ slot_list_sort ⟨_,g1,rfl⟩ YJ (Pl g1 A! t1 nd λp pp po h2 c gu e=>w? ?_) (args_list_sort _));have hn:K! h1.objs.size:=I1.DC.fresh (ZG _);have inr:∀i∈p,AK!:=λi hi=>BR.mp (pp.mem_iff.mp hi);(have eM:(p.map (Z! KB F!))=(p.map d?).map Value.ref:=by rw[AL];refine BM λi hi=>?_;have:=wp;simp[this]);refine ZS ⟨_,rfl,C! h1.objs.size,_,I1.laid (a:=h1.objs.size) (o:=.BC ((p.map λi=>(q? i [],as.getD i 0)).map λq=>V.ref q.2)) (t':=tk) (λb o hb=>gu b o (BH (AR hb)) (ZT _ hb)) l! ⟨?_,(p.map d?).map Value.ref,c,?_,?_⟩,rfl,q _ _ hn ?_ ?_ ?_⟩;(.rw[ZA,ZA,pp.length_eq,BZ,Cn];lia);(.rw[AL];exact Ou _ (d?) (λ_=>rfl) p);(.rw[<-eM];exact e);(.rw[AL];(have e2:(List.range as.length).map (Z! q? [])=L.map S!:=by refine C1!;rw[ZH];by_cases hj:Bl!;(·(have h3:AB!=some j:=by simp[VP,hj]);rw[h3];simp[hj]);·(have h3:AB!=none:=by simp[VP];lia);rw[h3,CM (Br!)];rfl);have e7:=pp.map (Z! q? []);rw[e2] at e7;exact e7);(.rw[EG];exact po);.intro r hr;obtain⟨i,hi,e3⟩:=ZN hr;have JU:=wp;obtain⟨p0,vP⟩:=DT! L i A!;obtain⟨a,h3,h4⟩:=key i p0 vP;rw[<-e3];(have e5:as.getD i 0=a:=by rw[ID,h3];rfl);(have e6:DI! p0.1:=by rw[ID,ZH,vP];rfl);show UV (as.getD i 0) (q? i []).map V.int;rw[e5,e6];exact h4)
universe E
universe S
universe E
abbrev T2:=Int×Int
def tk(t:T2):UF:=[h! t.1,h! t.2]
def tv(t:T2):L!:=[D! t.1,D! t.2]
theorem qh(t:T2):(tk t).map kV=tv t:=rfl
theorem Yd(h:tk a=tk b):a=b:=by obtain⟨a1,a2⟩:=a;obtain⟨b1,b2⟩:=b;unfold tk at h;simp only[List.cons.injEq,Sum.inl.injEq,and_true] at h;rw[h.1,h.2]
structure BX where
 BL:Int
 AU:Int
 A_:Int
 h:Addr
 o:Addr
 l:Addr
 r:Addr
 hand:V!
 AH:f?
 holds:AD!
 AN:f?
theorem G0{k:Str}{v:V}{r:G! (Str×V)}:List.lookup k ((k,v)::r)=some v:=by rw[OD];have:(k==k)=true:=beq_self_eq_true k;rw[this]
theorem Br{k j:Str}{v:V}{r:G! (Str×V)}(h:¬k=j):List.lookup k ((j,v)::r)=List.lookup k r:=by rw[OD];have:(k==j)=false:=DR.mpr h;rw[this]
theorem Er:Ar f v []=[(f,v)]:=rfl
theorem yG:Ar f v ((f,x)::r)=(f,v)::r:=by grind [Ar,V]
theorem B9(h:¬k=f):Ar f v ((k,x)::r)=(k,x)::Ar f v r:=by grind [Ar,V]
theorem Gf:ga M?:=ZV
theorem Ii:ga N?:=ZV
theorem Qp:ga V?:=ZV
theorem Qo:ga W?:=ZV
theorem Pa:ga X?:=ZV
theorem Mi:ga Y?:=ZV
theorem Qq:ii U?:=ZV
theorem Lg:ii N?:=ZV
theorem W8:ii V?:=ZV
theorem Wz:ii W?:=ZV
theorem Uo:ii X?:=ZV
theorem Pb:ii Y?:=ZV
theorem O5:jp U?:=ZV
theorem Uj:jp M?:=ZV
theorem Uk:jp V?:=ZV
theorem Ui:jp W?:=ZV
theorem Qm:jp X?:=ZV
theorem Nj:jp Y?:=ZV
theorem Qs:lc U?:=ZV
theorem Xa:lc M?:=ZV
theorem Ut:lc N?:=ZV
theorem W9:lc W?:=ZV
theorem Uu:lc X?:=ZV
theorem Pd:lc Y?:=ZV
theorem Qn:o0 U?:=ZV
theorem Wx:o0 M?:=ZV
theorem Ul:o0 N?:=ZV
theorem Wy:o0 V?:=ZV
theorem Um:o0 X?:=ZV
theorem O9:o0 Y?:=ZV
theorem Pc:pi U?:=ZV
theorem Ur:pi M?:=ZV
theorem Qr:pi N?:=ZV
theorem Us:pi V?:=ZV
theorem Uq:pi W?:=ZV
theorem Nm:pi Y?:=ZV
theorem Mh:re U?:=ZV
theorem O7:re M?:=ZV
theorem Nk:re N?:=ZV
theorem O8:re V?:=ZV
theorem O6:re W?:=ZV
theorem Nl:re X?:=ZV
def Cc(G:BX):G! (Str×V):=[(U?,D! G.BL),(M?,D! G.AU),(N?,D! G.A_),(V?,C! G.h),(W?,C! G.o),(X?,C! G.l),(Y?,C! G.r)]
theorem Rm(G:BX):Dp! U? (D! G.BL):=by unfold Cc;rw[G0]
theorem zS(G:BX):Dp! M? (D! G.AU):=by unfold Cc;rw[Br Qq,G0]
theorem Cp(G:BX):Dp! N? (D! G.A_):=by unfold Cc;rw[Br O5,Br Uj,G0]
theorem Fm(G:BX):Cg! V? G.h:=by unfold Cc;rw[Br Qs,Br Xa,Br Ut,G0]
theorem De(G:BX):Cg! W? G.o:=by unfold Cc;rw[Br Qn,Br Wx,Br Ul,Br Wy,G0]
theorem Ei(G:BX):Cg! X? G.l:=by unfold Cc;rw[Br Pc,Br Ur,Br Qr,Br Us,Br Uq,G0]
theorem C9(G:BX):Cg! Y? G.r:=by unfold Cc;rw[Br Mh,Br O7,Br Nk,Br O8,Br O6,Br Nl,G0]
theorem Xk(G:BX)(y:Int):Ar M? (D! y) (Cc G)=Cc { G with AU:=y }:=by unfold Cc;rw[B9 Gf,yG]
theorem Bi(G:BX)(y:Int):Ar N? (D! y) (Cc G)=Cc { G with A_:=y }:=by unfold Cc;rw[B9 Ii,B9 Lg,yG]
theorem Jjn(G:BX):Ar Y? (B! G.r) (Ar X? (B! G.l) (Ar W? (B! G.o) (Ar V? (B! G.h) (Ar N? (D! G.A_) (Ar M? (D! G.AU) (Ar U? (D! G.BL) []))))))=Cc G:=by unfold Cc;rw[Er];rw[B9 Gf,Er];rw[B9 Ii,B9 Lg,Er];rw[B9 Qp,B9 W8,B9 Uk,Er];rw[B9 Qo,B9 Wz,B9 Ui,B9 W9,Er];rw[B9 Pa,B9 Uo,B9 Qm,B9 Uu,B9 Um,Er];rw[B9 Mi,B9 Pb,B9 Nj,B9 Pd,B9 O9,B9 Nm,Er]
theorem Cd(G:BX){m:Str}(h:([U?,M?,N?,V?,W?,X?,Y?]:A?).contains m=false):(Cc G).lookup m=none:=by simp only[L_,Bool.or_eq_false_iff,DR] at h;obtain⟨h1,h2,h3,h4,h5,h6,h7,_⟩:=h;unfold Cc;rw[Br h1,Br h2,Br h3,Br h4,Br h5,Br h6,Br h7];rfl
theorem D5(G:BX):(Cc G).length<1000:=by show 7<1000;decide
def A8(l:V!):HO:=.dT (l.map λt=>(tk t,V.bl true))
def C7(l:f?):HO:=.dT (l.map λq=>GM)
def C1(l:AD!):HO:=.dT (l.map DR!)
theorem Dl(l:G?)(k:α->T2)(f:α->V)(t:T2):Ci Av! (tk t)=(l.find? λq=>J? (k q=t)).map f:=by
 unfold Ci;rw[LY,Option.map_map];congr 1;congr 1;funext q;show J? (tk (k q)=tk t)=decide (k q=t);by_cases e:k q=t;.rw[e];simp
 .rw[decide_eq_false e,decide_eq_false λz=>e (Yd z)]
theorem Sg{α:Type}{l:G?}{k:α->T2}{f:α->V}{t:T2}(h:∀q∈l,k q≠t):Ci Av! (tk t)=none:=by rw[Dl,AY.mpr (k? (by simpa using h q hq))];rfl
theorem F5{α:Type}{l:G?}{k:α->T2}{f:α->V}{t:T2}(v:V)(h:∀q∈l,k q≠t):putK Av! (tk t) v=Av!++[(tk t,v)]:=Ex v (Sg h)
def BI(G:BX):I!:=G.h::G.o::G.l::G.r::G.holds.map AR!
structure AS(C:Addr)(H:Hp)(p:Addr)(G:BX):Prop where
 ob:∃dx,v! p (.ins C dx (Cc G))
 dh:CA! G.h G.hand
 dO:CB! G.o G.AH
 dl:v! G.l (C1 G.holds)
 dr:CB! G.r G.AN
 hl:∀q∈G.holds,CA! w! q.2.2
 nd:(BI G).Nodup
def SK(p:Addr)(G:BX)(H H':Hp):Prop:=∀b o,q! H->b≠p->b∉W!->q! H'
universe S
variable {C p:Addr}{H H':Hp}{G:BX}
theorem AS.keep(x:C?)(k:B8! (b=p\/b∈W!) (q! H) H'):AS C H' p G:=by
 have m0:G.h∈W!:=l?
 have m1:G.o∈W!:=l?
 have m2:G.l∈W!:=l?
 have m3:G.r∈W!:=l?
 refine⟨let⟨dx,e⟩:=x.ob;⟨dx,k _ _ Cb! e⟩,A0! m0 x.dh,A0! m1 x.dO,A0! m2 x.dl,A0! m3 x.dr,k? (A0! ?_ (x.hl q hq)),x.nd⟩;unfold BI;exact ZD _ (ZD _ (ZD _ (ZD _ (BG hq))))
theorem AS.same(x:C?)(s:Bh H H'):AS C H' p G:=x.keep λb o _ e=>s b o e
theorem AS.LQ(x:C?)(hb:b∈W!):∃kvs,Ch BE!:=by
 unfold BI at hb;rcases ZM hb with rfl|hb;.exact U! x.dh
 rcases ZM hb with rfl|hb;.exact U! x.dO
 rcases ZM hb with rfl|hb;.exact U! x.dl
 rcases ZM hb with rfl|hb;.exact U! x.dr
 obtain⟨q,hq,e⟩:=ZN hb;rw[<-e];exact U! wv
theorem AS.PR(x:C?)(hb:b∈W!):b≠p:=by obtain⟨kvs,e⟩:=x.LQ hb;obtain⟨dx,e'⟩:=x.ob;exact O2 e e' (by intro z;cases z)
theorem AS.tup_ne(x:C?)(hb:Ch (.AZ xs)):b≠p/\b∉W!:=by obtain⟨dx,e'⟩:=x.ob;refine⟨O2 hb e' (by intro z;cases z),λm=>?_⟩;obtain⟨kvs,e⟩:=x.LQ m;rw[hb] at e;cases e
theorem AS.RL(x:C?)(hb:Ch (.BC xs)):b≠p/\b∉W!:=by obtain⟨dx,e'⟩:=x.ob;refine⟨O2 hb e' (by intro z;cases z),λm=>?_⟩;obtain⟨kvs,e⟩:=x.LQ m;rw[hb] at e;cases e
theorem AS.SA(x:C?):(G.h≠G.o/\G.h≠G.l/\G.h≠G.r)/\(G.o≠G.l/\G.o≠G.r)/\G.l≠G.r/\∀q∈G.holds,w!≠G.h/\w!≠G.o/\w!≠G.l/\w!≠G.r:=by have nd:=x.nd;unfold BI at nd;simp only[AM,BU,not_or] at nd;obtain⟨⟨a1,a2,a3,a4⟩,⟨b1,b2,b3⟩,⟨c1,c2⟩,d1,_⟩:=nd;refine⟨⟨a1,a2,a3⟩,⟨b1,b2⟩,c1,k? ?_⟩;have m:w!∈G.holds.map AR!:=BG hq;exact⟨CJ! a4,CJ! b3,CJ! c2,CJ! d1⟩
theorem AS.fld(x:C?)(dx:Addr)(m t:Int):AS C (AU! (.ins C dx (Cc { G with AU:=m,A_:=t }))) p { G with AU:=m,A_:=t }:=by
 have n:∀{b},b∈W!->b≠p:=λhb=>x.PR hb;have m0:G.h∈W!:=l?
 have m1:G.o∈W!:=l?
 have m2:G.l∈W!:=l?
 have m3:G.r∈W!:=l?
 refine⟨⟨dx,Ac⟩,Cn! m0 x.dh,Cn! m1 x.dO,Cn! m2 x.dl,Cn! m3 x.dr,k? ?_,x.nd⟩;rw[Ab (n (by unfold BI;exact ZD _ (ZD _ (ZD _ (ZD _ (BG hq))))))];exact wv
theorem AS.JY(x:C?)(l:f?):Ct! G.o C7 { G with AH:=l }:=by obtain⟨⟨a1,a2,a3⟩,⟨b1,b2⟩,c1,d1⟩:=x.SA;have np:=DM! G.o;obtain⟨dx,e⟩:=x.ob;exact Cw! a1 Ac (F? b1.symm x.dl) (B5! b2.symm) (k? (F? (d1 q hq).2.1 wv)) x.nd
theorem AS.NK(x:C?)(l:V!):Ct! G.h A8 { G with hand:=l }:=by obtain⟨⟨a1,a2,a3⟩,⟨b1,b2⟩,c1,d1⟩:=x.SA;have np:=DM! G.h;obtain⟨dx,e⟩:=x.ob;exact⟨⟨dx,F? np.symm e⟩,Ac,B4! a1.symm,F? a2.symm x.dl,B5! a3.symm,k? (F? (d1 q hq).1 wv),x.nd⟩
theorem AS.RN(x:C?)(l:f?):Ct! G.r C7 { G with AN:=l }:=by obtain⟨⟨a1,a2,a3⟩,⟨b1,b2⟩,c1,d1⟩:=x.SA;have np:=DM! G.r;obtain⟨dx,e⟩:=x.ob;exact Cw! a3 (B4! b2) (F? c1 x.dl) Ac (k? (F? (d1 q hq).2.2.2 wv)) x.nd
theorem AS.bC(x:C?)(t:T2)(ha:CA! a [])(hf:a∉W!):AS C (upd H G.l (C1 (G.holds++[(t,a,[])]))) p (Bn! (G.holds++[(t,a,[])])):=by
 obtain⟨⟨a1,a2,a3⟩,⟨b1,b2⟩,c1,d1⟩:=x.SA;have np:=DM! G.l;obtain⟨dx,e⟩:=x.ob;refine Cw! a2 (B4! b1) Ac (B5! c1.symm) (k? ?_) ?_;.rcases ZI hq with hq|hq;(.rw[Ab (d1 q hq).2.2.1];exact wv);·(have e2:q=(t,a,[]):=by simpa using hq);subst e2;have:a≠G.l:=λz=>hf (by rw[z];simp[BI]);rw[Ab this];exact ha
 ·(have e2:BI (Bn! (G.holds++[(t,a,[])]))=W!++[a]:=l?);rw[e2];exact F7 x.nd hf
universe E
def NR(t:T2):PyData:=.tuple [D! t.1,D! t.2]
theorem Gb(t:T2):(NR t).canLay0=true/\(NR t).depth<=2:=by
 unfold NR;constructor;.simp[PyData.canLay0,PyData.canLayAll0]
 .simp[PyData.depth,PyData.depthAll]
theorem Yy{α:Type}{f:α->PyData}{n:Nat}(h:∀x,(f x).canLay0=true/\(f x).depth<=n):∀l:G?,PyData.canLayAll0 (l.map f)=true/\PyData.depthAll (l.map f)<=n
 | []=>⟨by simp[PyData.canLayAll0],by simp[PyData.depthAll]⟩
 | x::l=>by obtain⟨a,b⟩:=Yy h l;obtain⟨c,d⟩:=h x;exact⟨by simp[PyData.canLayAll0,a,c],by simp only[AI,PyData.depthAll];lia⟩
theorem Jim{α:Type}{f:α->PyData}{n:Nat}(h:∀x,(f x).canLay0=true/\(f x).depth<=n)(l:G?):(PyData.tuple (l.map f)).canLay0=true/\(PyData.tuple (l.map f)).depth<=n+1:=by obtain⟨a,b⟩:=Yy h l;exact⟨by simp only[PyData.canLay0];exact a,by simp only[PyData.depth];lia⟩
theorem Si(t:T2):WR (NR t):=⟨(Gb t).1,BA (Gb t).2 (d!)⟩
def AW(H:Hp):E? I! V!:=Paired λa t=>UV a tv t
theorem Mb{K:W.Frag}{H:Hp}{a:Addr}{t:T2}(e:UV a tv t):u? AT (NR t):=.tupP (CF.of e) (Q! (D! _) (Co! (D! _)))
theorem Fj{K:W.Frag}{H:Hp}:∀{as:I!} {ts:V!},AW H as ts->Paired (JL K H) (as.map V.ref) (ts.map NR)
 | _,_,.nil=>P!
 | _,_,.cons e t=>Q! (Mb e) (Fj t)
def IW(a b:T2):Prop:=t? [a.1,a.2] [b.1,b.2]
theorem Eo(a b:T2):IW a b↔(a.1<b.1\/(a.1=b.1/\a.2<b.2)):=by
 unfold IW;rw[HT.GK,HT.GK];by_cases h1:a.1=b.1;.rw[AD h1];by_cases h2:a.2=b.2;(.rw[AD h2,HT.MO];constructor;(.intro z;cases z);.intro z;lia);.rw[AB h2];constructor;(.intro z;exact R! ⟨h1,BO z⟩);.intro z;exact CR!
 .rw[AB h1];constructor;(.intro z;exact k! (BO z));.intro z;exact CR!
universe S
theorem Cz(hc:Z?):Cs! (∃d,∃l:G! (T2×V),∃ss:V!,IR d/\DO! l.map ut/\l.length<64/\ss.Perm (l.map S!)/\ss.Pairwise IW /\ ∀(r:Addr)(as:I!),K! r->AW H as ss->y! r (upd H r ww)):=by
 intro AA s σ H xs us Q I rv h;obtain⟨d,l,ss,rfl,hd,UU,pm,pw,q⟩:=h;refine Mw hc AA s σ H _ us Q I rv ⟨d,l.map λq=>(Dx!,q.2),rfl,?_,Is UU,?_,?_,λr M hr mp mw ma=>?_⟩;·(have e:((l.map No).map λp=>((C2!:UF),p.2))=l.map ut:=bv);rw[e];exact hd
 ·(have nd:ss.Nodup:=pw.imp λ{a b} h z=>by rw[Eo,z] at h;lia);have fO:Ix l.map:=pm.nodup_iff.mp nd;(have e:R? (l.map No).map=(l.map S!).map bn:=by rw[AL,AL];rfl);rw[e];exact List.Pairwise.map _ (λa b h z=>h (by obtain⟨a1,a2⟩:=a;obtain⟨b1,b2⟩:=b;simp at z;rw[z.1,z.2])) fO
 .intro p hp;obtain⟨q,_,e⟩:=ZN hp;rw[<-e];simp
 ·(have e:R? (l.map No).map=(l.map S!).map bn:=by rw[AL,AL];rfl);rw[e] at mp;(have e2:R? M.map=ss.map bn:=by refine Hm (lt:=λa b=>t? a b) (λa z=>by rw[N2] at z;cases z) (λa b h1 h2=>by have:=Ux h1 h2;rw[N2] at this;cases this) (mp.trans (pm.symm.map _)) ?_ ?_;(.rw[EG];exact mw);.rw[EG];exact pw);(have hl:M.length=ss.length:=by have:=congrArg List.length e2;simpa using this);(have e3:(M.map λp=>V.ref p.2)=(M.map AN!).map V.ref:=bv);rw[e3];refine q r _ hr (D8 (Is hl) λj a t e4 e5=>?_);rw[ZH] at e4;cases hm:M[j]? with | none=>rw[hm] at e4;cases e4 | some m =>rw[hm] at e4;cases e4;(have e6:(M.map S!)[j]?=some m.1:=Bv! hm);rw[e2,ZH,e5] at e6;have e7:[t.1,t.2]=m.1:=ZO e6;have:=ma m (ZP hm);rw[<-e7] at this;exact this
universe E
theorem zR(h:CA! d l):DO! (l.map λt=>(t,V.bl true)).map ut:=by
 have e:((l.map λt=>(t,V.bl true)).map ut)=l.map λt=>(tk t,V.bl true):=bv
 rw[e];exact k! h
theorem yU(h:CB! d l):DO! (l.map λq=>(q.1,V.int q.2)).map ut:=by
 have e:((l.map λq=>(q.1,V.int q.2)).map ut)=l.map λq=>GM:=bv
 rw[e];exact k! h
theorem Fq{K:W.Frag}{a p:Addr}{xs:L!}{tt:TT}{te:TE}{caps:EQ}{σ:L2.St}{H:Hp}{Q:Hp->Prop}(Pv:Nat->Cp!)(h0:Pv 0 [] CN!)(hl:∀i ys H2,i<=xs.length->Ck!->DU K H2 a xs/\At!)(hs:∀i x ys H2 (N:Cp!),xs[i]?=some x->Ck!->(∀ys H,Pv (i+1) ys H->N ys H)->CX! H2 (C8! (DW! (N (ys++[v]) BI!)) (N ys H4)))(hd:∀ys H2,Pv xs.length ys H2->Q H2) : ∃W:Nat->Nat->E? L! Hp,(∃m,W 0 m [] CN!)/\∀i m ys H2,W i m ys H2->At! /\ (((U_ K a).stop i H2/\Q H2)\/((U_ K a).go i H2/\∀x H3,(U_ K a).SW i H2 x H3->CX! H3 (C8! (DW! (wS (W z! m' Dm! BI!))) (wS (W z! m' ys H4))))):=by
 refine⟨λi m ys H=>m=xs.length-i/\i<=xs.length/\Pv i ys H,⟨xs.length,X!,BE _,h0⟩,?_⟩;rintro i m ys H2 ⟨rfl,hi,pv⟩;obtain⟨q1,q2⟩:=hl i ys H2 hi pv;refine I? q2;by_cases JU:i<xs.length;.refine R! ⟨⟨xs,xs[i],q1,by simp[JU]⟩,λx H3 y=>?_⟩;obtain⟨e,y⟩:=y;subst e;exact hs i x ys _ (λzs H'=>∃m',m'<xs.length-i/\(m'=xs.length-z!/\i+1<=xs.length/\Pv (i+1) zs H')) (y xs q1) pv λzs H' pz=>⟨_,H!,rfl,JU,pz⟩
 ·(have e:i=xs.length:=H!);subst e;exact h! ⟨⟨xs,q1,ZG _⟩,hd ys H2 pv⟩
theorem Ki{lo:Int}{n:Nat}{p:Addr}{tt:TT}{te:TE}{caps:EQ}{σ:L2.St}{H:Hp}{Q:Hp->Prop}(Pv:Nat->Cp!)(h0:Pv 0 [] CN!)(hl:∀i ys H2,i<=n->Ck!->At!)(hs:∀i ys H2 (N:Cp!),i<n->Ck!->(∀ys H,Pv (i+1) ys H->N ys H)->tt (AC D! (lo+i)::AT!) H2 (C8! (te (AC D! (lo+i)::AT!) H4 λv H5=>E! H5 p (.BC ys)/\ys.length<sizeLine/\N (ys++[v]) BI!) (N ys H4)))(hd:∀ys H2,Pv n ys H2->Q H2) : ∃W:Nat->Nat->E? L! Hp,(∃m,W 0 m [] CN!)/\∀i m ys H2,W i m ys H2->At! /\ (((ag lo n).stop i H2/\Q H2)\/((ag lo n).go i H2/\∀x H3,(ag lo n).SW i H2 x H3->CX! H3 (C8! (DW! (wS (W z! m' Dm! BI!))) (wS (W z! m' ys H4))))):=by
 refine⟨λi m ys H=>m=n-i/\i<=n/\Pv i ys H,⟨n,X!,BE _,h0⟩,?_⟩;rintro i m ys H2 ⟨rfl,hi,pv⟩;refine I? (hl i ys H2 hi pv);by_cases JU:i<n;.refine R! ⟨JU,λx H3 y=>?_⟩;obtain⟨e,y⟩:=y;subst e y;exact hs i ys _ (λzs H'=>∃m',m'<n-i/\(m'=n-z!/\i+1<=n/\Pv (i+1) zs H')) JU pv λzs H' pz=>⟨_,H!,rfl,JU,pz⟩
 ·(have e:i=n:=H!);subst e;exact h! ⟨ZG _,hd ys H2 pv⟩
def U7(p d:Addr):HO:=.ext λh=>h.IsItemsView p d
theorem Nn(d:Addr)(hd:CH!) : MeetsIn prog w (Builtin.«dict.items» (p? [C! d])) (λ_ R s=>s.TypeIs (B! d) "dict"/\R (.ok (.ret (B! s.heap.objs.size))) (WP (AZ! (Az! AL!)))) :=.of_wp λA R s ⟨ht,h⟩=>by unfold Builtin.«dict.items»;refine ZR ?_;unfold Builtin.Dict.noArgs;refine ZR (IJ ht ?_);show wpAny _ _ (pure d) _ _ s;refine ZS ?_;show Cj! (Builtin.Dict.showsAll d);unfold Builtin.Dict.showsAll;rw[B6! hd AX];refine CC!;exact ZR (DW (ZS (w? h)))
universe S
theorem Jey:mG X "dict.items" (λx xs H Q=>∃d kvs,x=IN/\xs=[]/\CT! .dT/\∀p,K! p->Ao! (AU! (U7 p d))):=by intro AA s σ H x xs v us Q I rx rs h;obtain⟨d,kvs,rfl,rfl,hd,q⟩:=h;cases rx;cases rs;obtain⟨z,lo,ys,rel,o,es,ep,g1,g2,g3,g4,g5⟩:=Dq! BE! hd;refine PySem.call_meetsIn PySem.F.slot_dict_items (Q? g1 g2.1) PySem.F.entry_dict_items (PySem.F.args_dict_items_1 _) (Nn d lo) (I? (Q? g1 g2.1));have hn:Aj!:=v4;refine A7! s.heap.objs.size (Cz! I.laid s.heap.objs.size (U7 s.heap.objs.size d) Bp! ?_) hn;have g:Ag! s.heap.push (Az! AL!) s.heap.objs.size (Az! AL!):=c?;exact⟨DK! g,U! g,λh1 h2 ⟨o,e,r⟩ k=>Q? (k o e) r⟩
universe E
def gE(h:Heap)(g:Addr->Prop)(e:Addr)(cls:Value):Prop:=g e/\∃oe vs a0,KE e oe/\oe.cls=cls/\oe.data=Au!/\Ae! 0 a0 /\
 (Ae! 1 F!\/∃T oT ts,Ae! 1 (B! T)/\g T/\T≠e/\KE T oT/\oT.data=AO! ts/\ts[3]?=some F!)
theorem gE.mono(x:gE h g e cls)(k:∀b,g b->g' b):gE h g' e cls:=by obtain⟨g1,oe,vs,a0,h1,h2,h4,h5,h6⟩:=x;refine⟨k _ g1,oe,vs,a0,h1,h2,h4,h5,h6.imp (λz=>z) ?_⟩;rintro⟨T,oT,ts,t1,t2,t3⟩;exact⟨T,oT,ts,t1,k _ t2,t3⟩
def bf(h:Heap)(g:Addr->Prop)(e:Addr)(cls:Value):Prop:=g e/\∃oe vs a0 T oT ts,KE e oe/\oe.cls=cls/\oe.data=Au!/\Ae! 0 a0/\Ae! 1 (B! T)/\g T/\T≠e/\KE T oT/\oT.data=AO! ts/\ts[3]?=some F!
theorem bf.at(x:wP h):gE h g e cls:=by obtain⟨g1,oe,vs,a0,T,oT,ts,h1,h2,h3,h4,h5⟩:=x;exact⟨g1,oe,vs,a0,h1,h2,h3,h4,R! ⟨T,oT,ts,h5⟩⟩
def TV(P:Program)(w:World):WS:=λouter H s E e s'=>∃ex cls H',e=C! ex/\bf s'.heap (λb=>x! s.heap.get?/\x! H') ex cls/\E cls none H'/\s'.os=s.os/\C0!/\Un (LM outer) [] H H' s.heap s'.heap/\LN P w H' s'.heap
theorem Mq(ok:LN P w H h)(e:v! a o):∃ob,Am! ob:=by have x:=ok a o e;cases o with | BC xs=>obtain⟨_,_,_,_,e⟩:=x;exact B? | AZ xs=>obtain⟨_,_,_,o,e,_⟩:=x;exact B? | dK kvs=>obtain⟨_,_,_,_,o,_,_,e,_⟩:=x;exact B? | dT kvs=>obtain⟨_,_,_,_,o,_,_,e,_⟩:=x;exact B? | set S n=>obtain⟨o,_,_,_,e,_⟩:=x;exact B? | ins C dx fs=>obtain⟨_,_,_,e,_⟩:=x;exact B? | own y=>obtain⟨_,e⟩:=x;exact B? | xd fs=>obtain⟨_,⟨_,_,_,e,_⟩,_⟩:=x;exact B? | ko lo hi=>obtain⟨_,_,_,e⟩:=x;exact B? | GF ob u=>obtain⟨e,_⟩:=x;exact B? | Z_ ps=>exact U! (show Am! _ from x) | met f y=>exact U! (show Am! _ from x) | ext φ=>obtain⟨_,⟨_,e⟩,_⟩:=x;exact B?
structure LH(fr:I!)(g:Addr->Prop)(h h':Heap):Prop where
 keep:∀b o,KF->b∉fr->¬g b->Ds!
 slot:DG! KF (b∈fr) h'.get?
theorem LH.trans(a:LH fr g h h1)(b:LH fr g h1 h2):LH fr g h h2 :=⟨λc o e n1 n2=>b.keep c o (a.keep c o e n1 n2) n1 n2,λc o e m=>by obtain⟨sl,e1⟩:=a.slot c o e m;obtain⟨bG,e2⟩:=b.slot c _ e1 m;exact⟨bG,e2⟩⟩
universe S
variable {M:Model}{A:Around}{E:Value->Shared->Prop}{s:Shared}{base:Heap}{env:Env}{outer:List Env}{L e:Addr}{cls:Value}{g:Addr->Prop}
theorem Qg(hl:DF! h.FunFrames)(hd:∀b∈Hd,BJ!)(k1:(W.hideAll h Hd).StaysIn h')(k4:DG! KF (∀vs,o.data≠Au!) h'.get?):LH (LM (env::outer)) g h h':=by
 refine⟨λb o e n1 n2=>k1 b o (W.hideAll_get _ e λm=>?_),λb o e m=>?_⟩;.rcases hd b m with z|z;(.exact n1 z);.exact n2 z
 .obtain⟨_,o',e',hn⟩:=hl.mem m;rw[e] at e';cases e';exact k4 b o e hn
theorem Mg{h h':Heap}{Hd:I!}{T:Addr}{oT:Obj}{ts:BZ!}(hl:DF! h.FunFrames)(hd:∀b∈Hd,BJ!)(k4:DG! KF (∀vs,o.data≠Au!) h'.get?)(hT:(W.hideAll h Hd).get? T=none)(eT:E! h'.get? T oT)(dT:oT.data=AO! ts)(fresh:∀b,x! h.get?->g b):g T:=by cases q:h.get? T with | none=>exact fresh T q | some o =>(have m:T∈Hd:=by apply Classical.byContradiction;intro n;rw[W.hideAll_get _ q n] at hT;cases hT);rcases hd T m with z|z;(.exfalso;obtain⟨_,o',e',hn⟩:=hl.mem z;rw[q] at e';cases e';obtain⟨sl,e2⟩:=k4 T o q hn;rw[eT] at e2;cases e2;exact hn ts dT);.exact z
theorem Ms:∀en∈l,∀a,en.frame=g! a->a∈LM l:=λen he a ha=>LZ.mpr ⟨en,he,ha⟩
theorem Jhe{Q:N! Unit}(bS:A.frames=Dj! some)(hl:DF! s.heap.FunFrames)(hf:env.frame=g! L)(x:gE s.heap g e cls)(fresh:∀b,x! s.heap.get?->g b)(h:C7! (wP h') (LH (LM (env::outer)) g s.heap h') ()):B7! (leaving env (B! e)) Q:=by
 obtain⟨ge,oe,vs,a0,h1,h2,h3,h4,h5⟩:=x;subst h2;rcases h5 with h5|⟨T,oT,ts,t1,t2,t3,t4,t5,t6⟩;·(have hd:∀b∈Dj! LM++[e],BJ!:=Y! (by rcases ZI hb with z|z;(.exact h! z);·(have:b=e:=by simpa using z);rw[this];exact R! ge));refine wpAny_leaving_firstW (base:=W.hideAll s.heap (Dj! LM++[e])) (a0:=a0) bS (W.funFrames_hide hl λen he a ha=>ZB _ (Ms en he a ha)) hf h1 (λb o q=>W.of_hideAll _ q) (KU _ a!) h3 h5 h4 λh' hL=>?_;obtain⟨k1,k2,⟨gb,gQ,T',gh,eS,b1,⟨b2,b3⟩,b4,b5,b6,b7,b8,b9,cn⟩,k4⟩:=hL;exact h h' ⟨ge,gb,gQ,a0,T',gh,eS,b1,b2,b4,b3,b5,Mg hl hd k4 b6 b8 b9 fresh,b7,b8,b9,cn⟩ (Qg hl hd k1 k4)
 ·(have hd:∀b∈Ch!,BJ!:=Y! (by rcases ZI hb with z|z;(.exact h! z);·(have:b=e\/b=T:=by simpa using z);rcases this with rfl|rfl;(.exact R! ge);.exact R! t2));refine wpAny_leaving_nextW (base:=W.hideAll s.heap (Ch!)) (cls:=oe.cls) (a0:=a0) bS (W.funFrames_hide hl λen he a ha=>ZB _ (Ms en he a ha)) hf ⟨oe,vs,T,oT,ts,h1,⟨rfl,h4⟩,h3,t1,KU _ a!,t3,t4,t5,t6⟩ (λb o q=>W.of_hideAll _ q) (KU _ a!) λh' hL=>?_;obtain⟨k1,k2,⟨gb,gQ,T',gh,eS,b1,⟨b2,b3⟩,b4,b5,b6,b7,b8,b9,cn⟩,k4⟩:=hL;exact h h' ⟨ge,gb,gQ,a0,T',gh,eS,b1,b2,b4,b3,b5,Mg hl hd k4 b6 b8 b9 fresh,b7,b8,b9,cn⟩ (Qg hl hd k1 k4)
theorem Jje{Q:N! Unit}(bS:A.frames=Dj! some)(hl:DF! s.heap.FunFrames)(hf:env.frame=g! L)(x:wP s.heap)(fresh:∀b,x! s.heap.get?->g b)(h:C7! (wP h') (LH (LM (env::outer)) g s.heap h') ()):B7! (noteFrame (B! e) env) (λ_ s2=>wpAny M A (setFlight (B! e) none) Q E s2):=by
 obtain⟨ge,oe,vs,a0,T,oT,ts,h1,h2,h3,h4,t1,t2,t3,t4,t5,t6⟩:=x;subst h2;have hd:∀b∈Ch!,BJ!:=Y! (by rcases ZI hb with z|z;(.exact h! z);·(have:b=e\/b=T:=by simpa using z);rcases this with rfl|rfl;(.exact R! ge);.exact R! t2)
 refine wpAny_noteFrame_onW (base:=W.hideAll s.heap (Ch!)) (cls:=oe.cls) (a0:=a0) bS (W.funFrames_hide hl λen he a ha=>ZB _ (Ms en he a ha)) hf ⟨oe,vs,T,oT,ts,h1,⟨rfl,h4⟩,h3,t1,KU _ a!,t3,t4,t5,t6⟩ (λb o q=>W.of_hideAll _ q) (KU _ a!) λh' hN=>?_;obtain⟨k1,k2,k3,k4⟩:=hN;refine wpAny_setFlight_noneW (s:=j!) k1 k2 k3 λh2 j1 j2 j3 j4=>?_;obtain⟨gb,gQ,T',gh,eS,b1,⟨b2,b3⟩,b4,b5,b6,b7,b8,b9,cn⟩:=j3;have kk:DG! BS! (∀vs,o.data≠Au!) h2.get?:=λb o q n=>by obtain⟨sl,q2⟩:=k4 b o q n;exact⟨sl,j4 b _ q2 n⟩
 exact h h2 ⟨ge,gb,gQ,a0,T',gh,eS,b1,b2,b4,b3,b5,Mg hl hd kk b6 b8 b9 fresh,b7,b8,b9,cn⟩ (Qg hl hd j1 kk)
theorem Jjg(x:wP s.heap)(hg:∀b∈fr,¬g b)(h:C7! (wP h') (LH fr g s.heap h') ()):B7! (setFlight (B! e) none) Q:=by
 obtain⟨ge,oe,vs,a0,T,oT,ts,h1,h2,h3,h4,t1,t2,t3,t4,t5,t6⟩:=x;subst h2;have hsz:3<ts.size:=(ME.mp t6).1;refine wpAny_setFlight_none h1 h3 t1 t4 t5 hsz (h _ ⟨ge,oe,vs,a0,T,_,_,(CS _ _ t3).trans h1,rfl,h3,h4,t1,t2,t3,FZ _ t4 (Obj.isFreed_of_fields (OB t5 _)),OB t5 _,by simp[hsz]⟩ ⟨λb o q _ n=>?_,λb o q m=>?_⟩);.exact(CS _ _ (λz=>n (z? t2))).trans q
 .refine⟨o.slots,(CS _ _ (λz=>hg b m (z? t2))).trans q⟩
universe E
universe S
variable {X:Cx}{AA:List (Addr×Obj)}{σ:L2.St}{H H1:Hp}{s s1:Shared}{h':Heap}{g:Addr->Prop}{ex:Addr}{cls:Value}
theorem Rl(ok:LN P w H1 h)(a:LH fr g h h')(hf:∀b∈fr,An!)(hg:∀b,g b->An!):LN P w H1 h':=λb o e =>(ok b o e).PN (λc u hc q=>a.keep c u q (λm=>by have:=hf c m;rcases hc with rfl|hc;(.rw[this] at e;cases e);.rw[this] at hc;cases hc) (λm=>by have:=hg c m;rcases hc with rfl|hc;(.rw[this] at e;cases e);.rw[this] at hc;cases hc)) (λ_ q=>q) λ_ _ q=>q
theorem Vr(u:Un fs [] H0 H1 s0 h)(a:LH fr g h h')(hg:∀b o,q! s0.get?->¬g b)(bS:∀b o,q! s0.get?->b∈fr->b∈fs)(hH:∀b∈fr,An!):Un fs [] H0 H1 s0 h' where
 keep:=λb o e n1 n2 n3=>a.keep b o (u.keep b o e n1 n2 n3) (λm=>n2 (bS b o e m)) (H? hg)
 slot:=λb o e n1 m n3=>by
  obtain⟨sl,q⟩:=u.slot b o e n1 m n3
  by_cases hm:b∈fr
  .obtain⟨bG,q2⟩:=a.slot b _ q hm
   exact⟨bG,q2⟩
  .exact⟨sl,a.keep b _ q hm (H? hg)⟩
 free:=u.free
 there:=λb o e n=>by
  obtain⟨o',q⟩:=u.there b o e n
  by_cases hm:b∈fr
  .obtain⟨bG,q2⟩:=a.slot b _ q hm
   exact U! q2
  .exact U! (a.keep b _ q hm (H? hg))
 OK:=u.OK
 MW:=u.MW
 OL:=u.OL
universe E
def yL(X:Cx)(E:XK):Prop:=∀(AA:e?)(σ:L2.St)(H1:Hp)(s1:Shared)(ex:Addr)(cls:Value),AE!->gE s1.heap (λb=>x! X.HU.heap.get?/\An!) ex cls->E cls none H1->X.xe (B! ex) s1
universe S
variable {P:Program}{w:World}{K:W.Frag}{mg:Str->Option Value}{base:Heap}{N:List Str}{qual:Str}{scope:Scope}{f:Addr}{cd:Value}{A:Around}{outer:List Env}{s:Shared}{H:Hp}{E:XK}
theorem Hq:yL (DP!) E:=by
 intro AA σ H1 s1 ex cls I x hE;have vM:Uf (∃o',E! s1.heap.get? b o'):=L? (I.base.there b o e (by simp[Kh]));refine Jhe (base:=base) (L:=s.heap.objs.size) I.ok.frames I.stack rfl x (λb q=>?_) λh' x' as=>?_;.constructor;(.cases q2:s.heap.get? b with | none=>exact q2 | some o =>obtain⟨o',e⟩:=vM b o q2;rw[q] at e;cases e);.cases q2:H1 b with | none=>rfl | some o =>obtain⟨ob,e⟩:=Mq I.DC q2;rw[q] at e;cases e
 .have MK:∀b∈LM (envOfC qual scope s.heap.objs.size f cd::outer),An!:=Y! (I.OZ b hb);refine⟨ex,cls,H1,rfl,x',hE,I.os,I.bare,Vr (fs:=LM outer) I.base as (λb o e z=>?_) (λb o e m=>?_) MK,Rl I.DC as MK λb z=>z.2⟩;(.have:=z.1;have e':BS!:=e;rw[show(DP!).HU.heap.get? b=s.heap.get? b from rfl,e'] at this;cases this);.rcases ZM (show b∈s.heap.objs.size::LM outer from m) with z|z;(.have:=AR (show BS! from e);rw[z] at this;exact absurd this (CN _));.exact z
theorem Bp:Hv (TV P w) (DP!) E:=by intro AA σ H0 s0 e s' I ⟨ex,cls,H',he,x,hE,ho,hg,u,ok⟩;subst he;have I':Inv (DP!) AA σ H' s':=I.VF (ch:=[]) ho u ok hg (Y! (by simp at hb));refine Hq AA σ H' s' ex cls I' (x.at.mono λb z=>⟨?_,z.2⟩) hE;cases q:s.heap.get? b with | none=>exact q | some o =>obtain⟨o',e⟩:=I.base.there b o q (by simp[Kh]);rw[z.1] at e;cases e
universe E
universe S
variable {P:Program}{w:World}{K:W.Frag}{mg:Str->Option Value}{base:Heap}
theorem uW{x qual:Str}{st:Stmt}{f:Addr}{fd:FuncData}{N ps:A?}{k:Nat}{sp:Sp}(F:BK!)(S:Dd!)(len:Bs! (vs.length=ps.length))(SR:∀(D_:Value) (A:Around) (outer:G! Env) (s:Shared) (H:Hp) (vs:L!) (Q:VK) (E:XK),DI k (A.deeper (envOfC qual g? s.heap.objs.size f D_))->sp vs H Q E -> ∃t,OY (Bi! (TV P w) g? D_) Ap! t/\t { nx:=λ_ H'=>Q .E_ H',rt:=Q } (start N vs) H):Ce! (k+1):=by obtain⟨oc,od,kV,doc,pm,an,D_,ct,cI,rfl,lk,VQ⟩:=F.ex;exact yC lk VQ S len λA outer s H vs Q E hr YY=>SR D_ A outer s H vs Q E hr YY
theorem Gz{x qual:Str}{st:Stmt}{f:Addr}{fd:FuncData}{N ps:A?}{k:Nat}{sp:Sp}(F:BK!)(S:Dd!)(h:Bs! (Bd P w K mg base (TV P w) false N ps qual st f k vs H Q E)):Ce! (k+1) :=uW F S (λvs H Q E z=>(h vs H Q E z).1) λD_ A outer s H vs Q E hr z=>(h vs H Q E z).2 D_ A outer s hr
theorem EO.TK{k:Nat}{f:Addr}{fd:FuncData}{ps:A?}{sp:Sp}(F:Do! XI k):Ce! k :=⟨F.len,λA outer s H args us vs Q E hr he hb hv hs=>HW (F.run A outer s H args us vs Q E hr he hb hv hs) λr s' h=>by cases r with | ok fl=>cases fl<;>exact h | error e=>exact B2!⟩
universe E
def gJ:O!:=[i! "ValueError",i! "Exception",i! "BaseException",i! "object"]
structure Vm(K:W.Frag)(mg:S?)(x:Str)(C:Addr):Prop where
 mg:E! mg x (B! C)
 ex:W.excIn K C gJ AM!=true
universe S
variable {X:Cx}{x:Str}{C:Addr}{E:XK}{np HG pos p1:Pos}{msg:Str}{j:Nat}
theorem yy{K:W.Frag}{h:Heap}{C:Addr}(XK:K.In h)(q:W.excIn K C gJ AM!=true):∃nm q N bs bm hdct sn sub ab col dd k0 k1 k2 k3 k5 mN,KE C (excClassObj nm q C N bs bm hdct sn sub ab col dd k0 k1 k2 k3 k5 AM!)/\h.Ns N mN/\mN "__init__"=none/\OwnTail h gJ bm:=by
 unfold W.excIn at q;split at q;.rename_i dd cd sl ho;split at q;(.rename_i C' bm k0 k1 k2 k3 n k5 hm hs;simp only[Bool.and_eq_true,LX,Bool.not_eq_true'] at q;obtain⟨⟨⟨⟨⟨rfl,rfl⟩,jH⟩,ht⟩,DC⟩,hX⟩:=q;obtain⟨nm,bs,mro,ns,qn,hd,sn,sub,ab,col,del⟩:=cd;dsimp only at hm jH DC hX;subst hm jH;(have YZ:sl=#[k0,k1,k2,k3,AC T? AM!,k5]:=by obtain⟨l⟩:=sl;simp only at hs;rw[hs]);subst YZ;exact⟨nm,qn,ns,bs,bm,hd,sn,sub,ab,col,dd,k0,k1,k2,k3,k5,_,XK _ _ ho,.of_isNs (W.isNs_of_in XK DC),W.nsMap_none_of_in XK DC hX,W.tail_of_in XK ht⟩);.cases q
 .cases q
theorem Jc0{h:Heap}{mg:S?}(XK:X.K.In h)(c:Vm X.K mg x C):∃nm q N bs bm hdct sn sub ab col dd k0 k1 k2 k3 k5 mN,KE C (excClassObj nm q C N bs bm hdct sn sub ab col dd k0 k1 k2 k3 k5 AM!)/\h.Ns N mN/\mN "__init__"=none/\OwnTail h gJ bm:=yy XK c.ex
theorem Gv(hc:Z?)(hg:Gl X x)(c:Vm X.K X.mg x C)(hx:yL X E)(hex:X.ex=[]:=by rfl)(hd:CI! "__debug__":=by decide)(UI:CD! HG DZ!=false:=by rfl)(hs:starEach DZ! X.env=[(false,Ar! (.Constant (.str msg) j p1))]:=by rfl) : PS X (.Raise (some (.Call (wE np) DZ! [] HG)) none pos) (λ_ _ H=>E (B! C) none H):=by
 intro AA s σ H D I h;obtain⟨nm,q,N,bs,bm,hdct,sn,sub,ab,col,dd,k0,k1,k2,k3,k5,mN,hC,hN,hX,tl⟩:=Jc0 (X:=X) I.mod.WH c;refine wpAny_Raise_call_subU (C:=C) (nm:=nm) (q:=q) (N:=N) (bs:=bs) (bm:=bm) (hdct:=hdct) (sn:=sn) (sub:=sub) (ab:=ab) (col:=col) (dd:=dd) (k0:=k0) (k1:=k1) (k2:=k2) (k3:=k3) (k5:=k5) F.excBase_ValueError (bmB:=gJ) ZV F.excBase_ValueError (tl.hasType ZV) C9! UI hX ?_;refine Jk I hg c.mg (I? rfl) hd;have ha:PA X DZ! (Dz (tC (.str msg)) Jz):=Aa A6 Af hs;have hA:=ha HG AA s σ H (λvs H1=>vs=[.str msg]/\H1=H) I (s? rfl);rw[hs] at hA ⊢;refine HC (DX hA ?_);rintro us s2 ⟨vs,H2,I2,r2,e1,e2⟩;subst e1 e2;refine⟨rfl,by show us.length<=sizeLine;rw[<-r2.length];show 1<=sizeLine;decide,I2.bk _ _ hC,(let⟨o,es,ep,e,r⟩:=hN;⟨o,es,ep,I2.bk _ _ e,r⟩),tl.keeps I2.bk,λh' e hm=>?_⟩;obtain⟨t,ht,_⟩:=hm.there;have none_:∀b,x! s2.heap.get?->x! X.HU.heap.get?/\x! H2:=λb q=>by constructor;(.cases q2:X.HU.heap.get? b with | none=>rfl | some o =>obtain⟨o',e'⟩:=I2.base.there b o q2 (BM! hex);rw[q] at e';cases e');.cases q2:H2 b with | none=>rfl | some o =>obtain⟨ob,e'⟩:=Mq I2.DC q2;rw[q] at e';cases e'
 have I3:TD H2 { s2 with heap:=h' }:=I2.kept (t':=s2.toks) hm.keeps;exact hx AA σ H2 _ e (B! C) I3 ⟨none_ e hm.new,_,_,_,ht,rfl,rfl,rfl,h! rfl⟩ h
universe E
universe S
universe E
def Rk(X:Cx)(AA:e?)(E:Ak!):Cx:={ X with pn:=SL,xe:=E }
def gy(X:Cx)(ex:Addr):Cx:={ X with A:=X.A.mark (some (B! ex)),calm:=false,xe:=λ_ _=>False }
universe S
theorem Cx.Ok.kD(ok:X.Ok):(Rk X AA E).Ok:=⟨ok.mod,ok.kind,ok.glob,ok.blt,ok.above,ok.inj,ok.has,ok.aY,ok.hd,ok.frames,ok.bE,ok.VS,ok.bs,ok.VU,ok.RD,ok.QS,ok.LU,ok.XB⟩
theorem Cx.Ok.kH(ok:(Rk X AA E).Ok):X.Ok:=⟨ok.mod,ok.kind,ok.glob,ok.blt,ok.above,ok.inj,ok.has,ok.aY,ok.hd,ok.frames,ok.bE,ok.VS,ok.bs,ok.VU,ok.RD,ok.QS,ok.LU,ok.XB⟩
theorem Cx.Ok.toX(ok:X.Ok):(gy X ex).Ok:=⟨ok.mod,ok.kind,ok.glob,ok.blt,ok.above,ok.inj,ok.has,ok.aY,λz=>(by cases z),ok.frames,ok.bE,ok.VS,ok.bs,ok.VU,ok.RD,ok.QS,ok.LU,ok.XB⟩
theorem Jck(I:J!):Inv (Rk X AA E) [] σ H s:=Dc! (Cx.Ok.kD I.ok) (λp hp=>I.pin p (by have VO:p∈(SL)++[]:=hp;rwa [AG] at VO))
theorem G8(I:Inv (Rk X AA E) SN σ H s):J!:=Dc! (Cx.Ok.kH I.ok) (λp hp=>I.pin p (ZB _ hp))
theorem zV(I:J!):Inv (gy X ex) AA σ H s:=Dc! (Cx.Ok.toX I.ok) I.pin
theorem N3(I:Inv (gy X ex) AA σ H s)(ok:X.Ok):J!:=Dc! ok I.pin
theorem Jcj(I:J!)(hn:K! a)(h0:X.HU.heap.get? a=none)(h1:a≠X.env.locals)(h2:∀x c,sw X.env.cells.lookup->c≠a)(h3:∀p∈SL,p.1≠a)(ok:BX! (upd H a o) a o):CS! a o:=by
 have ne:∀{b:Addr} {u:HO},Ch u->b≠a:=λe=>Aj e hn;refine⟨I.ok,I.os,I.bare,⟨I.base.keep,I.base.slot,λb ob e n hx=>?_,I.base.there,λb xs e=>?_,λb ob u e=>?_,λb ps e=>?_⟩,I.loc,I.cell,T! (Ab (Ne.symm h1)) I.free,λx c e=>F? (h2 x c e) (I.IK x c e),Ac!,λb u e=>?_,I.len⟩;.rw[Ab (λz=>by rw[z,h0] at e;cases e)];exact I.base.free b ob e n hx
 .have:=I.base.OK b xs e;rw[Ab (ne this)];exact this
 .have:=I.base.MW b ob u e;rw[Ab (ne this)];exact this
 .obtain⟨more,q⟩:=I.base.OL b ps e;exact⟨more,T! (Ab (ne q)) q⟩
 .obtain⟨a1,a2,a3⟩:=I.pin p hp;exact⟨a1,F? (h3 p hp) a2,a3⟩
 .by_cases hb:b=a;(.subst hb;rw[Ac] at e;cases e;exact ok);.rw[Ab hb] at e;exact DY! (I.DC b u e).PN (T! (Ab (ne q)) q) (T! (Ab (ne q)) q)
universe E
def Vn(X:Cx)(ES:L2.St->XK):Prop:=∀(AA:e?)(σ:L2.St)(H:Hp)(s:Shared)(e:Value)(s':Shared),J!->TV X.prog X.w X.stack H s (ES σ) e s'->X.xe e s'
universe S
theorem Jgj(F:EO X.prog X.w X.K X.mg X.base (TV X.prog X.w) k f fd ps sp)(hr:DI k X.A)(hb:Binds X.K fd ps [])(hx:Vn X ES)(I:J!)(r:Vals vs us)(h:sp vs H Q (ES σ)):DU! (call (B! f) us) (EP X AA σ Q):=by
 have hl:us.length=ps.length:=o! r.length (F.len _ _ _ _ h)
 refine wpAny_call (HW (F.run X.A X.stack s H (p? us) us vs Q (ES σ) hr I.dz (by have:=hb s us I.RW (b? AG hl);rwa [AG] at this) r h) λr s' hq=>?_);cases r with | error e=>exact hx AA σ H s e s' I hq | ok fl =>cases fl with | ret u=>exact I.after hq | next=>exact hq.elim | brk=>exact hq.elim | cont=>exact hq.elim
def Jiw(sp:Sp)(ES:L2.St->XK)(t:TA):TE:=ap t (λvs H1=>sp vs H1 Q (ES σ))
theorem Jd9(F:EO X.prog X.w X.K X.mg X.base (TV X.prog X.w) k f fd ps sp)(hr:DI k X.A)(hg:Gl X x)(hm:E! X.mg x (B! f))(hk:W.keepIn X.K (B! f)=true)(hb:Binds X.K fd ps [])(hx:Vn X ES)(ha:PA X AX! t)(WZ:CI! "__debug__":=by decide)(he:starEach (e::es) X.env=(false,Ar! e)::starEach es X.env:=by rfl)(QM:CD! pos es=false:=by rfl):PE X (.Call (wE p) AX! [] pos) (Jiw sp ES t):=by intro AA s σ H Q I h;refine HX (Jk I hg hm (W.callWith_K (h₀:=X.base) I.ok.mod.WH hk (DX (ha pos AA s σ H _ I h) λus s1 ⟨vs,H1,I1,r,q⟩=>⟨I1.RW,Jgj F hr hb hx I1 r q⟩) he QM) WZ)
universe E
theorem Jii{M:Model}{A:Around}{E:Ak!}{s:Shared}{K:W.Frag}{C D e:Addr}{oe:Obj}{Q:N! Bool}(XK:K.In s.heap)(cD:W.excIn K D gJ AM!=true)(dj:W.mroIn K C At=some true)(he:E! s.heap.get? e oe)(XY:oe.cls=C! C)(hq:Q true s):B7! (excMatches (B! e) At) Q:=by
 obtain⟨h,g,d,t,os⟩:=s
 obtain⟨nm,q,N,bs,bm,hdct,sn,sub,ab,col,dd,k0,k1,k2,k3,k5,mN,hD,hN,hX,tl⟩:=yy XK cD
 have hB:(Value.ref D::bm).contains (i! "BaseException")=true:=by rw[L_,tl.hasType (b:=true) ZV,Bool.or_true]
 have f:=tc_notTuple
 have LS:=W.looks_mroIn (M:=M) XK dj
 unfold excMatches
 repeat (first|(with_reducible refine wpAny_loadPart_at he ?_;rw[XY])|with_reducible refine wpAny_loadPart_at hD ?_|(with_reducible refine wpAny_isSubtype_exc hD ?_;rw[hB])|with_reducible refine LS.at ?_|wp_step)
 exact hq
def gone(D:Ends)(i:Nat):Ends:={ nx:=λσ H=>D.nx (σ.set i none) H,bk:=λσ H=>D.bk (σ.set i none) H,ct:=λσ H=>D.ct (σ.set i none) H,rt:=D.rt }
def Jj6(K:W.Frag)(D:Addr)(cls:Value)(C:Addr):Prop:=cls=C! C/\W.mroIn K C At=some true
universe S
universe E
universe E FX
universe N FX
open PySem PySem.Spec PySem.Calls PyProof.Rows L2 Builtin Builtin.ObjectAttr Builtin.Getset_descriptor
set_option maxHeartbeats 400000
universe S
variable {prog:Program}{w:World}{A:Around}{E:Value->Shared->Prop}{s:Shared}{K:W.Frag}{x C:Addr}
universe E
theorem Gh:∀{ds:I!} {its:O!},Vals (ds.map V.ref) its->its=ds.map Value.ref
 | [],_,.nil=>rfl
 | d::ds,_,.cons h1 h2=>by cases h1;rw[Gh h2];rfl
universe S
universe E
universe E FX
universe N FX
open PySem PySem.Spec PyProof.Rows L2
theorem EO.no{P:Program}{w:World}{K:W.Frag}{mg:S?}{base:Heap}{k:Nat}{f:Addr}{fd:FuncData}{ps:A?}{sp:Sp}(F:Ce! k):EO P w K mg base XI k f fd ps (λvs H Q _=>sp vs H Q E0) :=⟨λvs H Q E q=>F.len vs H Q E0 q,λA outer s H args us vs Q E hr he hb hv hs=>HW (F.run A outer s H args us vs Q E0 hr he hb hv hs) λr s' h=>by cases r with | ok fl=>cases fl<;>exact h | error e=>obtain⟨_,_,_,_,_,z,_⟩:=h;exact z.elim⟩
universe E FX
universe N FX
open PySem L2
universe E FX
universe N FX
open PySem PySem.Spec PyProof.Rows L2
inductive TJ(h:Heap)(it d:Addr)(i n ep:Nat):Prop
 | mk (own ok ov:Value) (f:Bool) (_:(own=F!\/∃a:Nat,own=rawInt a)) (_:KE it { cls:=i! Rs,dict:=none,data:=AO! #[own,D? f,IN,D! i 0,GE n,GE ep,ok,ov],slots:=#[] })
def Ya(h:Heap)(a:Addr)(k v:Value):Prop:=Am! (Dw! y? (#[k,v]))
universe S
variable {prog:Program}{w:World}{A:Around}{E:Value->Shared->Prop}{s:Shared}{it d:Addr}{i n ep:Nat}
theorem TJ.ty(x:xL s.heap):s.TypeIs o? Rs:=let⟨_,_,_,_,_,e⟩:=x;CK!
theorem TJ.to(x:xL h)(k:∀o,E! h.get? it o->E! h'.get? it o):xL h':=let⟨a,b,c,f,g,e⟩:=x;⟨a,b,c,f,g,k _ e⟩
theorem Jh1(h:Q (s.heap.get? a) s):Be! loadIfAlive a:=λ_ _ _=>h
theorem Jdh(h:∀h' e,Shared.TypeIs j! (B! e) Sc->Cl!->y! e j!):Dt! (newExc (i! Sc) []) Q:=by
 have first:firstArgMember (i! Sc) []=pure F!:=by unfold firstArgMember;cases (Manifest.find? Sc).elim false λt=>t.mro.contains Sc || t.mro.contains "SystemExit" <;> rfl
 unfold newExc newTuple;rw[first];refine ZR (DW (ZR (ZS (DW (h _ _ CL! (L? (ZT _ (ZT _ e)))) (BP!)))) (BP!))
theorem Jea(hw:xL s.heap)(hQ:∀h',xL h'->Ya h' s.heap.objs.size k v->(Dn! (b≠it))->y! s.heap.objs.size j!) :
 Dt! (Builtin.Dict_items.pairFromOwner o? 6 k v) Q:=by
 obtain⟨own,ok,ov,f,ho,e0⟩:=hw
 have il:it<s.heap.objs.size:=AR e0
 have rq:s.heap.objs.size≠it:=EE il
 obtain⟨h1,eh⟩:∃h1,h1=AZ! (Dw! y? ([k,v]:O!).toArray):=sK
 have p1:Ya h1 s.heap.objs.size k v:=T! eh c?
 have k1:Uf B0!:=L? (T! eh AV!)
 have e1:=k1 it _ e0
 have fin:∀h2,xL h2->Heap.SameBut it h1 h2->y! s.heap.objs.size { s with heap:=h2 }:=λh2 x y =>
  hQ h2 x ((y.2 _ rq).trans p1) (O? ((y.2 b hb).trans (H? k1)))
 have free:CO! (do
  let old:=[<-field o? 6,<-field o? (6+1)]
  setField o? 6 k;setField o? (6+1) v
  DE! 0 rawInt s.heap.objs.size;DE! 1 D? false
  letGo old [C! s.heap.objs.size]
  return C! s.heap.objs.size) Q SC:=by
  refine ZR (Cy! ok (ZR (Cy! ov ?_)))
  refine AF! e1 (λg2 q2 b2=>AF! q2 (λg3 q3 b3=>AF! q3 (λg4 q4 b4=>AF! q4 (λg5 q5 b5=>?_))))
  refine ZR (wpAny_letGo (ZS (fin g5 ⟨_,_,_,_,R! (s? s.heap.objs.size),q5⟩ ⟨?_,Y! ?_⟩)))
  .rw[b5.1,b4.1,b3.1,b2.1]
  .rw[b5.2 b hb,b4.2 b hb,b3.2 b hb,b2.2 b hb]
 unfold Builtin.Dict_items.pairFromOwner
 refine ZR (wpAny_newTuple ?_)
 rw[<-eh]
 refine ZR ?_
 unfold Builtin.Dict_items.ownedTupleIsFree
 refine ZR (Cy! own ?_)
 rcases ho with rfl|⟨a,rfl⟩
 .exact ZS free
 .show Cu! (loadIfAlive ((a:Int).toNat) >>= _)
  refine ZR (Jh1 ?_)
  cases ha:h1.get? (a:Int).toNat with
  | none=>exact ZS free
  | some oa =>
    refine ZR (Cy! (D? f) ?_)
    cases f with
    | true=>exact ZS (ZS (fin h1 ⟨_,_,_,_,R! (s? a),e1⟩ (Heap.SameBut.refl _ _)))
    | false=>exact AF! e1 (λg2 q2 b2=>ZS (ZS (fin g2 ⟨_,_,_,_,R! (s? a),q2⟩ b2)))
theorem Za(hv:s.heap.IsItemsView v d)(hm:h?)(hQ:∀h',TJ h' s.heap.objs.size d 0 es.size ep->Cl!->y! s.heap.objs.size j!):Be! pyIter (B! v):=by
 obtain⟨o1,e1,c1,f1⟩:=id hv;obtain⟨o2,e2,c2,f2⟩:=hm;refine wpAny_pyIter_slot hv.typeIs F.slot_dict_items_iter (C_ F.slot_dict_items_iter hv.typeIs F.entry_dict_items_iter ?_ (F.args_dict_items_iter_1 _));unfold Builtin.«dict_items.__iter__» Builtin.Dict_items.dictOf Builtin.Dict_items.newIterator;refine ZR (ZS (ZR (ZR (wpAny_field (x:=IN) e1 f1 rfl (ZS (ZR (ZR (CD e2 f2 (ZR (EM e2 f2 ?_))))))))));have own:Aa! Rs=true:=d!
 simp only[own,HH,CL,ED];refine DW (ZS ⟨_,rfl,Rs,_,CL!,F.slot_dict_itemiterator_next.lookup,?_⟩) (by simp[sizeOk,Builtin.Dict_items.ownedTupleFields,Cn]);exact hQ _ ⟨F!,F!,F!,false,h! rfl,(ZU _ rfl).trans (by simp[rawInt,Builtin.Dict_items.ownedTupleFields])⟩ Bp!
theorem Y9{es:v?}{Q:N! (T0 Value)}(hw:BV! s.heap i es.size)(hm:h?)(hi:i<es.size)(hQ:∀h',BV! h' z! es.size->Ya h' s.heap.objs.size es[i].key es[i].val->(Dn! (b≠it))->Bc! (some (B! s.heap.objs.size))):DJ!:=by
 have ty:=hw.ty;obtain⟨own,ok,ov,f,ho,e0⟩:=hw;obtain⟨o2,e2,c2,f2⟩:=hm;have dY:Aa! Rs=true:=d!
 unfold pyNext;refine DX! ty HR (C_ HR ty F.entry_dict_itemiterator_next (ZR (FS ?_)) (F.args_dict_itemiterator_next_1 _));refine cr (HM ty (FS (wpAny_fieldsOf e0 rfl ?_)));simp only[dY,HH];refine CF! (AW! P? DQ!);rw[Cq!];refine CU! e2 f2;rw[FB];refine CV! e2 f2;rw[FB];refine ZS ?_;simp only[sB DD!,ED,DT,Array.getElem?_eq_getElem hi];refine cr (HM ty (FS (RS ty ?_)));refine CF! (AW! P? (DE! 3 rawInt ((i:Int)+1) >>= _));refine AF! e0 (λh1 q1 b1=>?_);have w1:BV! h1 z! es.size:=⟨own,ok,ov,f,ho,by rw[show((i+1:Nat):Int)=(i:Int)+1 by lia];simpa [rawInt] using q1⟩;have tU:Shared.TypeIs SC o? Rs:=TJ.ty (s:=SC) w1;refine db (ZR (RS tU (ZR (RS tU ?_))));refine Jea (s:=SC) w1 λh2 w2 p2 k2=>?_;have z1:h1.objs.size=s.heap.objs.size:=b1.1;dsimp only at p2 k2 ⊢;rw[z1] at p2 ⊢;exact ZS (w? (ZS (hQ h2 w2 p2 (O? (k2 b o hb ((b1.2 b hb).trans e))))))
theorem Jci{es:v?}{Q:N! (T0 Value)}(hh:BO!)(hw:BV! s.heap i es.size)(hm:h?)(hi:es.size<=i)(hQ:∀h',(Dn! (b≠it))->Bc! none):DJ!:=by
 have ty:=hw.ty;obtain⟨own,ok,ov,f,ho,e0⟩:=hw;obtain⟨o2,e2,c2,f2⟩:=hm;have dY:Aa! Rs=true:=d!
 unfold pyNext;refine DX! ty HR (C_ HR ty F.entry_dict_itemiterator_next (ZR (FS ?_)) (F.args_dict_itemiterator_next_1 _));refine cr (HM ty (FS (wpAny_fieldsOf e0 rfl ?_)));simp only[dY,HH];refine CF! (AW! P? DQ!);rw[Cq!];refine CU! e2 f2;rw[FB];refine CV! e2 f2;rw[FB];refine ZS ?_;simp only[sB DD!,ED,DT,Array.getElem?_eq_none hi];refine cr (HM ty (ZS ?_));refine ZR (FQ (k:=2) e0 a! λh1 q1 b1=>?_);refine ZR (Jdh λh2 x t2 k2=>wpAny_raiseNew_none hh (ZR (wpAny_isInstance t2 isSubtype_stop (ZS (hQ h2 (O? (k2 b o ((b1.2 b hb).trans e))))))))
universe E
def WQ(h:Heap)(it:Addr)(es:v?)(as:I!):Prop:=∀(j:Nat)(a:Addr),as[j]?=some a->it<a/\∃e:DictEntry,es[j]?=some e/\Ya h a e.key e.val
theorem WQ.to(x:A2! h)(k:Dv! (it<b) KF):A2! h' :=λj a e=>let⟨l,d,e1,e2⟩:=x j a e;⟨l,d,e1,k a _ l e2⟩
theorem WQ.more(x:A2! h)(hi:as.length<es.size)(l:it<a)(p:Ya h a es[as.length].key es[as.length].val):WQ h it es (as++[a]):=λj b e=>by rcases Nat.lt_trichotomy j as.length with hj|hj|hj;(.rw[NC hj] at e;exact x j b e);(.subst hj;(have e':a=b:=SB);subst e';exact⟨l,_,Di!,p⟩);.rw[CM (by simp;lia)] at e;cases e
universe S
theorem Pu(hh:BO!)(l1:S<it)(n1:d≠S)(n2:d≠it)(hz:es.size<=sizeLine)(res:Value) : ∀(k:Nat)(s:Shared)(as:I!)(c:Nat),as.length+k=es.size->BV! s.heap as.length es.size->h?->E! s.heap.get? S (Du! c)->A2! s.heap->as.Nodup -> (∀h' IB c',IB.length=es.size->IB.Nodup->(∀b o,b≠S->b≠it->BS!->Ds!)->BF! (E! h'.get? S (Tk (IB.map Value.ref).toArray c')) (WQ h' it es IB) R .ok res) -> codeAny P? A (T? "list.extend.loop" (p? [C! S,C! it,res])) R s
 | 0,s,as,c,hk,iw,rd,hS,ps,nd,q=>by refine J_ PySem.F.entry_extend_loop ?_;rw[HD FL _];refine(ZR (m:=pyNext (.ref it)) (Jci hh iw rd A! λh' kp=>ZS (q h' as c A! nd (λb o _ hb e=>A6! hb) (kp S _ (BH l1) hS) (ps.to (O? (A6! (EE hb)))))))
 | k+1,s,as,c,hk,iw,rd,hS,ps,nd,q=>by (have hi:as.length<es.size:=H!);have al:it<s.heap.objs.size:=let⟨_,_,_,_,_,e⟩:=iw;AR e;refine J_ PySem.F.entry_extend_loop ?_;rw[HD FL _];refine ZR (m:=pyNext (.ref it)) (Y9 iw rd hi λh1 iw1 p1 k1=>?_);have lY:=k1 S _ (BH l1) hS;(have sz:(as.map Value.ref).toArray.size=as.length:=X!);refine ZR (m:=updateSeq S (·.push (Value.ref s.heap.objs.size))) (wpAny_updateSeq lY rfl (ZS (I? (JN FL _))) (XV sz) (by rw[Array.size_push,sz];lia));have up:B8! (b≠S) B0! (h1.update S (Obj.mapSeq (·.push (Value.ref s.heap.objs.size)))).get?:=O? (Aw! e);refine Pu hh l1 n1 n2 hz res k (WP (h1.update S (Obj.mapSeq (·.push (Value.ref s.heap.objs.size))))) (as++[s.heap.objs.size]) (c+1) (by simp;lia) (b? ZE (iw1.to λo e=>up it o (EE l1) e)) (rd.at λo e=>up d o n1 (k1 d o n2 e)) ?_ ?_ ?_ λh' IB c' a1 a0 a2 a3 a4=>q h' IB c' a1 a0 (λb o hb hc e=>a2 b o hb hc (up b o hb (k1 b o hc e))) a3 a4;(.refine(IU lY _).trans ?_;simp[seqObj]);(.exact WQ.more (ps.to (O? (up b o (EE (OR l1 hb)) (k1 b o (EE hb) e)))) hi al (up _ _ (EE (OR l1 al)) p1));.refine AK.mpr ⟨nd,X!,λa ha b hb z=>?_⟩;(have e:b=s.heap.objs.size:=by simpa using hb);obtain⟨j,hj⟩:=CB.mp ha;obtain⟨_,_,_,e2⟩:=ps j a hj;exact absurd (AR e2) (by rw[z,e];exact CN _)
universe E
universe S
theorem Qt(hh:BO!)(hv:s.heap.IsItemsView v d)(hm:h?)(hz:es.size<=sizeLine)(h:∀h' as it,as.length=es.size->as.Nodup->s.heap.objs.size<=it->Cl!->A2! h'->R BR! j!) : Dk! collect (B! v) R:=by
 have lv:v<s.heap.objs.size:=let⟨_,e,_⟩:=hv;AR e;have ld:d<s.heap.objs.size:=let⟨_,e,_⟩:=hm;AR e;unfold collect;refine ZR (wpAny_runValue (J_ PySem.F.entry_proto_collect ?_));rw[HD PySem.F.plain_proto_collect _];refine ZR (m:=newList []) (DW (ZS ⟨JN PySem.F.plain_list_iadd _,J_ PySem.F.entry_list_iadd ?_⟩) (BP!));rw[HD PySem.F.plain_list_iadd _];generalize pP:AZ! (D1! ([]:O!).toArray)=h0;have gS:E! h0.get? s.heap.objs.size Os:=o! pP c?
 have k0:Uf (q! h0.get?):=L? (o! pP AV!)
 have og:h0.IsItemsView v d:=let⟨o,e,r⟩:=hv;Q? (k0 v o e) r;have o9:AS! h0:=hm.at λo e=>k0 d o e;have z0:h0.objs.size=s.heap.objs.size+1:=by rw[<-pP,Heap.size_push]
 have low:Uf (b<s.heap.objs.size):=L? (AR e);obtain⟨S,hS⟩:∃S:Addr,S=s.heap.objs.size:=sK;rw[<-hS] at gS z0 lv ld low ⊢;have lS:S<h0.objs.size:=T! z0 (II _)
 refine CF! (wpAny P? _ (Builtin.List.listExtendWith (B! S) (B! v) (B! S)) _ _ { s with heap:=h0 });have fin:∀(R':N! Result),(∀h' IB c',IB.length=es.size->IB.Nodup->(Uf Ds!)->BF! (E! h'.get? S (Tk (IB.map Value.ref).toArray c')) (WQ h' h0.objs.size es IB) R' .ok (B! S)) -> ∀h1 c1,TJ h1 h0.objs.size d 0 es.size ep->AS! h1->E! h1.get? S (Dl! c1)->(Uf B0!)->codeAny P? A (T? "list.extend.loop" (p? [C! S,C! h0.objs.size,C! S])) R' SC:=λR' q h1 c1 a1 a2 a3 a4 =>Pu hh lS (BH ld) (BH (OR ld lS)) hz _ es.size SC [] c1 a! a1 a2 (by simpa using a3) (λj a e=>by simp at e) CK λh' IB c' q1 q0 q2 q3 q4=>q h' IB c' q1 q0 (L? (q2 b o (BH (H? low)) (BH (OR (H? low) lS)) (H? a4))) q3 q4;unfold Builtin.List.listExtendWith;refine ZR (wpAny_typeOf (T:=AL!) (Heap.IsItemsView.typeIs (s:={ s with heap:=h0 }) og) ?_);have n1:Builtin.List.listSameRef (B! S) (B! v)=false:=by simp[Builtin.List.listSameRef,EE lv]
 have n2:(am AL! == am Go)=false:=d!
 have n3:(am AL! == am y?)=false:=d!
 simp only[n1,n2,n3,Bool.or_false,CL,ED];refine ZR (Za (s:={ s with heap:=h0 }) og o9 λh1 iw k1=>?_);refine db (W.kdx_hint (s:=SC) (let⟨o,e,c,_⟩:=og;Q? (k1 v o e) c) ?_);have lZ:=k1 _ _ gS;have loop:∀h2 c2,(B8! (b≠S) B0! h2.get?)->E! h2.get? S (Dl! c2) -> codeAny P? A (T? "list.extend.loop" (p? [C! S,C! h0.objs.size,C! S])) (λq s'=>∃h' IB c',q=DC! (B! S)/\s'=j!/\IB.length=es.size/\IB.Nodup/\Cl!/\E! h'.get? S (Tk (IB.map Value.ref).toArray c')/\WQ h' h0.objs.size es IB) { s with heap:=h2 }:=λh2 c2 k2 g2 =>fin _ (λh' IB c' a1 a0 a2 a3 a4=>⟨h',IB,c',rfl,rfl,a1,a0,a2,a3,a4⟩) h2 c2 (iw.to λo e=>k2 _ o (EE lS) e) (o9.at λo e=>k2 d o (BH ld) (k1 d o e)) g2 (L? (k2 b o (BH (H? low)) (k1 b o (H? k0))));refine wpAny_ite_split (λ_=>?_) (λ_=>ZS (I? (JN FL _)));.refine ZR (wpAny_rule (ZR (m:=updateSeq S (·.push .none) >>= λ_=>updateSeq S (·.pop)) (ZR (wpAny_updateSeq lZ rfl (wpAny_updateSeq (IU lZ _) rfl (ZS (I? (JN FL _))) ?_ ?_) ?_ ?_))));(.refine HW (loop _ _ (O? (Aw! (Aw! e))) (IU (IU lZ _) _)) λq s' y=>?_;obtain⟨h',IB,c',rfl,rfl,a1,a0,a2,a3,a4⟩:=y;refine ZR (m:=load S) (wpAny_load a3 (ZS ?_));exact h h' IB _ a1 a0 (o! hS (EF lS)) a2 a4);all_goals (simp[seqObj,Cn])
 .refine HW (loop h1 0 (λb o _ e=>e) lZ) λq s' y=>?_;obtain⟨h',IB,c',rfl,rfl,a1,a0,a2,a3,a4⟩:=y;refine ZR (m:=load S) (wpAny_load a3 (ZS ?_));exact h h' IB _ a1 a0 (o! hS (EF lS)) a2 a4
universe E
universe S
theorem Px:∀{vs:O!} {ns:M!},IntsAre vs ns->ItemsAre (intKind prog w) ns vs
 | _,_,.nil=>P!
 | _,_,.cons n t r=>Q! (intKind_is prog w n t) (Px r)
theorem Nt(x:DH! a)(y:Bg! its.toList):IsTupleKey (intKind prog w) h ns a :=let⟨o,ho,hc,n,hd⟩:=x;⟨o,its,n,ho,hc,hd,Px y⟩
inductive MZ(h:Heap)(a:Addr)(q:M!×Int):Prop
 | mk ka its t (_:Ya h a Bz! (D! q.2 t)) (_:DH! ka) (_:IntsAre its.toList q.1)
theorem MZ.to(k:Dv! KF (o.cls=B3!))(x:MZ h a q):MZ h' a q :=let⟨ka,its,t,e1,⟨o,ho,hc,r⟩,e3⟩:=x;⟨ka,its,t,k _ _ e1 rfl,⟨o,k ka o ho hc,hc,r⟩,e3⟩
theorem Jgq(hu:A.units<cLine)(x:MZ s.heap a p)(y:MZ s.heap b q)(same:p.1=q.1->p.2=q.2)(h:C (HT.lexLt p.1 q.1) s) : wpAny P? A (keyLt' (tuples' false) AT (B! b)) C Dy! s:=by
 obtain⟨ka,its,t,e1,e2,e3⟩:=x;obtain⟨kb,vB,u,f1,f2,f3⟩:=y;refine W.kat_lt e1 rfl f1 rfl (W.kat_cons (wpAny_eqBool_tuple hu (Nt e2 e3) (Nt f2 f3) (W.kat_go (λe=>W.kat_yes (W.kat_cons (wpAny_eqBool_int (W.kat_go (λ_=>W.kat_yes (W.kat_nil ?_)) λz=>?_)))) λe=>W.kat_no (W.kat_one _ _ (HT.UK e2 f2 e3 f3 hu h)))));.have e:=BO e;rw[e,N2] at h;exact h
 .rw[same (BO e)] at z;simp at z
def Jp(h:Heap):E? I! (G! (M!×Int)):=Paired (MZ h)
theorem Ld:∀{as:I!} {L:G! (M!×Int)},Jp h as L->∃fs:O!,W.KatTups h BR! fs/\fs.length=as.length/\∀v∈fs,∃ka its,v=Value.ref ka/\DH! ka
 | _,_,.nil=>⟨[],trivial,rfl,λv hv=>by simp at hv⟩
 | _,_,.cons ⟨ka,its,t,e1,e2,e3⟩ r=>by obtain⟨fs,a1,a2,a3⟩:=Ld r;refine⟨ca::fs,W.KatTups.cons e1 rfl rfl rfl a1,by simp[a2],λv hv=>?_⟩;rcases ZM hv with rfl|hv;(.exact⟨ka,its,rfl,e2⟩);.exact a3 v hv
theorem Q6(x:Jp h as L)(hi:AK!):∃a q,as[i]?=some a/\L[i]?=some q/\KB i F!=.ref a/\DI! q.1/\MZ h a q:=by
 have hl:=r? x;obtain⟨a,ha⟩:=DT! as i hi;obtain⟨q,hq⟩:=DT! L i A!;refine⟨a,q,ha,hq,?_,?_,Aw x i a q ha hq⟩;.rw[ID,ZH,ha];rfl
 .rw[ID,ZH,hq];rfl
theorem Xd(hu:A.units<cLine)(ho:B9! (Du! n))(UU:as.length<64)(x:Jp s.heap as L)(nd:(L.map S!).Nodup)(h:∀q:Af!,A5! as.length->BG! (t? (q? i []) (q? j []))->∀h' c,BF! (Cd!) (a? h'.get? (Tk (q.map (Z! KB F!)).toArray c)) P .done F!) : Dk! Builtin.«list.sort» NE P:=by
 have hl:=r? x;have cV:Bq!=as.length:=ZA ..;have key:∀i,AK!->∃h:i<(L.map S!).length,DI! ((L.map S!)[i]):=λi hi=>⟨Br!,Ad! (i<L.length)⟩;have one:∀i j,AK!->j<as.length->DI! (q? j [])->i=j:=λi j hi hj e=>by obtain⟨l1,e1⟩:=key i hi;obtain⟨l2,e2⟩:=key j hj;rw[e1,e2] at e;exact(DZ nd).mp e
 refine Re (lt:=λi j=>HT.lexLt (q? i []) (q? j [])) ho (CE! UU) ⟨λi j k _ _ _=>Ux,λi j hi hj US e=>Uy (λz=>US (one i j A! A! z)) e⟩ (λh2 h' kp Q hQ=>?_) (CE! h);have x':Jp h' as L:=Ap (λb q y=>y.to λb o e c=>A6! (λz=>by rw[z,ho] at e;cases e;exact absurd (show am Go=Value.type y? from c) (d!))) x;obtain⟨fs,f1,f2,f3⟩:=Ld x';refine W.kat_kind (s:=j!) (T:=B3!) f1 (XV f2) (λv hv=>?_) rfl (hQ _ λi j hi hj C hC=>?_);.obtain⟨ka,its,rfl,o,e,c,_⟩:=f3 v hv;have z:W.Looks P? h' (typeOf Bz!) o.cls:=(W.Looks.ld e).andThen .now;rw[c] at z;exact z
 .rw[cV] at hi hj;obtain⟨a1,q1,g1,g2,g3,g4,g5⟩:=Q6 x' hi;obtain⟨a2,q2,k1,k2,k3,k4,k5⟩:=Q6 x' hj;unfold W.kas_ask;rw[g3,k3];dsimp only at hC;rw[g4,k4] at hC;refine Jgq (s:=j!) hu g5 k5 (λz=>?_) hC;have e:=one i j hi hj (by rw[g4,k4,z]);subst e;rw[g2] at k2;cases k2;rfl
universe E
def lay(H:Hp):Ah!->Hp
 | []=>H
 | p::r=>upd (lay H r) p.1 (.AZ p.2)
theorem Uz:∀{ps:Ah!},b∉R? ps.map->lay H ps b=H b
 | [],_=>rfl
 | p::r,h=>by have h1:b≠p.1:=λz=>h (T! z (ZL ..));show(upd (lay H r) p.1 CM!) b=_;rw[Ab h1];exact Uz λz=>h (ZD _ z)
theorem y_:∀{ps:Ah!},Ix ps.map->∀p∈ps,lay H ps p.1=some CM!
 | [],_,p,hp=>by cases hp
 | q::r,nd,p,hp=>by have KA:=AM.mp nd;rcases ZM hp with rfl|hp;(.exact Ac);.have ne:p.1≠q.1:=λz=>KA.1 (AF.mpr ⟨p,hp,z⟩);show(upd (lay H r) q.1 (.AZ q.2)) p.1=_;rw[Ab ne];exact y_ KA.2 p hp
universe S
def xc(X:Cx)(AA:e?)(a:Addr):Prop:=X.HU.heap.get? a=none/\a≠X.env.locals/\(∀x c,sw X.env.cells.lookup->c≠a)/\∀p∈SL,p.1≠a
theorem Jnk(I:J!)(h:s.heap.objs.size<=a):xc X AA a :=let x:=I.WA (H':=λ_=>none) h rfl;⟨Heap.get?_none_of_le (BA I.sz h),x.2.1,x.2.2.2.2.1,x.2.2.2.2.2⟩
theorem zU:∀{ps:Ah!},J!->Ix ps.map->(∀p∈ps,xc X AA p.1/\K! p.1/\∀H',BX! H' p.1 CM!)->TD Cf! s
 | [],I,_,_=>I
 | p::r,I,nd,h=>by have KA:=AM.mp nd;obtain⟨⟨a1,a2,a3,a4⟩,a5,a6⟩:=h p (ZL ..);exact Jcj (zU I KA.2 (k? (h q (ZD _ hq)))) (b? (Uz KA.1) a5) a1 a2 a3 a4 (a6 _)
universe E
inductive RecAt(H:Hp)(a:Addr)(q:T2×Int):Prop
 | mk ka (_:v! a (.AZ [ca,D! q.2])) (_:BH!)
theorem yW{P:Program}{w:World}{H:Hp}{h1:Heap}{n:Nat}:∀{as:I!} {L:f?},Paired (λa q=>n<=a/\∃ka t,Ya h1 a Bz! (D! q.2 t)/\BH!) as L -> ∃ps:Ah!,R? ps.map=as/\(∀p∈ps,n<=p.1/\∀H',DN P w H' h1 p.1 CM!)/\Paired (λp q=>∃ka,p.2=[ca,D! q.2]/\BH!) ps L
 | _,_,.nil=>⟨[],rfl,λp hp=>by(cases hp),P!⟩
 | a::_,q::_,.cons ⟨la,ka,t,e1,e2⟩ r=>by obtain⟨ps,b1,b2,b3⟩:=yW (P:=P) (w:=w) r;refine⟨(a,[ca,D! q.2])::ps,by rw[AI,b1],Ac!,Q! ⟨ka,rfl,e2⟩ b3⟩;rcases ZM hp with rfl|hp;(.exact⟨la,λH'=>⟨by show 2<=sizeLine;rw[Cn];lia,[ca,D! q.2 t],Q! rfl (Co! (s? t)),⟨_,e1,rfl,_,rfl⟩⟩⟩);.exact b2 p hp
universe S
variable {X:Cx}
theorem L6(hc:Z?)(hu:Bt! 64):Cs! (∃v d,∃L rs:f?,IR v/\v! v (U7 v d)/\CB! d L/\L.length<64/\rs.Perm L/\(rs.map S!).Pairwise IW /\ ∀(r:Addr)(as:I!)(H':Hp),Bh H H'->K! r->E! H' r ww->Paired (RecAt H') as rs->y! r H'):=by
 intro AA s σ H xs us Q I rv h;obtain⟨v,d,L,rs,rfl,hv,hd,UU,pm,pw,q⟩:=h;obtain⟨u,rfl,rx⟩:=vals1 rv;cases rx;obtain⟨z,lo,ys,rel,o,es,ep,g1,g2,g3,g4,g5⟩:=Dq! (C7 L) hd;have vw:s.heap.IsItemsView v d:=(I.DC v _ hv).1;have hes:es.size=ys.length:=JZ g4;have hyl:ys.length=L.length:=by have:=r? rel;rw[ZA] at this;exact this.symm
 have ent:∀(j:Nat)(e:DictEntry)(q:T2×Int),es[j]?=some e->L[j]?=some q->∃ka t,e.key=ca/\e.val=D! q.2 t/\BH!:=λj e q h1 h2=>by rw[entry_at g4 j] at h1;cases hy:ys[j]? with | none=>rw[hy] at h1;cases h1 | some y =>rw[hy] at h1;cases h1;obtain⟨r1,r2,r3⟩:=Aw rel j GM y (Bv! h2) hy;obtain⟨t,r3⟩:=r3;exact⟨y.2.1,t,rfl,r3,r2⟩
 have lG:(L.map S!).Nodup:=(pm.map S!).nodup_iff.mp (List.Pairwise.imp (λ{a b} (h:IW a b) (z:a=b)=>by rw[Eo,z] at h;lia) pw);refine JC kind_sorted plain_sorted entry_sorted (args_sorted1 _) (by unfold Builtin.«sorted»;refine ZR (m:=checkCount "sorted" 1 1 _) (FS (Qt (show _ from I.ok.hd hc) vw ⟨o,g1,g2,g3⟩ (by rw[hes,hyl,Cn];lia) λh1 as it hl lF hit kp prs=>?_));have I1:BQ! { s with heap:=h1,toks:=s.toks }:=I.kept kp;(have a7:as.length=L.length:=H!);(have vq:Paired (λa q=>s.heap.objs.size<=a/\∃ka t,Ya h1 a Bz! (D! q.2 t)/\BH!) as L:=D8 a7 (Dg! (by obtain⟨la,e,e3,e4⟩:=prs j a e1;obtain⟨ka,t,k1,k2,k3⟩:=ent j e q e3 e2;rw[k1,k2] at e4;exact⟨EF (I_ hit la),ka,t,e4,k3⟩)));obtain⟨ps,b1,b2,b3⟩:=yW (P:=X.prog) (w:=X.w) vq;have RX:∀a,s.heap.objs.size<=a->K! a:=λa ha=>I.DC.fresh ha;have I2:TD Cf! { s with heap:=h1,toks:=s.toks }:=zU I1 (b? b1 lF) λp hp=>⟨Jnk I (b2 p hp).1,RX _ (b2 p hp).1,(b2 p hp).2⟩;(have sm:Bh H Cf!:=λb ob e=>by rw[Uz (λz=>?_)];(.exact e);.obtain⟨p,hp,rfl⟩:=ZN z;rw[RX _ (b2 p hp).1] at e;cases e);(have rC:Paired (RecAt (lay H ps)) as L:=by rw[<-b1];refine D8 (Is (r? b3)) (Dg! ?_);rw[ZH] at e1;cases hp:ps[j]? with | none=>rw[hp] at e1;cases e1 | some p =>rw[hp] at e1;cases e1;obtain⟨ka,k1,k2⟩:=Aw b3 j p q hp e2;exact⟨ka,by rw[y_ (T! b1 lF) p (ZP hp),k1],sm _ _ k2⟩);(have rG:Jp h1 as (L.map No):=D8 (Is a7) (Dg! (by rw[ZH] at e2;cases hq:L[j]? with | none=>rw[hq] at e2;cases e2 | some q0 =>rw[hq] at e2;cases e2;obtain⟨_,ka,t,k1,k2⟩:=Aw vq j a q0 e1 hq;obtain⟨its,rv,it2,_⟩:=I1.tuple (CF.of (K:=X.K) k2);exact⟨ka,its.toArray,t,k1,it2,by simpa using intsAre_of (ns:=[q0.1.1,q0.1.2]) rv⟩)));(have eK:R? (L.map No).map=L.map λq=>Dx!:=bv);(have oI:Ix (L.map No).map:=by (have e:(L.map λq=>(Dx!:M!))=(L.map S!).map bn:=bv);rw[eK,e];exact List.Pairwise.map _ (λa b h z=>h (by obtain⟨a1,a2⟩:=a;obtain⟨c1,c2⟩:=b;simp at z;rw[z.1,z.2])) lG);refine ZR (PZ ?_ (C5!));have g1:Ag! h1.push i? h1.objs.size i?:=c?;have rF:Jp (h1.push i?) as (L.map No):=Ap (λa q y=>y.to λb o e _=>AV!) rG;refine db (C_ slot_list_sort ⟨_,g1,rfl⟩ YJ (Xd (by show X.A.units+1+1<cLine;lia) g1 A! rF oI λp pp po h2 c gu e=>w? ?_) (args_list_sort _));have hn:K! h1.objs.size:=I1.DC.fresh (ZG _);have bR:lay H ps h1.objs.size=none:=I2.DC.fresh (ZG _);have inr:∀i∈p,AK!:=λi hi=>BR.mp (pp.mem_iff.mp hi);(have eR:p.map (Z! L.getD CG!)=rs:=by refine Hm (lt:=λa b:T2×Int=>IW a.1 b.1) (λa z=>by rw[Eo] at z;lia) (λa b h1 h2=>by rw[Eo] at h1 h2;lia) ?_ ?_ (o! (EG (f:=λq:T2×Int=>q.1) (R:=IW)) pw);(·(have e2:(List.range as.length).map (Z! L.getD CG!)=L:=by refine C1!;rw[ZH];by_cases hj:Bl!;(.rw[show AB!=some j by simp[a7,hj]];simp[hj]);.rw[show AB!=none by simp[a7];lia,BY! CM];rfl);have e7:=pp.map (Z! L.getD CG!);rw[e2] at e7;exact e7.trans pm.symm);.rw[EG];refine List.Pairwise.imp_of_mem (λ{i j} hi hj z=>?_) po;have li:=wp;have lj:=inr j hj;rw[eK] at z;simpa [IW,sB (i<L.length),sB Bl!] using z);(have eV:(p.map (Z! KB F!))=(p.map d?).map Value.ref:=by rw[AL];refine BM λi hi=>?_;have:=wp;simp[this]);(have rB:Paired (RecAt (upd Cf! h1.objs.size (.BC ((p.map d?).map V.ref)))) DA! rs:=by rw[<-eR];refine D8 (by rw[ZA,ZA]) (Dg! ?_);rw[ZH] at e1 e2;cases hp:p[j]? with | none=>rw[hp] at e1;cases e1 | some i =>rw[hp] at e1 e2;cases e1;cases e2;have li:=inr i (ZP hp);obtain⟨ka,k1,k2⟩:=Aw rC i (as.getD i 0) (L.getD i CG!) (by simp[li]) (Ad! (i<L.length));exact⟨ka,Ah bR _ _ k1,Ah bR _ _ k2⟩);refine ZS ⟨_,rfl,C! h1.objs.size,_,Cz! I2.laid h1.objs.size (.BC ((p.map d?).map V.ref)) (λb o hb=>gu b o (BH (AR hb)) (ZT _ hb)) ⟨?_,(p.map d?).map Value.ref,c,Fo _,?_⟩,rfl,q _ DA! _ (Al sm (Ah bR)) hn Ac rB⟩;(.rw[ZA,ZA,pp.length_eq,BZ,Cn];lia);.rw[<-eV];exact e)
universe E
theorem Lj(f:α->β):∀(xs:G?)(j:Nat),(xs.map f).eraseIdx j=(xs.eraseIdx j).map f
 | [],_=>rfl
 | _::_,0=>rfl
 | x::xs,j+1=>congrArg (f x :: ·) (Lj f xs j)
universe S
variable {prog:Program}{w:World}{K:Type}[DecidableEq K]{knd:HeapKind prog w K}{A:Around}{E:Value->Shared->Prop}{s:Shared}
theorem Sl{d a:Addr}{xs:G! (K×AQ!)}{k:K}{p:AQ!}{j:Nat}{Q:N! (T0 DictEntry)}(hu:knd.room A)(V':knd.is s.heap k a)(hm:s.heap.DictOfH knd d xs)(hz:Bk!)(hj:Ba! (k,p))(hQ:∀h' o es ep,FM h'.get?->o.ExactDict->BB!->es.toList=(xs.eraseIdx j).map (entryOfKey knd)->A4! d s.heap->Q (some (entryOfKey knd (k,p))) { s with heap:=h',toks:=BD! }) : Dt! (Builtin.Dict.takeOut d AT) Q:=by
 obtain⟨o,es,ep,ho,hc,hd,he,vV,hn⟩:=hm;unfold Builtin.Dict.takeOut;refine EJ (ZR (knd.pyHash hu V' (ZR (wpAny_dictFind_heap (s:={ s with toks:=BD! }) hu V' ho hd he vV hn (λno=>absurd hj (no j p)) λi q hi=>?_))));obtain rfl:=idxH_unique hn hi hj;rw[hj] at hi;cases hi;refine ZR (CD (s:={ s with toks:=BD! }) ho hd ?_);rw[entry_at he i,hj];refine ZR (wpAny_updateDictKeys (hz:=T! (JZ he) hz) (s:={ s with toks:=BD! }) ho hd (ZS (hQ _ _ _ _ (FZ _ ho (ND (G_ hd _))) (hc.mapDictKeys _) (G_ hd _) ?_ (Heap.SameBut.update ..))));have e1:(es.eraseIdxIfInBounds i).toList=es.toList.eraseIdx i:=X!
 rw[e1,he];exact Lj _ _ _
theorem Jd2{d a:Addr}{xs:G! (K×AQ!)}{k:K}{p:AQ!}{j:Nat}{Q:N! PySem.Fin}(hu:knd.room A)(V':knd.is s.heap k a)(hm:s.heap.DictOfH knd d xs)(hz:Bk!)(hj:Ba! (k,p))(hQ:∀h' o es ep,FM h'.get?->o.ExactDict->BB!->es.toList=(xs.eraseIdx j).map (entryOfKey knd)->A4! d s.heap->Q (.done (.ret p.2)) { s with heap:=h',toks:=BD! }) : Be! Builtin.«dict.pop» (p? [IN,C! a]):=by
 have ty:=hm.typeIs;obtain⟨o,es,ep,ho,hc,hd,he,vV,hn⟩:=id hm;have ne:es.isEmpty=false:=by have h1:=JZ he;have h2:Df!:=(ZJ hj).1;cases h3:es.isEmpty with | false=>rfl | true=>rw[KL] at h3;lia
 unfold Builtin.«dict.pop» Builtin.Dict.keyAndDefault;refine cr (IJ ty (ZS ?_));dsimp only;rw[AB (show ¬(keyPart (Value.ref a)).isSome=true from AX)];refine ZR (CD ho hd (ZR (ZS ?_)));rw[B6! ne AX];refine ZR (Sl hu V' hm hz hj λh' o' cY cZ a1 a2 a3 a4 a5=>?_);exact ZR (wpAny_letGo (ZS (hQ h' o' cY cZ a1 a2 a3 a4 a5)))
universe E
universe S
variable {κ:Type}[DecidableEq κ]
theorem P9:∀{kvs:ci} {k:κ} {v:V} {j:Nat},Ix kvs.map->kvs[j]?=some (k,v)->Dt kvs k=kvs.eraseIdx j
 | [],_,_,j,_,h=>by simp at h
 | p::r,k,v,0,nd,h=>by (have h:p=(k,v):=by simpa using h);have KA:=AM.mp nd;rw[Jcv (by rw[h]),Qb (by rw[h] at KA;exact KA.1)];rfl
 | p::r,k,v,j+1,nd,h=>by (have h:r[j]?=some (k,v):=by simpa using h);have KA:=AM.mp nd;have ne:¬p.1=k:=λz=>KA.1 (AF.mpr ⟨(k,v),ZP h,z.symm⟩);rw[R0 ne,P9 KA.2 h];rfl
theorem Zr:∀{kvs:ci} {k:κ} {v:V},Ci kvs k=some v->∃j:Nat,kvs[j]?=some (k,v)
 | [],k,v,h=>be
 | p::r,k,v,h=>by by_cases e:p.1=k;(.rw[Ft e] at h;exact⟨0,by rw[<-e,<-ZO h];rfl⟩);.rw[Eg e] at h;obtain⟨j,hj⟩:=Zr h;exact⟨j+1,by simpa using hj⟩
universe E
universe S
variable {X:Cx}{AA:List (Addr×Obj)}{σ:L2.St}{H:Hp}{s:Shared}{A:Around}{E:Value->Shared->Prop}{a b:Addr}
theorem Ps:∀{kvs:xz} {xs:G! (UF×AQ!)},KT H kvs xs->R? xs.map=kvs.map S!
 | _,_,.nil=>rfl
 | _,_,.cons r t=>by rw[AI,AI,Ps t,r.1]
theorem Jjt{kvs:xz}{k:UF}{v:V}{Q:Ak!}(hu:A.units+1<cLine)(I:J!)(e:Bd! a .dT)(eb:Ch (.AZ (k.map kV)))(l:Ci kvs k=some v)(h:∀w' s',Bb! a (.dT (Dt kvs k)) s'->RelV v w'->Q w' s'):wpAny Bf! A (call (T? "dict.pop") [C! a,C! b]) Q E s:=by
 obtain⟨z,hd,xs,rel,dd⟩:=Rz I.DC e;have hz:Bk!:=o! (r? rel) z
 obtain⟨j,hj⟩:=Zr l;have hjx:Df!:=by rw[<-r? rel];exact(ZJ hj).1
 obtain⟨x,hx⟩:=Au hjx;obtain⟨r1,r2,r3⟩:=Aw rel j _ _ hj hx;obtain⟨k',p⟩:=x;have r1:k=k':=r1;subst r1;have nd:Ix kvs.map:=by obtain⟨_,_,_,_,_,_,_,_,nd⟩:=id dd;rw[<-Ps rel];exact nd
 have bL:Ix (xs.eraseIdx j).map:=by rw[<-Lj,Ps rel];exact nd.sublist (List.eraseIdx_sublist _ _)
 refine C_ KD dd.typeIs PySem.F.entry_dict_pop (Jd2 (ET hu) (Ik I.DC eb) dd hz hx λh' o es ep a1 a2 a3 a4 a5=>w? (h _ _ ?_ r3)) (PySem.F.args_dict_pop_2 _ _);rw[P9 nd hj];refine F9 I (b? e True.intro) a5 ⟨o,a1⟩ ⟨?_,hd,xs.eraseIdx j,KT.keeps (D9 j rel) λc ys ec=>?_,o,es,ep,a1,a2,a3,a4,bL⟩;.exact BA (by rw[List.length_eraseIdx];split<;>lia) z
 .rw[Ab (O2 ec e (λz=>nomatch z))];exact ec
def Jiq(td ty:TE):TE:=ap td (λx H1=>∃a,x=C! a/\ij H1 a/\ty σ H1 λy H2=>∃kvs k v b,a? H2 BE!/\y=C! b/\E! H2 b (.AZ (k.map kV))/\Ci kvs k=some v/\Q v (upd H2 a (.dT (Dt kvs k))))
theorem Fy(hu:Bt! 1)(ho:PE X o td)(he:PE X e ty)(m:M1 X o "pop" apos e HG):PE X (.Call (.Attribute o "pop" apos) [e] [] HG) (Jiq td ty):=by intro AA s σ H Q I h;refine PB m.base m.iE m.line CZ KD PySem.F.type_dict_pop (Ci! ho ?_);rintro u s1 ⟨x,H1,I1,rx,a,ex,d,q1⟩;subst ex;obtain rfl:u=Value.ref a:=rx;obtain⟨t1,t2,_⟩:=U9 I1 d;refine⟨t1,t2,?_⟩;rw[m.trees];refine FJ rfl (HC (HY (DX (he AA s1 σ H1 _ I1 q1) λiv s2 ⟨y,H2,I2,ry,kvs,k,v,b,ea,ey,eb,l,q2⟩=>KW ?_)));subst ey;obtain rfl:iv=Value.ref b:=ry;exact Jjt hu I2 ea eb l λw' s3 I3 PH=>⟨v,_,I3,PH,q2⟩
universe E
def Id(l:AD!)(a:Addr)(h:V!):AD!:=l.map λq=>SZ bi Cr!
theorem On(l:AD!)(a:Addr)(h:V!):(Id l a h).map AR!=l.map AR!:=by
 unfold Id;rw[AL];refine Ca!;show(SZ bi Cr!).2.1=w!;by_cases e:bi;.rw[AD e];exact e.symm
 .rw[AB e]
theorem Jdn(l:AD!)(a:Addr)(h:V!):(Id l a h).map (DR!)=l.map DR!:=by
 unfold Id;rw[AL];refine Ca!;show(tk (SZ bi Cr!).1,V.ref (SZ bi Cr!).2.1)=_;by_cases e:bi;.rw[AD e,<-e]
 .rw[AB e]
theorem Jez(m:q∈Id l a h):(∃q0∈l,q0.2.1=a/\q=(q0.1,a,h))\/(q∈l/\w!≠a):=by
 unfold Id at m;obtain⟨q0,h0,e⟩:=ZN m;by_cases e1:q0.2.1=a;.rw[AD e1] at e;exact h! ⟨q0,h0,e1,e.symm⟩
 .rw[AB e1] at e;rw[<-e];exact R! ⟨h0,e1⟩
universe S
theorem AS.VH(x:C?)(hq:q∈G.holds)(l:V!):Ct! w! A8 (Bn! (Id G.holds w! l)):=by
 obtain⟨_,_,_,d1⟩:=x.SA;obtain⟨n1,n2,n3,n4⟩:=d1 q hq;have mem:w!∈W!:=by unfold BI;exact ZD _ (ZD _ (ZD _ (ZD _ (BG hq))))
 have np:=x.PR mem;obtain⟨dx,e⟩:=x.ob;refine Cw! n1.symm (B4! n2.symm) ?_ (B5! n4.symm) (λr hr=>?_) ?_;.rw[Ab n3.symm];show v! G.l (.dT ((Id G.holds w! l).map DR!));rw[Jdn];exact x.dl
 .rcases Jez hr with⟨q0,_,e1,e2⟩|⟨h1,h2⟩;(.rw[e2];exact Ac);.rw[Ab h2];exact x.hl r h1
 ·(have e2:BI (Bn! (Id G.holds w! l))=BI G:=by unfold BI;rw[On]);rw[e2];exact x.nd
universe E
def Bj(l:V!)(t:T2):V!:=if t∈l then l else l++[t]
def E2(l:V!)(t:T2):V!:=l.filter λu=>J? (u≠t)
theorem Jcq(l:V!)(t:T2):l.find? (λq=>J? (q=t))=if t∈l then g! t else none:=by
 by_cases h:t∈l;.rw[AD h];cases e:l.find? λq=>J? (q=t) with | none=>exact absurd (AY.mp e t h) (X!) | some u =>have:=DO e;(have:u=t:=by simpa using this);rw[this]
 .rw[AB h];exact AY.mpr λu hu=>by have:¬u=t:=λz=>h (z▸hu);simpa using this
theorem Gj(l:V!)(t:T2):Ci (l.map λq=>A3!) (tk t)=if t∈l then AC V.bl true else none:=by
 rw[Dl (k:=λq:T2=>q) (f:=λ_=>V.bl true),Jcq];by_cases h:t∈l;.rw[AD h,AD h];rfl
 .rw[AB h,AB h];rfl
theorem Et(l:V!)(t:T2):putK (l.map λq=>A3!) (tk t) (V.bl true)=(Bj l t).map λq=>A3!:=by
 unfold Bj;by_cases h:t∈l;.rw[AD h];unfold putK;rw[Kq,Gj,AD h,AD (show(some (V.bl true)).isSome=true from rfl),AL];refine Ca!;show(if tk q=tk t then A3! else A3!)=_;by_cases e:tk q=tk t;(.rw[AD e]);.rw[AB e]
 .rw[AB h,F5 (k:=λq:T2=>q) (f:=λ_=>V.bl true) _ (λq hq z=>h (z? hq)),ZF];rfl
theorem F4(l:G?)(k:α->T2)(f:α->V)(t:T2):Dt Av! (tk t)=(l.filter λq=>J? (k q≠t)).map λq=>(tk (k q),f q):=by
 unfold Dt;rw[PD];congr 1;refine JQ λq _=>?_;show J? (tk (k q)≠tk t)=decide (k q≠t);by_cases e:k q=t;.rw[e];simp
 .have e2:¬tk (k q)=tk t:=λz=>e (Yd z);simp[e,e2]
def Be(l:f?)(t:T2)(v:Int):f?:=if t∈R? l.map then l.map λq=>SZ (q.1=t) (q.1,v) else l++[(t,v)]
theorem Ey(l:f?)(t:T2)(v:Int):putK (l.map λq=>GM) (tk t) (V.int v)=(Be l t v).map λq=>GM:=by
 unfold Be;by_cases h:t∈R? l.map;.rw[AD h];unfold putK;(have e1:((l.map λq=>GM).any λkv=>J? (kv.1=tk t))=true:=by obtain⟨q,hq,e⟩:=ZN h;exact KJ.mpr ⟨GM,BG hq,by simp[e]⟩);rw[e1,AD rfl,AL,AL];refine Ca!;show(if tk q.1=tk t then(tk q.1,V.int v) else GM)=(tk (SZ (q.1=t) (q.1,v)).1,V.int (SZ (q.1=t) (q.1,v)).2);by_cases e:q.1=t;(.rw[AD e,AD (by rw[e])]);.rw[AB e,AB λz=>e (Yd z)]
 .rw[AB h,F5 (k:=λq:T2×Int=>q.1) (f:=λq=>V.int q.2) _ λq hq z=>h (AF.mpr ⟨q,hq,z⟩),ZF];rfl
universe S
theorem Hg(hc:Z?):Cs! (∃(l:Addr)(as:I!)(ts ss:V!),IR l/\v! l ww/\AW H as ts/\ts.length<64/\ss.Perm ts/\ss.Pairwise IW /\ ∀(r:Addr)(IB:I!),K! r->AW H IB ss->y! r (upd H r (.BC (IB.map V.ref)))):=by
 intro AA s σ H xs us Q I rv h;obtain⟨l,as,ts,ss,rfl,hl,th,UU,pm,pw,q⟩:=h;obtain⟨u,rfl,rx⟩:=vals1 rv;cases rx;obtain⟨z,its,n,vl,gl⟩:=(show BX! H l ww from I.DC l _ hl);have ei:=Gh vl;subst ei;have pM:=r? th;have nd:ts.Nodup:=pm.nodup_iff.mp (List.Pairwise.imp (λ{a b} (h:IW a b) (z:a=b)=>by rw[Eo,z] at h;lia) pw);have oI:(ts.map λt=>([t.1,t.2]:M!)).Nodup:=List.Pairwise.map _ (λa b h z=>h (by obtain⟨a1,a2⟩:=a;obtain⟨c1,c2⟩:=b;simp at z;rw[z.1,z.2])) nd;have t0:JG s.heap as (ts.map bn):=D8 (Is pM) λj a ns e1 e2=>by rw[ZH] at e2;cases ht:ts[j]? with | none=>rw[ht] at e2;cases e2 | some t =>rw[ht] at e2;cases e2;obtain⟨its,rv,it,_⟩:=I.tuple (CF.of (K:=X.K) (Aw th j a t e1 ht));exact⟨X!,its.toArray,it,by simpa using intsAre_of (ns:=[t.1,t.2]) rv⟩
 refine JC kind_sorted plain_sorted entry_sorted (args_sorted1 _) (by unfold Builtin.«sorted»;refine ZR (m:=checkCount "sorted" 1 1 _) (FS (collect_list ⟨_,gl,rfl,_,rfl⟩ ?_ (C5!)));have kp:Uf (q! ((s.heap.push Os).update s.heap.objs.size (Obj.mapSeq (·++(as.map Value.ref).toArray))).get?):=λb o e =>(CS _ _ (EE (AR e))).trans (ZT _ e);generalize (s.heap.push Os).update s.heap.objs.size (Obj.mapSeq (·++(as.map Value.ref).toArray))=h1 at kp;have I1:BQ! { s with heap:=h1,toks:=s.toks }:=I.kept kp;refine ZR (PZ ?_ (C5!));have g1:Ag! h1.push i? h1.objs.size i?:=c?;have t1:JG (h1.push i?) as (ts.map bn):=t0.keep λb o e _=>ZT _ (H? kp);refine db (C_ slot_list_sort ⟨_,g1,rfl⟩ YJ (Pl g1 A! t1 oI λp pp po h2 c gu e=>w? ?_) (args_list_sort _));have hn:K! h1.objs.size:=I1.DC.fresh (ZG _);have inr:∀i∈p,AK!:=λi hi=>BR.mp (pp.mem_iff.mp hi);(have eR:p.map (Z! ts.getD (0,0))=ss:=by refine Hm (lt:=IW) (λa z=>by rw[Eo] at z;lia) (λa b h1 h2=>by rw[Eo] at h1 h2;lia) ?_ ?_ pw;(·(have e2:(List.range as.length).map (Z! ts.getD (0,0))=ts:=by refine C1!;rw[ZH];by_cases hj:j<ts.length;(.rw[show AB!=some j by simp[pM,hj]];simp[hj]);.rw[show AB!=none by simp[pM];lia,BY! CM];rfl);have e7:=pp.map (Z! ts.getD (0,0));rw[e2] at e7;exact e7.trans pm.symm);.rw[EG];refine List.Pairwise.imp_of_mem (λ{i j} hi hj z=>?_) po;have li:=wp;have lj:=inr j hj;simpa [IW,sB (i<ts.length),sB (j<ts.length)] using z);(have eV:(p.map (Z! KB F!))=(p.map d?).map Value.ref:=by rw[AL];refine BM λi hi=>?_;have:=wp;simp[this]);(have QY:AW H DA! ss:=by rw[<-eR];refine D8 (by rw[ZA,ZA]) λj a t e1 e2=>?_;rw[ZH] at e1 e2;cases hp:p[j]? with | none=>rw[hp] at e1;cases e1 | some i =>rw[hp] at e1 e2;cases e1;cases e2;have li:=inr i (ZP hp);exact Aw th i (as.getD i 0) (ts.getD i (0,0)) (by simp[li]) (Ad! (i<ts.length)));refine ZS ⟨_,rfl,C! h1.objs.size,_,Cz! I1.laid h1.objs.size (.BC ((p.map d?).map V.ref)) (λb o hb=>gu b o (BH (AR hb)) (ZT _ hb)) ⟨?_,(p.map d?).map Value.ref,c,Fo _,?_⟩,rfl,q _ DA! hn QY⟩;(.rw[ZA,ZA,pp.length_eq,BZ,Cn];lia);.rw[<-eV];exact e)
end
mutual
def Z:=#[W!,.ref,
a!,by simp,
w? a,by show a;lia,
U?,{ s with heap:=h' },
T!,by lia,
c? a b,by rw[<-a];exact b,
B2! a,by rw[a];lia,
E! a b,by rw[a];exact b,
WF,"latest",
AO!,"waiting",
K!,.int,
V?,(·.1),
WP a,by simpa using a,
d?,"houses",
P?,"share",
e?,"post",
f?,"inquiries",
AP!,"finds",
B3!,"enclosed",
o!,.inl,
B?,.inr,
i! a,λq hq=>a,
AQ! a,(by cases a),
AR! a,by rw[a];rfl,
x? a,λb o e hb=>a,
IN a,λb o e=>a,
y?,"hand",
AS!,"holds",
AT! a,∀q∈G.holds,a,
B4!,by simpa using h,
EM!,by simpa using hu,
B5! a,by have:=a;simpa using this,
EN! a,∀t∈G.hand,a,
IR a,a≠G.BL,
z? a b c,if a then b else c,
EO!,Addr×Value,
Ix a,a<=sizeLine,
AU!,j<OW.size,
am,by decide,
EY! a,∀t∈ahead,a,
Ea! a,{ G with AN:=a },
CI!,"tuple",
wE,ta∈G.hand,
I?,"self",
Uf,tb∈G.hand,
F! a b c,a b=some c,
L! a,decide (a),
J? a b,F! H a b,
U!,(pv 0),
N! a,W! a,
Is a,[I?,a],
A!,List T2,
AC a,a V?,
G!,(pv 1),
h! a,λq=>L! a,
Y! a,o! a,
Q?,(G.BL,G.AU),
C? a,⟨rfl,a⟩,
H! a,B? a,
g? a,(Aa a Af),
M! a b,E! (Ab a) b,
B!,List V,
h?,Is "thing",
J!,(Ao U! rfl),
KB a b,AS C a p b,
B6! a b,J? a (.AZ (tv b)),
C! a b c,EU K a b c f fd,
R? a,⟨_,a,?_⟩,
D!,C? (λD_ A outer s hr=>?_),
d! a b c,An a b (Ak c),
j! a b,(E! a b),
KE,N! p,
Q!,(pv 2),
W? a,(a:Int),
I!,Txt K mg C DJ DY MI NW,
AT a,V.ref a,
D?,q.2.1,
w!,q.2.2,
K? a,t∈AC a,
XV a b,a (h! b),
q! a,H a=none,
O!,List Addr,
X!,q.1=t,
P! a,inClass (top 14) a,
B7! a b c d e f g h,As (pl:=_) a b c d e f .nil g h,
R!,List α,
KF a,(.BC (a V.ref)),
S!,KB H G,
V! a,inClass (top 23) a,
i?,[I?,"a","b"],
E?,Cd G ZV,
k!,G.A_+1,
At,Is "h",
Z!,Cf hr,
EP! a b c d,DH P w K mg base 1 a b c d,
X? a,V.int a,
x! a b c,J? a (b c),
g! a,F.JD a λvs H Q E h=>?_,
EQ! a,j! ZA a,
Ch,[I?],
KM,found++[t],
Y? a b c d,F! a b (c d),
B8!,g? G!,
ER! a b c d,FE P w K mg base 1 a b c d,
l! a,Gz F a λvs H Q E h=>?_,
NE,q.1≠t,
AV! a b c,XV a b=some c,
No,[I?,"b","weight"],
v!,B6! b tb,
ap a b,¬((a:Str)=b),
ES! a b,EP! f fd a b,
ET! a,E (W! a) none H,
j? a b,(a b).length,
y!,BI G,
be,J? b o,
Op,(Bj G.hand tb),
z! a,B9 (Ne.symm a),
A? a,EB K C a,
EU! a b,Done C p G H a b,
F?,(T!),
EV! a,λt=>L! a,
AW!,N! b,
G? a,(a V?).Nodup,
H?,Ok G n,
Eg! a b c d,F_.t (k:=tk a) b c (EQ! (Bb (d))),
B9! a b c,FE P w K mg base a f fd b c,
L?,List Int,
M?,List (Int×Addr),
N? a b,Y! ⟨a,b⟩,
O?,AO CW CH CP H p W,
bi a,Be G.AH tb (a),
Os a,vs=[KE,a],
Db a,some (W! a),
CA! a b c d,⟨_,rfl,p,C,a,_,_,rfl,b,T.cl,T.nT,Cp _,_,_,rfl,rfl,c,_,d,D5 _,?_⟩,
Eh! a b c,Ax (i:=a) b rfl (Or.inl rfl) c,
AX! a,Paired.length a,
EW! a,(a,NameKind.local),
PP,G.AU+1,
bn,λq:T2×Int=>q.1,
EX!,λq:T2×Addr×List T2=>q.1,
Rs,(pv 3),
S?,List (T2×Int),
T? a b c d,(a b c).length<=d,
AY!,Cm p W,
CB! a b c,((a/\ET! b)\/c),
CC!,Bj G.hand tb,
SB a b,ES! a (b C),
Ei! a b c d e,(B7! U! a b c d e Bp B8!),
EZ! a b c d e,(a b (by rfl) c d (g? e)),
bv,(Cq U! Ag D4),
ca,AC G.AH.map,
Z?,Y! k,
Ej! a b c,Eg! tb a b c,
a?,AW H as ts,
b? a,EU! a (Q .E_),
k? a,Ne.symm a,
l? a,DU.of a,
m?,x.2.1,
CD! a,λu=>L! a,
n?,(Am G (ts.take i)).AH.filter,
o?,Ab b3,
p?,List (List Key×V),
AZ! a,M! a e,
q? a,mg a=none,
Aa! a b c d,KB (upd H a (b c)) d,
r?,α->T2,
s?,hr.mono (am),
Ab! a b,AC a=b V?,
t?,B6! t th,
u?,DI 1 _,
Ac! a,∃z,F! cl.lookup a z,
v?,⟨rfl,rfl,rfl,rfl⟩,
EQ,l.1=n,
Ev,λq=>(tk q,V.bl true),
CE!,t.1=G.BL,
FB,Is "b",
FM,List (K×EO!),
FS a,a->Hp->Prop,
Ek!,(tk Q?),
El! a b c d,Ei! a b c HP d,
CF! a b c d,DM H a (W! b) (some (c d)),
ci,(Bn hl t),
GE a,SK p G H a,
CG! a,⟨_,a,λ_ z=>(AQ! z),λ_ _ z=>(AQ! z)⟩,
GM,[I?,"h","a","b"],
CH! a,(a::C0 σ caps),
Go a,(E (W! a) none H),
SC a b,a (h! b),
SL,ZL ..,
SZ,λq=>X? q.2,
Sc,q.1=th,
Ev!,List (Str×NameKind),
TD a b c,(Ar a (W! b) c),
Tk,By ?_,
Eb!,(Heap.SameBut.update ..),
Ec!,λq=>AT D?,
Ew!,G.AH++[(Q?,W? 0)],
T0,AM.mp nd,
Ed! a b,k _ a λb' o e h1 h2=>b,
UF a,Ej! a hb T!,
Ee! a b c,Au (xs:=a) (j:=b) c,
UV,CA! E' HJ E' HJ,
cr,(by simp[Cm]),
db a,b∈Cb a,
ga,{ G with hand:=CC! },
ii a b c,F! a b (KF c),
jp,K! h,
Em! a b,M! a (b _ _ e h1 h2),
En! b,B6! a b,
Eo! b,(Q?,a,b),
lc,AO CW C CP H p W,
Ep! a b c,ER! a b h? c,
o0,Bh H H',
pi,(q,G'),
re a,k _ _ (t (by simp[Cm])) a,
Eq! a b c,⟨_,rfl,p,C,dx,_,rfl,a,T.cl,b,c,?_⟩,
sB a b,R? (Ad (A3 a) b),
sK,(Ar "ticks" (K! 0) (Ar "made" (K! 0) (Ar "number" (K! n) []))),
Er! a,J? a (.BC (as.map V.ref)),
sw a,CB! (Zq W h) NH (∃q G,JX W h q G/\a),
ut a b,a p=some (.ins C dx b),
v4,DG K C "is_near" "House.is_near" Jw h? f1 aU,
v6,Fa K mg CW NH NI,
Ad! a b c,(Eh! a b c),
Ae! a,decide_eq_false a,
Af! a,[AT a],
Ag!,b∈AY!,
Ah!,G.hand++[Q?],
Ai! a,{ G with AH:=bi a },
Aj!,ys++[v],
Ak!,q.1∈R,
Al! a b,by have:=a;rw[b] at this;exact this,
Am! a b,(a (h! b)),
An!,N! q,
Ao!,.refl _,
Ap! a,⟨_,rfl,a⟩,
Aq! a b,R? (Ad a b),
Ar!,K? l.map,
As!,q! p,
At! a,Be G.AN tb (a),
Au! a b c,A5 a (W! b) c,
Av! a,a->Shared->Prop,
Aw!,(Ew!).map,
Ax! b c d,AV! b c (d,a,hl),
Ay!,Bh H H2,
Az! a,kp _ _ (t (by simp[Cm])) a,
A0!,AX! th,
A1!,AD rfl,
A2!,ts.take i,
wP a,Q (W! a) H',
wS a b,(a b).Pairwise IW,
wT a,H! ⟨_,Y! a⟩,
wp a b,Ap (λ_ _ e=>a _ _ e) b,
wv a,Y? a p .BC ys,
ww a,Ai G.AH tb+(a),
xL,l1++(n,t)::l2,
xz a b c d,DG K C a b c d f1 d1,
Es! a b,F! (a:Ev!).lookup y b,
AA!,(Ba hu J! G!),
AB!,ER! fH dH At (Eh CW C CP NH),
AC!,(i.at S).ob,
AD!,λ(q:T2×Addr×List T2)=>(tk q.1,V.ref D?),
AE!,λe'=>h2 (by rw[e'];simp[BI]),
AF!,Ea MH.fn T TW,
AG! a,DM.t (k:=tk th) a ht,
AH! a b,a (λz=>L! (z.1=q.1))=some b,
Ef! a b c d e f,(upd a b (.dT (putK (c d) Ek! (e f)))),
AI! a,∀b u,J? b u->b≠p->F! a b u,
AJ! a,(Ae (Gv rfl rfl a Hq)),
Et!,El! TW.cl MH.mt GH MH.bd,
AK! a b c d e f,⟨_,rfl,p,C,a,_,_,rfl,b,T.cl,c,d,_,rfl,e,_,rfl,f,?_⟩,
AL!,DG K C "need_in_hand" "House.need_in_hand" Ho h? f2 aT,
AM!,DG K CW "house" "World.house" Em At fH dH,
AN!,⟨_,rfl,p,dx,_,rfl,hp,Dp W ZV,_,rfl,p,h,W,rfl,S,?_⟩,
A3!,(a!),
A4! a,(λ_ _ _ _ _=>a),
A5!,(bn),
A6! a b,a (EV! b),
A7!,(Be G.AH tb v).map,
A8!,["weight"],
A9! a,let⟨dx,e⟩:=x.ob;⟨dx,a⟩,
BA!,i! ?_,
BB!,t∈w!,
BC!,G.AN.length<=500,
BD!,λu hu=>?_,
BE! a b c,by have:=a;rw[b,c] at this;exact this,
BF!,λx hx=>?_,
BG!,G.AH.length<=500,
BH!,Ai G.AH tb-wt,
BI! a,Ab (Aj e a),
BJ!,List (Str×V),
BK!,(W! a),
BL!,AC l.map,
BM! a,inClass (top 19) a,
BN!,decide_eq_true h,
BO! a,k.AZ _ _ a,
BP! a b c d,FE P w K mg base 2 a b c d,
BQ! a,(l.map a).Nodup,
BR!,q! b,
BS! a,H! ⟨a,k⟩,
BT!,(Bj hl tb),
BU! a,(AE.mp a).2,
BV! a,ap B3! a,
BW!,(ZL ..),
BX! a b,Ah (o:=.AZ a) b,
BY! a b c,Ah (o:=a (b V.ref)) c,
BZ! a b,B9! 3 a b,
Ba!,λq=>AT q.1,
Bb! a b c,(Ad a (Ad b (Ae (Ay c)))),
Bc!,Os (N! t),
Bd!,G.AH++[(Q?,0)],
Be! a,(Be G.AH tb (a)),
Bf! a b c d,(Bf (D3 (a hu b c)) d A4),
Bg! a,(Ad a (Ae bv)),
Bh!,vs=[KE],
Bi!,List (T2×Int×A!),
Bj!,(E2 hl tb),
Bk! a,(B6 hu J! G! a rfl),
Bl! a,d! h? h? a,
Bm! a,j? keys.filter (CD! a),
Bn! a b,(upd a p (.BC (b))),
Bo! a b,F! (E4 W).lookup (a:Str) (W! b),
Bp!,IF C H p d c ls,
Bq!,LR nx n ahead found R,
Br!,Str->Option Value,
Bs! a,λq=>Lq a q.1,
Bt! a b c,Dk a b (EV! c),
Bu!,(aG H tb),
Bv!,(ts.take i).filter,
Bw! a,E8 (G1:=a) (by simp[BI]) rfl rfl S1 k,
Bx! a b,∃m',m'<m/\W (i+1) m' a b,
By!,(upd H' aa (KF IA.map)),
Bz! a b,(.ins C a (Cc b)),
B0! a,OI λo' e=>by rw[a] at e;cases e;exact⟨λ_ z=>(AQ! z),λ_ _ z=>(AQ! z)⟩,
B1!,(upd H3 fa (A8 (KM))),
CJ!,(EX!),
Eu!,(as.map Value.ref).toArray,
CK!,v.1.toNat,
CL!,v.2.toNat,
CM! a,by rw[Ll,a];rfl,
CN! a,by rw[ZH,a];rfl,
CO! a,by rw[a,ZF];rfl,
CP!,b∉Bv p W,
CQ!,AR! AQ,
CR! a,if X! then a else q,
CS! a,{ G with holds:=Id G.holds ad a },
CT!,tb∈ca,
CU! a,∀{n:Nat} {ahead found R:A!},a,
CV!,u∉KM,
CW!,G.hand.length<=500,
CX!,hl.length<64,
CY!,{ G with AU:=PP },
CZ!,λ(q:T2×Int)=>(tk q.1,V.int q.2),
Ca!,λ(q:T2)=>(tk q,V.bl true),
Cb! a,show W? 0<a by decide,
Cc!,(Am G (ts.take i)).holds.filter,
Cd!,List (Addr×BX),
Ce!,List (Str×Addr),
Cf!,AC G.AN.map,
Cg!,h! NE,
Ch! a,inClass (top 21) a,
Ci!,decide_eq_false h,
Cj! a b,d! a Ch b,
Ck! a,(more.map a).Nodup,
Cl!,K? hl.map,
Cm! a,XV a NE,
Cn!,(Classical.propDecidable _),
Co! a,ap AP! a,
Cp! a b,(upd H a (KF b)),
Cq!,(ZB _ hu),
Cr! a b,B9! 2 a b,
Cs! a b,(Ae (K9 hu J! G! a b (λ_ _ _=>rfl))),
Ct!,ts[i]?=some t,
Cu! a,SB Ch a,
Cv! a,λz=>a (by rw[z];simp[BI]),
Cw! a c d,∀b o,F! a b o->c->F! d b o,
Cx!,AZ! hb,
Cy! a b c d,(Bf (Az a b c (A7 _)) d A4),
Cz! a,Ab! G.holds.map a,
C0!,⟨q,hq,z⟩,
C1!,Ac! y,
C2! a b,(H! a,N! b),
C3!,CG! e,
C4! a,(by show Ix a;decide),
C5! a,(by show a<1000;decide),
C6!,(Sum.inl n:Key),
C7! a,R? (Ae (Ay a)),
C8! a b,Ee! ts a b,
C9!,En! ta,
DA! a b,(upd H a (.dT (Fh b more))),
DB! a b,Eq! a b ?_,
DC!,Er! l,
DD! a,Inv X AA σ H a,
DE! a,AY.mpr λl hl=>a,
DF! a,hashInt (W? a),
DG! a b c,knd.keeps a b c Eb!,
DH!,X.A.units+64<cLine,
DI! a b,f _ _ a (Ne.symm b),
DJ!,(.AZ (JV.map V.ref)),
DK! a,x! d a l,
DL! a,∀b o,be->a->F! H' b o,
DM! a b,Aa! G.h A8 a b,
DN! a b,CF! G.o a V.int b,
DO!,CE!->K? G.AH.map,
DP!,(Dm U! Ds rfl),
DQ! a b c,Ed! (a b G.AU (k!)) (Em! h1 c),
DR!,G.holds++[Eo! []],
DS! a b,J? a (.dK (kvsOf b)),
DT! c d e f,FE P w K mg base c d e i? (f C DJ DY MI),
DU! a b c d,R? (Ad (Eh! a b c) d),
DV!,(as.eraseIdx j).map,
DW! a,[I?,"b",P?,a],
DX!,vs=[KE,AW!,K! wt],
DY! a,Ci (kvsOf ls) a,
DZ!,(upd H p (.ins C dx (E5 (c+1) d))),
Da! a,AO CW CH CP H' p a,
Db! a,wpAny (model prog w) A a Q E s,
Dc!,(λ_ H'=>Q .E_ H'),
Dd!,[t.1,t.2],
De!,[tb.1,tb.2],
Df!,q.1≠Q?,
Dg!,λ_=>V.bl true,
Dh! a b,F! mg a (W! b),
Di! c,d! i? i? c,
Dj! a,d! No No a,
Dk!,[(AS!,1)],
Dl! a b c d e,B7! U! T.cl a b c d Bp e,
Dm!,H! ⟨am,am⟩,
Dn!,(q.1::BI q.2),
Do!,(Aa G! (g? Q!)),
Dp!,(Aa Q! (g? Rs)),
Dq!,vs=[KE,N! a,AW!],
Dr!,Lf M2.fn T,
Ds!,Am G (ts.take i),
Dt!,A5 "made" (K! 0) (Ar "number" (K! n) []),
Du!,A5 "ticks" (K! 0) (Ar "made" (K! 0) (Ar "number" (K! n) [])),
Dv! a b,AV! a (q.1=tb) (tb,b),
Dw! a b,EZ! Bm Bs a CJ b,
Dx! a b c,a (k:=EX!) (f:=Ec!) b c,
Dy!,∀b o,be->∃o',F! H' b o',
Dz!,λq=>(tk (key q),val q),
D0! a b c d e,⟨_,rfl,_,a,b,c,d,e,?_⟩,
D1! b,tt (CH! (Db a)) H2 b,
D2! a b,(a o ne.symm).trans b,
D3! a b,EZ! Df a T.tuple DK b,
D4!,Ep! f2 aT (Kv C DJ),
D5! a b c d,a _ _ b (S.tup_ne c).1 (S.tup_ne d).2,
D6!,show OW.size-j=(OW.size-(j+1))+1 by lia,
D7!,(upd H G.h (A8 Op)),
D8! a b c,f _ _ a (Ne.symm b) (Ne.symm c),
D9! a b c,ZR (a (s:=b) c QT ?_),
EA!,A5 "number" (K! n) [],
EB!,L8 K mg C NL,
EC! d e,Es! [EW! a,EW! b,(c,d)] e,
ED!,F! H2 a (.AZ (tv t)),
EE!,Heap.SameBut d s.heap h',
EF! a b,step (o:=.dT []) Ac a b,
EG!,[V.int (wt-Hf wt),V.int (Hf wt)],
EH!,DG K C "need_near" "House.need_near" J3 h? f3 iF,
EI! a,R? (Ae (A3 (B7! Et! T.cl M1.mt G1 hr M1.bd Bp a))),
EJ! a b c d e f g,⟨_,rfl,_,rfl,p,C,a,_,_,rfl,b,T.cl,c,d,e,f,rfl,g,_,rfl,?_⟩,
EK! a b c d e,Y! ⟨a,_,rfl,p,dx,_,rfl,hp,E?,_,rfl,p,b,G,c,rfl,S,d,e⟩,
EL! a b c,⟨_,rfl,p,dx,_,rfl,hp,E?,_,rfl,p,a,G,b,rfl,S,c,?_⟩]
universe E
noncomputable def aG (H:Hp) (tb:T2):Value->Bool
 | .ref a=>@decide (B6! a tb) Cn!
 | _=>false
theorem Zb(h:En! t):aG H tb BK!=L! (t=tb):=by
 show @decide (B6! a tb) Cn!=_;by_cases e:t=tb;.rw[decide_eq_true e];exact @decide_eq_true _ Cn! (by rw[h,e])
 .rw[decide_eq_false e];refine @decide_eq_false _ Cn! λz=>e ?_;rw[h] at z;have z:tv t=tv tb:=HO.AZ.inj (ZO z);unfold tv at z;simp only[List.cons.injEq,V.int.injEq,and_true] at z;exact Prod.ext z.1 z.2
theorem yn:∀{as:O!} {ts:A!},a?->(as.map Value.ref).any Bu!=L! (tb∈ts)
 | _,_,.nil=>a!
 | _,t::ts,.cons r q=>by rw[AI,List.any_cons,Zb r,yn q];by_cases e:t=tb;(.rw[e];simp);.have:¬tb=t:=λz=>e z.symm;simp[e,this]
universe S
theorem Jhm(hu:A.units<cLine)(I:DD! s)(ha:En! t)(hb:v!):SeqAt.EqAt A s BK! (W! b) (aG H tb BK!):=by
 intro prog w E Q q;obtain⟨its,rv,it,_⟩:=I.tuple (CF.of (K:=X.K) ha);obtain⟨vB,PH,jt,_⟩:=I.tuple (CF.of (K:=X.K) hb);have i1:IntsAre its Dd!:=intsAre_of (ns:=Dd!) rv;have i2:IntsAre vB De!:=intsAre_of (ns:=De!) PH;refine wpAny_eqBool_tuple hu (Nt it (by simpa using i1)) (Nt jt (by simpa using i2)) ?_;rw[Zb ha] at q;have e:L! ((Dd!:L?)=De!)=L! (t=tb):=by by_cases e:t=tb;(.rw[e];simp);.have:¬(Dd!:L?)=De!:=λz=>e (by simp at z;exact Prod.ext z.1 z.2);rw[decide_eq_false e,Ae! this]
 rw[e];exact q
inductive xm(neg:Bool)(x:V)(y:V)(H:Hp)(Q:VK):Prop
 | mk (b l:Addr) (tb:T2) (as:O!) (ts:A!) (_:x=AW!) (_:y=N! l) (_:v!) (_:DC!) (_:a?) (_:Q (.bl (if neg then ! L! (tb∈ts) else L! (tb∈ts))) H)
theorem Qv(hu:DH!)(I:DD! s)(hb:v!)(hl:DC!)(th:a?) : s.heap.IsList l Eu!/\∀y,y∈Eu!->SeqAt.EqAt X.A.in1 s y (W! b) (aG H tb y):=by
 obtain⟨z,its,n,vl,gl⟩:=(show DN X.prog X.w H s.heap l (KF as.map) from I.DC l _ hl);have ei:=Gh vl;subst ei;refine⟨⟨_,gl,rfl,_,rfl⟩,λy hy=>?_⟩;have hy:y∈as.map Value.ref:=by simpa using hy
 obtain⟨a,ha,rfl⟩:=ZN hy;obtain⟨j,hj⟩:=CB.mp ha;obtain⟨t,ht⟩:=C8! j (by rw[<-A0!];exact(ZJ hj).1);exact Jhm (w? (X.A.units+1<cLine)) I (Aw th j a t hj ht) hb
theorem Hy(hu:DH!):QO X (compareOp .NotIn) (xm true):=by intro AA s σ H x y v u Q I rx ry h;obtain⟨b,l,tb,as,ts,rfl,rfl,hb,hl,th,q⟩:=h;cases rx;cases ry;obtain⟨a1,a2⟩:=Qv hu I hb hl th;refine SeqAt.notIn_listAt Bu! a1 a2 ⟨.bl _,H,I,rfl,?_⟩;rw[show(as.map Value.ref).toArray.any Bu!=(as.map Value.ref).any Bu! by simp,yn th];exact q
universe E
universe S
variable {prog:Program}{w:World}{A:Around}{R:Result->Shared->Prop}{s:Shared}{l:Addr}{items:Array Value}{n:Nat}{x:Value}
theorem Ot(e:Value->Bool)(hl:s.heap.get? l=some (seqObj "list" items n))(he:∀y,y∈items->SeqAt.EqAt A.in1 s y x (e y))(j:Nat)(hj:j<items.size)(hit:e items[j]=true)(RX:∀m (h:m<items.size),m<j->e items[m]=false)(hz:items.size<=sizeLine)(h:∀h' c,h'.get? l=some (seqObj "list" (items.eraseIdxIfInBounds j) c)->Heap.SameBut l s.heap h'->R (.ok (.ret .none)) U?) : ∀(k i:Nat),i+k=j->codeAny (model prog w) A (.builtin "list.remove.loop" ⟨[N! l,x,rawInt i],[]⟩) R s
 | 0,i,hk=>by (have hk:i=j:=T!);subst hk;refine J_ MeetsSeq.entry_remove_loop ?_;rw[HD FY _];refine ZR (m:=Builtin.List.listItems (W! l)) (WT hl rfl ?_);rw[show items[((i:Nat):Int).toNat]?=some items[i] by simp[hj]];refine ZR (he _ (Array.getElem_mem hj) prog w _ _ ?_);rw[hit];refine ZR (m:=Builtin.List.listUpdate (W! l) (·.eraseIdxIfInBounds ((i:Nat):Int).toNat)) (listUpdate_at hl rfl (ZS ?_) hz (BA (MeetsSeq.size_erased _ _) (FR hz)));exact h _ _ (IU hl _) Eb!
 | k+1,i,hk=>by (have hi:i<items.size:=T!);refine J_ MeetsSeq.entry_remove_loop ?_;rw[HD FY _];refine ZR (m:=Builtin.List.listItems (W! l)) (WT hl rfl ?_);rw[show items[((i:Nat):Int).toNat]?=some items[i] by simp[hi]];refine ZR (he _ (Array.getElem_mem hi) prog w _ _ ?_);rw[RX i hi (T!)];refine ZS ⟨JN FY _,?_⟩;have:=Ot e hl he j hj hit RX hz h k (i+1) F?;rw[show W? (i+1:Nat)=W? i+1 by lia] at this;exact this
universe E
theorem Rb(f:α->β)(xs:R!)(j:Nat):(xs.map f).eraseIdx j=(xs.eraseIdx j).map f:=Lj f xs j
universe S
inductive Jdw(x:V)(vs:B!)(H:Hp)(Q:VK):Prop
 | mk (l b:Addr) (tb:T2) (as:O!) (ts:A!) (j:Nat) (_:x=N! l) (_:vs=[AW!]) (_:v!) (_:DC!) (_:a?) (_:ts[j]?=some tb) (_:(∀m t,m<j->ts[m]?=some t->t≠tb)) (_:Q .E_ (Cp! l DV!))
theorem Pe(hu:DH!):cw X "list.remove" Jdw:=by
 intro AA s σ H x vs v us Q I rx rv h;obtain⟨l,b,tb,as,ts,j,rfl,rfl,hb,hl,th,hj,no,q⟩:=h;cases rx;obtain⟨u,rfl,ru⟩:=rv.one;cases ru;obtain⟨a1,a2⟩:=Qv hu I hb hl th;obtain⟨z,its,n,vl,gl⟩:=(show DN X.prog X.w H s.heap l (KF as.map) from I.DC l _ hl);have ei:=Gh vl;subst ei;have oJ:=A0!;have hjt:j<ts.length:=(ZJ hj).1;have sz:(as.map Value.ref).toArray.size=as.length:=a!
 have at_:∀m (h:m<(as.map Value.ref).toArray.size) t,ts[m]?=some t->aG H tb (as.map Value.ref).toArray[m]=L! (t=tb):=λm h t ht=>by obtain⟨a,ha⟩:=Ee! as m (c? sz h);(have e:(as.map Value.ref).toArray[m]=Value.ref a:=by have:=ZJ ha;simp[this.2]);rw[e];exact Zb (Aw th m a t ha ht)
 refine KS F.slot_list_remove ⟨_,gl,rfl⟩ F.entry_list_remove (F.args_list_remove_2 _ _) (S:=λA R s0=>A=X.A/\s0=s/\R=wants (EP X AA σ Q) X.xe) (λA R s0 hS=>?_) ⟨rfl,rfl,rfl⟩;obtain⟨rfl,rfl,rfl⟩:=hS;refine ZS ⟨JN FY _,Ot Bu! gl a2 j (B2! sz) ?_ (λm h hm=>?_) (by rw[sz];simpa using z) (λh' c g sb=>?_) j 0 F?⟩;.rw[at_ j (B2! sz) tb hj];simp
 .obtain⟨t,ht⟩:=C8! m F?;rw[at_ m h t ht];exact decide_eq_false (no m t hm ht)
 .refine⟨.E_,_,F9 (t':=s0.toks) (ob:=.BC (DV! V.ref)) I (j! hl True.intro) sb ⟨_,g⟩ ⟨?_,DV! Value.ref,c,Fo _,?_⟩,rfl,q⟩;(.rw[ZA];refine BA ?_ (by simpa using z);rw[List.length_eraseIdx];split<;>lia);.rw[g];(have e:((as.map Value.ref).toArray.eraseIdxIfInBounds j)=(DV! Value.ref).toArray:=by rw[<-Rb];simp);rw[e]
universe E
universe S
universe E
universe S
universe E
theorem xl:ap WF AO!:=ZV
def E5(c:Int)(d:Addr):BJ!:=Ar AO! (W! d) (Ar WF (K! c) [])
theorem We(c:Int)(d:Addr):E5 c d=([(WF,V.int c),(AO!,V.ref d)]:BJ!):=by grind [Ar,V,xl,E5]
theorem Fl(c:Int)(d:Addr):F! (E5 c d).lookup (WF:Str) (K! c):=by unfold E5;rw[Bc,AB xl,Bc,A1!]
theorem Fb(c:Int)(d:Addr):F! (E5 c d).lookup (AO!:Str) (W! d):=by unfold E5;rw[Bc,A1!]
theorem Dq(c:Int)(d:Addr){m:Str}(h1:¬m=AO!)(h2:¬m=WF):(E5 c d).lookup m=none:=by unfold E5;rw[Bc,AB h1,Bc,AB h2];all_goals rfl
theorem Jb5(c y:Int)(d:Addr):Ar WF (K! y) (E5 c d)=E5 y d:=by grind [We,V,Ar,E5]
def kvsOf(ls:M?):List (Key×V):=ls.map λl=>(Sum.inl l.1,V.ref l.2)
structure IF(C:Addr)(H:Hp)(p d:Addr)(c:Int)(ls:M?):Prop where
 ob:∃dx,ut H (E5 c d)
 dc:DS! d ls
 le:∀l∈ls,l.1<=c
 nd:G? ls.map
theorem IF.keep(x:Bp!)(h1:∀o,J? p o->F! H' p o)(h2:∀o,J? d o->F! H' d o):IF C H' p d c ls :=⟨A9! (h1 _ e),h2 _ x.dc,x.le,x.nd⟩
theorem IF.ne(x:Bp!):p≠d:=by obtain⟨dx,e⟩:=x.ob;exact O2 e x.dc (by intro z;cases z)
theorem Lm(ls:M?):j? kvsOf ls=ls.length:=ZA ..
theorem Ll:DY! (Sum.inl n)=(ls.find? λl=>L! EQ).map λl=>AT l.2:=by
 unfold Ci kvsOf;rw[LY,Option.map_map];congr 1;congr 1;funext l;show L! ((Sum.inl l.1:Key)=Sum.inl n)=L! EQ;by_cases e:EQ;.rw[e];simp
 .rw[decide_eq_false e,Ae! (λz=>e (Sum.inl.inj z))]
theorem Jjh(h:∀l∈ls,l.1≠n):DY! (Sum.inl n)=none:=CM! (DE! (WP (h l hl)))
theorem Xv{l1 l2:M?}{n:Int}{t:Addr}(nd:G? (xL).map):(xL).find? (λl=>L! EQ)=some (n,t):=by
 rw[ZF,AI] at nd;have h:∀l∈l1,¬EQ:=λl hl e=>by have:=(AK.mp nd).2.2 l.1 (BG hl) n BW!;exact this e
 rw[FU];have e1:l1.find? (λl=>L! EQ)=none:=DE! (WP (h l hl))
 rw[e1];simp
theorem X1(nd:G? (xL).map):Dt (kvsOf (xL)) (Sum.inl n)=kvsOf (l1++l2):=by
 rw[ZF,AI] at nd;have h1:∀l∈l1,¬EQ:=λl hl e=>(AK.mp nd).2.2 l.1 (BG hl) n BW! e;have h2:∀l∈l2,¬EQ:=λl hl e=>(AM.mp (AK.mp nd).2.1).1 (by have m:=BG (f:=λx:Int×Addr=>x.1) hl;rw[e] at m;exact m);have all:∀ls:M?,(∀l∈ls,¬EQ)->Dt (kvsOf ls) C6!=kvsOf ls:=λls h=>by refine Qb λm=>?_;unfold kvsOf at m;rw[AL] at m;obtain⟨l,hl,e⟩:=ZN m;exact h l hl (Sum.inl.inj e)
 unfold kvsOf;rw[ZF,AI,ZF];unfold Dt;rw[JA,CY];have e0:L! (((Sum.inl (n,t).1,V.ref (n,t).2):Key×V).1≠Sum.inl n)=false:=a!
 rw[e0];have a1:=all l1 h1;have a2:=all l2 h2;unfold Dt kvsOf at a1 a2;rw[a1,a2];rfl
theorem U1(h:∀l∈ls,l.1≠n):putK (kvsOf ls) C6! (V.ref t)=kvsOf (ls++[(n,t)]):=by rw[Ex _ (Jjh h)];unfold kvsOf;rw[ZF];rfl
structure FK where
 share:Int
 hs:Addr
 po:Addr
 iq:Addr
 fi:Addr
 en:Addr
 pd:Addr
 c:Int
 ls:M?
 qs:Cd!
 LD:M?
 JK:M?
 EN:M?
theorem Ib:ap d? P?:=ZV
theorem Kk:ap e? P?:=ZV
theorem Jt:ap e? d?:=ZV
theorem Mz:ap f? P?:=ZV
theorem Kl:ap f? d?:=ZV
theorem N9:ap f? e?:=ZV
theorem Ju:Co! P?:=ZV
theorem Ic:Co! d?:=ZV
theorem Km:Co! e?:=ZV
theorem M0:Co! f?:=ZV
theorem M7:BV! P?:=ZV
theorem Ko:BV! d?:=ZV
theorem Oa:BV! e?:=ZV
theorem Qu:BV! f?:=ZV
theorem M8:BV! AP!:=ZV
def E4(W:FK):BJ!:=[(P?,K! W.share),(d?,N! W.hs),(e?,N! W.po),(f?,N! W.iq),(AP!,N! W.fi),(B3!,N! W.en)]
theorem Ia(W:FK):F! (E4 W).lookup (P?:Str) (K! W.share):=by unfold E4;rw[G0]
theorem Du(W:FK):Bo! d? W.hs:=by unfold E4;rw[Br Ib,G0]
theorem El(W:FK):Bo! e? W.po:=by unfold E4;rw[Br Kk,Br Jt,G0]
theorem N8(W:FK):Bo! f? W.iq:=by unfold E4;rw[Br Mz,Br Kl,Br N9,G0]
theorem Jc4(W:FK):Bo! AP! W.fi:=by unfold E4;rw[Br Ju,Br Ic,Br Km,Br M0,G0]
theorem yj(W:FK):Bo! B3! W.en:=by unfold E4;rw[Br M7,Br Ko,Br Oa,Br Qu,Br M8,G0]
theorem Dp(W:FK)(h:([P?,d?,e?,f?,AP!,B3!]:List Str).contains m=false):(E4 W).lookup m=none:=by simp only[L_,Bool.or_eq_false_iff,DR] at h;obtain⟨h1,h2,h3,h4,h5,h6,_⟩:=h;unfold E4;rw[Br h1,Br h2,Br h3,Br h4,Br h5,Br h6];rfl
theorem Jik(W:FK):Ar B3! (W! W.en) (TD AP! W.fi (TD f? W.iq (TD e? W.po (TD d? W.hs (Ar P? (K! W.share) [])))))=E4 W:=by unfold E4;rw[Er];rw[z! Ib,Er];rw[z! Kk,z! Jt,Er];rw[z! Mz,z! Kl,z! N9,Er];rw[z! Ju,z! Ic,z! Km,z! M0,Er];rw[z! M7,z! Ko,z! Oa,z! Qu,z! M8,Er]
def Cb:Cd!->O!
 | []=>[]
 | q::l=>Dn!++Cb l
theorem G9:∀(l m:Cd!),Cb (l++m)=Cb l++Cb m
 | [],m=>rfl
 | q::l,m=>by show Dn!++Cb (l++m)=(Dn!++Cb l)++Cb m;rw[G9 l m,AQ]
theorem CU:∀{l:Cd!},db l↔∃q∈l,b=q.1\/b∈BI q.2
 | []=>⟨λh=>by simp[Cb] at h,λ⟨q,h,_⟩=>by simp at h⟩
 | q::l=>by show b∈Dn!++Cb l↔_;rw[K',BU,CU];constructor;(.rintro(h|⟨r,hr,h⟩);(.exact⟨q,SL,h⟩);.exact⟨r,ZD _ hr,h⟩);.rintro⟨r,hr,h⟩;rcases ZM hr with rfl|hr;(.exact Y! h);.exact H! ⟨r,hr,h⟩
def Cm(p:Addr)(W:FK):O!:=[p,W.hs,W.po,W.pd,W.iq,W.fi,W.en]
def Bv(p:Addr)(W:FK):O!:=AY!++Cb W.qs
structure AO(CW CH CP:Addr)(H:Hp)(p:Addr)(W:FK):Prop where
 ob:∃dx,H p=some (.ins CW dx (E4 W))
 hs:J? W.hs (.BC (W.qs.map Ba!))
 ho:∀q∈W.qs,AS CH H q.1 q.2
 po:IF CP H W.po W.pd W.c W.ls
 iq:DS! W.iq W.LD
 fi:DS! W.fi W.JK
 en:DS! W.en W.EN
 nd:(Bv p W).Nodup
def GV(p:Addr)(W:FK)(H H':Hp):Prop:=DL! CP!
universe S
variable {CW CH CP p:Addr}{H H':Hp}{W:FK}
theorem AO.keep(x:O?)(k:∀b o,b∈Bv p W->be->F! H' b o):Da! W:=by have t:∀{b},Ag!->b∈Bv p W:=λh=>ZB _ h;refine⟨A9! (re e),re x.hs,i! ((x.ho q hq).keep λb o hb e=>k _ _ (ZC _ (CU.mpr ⟨q,hq,hb⟩)) e),x.po.keep (λo e=>re e) (λo e=>re e),re x.iq,re x.fi,re x.en,x.nd⟩
theorem AO.same(x:O?)(s:o0):Da! W:=x.keep λb o _ e=>s b o e
theorem AO.some_at(x:O?)(hb:b∈Bv p W):∃o,be/\(∀xs,o≠.AZ xs)/\∀ob u,o≠.GF ob u:=by
 rcases ZI hb with hb|hb;.simp only[Cm,BU,DD,JM] at hb;rcases hb with rfl|rfl|rfl|rfl|rfl|rfl|rfl;(.obtain⟨dx,e⟩:=x.ob;exact C3!);(.exact CG! x.hs);(.obtain⟨dx,e⟩:=x.po.ob;exact C3!);(.exact CG! x.po.dc);(.exact CG! x.iq);(.exact CG! x.fi);.exact CG! x.en
 .obtain⟨q,hq,hb⟩:=CU.mp hb;rcases hb with rfl|hb;(.obtain⟨dx,e⟩:=(x.ho q hq).ob;exact C3!);.obtain⟨kvs,e⟩:=(x.ho q hq).LQ hb;exact C3!
theorem AO.YK(x:O?)(e:J? b (.AZ xs)):CP!:=λm=>by obtain⟨o,e',h,_⟩:=x.some_at m;rw[e] at e';cases e';exact h _ rfl
theorem AO.NN(x:O?)(e:BR!):CP!:=λm=>by obtain⟨o,e',_⟩:=x.some_at m;rw[e] at e';cases e'
theorem GV.DL(x:O?)(f:GV p W H H'):BW H H' :=⟨λa xs e=>f a _ e (x.YK e),λa ob u e=>f a _ e λm=>by obtain⟨o,e',_,h⟩:=x.some_at m;rw[e] at e';cases e';exact h _ _ rfl⟩
theorem Jja{A X X' B:O!}(h:(A++(X++B)).Nodup)(hx:X'.Nodup)(k:∀b∈X',b∈X\/(b∉A/\b∉B)):(A++(X'++B)).Nodup:=by
 obtain⟨a1,a2,a3⟩:=AK.mp h;obtain⟨b1,b2,b3⟩:=AK.mp a2;refine AK.mpr ⟨a1,AK.mpr ⟨hx,b2,λy hy z hz e=>?_⟩,λy hy z hz e=>?_⟩;.rcases k y hy with h|h;(.exact b3 y h z hz e);.exact h.2 (e▸hz)
 .rcases ZI hz with hz|hz;(.rcases k z hz with h|h;(.exact a3 y hy z (ZB _ h) e);.exact h.1 (e▸hy));.exact a3 y hy z (ZC _ hz) e
theorem AO.step(x:O?){i:Nat}{q:Addr}{G G':BX}(hi:W.qs[i]?=some (q,G))(S:AS CH H' q G')(f:SK q G H H')(nw:∀b∈BI G',b∈y!\/BR!) : Da! { W with qs:=W.qs.set i pi }/\GV p W H H':=by
 obtain⟨JU,_⟩:=ZJ hi;have e1:W.qs=W.qs.take i++(q,G)::W.qs.drop (i+1):=by have:=EK i W.qs;rw[<-this];congr 1;(.rw[EK]);.rw[EK];exact(List.drop_eq_getElem?_toList_append (l:=W.qs) (i:=i)).trans (AR! hi)
 have e2:W.qs.set i pi=W.qs.take i++pi::W.qs.drop (i+1):=by rw[List.set_eq_take_append_cons_drop,AD JU]
 generalize W.qs.take i=l1 at e1 e2;generalize W.qs.drop (i+1)=l2 at e1 e2;have hm:(q,G)∈W.qs:=ZP hi;have nd:=x.nd;unfold Bv at nd;rw[e1,G9] at nd;have eA:AY!++(Cb l1++Cb ((q,G)::l2))=(AY!++Cb l1)++((q::y!)++Cb l2):=CQ!
 rw[eA] at nd;obtain⟨a1,a2,a3⟩:=AK.mp nd;obtain⟨b1,b2,b3⟩:=AK.mp a2;have apart:∀b,(Ag!\/db l1\/db l2)->b≠q/\b∉y!:=λb hb=>by (have no:b∉q::y!:=λm=>by rcases hb with hb|hb|hb;(.exact a3 b (ZB _ hb) b (ZB _ m) rfl);(.exact a3 b (ZC _ hb) b (ZB _ m) rfl);.exact b3 b m b hb rfl);exact⟨λz=>no (E! z SL),λz=>no (ZD _ z)⟩
 have kp:∀b o,(Ag!\/db l1\/db l2)->be->F! H' b o:=λb o hb e=>f b o e (apart b hb).1 (apart b hb).2;have t:∀{b},Ag!->Ag!\/db l1\/db l2:=λh=>Y! h;have hsm:W.qs.map (Ba!)=(W.qs.set i pi).map Ba!:=by rw[e2,e1,ZF,ZF];rfl
 refine⟨⟨A9! (Az! e),?_,λr hr=>?_,x.po.keep (λo e=>Az! e) (λo e=>Az! e),Az! x.iq,Az! x.fi,Az! x.en,?_⟩,x? ?_⟩;.have:=kp _ _ (t (b:=W.hs) cr) x.hs;rw[hsm] at this;exact this
 .have hr:r∈W.qs.set i pi:=hr;rw[e2] at hr;(have uU:r∈l1\/r∈l2->AS CH H' r.1 r.2:=λh=>by (have hW:r∈W.qs:=E! e1 (h.elim (λz=>ZB _ z) λz=>ZC _ (ZD _ z)));exact(x.ho r hW).keep λb o hb e=>kp b o (h.elim (λz=>H! (o! (CU.mpr ⟨r,z,hb⟩))) λz=>H! (B? (CU.mpr ⟨r,z,hb⟩))) e);rcases ZI hr with hr|hr;(.exact uU (o! hr));.rcases ZM hr with rfl|hr;(.exact S);.exact uU (B? hr)
 .show(AY!++Cb (W.qs.set i pi)).Nodup;rw[e2,G9];(have eB:AY!++(Cb l1++Cb (pi::l2))=(AY!++Cb l1)++((q::BI G')++Cb l2):=CQ!);rw[eB];refine Jja nd (AM.mpr ⟨λm=>S.PR m rfl,S.nd⟩) λb hb=>?_;rcases ZM hb with rfl|hb;(.exact o! (SL));.rcases nw b hb with h|h;(.exact Y! (ZD _ h));.have no:=x.NN h;unfold Bv at no;rw[e1,G9] at no;refine H! ⟨λm=>no ?_,λm=>no ?_⟩;(.rcases ZI m with m|m;(.exact ZB _ m);.exact ZC _ (ZB _ m));.exact ZC _ (ZC _ (ZC (q::y!) m))
 .have H_:b∉Cb W.qs:=λm=>hb (ZC _ m);exact f b o e (λz=>H_ (CU.mpr ⟨_,hm,Y! z⟩)) λz=>H_ (CU.mpr ⟨_,hm,H! z⟩)
theorem AO.aq(x:O?):(W.po≠W.pd/\W.po≠p/\W.po≠W.hs/\W.po≠W.iq/\W.po≠W.fi/\W.po≠W.en)/\(W.pd≠p/\W.pd≠W.hs/\W.pd≠W.iq/\W.pd≠W.fi/\W.pd≠W.en)/\(W.iq≠p/\W.iq≠W.hs/\W.iq≠W.fi/\W.iq≠W.en)/\(W.fi≠p/\W.fi≠W.hs/\W.fi≠W.en)/\(W.en≠p/\W.en≠W.hs):=by have nd:=(AK.mp x.nd).1;simp only[Cm,AM,BU,DD,JM,not_or,CK,and_true,not_false_eq_true] at nd;obtain⟨⟨a1,a2,a3,a4,a5,a6⟩,⟨b1,b2,b3,b4,b5⟩,⟨c1,c2,c3,c4⟩,⟨d1,d2,d3⟩,⟨e1,e2⟩,f1⟩:=nd;exact⟨⟨c1,k? a2,k? b1,c2,c3,c4⟩,⟨k? a3,k? b2,d1,d2,d3⟩,⟨k? a4,k? b3,e1,e2⟩,⟨k? a5,k? b4,f1⟩,⟨k? a6,k? b5⟩⟩
theorem AO.IG(x:O?)(hb:Ag!)(hq:q∈W.qs):b≠q.1/\b∉BI q.2:=by have h:=(AK.mp x.nd).2.2 b hb;exact⟨λz=>h _ (CU.mpr ⟨q,hq,Y! rfl⟩) z,λz=>h _ (CU.mpr ⟨q,hq,H! z⟩) rfl⟩
theorem AO.JF(x:O?)(S:IF CP H' W.po W.pd c ls)(f:∀b o,be->b≠W.po->b≠W.pd->F! H' b o) : Da! { W with c:=c,ls:=ls }/\GV p W H H':=by
 obtain⟨⟨a1,a2,a3,a4,a5,a6⟩,⟨b1,b2,b3,b4,b5⟩,_⟩:=x.aq;refine⟨⟨A9! (f _ _ e (Ne.symm a2) (Ne.symm b1)),D8! x.hs a3 b2,i! ((x.ho q hq).keep λb o hb e=>f b o e ?_ ?_),S,D8! x.iq a4 b3,D8! x.fi a5 b4,D8! x.en a6 b5,x.nd⟩,x? (f b o e ?_ ?_)⟩;.rintro rfl;have h:=x.IG (b:=W.po) cr hq;exact hb.elim h.1 h.2
 .rintro rfl;have h:=x.IG (b:=W.pd) cr hq;exact hb.elim h.1 h.2
 .rintro rfl;exact hb (ZB _ cr)
 .rintro rfl;exact hb (ZB _ cr)
theorem AO.rp(x:O?):AO CW CH CP (upd H W.iq (.dK (kvsOf l))) p { W with LD:=l }/\GV p W H (upd H W.iq (.dK (kvsOf l))):=by
 obtain⟨⟨a1,a2,a3,a4,a5,a6⟩,⟨b1,b2,b3,b4,b5⟩,⟨c1,c2,c3,c4⟩,_⟩:=x.aq;have f:∀b o,be->b≠W.iq->F! (upd H W.iq (.dK (kvsOf l))) b o:=λb o e h=>AZ! h
 refine⟨⟨A9! (DI! e c1),DI! x.hs c2,i! ((x.ho q hq).keep λb o hb e=>f b o e ?_),x.po.keep (λo e=>f _ _ e a4) (λo e=>f _ _ e b3),Ac,DI! x.fi c3,DI! x.en c4,x.nd⟩,x? (f b o e ?_)⟩;.rintro rfl;have h:=x.IG (b:=W.iq) cr hq;exact hb.elim h.1 h.2
 .rintro rfl;exact hb (ZB _ cr)
universe E
def Zq(W:FK)(h:Int):Prop:=h<0\/W? W.qs.length<=h
def JX(W:FK)(h:Int)(q:Addr)(G:BX):Prop:=0<=h/\W.qs[h.toNat]?=some (q,G)
theorem JX.at(i:JX W h q G)(x:O?):AS CH H q G:=x.ho (q,G) (ZP i.2)
theorem JX.lt(i:JX W h q G):0<=h/\h<W.qs.length:=by obtain⟨z,_⟩:=ZJ i.2;have:=i.1;exact⟨i.1,T!⟩
theorem JX.QI(i:JX W h q G):L2.QI (W.qs.map Ba!) h=some (V.ref q):=A9 i.1 (CN! i.2)
theorem lookup_mem:∀{l:Ev!},F! l.lookup y k->(y,k)∈l
 | [],h=>by simp at h
 | (a,b)::l,h=>by rw[OD] at h;by_cases e:y=a;(·(have q1:(y==a)=true:=E! e (beq_self_eq_true a));rw[q1] at h;have h:b=k:=ZO h;rw[e,h];exact SL);.have q1:(y==a)=false:=DR.mpr e;rw[q1] at h;exact ZD _ (lookup_mem h)
theorem Mr{l:Ev!}{cl:Ce!}{y:Str}(hc:∀p∈l,p.2=.cell\/p.2=.free->Ac! p.1)(h:F! l.lookup y .cell\/F! l.lookup y .free):C1!:=by
 rcases h with h|h;.exact hc _ (lookup_mem h) (o! rfl)
 .exact hc _ (lookup_mem h) (B? rfl)
theorem Jmz{a b c:Str}{cl:Ce!}{y:Str}(h:EC! NameKind.globalImplicit .cell\/EC! NameKind.globalImplicit .free):C1! :=Mr (λp hp hk=>by simp only[BU,DD,JM] at hp;rcases hp with rfl|rfl|rfl<;>rcases hk with hk|hk<;>cases hk) h
theorem Jm0{a b c d e f:Str}{k1 k2 k3 k4:NameKind}{cl:Ce!}{y:Str}(hc:Ac! c)(hd:Ac! d)(he:Ac! e)(hf:Ac! f)(h:Es! [EW! a,EW! b,(c,k1),(d,k2),(e,k3),(f,k4)] .cell\/Es! [EW! a,EW! b,(c,k1),(d,k2),(e,k3),(f,k4)] .free):C1! :=Mr (λp hp hk=>by simp only[BU,DD,JM] at hp;rcases hp with rfl|rfl|rfl|rfl|rfl|rfl;(.rcases hk with hk|hk<;>cases hk);(.rcases hk with hk|hk<;>cases hk);(.exact hc);(.exact hd);(.exact he);.exact hf) h
universe S
universe E
structure Lies(H:Hp)(L:O!):Prop where
 nd:L.Nodup
 all:∀b∈L,∃o,be
theorem Lies.keep(x:Lies H L)(k:Dy!):Lies H' L:=⟨x.nd,λb hb=>let⟨o,e⟩:=x.all b hb;k b o e⟩
theorem Lies.new(x:Lies H L)(h:BR!)(h':∃o,F! H' b o)(k:Dy!):Lies H' (b::L) :=⟨AM.mpr ⟨λm=>(by obtain⟨o,e⟩:=x.all b m;rw[h] at e;cases e),x.nd⟩,λc hc=>by rcases ZM hc with rfl|hc;(.exact h');.obtain⟨o,e⟩:=x.all c hc;exact k c o e⟩
universe S
universe E
theorem Lies.add(x:Lies H L)(nd:X.Nodup)(h:∀b∈X,BR!)(h':∀b∈X,∃o,F! H' b o)(k:Dy!):Lies H' (X++L) :=⟨AK.mpr ⟨nd,x.nd,λb hb c hc e=>by obtain⟨o,z⟩:=x.all c hc;rw[<-e,h b hb] at z;cases z⟩,λc hc=>by rcases ZI hc with hc|hc;(.exact h' c hc);.obtain⟨o,e⟩:=x.all c hc;exact k c o e⟩
theorem Lies.perm(x:Lies H L)(p:L.Perm L'):Lies H L':=⟨p.nodup_iff.mp x.nd,λb hb=>x.all b (p.mem_iff.mpr hb)⟩
def Kp(p:Addr)(H H':Hp):Prop:=DL! (b≠p)
theorem Kp.trans(a:Kp p H H1)(b:Kp p H1 H2):Kp p H H2:=λc o e h=>b c o (a c o e h) h
theorem gH:Kp p H (upd H p o):=λb o' e h=>AZ! h
theorem Kp.ex(k:Kp p H H')(hp:∃o,F! H' p o):Dy!:=IN (by by_cases z:b=p;(.rw[z];exact hp);.exact⟨o,k b o e z⟩)
theorem Jkp(h:¬x=y):L! (V.str x=V.str y)=false:=Ae! (λz=>h (V.str.inj z))
theorem IV(k:tb D σ H)(hv:σ[i]?=some (some (.str wd)):=by rfl)(ne:¬wd=c:=by decide +kernel):Sm (Fi (NS UP (Bx i) (tC (.str c)))) ta tb D σ H:=⟨_,hv,rfl,_,rfl,E! (Jkp ne) (By k)⟩
theorem Kj(k:ta D σ H)(hv:σ[i]?=some (some (.str c)):=by rfl):Sm (Fi (NS UP (Bx i) (tC (.str c)))) ta tb D σ H:=⟨_,hv,rfl,_,rfl,E! (decide_eq_true rfl) (B7 k)⟩
theorem AO.RK(x:O?)(e:J? b (.BC xs))(h:b≠W.hs):CP!:=λhb=>by rcases ZI hb with hb|hb;(.simp only[Cm,BU,DD,JM] at hb;rcases hb with rfl|rfl|rfl|rfl|rfl|rfl|rfl;(.obtain⟨dx,e'⟩:=x.ob;rw[e] at e';cases e');(.exact h rfl);(.obtain⟨dx,e'⟩:=x.po.ob;rw[e] at e';cases e');(.have e':=x.po.dc;rw[e] at e';cases e');(.have e':=x.iq;rw[e] at e';cases e');(.have e':=x.fi;rw[e] at e';cases e');.have e':=x.en;rw[e] at e';cases e');.obtain⟨q,hq,hb⟩:=CU.mp hb;have ne:=(x.ho q hq).RL e;exact hb.elim ne.1 ne.2
theorem fY(h:¬a=b):¬((Sum.inr a:Key)=Sum.inr b):=λz=>h (Sum.inr.inj z)
def Jk2(G:BX):List (Key×V):=[(H! "house",K! G.BL),C2! y? G.h,C2! AS! G.l,C2! "outs" G.o,C2! "records" G.r,(H! "made",K! G.AU),(H! "ticks",K! G.A_)]
inductive LstAt(H:Hp)(b:Addr)(ts:A!):Prop
 | mk (as:O!) (_:Er! b) (_:a?)
theorem AW.keep(k:BW H H')(x:a?):AW H' as ts:=wp k.AZ x
structure my(H:Hp)(p:Addr)(G:BX):Prop where
 ob:J? p (.dK (Jk2 G))
 dh:LstAt H G.h G.hand
 dO:x! G.o C7 G.AH
 dl:x! G.l C1 G.holds
 dr:x! G.r C7 G.AN
 hl:AT! (LstAt H D? w!)
 nd:(p::y!).Nodup
universe S
variable {p:Addr}{H H':Hp}{G:BX}
theorem F0{α β:Type}{f:α->β}:∀{l:R!},BQ! f->∀{a b:α},a∈l->b∈l->f a=f b->a=b
 | [],_,_,_,ha,_,_=>AQ! ha
 | x::l,nd,a,b,ha,hb,e=>by have nd:=T0;rcases ZM ha with ha|ha<;>rcases ZM hb with hb|hb;(.rw[ha,hb]);(.exact absurd (AF.mpr ⟨b,hb,by rw[<-e,ha]⟩) nd.1);(.exact absurd (AF.mpr ⟨a,ha,by rw[e,hb]⟩) nd.1);.exact F0 nd.2 ha hb e
universe E
theorem Ry(nd:ts.Nodup)(h:ts[j]?=some t):ts.eraseIdx j=E2 ts t:=by induction ts generalizing j with | nil=>simp at h | cons x ts ih =>have KA:=T0;cases j with | zero =>(have e:x=t:=B4!);subst e;show ts=E2 (x::ts) x;unfold E2;rw[CY,AB (a!)];exact(EI.mpr λy hy=>by simp;exact λz=>KA.1 (z▸hy)).symm | succ j =>(have h:ts[j]?=some t:=B4!);have ne:x≠t:=λz=>KA.1 (z▸ZP h);show x::ts.eraseIdx j=E2 (x::ts) t;rw[ih KA.2 h];unfold E2;rw[CY,AD (by simpa using ne)]
theorem Wd{ts:A!}(nd:ts.Nodup){t:T2}(h:t∈ts):∃j:Nat,ts[j]?=some t/\∀(m:Nat)(u:T2),m<j->ts[m]?=some u->u≠t:=by induction ts with | nil=>cases h | cons x ts ih =>by_cases e:x=t;(.exact⟨0,by simp[e],λm u hm=>T!⟩);.have KA:=T0;(have h:t∈ts:=by rcases ZM h with h|h;(.exact absurd h.symm e);.exact h);obtain⟨j,h1,h2⟩:=ih KA.2 h;refine⟨j+1,by simpa using h1,λm u hm hu=>?_⟩;cases m with | zero =>(have:x=u:=EM!);rw[<-this];exact e | succ m=>exact h2 m u F? (EM!)
theorem Ma:∀{as:O!} {ts:A!},a?->∀j,AW H (as.eraseIdx j) (ts.eraseIdx j)
 | _,_,.nil,_=>.nil
 | _,_,.cons r t,0=>t
 | _,_,.cons r t,j+1=>.cons r (Ma t j)
abbrev HL:=List (T2×Addr×A!)
def vM(l:HL):List (T2×A!):=l.map λq=>(q.1,w!)
def Cw(l:HL)(t:T2)(h:A!):HL:=l.map λq=>CR! (q.1,D?,h)
def Bn(l:HL)(t:T2):A!:=((l.find? (h! X!)).map (·.2.2)).getD []
theorem Ky(l:HL)(t:T2)(h:A!):(Cw l t h).map (·.2.1)=l.map (·.2.1):=by
 unfold Cw;rw[AL];refine BM λq _=>?_;show(CR! (q.1,D?,h)).2.1=D?;by_cases e:X!;.rw[AD e]
 .rw[AB e]
theorem Jdo(l:HL)(t:T2)(h:A!):Ab! (Cw l t h).map l.map:=by
 unfold Cw;rw[AL];refine BM λq _=>?_;show(CR! (q.1,D?,h)).1=q.1;by_cases e:X!;.rw[AD e]
 .rw[AB e]
theorem Lh(m:q∈Cw l t h):(X!/\w!=h)\/q∈l:=by
 obtain⟨q0,h0,e⟩:=ZN m;by_cases c:q0.1=t;.rw[AD c] at e;subst e;exact N? c rfl
 .rw[AB c] at e;subst e;exact H! h0
theorem Jhi(f:Ax! l.find? X! t):Bn l t=hl:=by unfold Bn;rw[f];rfl
theorem N5(h:Ar!):∃a,AV! l.find? X! (t,a,Bn l t):=by cases e:SC l.find? X! with | none =>obtain⟨q,hq,e2⟩:=ZN h;have:=AY.mp e q hq;exact absurd e2 (by simpa using this) | some q =>(have h1:X!:=B5! (DO e));refine⟨D?,?_⟩;(have:Bn l t=w!:=by unfold Bn;rw[e];rfl);rw[this,<-h1]
theorem Q2(ka:BQ! (·.2.1))(kt:G? l.map)(f:Ax! l.find? X! t)(h:A!):Id l a h=Cw l t h:=by
 have m:=AJ f;unfold Id Cw;refine BM BA!;by_cases e:X!;.have:=F0 kt hq m e;rw[this,A1!,A1!]
 .have:¬D?=a:=λz=>e (by rw[F0 ka hq m z]);rw[AB this,AB e]
structure Ok(G:BX)(n:Nat):Prop where
 hn:G.hand.Nodup
 hz:G.hand.length<=n
 on:G? G.AH.map
 oz:G.AH.length<=n
 ke:Cz! G.AH.map
 rn:G? G.AN.map
 rz:G.AN.length<=n
 ln:AT! (q.2.2.Nodup/\q.2.2.length<=n)
 new:∀t∈ca,CE!/\t.2<G.AU
 hk:EN! DO!
 lk:AT! (∀t∈w!,DO!)
 rk:∀t∈Cf!,IR t.1
theorem Ok.mono(x:H?)(h:n<=m):Ok G m :=⟨x.hn,BA x.hz h,x.on,BA x.oz h,x.ke,x.rn,BA x.rz h,i! ⟨(x.ln q hq).1,BA (x.ln q hq).2 h⟩,x.new,x.hk,x.lk,x.rk⟩
def IM(G:BX):BX:={ G with A_:=k! }
def UR(G:BX)(a:Addr):BX:={ G with AU:=PP,hand:=Ah!,AH:=Bd!,holds:=DR! }
theorem DQ:u∈Bj l t↔u∈l\/u=t:=by
 unfold Bj;by_cases h:t∈l;.rw[AD h];exact⟨o!,λz=>z.elim id λz=>E! z h⟩
 .rw[AB h];simp
theorem IH:u∈E2 l t↔u∈l/\u≠t:=by unfold E2;rw[AE];simp
theorem O4(t:T2)(h:l.Nodup):(Bj l t).Nodup:=by
 unfold Bj;by_cases e:t∈l;.rw[AD e];exact h
 .rw[AB e];exact F7 h e
theorem G7(l:A!)(t:T2):(Bj l t).length<=l.length+1:=by
 unfold Bj;by_cases e:t∈l;.rw[AD e];lia
 .rw[AB e];simp
universe S
theorem Ok.IM(x:H?):Ok (IM G) n:=⟨x.hn,x.hz,x.on,x.oz,x.ke,x.rn,x.rz,x.ln,x.new,x.hk,x.lk,x.rk⟩
theorem Ok.hand(x:H?)(h1:l.Nodup)(h2:l.length<=n)(h3:∀t∈l,DO!):Ok { G with hand:=l } n:=⟨h1,h2,x.on,x.oz,x.ke,x.rn,x.rz,x.ln,x.new,h3,x.lk,x.rk⟩
theorem Ok.holds(x:H?)(h1:l.Nodup)(h2:l.length<=n)(h3:∀t∈l,DO!):Ok { G with holds:=Cw G.holds t l } n:=by
 refine⟨x.hn,x.hz,x.on,x.oz,(Jdo ..).trans x.ke,x.rn,x.rz,BA!,x.new,x.hk,BA!,x.rk⟩;.rcases Lh hq with⟨_,e⟩|hq;(.rw[e];exact⟨h1,h2⟩);.exact x.ln q hq
 .rcases Lh hq with⟨_,e⟩|hq;(.rw[e];exact h3);.exact x.lk q hq
theorem Ok.UR(x:H?)(a:Addr):Ok (UR G a) (n+1):=by
 have nw:Q?∉ca:=λm=>by have:=(x.new _ m).2;exact absurd this (w? (¬G.AU<G.AU))
 have eo:AC Aw!=ca++[Q?]:=AR! ZF
 refine⟨?_,?_,?_,?_,?_,x.rn,by have:=x.rz;show G.AN.length<=n+1;lia,BA!,?_,?_,?_,x.rk⟩;.exact F7 x.hn λm=>nw (x.hk _ m rfl)
 .show(Ah!).length<=n+1;rw[ZE];have:=x.hz;show G.hand.length+1<=n+1;lia
 .show G? Aw!;rw[eo];exact F7 x.on nw
 .show(Ew!).length<=n+1;rw[ZE];have:=x.oz;show G.AH.length+1<=n+1;lia
 .show(G.holds++[Eo! ([]:A!)]).map (λ(q:T2×Addr×List T2)=>q.1)=Aw! V?;rw[eo,ZF,x.ke];rfl
 .rcases ZI hq with hq|hq;(.exact⟨(x.ln q hq).1,FR (x.ln q hq).2⟩);·(have:q=Eo! []:=by simpa using hq);rw[this];exact⟨CK,BE _⟩
 .intro t ht;have ht:K? Aw!:=ht;show CE!/\t.2<PP;rw[eo] at ht;rcases ZI ht with ht|ht;(.have:=x.new t ht;exact⟨this.1,by have:=this.2;lia⟩);·(have:t=Q?:=by simpa using ht);rw[this];exact C? (w? (G.AU<PP))
 .intro t ht e;show K? Aw!;rw[eo];rcases ZI ht with ht|ht;(.exact ZB _ (x.hk t ht e));.exact ZC _ ht
 .intro q hq t ht e;show K? Aw!;rw[eo];rcases ZI hq with hq|hq;(.exact ZB _ (x.lk q hq t ht e));·(have:q=Eo! []:=by simpa using hq);rw[this] at ht;cases ht
theorem Ok.fresh(x:H?):(EN! (t≠Q?))/\(∀q∈G.AH,Df!)/\AT! Df!:=by
 have nw:Q?∉ca:=λm=>by have:=(x.new _ m).2;exact absurd this (w? (¬G.AU<G.AU))
 refine⟨λt ht e=>nw (c? e (x.hk t ht (by rw[e]))),λq hq e=>nw (c? e (BG hq)),λq hq e=>nw (by rw[<-e,<-x.ke];exact BG hq)⟩
theorem Ok.OM(x:H?):G.holds.length<=n:=by have:=congrArg List.length x.ke;rw[ZA,ZA] at this;rw[this];exact x.oz
theorem Ok.get(x:H?)(t:T2):(Bn G.holds t).Nodup/\(Bn G.holds t).length<=n/\∀u∈Bn G.holds t,u.1=G.BL->u∈ca:=by unfold Bn;cases e:SC G.holds.find? X! with | none=>exact⟨CK,BE _,λu hu=>AQ! hu⟩ | some q =>have m:=AJ e;exact⟨(x.ln q m).1,(x.ln q m).2,x.lk q m⟩
theorem Ok.find(x:H?)(h1:t∈G.hand)(h2:CE!):∃a,AV! G.holds.find? X! (t,a,Bn G.holds t):=N5 (E! x.ke (x.hk t h1 h2))
universe E
def Ai(l:S?)(t:T2):Int:=((l.find? (h! X!)).map (·.2)).getD 0
theorem Gu(l:S?)(t:T2)(v:Int):AC (Be l t v).map=z? Ar! BL! (BL!++[t]):=by
 unfold Be;by_cases h:Ar!;.rw[AD h,AD h,AL];refine BM λq _=>?_;show(CR! (q.1,v)).1=q.1;by_cases e:X!;(.rw[AD e]);.rw[AB e]
 .rw[AB h,AB h,ZF];rfl
theorem Ok.jx(x:H?)(hf:IR tb.1)(v:Int):Ok { G with hand:=CC!,AN:=Be G.AN tb v } (n+1):=by
 have x1:=x.mono (FC n);refine⟨O4 _ x.hn,by have:=G7 G.hand tb;have:=x.hz;show(Bj G.hand tb).length<=n+1;lia,x1.on,x1.oz,x1.ke,?_,?_,x1.ln,x1.new,λt ht e=>?_,x1.lk,?_⟩;.show G? (Be G.AN tb v).map;rw[Gu];by_cases h:tb∈Cf!;(.rw[AD h];exact x.rn);.rw[AB h];exact F7 x.rn h
 .have h0:=congrArg List.length (Gu G.AN tb v);have:=x.rz;show(Be G.AN tb v).length<=n+1;rw[ZA] at h0;rw[h0];by_cases h:tb∈Cf!;(.rw[AD h,ZA];lia);.rw[AB h,ZE,ZA];show G.AN.length+1<=n+1;lia
 .rcases DQ.mp ht with ht|ht;(.exact x.hk t ht e);.exact absurd (c? ht e) hf
 .show ∀t∈AC (Be G.AN tb v).map,IR t.1;rw[Gu];intro t ht;by_cases h:tb∈Cf!;(.rw[AD h] at ht;exact x.rk t ht);.rw[AB h] at ht;rcases ZI ht with ht|ht;(.exact x.rk t ht);·(have:t=tb:=by simpa using ht);rw[this];exact hf
universe S
theorem Jfb(G:BX)(a:Addr):BI (IM (UR G a))=y!++[a]:=by unfold BI UR IM;simp
universe E
theorem Lx(h:Ar!):AV! l.find? X! (t,Ai l t):=by cases e:SC l.find? X! with | none =>obtain⟨q,hq,e2⟩:=ZN h;have:=AY.mp e q hq;exact absurd e2 (by simpa using this) | some q =>(have h1:X!:=B5! (DO e));(have:Ai l t=q.2:=by unfold Ai;rw[e];rfl);rw[this,<-h1]
theorem zL(h:Ar!)(v:Int):Ab! (Be l t v).map l.map:=by rw[Gu,AD h]
theorem Wb(h:Ar!)(v:Int):(Be l t v).length=l.length:=BE! (congrArg List.length (zL h v)) ZA ZA
universe S
theorem Ok.AH(x:H?)(h:CT!)(v:Int):Ok { G with AH:=Be G.AH tb v } n:=by
 have e:=zL h v;refine⟨x.hn,x.hz,by show G? A7!;rw[e];exact x.on,by show(Be G.AH tb v).length<=n;rw[Wb h];exact x.oz,by show Cz! A7!;rw[e];exact x.ke,x.rn,x.rz,x.ln,?_,?_,?_,x.rk⟩;.show ∀t∈AC A7!,_;rw[e];exact x.new
 .show EN! (CE!->K? A7!);rw[e];exact x.hk
 .show AT! (∀t∈w!,CE!->K? A7!);rw[e];exact x.lk
universe E
theorem P7(f:α->Int):∀{l:R!} (x:Int),BQ! f->(l.filter λe=>f e==x).length<=1
 | [],_,_=>BE _
 | a::l,x,nd=>by have nd:=T0;rw[CY];by_cases e:f a=x;(.have no:(l.filter λe=>f e==x)=[]:=List.filter_eq_nil_iff.mpr λb hb z=>nd.1 (AF.mpr ⟨b,hb,by rw[e];simpa using z⟩);rw[AD (by simpa using e),no];exact ZG _);.rw[AB (by simpa using e)];exact P7 f x nd.2
universe S
variable {prog:Program}{w:World}{K:Type}[DecidableEq K]{knd:HeapKind prog w K}{A:Around}{E:Value->Shared->Prop}{s:Shared}
def Tame(knd:HeapKind prog w K):Prop:=∀{A:Around} {E:Av! Value} {s:Shared} {k:K} {a:Addr} {Q:Av! Bool},knd.is s.heap k a->(∀b,Q b s)->Db! (Builtin.Dict.quietEq (W! a))
theorem Zh{id:String}{d:Addr}{ob:Obj}{es:Array DictEntry}{ep:Nat}{xs:FM}{Q:Av! (Array DictEntry)}(tm:Tame knd)(g:F! s.heap.get? d ob)(dat:ob.data=.dict es ep)(ent:es.toList=xs.map (entryOfKey knd))(keys:∀x∈xs,knd.is s.heap x.1 m?)(hh:(xs.map λx=>knd.hash x.1).Nodup)(q:Q es s):Db! (Builtin.Dict.entriesForEmpty id d):=by
 have hn:(es.toList.map λe=>e.hash).Nodup:=by rw[ent,AL];exact hh
 unfold Builtin.Dict.entriesForEmpty;refine ZR (CD g dat (ZR ?_));rw[<-Array.forIn_toList];refine QU _ (λrest _ s'=>s'=s/\∀e∈rest,e∈es.toList) _ ?_ ?_ _ _ (C? (λe he=>he));.rintro e rest b s' ⟨rfl,sub⟩;have me:=sub e (SL);rw[ent] at me;obtain⟨x,hx,ex⟩:=ZN me;(have ek:e.key=N! m?:=by rw[<-ex];rfl);rw[ek];refine ZR (tm (keys x hx) λbq=>?_);(have small:¬(es.filter λz=>z.hash==e.hash).size > 1:=by have h1:=P7 (λz:DictEntry=>z.hash) e.hash hn;(have h2:(es.filter λz=>z.hash==e.hash).size=j? es.toList.filter (λz=>z.hash==e.hash):=by rw[<-CT,Array.toList_filter]);rw[h2];exact Nat.not_lt.mpr h1);cases bq with | true =>simp only[Bool.not_true,CL,ED];exact ZS (C? (λe he=>sub e (ZD _ he))) | false =>simp only[Bool.not_false,HH];rw[AB small];exact ZS (C? (λe he=>sub e (ZD _ he)))
 .rintro b s' ⟨rfl,_⟩;exact ZS q
theorem Om{d a:Addr}{xs:FM}{k:K}{v:Value}{Q:Av! Unit}(room:knd.room A)(key:knd.is s.heap k a)(m:s.heap.DictOfH knd d xs)(z:xs.length<=sizeLine)(q:∀h',h'.DictOfH knd d (storedH xs k a v)->EE!->Q () U?):Db! (dictSetHashed d BK! (knd.hash k) v):=by
 obtain⟨ob,es,ep,g,ex,dat,ent,keys,nd⟩:=m;have sz:=JZ ent;unfold dictSetHashed;refine EJ (ZR (wpAny_dictFind_heap room key g dat ent keys nd (λno=>?_) λj p hj=>?_));.refine ZR (wpAny_rule (wpAny_updateDictKeys (hz:=E! sz z) g dat (q _ ⟨_,_,ep+1,FZ _ g (ND (G_ dat _)),ex.mapDictKeys _,G_ dat _,?_,BF!,?_⟩ Eb!)));(.rw[storedH_new (atKey_none_of_get no),ZF,<-ent];simp[entryOfKey]);(.rw[storedH_new (atKey_none_of_get no)] at hx;rcases ZI hx with hx|hx;(.exact DG! (keys x hx) g dat);·(have e:x=(k,a,v):=by simpa using hx);rw[e];exact DG! key g dat);.rw[storedH_new (atKey_none_of_get no),ZF];exact F7 nd (not_mem_keys_of_get no)
 .refine ZR (wpAny_rule (ZR (wpAny_updateDict g dat (wpAny_point (q _ ⟨_,_,ep,FZ _ g (ND (Obj.data_mapDict dat _)),ex.mapDict _,Obj.data_mapDict dat _,?_,BF!,?_⟩ Eb!)))));(.rw[storedH_old (atKey_of_get nd hj)];have e:=modify_map_putAt (entryOfKey knd) (λe:DictEntry=>{ e with val:=v }) k v (λ_ _=>rfl) nd hj;rw[<-ent] at e;rw[<-e];simp);(.rw[storedH_old (atKey_of_get nd hj)] at hx;obtain⟨y,hy,e⟩:=ZN hx;(have e1:x.1=y.1/\m?=y.2.1:=by rw[<-e];unfold putAt;by_cases c:y.1=k;(.rw[AD c];exact C? rfl);.rw[AB c];exact C? rfl);rw[e1.1,e1.2];exact DG! (keys y hy) g dat);.rw[storedH_old (atKey_of_get nd hj),keys_map_putAt];exact nd
def Ef(xs more:FM):FM:=more.foldl (λacc x=>storedH acc x.1 m? x.2.2) xs
theorem Nb(xs more:FM){i:Nat}{x:K×EO!}(h:more[i]?=some x):Ef xs (more.take (i+1))=storedH (Ef xs (more.take i)) x.1 m? x.2.2:=by unfold Ef;rw[List.take_succ,h,List.foldl_append];rfl
theorem Vw(xs:FM)(k:K)(a:Addr)(v:Value):(storedH xs k a v).length<=xs.length+1:=by cases e:atKey xs k with | none=>rw[storedH_new e,ZE];exact ZG _ | some p=>rw[storedH_old e,ZA];exact FC _
theorem Ke:∀(more xs:FM),T? Ef xs more (xs.length+more.length)
 | [],xs=>ZG _
 | x::r,xs=>by have h1:T? Ef (storedH xs x.1 m? x.2.2) r _:=Ke r _;have h2:=Vw xs x.1 m? x.2.2;show T? Ef (storedH xs x.1 m? x.2.2) r (xs.length+(r.length+1));lia
theorem Ph:∀(more xs:FM),G? (xs++more).map->Ef xs more=xs++more
 | [],xs,_=>(AG xs).symm
 | x::r,xs,nd=>by (have e:atKey xs x.1=none:=by cases c:atKey xs x.1 with | none=>rfl | some p =>exfalso;unfold atKey at c;cases f:xs.find? (λy=>L! (y.1=x.1)) with | none=>rw[f] at c;cases c | some y =>(have h1:y.1=x.1:=WP (DO f));have h2:=AJ f;rw[ZF,AK] at nd;exact nd.2.2 _ (BG h2) _ (BG (SL)) h1);show Ef (storedH xs x.1 m? x.2.2) r=xs++x::r;rw[storedH_new e];(have e2:xs++[(x.1,m?,x.2.2)]++r=xs++x::r:=CQ!);rw[Ph r _ (E! e2 nd),e2]
theorem Y3{id:String}{d o:Addr}{xs more:FM}{Q:Av! Unit}(tm:Tame knd)(room:knd.room A)(ne:d≠o)(lo:(o==sysModules)=false)(hd:s.heap.DictOfH knd d xs)(ho:s.heap.DictOfH knd o more)(z:Ix (xs.length+more.length))(hh:xs=[]->Ck! (λx=>knd.hash x.1))(q:∀h',h'.DictOfH knd d (Ef xs more)->EE!->Q () U?):Db! (Builtin.Dict.mergeDict id d o):=by
 obtain⟨od,esd,epd,gd,exd,UB,sZ,zw,ndd⟩:=_root_.id hd;obtain⟨oo,OW,epo,go,exo,QT,XZ,VD,ue⟩:=_root_.id ho;have so:=JZ XZ;unfold Builtin.Dict.mergeDict Builtin.Dict.showsAll;rw[AB (by simpa using ne),AB (E! lo AX)];refine ZR (ZS (ZR (CD go QT ?_)));dsimp only;split;.refine ZR (CD gd UB ?_);split;(.rename_i em;(have ex:xs=[]:=by have h1:=JZ sZ;rw[KL.mp em] at h1;exact CA.mp h1.symm);subst ex;have em':Ef [] more=more:=Ph more [] ue;rw[em'] at q;refine ZR (Zh tm go QT XZ VD (hh rfl) ?_);split;(·(have zz:OW.size<=sizeLine+1:=by rw[so];have:Ix (0+more.length):=z;lia);refine ZR (wpAny_updateDictKeysTo gd UB (ZS (q _ ⟨_,_,epd+1,FZ _ gd (ND (G_ UB _)),exd.mapDictKeys _,G_ UB _,XZ,BF!,ue⟩ Eb!)) zz);exact DG! (VD x hx) gd UB);.rename_i nz;(have e0:more=[]:=by have:OW.size=0:=KL.mp (by simpa using nz);rw[so] at this;exact CA.mp this);subst e0;exact ZS (q _ hd (Heap.SameBut.refl _ _)));.refine ZR (EM go QT (ZR (CD go QT (ZR ?_))));rw[QV];simp only[Std.Legacy.Range.size,Nat.sub_zero,Nat.add_sub_cancel,Nat.div_one];refine QU _ (λrest _ s'=>∃h' j,s'=U?/\rest=List.range' j (OW.size-j)/\j<=OW.size/\h'.DictOfH knd d (Ef xs (more.take j))/\EE!) _ ?_ ?_ _ _ ⟨s.heap,0,rfl,a!,BE _,hd,Heap.SameBut.refl _ _⟩;(.rintro i rest b s' ⟨h',j,rfl,hr,hj,RY,sb⟩;(have lt:AU!:=by by_cases c:AU!;(.exact c);.rw[Nat.sub_eq_zero_of_le (Nat.not_lt.mp c)] at hr;cases hr);(have er:i=j/\rest=List.range' (j+1) (OW.size-(j+1)):=by rw[D6!,OC] at hr;exact List.cons.inj hr);obtain⟨rfl,er⟩:=er;have go':F! h'.get? o oo:=D2! sb.2 go;obtain⟨x,hx⟩:=Ee! more i F?;refine D9! CD U? go';rw[entry_at XZ i,hx];have kx:=knd.keeps (VD x (ZP hx)) gd UB sb;(have zl:Ix (Ef xs (more.take i)).length:=by have h1:=Ke (more.take i) xs;(have h2:j? more.take i<=more.length:=B2! B');lia);refine ZR (EJ (Om (s:=U?) room kx RY zl λh2 hd2 gX=>?_));have go2:F! h2.get? o oo:=D2! gX.2 go';refine D9! EM { s with heap:=h2 } go2;rw[AB (a!)];exact ZS ⟨h2,i+1,rfl,er,lt,E! (Nb xs more hx) hd2,sb.trans gX⟩);.rintro b s' ⟨h',j,rfl,hr,hj,RY,sb⟩;(have ej:j=OW.size:=by by_cases c:AU!;(.rw[D6!,OC] at hr;cases hr);.lia);rw[ej,so,BP] at RY;exact ZS (q h' RY sb)
 .refine ZR (EM go QT (ZR (CD go QT (ZR ?_))));rw[QV];simp only[Std.Legacy.Range.size,Nat.sub_zero,Nat.add_sub_cancel,Nat.div_one];refine QU _ (λrest _ s'=>∃h' j,s'=U?/\rest=List.range' j (OW.size-j)/\j<=OW.size/\h'.DictOfH knd d (Ef xs (more.take j))/\EE!) _ ?_ ?_ _ _ ⟨s.heap,0,rfl,a!,BE _,hd,Heap.SameBut.refl _ _⟩;(.rintro i rest b s' ⟨h',j,rfl,hr,hj,RY,sb⟩;(have lt:AU!:=by by_cases c:AU!;(.exact c);.rw[Nat.sub_eq_zero_of_le (Nat.not_lt.mp c)] at hr;cases hr);(have er:i=j/\rest=List.range' (j+1) (OW.size-(j+1)):=by rw[D6!,OC] at hr;exact List.cons.inj hr);obtain⟨rfl,er⟩:=er;have go':F! h'.get? o oo:=D2! sb.2 go;obtain⟨x,hx⟩:=Ee! more i F?;refine D9! CD U? go';rw[entry_at XZ i,hx];have kx:=knd.keeps (VD x (ZP hx)) gd UB sb;(have zl:Ix (Ef xs (more.take i)).length:=by have h1:=Ke (more.take i) xs;(have h2:j? more.take i<=more.length:=B2! B');lia);refine ZR (EJ (Om (s:=U?) room kx RY zl λh2 hd2 gX=>?_));have go2:F! h2.get? o oo:=D2! gX.2 go';refine D9! EM { s with heap:=h2 } go2;rw[AB (a!)];exact ZS ⟨h2,i+1,rfl,er,lt,E! (Nb xs more hx) hd2,sb.trans gX⟩);.rintro b s' ⟨h',j,rfl,hr,hj,RY,sb⟩;(have ej:j=OW.size:=by by_cases c:AU!;(.rw[D6!,OC] at hr;cases hr);.lia);rw[ej,so,BP] at RY;exact ZS (q h' RY sb)
universe E
theorem Ye{prog:Program}{w:World}{K:Type}[DecidableEq K](knd:KeyKind prog w K):Tame (tupleKind knd):=λhk q=>by unfold Builtin.Dict.quietEq;exact ZR (wpAny_specialOf (IsTupleKey.typeIs hk) F.slot_tuple_eq.lookup (ZS (q _)))
def Lq(w:World)(k:List Key):Int:=reduceHash (Builtin.Tuple.tupleHashOf (k.map (x5 w)))
def Fh(kvs more:p?):p?:=more.foldl (λacc kv=>putK acc kv.1 kv.2) kvs
theorem Xg:∀{more:p?} {ms:List (List Key×EO!)} {kvs:p?} {xs:List (List Key×EO!)},KT H more ms->KT H kvs xs->KT H (Fh kvs more) (Ef xs ms)
 | _,_,_,_,.nil,r=>r
 | _,_,kvs,xs,.cons (a:=p) (b:=q) h t,r=>by have e:q.1=p.1:=h.1.symm;have r1:=KT.put r p.1 h.2.1 h.2.2;show KT H (Fh (putK kvs p.1 p.2) _) (Ef (storedH xs q.1 D? w!) _);rw[e];exact Xg t r1
theorem zW:∀{kvs:p?} {xs:List (List Key×EO!)},KT H kvs xs->(xs.map λx=>(tupleKind (Bq P w)).hash x.1)=kvs.map (Bs! w)
 | _,_,.nil=>rfl
 | _,_,.cons r t=>by rw[AI,AI,zW t,r.1];rfl
theorem Pg:∀(more kvs:p?),T? Fh kvs more (kvs.length+more.length)
 | [],_=>ZG _
 | q::r,kvs=>by have h1:T? Fh (putK kvs q.1 q.2) r _:=Pg r _;have h2:=Ff kvs q.1 q.2;show T? Fh (putK kvs q.1 q.2) r (kvs.length+(r.length+1));lia
universe S
variable {X:Cx}{AA:List (Addr×Obj)}{σ:L2.St}{H:Hp}{s:Shared}{A:Around}{E:Value->Shared->Prop}
theorem Ro{id:String}{d o:Addr}{kvs more:p?}{Q:Av! PySem.Fin}(hu:A.units<cLine)(I:DD! s)(ed:x! d .dT kvs)(eo:Rd H o (.dT more))(ne:d≠o)(z:Ix (kvs.length+more.length))(hh:kvs=[]->Ck! (Bs! X.w))(q:∀s',Inv X AA σ (DA! d kvs) s'->Q (.done (.ret .none)) s'):wpAny (model X.prog X.w) A (Builtin.Dict.updateFrom id d (W! o) [] .none) Q E s:=by
 obtain⟨zd,ld,xs,rd,dd⟩:=Rz I.DC ed;obtain⟨zo,lo,ms,ro,dO⟩:=L3 I.DC eo;have l1:=AX! rd;have l2:=AX! ro;unfold Builtin.Dict.updateFrom;refine ZR (wpAny_typeOf dO.typeIs ?_);rw[AB (am)];refine ZR ?_;unfold Builtin.Dict.merge Builtin.Dict.readDirectly;refine ZR (ZR (wpAny_isInstance dO.typeIs isSubtype_dict_dict ?_));simp only[Bool.not_true,CL,ED];refine ZR (wpAny_specialOf dO.typeIs F.slot_dict_iter.lookup (ZS ?_));simp only[beq_self_eq_true,HH];refine ZR (ZS (Y3 (Ye _) hu ne lo dd dO F? (λe=>?_) λh' WO sb=>?_));.rw[zW ro];refine hh ?_;rw[e] at l1;exact CA.mp l1
 .obtain⟨ob,es,ep,g,h2,h3,h4,_,h5⟩:=WO;(have I':Inv X AA σ (DA! d kvs) U?:=by refine F9 (t':=s.toks) I (j! ed True.intro) sb ⟨ob,g⟩ ⟨?_,ld,_,(Xg ro rd).keeps λc ys ec=>?_,ob,es,ep,g,h2,h3,h4,h5⟩;(.have:=Pg more kvs;lia);.rw[Ab (O2 ec ed (λz=>nomatch z))];exact ec);show wpAny _ _ (Builtin.Dict.addKeywords d [] >>= _) _ _ _;exact ZR (ZS (ZS (q _ I')))
universe E
universe S
variable {X:Cx}
inductive Jkt(w:World)(x:V)(vs:B!)(H:Hp)(Q:VK):Prop
 | mk (d o:Addr) (kvs more:p?) (_:x=N! d) (_:vs=[N! o]) (_:x! d .dT kvs) (_:Rd H o (.dT more)) (_:d≠o) (_:Ix (kvs.length+more.length)) (_:(kvs=[]->Ck! (Bs! w))) (_:Q .E_ (DA! d kvs))
theorem Jha(hu:X.A.units+1<cLine):cw X "dict.update" (Jkt X.w):=by intro AA s σ H x vs v us Q I rx rv h;obtain⟨d,o,kvs,more,rfl,rfl,ed,eo,ne,z,hh,q⟩:=h;cases rx;obtain⟨u,rfl,ru⟩:=rv.one;cases ru;obtain⟨_,_,xs,rd,dd⟩:=Rz I.DC ed;refine C_ PySem.F.slot_dict_update dd.typeIs PySem.F.entry_dict_update ?_ (PySem.F.args_dict_update_2 _ _);unfold Builtin.«dict.update» Builtin.Dict.selfAndRest;refine ZR (ZR (IJ dd.typeIs (ZS ?_)));exact Ro (id:="dict.update") (show X.A.in1.units<cLine from ET (knd:=Bq X.prog X.w) hu) I ed eo ne z hh λs' I'=>⟨_,rfl,.E_,_,I',rfl,q⟩
theorem Zm(hu:DH!):Ga X (.type "dict") (λxs H Q=>∃(o:Addr)(more:p?),xs=[N! o]/\x! o .dT more/\Ck! (Bs! X.w)/\∀p,As!->Q (W! p) (DA! p [])):=by
 intro AA s σ H xs us Q I r h;obtain⟨o,more,rfl,eo,hh,q⟩:=h;obtain⟨u,rfl,rx⟩:=vals1 r;cases rx;refine callType_codes (Q₁:=λobj EA=>obj=N! s.heap.objs.size/\EA={ s with heap:=s.heap.push { cls:=.type "dict",data:=.dict #[] } }) F.kt_called_dict (F.kt_typeCall_dict_1 _) F.entry_dict_init (kt_code_dict_new _ (C? rfl)) ?_;rintro obj EA ⟨rfl,rfl⟩;have hn:q! s.heap.objs.size:=I.DC.fresh (ZG _);have I1:=I.laid (a:=s.heap.objs.size) (o:=.dT []) (t':=s.toks) (λ_ _ z=>ZT _ z) (ZG _) (X0 s.heap I.big);have e1:Y? (upd H s.heap.objs.size (.dT [])) s.heap.objs.size .dT []:=Ac;obtain⟨_,_,xs,rd,dd⟩:=Rz I1.DC e1;refine⟨dd.typeIs,F.args_dict_init_2 _ _,?_⟩;unfold Builtin.«dict.__init__» Builtin.Dict.selfAndRest;refine ZR (ZR (IJ dd.typeIs (ZS ?_)));have ne:s.heap.objs.size≠o:=λz=>by rw[<-z,hn] at eo;cases eo
 have eo1:Y? (upd H s.heap.objs.size (.dT [])) o .dT more:=M! ne.symm eo
 obtain⟨zo,_⟩:=Rz I.DC eo;have g7:X.A.in1.in1.units<cLine:=by (have h1:X.A.in1.in1.units=X.A.units+1+1:=by first|rfl|simp[units_in1]);lia
 exact Ro (id:="dict.__init__") g7 I1 e1 (o! eo1) ne (B2! BS) (λ_=>hh) λs' I'=>⟨rfl,N! s.heap.objs.size,_,by rw[Sh] at I';exact I',rfl,q _ hn⟩
universe E
def hN(a b:Nat):Int:=reduceHash (Builtin.Tuple.tupleHashOf [DF! a,DF! b])
theorem Cu:∀{as:R!} {bs:List β},Paired R as bs->∀{a:α} {b:β},R a b->Paired R (as++[a]) (bs++[b])
 | _,_,.nil,_,_,h=>.cons h .nil
 | _,_,.cons h t,_,_,h'=>.cons h (Cu t h')
theorem Nf{α:Type}(b:α->Bool){ts:R!}{i:Nat}{t:α}(h:Ct!):(ts.take (i+1)).filter b=Bv! b++(z? (b t=true) [t] []):=by rw[List.take_succ,h,JA];cases e:b t<;>simp[e]
theorem Hz(b:α->Bool)(ts:R!)(i:Nat):j? Bv! b<=ts.length:=by grind
inductive JH(p:Addr)(b:T2->Bool)(ts:A!)(H:Hp)(i:Nat)(ys:B!)(H2:Hp):Prop
 | mk (bs:O!) (_:ys=bs.map V.ref) (_:Ay!) (_:wv H2) (_:AW H2 bs (Bv! b))
universe S
variable {p:Addr}{b:T2->Bool}{ts:List T2}{H:Hp}{tt:TT}{caps:List (Str×Nat)}{σ:L2.St}{Q:Hp->Prop}
theorem JH.start(hp:As!):JH p b ts H 0 [] (upd H p (.BC [])):=⟨[],rfl,Ah hp,Ac,.nil⟩
theorem qT(hp:As!)(hz:ts.length<=900)(ht:∀(H2:Hp) (a:Addr) (t:T2) (Q':FS Bool),Ay!->ED!->t∈ts->Q' (b t) H2->D1! Q'){i:Nat}{ys:B!}{H2:Hp}{a:Addr}{t:T2}{N:FS B!}(pv:JH p b ts H i ys H2)(hi:Ct!)(ha:ED!)(n:∀ys H',JH p b ts H (i+1) ys H'->N ys H') : D1! (λc H4=>z? (c=true) (Bx 0 (CH! (Db a)) H4 λv H5=>wv H5/\ys.length<sizeLine/\N (Aj!) (Bn! H5 Aj!)) (N ys H4)):=by
 obtain⟨bs,ey,sm,GO,th⟩:=pv;have e1:=Nf b hi;have ln:ys.length<=ts.length:=by rw[ey,ZA,A0!];exact Hz b ts i
 refine ht H2 a t _ sm ha (ZP hi) ?_;cases c:b t with | false =>rw[c] at e1;rw[AB (am)];exact n ys H2 ⟨bs,ey,sm,GO,by rw[e1];simpa using th⟩ | true =>rw[c,A1!] at e1;rw[A1!];(have s2:Bh H (Bn! H2 (ys++Af! a)):=λd o e=>M! (Aj e hp) (sm d o e));(have kt:BW H2 (Bn! H2 (ys++Af! a)):=B0! GO);refine⟨_,rfl,GO,Bb (T!),n _ _ ⟨bs++[a],CO! ey,s2,Ac,?_⟩⟩;rw[e1];exact Cu (AW.keep kt th) (kt.AZ _ _ ha)
theorem Jn{K:W.Frag}{l:Addr}{as:O!}(hp:As!)(hz:ts.length<=900)(hl:DC!)(th:a?)(ht:∀(H2:Hp) (a:Addr) (t:T2) (Q':FS Bool),Ay!->ED!->t∈ts->Q' (b t) H2->D1! Q')(k:∀(H2:Hp) (bs:O!),Ay!->ii H2 p bs.map->AW H2 bs (ts.filter b)->Q H2) : ∃W:Nat->Nat->FS B!,(∃m,W 0 m [] (upd H p (.BC [])))/\∀i m ys H2,W i m ys H2->wv H2 /\ (((U_ K l).stop i H2/\Q H2)\/((U_ K l).go i H2/\∀x H3,(U_ K l).SW i H2 x H3->tt (CH! (some x)) H3 λb H4 =>z? (b=true) (Bx 0 (CH! (some x)) H4 λv H5=>wv H5/\ys.length<sizeLine/\Bx! (Aj!) (Bn! H5 Aj!)) (Bx! ys H4))):=by
 have lt:=A0!;refine Fq (K:=K) (a:=l) (p:=p) (xs:=as.map V.ref) (caps:=caps) (λi ys H2=>JH p b ts H i ys H2) (JH.start hp) (λi ys H2 _ pv=>?_) (λi x ys H2 N hx pv n=>?_) λys H2 pv=>?_;.obtain⟨bs,_,sm,GO,_⟩:=pv;exact⟨DU.of (sm _ _ hl),GO⟩
 .rw[ZH] at hx;cases ea:as[i]? with | none=>rw[ea] at hx;cases hx | some a =>rw[ea] at hx;have hx:AT a=x:=ZO hx;subst hx;obtain⟨t,et⟩:=C8! i (by have:=(ZJ ea).1;lia);have ha:=Aw th i a t ea et;obtain⟨bs,e0,sm,GO,QY⟩:=id pv;exact qT hp hz ht pv et (sm _ _ ha) n
 .obtain⟨bs,ey,sm,GO,QY⟩:=pv;rw[ZA,lt,BP] at QY;exact k H2 bs sm (c? ey GO) QY
theorem Mu{α:Type}{d:Addr}{l:R!}{key:r?}{val:α->V}{ob:Obj}(hp:As!)(hz:l.length<=900)(hd:J? d (.GF ob (.dT (l.map Dz!))))(ht:∀(H2:Hp) (a:Addr) (t:T2) (Q':FS Bool),Ay!->ED!->t∈l.map key->Q' (b t) H2->D1! Q')(k:∀(H2:Hp) (bs:O!),Ay!->ii H2 p bs.map->AW H2 bs ((l.map key).filter b)->Q H2) : ∃W:Nat->Nat->FS B!,(∃m,W 0 m [] (upd H p (.BC [])))/\∀i m ys H2,W i m ys H2->wv H2 /\ (((ak d (l.map Dz!) ob).stop i H2/\Q H2)\/((ak d (l.map Dz!) ob).go i H2/\∀x H3,(ak d (l.map Dz!) ob).SW i H2 x H3->tt (CH! (some x)) H3 λb H4 =>z? (b=true) (Bx 0 (CH! (some x)) H4 λv H5=>wv H5/\ys.length<sizeLine/\Bx! (Aj!) (Bn! H5 Aj!)) (Bx! ys H4))):=by
 have hz':(l.map key).length<=900:=E! ZA hz
 refine⟨λi m ys H2=>m=l.length-i/\i<=l.length/\JH p b (l.map key) H i ys H2,⟨l.length,a!,BE _,JH.start hp⟩,?_⟩;rintro i m ys H2 ⟨rfl,hi,pv⟩;obtain⟨bs,ey,sm,GO,QY⟩:=id pv;have hd2:=sm _ _ hd;refine⟨GO,?_⟩;by_cases JU:i<l.length;.refine H! ⟨⟨hd2,E! ZA JU⟩,λx H3 y=>?_⟩;obtain⟨e,a,kk,v,ex,ek,ha⟩:=y;subst e ex;rw[ZH] at ek;obtain⟨q,hq⟩:=Au JU;rw[hq] at ek;have ek:(tk (key q),val q)=(kk,v):=ZO ek;have e1:kk=tk (key q):=(Prod.mk.inj ek).1.symm;rw[e1,qh] at ha;exact qT (N:=λzs H'=>∃m',m'<l.length-i/\(m'=l.length-(i+1)/\i+1<=l.length/\JH p b (l.map key) H (i+1) zs H')) hp hz' ht pv (CN! hq) ha λzs H' pz=>⟨_,T!,rfl,JU,pz⟩
 ·(have e:i=l.length:=T!);subst e;refine N? ⟨hd2,E! ZA (ZG _)⟩ ?_;(have e2:(l.map key).take l.length=l.map key:=by rw[<-ZA (f:=key),BP]);rw[e2] at QY;exact k H2 bs sm (c? ey GO) QY
universe E
def LR(nx:T2->A!):Nat->A!->A!->A!->Prop
 | 0,ahead,found,R=>ahead=[]/\R=found
 | n+1,ahead,found,R=>∃a t,ahead=a++[t]/\((t∈found/\LR nx n a found R)\/(t∉found/\LR nx n (a++nx t) (KM) R))
theorem LR.len:CU! (Bq!->ahead.length<=n)
 | 0,_,_,_,h=>E! h.1 (ZG _)
 | n+1,_,_,_,⟨a,t,e,h⟩=>by rw[e,ZE];rcases h with⟨_,h⟩|⟨_,h⟩;(.have:=h.len;show a.length+1<=n+1;lia);.have:=h.len;rw[ZE] at this;show a.length+1<=n+1;lia
theorem LR.sub:CU! (Bq!->(∀t∈found,t∈R)/\EY! (t∈R))
 | 0,_,_,_,h=>by rw[h.1,h.2];exact⟨λ_ z=>z,λ_ z=>AQ! z⟩
 | n+1,_,_,_,⟨a,t,e,h⟩=>by rw[e];rcases h with⟨ht,h⟩|⟨_,h⟩;(.refine⟨h.sub.1,BD!⟩;rcases ZI hu with hu|hu;(.exact h.sub.2 u hu);·(have:u=t:=EM!);rw[this];exact h.sub.1 t ht);.refine⟨λu hu=>h.sub.1 u Cq!,BD!⟩;rcases ZI hu with hu|hu;(.exact h.sub.2 u Cq!);.exact h.sub.1 u (ZC _ hu)
theorem LR.closed:CU! (Bq!->(∀t∈found,∀u∈nx t,u∈found\/u∈ahead)->∀t∈R,∀u∈nx t,u∈R)
 | 0,_,_,_,h,c=>by rw[h.2];rw[h.1] at c;exact λt ht u hu=>(c t ht u hu).elim id λz=>AQ! z
 | n+1,_,found,_,⟨a,t,e,h⟩,c=>by rw[e] at c;rcases h with⟨ht,h⟩|⟨_,h⟩;(.refine h.closed λs hs u hu=>?_;rcases c s hs u hu with z|z;(.exact Y! z);.rcases ZI z with z|z;(.exact H! z);·(have:u=t:=by simpa using z);rw[this];exact Y! ht);.refine h.closed λs hs u hu=>?_;rcases ZI hs with hs|hs;(.rcases c s hs u hu with z|z;(.exact Y! (ZB _ z));.rcases ZI z with z|z;(.exact H! (ZB _ z));.exact Y! (ZC _ z));·(have:s=t:=by simpa using hs);rw[this] at hu;exact H! (ZC _ hu)
theorem LR.least{nx:T2->A!}{S:T2->Prop}(cl:∀t,S t->∀u∈nx t,S u):CU! (Bq!->(∀t∈found,S t)->(EY! (S t))->∀t∈R,S t)
 | 0,_,_,_,h,f,_=>E! h.2 f
 | n+1,_,_,_,⟨a,t,e,h⟩,f,g=>by rw[e] at g;have gt:=g t (ZC _ A3!);rcases h with⟨ht,h⟩|⟨_,h⟩;(.exact h.least cl f λu hu=>g u Cq!);.refine h.least cl (BD!) BD!;(.rcases ZI hu with hu|hu;(.exact f u hu);·(have:u=t:=EM!);rw[this];exact gt);.rcases ZI hu with hu|hu;(.exact g u Cq!);.exact cl t gt u hu
theorem J0:∀{l:R!},l≠[]->∃a t,l=a++[t]
 | [],h=>absurd rfl h
 | [x],_=>⟨[],x,rfl⟩
 | x::y::l,_=>by obtain⟨a,t,e⟩:=J0 (l:=y::l) A3!;exact⟨x::a,t,AR! e⟩
theorem LR.ex{nx:T2->A!}{keys:A!}{B:Nat}(sub:∀t,∀u∈nx t,u∈keys)(sz:∀t,j? nx t<=B):∀(m:Nat)(ahead found:A!),(EY! (t∈keys))->j? keys.filter (EV! (t∉found))*(B+1)+ahead.length<=m->∃n R,n<=m/\Bq!
 | m,ahead,found,ha,hm=>by by_cases e:ahead=[];(.exact⟨0,found,BE _,e,rfl⟩);obtain⟨a,t,ea⟩:=J0 e;(have l1:ahead.length=a.length+1:=by rw[ea,ZE];rfl);have pO:∀u∈a,u∈keys:=λu hu=>ha u (j! ea (ZB _ hu));have ht:t∈keys:=ha t (j! ea (ZC _ A3!));match m,hm with | 0,hm=>exact absurd hm (T!) | m+1,hm =>by_cases hf:t∈found;(.obtain⟨n,R,h1,h2⟩:=LR.ex sub sz m a found pO F?;exact⟨n+1,R,T!,a,t,ea,N? hf h2⟩);·(have lt:Bm! CV!<Bm! (u∉found):=by (have e1:(keys.filter (CD! CV!))=(keys.filter (CD! (u∉found))).filter (CD! (u≠t)):=by rw[List.filter_filter];refine JQ λu _=>?_;by_cases c1:u∈found<;>by_cases c2:u=t<;>simp[c1,c2]);rw[e1];refine List.length_filter_lt_length_iff_exists.mpr ⟨t,AE.mpr ⟨ht,by simpa using hf⟩,a!⟩);have l2:=sz t;(have key:Bm! CV!*(B+1)+(a++nx t).length<=m:=by rw[ZE];have:(Bm! CV!+1)*(B+1)<=Bm! (u∉found)*(B+1):=FV _ lt;rw[Nat.add_mul,Nat.one_mul] at this;lia);obtain⟨n,R,h1,h2⟩:=LR.ex sub sz m (a++nx t) (KM) (λu hu=>(ZI hu).elim (pO u) (sub t u)) key;exact⟨n+1,R,T!,a,t,ea,H! ⟨hf,h2⟩⟩
def OV(hl:HL)(t:T2):A!:=(Bn hl t).filter (CD! (u∈AC hl.map))
def Lk(G:BX):A!:=A6! (G.AH.map V?).filter (0<Ai G.AH t)
def startT(G:BX):A!:=A6! (G.hand++Lk G).filter (K? G.holds.map)
def keepR(G:BX)(R:A!):BX:={ G with AH:=XV G.AH.filter Ak!,holds:=XV G.holds.filter Ak! }
def Bo(G:BX)(t:T2):Bool:=L! (t∈G.hand) || SC G.holds.any BB!
def HV(G:BX):BX:=Ea! (G.AN.filter λq=>Bo G q.1)
universe S
theorem P3(s:hl.Sublist G.holds):(BI { G with holds:=hl }).Sublist (BI G):=by unfold BI;exact((((s.map _).cons₂ _).cons₂ _).cons₂ _).cons₂ _
theorem AS.SS(x:S!){hl:HL}(s:hl.Sublist G.holds):Aa! G.l C1 hl { G with holds:=hl }:=by obtain⟨⟨a1,a2,a3⟩,⟨b1,b2⟩,c1,d1⟩:=x.SA;have np:=x.PR (b:=G.l) (by simp[BI]);obtain⟨dx,e⟩:=x.ob;exact⟨⟨dx,AZ! np.symm⟩,M! a2 x.dh,M! b1 x.dO,Ac,M! c1.symm x.dr,i! (M! (d1 q (s.subset hq)).2.2.1 (x.hl q (s.subset hq))),x.nd.sublist (P3 s)⟩
universe E
theorem Xt{d:Addr}{kvs:p?}{ob:Obj}{g:TG}{tb:TS}{D:Ends}{σ:L2.St}{H:Hp}(Pv:Nat->FS L2.St)(h0:Pv 0 σ H)(hf:∀i σ H,i<=kvs.length->Pv i σ H->J? d (.GF ob (.dT kvs)))(hs:∀i a k v σ H,kvs[i]?=some (k,v)->J? a (.AZ (k.map kV))->Pv i σ H->g BK! σ H λOU H2=>tb { D with nx:=Pv (i+1),ct:=Pv (i+1),bk:=D.nx } OU H2)(hd:∀σ H,Pv kvs.length σ H->D.nx σ H) : ∃W:Nat->Nat->FS L2.St,(∃m,W 0 m σ H)/\∀i m σ H,W i m σ H -> ((ak d kvs ob).stop i H/\D.nx σ H)\/((ak d kvs ob).go i H/\∃N:FS L2.St,(∀ER H',N ER H'->Bx! ER H')/\∀x H',(ak d kvs ob).SW i H x H'->g x σ H' λOU H2=>tb { D with nx:=N,ct:=N,bk:=D.nx } OU H2):=by
 refine⟨λi m σ H=>m=kvs.length-i/\i<=kvs.length/\Pv i σ H,⟨kvs.length,a!,BE _,h0⟩,?_⟩;rintro i m σ H ⟨rfl,hi,pv⟩;have fz:=hf i σ H hi pv;by_cases JU:i<kvs.length;.refine H! ⟨⟨fz,JU⟩,Pv (i+1),λER H' p'=>⟨kvs.length-(i+1),T!,rfl,JU,p'⟩,λx H' y=>?_⟩;obtain⟨e,a,k,v,ex,ek,ha⟩:=y;subst e ex;exact hs i a k v σ _ ek ha pv
 ·(have e:i=kvs.length:=T!);subst e;exact N? ⟨fz,ZG _⟩ (hd σ H pv)
def E3(l m:A!):A!:=m.foldl Bj l
theorem Pi:∀{m l:A!} {t:T2},t∈E3 l m↔t∈l\/t∈m
 | [],l,t=>by simp[E3]
 | u::m,l,t=>by show t∈E3 (Bj l u) m↔_;rw[Pi,DQ,BU,or_assoc]
theorem Qi:∀(m l:A!),T? E3 l m (l.length+m.length)
 | [],l=>ZG _
 | u::m,l=>by have h1:T? E3 (Bj l u) m _:=Qi m (Bj l u);have h2:=G7 l u;show T? E3 (Bj l u) m (l.length+(m.length+1));lia
theorem Qh:∀(m l:A!),(l++m).Nodup->E3 l m=l++m
 | [],l,_=>(AG l).symm
 | u::m,l,nd=>by (have nu:u∉l:=λz=>by rw[AK] at nd;exact nd.2.2 u z u BW! rfl);(have e2:l++[u]++m=l++u::m:=CQ!);show E3 (Bj l u) m=_;(have e3:Bj l u=l++[u]:=by unfold Bj;rw[AB nu]);rw[e3,Qh m _ (E! e2 nd),e2]
theorem Ij:∀(m l:A!),Fh (l.map Ev) (m.map Ev)=(E3 l m).map Ev
 | [],l=>rfl
 | u::m,l=>by show Fh (putK (l.map Ev) (tk u) (V.bl true)) (m.map Ev)=_;rw[Et];exact Ij m (Bj l u)
theorem Nc{α:Type}{l:R!}{k:r?}{f:α->V}{t:T2}:((l.find? (h! (k q=t))).map f).isSome=L! (t∈l.map k):=by grind
theorem Mo{H:Hp}{d a:Addr}{α:Type}{l:R!}{k:r?}{f:α->V}{t:T2}(hd:Rd H d (.dT (l.map λq=>(tk (k q),f q))))(ha:En! t):∃o,DM H d (W! a) o/\o.isSome=L! (t∈l.map k) :=⟨_,H! ⟨_,tk t,a,hd,rfl,ha,rfl⟩,E! Dl Nc⟩
theorem U0(a:R!)(t:α):(a++[t])[(a++[t]).length-1]?=some t:=by rw[ZE];simp
theorem Ob(th:AW H as (a++[t])):∃(bs:O!)(c:Addr),as=bs++[c]/\AW H bs a/\B6! c t:=by
 have hl:=A0!;have ne:as≠[]:=λz=>by rw[z] at hl;simp at hl
 obtain⟨bs,c,e⟩:=J0 ne;subst e;have l2:bs.length=a.length:=by rw[ZE,ZE] at hl;simpa using hl
 refine⟨bs,c,rfl,?_,?_⟩;·(have go:∀{xs:O!} {ys:A!} {x:Addr} {y:T2},xs.length=ys.length->AW H (xs++[x]) (ys++[y])->AW H xs ys:=by intro xs;induction xs with | nil=>intro ys x y h _;(cases ys with | nil=>exact .nil | cons _ _=>simp at h) | cons x0 xs ih=>intro ys x y h q;cases ys with | nil=>simp at h | cons y0 ys =>cases q with | cons h1 q=>exact .cons h1 (ih (B4!) q));exact go l2 th
 .exact Aw th bs.length c t A3! (by rw[l2];simp)
theorem Hj:∀{as:O!} {ts:A!} {bs:O!} {us:A!},a?->AW H bs us->AW H (as++bs) (ts++us)
 | _,_,_,_,.nil,r=>r
 | _,_,_,_,.cons h t,r=>.cons h (Hj t r)
theorem Fg{α:Type}(k:r?)(l:R!){ts:A!}{i:Nat}{t:T2}(h:Ct!):Am! l.filter (k q∉ts.take (i+1))=(l.filter (h! (k q∉A2!))).filter (h! (k q≠t)):=by rw[List.filter_filter,List.take_succ,h];refine JQ λq _=>?_;by_cases c1:k q∈A2!<;>by_cases c2:k q=t<;>simp[c1,c2]
theorem Dk(k:r?)(l:R!)(f:T2->Bool):(l.filter λq=>f (k q)).map k=(l.map k).filter f:=AR! PD
theorem Gi{α:Type}{l:R!}{k:r?}{f:α->V}{t:T2}(h:t∈l.map k):∃v,Ci (l.map λq=>(tk (k q),f q)) (tk t)=some v:=by rw[Dl];have:=Nc (l:=l) (k:=k) (f:=f) (t:=t);rw[BN!] at this;exact Option.isSome_iff_exists.mp this
def Am(G:BX)(ts:A!):BX:={ G with AH:=XV G.AH.filter (q.1∉ts),holds:=XV G.holds.filter (q.1∉ts) }
theorem Qa(G:BX):Am G []=G:=by
 have a1:XV G.AH.filter (q.1∉([]:A!))=G.AH:=EI.mpr λq _=>a!
 have a2:XV G.holds.filter (q.1∉([]:A!))=G.holds:=EI.mpr λq _=>a!
 unfold Am;rw[a1,a2]
theorem GX{α:Type}{k:r?}{l:R!}(nd:BQ! k){q:α}(hq:q∈l):l.find? (λr=>L! (k r=k q))=some q:=by cases e:l.find? λr=>L! (k r=k q) with | none=>have:=AY.mp e q hq;simp at this | some r =>(have h1:k r=k q:=WP (DO e));rw[F0 nd (AJ e) hq h1]
def C5(hand:A!)(qs:HL):A!:=qs.foldl (λl q=>E3 l w!) hand
theorem J':∀{qs:HL} {hand:A!} {t:T2},t∈C5 hand qs↔t∈hand\/∃q∈qs,BB!
 | [],hand,t=>by simp[C5]
 | q::qs,hand,t=>by show t∈C5 (E3 hand w!) qs↔_;rw[J',Pi,or_assoc];simp
theorem Nd:∀{qs:HL} {hand:A!},(∀q∈qs,q.2.2.length<=B)->T? C5 hand qs (hand.length+qs.length*B)
 | [],hand,_=>by simp[C5]
 | q::qs,hand,h=>by have h1:T? C5 (E3 hand w!) qs _:=Nd λr hr=>h r (ZD _ hr);have h2:=Qi w! hand;have h3:=h q (SL);show T? C5 (E3 hand w!) qs (hand.length+(qs.length+1)*B);rw[Nat.add_mul,Nat.one_mul];lia
theorem Vd(hand:A!){qs:HL}{i:Nat}{q:T2×Addr×A!}(h:qs[i]?=some q):C5 hand (qs.take (i+1))=E3 (C5 hand (qs.take i)) w!:=by unfold C5;rw[List.take_succ,h,List.foldl_append];rfl
theorem Jcn(G:BX)(t:T2):(decide (t∈C5 G.hand G.holds))=Bo G t:=by
 unfold Bo;by_cases h:t∈C5 G.hand G.holds;.rw[BN!];rcases J'.mp h with h|⟨q,hq,h⟩;(.simp[h]);.have:Am! G.holds.any BB!=true:=KJ.mpr ⟨q,hq,B4!⟩;rw[this];simp
 .rw[Ci!];have h1:t∉G.hand:=λz=>h (J'.mpr (o! z));(have h2:Am! G.holds.any BB!=false:=by rw[List.any_eq_false];intro q hq z;exact h (J'.mpr (B? ⟨q,hq,by simpa using z⟩)));simp[h1,h2]
theorem Vf{α:Type}{b:α->Bool}{ts:R!}{i:Nat}{t:α}(h:Ct!):(ts.take (i+1)).filter b=Bv! b++(z? (b t=true) [t] []):=Nf b h
theorem Mm(b:α->Bool)(ts:R!)(i:Nat):j? Bv! b<=ts.length:=Hz b ts i
theorem Na:∀{l:R!} {i:Nat} {t:α},l.Nodup->l[i]?=some t->t∉l.take i
 | [],_,_,_,h=>by simp at h
 | x::l,0,t,_,_=>a!
 | x::l,i+1,t,nd,h=>by have nd:=T0;(have h:l[i]?=some t:=B4!);rw[List.take_succ_cons];intro z;rcases ZM z with z|z;(.exact nd.1 (c? z (ZP h)));.exact Na nd.2 h z
def IP(H:Hp):O!->S?->Prop:=Paired λa q=>∃c,x! a .AZ [N! c,K! q.2]/\B6! c q.1
theorem IP.keep(k:BW H H')(x:IP H as bs):IP H' as bs:=Ap (λ_ _ h9=>by obtain⟨c,e1,e2⟩:=h9;exact⟨c,BO! e1,BO! e2⟩) x
theorem yz{H:Hp}{val:T2->V}:∀{l:A!} {as:O!},mH H (l.map λq=>(tk q,val q)) as->AW H as l
 | [],as,h=>by cases h;exact .nil
 | t::l,as,h=>by cases h with | cons h1 h2=>exact .cons (c? qh h1) (yz h2)
theorem Rx{α:Type}(k:r?){l:R!}{ks R:A!}(h:∀q∈l,k q∈ks):Am! l.filter (k q∉A6! ks.filter (t∉R))=l.filter (h! (k q∈R)):=JQ (i! (by by_cases c:k q∈R;(·(have:k q∉A6! ks.filter (t∉R):=λz=>by have:=BU! z;simp[c] at this);simp[c]);.have:k q∈A6! ks.filter (t∉R):=AE.mpr ⟨h q hq,by simpa using c⟩;simp[c,h q hq]))
theorem Vi{G:BX}{R:A!}(ke:Cz! G.AH.map):Am G ((G.AH.map V?).filter (EV! (t∉R)))=keepR G R:=by
 have h1:=Rx A5! (l:=G.AH) (ks:=ca) (R:=R) (i! (BG hq));have h2:=Rx CJ! (l:=G.holds) (ks:=ca) (R:=R) (i! (c? ke (BG hq)))
 unfold Am keepR;rw[h1,h2]
theorem Y0:WR (.list []):=Le λ_ h=>AQ! h
theorem xa(ts:A!)(h:b∈BI (Am G ts)):b∈y!:=by have:(BI (Am G ts)).Sublist (BI G):=P3 (G:={ G with AH:=(Am G ts).AH }) FA;exact this.subset h
universe S
theorem Jdz(h:t∉BL!)(v:Int):Be l t v=l++[(t,v)]:=by unfold Be;rw[AB h]
theorem Ep(h:t∉BL!):Ai l t=0:=by unfold Ai;rw[AY.mpr (i! (by have:¬X!:=λz=>h (AF.mpr C0!);simpa using this))];rfl
universe E
theorem ym(h:(BI G).Nodup):(G.holds.map (·.2.1)).Nodup:=by unfold BI at h;simp only[AM] at h;exact h.2.2.2.2
universe S
variable {p:Addr}{H H':Hp}{G:BX}
universe E
universe S
variable {G M:BX}{n:Nat}{R:List T2}
theorem Jjb(ok:H?){q:T2×Addr×A!}(hq:q∈G.holds){t:T2}(ht:BB!)(e:K? G.holds.map):t∈OV G.holds q.1:=by
 have nd:G? G.holds.map:=E! ok.ke ok.on
 have f:=GX (k:=EX!) nd hq;have:Bn G.holds q.1=w!:=by unfold Bn;rw[f];rfl
 unfold OV;rw[this];exact AE.mpr ⟨ht,by simpa using e⟩
theorem Ok.keepR(ok:H?)(st:∀t∈startT G,t∈R)(cl:∀t∈R,∀u∈OV G.holds t,u∈R):Ok (FX.keepR G R) n:=by
 have mem:∀t,K? G.AH.map->t∈R->K? (G.AH.filter (h! Ak!)).map:=λt h1 h2=>E! (Bt! A5! G.AH (t∈R)) (AE.mpr ⟨h1,by simpa using h2⟩)
 have sub:∀t,K? (G.AH.filter (h! Ak!)).map->K? G.AH.map:=λt h=>(List.filter_sublist.map _).subset h;refine⟨ok.hn,ok.hz,ok.on.sublist (List.filter_sublist.map _),BA (AV _ _) ok.oz,?_,ok.rn,ok.rz,i! (ok.ln q (AE.mp hq).1),λt ht=>ok.new t (sub t ht),λt ht e=>?_,λq hq t ht e=>?_,ok.rk⟩;.show Ab! (G.holds.filter (h! Ak!)).map (G.AH.filter (h! Ak!)).map;rw[Bt! CJ! G.holds (t∈R),Bt! A5! G.AH (t∈R),ok.ke]
 .have h1:=ok.hk t ht e;refine mem t h1 (st t ?_);unfold startT;exact AE.mpr ⟨ZB _ ht,by rw[ok.ke];simpa using h1⟩
 .obtain⟨bQ,WJ⟩:=AE.mp hq;have h1:=ok.lk q bQ t ht e;exact mem t h1 (cl q.1 (by simpa using WJ) t (Jjb ok bQ ht (j! ok.ke h1)))
theorem Ok.HV(ok:H?):Ok (FX.HV G) n :=⟨ok.hn,ok.hz,ok.on,ok.oz,ok.ke,ok.rn.sublist (List.filter_sublist.map _),BA (AV _ _) ok.rz,ok.ln,ok.new,ok.hk,ok.lk,λt ht=>ok.rk t ((List.filter_sublist.map _).subset ht)⟩
theorem Jbv(G:BX):∀t∈startT G,K? G.holds.map:=λt ht=>B5! (BU! ht)
theorem yS(hl:HL)(t:T2):∀u∈OV hl t,u∈AC hl.map:=λu hu=>B5! (BU! hu)
universe E
universe S
universe E
universe S
universe E
theorem Ed(h:n<=100000):n<sizeLine:=I_ h (am)
def eQ:L?->Bool
 | []=>true
 | [_]=>true
 | x::y::l=>L! (x<y)&&eQ (y::l)
theorem yh:∀{l:L?} {x:Int},eQ (x::l)=true->∀y∈l,x<y
 | [],_,_,y,hy=>by simp at hy
 | z::l,x,h,y,hy=>by unfold eQ at h;rw[Bool.and_eq_true] at h;have h1:=BO h.1;rcases ZM hy with rfl|hy;(.exact h1);.exact Int.lt_trans h1 (yh h.2 y hy)
theorem yi:∀{l:L?},eQ l=true->l.Nodup
 | [],_=>CK
 | [x],_=>a!
 | x::y::l,h=>by have h':=h;unfold eQ at h';rw[Bool.and_eq_true] at h';exact AM.mpr ⟨λm=>Int.lt_irrefl _ (yh h x m),yi h'.2⟩
def br:List (Nat×Nat):=(List.range 12).flatMap λn=>(List.range 60).map λj=>(n,j)
def YH:L?:=br.map λp=>hN p.1 p.2
def mJ(x:Int):L?->L?
 | []=>[x]
 | y::l=>z? (x<y) (x::y::l) (y::mJ x l)
theorem Rj(x:Int):∀l:L?,(mJ x l).Perm (x::l)
 | []=>Ao!
 | y::l=>by unfold mJ;split;(.exact Ao!);.exact((Rj x l).cons y).trans (List.Perm.swap x y l)
def mP:L?->L?
 | []=>[]
 | x::l=>mJ x (mP l)
theorem Q0:∀l:L?,(mP l).Perm l
 | []=>Ao!
 | x::l=>(Rj x (mP l)).trans ((Q0 l).cons x)
theorem Jgn:eQ (mP YH)=true:=ZV
theorem Jgo:YH.Nodup:=(Q0 YH).nodup_iff.mp (yi Jgn)
def TU(t:T2):Prop:=0<=t.1/\t.1<12/\0<=t.2/\t.2<60
theorem Jco(ht:TU t)(hu:TU u)(e:Lq w (tk t)=Lq w (tk u)):t=u:=by
 have aR:∀v:T2,0<=v.1->0<=v.2->Lq w (tk v)=hN CK! CL!:=λv h1 h2=>by show reduceHash (Builtin.Tuple.tupleHashOf [hashInt v.1,hashInt v.2])=reduceHash (Builtin.Tuple.tupleHashOf [DF! CK!,DF! CL!]);rw[BJ h1,BJ h2]
 obtain⟨a0,a1,a2,a3⟩:=ht;obtain⟨b0,b1,b2,b3⟩:=hu;rw[aR t a0 a2,aR u b0 b2] at e;have m:∀v:T2,0<=v.1->v.1<12->0<=v.2->v.2<60->(CK!,CL!)∈br:=λv h0 h1 h2 h3 =>CV.mpr ⟨CK!,BR.mpr (T!),AF.mpr ⟨CL!,BR.mpr (T!),rfl⟩⟩;have:=F0 (f:=λp:Nat×Nat=>hN p.1 p.2) Jgo (m t a0 a1 a2 a3) (m u b0 b1 b2 b3) e;have e1:=congrArg Prod.fst this;have e2:=congrArg Prod.snd this;simp only at e1 e2;exact Prod.ext (T!) F?
theorem Xl:∀{ts:A!},ts.Nodup->(∀t∈ts,TU t)->(ts.map λt=>Lq w (tk t)).Nodup
 | [],_,_=>CK
 | t::ts,nd,hr=>by have nd:=T0;refine AM.mpr ⟨λm=>?_,Xl nd.2 λu hu=>hr u (ZD _ hu)⟩;obtain⟨u,hu,e⟩:=ZN m;exact nd.1 ((Jco (hr t BW!) (hr u (ZD _ hu)) e.symm)▸hu)
theorem Py{w:World}{l:A!}(nd:l.Nodup)(hr:∀t∈l,TU t):((l.map Ev).map (Bs! w)).Nodup:=E! AL (Xl nd hr)
def yK(o:Obj):Prop:=o.cls=.type CI!/\o.dict=none/\∃xs k,o.data=.seq xs k
universe S
theorem Qd:Ga X (.type CI!) (λxs H Q=>∃p ys,xs=[KE]/\DU X.K H p ys/\∀l o,q! l->yK o->Q (W! l) (upd H l (.GF o (.AZ ys)))):=by intro AA s σ H xs us Q I r h;obtain⟨p,ys,rfl,hq,q⟩:=h;obtain⟨u,rfl,rx⟩:=vals1 r;cases rx;obtain⟨its,r',pl,hz⟩:=I.list hq;have hlen:=r'.length;refine call_tuple_list pl.isList (λh' kp=>?_) (by simp only[BD]<;>lia);have I1:DD! U?:=I.kept (t':=s.toks) kp;have I2:Inv X AA σ (upd H h'.objs.size (.GF { cls:=.type CI!,data:=.seq its.toArray } (.AZ ys))) { s with heap:=h'.push { cls:=.type CI!,data:=.seq its.toArray } } :=I1.laid (t':=s.toks) (IN (ZT _ e)) (ZG _) (show DN X.prog X.w _ _ _ (.GF _ (.AZ ys)) from⟨ZU _ rfl,hz,its,r',IsTup.new _ _⟩);exact⟨N! h'.objs.size,_,I2,rfl,q _ _ (I1.DC.fresh (ZG _)) ⟨rfl,rfl,_,_,rfl⟩⟩
universe E
universe S
universe E
universe S
universe E
universe S
variable {X:Cx}
universe E
universe E FX
universe N K62
open PySem L2 FX
abbrev DH(P : Program)(w : World)(K : W.Frag)(mg : Str -> Option Value)(base : Heap) := EO P w K mg base XI
abbrev FE(P : Program)(w : World)(K : W.Frag)(mg : Str -> Option Value)(base : Heap) := EO P w K mg base (TV P w)
def top(i:Nat):Stmt:=PySem.Challenge.pw_farhold_k62_whole_nothing_reached_goes.main.body.getD i (.Pass ⟨0,0,0,0⟩)
abbrev mh:Stmt:=P! 0
abbrev ml:Stmt:=P! 1
abbrev mf:Stmt:=P! 2
abbrev mX:Stmt:=P! 3
abbrev Z7:Stmt:=P! 4
abbrev mZ:Stmt:=P! 5
abbrev mn:Stmt:=P! 6
abbrev mW:Stmt:=P! 7
abbrev T8:Stmt:=P! 8
abbrev T6:Stmt:=P! 9
abbrev Ny:Stmt:=P! 10
abbrev Z6:Stmt:=P! 13
abbrev Oq:Stmt:=P! 14
abbrev Z5:Stmt:=P! 15
abbrev Jw:Stmt:=P! 16
abbrev Ho:Stmt:=P! 18
abbrev J3:Stmt:=P! 19
abbrev K4:Stmt:=P! 20
abbrev Tz:Stmt:=P! 21
abbrev V5:Stmt:=P! 22
abbrev V4:Stmt:=top 25
abbrev K2:Stmt:=top 12
abbrev Fw:Stmt:=top 10
abbrev Hn:Stmt:=top 16
abbrev Ja:Stmt:=top 17
abbrev T4:Stmt:=BM! 0
abbrev N1:Stmt:=BM! 1
abbrev K5:Stmt:=BM! 2
abbrev N0:Stmt:=BM! 3
abbrev K6:Stmt:=BM! 4
abbrev mj:Stmt:=P! 12
abbrev Z4:Stmt:=V! 8
abbrev Iz:Stmt:=V! 17
abbrev Fk:Stmt:=V! 18
abbrev Iw:Stmt:=V! 19
abbrev Ie:Stmt:=V! 20
abbrev K1:Stmt:=V! 21
abbrev Z9:Stmt:=top 26
abbrev K7:Stmt:=top 27
abbrev V3:Stmt:=top 28
abbrev kj:Stmt:=top 29
abbrev Tv:Stmt:=top 30
abbrev mY:Stmt:=top 31
abbrev T5:Stmt:=top 32
abbrev T3:Stmt:=top 33
abbrev Jb:Stmt:=top 34
abbrev Z8:Stmt:=top 35
abbrev Tw:Stmt:=top 36
abbrev gM:Stmt:=top 37
structure Txt(K:W.Frag)(mg:Br!)(C DJ DY MI NW:Addr):Prop where
 cl:VA K C
 nN:A? "number"
 nM:A? "made"
 nT:A? "ticks"
 nH:A? y?
 nO:A? "outs"
 nL:A? AS!
 nR:A? "records"
 cP:Dh! "House" C
 sy:Vm K mg "NotHeld" DJ
 sv:Vm K mg "NotNear" DY
 cMI:Vm K mg "Missing" MI
 xP:Vm K mg "NoWeight" NW
 len:q? "len"
 range:q? "range"
 tuple:q? CI!
 sorted:q? "sorted"
 isi:q? "isinstance"
inductive Td(C:Addr)(vs:B!)(H:Hp)(Q:VK)(E:XK):Prop
 | mk (p t:Addr) (G:BX) (th:T2) (_:Bc!) (_:S!) (_:t?) (_:Q (.bl (decide (th.1=G.BL))) H)
inductive Kv(C DJ:Addr)(vs:B!)(H:Hp)(Q:VK)(E:XK):Prop
 | mk (p t:Addr) (G:BX) (th:T2) (_:Bc!) (_:S!) (_:t?) (_:((th∈G.hand/\Q .E_ H)\/(th∉G.hand/\ET! DJ)))
inductive Tc(C DY:Addr)(vs:B!)(H:Hp)(Q:VK)(E:XK):Prop
 | mk (p t:Addr) (G:BX) (th:T2) (_:Bc!) (_:S!) (_:t?) (_:((th.1=G.BL/\Q .E_ H)\/(IR th.1/\ET! DY)))
def Vp(G:BX)(ta tb:T2)(good:Addr->A!->Prop)(nh nn mi:Prop):Prop :=
 (ta∉G.hand/\nh)\/(wE/\IR ta.1/\nn)\/(wE/\ta.1=G.BL/\∃(a:Addr)(hl:A!),Ax! G.holds.find? (q.1=ta) ta/\((tb∉hl/\mi)\/(tb∈hl/\good a hl)))
inductive Oj(C DJ DY MI:Addr)(vs:B!)(H:Hp)(Q:VK)(E:XK):Prop
 | mk (p a b:Addr) (G:BX) (ta tb:T2) (_:Dq!) (_:S!) (_:C9!) (_:v!) (_:Vp G ta tb (λ_ _=>Q .E_ H) (Go DJ) (Go DY) (Go MI))
universe S
theorem scN:Bl! Jw:={}
theorem Ug(F:C! "is_near" "House.is_near" Jw)(T:I!):SB h? Td:=by refine g! scN;obtain⟨p,t,G,th,rfl,S,ht,k⟩:=h;refine D!;obtain⟨dx,hp⟩:=S.ob;refine R? (Ae (Ay (Ji3 (Ji5 (Av Aq G! Ag) J!))));exact Ap! ⟨t,_,0,_,rfl,rfl,CF.of ht,rfl,_,rfl,p,C,dx,_,_,rfl,hp,T.cl,T.nN,Rm G,_,_,rfl,rfl,k⟩
theorem Fn(hd:DK! A8)(ht:t?):DM H d (W! t) (if th∈l then some (V.bl true) else none):=Al! (AG! hd) Gj
theorem Jmg:Bl! Ho:={}
theorem Lf(F:C! "need_in_hand" "House.need_in_hand" Ho)(T:I!):Ep! f fd (Kv C DJ):=by
 refine l! Jmg;obtain⟨p,t,G,th,rfl,S,ht,k⟩:=h;refine D!;have hu:=Z!;obtain⟨dx,hp⟩:=S.ob;refine R? (Ae (Bf (D3 (Dv hu G! J!)) (AJ! T.sy) A4));refine EJ! dx hp T.nH (Fm G) G.h _ (Fn S.dh ht);rcases k with⟨h,k⟩|⟨h,k⟩;.rw[AD h];exact By k
 .rw[AB h];exact B7 k
universe E
structure DG(K:W.Frag)(C:Addr)(x qual:Str)(st:Stmt)(ps:List Str)(f:Addr)(fd:FuncData):Prop where
 fn:C! x qual st
 bd:Binds K fd ps []
 mt:iZ K C x f
universe S
theorem Jmf:Bl! J3:={}
theorem Wr(F:C! "need_near" "House.need_near" J3)(T:I!)(M1:v4):Cr! h? (Tc C DY):=by
 have G1:Ep! f1 aU (Td C):=FX.EO.TK (Ug M1.fn T);refine l! Jmf;obtain⟨p,t,G,th,rfl,S,ht,k⟩:=h;refine D!;have hu:=Z!;obtain⟨dx,hp⟩:=S.ob;refine R? (Ae (Bf (Yu (Fx (Ei! T.cl M1.mt G1 hr M1.bd))) (AJ! T.sv) A4));refine⟨_,rfl,p,dx,_,rfl,hp,E?,_,rfl,p,t,G,th,rfl,S,ht,_,rfl,?_⟩;rcases k with⟨h,k⟩|⟨h,k⟩;.rw[BN!];exact By k
 .rw[Ci!];exact B7 k
theorem Jkn:Di! K4:={}
theorem Mp(S:S!)(ht:t?)(f:Ax! G.holds.find? Sc th):CF! G.l t V.ref a/\x! a A8 hl/\(th,a,hl)∈G.holds:=by have:=AG! S.dl;rw[Dl (k:=EX!) (f:=Ec!),f] at this;exact⟨this,S.hl _ (AJ f),AJ f⟩
theorem Q8(F:C! "need_holding" "House.need_holding" K4)(T:I!)(M1:v4)(M2:AL!)(M3:EH!):BZ! i? (Oj C DJ DY MI):=by
 have G2:D4!:=Dr!;have G3:BP! f3 iF h? (Tc C DY):=Wr M3.fn T M1;refine l! Jkn;obtain⟨p,a,b,G,ta,tb,rfl,S,ha,hb,k⟩:=h;refine D!;have hu:=Z!;have HP:u?:=s?;obtain⟨dx,hp⟩:=S.ob;refine sB (El! T.cl M2.mt G2 M2.bd) (Ad (A3 (Dl! M3.mt G3 hr M3.bd B8!)) (Ae (Bf! Dv Q! AA! (AJ! T.cMI))));refine EL! a ta ha;rcases k with⟨h,k⟩|⟨h,h2,k⟩|⟨h,h2,ad,hl,SY,k⟩;.exact BS! h
 .refine EK! h a ta ha (BS! h2)
 .obtain⟨g1,g2,g3⟩:=Mp S ha SY;refine EK! h a ta ha (N? h2 ?_);refine⟨_,rfl,_,rfl,p,C,dx,_,_,rfl,hp,T.cl,T.nL,Ei G,_,rfl,G.l,_,rfl,g1,ad,_,rfl,Fn g2 hb,_,rfl,?_⟩;rcases k with⟨h3,k⟩|⟨h3,k⟩;(.rw[AB h3];exact B7 k);.rw[AD h3];exact By k
universe E
universe S
def Done(C:Addr)(p:Addr)(G:BX)(H:Hp)(G':BX)(k:Hp->Prop):Prop:=∀H',KB H' G'->GE H'->k H'
inductive Tf(C DJ DY:Addr)(vs:B!)(H:Hp)(Q:VK)(E:XK):Prop
 | mk (p a b:Addr) (G:BX) (ta tb:T2) (_:Dq!) (_:S!) (_:C9!) (_:v!) (_:CB! (¬(wE/\Uf)) DJ ((wE/\Uf/\IR ta.1/\ET! DY)\/(wE/\Uf/\ta.1=G.BL/\∃(ad:Addr)(hl:A!),AV! G.holds.find? (q.1=ta) (ta,ad,hl)/\hl.length<=500/\b? { G with A_:=k!,holds:=Id G.holds ad BT! })))
inductive Th(C DJ DY MI:Addr)(vs:B!)(H:Hp)(Q:VK)(E:XK):Prop
 | mk (p a b:Addr) (G:BX) (ta tb:T2) (_:Dq!) (_:S!) (_:C9!) (_:v!) (_:Vp G ta tb (λad hl=>b? { G with A_:=k!,holds:=Id G.holds ad Bj! }) (Go DJ) (Go DY) (Go MI))
inductive Sy(C DJ DY MI:Addr)(vs:B!)(H:Hp)(Q:VK)(E:XK):Prop
 | mk (p a b:Addr) (G:BX) (ta tb:T2) (_:Dq!) (_:S!) (_:C9!) (_:v!) (_:CW!) (_:Vp G ta tb (λ_ _=>b? { G with A_:=k!,hand:=CC! }) (Go DJ) (Go DY) (Go MI))
inductive Tg(C DJ:Addr)(vs:B!)(H:Hp)(Q:VK)(E:XK):Prop
 | mk (p b:Addr) (G:BX) (tb:T2) (_:Os AW!) (_:S!) (_:v!) (_:CB! (tb∉G.hand) DJ (Uf/\b? { G with A_:=k!,hand:=E2 G.hand tb }))
theorem E8(hd:d∈y!)(hf:BI G1=BI G)(e:H1=upd H d o)(S1:KB H1 G1)(D:EU! { G1 with A_:=G1.A_+1 } k) : k (upd H1 p (Bz! dx { G1 with A_:=G1.A_+1 })):=by refine D _ (S1.fld dx G1.AU (G1.A_+1)) λb o' e1 h1 h2=>?_;rw[Ab h1,e,Ab (λz=>h2 (E! z hd))];exact e1
theorem scH:Di! mf:={}
theorem Rr(h:q∈G.holds):D?∈y!:=by unfold BI;exact ZD _ (ZD _ (ZD _ (ZD _ (BG h))))
theorem Jg2(F:C! "hold" "House.hold" mf)(T:I!)(M1:v4)(M2:AL!)(M3:EH!):BZ! i? (Tf C DJ DY):=by
 have G2:D4!:=Dr!;have G3:BP! f3 iF h? (Tc C DY):=Wr M3.fn T M1;refine l! scH;obtain⟨p,a,b,G,ta,tb,rfl,S,ha,hb,k⟩:=h;refine D!;have hu:=Z!;have HP:u?:=s?;obtain⟨dx,hp⟩:=S.ob;refine sB (El! T.cl M2.mt G2 M2.bd) (Ad (A3 (Dl! M2.mt G2 HP M2.bd (g? Q!))) (Ad (A3 (Dl! M3.mt G3 hr M3.bd B8!)) (Bg! (B6 hu AA! Q! Fz rfl))));refine EL! a ta ha;by_cases h1:wE;.refine EK! h1 b tb hb ?_;by_cases h2:Uf;(.refine EK! h2 a ta ha ?_;rcases k with⟨h,k⟩|⟨_,_,h,k⟩|⟨_,_,h,ad,hl,SY,z,k⟩;(.exact absurd ⟨h1,h2⟩ h);(.exact BS! h);.obtain⟨g1,g2,g3⟩:=Mp S ha SY;refine Y! ⟨h,_,rfl,p,C,dx,_,_,rfl,hp,T.cl,T.nL,Ei G,_,rfl,G.l,_,rfl,g1,_,rfl,ad,_,rfl,UF g2,?_⟩;rw[Et];have S1:Aa! ad A8 BT! (CS! BT!):=S.VH g3 BT!;obtain⟨E',HJ⟩:=S1.ob;refine UV;rw[Bi];exact E8 (G1:=CS! BT!) (Rr g3) (by unfold BI;rw[On]) rfl S1 k);.rcases k with⟨h,k⟩|⟨_,h,_⟩|⟨_,h,_⟩;(.exact BS! h2);(.exact absurd h h2);.exact absurd h h2
 .rcases k with⟨h,k⟩|⟨h,_⟩|⟨h,_⟩;(.exact BS! h1);(.exact absurd h h1);.exact absurd h h1
theorem scD:Di! mX:={}
theorem Jg5(F:C! "drop" "House.drop" mX)(T:I!)(M1:v4)(M2:AL!)(M3:EH!)(M4:DG K C "need_holding" "House.need_holding" K4 i? f4 pY) : B9! 4 i? (Th C DJ DY MI):=by
 have G4:DT! 3 f4 pY Oj:=Q8 M4.fn T M1 M2 M3;refine l! scD;obtain⟨p,a,b,G,ta,tb,rfl,S,ha,hb,k⟩:=h;refine D!;have hu:=Z!;obtain⟨dx,hp⟩:=S.ob;refine sB (B7! U! T.cl M4.mt G4 hr M4.bd Bp Do!) (Bg! (A3 (Fy hu AA! Q! v?)));refine⟨_,rfl,p,dx,_,rfl,hp,E?,_,rfl,_,rfl,p,a,b,G,ta,tb,rfl,S,ha,hb,?_⟩;rcases k with k|k|⟨h1,h2,ad,hl,SY,k⟩;.exact Z?
 .exact B? (o! k)
 .refine B? (B? ⟨h1,h2,ad,hl,SY,?_⟩);rcases k with k|⟨h3,k⟩;(.exact Z?);.obtain⟨g1,g2,g3⟩:=Mp S ha SY;refine H! ⟨h3,_,rfl,p,C,dx,_,_,rfl,hp,T.cl,T.nL,Ei G,_,rfl,G.l,_,rfl,g1,ad,rfl,wT g2,_,rfl,_,tk tb,_,b,g2,rfl,hb,(by rw[Gj,AD h3]),?_⟩;rw[F4 (k:=λq:T2=>q) (f:=Dg!)];have S1:Aa! ad A8 Bj! (CS! Bj!):=S.VH g3 Bj!;obtain⟨E',HJ⟩:=S1.ob;refine UV;rw[Bi];exact E8 (G1:=CS! Bj!) (Rr g3) (by unfold BI;rw[On]) rfl S1 k
theorem Jl8:Di! Z7:={}
theorem Jgv(F:C! "take" "House.take" Z7)(T:I!)(M1:v4)(M2:AL!)(M3:EH!)(M4:DG K C "need_holding" "House.need_holding" K4 i? f4 pY) : B9! 4 i? (Sy C DJ DY MI):=by
 have G4:DT! 3 f4 pY Oj:=Q8 M4.fn T M1 M2 M3;refine l! Jl8;obtain⟨p,a,b,G,ta,tb,rfl,S,ha,hb,z,k⟩:=h;refine D!;have hu:=Z!;obtain⟨dx,hp⟩:=S.ob;refine sB (B7! U! T.cl M4.mt G4 hr M4.bd Bp Do!) (Bg! (B6 hu J! Q! Fz rfl));refine⟨_,rfl,p,dx,_,rfl,hp,E?,_,rfl,_,rfl,p,a,b,G,ta,tb,rfl,S,ha,hb,?_⟩;rcases k with k|k|⟨h1,h2,ad,hl,SY,k⟩;.exact Z?
 .exact B? (o! k)
 .refine B? (B? ⟨h1,h2,ad,hl,SY,?_⟩);rcases k with k|⟨h3,k⟩;(.exact Z?);.refine H! ⟨h3,_,rfl,p,C,dx,_,_,rfl,hp,T.cl,T.nH,Fm G,_,rfl,G.h,_,rfl,UF S.dh,?_⟩;rw[Et];have S1:DM! Op ga:=S.NK Op;obtain⟨E',HJ⟩:=S1.ob;refine UV;rw[Bi];exact Bw! ga
theorem nX:d! FB FB mZ:={}
theorem Jg3(F:C! "free" "House.free" mZ)(T:I!)(M2:AL!) : Cr! FB (Tg C DJ):=by
 have G2:D4!:=Dr!;refine l! nX;obtain⟨p,b,G,tb,rfl,S,hb,k⟩:=h;refine D!;have hu:=Z!;obtain⟨dx,hp⟩:=S.ob;refine sB (Ei! T.cl M2.mt G2 hr M2.bd) (Bg! (A3 (Fy hu J! G! v?)));refine EL! b tb hb;rcases k with k|⟨h,k⟩;.exact H! k
 .refine Y! ⟨h,_,rfl,p,C,dx,_,_,rfl,hp,T.cl,T.nH,Fm G,G.h,rfl,wT S.dh,_,rfl,_,tk tb,_,b,S.dh,rfl,hb,(by rw[Gj,AD h]),?_⟩;rw[F4 (k:=λq:T2=>q) (f:=Dg!)];have S1:DM! (E2 G.hand tb) { G with hand:=E2 G.hand tb }:=S.NK (E2 G.hand tb);obtain⟨E',HJ⟩:=S1.ob;refine UV;rw[Bi];exact Bw! { G with hand:=E2 G.hand tb }
universe E
universe S
def Hf(n:Int):Int:=z? (n=1) 1 (n / 2)
inductive V0(vs:B!)(H:Hp)(Q:VK)(E:XK):Prop
 | mk (n:Int) (_:vs=[K! n]) (_:∀p,As!->Q (W! p) (upd H p (.AZ [K! (n-Hf n),K! (Hf n)])))
theorem uE:d! ["weight","goes"] A8! K2:={}
theorem Jca(F:C! "parted" "parted" K2):ES! A8! V0:=by
 refine g! uE;obtain⟨n,rfl,k⟩:=h;refine D!;refine Aq! (Cy! Ca U! Ag (Ae (Ay (Cj (Aa Ag (g? Ag)))))) (Ad (Ad! 1 uE.nd (Bl F6 U! Ag)) (Ae (Ay (Cj (Aa (Bl Uc U! G!) B8!)))));refine⟨_,rfl,rfl,_,rfl,?_⟩;refine U8 (λc1=>?_) (λc1=>?_);.have c1:n=1:=V.int.inj (BO c1);subst c1;exact⟨show Ix 2 by decide,λp hp=>k p hp⟩
 ·(have c1:¬n=1:=λz=>by rw[z] at c1;simp at c1);refine⟨_,rfl,_,_,rfl,rfl,⟨am,am⟩,?_⟩;refine⟨_,rfl,_,rfl,_,_,rfl,rfl,_,rfl,(show Ix 2 by decide),λp hp=>?_⟩;have:=k p hp;unfold Hf at this;rw[AB c1] at this;exact this
structure QW(K:W.Frag)(mg:Br!)(x:Str)(st:Stmt)(ps:List Str)(f:Addr)(fd:FuncData):Prop where
 fn:C! x x st
 bd:Binds K fd ps []
 mg:Dh! x f
def Xq(l:S?)(t:T2):Int:=((l.find? (h! X!)).map (·.2)).getD 0
inductive Zy(C NW:Addr)(vs:B!)(H:Hp)(Q:VK)(E:XK):Prop
 | mk (p b:Addr) (G:BX) (tb:T2) (wt:Int) (_:Os AW!) (_:S!) (_:v!) (_:Dv! G.AN.find? wt) (_:BC!) (_:CB! (wt=0) NW (wt≠0/\EU! (Ea! (At! (wt-Hf wt))) (Q (K! (Hf wt)))))
theorem Ht(hd:DK! C7)(ht:t?):DM H d (W! t) ((l.find? (h! Sc)).map SZ):=Al! (AG! hd) (Dl (k:=bn) (f:=SZ))
theorem dE:d! [I?,"b","weight","halves"] FB Tz:={}
theorem Jep(F:C! "part_record" "House.part_record" Tz)(T:I!)(MP:QW K mg "parted" K2 A8! fP vp):Cr! FB (Zy C NW):=by
 have GP:ER! fP vp A8! V0:=FX.EO.TK (Jca MP.fn);refine l! dE;obtain⟨p,b,G,tb,wt,rfl,S,hb,SY,z,k⟩:=h;refine D!;have hu:=Z!;obtain⟨dx,hp⟩:=S.ob;have g1:CF! G.r b V.int wt:=Al! (Ht S.dr hb) SY
 refine DU! 2 dE.nd AA! (Ad (Cy! Ca Q! Ag (AJ! T.xP)) (Bb! (Ad! 3 dE.nd (Co GP hr (by rfl) MP.mg MP.fn.kp MP.bd .nil Bp (g? Q!))) (Bk! (Av Aq Rs Ag)) (Av Aq Rs Ag)));refine AK! dx hp T.nR (C9 G) G.r g1;refine⟨_,rfl,rfl,_,rfl,?_⟩;rcases k with⟨h,k⟩|⟨h,k⟩;.rw[show L! (X? wt=V.int 0)=true from decide_eq_true (by rw[h])];exact B7 k
 .rw[show L! (X? wt=V.int 0)=false from Ae! (λe=>h (V.int.inj e))];refine Tk;refine⟨_,rfl,wt,rfl,λt ht=>?_⟩;have s1:=BX! EG! ht;have S1:=S.same s1;have t1:Y? (upd H t (.AZ EG!)) t .AZ EG!:=Ac;have b1:=s1 _ _ hb;generalize upd H t (.AZ EG!)=H1 at s1 S1 t1 b1;obtain⟨E',HJ⟩:=S1.ob;refine⟨_,rfl,t,_,0,_,rfl,rfl,CF.of t1,rfl,_,rfl,p,C,E',_,_,rfl,HJ,T.cl,T.nR,C9 G,_,rfl,G.r,_,rfl,Ej! S1.dr b1 T!,?_⟩;rw[Ey];have S2:KB (upd H1 G.r (C7 (Be G.AN tb (wt-Hf wt)))) (Ea! (At! (wt-Hf wt))):=S1.RN _;have tr:t≠G.r:=λe=>(S1.tup_ne t1).2 (by rw[e];simp[BI]);refine⟨_,rfl,t,_,1,_,rfl,rfl,CF.of (M! tr t1),rfl,?_⟩;refine Ed! S2 ?_;rw[Ab AE!];exact s1 _ _ e
universe E
universe S
inductive Yq(C:Addr)(vs:B!)(H:Hp)(Q:VK)(E:XK):Prop
 | mk (p b:Addr) (G:BX) (tb:T2) (wt:Int) (_:DX!) (_:S!) (_:v!) (_:BC!) (_:b? (Ea! (At! (Xq G.AN tb+wt))))
theorem Jmm:Dj! V5:={}
theorem zG(F:C! "add_to_record" "House.add_to_record" V5)(T:I!):SB No Yq:=by
 refine g! Jmm;obtain⟨p,b,G,tb,wt,rfl,S,hb,z,k⟩:=h;refine D!;have hu:=Z!;obtain⟨dx,hp⟩:=S.ob;refine R? (Ae (B6 hu J! G! (Bl Hs (Oz hu J! G! Ag v?) Q!) rfl));have ei:((G.AN.find? (h! (q.1=tb))).map SZ).getD (V.int 0)=V.int (Xq G.AN tb):=by unfold Xq;cases SC G.AN.find? (q.1=tb)<;>rfl
 refine⟨_,rfl,p,C,dx,_,_,rfl,hp,T.cl,T.nR,C9 G,G.r,rfl,wT S.dr,_,rfl,_,Ht S.dr hb,?_⟩;rw[ei];refine⟨_,rfl,_,_,rfl,rfl,_,rfl,p,C,dx,_,_,rfl,hp,T.cl,T.nR,C9 G,_,rfl,G.r,_,rfl,UF S.dr,?_⟩;rw[Ey];refine Ed! (S.RN _) ?_;rw[Ab AE!];exact e
inductive Tj(C:Addr)(vs:B!)(H:Hp)(Q:VK)(E:XK):Prop
 | mk (p b:Addr) (G:BX) (tb:T2) (wt:Int) (_:DX!) (_:S!) (_:v!) (_:BC!) (_:b? { G with A_:=k!,AN:=At! (Xq G.AN tb+wt) })
theorem Jml:Dj! T8:={}
theorem Jev(F:C! "added" "House.added" T8)(T:I!)(M5:DG K C "add_to_record" "House.add_to_record" V5 No f5 pX):DH P w K mg base 2 f fd No (Tj C):=by have G5:EP! f5 pX No (Yq C):=zG M5.fn T;refine g! Jml;obtain⟨p,b,G,tb,wt,rfl,S,hb,z,k⟩:=h;refine D!;obtain⟨dx,hp⟩:=S.ob;refine sB (B7! U! T.cl M5.mt G5 hr M5.bd Bg Do!) (Ae bv);refine⟨_,rfl,p,dx,_,rfl,hp,E?,_,rfl,_,rfl,p,b,G,tb,wt,rfl,S,hb,z,λH1 S1 KY=>?_⟩;obtain⟨E',HJ⟩:=S1.ob;refine UV;rw[Bi];exact DQ! S1.fld E' KY
inductive Yp(C:Addr)(vs:B!)(H:Hp)(Q:VK)(E:XK):Prop
 | mk (p b:Addr) (G:BX) (tb:T2) (wt:Int) (_:DX!) (_:S!) (_:v!) (_:CW!) (_:BG!) (_:BC!) (_:((tb.1=G.BL/\∃o,Dv! G.AH.find? o/\b? { G with A_:=k!,hand:=CC!,AH:=bi (o-wt) })\/(IR tb.1/\b? { G with A_:=k!,hand:=CC!,AN:=At! (Xq G.AN tb+wt) })))
theorem scC:Dj! mW:={}
theorem Jg7(F:C! "came" "House.came" mW)(T:I!)(M1:v4)(M5:DG K C "add_to_record" "House.add_to_record" V5 No f5 pX) : DH P w K mg base 2 f fd No (Yp C):=by
 have G1:EP! f1 aU h? (Td C):=Ug M1.fn T;have G5:EP! f5 pX No (Yq C):=zG M5.fn T;refine g! scC;obtain⟨p,b,G,tb,wt,rfl,S,hb,z1,z2,z3,k⟩:=h;refine D!;have hu:=Z!;obtain⟨dx,hp⟩:=S.ob;refine R? (Ad (B6 hu J! G! Fz rfl) (Bg! (Bf (Fx (B7! U! T.cl M1.mt G1 hr M1.bd Bg B8!)) (Cs! Q! yT) (Ae (A3 (B7! U! T.cl M5.mt G5 hr M5.bd Bg Do!))))));refine AK! dx hp T.nH (Fm G) G.h (UF S.dh);rw[Et];have S1:DM! Op ga:=S.NK Op;have KY:GE D7!:=λb' o e h1 h2=>AZ! AE!
 have b1:=D5! KY hb hb hb;rw[show(HO.dT ((Bj G.hand tb).map Ev))=A8 Op from rfl];generalize D7!=H1 at S1 KY b1;obtain⟨E',HJ⟩:=S1.ob;refine⟨_,rfl,p,E',_,rfl,HJ,Cd _ ZV,_,rfl,p,b,_,tb,rfl,S1,b1,_,rfl,?_⟩;rcases k with⟨h,o,SY,k⟩|⟨h,k⟩;.rw[show L! (tb.1=(ga:BX).BL)=true from BN!];refine B7 ?_;(have g1:DM H1 G.o (W! b) (some (V.int o)):=BE! (Ht S1.dO b1) (show(ga:BX).AH=G.AH from rfl) SY);refine⟨_,rfl,p,C,E',_,_,rfl,HJ,T.cl,T.nO,De _,_,rfl,G.o,_,rfl,g1,_,rfl,_,_,rfl,rfl,_,Ej! S1.dO b1 (w? (G.AH.length<=1000)),?_⟩;rw[Ey];have S2:=S1.JY (bi (o-wt));(have JB:GE (upd H1 G.o (C7 (Be! (o-wt)))):=λb' o' e h1 h2=>Em! AE! KY);obtain⟨IY,GO⟩:=S2.ob;refine CA! IY GO IY GO;rw[Bi];exact DQ! S2.fld IY JB
 .rw[show L! (tb.1=(ga:BX).BL)=false from Ci!];refine Tk;refine⟨_,rfl,p,E',_,rfl,HJ,Cd _ ZV,_,rfl,_,rfl,p,b,_,tb,wt,rfl,S1,b1,z3,λH2 S2 JB=>?_⟩;obtain⟨IY,GO⟩:=S2.ob;refine CA! IY GO IY GO;rw[Bi];exact Ed! (S2.fld IY G.AU (k!)) (M! h1 (JB _ _ (KY _ _ e h1 h2) h1 h2))
inductive Yk(C DJ NW:Addr)(vs:B!)(H:Hp)(Q:VK)(E:XK):Prop
 | mk (p b:Addr) (G:BX) (tb:T2) (sh:Int) (_:vs=[KE,AW!,K! sh]) (_:S!) (_:v!) (_:BG!) (_:BC!) (_:CB! (tb∉G.hand) DJ ((Uf/\tb.1=G.BL/\∃o,Dv! G.AH.find? o/\EU! { G with A_:=k!,AH:=bi (o+sh) } (Q (K! sh)))\/(Uf/\IR tb.1/\∃wt,Dv! G.AN.find? wt/\CB! (wt=0) NW (wt≠0/\EU! { G with A_:=k!,AN:=At! (wt-Hf wt) } (Q (K! (Hf wt)))))))
theorem dB:d! (DW! "goes") [I?,"b",P?] mn:={}
theorem Jgy(F:C! "part" "House.part" mn)(T:I!)(M1:v4)(M2:AL!)(M6:DG K C "part_record" "House.part_record" Tz FB f6 fd6)(MP:QW K mg "parted" K2 A8! fP vp) : BZ! [I?,"b",P?] (Yk C DJ NW):=by
 have G1:Ep! f1 aU (Td C):=FX.EO.TK (Ug M1.fn T);have G2:D4!:=Dr!;have G6:BP! f6 fd6 FB (Zy C NW):=Jep M6.fn T MP;refine l! dB;obtain⟨p,b,G,tb,sh,rfl,S,hb,z1,z2,k⟩:=h;refine D!;have hu:=Z!;have HP:u?:=s?;obtain⟨dx,hp⟩:=S.ob;refine sB (El! T.cl M2.mt G2 M2.bd) (Bb! (Bf (Fx (Dl! M1.mt G1 HP M1.bd B8!)) (Ad (K9 hu J! G! Q! D4 (λ_ _ _=>rfl)) (Ae (Eh! 3 dB.nd Q!))) (Ae (Eh! 3 dB.nd (Ei! T.cl M6.mt G6 hr M6.bd)))) bv Rs);refine EL! b tb hb;rcases k with k|⟨h1,h2,o,SY,k⟩|⟨h1,h2,wt,SY,k⟩;.exact H! k
 .refine Y! ⟨h1,_,rfl,p,dx,_,rfl,hp,E?,_,rfl,p,b,G,tb,rfl,S,hb,_,rfl,?_⟩;rw[decide_eq_true h2];refine B7 ?_;(have g1:DN! b o:=Al! (Ht S.dO hb) SY);refine⟨_,rfl,p,C,dx,_,_,rfl,hp,T.cl,T.nO,De _,_,rfl,G.o,_,rfl,g1,_,rfl,_,_,rfl,rfl,_,UF S.dO,?_⟩;rw[Ey];have S1:Aa! G.o C7 (Be! (o+sh)) (Ai! (o+sh)):=S.JY _;obtain⟨E',HJ⟩:=S1.ob;refine⟨_,rfl,_,rfl,p,C,E',_,_,rfl,HJ,T.cl,T.nT,Cp _,_,_,rfl,rfl,E',_,HJ,D5 _,?_⟩;rw[Bi];refine R? rfl;exact Bw! (Ai! (o+sh))
 .refine Y! ⟨h1,_,rfl,p,dx,_,rfl,hp,E?,_,rfl,p,b,G,tb,rfl,S,hb,_,rfl,?_⟩;rw[Ae! h2];refine Tk;refine⟨_,rfl,p,dx,_,rfl,hp,E?,_,rfl,p,b,G,tb,wt,rfl,S,hb,SY,z2,?_⟩;rcases k with k|⟨h3,k⟩;(.exact Z?);.refine H! ⟨h3,λH1 S1 KY=>?_⟩;obtain⟨E',HJ⟩:=S1.ob;refine UV;rw[Bi];exact Ap! (DQ! S1.fld E' KY)
universe E
inductive MX(C:Addr)(vs:B!)(H:Hp)(Q:VK)(E:XK):Prop
 | mk (p dx:Addr) (n:Int) (_:Os (K! n)) (_:ut H []) (_:∀(h o l r:Addr)(H':Hp),H h=none->q! o->q! l->q! r->KB H' ⟨n,0,0,h,o,l,r,[],[],[],[]⟩->(AI! H')->Q .E_ H')
inductive Te(C:Addr)(vs:B!)(H:Hp)(Q:VK)(E:XK):Prop
 | mk (p:Addr) (G:BX) (_:Bh!) (_:S!) (_:CW!) (_:BG!) (_:G.holds.length<=500) (_:(EN! (t≠Q?))) (_:(∀q∈G.AH,Df!)) (_:(AT! Df!)) (_:∀(t a:Addr)(H':Hp),q! t->q! a->F! H' t (.AZ (tv Q?))->KB H' { G with AU:=PP,A_:=k!,hand:=Ah!,AH:=Bd!,holds:=DR! }->GE H'->wP t)
inductive Yi(C:Addr)(vs:B!)(H:Hp)(Q:VK)(E:XK):Prop
 | mk (p:Addr) (G:BX) (_:Bh!) (_:S!) (_:Q (K! G.A_) H)
inductive OO(H:Hp)(v:V)(r:T2×Int×A!):Prop
 | mk (a t hd:Addr) (cs:O!) (_:v=N! a) (_:x! a .AZ [N! t,K! r.2.1,N! hd]) (_:B6! t r.1) (_:J? hd (.AZ (cs.map V.ref))) (_:AW H cs r.2.2)
theorem OO.keep(x:OO H v r)(k:BW H H'):OO H' v r:=by obtain⟨a,t,hd,cs,e,e1,e2,e3,e4⟩:=x;exact⟨a,t,hd,cs,e,BO! e1,BO! e2,BO! e3,AW.keep k e4⟩
inductive j9(H:Hp)(x:Addr)(hs:A!)(os:Bi!)(rs:S?):Prop
 | mk (y1 y2 y3:Addr) (as:O!) (bs:B!) (ds:O!) (_:x! x .AZ [N! y1,N! y2,N! y3]) (_:J? y1 (.AZ (as.map V.ref))) (_:AW H as hs) (_:x! y2 .AZ bs) (_:Paired (OO H) bs os) (_:(∃ob,J? y3 (.GF ob (.AZ (ds.map V.ref)))/\yK ob)) (_:Paired (RecAt H) ds rs)
inductive Yh(C:Addr)(K:W.Frag)(vs:B!)(H:Hp)(Q:VK)(E:XK):Prop
 | mk (p t:Addr) (G:BX) (th:T2) (w:Int) (a:Addr) (hl hs:A!) (_:Bc!) (_:S!) (_:t?) (_:AV! G.AH.find? Sc (th,w)) (_:Ax! G.holds.find? Sc th) (_:CX!) (_:hs.Perm hl) (_:hs.Pairwise IW) (_:∀(x:Addr)(H':Hp),o0->OO H' (W! x) (th,w,hs)->wP x)
structure Rows(G:BX)(os:Bi!):Prop where
 pm:(os.map V?).Perm (G.AH.map V?)
 pw:wS os.map V?
 at_:∀q∈os,AH! G.AH.find? (q.1,D?)/\∃a hl,AH! G.holds.find? (q.1,a,hl)/\CX!/\q.2.2.Perm hl/\q.2.2.Pairwise IW
inductive Ku(C:Addr)(K:W.Frag)(vs:B!)(H:Hp)(Q:VK)(E:XK):Prop
 | mk (p:Addr) (G:BX) (hs:A!) (os:Bi!) (rs:S?) (_:Bh!) (_:S!) (_:G.hand.length<64) (_:G.AH.length<64) (_:G.AN.length<64) (_:hs.Perm G.hand) (_:hs.Pairwise IW) (_:Rows G os) (_:rs.Perm G.AN) (_:wS rs.map V?) (_:∀(x:Addr)(H':Hp),o0->j9 H' x hs os rs->wP x)
universe S
theorem scI:d! (Is "number") (Is "number") mh:={}
theorem RR(F:C! "__init__" "House.__init__" mh)(T:I!):SB (Is "number") MX:=by
 refine g! scI;obtain⟨p,dx,n,rfl,hp,k⟩:=h;refine D!;refine Aq! (Dm U! G! rfl) (Ad (Dm U! Ag rfl) (Ad (Dm U! Ag rfl) (Ad DP! (Ad DP! (Ad DP! (Ae DP!))))));refine⟨_,rfl,_,rfl,p,C,dx,[],rfl,hp,T.cl,T.nN,C5! 0,?_⟩;refine Eq! Ac T.nM (C5! 1);rw[Sh];refine Eq! Ac T.nT (by rw[Er,B9 Gf,Er];show 2<1000;decide);rw[Sh];have step:∀{H1:Hp} {d:Addr} {fs:BJ!} {o:HO},ut H1 fs->(AI! H1)->H1 d=none->ut (upd H1 d o) fs/\(AI! (upd H1 d o))/\d≠p/\q! d:=λ{H1 d fs o} e1 e2 e3=>by have oG:p≠d:=Aj e1 e3;refine⟨M! oG e1,λb u e hb=>M! (Aj (e2 b u e hb) e3) (e2 b u e hb),oG.symm,?_⟩;cases q:H d with | none=>rfl | some u=>rw[e2 d u q oG.symm] at e3;cases e3
 have a0:AI! (upd H p (.ins C dx sK)):=λb u e hb=>Cx!
 intro d1 h1;obtain⟨b1,b2,b3,b4⟩:=EF! a0 h1;refine DB! b1 T.nH;.have:=Du!;have:=Dt!;have:=EA!;simp only[BS] at *;lia
 have c0:∀{H1:Hp} {fs:BJ!},(AI! H1)->AI! (upd H1 p (.ins C dx fs)):=λe b u e1 hb=>M! hb (e b u e1 hb)
 intro d2 h2;obtain⟨b5,b6,b7,b8⟩:=EF! (c0 b2) h2;refine DB! b5 T.nO;.have:=Au! y? d1 sK;have:=Du!;have:=Dt!;have:=EA!;simp only[BS] at *;lia
 intro d3 h3;obtain⟨b9,cn,qN,b12⟩:=EF! (c0 b6) h3;refine DB! b9 T.nL;.have:=Au! "outs" d2 (TD y? d1 sK);have:=Au! y? d1 sK;have:=Du!;have:=Dt!;have:=EA!;simp only[BS] at *;lia
 intro d4 h4;obtain⟨b13,b14,b15,b16⟩:=EF! (c0 cn) h4;refine DB! b13 T.nR;.have:=Au! AS! d3 (TD "outs" d2 (TD y? d1 sK));have:=Au! "outs" d2 (TD y? d1 sK);have:=Au! y? d1 sK;have:=Du!;have:=Dt!;have:=EA!;simp only[BS] at *;lia
 have aE:d1≠d2:=λz=>by rw[<-z,o?,Ac] at h2;cases h2
 have cO:d1≠d3:=λz=>by rw[<-z,o?,Ab aE,o?,Ac] at h3;cases h3
 have cN:d2≠d3:=λz=>by rw[<-z,Ab b7,Ac] at h3;cases h3
 have uk:d1≠d4:=λz=>by rw[<-z,o?,Ab cO,o?,Ab aE,o?,Ac] at h4;cases h4
 have uj:d2≠d4:=λz=>by rw[<-z,Ab b7,Ab cN,Ab b7,Ac] at h4;cases h4
 have uh:d3≠d4:=λz=>by rw[<-z,Ab qN,Ac] at h4;cases h4
 refine k d1 d2 d3 d4 _ b4 b8 b12 b16 ⟨⟨dx,?_⟩,?_,?_,?_,?_,i! (by simp at hq),?_⟩ (c0 b14);.rw[Ac,<-Jjn]
 .rw[o?,Ab uk,o?,Ab cO,o?,Ab aE,o?,Ac];rfl
 .rw[Ab b7,Ab uj,Ab b7,Ab cN,Ab b7,Ac];rfl
 .rw[Ab qN,Ab uh,Ab qN,Ac];rfl
 .rw[Ab b15,Ac];rfl
 .simp[BI,aE,cO,uk,cN,uj,uh]
theorem uF:d! h? Ch ml:={}
theorem Jgz(F:C! "make" "House.make" ml)(T:I!):Cu! Te:=by
 refine g! uF;obtain⟨p,G,rfl,S,z1,z2,z3,f1,f2,f3,k⟩:=h;refine D!;have hu:=Z!;refine DU! 1 uF.nd (Cj (Aa J! (g? J!))) (Ad bv (Ad (Bk! Ag) (Ad (Bk! Ds) (Bb! (Bk! Fz) bv G!))));obtain⟨dx,hp⟩:=S.ob;refine⟨_,rfl,p,C,dx,_,_,rfl,hp,T.cl,T.nN,Rm G,_,rfl,p,C,dx,_,_,rfl,hp,T.cl,T.nM,zS G,C4! 2,λt ht=>?_⟩;have s1:=BX! [X? G.BL,X? G.AU] ht;have S1:=S.same s1;have t1:F! (upd H t (.AZ [X? G.BL,X? G.AU])) t (.AZ (tv Q?)):=Ac;generalize upd H t (.AZ [X? G.BL,X? G.AU])=H1 at s1 S1 t1;obtain⟨E',HJ⟩:=S1.ob;refine⟨_,rfl,p,C,E',_,_,rfl,HJ,T.cl,T.nM,zS G,_,_,rfl,rfl,E',_,HJ,D5 G,?_⟩;rw[Xk];have S2:=S1.fld E' (PP) G.A_;have JB:Cw! H1 (b≠p) (upd H1 p (Bz! E' CY!)):=x? Cx!
 have tp:=S1.tup_ne t1;have t2:=JB _ _ t1 tp.1;have S2:KB (upd H1 p (Bz! E' CY!)) CY!:=S2;generalize upd H1 p (Bz! E' CY!)=H2 at S2 JB t2;obtain⟨IY,GO⟩:=S2.ob;refine AK! IY GO T.nO (De _) G.o (Eg! Q? S2.dO t2 (w? (G.AH.length<=1000)));have e3:putK (G.AH.map CZ!) Ek! (V.int 0)=(Bd!).map CZ!:=CO! (F5 (k:=bn) (f:=SZ) _ f2)
 have S3:=S2.JY (Bd!);unfold C7 at S3;rw[<-e3] at S3;have m_:=S2.tup_ne t2;have MQ:Cw! H2 (b∉y!) (Ef! H2 G.o G.AH.map CZ! V.int 0):=x? (E! (Ab (Cv! hb)) e)
 have t3:=MQ _ _ t2 m_.2;generalize Ef! H2 G.o G.AH.map CZ! V.int 0=H3 at S3 MQ t3;intro a ha;have s4:=Ah (o:=.dT []) ha;have S4:=S3.same s4;have a4:Y? (upd H3 a (.dT [])) a A8 []:=Ac;have t4:=s4 _ _ t3;have af:a∉y!:=λm=>by obtain⟨kvs,e⟩:=S3.LQ (b:=a) (by have:BI { G with AU:=PP,AH:=Ew! }=BI G:=rfl;rw[this];exact m);rw[ha] at e;cases e
 generalize upd H3 a (.dT [])=H4 at s4 S4 a4 t4;obtain⟨XD,hJ⟩:=S4.ob;refine AK! XD hJ T.nL (Ei _) G.l (Eg! Q? S4.dl t4 (w? (G.holds.length<=1000)));have e5:putK (G.holds.map AD!) Ek! (V.ref a)=(DR!).map AD!:=CO! (Dx! F5 _ f3)
 have S5:=S4.bC Q? a4 af;unfold C1 at S5;rw[<-e5] at S5;have TN:Cw! H4 (b∉y!) (Ef! H4 G.l G.holds.map AD! V.ref a):=x? (E! (Ab (Cv! hb)) e)
 have t5:=TN _ _ t4 m_.2;generalize Ef! H4 G.l G.holds.map AD! V.ref a=H5 at S5 TN t5;obtain⟨aX,Y'⟩:=S5.ob;refine AK! aX Y' T.nH (Fm _) G.h (Eg! Q? S5.dh t5 (w? (G.hand.length<=1000)));have e6:putK (G.hand.map Ca!) Ek! (V.bl true)=(Ah!).map Ca!:=CO! (F5 (k:=λq:T2=>q) (f:=Dg!) _ f1)
 have S6:=S5.NK (Ah!);unfold A8 at S6;rw[<-e6] at S6;have aS:Cw! H5 (b∉y!) (Ef! H5 G.h G.hand.map Ca! V.bl true):=x? (E! (Ab (Cv! hb)) e)
 have t6:=aS _ _ t5 m_.2;generalize Ef! H5 G.h G.hand.map Ca! V.bl true=H6 at S6 aS t6;obtain⟨TC,WK⟩:=S6.ob;refine CA! TC WK TC WK;rw[Bi];have S7:=S6.fld TC (PP) (k!);have MK:∀{b:Addr},H1 b=none->BR!:=λ{b} e=>Bw s1 e;have PK:GE (upd H6 p (Bz! TC { G with AU:=PP,A_:=k!,AH:=Bd!,holds:=DR!,hand:=Ah! })):=λb o e hb hf=>M! hb (aS _ _ (TN _ _ (s4 _ _ (MQ _ _ (JB _ _ (s1 _ _ e) hb) hf)) hf) hf)
 refine Ap! (k t a _ ht ?_ (M! tp.1 t6) S7 PK);cases q:H a with | none=>rfl | some u =>exfalso;(have nap:a≠p:=λz=>by rw[z,S3.ob.choose_spec] at ha;cases ha);have:F! H3 a u:=MQ _ _ (JB _ _ (s1 _ _ q) nap) af;rw[ha] at this;cases this
theorem scT:Cj! Ch Z6:={}
theorem zJ(F:C! "tick" "House.tick" Z6)(T:I!):Cu! Yi:=by refine g! scT;obtain⟨p,G,rfl,S,k⟩:=h;refine D!;obtain⟨dx,hp⟩:=S.ob;exact⟨_,Ae (Ay J!),⟨_,rfl,p,C,dx,_,_,rfl,hp,T.cl,T.nT,Cp G,k⟩⟩
universe E
theorem MV{a b c:Str}{k:NameKind}{cl:Ce!}{y:Str}(hc:Ac! c)(h:EC! k .cell\/EC! k .free):C1!:=by grind
theorem Jb2(s:o0)(x:Paired (RecAt H) as rs):Paired (RecAt H') as rs:=Ap (λ_ _ h9=>by obtain⟨ka,e1,e2⟩:=h9;exact⟨ka,s _ _ e1,s _ _ e2⟩) x
universe S
theorem Jl7:Bl! Z5:={}
theorem Li(f:α->β)(l:R!):AC (l.map λt=>(t,f t)).map=l:=E! AL (JO l)
theorem Jgu(F:C! "told" "House.told" Z5)(T:I!):ES! h? (Yh C K):=by
 refine g! Jl7;obtain⟨p,t,G,th,wt,a,hl,hs,rfl,S,ht,f1,f2,UU,pm,pw,k⟩:=h;refine D!;have hu:=Z!;obtain⟨dx,hp⟩:=S.ob;have g1:DN! t wt:=BE! (AG! S.dO) (Dl (k:=bn) (f:=SZ)) f1
 have g2:CF! G.l t V.ref a:=BE! (AG! S.dl) (Dl (k:=EX!) (f:=Ec!)) f2
 have g3:x! a A8 hl:=S.hl _ (AJ f2);refine R? (Ae (Ay (Cj (Aa G! (Aa AA! (g? (D3! Da (EZ! Bm (Cz rfl) T.sorted CO AA!))))))));refine⟨_,rfl,_,rfl,p,C,dx,_,_,rfl,hp,T.cl,T.nO,De G,_,rfl,G.o,_,rfl,g1,_,rfl,p,C,dx,_,_,rfl,hp,T.cl,T.nL,Ei G,_,rfl,G.l,_,rfl,g2,a,_,hs,rfl,zR g3,EQ! UU,j! Li pm,pw,λr as hr ha=>?_⟩;refine⟨r,_,rfl,N? (l? Ac) (λx2 oU=>⟨C4! 3,BF!⟩)⟩;have s1:=BY! .BC as.map hr;have s2:=BY! .AZ as.map oU;have s3:=BX! [AT t,X? wt,AT x2] hx;have ss:=Al s1 (Al s2 s3);exact k x _ ss ⟨x,t,x2,as,rfl,Ac,ss _ _ ht,s3 _ _ Ac,wp ss ha⟩
theorem eX:Cj! [I?,y?,"things","records"] Oq:={}
theorem Jek{f fT:Addr}{fd pW:FuncData}(F:C! "state" "House.state" Oq)(T:I!)(FT:EU K "told" "House.told" Z5 fT pW)(bT:Binds K pW h? [])(mT:iZ K C "told" fT) : DH P w K mg base 2 f fd Ch (Ku C K):=by
 have GT:EP! fT pW h? (Yh C K):=Jgu FT T;refine g! eX;obtain⟨p,G,hs,os,rs,rfl,S,z1,z2,z3,pm,pw,R,pmr,pwr,k⟩:=h;refine D!;have HP:u?:=s?;obtain⟨dx,hp⟩:=S.ob;refine DU! 1 eX.nd (D3! Da (EZ! Bm (Cz rfl) T.sorted CO J!)) (Ad (Ad! 2 eX.nd (D3! Da (En (caps:=[(I?,0)]) rfl (Do (Bm (Cz rfl) (by rfl) T.sorted CO (g? J!))) rfl ZV rfl ZV rfl (C? trivial) (λy h=>MV ⟨_,rfl⟩ h) ⟨v?,trivial⟩ ZV (λ_ _ _ _ _=>Jd) (A4! (As G! T.cl mT GT HP bT .nil Bg (g? U!)))))) (Ad (Ad! 3 eX.nd (D3! Qd (EZ! Bm (L6 rfl (Js hr)) T.sorted CO (J9 CZ PySem.F.slot_dict_items PySem.F.type_dict_items Jey J!)))) (Ae (Ay (Cj (Aa G! Dp!))))));refine⟨_,rfl,p,C,dx,_,_,rfl,hp,T.cl,T.nH,Fm G,G.h,_,hs,rfl,zR S.dh,EQ! z1,j! Li pm,pw,λr1 JV r_ ha1=>⟨r1,_,rfl,N? (l? Ac) (λx1 oV=>?_)⟩⟩;have s1:=BY! .BC JV.map r_;have s2:=BY! .AZ JV.map oV;have kf:=Al s1 s2;have S1:=S.same kf;have q1:F! (upd (Cp! r1 JV.map) x1 DJ!) x1 DJ!:=Ac;have jL:AW (upd (Cp! r1 JV.map) x1 DJ!) JV hs:=wp kf ha1;generalize upd (Cp! r1 JV.map) x1 DJ!=H1 at kf S1 q1 jL;obtain⟨E',HJ⟩:=S1.ob;have e0:((G.AH.map λq=>(q.1,V.int q.2)).map V?)=G.AH.map V?:=AR! AL
 refine⟨_,rfl,p,C,E',_,_,rfl,HJ,T.cl,T.nO,De G,G.o,_,AC os.map,rfl,yU S1.dO,EQ! z2,j! e0 R.pm,R.pw,λr2 SH LF WL=>⟨r2,rfl,⟨_,l? Ac⟩,BA!⟩⟩;have s3:=BY! .BC SH.map LF;have fy:ii (upd H1 r2 (KF SH.map)) r2 SH.map:=Ac;have S2:=S1.same s3;have t8:=Al kf s3;have jI:AW (upd H1 r2 (KF SH.map)) SH (os.map V?):=wp s3 WL;have jK:AW (upd H1 r2 (KF SH.map)) JV hs:=wp s3 jL;have uO:=s3 _ _ q1;generalize upd H1 r2 (KF SH.map)=H2 at s3 fy S2 t8 jI jK uO hq;have hlen:SH.length=os.length:=Al! (AX! WL) ZA
 have hos:os.length<64:=by have h1:=R.pm.length_eq;rw[ZA,ZA] at h1;lia
 refine Fq (K:=K) (a:=r2) (xs:=SH.map V.ref) (tt:=λ_ H Q=>Q true H) (te:=Qw C "told" (Yh C K) [] E0 (Bx 1) (Dz (Bx 0) Jz)) (caps:=[(I?,0)]) (σ:=[Db p,Db x1,none,none]) (λi ys H3=>Y? H3 q .BC ys/\Bh H2 H3/\Paired (OO H3) ys (os.take i)) ⟨Ac,Ah hq,E! JP .nil⟩ (λi ys H3 _ h=>⟨DU.of (h.2.1 _ _ fy),h.1⟩) ?_ ?_;.rintro i x ys H3 N hx ⟨e3,s4,pr⟩ hN;refine B7 ?_;rw[ZH] at hx;cases aQ:SH[i]? with | none=>rw[aQ] at hx;cases hx | some ai =>rw[aQ] at hx;cases hx;(have fg:i<os.length:=by rw[<-hlen];exact(ZJ aQ).1);obtain⟨qo,o4⟩:=Au fg;have eth:=Aw jI i ai qo.1 aQ (CN! o4);obtain⟨f1,a,hl,f2,f3,f4,f5⟩:=R.at_ qo (ZP o4);have S3:=S2.same s4;obtain⟨OH,PJ⟩:=S3.ob;refine⟨_,rfl,p,OH,_,rfl,PJ,E?,_,rfl,p,ai,G,qo.1,qo.2.1,a,hl,qo.2.2,rfl,S3,s4 _ _ eth,f1,f2,f3,f4,f5,λx2 H5 s5 rep=>⟨s5 _ _ e3,?_,hN _ _ ⟨Ac,IN ?_,?_⟩⟩⟩;(.have:=AX! pr;rw[this];exact Bb (BA (List.length_take_le _ _) F?));(.have nb:b≠q:=Aj e hq;rw[Ab nb];exact s5 _ _ (s4 _ _ e));·(have kq:BW H5 (upd H5 q (.BC (ys++Af! x2))):=B0! (s5 _ _ e3));(have et:os.take (i+1)=os.take i++[qo]:=by rw[DS,o4];rfl);rw[et];exact Fe (rep.keep kq) (Ap (λ_ _ r=>(r.keep (HN s5)).keep kq) pr)
 .rintro ys H3 ⟨e3,s4,pr⟩;rw[ZA,hlen,BP] at pr;refine⟨q,_,rfl,N? (l? e3) (λx2 oU=>?_)⟩;have s5:=BX! ys oU;have tw:=Al t8 (Al s4 s5);have S4:=(S2.same s4).same s5;have q2:Y? (upd H3 x2 (.AZ ys)) x2 .AZ ys:=Ac;have uN:=s5 _ _ (s4 _ _ uO);have jJ:AW (upd H3 x2 (.AZ ys)) JV hs:=Ap (λ_ _ e=>s5 _ _ (s4 _ _ e)) jK;have uS:Paired (OO (upd H3 x2 (.AZ ys))) ys os:=Ap (λ_ _ r=>r.keep (HN s5)) pr;generalize upd H3 x2 (.AZ ys)=H4 at s5 tw S4 q2 uN jJ uS;obtain⟨XD,hJ⟩:=S4.ob;have qI:=S4.dr;refine⟨_,rfl,p,C,XD,_,_,rfl,hJ,T.cl,T.nR,C9 G,(B? (B? (o! (C? (H! ⟨_,qI⟩))))),G.r,_,rfl,rfl,qI,λv hv=>?_⟩;have s6:=Ah (o:=U7 v G.r) hv;refine⟨v,G.r,G.AN,rs,rfl,Ac,s6 _ _ qI,z3,pmr,pwr,λr3 xR H7 s7 Y_ e7 pr7=>⟨r3,_,rfl,l? e7,λx3 uX hx3 pl3=>?_⟩⟩;have s8:=Ah (o:=.GF uX (.AZ (xR.map V.ref))) hx3;refine⟨_,rfl,_,rfl,_,rfl,C4! 3,BF!⟩;have s9:=BX! [AT x1,AT x2,AT x3] hx;have gW:=Al s6 (Al s7 (Al s8 s9));exact k x _ (Al tw gW) ⟨x1,x2,x3,JV,ys,xR,Ac,gW _ _ uN,wp gW jJ,gW _ _ q2,Ap (λ_ _ r=>r.keep (HN gW)) uS,⟨uX,s9 _ _ Ac,pl3⟩,Jb2 (Al s8 s9) pr7⟩
universe E
universe S
theorem dJ:d! ["_law_script","_law_k","_law_number"] ["_law_script","_law_k"] V4:={}
inductive Yo(K:W.Frag)(vs:B!)(H:Hp)(Q:VK)(E:XK):Prop
 | mk (a:Addr) (ns:L?) (k:Int) (_:vs=[N! a,K! k]) (_:DU K H a (ns.map V.int)) (_:ns.length<=63) (_:0<=k) (_:k<=1000) (_:∀v:Int,Q (K! v) H)
theorem zH(F:C! "_law_cell" "_law_cell" V4)(hn:q? "len"):ES! ["_law_script","_law_k"] (Yo K):=by
 refine g! dJ;obtain⟨a,ns,k,rfl,hS,hl,h0,JKb,kk⟩:=h;refine D!;have hlen:j? ns.map V.int=ns.length:=ZA ..;have item:∀i:Int,0<=i->i<ns.length->∃v,QI (ns.map V.int) i=some (K! v):=λi a b=>by obtain⟨x,hx⟩:=Ee! ns i.toNat F?;exact⟨x,A9 a (CN! hx)⟩
 refine Aq! (Cy! Wi G! (Dw! hn U!) (Ae (Ay (Av C4 U! G!)))) (Bb! (Ad! 2 dJ.nd (Bl Hs (Bl Ge G! Ag) Ag)) (Cy! Q7 (Dw! hn U!) Ag (Ae (Eh! 2 dJ.nd (Bl Dg (Bl Hs (Bl Ge (Av C4 U! (Bl Dg (Bl Ge G! Ag) (Dw! hn U!))) Ag) (Bl Ge G! Ag)) Ag)))) (Bl Dg (Bl Ge Q! Q!) Ag));refine⟨_,rfl,_,rfl,a,_,rfl,Y! hS,_,_,rfl,rfl,_,rfl,?_⟩;refine U8 (λc1=>?_) (λ_=>?_);.have c1:=BO c1;obtain⟨v,hv⟩:=item k h0 (by rw[hlen] at c1;exact c1);exact⟨_,rfl,_,rfl,a,_,_,_,rfl,rfl,hS,hv,kk v⟩
 .refine⟨_,rfl,_,_,rfl,rfl,Dm!,_,_,rfl,rfl,?_⟩;refine⟨_,rfl,a,_,rfl,Y! hS,_,_,rfl,rfl,_,rfl,?_⟩;refine U8 (λc2=>?_) (λ_=>?_);(.have c2:=BO c2;(have XX:W? 0<W? ns.length:=by rw[hlen] at c2;exact c2);obtain⟨v,hv⟩:=item (k*7 % W? ns.length) (DP _ F?) (DB _ XX);refine⟨_,rfl,_,rfl,_,_,rfl,rfl,Dm!,_,rfl,a,_,rfl,Y! hS,_,_,rfl,rfl,j! hlen XX,a,_,_,_,rfl,rfl,hS,j! hlen hv,_,_,rfl,rfl,Dm!,_,rfl,_,_,rfl,rfl,Dm!,_,_,rfl,rfl,_,_,rfl,rfl,(Cb! 2147483647),?_⟩;refine⟨_,rfl,_,rfl,_,_,rfl,rfl,N? ?_ ?_,_,_,rfl,rfl,(Cb! 2147483629),kk _⟩;(.have:=DP (v*48271+k*7919) (show W? 2147483647≠0 by decide);lia);.have:=DB (v*48271+k*7919) (Cb! 2147483647);lia);.exact⟨_,rfl,_,rfl,_,_,rfl,rfl,N? T! T!,_,_,rfl,rfl,(Cb! 2147483629),kk _⟩
universe E
theorem Y6(h1:IW a b)(h2:IW b c):IW a c:=by rw[Eo] at *;lia
theorem Uv(h:a≠b)(h1:¬IW a b):IW b a:=by rw[Eo] at *;have:¬(a.1=b.1/\a.2=b.2):=λz=>h (Prod.ext z.1 z.2);lia
theorem Kw(key:r?)(x:α):∀{s:R!},wS s.map key->(∀y∈s,key x≠key y)->∃s':R!,s'.Perm (x::s)/\wS s'.map key
 | [],_,_=>⟨[x],Ao!,a!⟩
 | y::s,h,ne=>by have h':=EL.mp h;by_cases e:IW (key x) (key y);(.refine⟨x::y::s,Ao!,EL.mpr ⟨λz hz=>?_,h⟩⟩;rcases ZM hz with rfl|hz;(.exact e);.exact Y6 e (h'.1 z hz));.obtain⟨s',p,q⟩:=Kw key x h'.2 λz hz=>ne z (ZD _ hz);refine⟨y::s',(p.cons y).trans (List.Perm.swap x y s),EL.mpr ⟨λz hz=>?_,q⟩⟩;obtain⟨u,hu,rfl⟩:=ZN hz;rcases ZM (p.mem_iff.mp hu) with rfl|hu;(.exact Uv (ne y BW!) e);.exact h'.1 _ (BG hu)
theorem sorts(key:r?):∀{l:R!},BQ! key->∃s:R!,s.Perm l/\wS s.map key
 | [],_=>⟨[],Ao!,a!⟩
 | x::l,nd=>by have KA:=T0;obtain⟨s,p,q⟩:=sorts key KA.2;obtain⟨s',p',q'⟩:=Kw key x q λy hy e=>KA.1 (AF.mpr ⟨y,p.mem_iff.mp hy,e.symm⟩);exact⟨s',p'.trans (p.cons x),q'⟩
structure Good(G:BX):Prop where
 h1:G.hand.Nodup
 h2:G.hand.length<64
 o1:G? G.AH.map
 o2:G.AH.length<64
 r1:G? G.AN.map
 r2:G.AN.length<64
 at_:∀q∈G.AH,∃a hl,AH! G.holds.find? (q.1,a,hl)/\hl.Nodup/\CX!
structure Told(G:BX)(hs:A!)(os:Bi!)(rs:S?):Prop where
 pm:hs.Perm G.hand
 pw:hs.Pairwise IW
 QE:Rows G os
 pr:rs.Perm G.AN
 wr:wS rs.map V?
theorem GX{l:S?}(nd:G? l.map){q:T2×Int}(hq:q∈l):AH! l.find? q:=by induction l with | nil=>cases hq | cons x l ih =>have KA:=T0;rcases ZM hq with rfl|hq;(.simp);.have ne:¬x.1=q.1:=λz=>KA.1 (AF.mpr ⟨q,hq,z.symm⟩);rw[BN,Ae! ne];exact ih KA.2 hq
theorem zO(g:Good G):∀{s:S?},(∀q∈s,q∈G.AH)->∃os:Bi!,os.map (λq=>(q.1,D?))=s/\∀q∈os,AH! G.AH.find? (q.1,D?)/\∃a hl,AH! G.holds.find? (q.1,a,hl)/\CX!/\q.2.2.Perm hl/\q.2.2.Pairwise IW
 | [],_=>⟨[],rfl,i! (AQ! hq)⟩
 | x::s,h=>by obtain⟨os,e,k⟩:=zO g (i! (h q (ZD _ hq)));have hx:=h x (SL);obtain⟨a,hl,f,nd,z⟩:=g.at_ x hx;obtain⟨hs,p,q⟩:=sorts (λt:T2=>t) (l:=hl) (j! JO nd);rw[JO] at q;refine⟨(x.1,x.2,hs)::os,by rw[AI,e],λy hy=>?_⟩;rcases ZM hy with rfl|hy;(.exact⟨GX g.o1 hx,a,hl,f,z,p,q⟩);.exact k y hy
theorem Good.told(g:Good G):∃hs os rs,Told G hs os rs:=by
 obtain⟨hs,p1,q1⟩:=sorts (λt:T2=>t) (l:=G.hand) (j! JO g.h1);obtain⟨so,p2,q2⟩:=sorts (bn) g.o1;obtain⟨rs,p3,q3⟩:=sorts (bn) g.r1;obtain⟨os,e,k⟩:=zO g (i! (p2.mem_iff.mp hq));have e1:Ab! os.map so.map:=by rw[<-e,AL];rfl
 rw[JO] at q1;exact⟨hs,os,rs,p1,q1,⟨E! e1 (p2.map _),E! e1 q2,k⟩,p3,q3⟩
abbrev Tu:Stmt:=P! 17
abbrev T7:Stmt:=P! 11
abbrev Q3:Stmt:=P! 23
abbrev V2:Stmt:=P! 24
abbrev T1:Stmt:=Ch! 0
abbrev K3:Stmt:=Ch! 1
abbrev Jc:Stmt:=Ch! 2
abbrev Nz:Stmt:=Ch! 3
abbrev Ys:Stmt:=V! 0
abbrev Tq:Stmt:=V! 1
abbrev Tr:Stmt:=V! 2
abbrev Tt:Stmt:=V! 3
abbrev Tn:Stmt:=V! 4
abbrev Ts:Stmt:=V! 5
abbrev Jmn:Stmt:=V! 11
abbrev To:Stmt:=V! 6
abbrev Nx:Stmt:=V! 7
abbrev Iy:Stmt:=V! 9
abbrev K0:Stmt:=V! 10
abbrev Gs:Stmt:=V! 12
abbrev Em:Stmt:=V! 14
abbrev Kz:Stmt:=V! 15
abbrev Tp:Stmt:=V! 16
abbrev Oo:Stmt:=V! 22
structure L8(K:W.Frag)(mg:Br!)(C NL:Addr):Prop where
 cl:VA K C
 nL:A? WF
 nW:A? AO!
 cP:Dh! "Post" C
 cNL:Vm K mg "NoLetter" NL
 list:q? "list"
inductive Zz(C:Addr)(vs:B!)(H:Hp)(Q:VK)(E:XK):Prop
 | mk (p dx:Addr) (_:Bh!) (_:ut H []) (_:∀(d:Addr)(H':Hp),q! d->IF C H' p d 0 []->(DL! (b≠p))->Q .E_ H')
inductive Gd(C:Addr)(vs:B!)(H:Hp)(Q:VK)(E:XK):Prop
 | mk (p d:Addr) (c:Int) (ls:M?) (k s g a:V) (_:vs=[KE,k,s,g,a]) (_:Bp!) (_:ls.length<=500) (_:∀(t:Addr)(H':Hp),q! t->Y? H' t .AZ [K! (c+1),k,s,g,a]->IF C H' p d (c+1) (ls++[(c+1,t)])->(∀b o,be->b≠p->b≠d->F! H' b o)->Q (K! (c+1)) H')
inductive Oi(C:Addr)(vs:B!)(H:Hp)(Q:VK)(E:XK):Prop
 | mk (p d:Addr) (c:Int) (ls:M?) (_:Bh!) (_:Bp!) (_:∀(l:Addr)(H':Hp),q! l->F! H' l (.BC (ls.map λx=>AT x.2))->o0->wP l)
inductive V1(C NL:Addr)(vs:B!)(H:Hp)(Q:VK)(E:XK):Prop
 | mk (p d:Addr) (c:Int) (ls:M?) (n:Int) (_:Os (K! n)) (_:Bp!) (_:((∃(l1 l2:M?)(t:Addr),ls=xL/\∀(H':Hp),IF C H' p d c (l1++l2)->(DL! (b≠d))->wP t)\/((∀l∈ls,l.1≠n)/\ET! NL)))
universe S
theorem Jme:Cj! Ch T1:={}
theorem Jeo(F:C! "__init__" "Post.__init__" T1)(T:EB!):Cu! Zz:=by
 refine g! Jme;obtain⟨p,dx,rfl,hp,k⟩:=h;refine D!;refine R? (Ad (Dm U! Ag rfl) (Ae (Dm U! Fd rfl)));refine⟨_,rfl,p,C,dx,[],rfl,hp,T.cl,T.nL,C5! 0,?_⟩;intro d hd;have g_:p≠d:=λz=>by rw[<-z,Ac] at hd;cases hd
 have RY:q! d:=by rw[Ab (Ne.symm g_)] at hd;exact hd
 refine Eq! (M! g_ Ac) T.nW (C5! 1);refine k d _ RY ⟨⟨dx,Ac⟩,by rw[Ab (Ne.symm g_),Ac];rfl,λl hl=>by simp at hl,CK⟩ (x? ?_);rw[Ab hb,BI! RY,Ab hb];exact e
theorem Jmc:d! [I?,"kind","sender","goal","about"] [I?,"kind","sender","goal","about"] K3:={}
theorem Jh(F:C! "put" "Post.put" K3)(T:EB!):SB [I?,"kind","sender","goal","about"] Gd:=by
 refine g! Jmc;obtain⟨p,d,c,ls,kk,ss,gg,aa,rfl,S,hl,k⟩:=h;refine D!;have hu:=Z!;obtain⟨⟨dx,h1⟩,hd,le,nd⟩:=id S;have gm:p≠d:=S.ne;refine Aq! bv (Ad (B6 hu J! J! (Cj (Aa J! (Aa G! (Aa Q! (Aa Rs (g? (pv 4))))))) rfl) (Ae (Ay J!)));refine⟨_,rfl,p,C,dx,_,_,rfl,h1,T.cl,T.nL,Fl _ _,_,_,rfl,rfl,dx,_,h1,(by rw[We];show 2<1000;decide),?_⟩;rw[Jb5];have h2:ut DZ! (E5 (c+1) d):=Ac;have d2:F! DZ! d (.dK (kvsOf ls)):=M! gm.symm hd
 refine⟨_,rfl,p,C,dx,_,_,rfl,h2,T.cl,T.nL,Fl _ _,_,rfl,_,rfl,_,rfl,_,rfl,C4! 5,?_⟩;intro t ht;have uY:p≠t:=Aj h2 ht;have ud:d≠t:=Aj d2 ht;have vL:q! t:=by rw[Ab uY.symm] at ht;exact ht
 have h3:∀o,ut (upd DZ! t o) (E5 (c+1) d):=λo=>M! uY h2
 have d3:∀o,F! (upd DZ! t o) d (.dK (kvsOf ls)):=λo=>M! ud d2
 refine⟨_,rfl,p,C,dx,_,_,rfl,h3 _,T.cl,T.nW,Fb _ _,_,rfl,p,C,dx,_,_,rfl,h3 _,T.cl,T.nL,Fl _ _,d,_,rfl,F_.k (k:=Sum.inl (c+1)) (d3 _) (j! Lm (Bb (T!))),?_⟩;have sG:DY! (Sum.inl (c+1):Key)=none:=CM! (DE! (by have:=le l hl;simp;lia))
 have sY:putK (kvsOf ls) (Sum.inl (c+1):Key) (V.ref t)=kvsOf (ls++[(c+1,t)]):=by rw[Ex _ sG];unfold kvsOf;rw[ZF];rfl
 rw[sY];refine⟨_,rfl,p,C,dx,_,_,rfl,(M! gm (h3 _)),T.cl,T.nL,Fl _ _,?_⟩;refine k t _ vL (by rw[Ab ud.symm,Ac]) ⟨⟨dx,M! gm (h3 _)⟩,Ac,λl hl=>?_,?_⟩ λb o e hp hb=>?_;.rcases ZI hl with hl|hl;(.have:=le l hl;lia);·(have e:l=(c+1,t):=by simpa using hl);rw[e];exact A' _
 .rw[ZF];refine F7 nd λm=>?_;obtain⟨l,hl,e⟩:=ZN m;have:=le l hl;have e':l.1=c+1:=e;lia
 .rw[Ab hb,BI! vL,Ab hp];exact e
theorem Jmd:Cj! Ch Jc:={}
theorem Wq(F:C! "letters" "Post.letters" Jc)(T:EB!):Cu! Oi:=by
 refine g! Jmd;obtain⟨p,d,c,ls,rfl,S,k⟩:=h;refine D!;obtain⟨⟨dx,h1⟩,hd,le,nd⟩:=id S;refine C7! (EZ! Df (Mx rfl) T.list PyProof.Rows.boot_list (J9 CZ IT NP Ml J!));refine⟨_,rfl,p,C,dx,_,_,rfl,h1,T.cl,T.nW,Fb _ _,(B? (B? (o! (C? (N? _ hd))))),d,_,rfl,rfl,hd,λv hv=>?_⟩;have ndv:d≠v:=Aj hd hv;refine⟨v,d,_,rfl,Ac,M! ndv hd,λl hl=>?_⟩;have nvl:l≠v:=λz=>by rw[z,Ac] at hl;cases hl
 have hZ:q! l:=by rw[Ab nvl] at hl;exact hl
 refine k l _ hZ (by rw[Ac];unfold kvsOf;rw[AL];rfl) (IN ?_);rw[BI! hZ,BI! hv];exact e
theorem Jmb:d! (Is "n") (Is "n") Nz:={}
theorem Jb8(F:C! "taken" "Post.taken" Nz)(T:EB!):ER! f fd (Is "n") (V1 C NL):=by
 refine l! Jmb;obtain⟨p,d,c,ls,n,rfl,S,k⟩:=h;refine D!;have hu:=Z!;obtain⟨⟨dx,h1⟩,hd,le,nd⟩:=id S;have gm:p≠d:=S.ne;refine Aq! (Bf! Dv G! J! (AJ! T.cNL)) (Ae (Ay (Wh J! G! v?)));refine EJ! dx h1 T.nW (Fb _ _) d _ (DM.k (k:=Sum.inl n) hd);rcases k with⟨l1,l2,t,rfl,k⟩|⟨RX,k⟩;·(have ev:Ci (kvsOf (xL)) C6!=some (W! t):=CM! (Xv nd));rw[ev];refine Tk;refine⟨_,rfl,p,C,dx,_,_,rfl,h1,T.cl,T.nW,Fb _ _,d,rfl,N? _ (Y! hd),_,rfl,_,Sum.inl n,_,hd,rfl,ev,?_⟩;rw[X1 nd];(refine k _ ⟨⟨dx,M! gm h1⟩,Ac,λl hl=>le l ?_,?_⟩ (x? Cx!));(.rcases ZI hl with hl|hl;(.exact ZB _ hl);.exact ZC _ (ZD _ hl));.rw[ZF,AI] at nd;rw[ZF];refine AK.mpr ⟨(AK.mp nd).1,(AM.mp (AK.mp nd).2.1).2,λa ha b hb=>(AK.mp nd).2.2 a ha b (ZD _ hb)⟩
 ·(have ev:DY! C6!=none:=CM! (DE! (WP (RX l hl))));rw[ev];exact B7 k
universe E
universe S
inductive Zw(C:Addr)(vs:B!)(H:Hp)(Q:VK)(E:XK):Prop
 | mk (p t:Addr) (G:BX) (th:T2) (_:Bc!) (_:S!) (_:t?) (_:Q (.bl (decide (F! (G.AN.find? (h! Sc)).map (·.2) 0))) H)
theorem Jl9:Bl! Tu:={}
theorem Jel(F:C! "is_spent" "House.is_spent" Tu)(T:I!):SB h? Zw:=by refine g! Jl9;obtain⟨p,t,G,th,rfl,S,ht,k⟩:=h;refine D!;have hu:=Z!;obtain⟨dx,hp⟩:=S.ob;refine C7! (Lc Ca (Jd8 hu J! G! v?) Ag (A7 _));refine⟨_,rfl,p,C,dx,_,_,rfl,hp,T.cl,T.nR,C9 G,G.r,rfl,wT S.dr,_,rfl,_,Ht S.dr ht,?_⟩;cases e:Am! G.AN.find? Sc with | none =>rw[e] at k;exact C? k | some q =>rw[e] at k;refine C? ?_;(have e2:L! (X? q.2=V.int 0)=L! (F! (some q).map (·.2) (W? 0)):=a!);show Q (V.bl (decide (X? q.2=V.int 0))) H;rw[e2];exact k
universe E
structure Fa(K:W.Frag)(mg:Br!)(C NH NI:Addr):Prop where
 cl:VA K C
 nS:A? P?
 nH:A? d?
 nP:A? e?
 nI:A? f?
 nF:A? AP!
 nE:A? B3!
 cP:Dh! "World" C
 cNH:Vm K mg "NoHouse" NH
universe S
inductive Eh(CW C CP NH:Addr)(vs:B!)(H:Hp)(Q:VK)(E:XK):Prop
 | mk (p:Addr) (h:Int) (W:FK) (_:Os jp) (_:lc) (_:sw (Q (W! q) H))
theorem Jdr:d! At At Em:={}
theorem Ea(F:C! "house" "World.house" Em)(T:I!)(TW:v6):ER! f fd At (Eh CW C CP NH):=by
 refine l! Jdr;obtain⟨p,h,W,rfl,S,k⟩:=h;refine D!;obtain⟨dx,hp⟩:=S.ob;refine Aq! (Bf (ZZ (Wa (Az Wi G! Ag (A7 _)) (Ov (Az Jky G! (Dw! T.len J!) (A7 _))))) (AJ! TW.cNH) A4) (Ae (Ay (Av C4 J! G!)));have e0:W? (j? W.qs.map Ba!)=W.qs.length:=a!
 refine D0! _ rfl rfl _ rfl;rcases k with⟨o,k⟩|⟨q,G,i,k⟩;.refine U8 (λ_=>B7 k) (λc=>?_);have c:¬h<0:=λz=>c (decide_eq_true z);refine⟨_,rfl,_,rfl,p,CW,dx,_,_,rfl,hp,TW.cl,TW.nH,Du W,W.hs,_,rfl,o! (DU.of S.hs),_,_,rfl,rfl,_,rfl,?_⟩;rw[e0,decide_eq_true (show W? W.qs.length<=h from o.resolve_left c)];exact B7 k
 .obtain⟨i1,i2⟩:=i.lt;rw[decide_eq_false (show ¬h<0 by lia)];refine Tk;refine⟨_,rfl,_,rfl,p,CW,dx,_,_,rfl,hp,TW.cl,TW.nH,Du W,W.hs,_,rfl,o! (DU.of S.hs),_,_,rfl,rfl,_,rfl,?_⟩;rw[e0,decide_eq_false (show ¬W? W.qs.length<=h by lia)];refine Tk;exact⟨_,rfl,p,CW,dx,_,_,rfl,hp,TW.cl,TW.nH,Du W,_,rfl,W.hs,_,_,_,rfl,rfl,l? S.hs,i.QI,k⟩
inductive Sr(CW C CP NH:Addr)(vs:B!)(H:Hp)(Q:VK)(E:XK):Prop
 | mk (p:Addr) (h:Int) (W:FK) (_:Os jp) (_:lc) (_:sw (Te C [An!] H Q E))
theorem Jgc:d! At At Tq:={}
theorem Jee(F:C! "make" "World.make" Tq)(T:I!)(TW:v6)(MH:AM!)(M1:xz "make" "House.make" ml Ch)(G1:ER! f1 d1 Ch (Te C)):Cr! At (Sr CW C CP NH):=by
 have GH:AB!:=AF!;refine l! Jgc;obtain⟨p,h,W,rfl,S,k⟩:=h;refine D!;have HP:u?:=s?;obtain⟨dx,hp⟩:=S.ob;refine C7! (Dr (pl:=_) Et! T.cl M1.mt G1 hr M1.bd .nil Bp);refine AN!;rcases k with k|⟨q,G,i,k⟩;.exact Z?
 .obtain⟨E',hq⟩:=AC!;exact H! ⟨q,G,i,q,E',_,rfl,hq,E?,k⟩
inductive Ss(CW C CP NH DJ DY:Addr)(vs:B!)(H:Hp)(Q:VK)(E:XK):Prop
 | mk (p:Addr) (h:Int) (va vb:V) (W:FK) (_:vs=[KE,jp,va,vb]) (_:lc) (_:sw (Tf C DJ DY [An!,va,vb] H Dc! E))
theorem Jge:d! GM GM Tr:={}
theorem Jeg(F:C! "hold" "World.hold" Tr)(T:I!)(TW:v6)(MH:AM!)(M1:xz "hold" "House.hold" mf i?)(G1:FE P w K mg base 3 f1 d1 i? (Tf C DJ DY)):B9! 4 GM (Ss CW C CP NH DJ DY):=by
 have GH:AB!:=AF!;refine l! Jge;obtain⟨p,h,va,vb,W,rfl,S,k⟩:=h;refine D!;have HP:u?:=s?;obtain⟨dx,hp⟩:=S.ob;refine EI! Dp!;refine AN!;rcases k with k|⟨q,G,i,k⟩;.exact Z?
 .obtain⟨E',hq⟩:=AC!;exact H! ⟨q,G,i,q,E',_,rfl,hq,E?,_,rfl,_,rfl,k⟩
inductive Sv(CW C CP NH DJ DY MI:Addr)(vs:B!)(H:Hp)(Q:VK)(E:XK):Prop
 | mk (p:Addr) (h:Int) (va vb:V) (W:FK) (_:vs=[KE,jp,va,vb]) (_:lc) (_:sw (Th C DJ DY MI [An!,va,vb] H Dc! E))
theorem Jgh:d! GM GM Tt:={}
theorem Jej(F:C! "drop" "World.drop" Tt)(T:I!)(TW:v6)(MH:AM!)(M1:xz "drop" "House.drop" mX i?)(G1:DT! 4 f1 d1 Th):B9! 5 GM (Sv CW C CP NH DJ DY MI):=by
 have GH:AB!:=AF!;refine l! Jgh;obtain⟨p,h,va,vb,W,rfl,S,k⟩:=h;refine D!;have HP:u?:=s?;obtain⟨dx,hp⟩:=S.ob;refine EI! Dp!;refine AN!;rcases k with k|⟨q,G,i,k⟩;.exact Z?
 .obtain⟨E',hq⟩:=AC!;exact H! ⟨q,G,i,q,E',_,rfl,hq,E?,_,rfl,_,rfl,k⟩
inductive Sq(CW C CP NH DJ DY MI:Addr)(vs:B!)(H:Hp)(Q:VK)(E:XK):Prop
 | mk (p:Addr) (h:Int) (va vb:V) (W:FK) (_:vs=[KE,jp,va,vb]) (_:lc) (_:sw (Sy C DJ DY MI [An!,va,vb] H Dc! E))
theorem Jgb:d! GM GM Tn:={}
theorem Jeb(F:C! "take" "World.take" Tn)(T:I!)(TW:v6)(MH:AM!)(M1:xz "take" "House.take" Z7 i?)(G1:DT! 4 f1 d1 Sy):B9! 5 GM (Sq CW C CP NH DJ DY MI):=by
 have GH:AB!:=AF!;refine l! Jgb;obtain⟨p,h,va,vb,W,rfl,S,k⟩:=h;refine D!;have HP:u?:=s?;obtain⟨dx,hp⟩:=S.ob;refine EI! Dp!;refine AN!;rcases k with k|⟨q,G,i,k⟩;.exact Z?
 .obtain⟨E',hq⟩:=AC!;exact H! ⟨q,G,i,q,E',_,rfl,hq,E?,_,rfl,_,rfl,k⟩
inductive Su(CW C CP NH DJ:Addr)(vs:B!)(H:Hp)(Q:VK)(E:XK):Prop
 | mk (p:Addr) (h:Int) (vb:V) (W:FK) (_:vs=[KE,jp,vb]) (_:lc) (_:sw (Tg C DJ [An!,vb] H Dc! E))
theorem Jgg:d! [I?,"h","b"] [I?,"h","b"] Ts:={}
theorem Jei(F:C! "free" "World.free" Ts)(T:I!)(TW:v6)(MH:AM!)(M1:xz "free" "House.free" mZ FB)(G1:BP! f1 d1 FB (Tg C DJ)):BZ! [I?,"h","b"] (Su CW C CP NH DJ):=by
 have GH:AB!:=AF!;refine l! Jgg;obtain⟨p,h,vb,W,rfl,S,k⟩:=h;refine D!;have HP:u?:=s?;obtain⟨dx,hp⟩:=S.ob;refine EI! (g? Q!);refine AN!;rcases k with k|⟨q,G,i,k⟩;.exact Z?
 .obtain⟨E',hq⟩:=AC!;exact H! ⟨q,G,i,q,E',_,rfl,hq,E?,_,rfl,k⟩
inductive Gp(CW C CP NH:Addr)(K:W.Frag)(vs:B!)(H:Hp)(Q:VK)(E:XK):Prop
 | mk (p:Addr) (h:Int) (W:FK) (_:Os jp) (_:lc) (_:sw (Ku C K [An!] H Q E))
theorem Jdq:d! At At K0:={}
theorem Jb6(F:C! "state" "World.state" K0)(T:I!)(TW:v6)(MH:AM!)(M1:xz "state" "House.state" Oq Ch)(G1:BP! f1 d1 Ch (Ku C K)):BZ! At (Gp CW C CP NH K):=by
 have GH:AB!:=AF!;refine l! Jdq;obtain⟨p,h,W,rfl,S,k⟩:=h;refine D!;have HP:u?:=s?;obtain⟨dx,hp⟩:=S.ob;refine C7! (Dr (pl:=_) Et! T.cl M1.mt G1 hr M1.bd .nil Bp);refine AN!;rcases k with k|⟨q,G,i,k⟩;.exact Z?
 .obtain⟨E',hq⟩:=AC!;exact H! ⟨q,G,i,q,E',_,rfl,hq,E?,k⟩
universe E
def WM(G:BX)(tb:T2)(wt:Int):S?:=if CT! then bi BH! else G.AH
theorem Jhl{l:S?}{t:T2}(h:t∉BL!):XV l.find? X!=none:=AY.mpr (i! (by have:¬X!:=λz=>h (AF.mpr C0!);simpa using this))
theorem Lp(hd:DK! C7)(ht:t?)(f:AV! l.find? Sc (th,v)):CF! d t V.int v:=Al! (Ht hd ht) f
universe S
inductive Z3(C:Addr)(vs:B!)(H:Hp)(Q:VK)(E:XK):Prop
 | mk (p b:Addr) (G:BX) (tb:T2) (wt:Int) (_:DX!) (_:S!) (_:v!) (_:BG!) (_:b? { G with A_:=k!,AH:=WM G tb wt })
theorem Jmj:Dj! T6:={}
theorem Jet{f:Addr}{fd:FuncData}(F:C! "given" "House.given" T6)(T:I!):SB No Z3:=by
 refine g! Jmj;obtain⟨p,b,G,tb,wt,rfl,S,hb,z,k⟩:=h;refine D!;have hu:=Z!;obtain⟨dx,hp⟩:=S.ob;refine R? (Ad (Bf! Ka G! J! (Cs! Q! yT)) (Ae bv));refine EJ! dx hp T.nO (De G) G.o _ (Ht S.dO hb);by_cases h:CT!;.have fo:=Lx h;rw[fo];refine B7 ?_;have g1:DN! b (Ai G.AH tb):=Lp S.dO hb fo;refine⟨_,rfl,p,C,dx,_,_,rfl,hp,T.cl,T.nO,De _,_,rfl,G.o,_,rfl,g1,_,rfl,_,_,rfl,rfl,_,UF S.dO,?_⟩;rw[Ey];have S1:Aa! G.o C7 (Be! BH!) (Ai! BH!):=S.JY _;obtain⟨E',HJ⟩:=S1.ob;refine UV;rw[Bi];(have e:WM G tb wt=bi BH!:=by unfold WM;rw[AD h]);rw[e] at k;exact Bw! (Ai! BH!)
 .rw[Jhl h];refine Tk;(have e:WM G tb wt=G.AH:=by unfold WM;rw[AB h]);rw[e] at k;refine CA! dx hp dx hp;rw[Bi];exact Ed! (S.fld dx G.AU (k!)) (AZ! h1)
def WE(G:BX)(tb:T2)(HK:Bool):A!:=if HK=true then CC! else G.hand
def bH(G:BX)(tb:T2)(sh:Int)(HK:Bool):S?:=bi (ww (z? (HK=true) (sh-1) (2*sh-1)))
inductive Vz(C:Addr)(vs:B!)(H:Hp)(Q:VK)(E:XK):Prop
 | mk (p b:Addr) (G:BX) (tb:T2) (sh:Int) (HK:Bool) (_:vs=[KE,AW!,K! sh,.bl HK]) (_:S!) (_:v!) (_:BG!) (_:CW!) (_:CT!) (_:b? { G with A_:=k!,hand:=WE G tb HK,AH:=bH G tb sh HK })
theorem Jma:d! (DW! "mine") (DW! "mine") Ny:={}
theorem Jb9(F:C! "passed" "House.passed" Ny)(T:I!):SB (DW! "mine") Vz:=by refine g! Jma;obtain⟨p,b,G,tb,sh,HK,rfl,S,hb,z1,z2,h,k⟩:=h;refine D!;have hu:=Z!;obtain⟨dx,hp⟩:=S.ob;refine R? (Ad (Bf (Fx Rs) (Ad (Bk! Fz) (Cs! (Bl Uc Q! Ag) D4)) (Cs! (Bl Uc (Bl Ge Ag Q!) Ag) D4)) (Ae bv));have fo:=Lx h;refine⟨_,rfl,HK,rfl,?_⟩;cases HK with | true =>refine B7 ?_;refine AK! dx hp T.nH (Fm G) G.h (UF S.dh);rw[Et];have S1:DM! Op ga:=S.NK Op;(have KY:GE D7!:=λb' o e h1 h2=>AZ! AE!);have b1:=D5! KY hb hb hb;rw[show(HO.dT ((Bj G.hand tb).map Ev))=A8 Op from rfl];generalize D7!=H1 at S1 KY b1;obtain⟨E',HJ⟩:=S1.ob;have g1:DM H1 G.o (W! b) (some (V.int (Ai G.AH tb))):=Lp S1.dO b1 fo;refine⟨_,rfl,p,C,E',_,_,rfl,HJ,T.cl,T.nO,De _,_,rfl,G.o,_,rfl,g1,_,rfl,_,_,rfl,rfl,_,_,rfl,rfl,_,Ej! S1.dO b1 (w? (G.AH.length<=1000)),?_⟩;rw[Ey];have S2:=S1.JY (bi (ww (sh-1)));(have JB:GE (upd H1 G.o (C7 (Be! (ww (sh-1))))):=λb' o' e h1 h2=>Em! AE! KY);obtain⟨IY,GO⟩:=S2.ob;refine CA! IY GO IY GO;rw[Bi];exact DQ! S2.fld IY JB | false =>refine Tk;have g1:DN! b (Ai G.AH tb):=Lp S.dO hb fo;refine⟨_,rfl,p,C,dx,_,_,rfl,hp,T.cl,T.nO,De _,_,rfl,G.o,_,rfl,g1,_,rfl,_,_,rfl,rfl,N? am am,_,_,rfl,rfl,_,_,rfl,rfl,_,UF S.dO,?_⟩;rw[Ey];have S1:Aa! G.o C7 (Be! (ww (2*sh-1))) (Ai! (ww (2*sh-1))):=S.JY _;obtain⟨E',HJ⟩:=S1.ob;refine UV;rw[Bi];exact Bw! (Ai! (ww (2*sh-1)))
universe E
theorem T9(hd:DK! C1)(ht:t?)(f:Ax! l.find? Sc th):CF! d t V.ref a:=BE! (AG! hd) (Dl (k:=EX!) (f:=Ec!)) f
structure mO(mg:Br!):Prop where
 dict:q? "dict"
 list:q? "list"
 max:q? "max"
universe S
inductive Gr(vs:B!)(H:Hp)(Q:VK)(E:XK):Prop
 | mk (sa l:Addr) (as:O!) (ts:A!) (hl:HL) (n:Nat) (R:A!) (_:vs=[N! sa,N! l]) (_:Er! sa) (_:a?) (_:ts.length<=400) (_:x! l C1 hl) (_:hl.length<=400) (_:(∀q∈hl,x! D? A8 w!/\q.2.2.length<=400/\D?≠l)) (_:LR (OV hl) n (ts.filter (EV! Cl!)) [] R) (_:n<=5000) (_:∀(x:Addr)(H':Hp),q! x->o0->Y? H' x A8 R->wP x)
theorem Z':d! ["starts",AS!,"found","thing","ahead"] ["starts",AS!] Fw:={}
theorem Kb(F:C! "reached" "reached" Fw):ES! ["starts",AS!] Gr:=by
 refine g! Z';obtain⟨sa,l,as,ts,hl,n,R,rfl,es,th,zt,el,zl,hq,nv,zn,k⟩:=h;refine D!;have hu:=Z!;refine DU! 2 Z'.nd Ds (Bb! (Je (te:=Bx 0) (i:=4) (caps:=Dk!) Z'.nd rfl rfl rfl rfl (Do U!) rfl ZV rfl ZV rfl (C? trivial) (λy h=>MV ⟨_,rfl⟩ h) ⟨v?,trivial⟩ ZV (A4! (D7 (D3 (Ka hu U! G!)))) (A4! (pv 0))) (Ow PassesOwn.never (Wc (pv 4) (λ_=>rfl)) (Ad (Ad! 3 Z'.nd (J9 BB QC QB Y1 (pv 4))) (Ae (Bf! Dv Rs Q! (Ad (B6 hu Q! Rs Fz rfl) (Ae (A3 (E6 BB GB GA Ji (pv 4) (g? (PE.TX (En (te:=Bx 0) (caps:=Dk!) rfl (La (Ba hu G! Rs)) rfl ZV rfl ZV rfl (C? trivial) (λy h=>MV ⟨_,rfl⟩ h) ⟨v?,trivial⟩ ZV (A4! (D7 (D3 (Ka hu U! G!)))) (A4! (pv 0))))))))))))) Q!);intro fa UT;have s1:=Ah (o:=.dT []) UT;have e1:Y? (upd H fa (.dT [])) fa A8 []:=Ac;generalize upd H fa (.dT [])=H1 at s1 e1;have gU:AW H1 as ts:=AW.keep (HN s1) th;refine⟨_,rfl,sa,rfl,⟨_,DU.of (s1 _ _ es)⟩,λaa XA=>?_⟩;refine Jn (b:=EV! Cl!) (caps:=Dk!) XA F? (s1 _ _ es) gU (λH2 a t Q' sm ha ht q=>?_) λH2 bs sm ea tb=>?_;.obtain⟨o,g,eo⟩:=Dx! Mo (o! (sm _ _ (s1 _ _ el))) ha;refine D0! rfl l o rfl g;rw[eo];exact Ap! q
 have cM:q! aa:=by cases c:H aa with | none=>rfl | some o=>rw[s1 _ _ c] at XA;cases XA
 have cL:fa≠aa:=λz=>by rw[<-z,e1] at XA;cases XA
 refine⟨λm σ H'=>∃(ahead found:A!)(IB:O!)(u3:Option V),σ=[Db sa,Db l,Db fa,u3,Db aa]/\o0/\Y? H' fa A8 found/\ii H' aa IB.map/\AW H' IB ahead/\LR (OV hl) m ahead found R/\found.length+m<=5000/\EY! Cl!,⟨n,_,[],bs,_,rfl,Al s1 sm,sm _ _ e1,ea,tb,nv,by simpa using zn,λt ht=>B5! (BU! ht)⟩,?_⟩;rintro m σ H' ⟨ahead,found,IB,u3,rfl,sh,ef,QH,R_,rc,zm,hk⟩;refine⟨_,rfl,_,Y! ⟨_,l? QH,rfl⟩,?_⟩;cases m with | zero =>obtain⟨e0,eR⟩:=rc;rw[e0] at R_;have e2:IB=[]:=CA.mp (Paired.length R_);rw[e2];refine By (Ap! (k fa H' UT sh ?_));rw[eR];exact ef | succ m =>have kW:=rc.len;obtain⟨a,t,aW,rc⟩:=rc;rw[aW] at R_ kW;obtain⟨IA,c,e2,gR,ec⟩:=Ob R_;subst e2;(have em:(IA++[c]).map V.ref=IA.map V.ref++Af! c:=AR! ZF);rw[em] at QH ⊢;rw[show(!(IA.map V.ref++Af! c).isEmpty)=true by cases IA<;>rfl];refine B7 (R? (λER H' h=>⟨m,II m,h⟩));refine⟨_,rfl,Y! ⟨rfl,_,l? QH⟩,aa,_,_,rfl,rfl,QH,U0 _ _,?_⟩;rw[show(IA.map V.ref++Af! c).dropLast=IA.map V.ref by simp];(have s3:Bh H By!:=IN (M! (Aj e cM) (sh _ _ e)));(have QG:BW H' By!:=B0! QH);(have QN:Y? By! fa A8 found:=M! cL ef);have XC:ii By! aa IA.map:=Ac;have PM:AW By! IA a:=AW.keep QG gR;have UX:=QG.AZ _ _ ec;generalize upd H' aa (KF IA.map)=H3 at s3 QG QN XC PM UX;refine⟨_,rfl,_,rfl,fa,_,rfl,Fn QN UX,_,rfl,?_⟩;rcases rc with⟨hf,rc⟩|⟨hf,rc⟩;(.rw[AD hf];exact By ⟨a,found,IA,_,rfl,s3,QN,XC,PM,rc,T!,λu hu=>hk u (j! aW (ZB _ hu))⟩);.rw[AB hf];refine B7 (D0! rfl fa _ rfl (F_.t (k:=tk t) QN UX (EQ! (Ed (T!)))));rw[Et,show Bj found t=KM by unfold Bj;rw[AB hf]];(have s4:Bh H B1!:=IN (M! (Aj e UT) (s3 _ _ e)));(have LA:BW H3 B1!:=B0! QN);have TB:F! B1! fa (A8 (KM)):=Ac;(have SF:ii B1! aa IA.map:=M! cL.symm XC);have PL:AW B1! IA a:=AW.keep LA PM;have bY:=LA.AZ _ _ UX;rw[show HO.dT ((KM).map Ev)=A8 (KM) from rfl];generalize upd H3 fa (A8 (KM))=H4 at s4 LA TB SF PL bY;have nB:Cl!:=hk t (j! aW (ZC _ A3!));obtain⟨ad,aV⟩:=N5 nB;have mq:=AJ aV;obtain⟨q1,q2,q3⟩:=hq _ mq;have q1:x! ad A8 ci:=q1;have q2:(Bn hl t).length<=400:=q2;have q3:ad≠l:=q3;refine⟨_,rfl,Y! ⟨rfl,_,l? SF⟩,_,rfl,_,rfl,l,_,rfl,T9 (s4 _ _ el) bY aV,ad,_,rfl,s4 _ _ q1,λob pl QM=>?_⟩;(have JKX:aa≠ad:=λz=>by rw[z,q1] at cM;cases cM);(have JKV:fa≠ad:=λz=>by rw[z,q1] at UT;cases UT);refine Mu (b:=CD! (u∈AC hl.map)) (caps:=Dk!) (l:=Bn hl t) (key:=λq=>q) (val:=Dg!) (ob:=ob) QM F? Ac (λH2 a' u Q' nK ha hu' q=>?_) λH5 aZ uA ep5 YR=>?_;(.obtain⟨o,g,eo⟩:=Dx! Mo (o! (nK l (C1 hl) (M! q3.symm (s4 _ _ el)))) ha;refine D0! rfl l o rfl g;rw[eo];exact Ap! q);.have f5:F! H5 ad (.GF ob (A8 ci)):=uA _ _ Ac;refine⟨upd H5 ad (A8 ci),⟨ad,ob,_,f5,λo v z=>?_,rfl⟩,?_⟩;(.have z:J? ad (.GF o v):=z;rw[q1] at z;cases z);(have n9:pl≠ad:=λz=>by rw[z,Ac] at QM;cases QM);(have s6:Bh H4 (upd H5 ad (A8 ci)):=IN (by by_cases hb:b=ad;(.subst hb;rw[s4 _ _ q1] at e;rw[Ac];exact e);.rw[Ab hb];exact uA _ _ (Cx!)));(have l6:ii (upd H5 ad (A8 ci)) pl aZ.map:=M! n9 ep5);(have TL:AW (upd H5 ad (A8 ci)) aZ (OV hl t):=by (have YR:AW H5 aZ (OV hl t):=by rw[JO] at YR;exact YR);refine Ap (λb u e=>?_) YR;rw[Ab λz=>by rw[z,f5] at e;cases e];exact e);generalize upd H5 ad (A8 ci)=H6 at s6 l6 TL;have zz:=rc.len;rw[ZE] at zz;have l1:=AX! PL;have l2:=AX! TL;refine⟨aa,pl,_,_,rfl,rfl,s6 _ _ SF,l6,EF (Ed (by rw[ZA,ZA];lia)),?_⟩;rw[<-ZF];(have RV:BW H6 (upd H6 aa (KF (IA++aZ).map)):=B0! (s6 _ _ SF));refine⟨a++OV hl t,KM,IA++aZ,_,rfl,IN ?_,?_,Ac,AW.keep RV (Hj (AW.keep (HN s6) PL) TL),rc,?_,BD!⟩;(.rw[BI! cM];exact s6 _ _ (s4 _ _ e));(.rw[Ab cL];exact s6 _ _ TB);(.rw[ZE];show found.length+1+m<=5000;lia);.rcases ZI hu with hu|hu;(.exact hk u (j! aW (ZB _ hu)));.have:=BU! hu;simpa using this
universe E
universe S
inductive yY(C:Addr)(vs:B!)(H:Hp)(Q:VK)(E:XK):Prop
 | mk (p ta:Addr) (G:BX) (as:O!) (ts:A!) (_:Os (N! ta)) (_:S!) (_:Cz! G.AH.map) (_:Er! ta) (_:a?) (_:b? (Am G ts))
theorem av:d! [I?,"things","thing"] (Is "things") Q3:={}
theorem Jg0(F:C! "lose" "House.lose" Q3)(T:I!):SB (Is "things") yY:=by
 refine g! av;obtain⟨p,ta,G,as,ts,rfl,S,ke,et,th,k⟩:=h;refine D!;have hu:=Z!;have lt:=A0!;refine R? (Ae (Ee PassesOwn.never rfl (Do G!) (Bk (i:=2) av.nd rfl (Or.inl rfl)) (Ae (Bf! Ka Q! J! (Ad (A3 (Fy hu J! Q! v?)) (Ae (A3 (Fy hu J! Q! v?))))))));refine⟨_,rfl,ta,rfl,⟨_,l? et⟩,?_⟩;refine Io (K:=K) (a:=ta) (xs:=as.map V.ref) (λi σ H2=>∃u2:Option V,σ=[Db p,Db ta,u2]/\KB H2 (Am G (ts.take i))/\GE H2) ⟨_,rfl,by rw[JP,Qa];exact S,λb o e _ _=>e⟩ (λi σ H2 _ h=>let⟨_,_,_,fr⟩:=h;DU.of (fr _ _ et (S.RL et).1 (S.RL et).2)) ?_ ?_;.rintro i x σ H2 hx ⟨u2,rfl,S2,JB⟩;rw[ZH] at hx;cases ea:as[i]? with | none=>rw[ea] at hx;cases hx | some a =>rw[ea] at hx;have hx:AT a=x:=ZO hx;subst hx;obtain⟨t,ht⟩:=C8! i (by have:=(ZJ ea).1;lia);have ha:=Aw th i a t ea ht;have WL:=D5! JB ha ha ha;obtain⟨IY,GO⟩:=S2.ob;obtain⟨o,g,eo⟩:=Mo (k:=bn) (f:=SZ) (o! S2.dO) WL;have f1:=Fg A5! G.AH ht;have f2:=Fg CJ! G.holds ht;refine EJ! IY GO T.nO (De _) G.o o g;rw[eo];(have ks:Ab! (Am G (ts.take i)).holds.map (Am G (ts.take i)).AH.map:=by show Ab! (G.holds.filter (h! (q.1∉A2!))).map (G.AH.filter (h! (q.1∉A2!))).map;rw[Bt! CJ! G.holds (t∉A2!),Bt! A5! G.AH (t∉A2!),ke]);by_cases h:K? (Am G (ts.take i)).AH.map;(.rw[BN!];obtain⟨v1,oZ⟩:=Gi (l:=(Am G (ts.take i)).AH) (k:=λq=>q.1) (f:=SZ) h;obtain⟨v2,oY⟩:=Gi (l:=(Am G (ts.take i)).holds) (k:=λq=>q.1) (f:=Ec!) (j! ks h);refine B7 ⟨_,rfl,p,C,IY,_,_,rfl,GO,T.cl,T.nO,De _,G.o,rfl,wT S2.dO,_,rfl,_,tk t,_,a,S2.dO,rfl,WL,oZ,?_⟩;rw[F4 (k:=bn) (f:=SZ)];have S3:=S2.JY (n? Cg!);(have MQ:GE (upd H2 G.o (C7 (n? Cg!))):=λb o e h1 h2=>Em! (Cv! h2) JB);have iD:=D5! MQ ha ha ha;rw[show HO.dT ((n? (h! NE)).map λq=>(tk q.1,V.int q.2))=C7 (Am! n? NE) from rfl];have S3:KB (upd H2 G.o (C7 (n? Cg!))) { Ds! with AH:=SC n? NE }:=S3;generalize upd H2 G.o (C7 (n? Cg!))=H3 at S3 MQ iD;obtain⟨OH,PJ⟩:=S3.ob;refine⟨_,rfl,p,C,OH,_,_,rfl,PJ,T.cl,T.nL,Ei _,G.l,rfl,wT S3.dl,_,rfl,_,tk t,_,a,S3.dl,rfl,iD,oY,?_⟩;have e3:Dt (({ Ds! with AH:=SC n? NE }:BX).holds.map AD!) (tk t)=(Cc! (h! NE)).map AD! :=Dx! F4 _ t;rw[e3];have S4:=S3.SS (hl:=SC Cc! NE) FA;(have eG:Am G (ts.take (i+1))={ Ds! with AH:=Cm! n?,holds:=Cm! Cc! }:=by unfold Am;rw[f1,f2]);refine⟨_,rfl,E! eG S4,λb o e h1 h2=>?_⟩;rw[Ab λz=>h2 (by rw[z];show G.l∈y!;simp[BI])];exact MQ _ _ e h1 h2);.rw[Ci!];have oA:∀q∈(Am G (ts.take i)).AH,NE:=λq hq z=>h (AF.mpr C0!);have n_:∀q∈(Am G (ts.take i)).holds,NE:=λq hq z=>h (c? ks (AF.mpr C0!));(have eG:Am G (ts.take (i+1))=Ds!:=by (have a1:Cm! n?=(Am G (ts.take i)).AH:=EI.mpr (i! (WP (oA q hq))));(have a2:Cm! Cc!=(Am G (ts.take i)).holds:=EI.mpr (i! (WP (n_ q hq))));unfold Am at a1 a2 ⊢;rw[f1,f2,a1,a2]);exact By ⟨_,rfl,E! eG S2,JB⟩
 .rintro σ H2 ⟨u2,rfl,S2,JB⟩;rw[ZA,lt,BP] at S2;exact k H2 S2 JB
end
mutual
def Z:=#[AS!,T2×Int,
E?,.ref,
y!,(·.1),
S!,"self",
BP!,"thing",
T?,"back",
z!,.int,
BQ!,"give_back",
Q! a b,by rw[a];exact b,
ci a b,by rw[a,b];rfl,
CS! a,by have:=a;lia,
v? a,by rw[a];lia,
B!,by lia,
i!,.inr,
Ce! a,λb o e hb=>a,
U? a,λb o e=>a,
F? a,by rw[a];rfl,
X! a,λq hq=>a,
L?,.nil,
DJ! a,by show a;decide,
cr a b c,by rw[a,b];exact c,
db,by decide,
ga,by simp,
w? a,λb o e h1 h2=>a,
U! a b,by rw[<-a];exact b,
Y!,"hold",
k?,"more",
G?,"pass",
Ex! a,W.ls.length<=a,
IN,"share",
Cf!,Addr×BX,
Ez!,tb∈G.hand,
E2!,by simp[Cm],
A3!,t∈G.hand,
K?,by simpa using h,
E9!,G'.BL=G.BL,
FA! a,∀t∈G'.hand,a,
t? a,λt ht=>a,
No,λt _ h=>h,
u? a,by show a;lia,
A5! a,{ G with hand:=a },
bn,l.th=t,
x!,a++b,
xz a,∀l∈ls,a,
bv,l∈ls,
S? a b,by rw[a,b],
BB!,b∈G.hand,
ca,t=l.th,
Cr! a,by simpa using a,
Ax!,fi.length=m,
K! a,some a,
A! a,.inl a,
D! a,Ai a t,
L! a b c,a b=K! c,
V! a,a y!,
j! a,(a:Int),
H? a,decide (a),
F! a,i! a,
C!,j! i,
M? a,a=K! (q,G),
x? a,(qs.set i (q,a)),
k!,(pv 0),
l!,(keepR G R),
IR,W.c+1,
T! a b,Cs a n b,
Cg! a b c,a b m c sh qs ls,
Z!,D! G.AN,
e?,(Am G ts),
H!,(x!),
I!,A! h,
G! a b,Ck a n b,
V? a b,L! H a b,
N? a,⟨_,a⟩,
O? a,(Aa a Af),
E!,M? (qs[i]?),
o! a,E? a,
W?,D! G.AH,
l? a,⟨rfl,a⟩,
P? a,t∈V! a,
m?,(ts.take i),
Fc!,(Ar IN (z! sh) []),
J!,List (AS!),
ii a b,KO qs ls a b,
M!,List LT,
N!,AD c,
O!,List (Cf!),
P!,AB c,
Is a,(t? (A! a)),
R!,(Ao k! rfl),
I? a b,absurd a b,
f? a b c d e,L! (upd a b c) d e,
jp a,(.BC (a V.ref)),
A? a,LB t a,
Ey!,Ai G.AN b,
Q?,List T2,
Ix a b,ii (x? a) b,
W! a b,(Q! a b),
a!,(B!),
d!,q.1=t,
g!,List V,
h! a b,F! ⟨a,b⟩,
Fd!,(Ar "post" (E? po) (Ar "houses" (E? r) Fc!)),
q! a,z! a,
y? a,CF.of a,
v!,[S!],
Ay!,V.int q.2,
w!,Sd m G n,
B? a,.inl (a),
n? a b,L! H2 a b,
Ch!,V! G.AH.map,
z? a b c,(Ad a (Ad b c)),
Az! a,⟨q,hq,a⟩,
Ci!,(s,tick,S),
C?,Cg! Wl C n,
E0! a,λz=>a z.symm,
D?,Cg! Wg D n,
lc,(G.BL,G.AU),
g? a,Sd m a (n+1),
J?,λq=>H? (q.1≠t),
E1!,(.inl ht),
o? a,i! (i! a),
AC a,AF.mpr a,
X?,r.2.2,
A0! a b,if a then K! b else none,
FL!,(Or.inl rfl),
R?,QJ G t,
KB a,a=Z!-W?+Cr t ls,
Y? a,Paired.length a,
KE a,(a y!).Nodup,
KF a,λt=>H? a,
o0 a,K! (E? a),
Z?,List Addr,
a?,List LL,
KM,(pv 1),
b?,(pv 2),
c?,x? G',
pi,o! p,
Cj!,V.ref b,
d?,DQ.mp ht,
NE a b,AS C a p b,
re,Ey! / 2,
sB,⟨k?,l.th.1,l.s,l.th,sh⟩,
FM!,λvs H Q E h=>?_,
h?,λq:T2×Int=>q.1,
A1! a,⟨_,a,?_⟩,
FN! a b c,x.next hi a rfl b (λt _=>?_) c,
sK,(ZL ..),
sw,Bo G q.1,
i? a b c,An a b (Ak c),
A2! a b,V! (Ck a n b).map,
j? a b c,EU K a b c f fd,
p? a,(λ_ _ _ _ _=>a),
E3! a,(λr hr t ht=>a),
q? a b,Q! (Ab a) b,
r?,(Am G m?).AH.filter,
s?,F! (Az! ht),
A4! a,V? b a,
FO! a b,OJ m qs ls a n b se,
FP! a b c,Ax (i:=a) b rfl FL! c,
E4! a b c d e f,(x.of a rfl rfl b (λq hq t ht=>c) d e f).tk,
E5! a b,W.qs.set a (q,b),
Fe! a b c,⟨x.step hi a (Is b) st c,st⟩,
E6! a c d,⟨a,C!,c,b,d⟩,
E7! a,⟨r,a,rfl,ht⟩,
Ck!,(IR),
Cl!,(us.map y!).take,
AT,G.A_+1,
FQ!,Int×Int×HS,
Cm! a,a (B!),
E8! a b,a (λq=>H? b),
Cn!,j! j,
At,AD rfl,
Co! a,λq=>H? (q.1∉a),
Ch,(.BC []),
Db,(.BC ys),
EQ,ZI hz,
Ev,l? (λD_ A outer s hr=>?_),
FR! a,AO CW C CP H' p a,
FB a b c d,DH P w K mg base 1 a b c (d C),
FM,x.BL hi,
FS a b,CF K H a b,
GE a b,¬((a:Str)=b),
GM,Ok G n,
FS! a b,Wg D m (n+1) sh a b,
Cp!,⟨rfl,rfl,rfl,rfl⟩,
Go,Txt K mg C DJ DY MI NW,
Op,r.2.1,
Os a b c d,A! ⟨a,b,c,d⟩,
PP,List HS,
Rs,(pv 5),
FB! a b,V! (a b).map,
SB,AD d.symm,
SC,(t? ?_),
SL a b,a G l.th b,
SZ,ZI hr,
Sc,P? G.AH.map,
TD a,i! (.inl a),
Tk,[S!,"things"],
T0 a,⟨_,rfl,a⟩,
FC!,(AE.mp hq).1,
FD!,P++(Q++R),
UF a b c,a _ _ b (Ne.symm c),
FE! a b c,FN! a b (c),
FF! a,Q (E? a) H',
FT! a,(rs.filter λq=>! a),
FG! a b c d e f,(As (pl:=_) a b c d hr e L? Bg f),
FH!,GV p W H H',
Ff! a b c d e,Fe! a b (c hi (d) λt ht ne=>e),
FI!,(Av Aq (pv 1) Ag),
UV,AB (E0! d),
Uf a b,Wl C m (n+1) sh a b,
WF,(λt h=>I!),
WP a,F.JD a FM!,
XV,Cd G ZV,
FJ! a,kq.AZ _ _ (LA.AZ _ _ a),
am,(.BC ([]++[V.int (IR)])),
ap a,NX qs ls a,
be a,(qs.set l.th.1.toNat (q,Gy G l.th sh a)),
bi,Dq _ _ ZV ZV,
ut,(ga),
FU! a b c,(FP! a b c),
v4,λq=>Ay!,
v6 a b,λr hr=>a r b,
wE a,λr=>H? a,
wP,q.1=tb,
wS,tb∈Ch!,
wT,λl h=>ZB _ h,
FV! a b c,(A0! (a/\b) c).toList,
wp,fi++[Ci!],
wv,F! h,
ww,P? l.map,
FW!,V.ref q.2.1,
xL,[S!,"h"],
AA!,(AE.mp hr).1,
AB!,Bo l! q.1,
AC!,Bo e? q.1,
AD!,KG m l,
AE! a,⟨r,hr,a⟩,
FX!,G.AN.length+_<=_,
AF!,Bj G.hand tb,
AG!,r.1=j! h,
AH!,(DJ! (2<=sizeLine)),
AI!,FO! al fi,
AJ! a,(a l hl nb),
AK!,(.GF o (.dK kvs)),
AL!,x.sd i q G hi,
AM!,⟨C!,0,0,h,o,l,r',[],[],[],[]⟩,
AN!,rs.Perm G.AN,
AO!,T2×Int×Q?,
Fg!,⟨Y!,l.th.1,l.x,l.th,sh⟩,
FY! a c,Ah (o:=.AZ [Cj!,a]) c,
AP!,Fa K mg CW NH NI,
A6! a,decide_eq_true a,
A7!,(by rfl),
A8! a b,(U! a b),
A9! a,⟨a,?_⟩,
BA! a b c,FS! a b/\c,
BC!,λb' o' e' H_=>?_,
BD!,wt / 2,
BE! a b,by rw[<-a];exact(ZJ b).1,
BF!,t? ?_,
BG! a b,λz hz=>a z b,
Cq! a b,(a λq=>H? b),
BH! a,A! (E7! a),
BI!,List α,
BJ!,(pv 4),
BK!,List (FQ!),
BL! a b,(Aa a (O? b)),
BM! c,T! H! c,
BN!,N? Ac,
AQ!,(A7 _),
AR!,IR+1,
AT!,jp as.map,
AU!,(DA.mpr rfl),
AV! a,n? p a,
AW! a b,a (U! e b),
AX! a b c,Kp p a (upd b p c),
AY! a,G! al a=[],
AZ! a,Be G.AN tb a,
Aa! a b c d,a hi b (c) (E3! d) (A' _),
Ab!,(.dK []),
Ac! a,T! al a=[],
Ad! a c d,(ls++[E6! a c d]),
FZ! a b d e,FR! { W with qs:=E5! a b,c:=d,ls:=e },
BO!,(Cb qs++[r,p]),
Ae! a,(.ins C VT a),
Af!,[S!,"b","weight"],
Ag! a b c d e,E4! a (Is E1!) b c d e,
Ah!,l[i]?=K! q,
Ai!,(IH.mp ht).1,
Aj!,Jq fi h,
Fa! a b c d,Ff! (a) ht b c d,
Ak!,i.at S,
Al!,(Ai G.AN l.th+l.x),
Am! a,W.ls++[(IR,a)],
An! a b c,f? a p b p c,
Ao! a,SK p G H a,
Ap!,AO CW C CP H p W,
Aq! a b,fr _ _ a (aD b),
Ar! a b,upd a b (.dK []),
As!,BW H H',
At!,(D0 _ _ _).2.2 t ht,
Au! a b c,DH P w K mg base a f fd b (c CW C CP),
Av! a b,a b' o' b (λz=>H_ (ZB _ (by rw[z];simp[Cm]))) λz=>H_ (ZB _ (by rw[z];simp[Cm])),
Fb! a,LR (OV G.holds) a (startT G) [] R,
Aw!,[S!,"kind","sender","goal","about"],
BR! a,decide_eq_false a,
BS!,(db),
BT!,[Fg!],
BU! a,l.kind≠T?->a,
BV!,λq:T2×Addr×List T2=>q.1,
BW!,tb.1≠G.BL,
BX! a,λb o e _=>a b o e,
BY! a b,if a then b else 0,
BZ!,λt ht e=>?_,
Ba!,t=lc,
Bb!,l.kind=G?,
Bc!,V! fi.map,
Bd!,V! se.map,
Be! a,k.AZ _ _ a,
Bf! a,NF t l+Cr t a,
Bg! a,V? t a,
Bh! a,V? d a,
Bi! a b c d e,FE P w K mg base a b c d e,
Bj!,l? rfl,
Bk! a,(a++[sB]),
Bl! a b c d e,f? a b c d (jp e),
Bm!,(g,tick,S),
Bn! a,Ok a (n+1),
Bo! a b c d,DH P w K mg base 2 a b c (d C),
Bp!,Nat->Bool,
Bq! a b,Ah (o:=a []) b,
Br! a b,KB (Z!-D! a+Cr t b),
Bs!,o0 p,
Bt! a b c d,E8! a b=K! (c,d),
Bu! a b,A1! (Ad (a) b),
Bv!,(JV++bs).map,
Bw!,Bo l! t,
Bx!,Bo e? t,
By! a b c d e,(T! a b++A2! c d++e).Perm (rg m),
Bz!,Ok e? n,
B0! a b c,a i q G hi t b c,
B1! a,Ek m g n a,
B2! a b,((List.range a).map b).sum,
B3!,UO t qs k,
B4!,(ys++[v]),
B5!,T2->Prop,
B6! a,a->Hp->Prop,
B7! a,H? (V.int goal=a),
B8!,NT.AZ _ _ hb,
B9! a b c d e f,(As (pl:=_) a b c d HP e L? Bp f),
CA! a b c,a (K! x::C0 σ caps) b c,
CB!,Hw qs r,
CC!,A? x.2+Gc t l,
CD! a,a _ _ e h1 h2,
Cs!,(Lb m b S1),
CE!,(Ai G.AH l.th-l.x),
CF! a,vs=[pi,a],
CG! a,¬D t\/VX a t,
CH!,λy=>V.int y.1,
CI!,Vg G ts,
CJ! a b,(Aa A6 (Aa (pv a) b)),
CK! a b,Cr t a+NF t b,
CL!,Cd _ ZV,
CM! a b,AW.keep (HN a) b,
CN!,[S!,"h","records"],
CO! a,(Dm k! a rfl),
CP! a b d,⟨W.po,W.pd,W.c,W.ls,_,_,_,_,rfl,a,b,d⟩,
CQ! a b,∃m',m'<m/\W (i+1) m' a b,
CR!,(Ey!-re),
CT! a,⟨z,a,e,c⟩,
CU! a,λz=>absurd (k.symm.trans z) a,
CV! a,Ab (Aj e a),
CW! a,OI λo' e=>by rw[a] at e;cases e;exact⟨λ_ z=>(by cases z),λ_ _ z=>(by cases z)⟩,
CX!,hs h hh bh,
CY! a b,Inv X AA σ a b,
CZ!,⟨Y!,C!,g,b,sh⟩,
Ca!,L8 K mg CP NL,
Cb!,(s2 _ _ (HF b' o' e' H_)),
Cc!,(x!++[.MJ g s n' u tick S]),
Cd! a b,⟨_,rfl,p,CW,dx,_,rfl,a,TW.cl,b,(by simp only[BS] at l1;lia),?_⟩,
Ct! a,(v? a),
Cu! a,(λq=>H? a),
Cv!,[V.int (IR)],
Cw! a,(λz=>by rw[z,a] at e;cases e),
Cx! a b,Wg D m (n+1) sh (x? a) ls/\b,
Cy!,λr hr=>?_,
Cz! a,λt=>by unfold NF;rw[a],
C0!,t∈q.2.2,
C1!,b.1≠G.BL,
C2!,λH1 S1 KY=>?_,
C3!,u? FX!,
C4!,G.holds++[(lc,a,[])],
C5!,λz hz=>?_,
C6!,l.th∈Ch!,
C7!,ls=a++l::b,
C8! a,∀(j:Nat)(q:Addr)(G:BX),M? (qs[j]?)->a,
C9! a,r∈rowsOf a,
DA! a,(by rw[a] at z;cases z),
DB!,λh hh bh=>?_,
DC!,(Am G m?).holds.filter,
DD!,A! E1!,
DE! a,D! (G.AN.filter λq=>a),
DF!,V! us.map,
DG! a,j! (a:Nat),
DH!,List (Int×Addr),
DI! a,F! (N? a),
DK!,λq=>H? (0<q.2),
DL! a,x? (Mv G b a),
DM! a,N? (DU.of a),
DN!,O? KM,
DO!,l? trivial,
DP!,AB (ga),
DQ!,(.inl hb),
DR!,(.ins CW dx Fc!),
DS!,(.ins CW dx Fd!),
DT!,(.ins CW dx (Ar "finds" (E? fi) (Ar "inquiries" (E? iq) Fd!))),
DU!,W.c+(i:Nat)+1,
DV!,[S!,"letter"],
DW! a,I? h.symm a,
DX!,jp JV.map,
DY! a,Ix G' a,
FK! a,(Prod.mk.inj a).2,
DZ! a b,a _ _ (s2 _ _ b),
Da!,E0! c,
Db!,mem_mid hz,
Dc! a,a q FC!,
Dd!,P++(Q++s::R),
De! a,o? (.inl a),
Df! a b c,AC ⟨q,AE.mpr ⟨a,b⟩,c⟩,
Dg!,KE rs.map,
Dh! a,KF (t∉a),
Di! a,(Aa (pv 4) (O? a)),
Dj!,ts.take i,
Dk!,Cl! i,
Dl! a,Be G.AH tb a,
Dm!,(FD!++T),
Dn!,Cm! CA.mp,
Do!,Am G m?,
Dp! a,Ix (a G tb) ls,
Dq! a,Ix (a G ta tb) ls,
Dr!,(tk q.1,FW!),
Ds!,(b,NameKind.local),
Dt!,(a,NameKind.local),
Du! a b c d e,(A3 (FG! a T.cl b c d e)),
Dv! a,FB! a (λq=>H? (q.1∉ts)),
Dw!,(ZD _ hz),
Dx! a,FJ! (s3 _ _ a),
Dy!,(rs.map y!).Pairwise IW,
Dz!,Q! es (ZC _ sK),
D0!,t.1≠Cn!,
D1!,[(S!,0)],
D2!,VN t qs h,
D3! a b c d e,FE! (a b ib c) d e,
D4! a,D6 G.AN (λt=>a) t,
D5!,Fb! k,
D6! a b c,Q! (Ab (λz=>a (U! z b))) c,
D7! a,(s.ok.new t a).1,
D8!,(List.filter_sublist.map _).subset,
D9!,I? k np,
EA!,D! (Be G.AN tb _),
EB! a,FY! (V.int W.share) a,
EC!,AW H as ts,
ED!,IM (HV l!),
EE!,S.step i.2 S1 KY λb hb=>A! hb,
EF!,V.bl true,
EG!,W1.same s2,
EH!,(∀t∈G.hand,TU t),
EI!,(∀q∈G.holds,∀t∈q.2.2,TU t),
EJ!,λq=>! sw,
EK!,λq=>(tk q.1,Ay!),
EL!,⟨Cp!,trivial⟩,
EM! a,cr ha hb a,
EN! a,{ G with AN:=G.AN.filter (Co! a) },
EO! a b,D! (Be G.AN a b)-W?,
EP! a,t? (by rw[e] at ht;exact a),
EQ! a b,∀(j:Nat) q G,M? (qs[j]?)->a->b,
ER! a,(Cj (Aa (pv 3) (O? a))),
ES! a,F! ⟨r,a,h⟩,
ET!,(qs.set l.g.toNat (q,G')),
EU! a b c d,DH P w K mg base 1 a b c (d CP),
EV!,Zi G b (Ai G.AH b+sh),
EW!,NE H G,
EX!,GV.DL S HF,
EY! a b d e f g h i j k l,FZ! a b d e->IZ H' f Ck! g h i tb j->k->l,
EZ!,(λy h=>MV (N? rfl) h),
Ea! a b,L! (a:List (Str×NameKind)).lookup y b,
Eb! a,g? (a G tb v),
Ec! a b,Au (xs:=a) (j:=i) (CS! (ZJ b).1),
Ed! a b c,⟨_,rfl,a,rfl,b,c⟩,
Ee!,(tC (z! 0)),
Ef!,(x!++Ek m g2 n 2),
Eg!,WE G tb HK,
Eh! a b c d,⟨a,b,_,rfl,rfl,c,d,?_⟩,
Ei!,t∈G.hand++[(G.BL,G.AU)],
Ej!,(i.at S).ob,
Ek! a,{ G with holds:=Cw G.holds ta (a (Bn G.holds ta) tb) },
El!,(.ins CW dx (Ar "houses" (E? r) Fc!)),
Em!,(.ins CW dx (Ar "inquiries" (E? iq) Fd!)),
En!,(.ins CW dx (Ar "enclosed" (E? en) (Ar "finds" (E? fi) (Ar "inquiries" (E? iq) Fd!)))),
Eo! a,(upd a G.o (C7 G.AH)),
Ep! a,U? ⟨o,Ah a b o e⟩,
Eq! a b,FU! a b (Av Aq FI! Ag),
Er! a,_++(FV! (n=n) a Ci!++_)=_,
Es! a,FH!->x≠W.hs->Vo p W H x->L! H' x a->FF! x,
Et!,∀b o,A4! o->b≠p->b∉BI G->b≠x,
Eu! a b c d f,⟨a,by rw[e],by rw[e],by rw[e],by rw[e],λt=>b,c,d,f⟩,
Ev! a,Fa! (x.wl.same hi a rfl rfl rfl) x.rc.less (λl h=>h) ⟨?_,A' _⟩,
Ew!,⟨_,rfl,t,_,_,_,rfl,rfl,y? e1,rfl,a,_,_,_,rfl,rfl,y? e2,rfl,?_⟩]
universe E
universe S
def B4(G:BX)(rs:J!):J!:=(rs.filter λq=>! sw).filter DK!
inductive Ym(C:Addr)(vs:g!)(H:Hp)(Q:VK)(E:XK):Prop
 | mk (p:Addr) (G:BX) (n:Nat) (rs:J!) (_:vs=[pi]) (_:EW!) (_:GM) (_:n<=62) (_:EH!) (_:EI!) (_:AN!) (_:Dy!) (_:∀(x:Addr)(as:Z?)(H':Hp),H x=none->L! H' x AT!->IP H' as (B4 G rs)->NE H' (HV G)->Ao! H'->FF! x)
theorem VY:i? [S!,"held","holder",BP!,"unheld",T?] v! V2:={}
def xu(K:W.Frag):TE:=mQ (Dz (Bx 0) (Dz (Qx (Sn K (Bx 1) "records") (Bx 0)) Jz))
def xy(K:W.Frag):TT:=Fi (NS (aA λi j=>.bl (decide (j<i))) (Qx (Sn K (Bx 1) "records") (Bx 0)) Ee!)
theorem zI(F:j? BQ! "House.give_back" V2)(T:Go)(Tx:mO mg):FB f fd v! Ym:=by
 refine WP VY;obtain⟨p,G,n,rs,rfl,S,ok,zn,aJ,aH,pm,pw,k⟩:=h;refine Ev;have hu:=Cf hr;obtain⟨dx,hp⟩:=S.ob;refine Bu! (Ax (i:=1) VY.nd rfl (by first|exact Or.inl rfl|exact Or.inr rfl) (Df (Zm (Js hr)) A7! Tx.dict PyProof.Rows.boot_dict (O? R!))) (Ad (Ee PassesOwn.never rfl (La R!) (Bk (i:=2) VY.nd rfl FL!) (Ae (A3 (E6 CZ PySem.F.slot_dict_update PySem.F.type_dict_update (Jha hu) KM (O? (Ba hu R! b?)))))) (OY.TX (Ad (Je (te:=Bx 0) (i:=4) (caps:=[("held",1)]) VY.nd rfl rfl rfl rfl (Do (Bm (Cz rfl) A7! T.sorted CO (O? R!))) rfl ZV rfl ZV rfl DO! EZ! EL! ZV (p? (D7 (D3 (Dv hu (pv 0) KM)))) (p? (pv 0))) (z? (Je (te:=xu K) (tt:=xy K) (i:=5) (caps:=D1!) VY.nd rfl rfl rfl rfl (Do BJ!) rfl ZV rfl ZV rfl DO! EZ! EL! ZV (p? (D7 (Az Q7 (Ba hu (Ao KM rfl) k!) Ag AQ!))) (p? (Cj (BL! k! (Ba hu (Ao KM rfl) k!))))) (Ee PassesOwn.never rfl (Do BJ!) (Bk (i:=3) VY.nd rfl FL!) (Ae (A3 (Fy hu R! (pv 3) Cp!)))) (Ae (Ay Rs))))));have z1:=ok.hz;have z2:=ok.OM;have z3:=ok.rz;refine⟨_,rfl,p,C,dx,_,_,rfl,hp,T.cl,T.nH,Fm G,G.h,_,rfl,S.dh,Py ok.hn aJ,λhd aP=>?_⟩;have e0:Fh [] (G.hand.map λq=>(tk q,EF!))=G.hand.map λq=>(tk q,EF!):=by have:=Ij G.hand [];rw[Qh _ _ (by simpa using ok.hn)] at this;simpa using this
 rw[e0];have s1:=Ah (o:=A8 G.hand) aP;have e1:f? H hd (A8 G.hand) hd (A8 G.hand):=Ac;rw[show HO.dT (G.hand.map λq=>(tk q,EF!))=A8 G.hand from rfl];generalize upd H hd (A8 G.hand)=H1 at s1 e1;have S1:=S.same s1;obtain⟨E',HJ⟩:=S1.ob;have fK:KE G.holds.map:=Q! ok.ke ok.on
 have aD:∀{b:Addr} {o:HO},A4! o->b≠hd:=λe=>Aj e aP;have n9:p≠G.l:=λz=>S.PR (b:=G.l) (by simp[BI]) z.symm;refine⟨_,rfl,p,C,E',_,_,rfl,HJ,T.cl,T.nL,Ei G,G.l,_,rfl,S1.dl,λob=>?_⟩;refine Xt (d:=G.l) (ob:=ob) (λi σ H2=>∃u2:Option V,σ=[Bs!,o0 hd,u2,none,none,none]/\n? hd (A8 (C5 G.hand (G.holds.take i)))/\∀b o,f? H1 G.l (.GF ob (C1 G.holds)) b o->b≠hd->n? b o) ⟨_,rfl,ci (Ab (aD S.dl).symm) e1,λb o e _=>e⟩ (λi σ H2 _ h=>let⟨_,_,_,fr⟩:=h;Aq! Ac S.dl) ?_ ?_;.rintro i a kk v σ H2 hx ha ⟨u2,rfl,eh,fr⟩;rw[ZH] at hx;cases eq:G.holds[i]? with | none=>rw[eq] at hx;cases hx | some q =>rw[eq] at hx;have hx:Dr!=(kk,v):=ZO hx;have mq:=ZP eq;have e2:kk=tk q.1:=(Prod.mk.inj hx).1.symm;rw[e2,qh] at ha;have hpp:AV! (.ins C E' (Cc G)):=Aq! (W! (Ab n9) HJ) hp;have cW:n? G.l (.GF ob (C1 G.holds)):=Aq! Ac S.dl;(have hqq:n? q.2.1 (A8 q.2.2):=by have h0:=S.hl q mq;refine Aq! ?_ h0;rw[Ab (S.SA.2.2.2 q mq).2.2.1];exact S1.hl q mq);(have gv:Ci (G.holds.map λ(q:T2×Addr×List T2)=>Dr!) (tk q.1)=K! (V.ref q.2.1):=ci (Dl (k:=BV!) (f:=λq=>FW!)) (FX.GX (k:=BV!) fK mq));have l0:=ok.ln q mq;(have l1:(C5 G.hand (G.holds.take i)).length<=62+62*62:=by have h1:=Nd (B:=62) (qs:=G.holds.take i) (hand:=G.hand) (λr hr=>CS! (ok.ln r (List.mem_of_mem_take hr)).2);(have h2:(G.holds.take i).length<=G.holds.length:=v? B');have h3:(G.holds.take i).length*62<=62*62:=FV _ a!;lia);refine⟨_,rfl,De! (l? (DI! eh)),_,rfl,p,C,E',_,_,rfl,hpp,T.cl,T.nL,Ei G,_,rfl,G.l,_,rfl,F! ⟨_,tk q.1,a,h! ob cW,rfl,ha,gv.symm⟩,hd,q.2.1,_,_,rfl,rfl,eh,A! hqq,(aD (S.hl q mq)).symm,?_,λ_=>Py l0.1 (aH q mq),?_⟩;(.rw[ZA,ZA];exact EF (Ed a!));.rw[Ij,<-Vd G.hand eq];exact⟨_,rfl,Ac,Ce! (q? hb (fr b o e hb))⟩
 .rintro σ H2 ⟨u2,rfl,eh,fr⟩;rw[ZA,BP] at eh;have cW:n? G.l (.GF ob (C1 G.holds)):=Aq! Ac S.dl;refine⟨upd H2 G.l (C1 G.holds),⟨G.l,ob,_,cW,λo v z=>?_,rfl⟩,?_⟩;(.have z:V? G.l (.GF o v):=z;rw[S.dl] at z;cases z);(have s3:Bh H (upd H2 G.l (C1 G.holds)):=U? (by by_cases hb:b=G.l;(.subst hb;rw[S.dl] at e;rw[Ac];exact e);.rw[Ab hb];exact Aq! (W! (Ab hb) (s1 _ _ e)) e));(have e3:f? H2 G.l (C1 G.holds) hd (A8 (C5 G.hand G.holds)):=q? (aD S.dl).symm eh);generalize upd H2 G.l (C1 G.holds)=H3 at s3 e3;have S3:=S.same s3;obtain⟨OH,PJ⟩:=S3.ob;refine⟨_,rfl,p,C,OH,_,_,rfl,PJ,T.cl,T.nR,C9 G,G.r,_,V! rs.map,rfl,yU S3.dr,Ct! ZA,?_,pw,λsl gD YZ tsl=>⟨sl,rfl,DM! Ac,λul vH=>?_⟩⟩;(·(have e4:((G.AN.map λq=>(q.1,Ay!)).map y!)=V! G.AN.map:=F? AL);rw[e4];exact pm.map _);have s4:=Ah (o:=.BC (gD.map V.ref)) YZ;have cg:Bl! H3 sl (jp gD.map) sl gD.map:=Ac;have t4:AW (upd H3 sl (jp gD.map)) gD (rs.map y!):=CM! s4 tsl;generalize upd H3 sl (jp gD.map)=H4 at s4 cg t4 vH;(have lrs:rs.length<=62:=by have:=pm.length_eq;lia);refine Jn (b:=λt=>! Bo G t) (caps:=[("held",1)]) vH (Ct! ZA) cg t4 (λH5 a t Q' sm ha ht q=>?_) λH5 bs sm eu tu=>?_;(.refine⟨_,rfl,_,rfl,hd,_,rfl,Fn (sm _ _ (s4 _ _ e3)) ha,?_⟩;(have e5:(!(A0! (t∈C5 G.hand G.holds) (V.bl true)).isSome)=! Bo G t:=by rw[<-Jcn];by_cases c:t∈C5 G.hand G.holds;(.rw[N!,A6! c];rfl);.rw[P!,BR! c];rfl);rw[e5];exact T0 q);have eU:(rs.map y!).filter (λt=>! Bo G t)=FB! rs.filter EJ!:=(Dk (h?) rs λt=>! Bo G t).symm;rw[eU] at tu;have s5:Bh H H5:=Al s3 (Al s4 sm);have c9:∀q∈rs.filter (EJ!),q∈rs:=X! FC!;(have usz:(rs.filter λq=>! sw).length<=62:=CS! (AV (EJ!) rs));have vg:B4 G rs=(rs.filter λq=>! sw).filter DK!:=rfl;(have tT:KE (rs.filter EJ!).map:=by have h1:Dg!:=(pm.map _).nodup_iff.mpr ok.rn;exact h1.sublist (List.filter_sublist.map _));generalize lP:FT! sw=us at tu c9 usz vg tT;have S5:=S.same s5;have oK:=Y? tu;rw[ZA] at oK;have val:∀q∈us,G.AN.find? (wE (r.1=q.1))=K! q:=X! (FX.GX (k:=h?) ok.rn (pm.subset (c9 q hq)));refine Ed! ul (DM! eu) (λbl fk=>?_);refine Fq (K:=K) (a:=ul) (p:=bl) (xs:=bs.map V.ref) (tt:=xy K) (te:=xu K) (caps:=D1!) (λi ys H6=>∃cs:Z?,ys=cs.map V.ref/\L! H6 bl Db/\Bh H5 H6/\IP H6 cs ((us.take i).filter DK!)) ⟨[],rfl,Ac,Ah fk,L?⟩ (λi ys H6 _ h=>let⟨_,_,e,sm,_⟩:=h;⟨DU.of (sm _ _ eu),e⟩) ?_ ?_;(.rintro i x ys H6 N hx ⟨cs,ey,e6,s6,ba⟩ hN;rw[ZH] at hx;cases eb:bs[i]? with | none=>rw[eb] at hx;cases hx | some b =>rw[eb] at hx;have hx:Cj!=x:=ZO hx;subst hx;obtain⟨q,hq⟩:=Ec! us eb;have hb:=Aw tu i b q.1 eb (ci ZH hq);have vh:=s6 _ _ hb;have S6:=S5.same s6;obtain⟨TC,WK⟩:=S6.ob;have gv:DM H6 G.r (E? b) (some (V.int q.2)):=Lp S6.dr vh (val q (ZP hq));have ft:=Vf (b:=λq:T2×Int=>H? (0<q.2)) hq;refine⟨_,rfl,p,C,TC,_,_,rfl,WK,T.cl,T.nR,C9 G,_,rfl,G.r,_,rfl,gv,_,_,rfl,rfl,_,rfl,?_⟩;by_cases c:0<q.2;(.rw[A6! c] at ft ⊢;refine B7 ⟨_,rfl,_,rfl,p,C,TC,_,_,rfl,WK,T.cl,T.nR,C9 G,_,rfl,G.r,_,rfl,gv,AH!,λx1 oV=>?_⟩;have s7:=FY! Ay! oV;have x7:f? H6 x1 (.AZ [Cj!,Ay!]) x1 (.AZ [Cj!,Ay!]):=Ac;have e7:=s7 _ _ e6;generalize upd H6 x1 (.AZ [Cj!,Ay!])=H7 at s7 x7 e7;(have WG:BW H7 (upd H7 bl (.BC (ys++[V.ref x1]))):=CW! e7);(have lcs:cs.length<=us.length:=Q! (Y? ba) (Mm _ us i));refine⟨e7,cr ey ZA (Cm! Ed),hN _ _ ⟨cs++[x1],ci ey ZF,Ac,λd o e=>?_,?_⟩⟩;(.rw[CV! fk];exact s7 _ _ (s6 _ _ e));.rw[ft,At];exact Cu (IP.keep WG (IP.keep (HN s7) ba)) ⟨b,WG.AZ _ _ x7,WG.AZ _ _ (s7 _ _ vh)⟩);.rw[BR! c] at ft ⊢;refine By (hN _ _ ⟨cs,ey,e6,s6,?_⟩);rw[ft,AB (db),AG];exact ba);.rintro ys H6 ⟨cs,ey,e6,s6,ba⟩;rw[ZA,oK,BP,<-vg] at ba;rw[ey] at e6;have S6:=S5.same s6;have lu:=s6 _ _ eu;have tu6:AW H6 bs (us.map y!):=CM! s6 tu;(have rX:bl≠G.r:=λz=>by rw[z,S5.dr] at fk;cases fk);(have sQ:H bl=none:=by cases c:H bl with | none=>rfl | some o=>rw[s5 _ _ c] at fk;cases fk);refine Ed! ul (DM! lu) ?_;have zx:∀j,(EN! (Cl! j):BX).AN=G.AN.filter (Co! (Cl! j)):=λ_=>rfl;refine Io (K:=K) (a:=ul) (xs:=bs.map V.ref) (λi σ H7=>∃u3:Option V,σ=[Bs!,o0 hd,u2,u3,o0 ul,o0 bl]/\NE H7 (EN! Dk!)/\∀b o,L! H6 b o->b≠G.r->L! H7 b o) ⟨_,rfl,?_,λb o e _=>e⟩ (λi σ H7 _ h=>let⟨_,_,_,fr⟩:=h;DU.of (fr _ _ lu λz=>by rw[z,S6.dr] at lu;cases lu)) ?_ ?_;(·(have e8:(G.AN.filter (Co! (Cl! 0)))=G.AN:=EI.mpr λq _=>ga);rw[e8];exact S6);(.rintro i x σ H7 hx ⟨u3,rfl,S7,PK⟩;rw[ZH] at hx;cases eb:bs[i]? with | none=>rw[eb] at hx;cases hx | some b =>rw[eb] at hx;have hx:Cj!=x:=ZO hx;subst hx;obtain⟨q,hq⟩:=Ec! us eb;(have o5:(us.map y!)[i]?=K! q.1:=ci ZH hq);have hb:=Aw tu6 i b q.1 eb o5;(have hb7:=PK _ _ hb λz=>by rw[z,S6.dr] at hb;cases hb);obtain⟨qG,hG⟩:=S7.ob;(have qin:q.1∈FB! G.AN.filter (wE (r.1∉Dk!)):=by refine Df! (pm.subset (c9 q (ZP hq))) ?_ rfl;have:q.1∉Dk!:=λz=>Na tT o5 z;simpa using this);obtain⟨v,hv⟩:=Gi (l:=G.AN.filter λ(r:T2×Int)=>H? (r.1∉(us.map λ(z:T2×Int)=>z.1).take i)) (k:=λ(q:T2×Int)=>q.1) (f:=λ(q:T2×Int)=>Ay!) (t:=q.1) qin;refine⟨_,rfl,p,C,qG,_,_,rfl,hG,T.cl,T.nR,C9 _,G.r,rfl,DI! (A! S7.dr),_,rfl,_,tk q.1,_,b,S7.dr,rfl,hb7,hv,?_⟩;(have e9:Dt (((EN! Dk!:BX).AN).map EK!) (tk q.1)=(G.AN.filter (wE (r.1∉Cl! (i+1)))).map EK!:=Q! (Fg (h?) G.AN o5) (F4 (k:=h?) (f:=v4) _ _));rw[e9];have S8:=S7.RN (G.AN.filter (wE (r.1∉Cl! (i+1))));exact⟨_,rfl,S8,Ce! (q? hb (PK _ _ e hb))⟩);.rintro σ H7 ⟨u3,rfl,S7,PK⟩;rw[ZA,oK,<-ZA (f:=h?),BP] at S7;have RV:BW H6 H7:=⟨λb xs e=>PK _ _ e (Cw! S6.dr),λb o v e=>PK _ _ e (Cw! S6.dr)⟩;refine T0 (k bl cs H7 sQ (PK _ _ e6 rX) (IP.keep RV ba) ?_ (w? (PK _ _ (s6 _ _ (s5 _ _ e)) λz=>h2 (by rw[z];simp[BI]))));(have eK:HV G=EN! DF!:=by unfold HV;(have:(G.AN.filter λq=>sw)=G.AN.filter (Co! DF!):=JQ (X! (by by_cases c:sw=true;(·(have nm:q.1∉DF!:=λz=>by obtain⟨r,hr,er⟩:=ZN z;rw[<-lP] at hr;have:=(AE.mp hr).2;rw[er,c] at this;cases this);rw[c,A6! nm]);·(have c:sw=false:=by simpa using c);(have im:q.1∈DF!:=U! lP (Df! (pm.symm.subset hq) (F? c) rfl));rw[c];simp only[im,not_true_eq_false,OQ])));rw[this]);rw[eK];exact S7
universe E
universe S
inductive Ti(C:Addr)(vs:g!)(H:Hp)(Q:VK)(E:XK):Prop
 | mk (p:Addr) (G:BX) (n m:Nat) (rs:J!) (R:Q?) (_:vs=[pi]) (_:EW!) (_:GM) (_:n<=62) (_:EH!) (_:EI!) (_:AN!) (_:Dy!) (_:Fb! m) (_:m<=5000) (_:Ok l! n) (_:∀(x:Addr)(as:Z?)(H':Hp),(Et!)->L! H' x AT!->IP H' as (B4 l! rs)->NE H' (IM (HV l!))->Ao! H'->FF! x)
theorem dF:i? [S!,"lent","kept"] v! T7:={}
def Jly(K:W.Frag):TT:=Fi (NS (aA λi j=>.bl (decide (j<i))) (Qx (Sn K (Bx 1) "outs") (Bx 0)) Ee!)
theorem Jeu(F:j? "clean" "House.clean" T7)(T:Go)(Tx:mO mg)(MR:QW K mg "reached" Fw ["starts","holds"] fR dR)(ML:DG K C "lose" "House.lose" Q3 Tk fL dL)(MG:DG K C BQ! "House.give_back" V2 v! fG dG) : Bo! f fd v! Ti:=by
 have GR:DH P w K mg base 1 fR dR ["starts","holds"] Gr:=Kb MR.fn;have GL:FB fL dL Tk yY:=Jg0 ML.fn T;have GG:FB fG dG v! Ym:=zI MG.fn T Tx;refine WP dF;obtain⟨p,G,n,m,rs,R,rfl,S,ok,zn,aJ,aH,pm,pw,rc,zm,WX,k⟩:=h;refine Ev;have hu:=Cf hr;obtain⟨dx,hp⟩:=S.ob;refine Bu! (Je (te:=Bx 0) (tt:=Jly K) (i:=1) (caps:=D1!) dF.nd rfl rfl rfl rfl (La R!) rfl ZV rfl ZV rfl DO! EZ! EL! ZV (p? (D7 (Az Q7 (Ba hu (Ao KM rfl) k!) Ag AQ!))) (p? (pv 0))) (OY.TX (Ad (Ax (i:=2) dF.nd rfl (by first|exact Or.inl rfl|exact Or.inr rfl) (Co GR hr A7! MR.mg MR.fn.kp MR.bd L? Bg (BL! (Bl Ji7 (Df (Qe rfl) A7! Tx.list PyProof.Rows.boot_list (O? R!)) KM) R!))) (z? (Du! k! ML.mt GL ML.bd (O? (PE.TX (En (te:=Bx 0) (caps:=[("kept",2)]) rfl (La R!) rfl ZV rfl ZV rfl DO! EZ! EL! ZV (p? (D7 (D3 (Dv hu (pv 0) KM)))) (p? (pv 0)))))) (Cq k! Ag D4) (Ae (Ay (Dr k! T.cl MG.mt GG hr MG.bd L? Bg))))));have z0:=ok.oz;have z1:=ok.hz;have z2:=ok.OM;have gk:p≠G.o:=λz=>S.PR (b:=G.o) (by simp[BI]) z.symm;refine⟨_,rfl,p,C,dx,_,_,rfl,hp,T.cl,T.nO,De G,G.o,_,rfl,S.dO,λob ll cW=>?_⟩;refine Mu (b:=KF (0<W?)) (caps:=D1!) (l:=G.AH) (key:=λq=>q.1) (val:=v4) (ob:=ob) cW a! Ac (λH2 a t Q' sm ha ht q=>?_) λH2 bs sm el tl=>?_;.have GO:AV! (.ins C dx (Cc G)):=sm _ _ (W! (Ab gk) hp);(have gv:Ci (G.AH.map EK!) (tk t)=K! (V.int (Ai G.AH t)):=ci (Dl (k:=h?) (f:=v4)) (Lx ht));exact⟨_,rfl,p,C,dx,_,_,rfl,GO,T.cl,T.nO,De G,_,rfl,G.o,_,rfl,F! ⟨_,tk t,a,h! ob (sm _ _ Ac),rfl,ha,gv.symm⟩,_,_,rfl,rfl,_,rfl,q⟩
 have hU:n? G.o (.GF ob (C7 G.AH)):=sm _ _ Ac;refine⟨upd H2 G.o (C7 G.AH),⟨G.o,ob,_,hU,λo v z=>?_,rfl⟩,?_⟩;.have z:V? G.o (.GF o v):=z;rw[S.dO] at z;cases z
 have nll:ll≠G.o:=λz=>by rw[z,Ac] at cW;cases cW
 have s3:Bh H (Eo! H2):=U? (by by_cases hb:b=G.o;(.subst hb;rw[S.dO] at e;rw[Ac];exact e);.rw[Ab hb];exact sm _ _ (W! (Ab hb) e))
 have bV:Bl! H2 G.o (C7 G.AH) ll bs.map:=q? nll el
 have tV:AW (Eo! H2) bs (Lk G):=by refine Ap (λb u e=>?_) tl;rw[Ab (Cw! hU)];exact e
 generalize upd H2 G.o (C7 G.AH)=H3 at s3 bV tV;have S3:=S.same s3;obtain⟨OH,PJ⟩:=S3.ob;refine⟨_,rfl,p,C,OH,_,_,rfl,PJ,T.cl,T.nH,Fm G,G.h,_,rfl,A! S3.dh,λl1 JV hl1 ky1=>?_⟩;have t1:AW H3 JV G.hand:=yz (val:=λ_=>EF!) ky1;have s4:=Ah (o:=.BC (JV.map V.ref)) hl1;have e4:Bl! H3 l1 DX! l1 JV.map:=Ac;have t4:AW (upd H3 l1 DX!) JV G.hand:=CM! s4 t1;have cg:=s4 _ _ bV;have nA:AW (upd H3 l1 DX!) bs (Lk G):=CM! s4 tV;generalize upd H3 l1 DX!=H4 at s4 e4 t4 cg nA;have n1:=Y? t4;have n2:=Y? nA;have n3:(Lk G).length<=62:=by have:(Lk G).length<=(G.AH.map y!).length:=AV _ _;rw[ZA] at this;lia
 refine⟨_,rfl,l1,ll,_,_,rfl,rfl,e4,cg,EF (Ed (by rw[ZA,ZA];lia)),λcl W_=>?_⟩;rw[<-ZF];have s5:=Ah (o:=.BC (Bv! V.ref)) W_;have e5:Bl! H4 cl (jp Bv!) cl Bv!:=Ac;have t5:AW (upd H4 cl (jp Bv!)) (JV++bs) (G.hand++Lk G):=CM! s5 (Hj t4 nA);generalize upd H4 cl (jp Bv!)=H5 at s5 e5 t5;have S5:=S3.same (Al s4 s5);obtain⟨aX,Y'⟩:=S5.ob;refine⟨_,rfl,p,C,aX,_,_,rfl,Y',T.cl,T.nL,Ei G,cl,G.l,JV++bs,G.hand++Lk G,G.holds,m,R,rfl,e5,t5,v? ZE,S5.dl,B!,X! ⟨S5.hl q hq,CS! (ok.ln q hq).2,(S.SA.2.2.2 q hq).2.2.1⟩,rc,zm,λkp H6 vT s6 ek=>?_⟩;have S6:=S5.same s6;obtain⟨TC,WK⟩:=S6.ob;refine⟨_,rfl,p,TC,_,rfl,WK,XV,_,rfl,p,C,TC,_,_,rfl,WK,T.cl,T.nO,De G,G.o,_,rfl,S6.dO,λn8 gl pD=>?_⟩;have nkp:kp≠G.o:=λz=>by rw[z,S5.dO] at vT;cases vT
 refine Mu (b:=KF (t∉R)) (caps:=[("kept",2)]) (l:=G.AH) (key:=λq=>q.1) (val:=v4) (ob:=n8) pD a! Ac (λH7 a t Q' ki ha ht q=>?_) λH7 gs ki eg tg=>?_;.refine⟨_,rfl,_,rfl,kp,_,rfl,Fn (ki kp (A8 R) (W! (Ab nkp) ek)) ha,?_⟩;(have e8:(!(A0! (t∈R) (V.bl true)).isSome)=H? (t∉R):=by by_cases c:t∈R;(.rw[N!];simp[c]);.rw[P!];simp[c]);rw[e8];exact T0 q
 have vQ:L! H7 G.o (.GF n8 (C7 G.AH)):=ki _ _ Ac;refine⟨upd H7 G.o (C7 G.AH),⟨G.o,n8,_,vQ,λo v z=>?_,rfl⟩,?_⟩;.have z:V? G.o (.GF o v):=z;rw[S.dO] at z;cases z
 have ngl:gl≠G.o:=λz=>by rw[z,Ac] at pD;cases pD
 have s8:Bh H6 (Eo! H7):=U? (by by_cases hb:b=G.o;(.subst hb;rw[S6.dO] at e;rw[Ac];exact e);.rw[Ab hb];exact ki _ _ (W! (Ab hb) e))
 have wc:Bl! H7 G.o (C7 G.AH) gl gs.map:=q? ngl eg
 have tY:AW (Eo! H7) gs ((G.AH.map y!).filter (KF (t∉R))):=by refine Ap (λb u e=>?_) tg;rw[Ab (Cw! vQ)];exact e
 generalize upd H7 G.o (C7 G.AH)=H8 at s8 wc tY;have S8:=S6.same s8;refine⟨p,gl,G,gs,_,rfl,S8,ok.ke,wc,tY,λH9 S9 pU=>?_⟩;rw[Vi ok.ke] at S9;obtain⟨VT,aL⟩:=S9.ob;refine⟨_,rfl,p,C,VT,_,_,rfl,aL,T.cl,T.nT,Cp _,_,_,rfl,rfl,VT,_,aL,D5 _,?_⟩;rw[Bi];have XE:=S9.fld VT (keepR G R).AU ((keepR G R).A_+1);have UA:SK p G H8 (upd H9 p (Ae! (Cc { keepR G R with A_:=(keepR G R).A_+1 }))):=w? (q? h1 (CD! pU))
 have XE:NE (upd H9 p (Ae! (Cc { keepR G R with A_:=(keepR G R).A_+1 }))) (IM l!):=XE;generalize upd H9 p (Ae! (Cc { keepR G R with A_:=(keepR G R).A_+1 }))=cy at XE UA;obtain⟨d0,dk⟩:=XE.ob;have uI:Bh H H8:=Al s3 (Al s4 (Al s5 (Al s6 s8)));refine⟨_,rfl,p,d0,_,rfl,dk,CL!,p,IM l!,n,rs,rfl,XE,WX.IM,zn,aJ,X! (Dc! aH),pm,pw,λx as ik hx ex ba qR dw=>?_⟩;have oW:Et!:=w? (Aj (UA _ _ (uI _ _ e) h1 h2) hx);refine k x as ik oW ex ba qR (w? (dw _ _ (UA _ _ (uI _ _ e) h1 h2) h1 λz=>h2 (List.Sublist.subset (P3 (G:={ G with AH:=(keepR G R).AH }) FA) z)))
universe E
universe E K62
universe N FX
open PySem PySem.Spec PyProof.Rows L2
theorem Jm1{a b c d:Str}{k1 k2:NameKind}{cl:List (Str×Addr)}{y:Str}(hc:∃z,L! cl.lookup c z)(hd:∃z,L! cl.lookup d z)(h:Ea! [Dt!,Ds!,(c,k1),(d,k2)] .cell\/Ea! [Dt!,Ds!,(c,k1),(d,k2)] .free):∃z,L! cl.lookup y z :=Mr (λp hp hk=>by simp only[BU,DD,JM] at hp;rcases hp with rfl|rfl|rfl|rfl;(.rcases hk with hk|hk<;>cases hk);(.rcases hk with hk|hk<;>cases hk);(.exact hc);.exact hd) h
inductive IZ(H:Hp)(t:Addr)(n:Int)(kind:Str)(s g:Int)(tb:T2)(x:Int):Prop
 | mk a b (_:Bg! (.AZ [q! n,.str kind,q! s,q! g,o! a])) (_:V? a (.AZ [o! b,q! x])) (_:A4! (.AZ (tv tb)))
theorem IZ.keep(h:IZ H t n kind s g tb x)(k:As!):IZ H' t n kind s g tb x:=let⟨a,b,e1,e2,e3⟩:=h;⟨a,b,Be! e1,Be! e2,Be! e3⟩
universe E FX
universe N K62
open PySem L2 FX
def Jnb(G:BX)(tb:T2)(wt:Int)(G':BX):Prop:=(tb.1=G.BL/\∃o,Bt! G.AH.find? wP tb o/\G'={ G with A_:=AT,hand:=AF!,AH:=Dl! (o-wt) })\/(BW!/\G'={ G with A_:=AT,hand:=AF!,AN:=AZ! (Xq G.AN tb+wt) })
def Wt(kind:Str)(G:BX)(tb:T2)(wt:Int)(G':BX):Prop:=(kind=Y!/\Jnb G tb wt G')\/(kind=k?/\G'={ G with A_:=AT,AN:=AZ! (Xq G.AN tb+wt) })\/(kind=T?/\G'={ G with A_:=AT,AH:=WM G tb wt })
theorem Wt.BI(h:Wt kind G tb wt G'):BI G'=BI G:=by rcases h with⟨_,⟨_,o,_,rfl⟩|⟨_,rfl⟩⟩|⟨_,rfl⟩|⟨_,rfl⟩<;>rfl
universe S
def Sz(G:BX):Prop:=G.hand.length<=500/\G.AH.length<=500/\G.AN.length<=500
inductive Gn(CW C CP:Addr)(vs:g!)(H:Hp)(Q:VK)(E:XK):Prop
 | mk (p t:Addr) (W:FK) (n s g:Int) (kind:Str) (tb:T2) (wt:Int) (q:Addr) (G G':BX) (_:CF! (E? t)) (_:Ap!) (_:IZ H t n kind s g tb wt) (_:JX W g q G) (_:Wt kind G tb wt G') (_:Sz G) (_:∀H',FR! { W with qs:=E5! g.toNat G' }->FH!->Q .E_ H')
theorem KH:i? [S!,"letter","kind","house",BP!,"weight"] DV! Kz:={}
theorem Yv(F:j? "weight_came" "World.weight_came" Kz)(T:Go)(TW:AP!)(M1:DG K C "came" "House.came" mW Af! f1 d1)(G1:Bo! f1 d1 Af! Yp)(M2:DG K C "added" "House.added" T8 Af! f2 d2)(G2:Bo! f2 d2 Af! Tj)(M3:DG K C "given" "House.given" T6 Af! f3 d3):Au! 3 DV! Gn:=by
 have G3:FB f3 d3 Af! Z3:=Jet M3.fn T;refine F.ok KH (FM!) (λD_ A outer s H vs Q E hr h=>?_);.obtain⟨p,t,W,n,s,g,kind,tb,wt,q,G,G',rfl,_⟩:=h;rfl
 .obtain⟨p,t,W,n,s,g,kind,tb,wt,q,G,G',rfl,S,⟨a,b,e1,e2,e3⟩,i,cm,⟨z1,z2,z3⟩,k⟩:=h;have HP:DI 1 _:=hr.mono (db);obtain⟨dx,hp⟩:=S.ob;refine Bu! (FP! 2 KH.nd FI!) (Ad (FU! 3 KH.nd (Av C4 R! FI!)) (z? (Eq! 4 KH.nd) (Eq! 5 KH.nd) (Ae (Bf (Az Ca b? A6 AQ!) (Ae (Du! (pv 3) M1.mt G1 M1.bd (Di! Rs))) (Ae (Bf (Az Ca b? A6 AQ!) (Ae (Du! (pv 3) M2.mt G2 M2.bd (Di! Rs))) (Ae (A3 (As (pl:=_) (pv 3) T.cl M3.mt G3 HP M3.bd L? Bg (Di! Rs))))))))));refine⟨_,rfl,t,_,_,_,rfl,rfl,y? e1,rfl,?_⟩;refine⟨_,rfl,p,CW,dx,_,_,rfl,hp,TW.cl,TW.nH,Du W,_,rfl,t,_,_,_,rfl,rfl,y? e1,rfl,W.hs,_,_,_,rfl,rfl,DU.of S.hs,i.QI,?_⟩;refine Ew!;refine Ew!;obtain⟨E',hq⟩:=Ej!;(have dn:Done C q G H G' λH'=>Q .E_ H':=λH' S' fr=>by obtain⟨x1,x2⟩:=S.step i.2 S' fr λb hb=>B? (by rw[cm.BI] at hb;exact hb);exact k H' x1 x2);rcases cm with⟨rfl,cm⟩|⟨rfl,rfl⟩|⟨rfl,rfl⟩;(.refine Kj ⟨_,rfl,q,E',_,rfl,hq,XV,_,rfl,_,rfl,q,b,G,tb,wt,rfl,Ak!,e3,z1,z2,z3,?_⟩;rcases cm with⟨h1,o,h2,rfl⟩|⟨h1,rfl⟩;(.exact Os h1 o h2 dn);.exact h! h1 dn);(.exact IV (Kj ⟨_,rfl,q,E',_,rfl,hq,XV,_,rfl,_,rfl,q,b,G,tb,wt,rfl,Ak!,e3,z3,dn⟩));.exact IV (IV ⟨_,rfl,q,E',_,rfl,hq,XV,_,rfl,_,rfl,q,b,G,tb,wt,rfl,Ak!,e3,z2,dn⟩)
def Gy(G:BX)(tb:T2)(sh:Int)(HK:Bool):BX:={ G with A_:=AT,hand:=Eg!,AH:=bH G tb sh HK }
def Vo(p:Addr)(W:FK)(H:Hp)(x:Addr):Prop:=∀b o,A4! o->b∉Bv p W->b≠x
inductive Ks(CW C CP:Addr)(vs:g!)(H:Hp)(Q:VK)(E:XK):Prop
 | mk (p t:Addr) (W:FK) (n s LG goal:Int) (tb:T2) (q:Addr) (G:BX) (_:CF! (E? t)) (_:Ap!) (_:IZ H t n G? s LG tb goal) (_:JX W LG q G) (_:Sz G) (_:wS) (_:Ex! 400) (_:((goal=LG/\∀(x t1:Addr)(H':Hp),FZ! LG.toNat (Gy G tb W.share true) IR (Am! t1)->IZ H' t1 Ck! k? LG s tb W.share->Es! (.BC [z! (IR)]))\/(goal≠LG/\∀(x t1 t2:Addr)(H':Hp),EY! LG.toNat (Gy G tb W.share false) AR! (Am! t1++[(AR!,t2)]) t1 Y! LG goal W.share (IZ H' t2 (AR!) k? LG s tb W.share) (Es! (.BC [z! (IR),z! (AR!)])))))
theorem NM:i? [S!,"letter","home",BP!,"goal","went"] DV! Tp:={}
theorem Jed(F:j? "pass_came" "World.pass_came" Tp)(T:Go)(TW:AP!)(TP:Ca!)(M1:DG K C "passed" "House.passed" Ny [S!,"b",IN,"mine"] f1 d1)(M3:DG K CP "put" "Post.put" K3 Aw! f3 d3) : Au! 2 DV! Ks:=by
 have G1:FB f1 d1 [S!,"b",IN,"mine"] Vz:=Jb9 M1.fn T;have G3:EU! f3 d3 Aw! Gd:=Jh M3.fn TP;refine F.ok NM (FM!) (λD_ A outer s H vs Q E hr h=>?_);.obtain⟨p,t,W,n,s,LG,goal,tb,q,G,rfl,_⟩:=h;rfl
 .obtain⟨p,t,W,n,s,LG,goal,tb,q,G,rfl,S,⟨a,b,e1,e2,e3⟩,i,⟨z1,z2,z3⟩,ho,zl,k⟩:=h;obtain⟨dx,hp⟩:=S.ob;refine Bu! (FP! 2 NM.nd FI!) (z? (Eq! 3 NM.nd) (Eq! 4 NM.nd) (z? (Du! (Av C4 R! b?) M1.mt G1 M1.bd (Aa (pv 3) (BL! R! (Lc Ca BJ! b? AQ!)))) (FU! 5 NM.nd (Es Af)) (z? (Bf (Az yF BJ! b? AQ!) (Ae (A3 (E6 BB DF DE Dw Rs (O? (FG! R! TP.cl M3.mt G3 M3.bd (CJ! 2 (Di! (ER! R!)))))))) A4) (A3 (E6 BB DF DE Dw Rs (O? (FG! R! TP.cl M3.mt G3 M3.bd (CJ! 2 (BL! FI! (ER! R!))))))) (Ae (Ay Rs)))));refine⟨_,rfl,t,_,_,_,rfl,rfl,y? e1,rfl,?_⟩;refine Ew!;refine Ew!;obtain⟨E',hq⟩:=Ej!;refine⟨_,rfl,p,CW,dx,_,_,rfl,hp,TW.cl,TW.nH,Du W,_,rfl,W.hs,_,_,_,rfl,rfl,DU.of S.hs,i.QI,q,E',_,rfl,hq,XV,_,rfl,_,rfl,p,CW,dx,_,_,rfl,hp,TW.cl,TW.nS,Ia W,_,rfl,_,rfl,rfl,q,b,G,tb,W.share,B7! (V.int LG),rfl,Ak!,e3,z2,z1,ho,C2!⟩;obtain⟨W1,HF⟩:=EE!;have NT:=EX!;refine⟨BE _,λx hx=>?_⟩;have s2:=Bq! .BC hx;have ex:f? H1 x Ch x Ch:=Ac;have W2:=EG!;have aF:=NT.trans (HN s2);(have cA:x≠W.hs:=λz=>by rw[z] at hx;rw[W1.hs] at hx;cases hx);(have tO:Vo p W H x:=λb o e hb z=>by rw[<-z,HF b o e hb] at hx;cases hx);have gA:=aF.AZ _ _ e1;have QN:=aF.AZ _ _ e3;obtain⟨IY,GO⟩:=W2.ob;obtain⟨OH,WJ⟩:=W2.po.ob;have eJ:x∉Bv p { W with qs:=E5! LG.toNat (Gy G tb W.share (decide (V.int goal=V.int LG))) }:=W2.RK ex cA;refine Eh! _ rfl _ rfl;rcases k with⟨rfl,k⟩|⟨ne,k⟩;(.rw[show(! B7! (V.int goal))=false by simp];refine By ?_;refine⟨_,rfl,A! ⟨rfl,_,DU.of ex⟩,_,rfl,p,CW,IY,_,_,rfl,GO,TW.cl,TW.nP,El _,W.po,OH,_,rfl,WJ,bi,_,rfl,_,rfl,t,_,_,_,rfl,rfl,y? gA,rfl,_,rfl,_,rfl,p,CW,IY,_,_,rfl,GO,TW.cl,TW.nS,Ia _,AH!,λa2 WL=>?_⟩;have s3:=EB! WL;have W3:=W2.same s3;refine CP! W3.po (BA zl BS!) (λt1 H4 ht et S4 VR=>?_);obtain⟨W4,QK⟩:=W3.JF S4 VR;have LA:=GV.DL W3 QK;have iJ:L! H4 x Ch:=QK _ _ (s3 _ _ ex) eJ;refine Eh! x _ iJ (Bb (DJ! (0<=1000)));(have kq:BW H4 (upd H4 x am):=CW! iJ);refine T0 (k x t1 _ ?_ ⟨a2,b,kq.AZ _ _ et,FJ! Ac,Dx! QN⟩ (BC!) cA tO Ac);(·(have:=W4.keep (H':=upd H4 x am) λb' o' H_ e'=>D6! eJ H_ e');rw[show B7! (V.int goal)=true by simp] at this;exact this);·(have iB:b'≠x:=λz=>by rw[z] at e' H_;rw[HF x o' e' H_] at hx;cases hx);rw[Ab iB];exact Av! VR (s3 _ _ Cb!));.rw[show(! B7! (V.int LG))=true by simp[ne]];refine B7 ?_;refine⟨_,rfl,A! ⟨rfl,_,DU.of ex⟩,_,rfl,p,CW,IY,_,_,rfl,GO,TW.cl,TW.nP,El _,W.po,OH,_,rfl,WJ,bi,_,rfl,_,rfl,_,rfl,_,rfl,p,CW,IY,_,_,rfl,GO,TW.cl,TW.nS,Ia _,AH!,λa2 WL=>?_⟩;have s3:=EB! WL;have W3:=W2.same s3;refine CP! W3.po (BA zl BS!) (λt1 H4 ht et S4 VR=>?_);obtain⟨W4,QK⟩:=W3.JF S4 VR;have LA:=GV.DL W3 QK;have iJ:L! H4 x Ch:=QK _ _ (s3 _ _ ex) eJ;refine Eh! x _ iJ (Bb (DJ! (0<=1000)));(have kq:BW H4 (upd H4 x am):=CW! iJ);have l1:IZ (upd H4 x am) t1 Ck! Y! LG goal tb W.share:=⟨a2,b,kq.AZ _ _ et,FJ! Ac,Dx! QN⟩;(have W5:=W4.keep (H':=upd H4 x am) λb' o' H_ e'=>D6! eJ H_ e');have pb:f? H4 x am x (.BC Cv!):=Ac;have jd:=Dx! gA;have jc:=Dx! QN;(have tR:∀b' o',V? b' o'->b'∉Bv p W->f? H4 x am b' o':=λb' o' e' H_=>by (have iB:b'≠x:=λz=>by rw[z] at e' H_;rw[HF x o' e' H_] at hx;cases hx);rw[Ab iB];exact Av! VR (s3 _ _ Cb!));generalize upd H4 x am=H5 at l1 W5 pb jd jc tR;obtain⟨aX,Y'⟩:=W5.ob;obtain⟨TC,lR⟩:=W5.po.ob;refine⟨_,rfl,A! ⟨rfl,_,DU.of pb⟩,_,rfl,p,CW,aX,_,_,rfl,Y',TW.cl,TW.nP,El _,W.po,TC,_,rfl,lR,bi,_,rfl,_,rfl,t,_,_,_,rfl,rfl,y? jd,rfl,_,rfl,_,rfl,p,CW,aX,_,_,rfl,Y',TW.cl,TW.nS,Ia _,AH!,λa6 ha6=>?_⟩;have s6:=EB! ha6;have W6:=W5.same s6;refine⟨W.po,W.pd,IR,Am! t1,_,_,_,_,rfl,W6.po,(by rw[ZE];show _+1<=500;lia),λt2 H7 ht7 pk S7 PK=>?_⟩;obtain⟨W7,eO⟩:=W6.JF S7 PK;have RV:=GV.DL W6 eO;have wN:L! H7 x (.BC Cv!):=eO _ _ (s6 _ _ pb) eJ;refine Eh! x _ wN (Bb (DJ! (1<=1000)));(have kr:BW H7 (upd H7 x (.BC (Cv!++[V.int (AR!)]))):=CW! wN);refine T0 (k x t1 t2 _ ?_ (l1.keep (((HN s6).trans RV).trans kr)) ⟨a6,b,kr.AZ _ _ pk,kr.AZ _ _ (RV.AZ _ _ Ac),kr.AZ _ _ (RV.AZ _ _ (s6 _ _ jc))⟩ (BC!) cA tO Ac);(·(have:=W7.keep (H':=upd H7 x (.BC (Cv!++[V.int (AR!)]))) λb' o' H_ e'=>D6! eJ H_ e');rw[show B7! (V.int LG)=false by simp[ne]] at this;exact this);·(have iB:b'≠x:=λz=>by rw[z] at e' H_;rw[HF x o' e' H_] at hx;cases hx);rw[Ab iB];exact Av! PK (s6 _ _ (tR b' o' e' H_))
universe E
universe S
inductive Hl(CW C CP:Addr)(vs:g!)(H:Hp)(Q:VK)(E:XK):Prop
 | mk (p:Addr) (W:FK) (_:vs=[pi]) (_:Ap!) (_:∀(l:Addr)(H':Hp),H l=none->L! H' l (.BC (W.ls.map λx=>V.ref x.2))->Bh H H'->FF! l)
theorem Yr:i? v! v! Gs:={}
theorem Wj(F:j? "letters" "World.letters" Gs)(TW:AP!)(TP:Ca!)(M1:DG K CP "letters" "Post.letters" Jc v! f1 d1):Au! 2 v! Hl:=by have G1:EU! f1 d1 v! Oi:=Wq M1.fn TP;refine WP Yr;obtain⟨p,W,rfl,S,k⟩:=h;refine Ev;obtain⟨dx,hp⟩:=S.ob;obtain⟨E',hq⟩:=S.po.ob;refine A1! (Ae (Ay (Dr (pl:=_) R! TP.cl M1.mt G1 hr M1.bd L? Bg)));exact⟨_,rfl,p,CW,dx,_,_,rfl,hp,TW.cl,TW.nP,El W,W.po,E',_,rfl,hq,bi,W.po,W.pd,W.c,W.ls,rfl,S.po,k⟩
structure mS(G:BX)(i:Nat):Prop where
 eq:∃h o l r,G=⟨C!,0,0,h,o,l,r,[],[],[],[]⟩
inductive Zv(CW C CP:Addr)(vs:g!)(H:Hp)(Q:VK)(E:XK):Prop
 | mk (p dx:Addr) (m sh:Int) (_:vs=[pi,q! m,q! sh]) (_:V? p (.ins CW dx [])) (_:0<=m) (_:m<=12) (_:∀(W:FK)(H':Hp),FR! W->W.share=sh->W.c=0->W.ls=[]->W.LD=[]->W.JK=[]->W.EN=[]->W.qs.length=m.toNat->(∀i q G,M? (W.qs[i]?)->mS G i)->(∀b u,A4! u->b≠p->L! H' b u)->Q .E_ H')
theorem Jgd:i? [S!,"many",IN] [S!,"many",IN] Ys:={}
theorem Jef(F:j? "__init__" "World.__init__" Ys)(T:Go)(TW:AP!)(TP:Ca!)(MmH:Mk K C fI)(FI:EU K "__init__" "House.__init__" mh fI dI)(bI:Binds K dI [S!,"number"] [])(MmP:Mk K CP fP)(FP:EU K "__init__" "Post.__init__" T1 fP dP)(bP:Binds K dP v! []):Au! 3 [S!,"many",IN] Zv:=by
 have GI:FB fI dI [S!,"number"] MX:=RR FI T;have GP:EU! fP dP v! Zz:=Jeo FP TP;refine WP Jgd;obtain⟨p,dx,m,sh,rfl,hp,m0,m1,k⟩:=h;refine Ev;refine A1! (Ad (Dm k! (pv 2) rfl) (z? (CO! (En (te:=Zs C (MX C) [] E0 (Dz (Bx 0) Jz)) (caps:=[]) rfl (Gx rfl T.range DN!) rfl ZV rfl ZV rfl trivial (λy h=>Jmz h) trivial ZV (λ_ _ _ _ _=>Jd) (p? (Ub MmH GI hr A7! T.cP bI L? Bg (O? k!))))) (CO! (Jd7 MmP GP hr A7! TP.cP bP L? Bg)) (z? (CO! Fd) (CO! Fd) (Ae (CO! Fd)))));refine⟨_,rfl,_,rfl,p,CW,dx,[],rfl,hp,TW.cl,TW.nS,(DJ! (0<1000)),?_⟩;have h1:An! H DR! DR!:=Ac;have k1:AX! H H DR!:=gH;generalize upd H p DR!=H1 at h1 k1;have mm:j! m.toNat=m:=BJ m0;refine⟨_,rfl,m,rfl,B!,B!,λr HZ=>?_⟩;have li0:Lies (upd H1 r Ch) [r,p]:=(Lies.mk (L:=[p]) ut (λb hb=>by rw[ZK hb];exact N? h1)).new HZ BN! (Ep! HZ);refine Ki (lo:=0) (n:=m.toNat) (tt:=λ_ H Q=>Q true H) (te:=Zs C (MX C) [] E0 (Dz (Bx 0) Jz)) (caps:=[]) (σ:=[Bs!,K! (z! m),K! (z! sh)]) (λi ys H2=>n? r Db/\Bh H1 H2/\∃qs:O!,ys=qs.map (λq=>V.ref q.1)/\qs.length=i/\(∀j q G,M? (qs[j]?)->mS G j)/\(∀q∈qs,AS C H2 q.1 q.2)/\Lies H2 BO!) ⟨Ac,Ah HZ,[],rfl,rfl,λj q G e=>by simp at e,X! (by simp at hq),li0⟩ (λi ys H2 _ h=>h.1) ?_ ?_;.rintro i ys H2 N hi ⟨er,s2,qs,rfl,ql,em,ho,li⟩ hN;refine B7 ?_;refine T0 (λx qF nx bL oF=>⟨x,qF,_,rfl,Ac,λh o l r' H3 fh fo fl fr S3 kp3=>l? ?_⟩);(have cH:Bh H2 (upd (upd H2 qF (.own x)) x (.ins C qF [])):=U? (cr (CV! nx) (CV! bL) e));have s3:Bh H2 H3:=U? (kp3 b o (cH b o e) (Aj e nx));have wW:=s3 _ _ er;(have e0:j! 0+C!=C!:=B!);rw[e0] at S3;refine⟨wW,Bb (v? ZA),hN _ _ ⟨Ac,U? ?_,qs++[(x,AM!)],F? ZF,ci ZE ql,λj q G e=>?_,X! ?_,?_⟩⟩;(.rw[Ab (λz=>by rw[z,HZ] at e;cases e)];exact DZ! s3 e);(.by_cases z:j<qs.length;(.rw[NC z] at e;exact em j q G e);.rw[Cm! MB] at e;(have zj:j-qs.length=0:=by rcases Nat.eq_zero_or_pos (j-qs.length) with h|h;(.exact h);.rw[CM (by simp;lia)] at e;cases e);rw[zj] at e;(have e:(x,(AM!:BX))=(q,G):=by simpa using e);(have ej:j=i:=B!);rw[ej,<-FK! e];exact⟨_,_,_,_,rfl⟩);(·(have all:∀q∈qs++[(x,(AM!:BX))],AS C H3 q.1 q.2:=X! (by rcases ZI hq with hq|hq;(.exact(ho q hq).same s3);.rw[ZK hq];exact S3));have vN:=all q hq;have ne:=vN.RL wW;exact vN.keep λb o hb e=>Q! (Ab (λz=>by rw[z] at hb;exact hb.elim ne.1 ne.2)) e);·(have a1:Lies H3 ((x::BI AM!)++BO!):=by refine li.add (AM.mpr ⟨λm=>S3.PR m rfl,S3.nd⟩) (λb hb=>?_) (λb hb=>?_) (U? ⟨o,s3 b o e⟩);(.rcases ZM hb with rfl|hb;(.exact nx);.simp only[BI,FO,BU,DD,JM] at hb;rcases hb with rfl|rfl|rfl|rfl;(.exact Bw cH fh);(.exact Bw cH fo);(.exact Bw cH fl);.exact Bw cH fr);.rcases ZM hb with rfl|hb;(.obtain⟨d,e⟩:=S3.ob;exact N? e);.obtain⟨kv,e⟩:=S3.LQ hb;exact N? e);(have a2:Cb (qs++[(x,(AM!:BX))])++[r,p]=(Cb qs++(x::BI AM!))++[r,p]:=by rw[G9];show(Cb qs++((x::BI AM!)++[]))++[r,p]=_;rw[AG]);rw[a2];refine((a1.perm ?_).keep (U? ?_));(.rw[<-AQ];exact OT _ FH);.by_cases z:b=r;(.rw[z];exact BN!);.exact⟨o,q? z e⟩
 .rintro ys H2 ⟨er,s2,qs,rfl,ql,em,ho,li⟩;have GO:=s2 _ _ h1;have l1:=A5 IN (z! sh) [];refine Cd! GO TW.nH;have l2:=A5 "houses" (E? r) Fc!;have k3:AX! H2 H2 El!:=gH;have PJ:An! H2 El! El!:=Ac;generalize upd H2 p El!=H3 at k3 PJ;have li3:=li.keep (k3.ex (N? PJ));intro po iT gk rW JKW;refine⟨po,iT,rfl,Ac,λpd H4 g_ P4 uz=>l? ?_⟩;(have uG:Bh H3 (upd (upd H3 iT (.own po)) po (.ins CP iT [])):=U? (cr (CV! gk) (CV! rW) e));have s4:Bh H3 H4:=U? (uz b o (uG b o e) (Aj e gk));have hJ:=s4 _ _ PJ;(have li4:Lies H4 (pd::po::BO!):=by have a:=li3.new (b:=po) (H':=upd (upd H3 iT (.own po)) po (.ins CP iT [])) gk BN! (U? ⟨o,uG b o e⟩);refine a.new g_ (N? P4.dc) (U? ?_);by_cases z:b=po;(.rw[z];obtain⟨d,e2⟩:=P4.ob;exact N? e2);.exact⟨o,uz b o e z⟩);refine Cd! hJ TW.nP;have l3:=A5 "post" (E? po) (Ar "houses" (E? r) Fc!);have k5:AX! H4 H4 DS!:=gH;have Y':An! H4 DS! DS!:=Ac;generalize upd H4 p DS!=H5 at k5 Y';have li5:=li4.keep (k5.ex (N? Y'));intro iq o_;have uv:=li5.new (H':=Ar! H5 iq) o_ BN! (Ep! o_);have iP:f? H5 iq Ab! iq Ab!:=Ac;have s6:=Bq! .dK o_;generalize Ar! H5 iq=H6 at uv iP s6;refine Cd! (s6 _ _ Y') TW.nI;have l4:=A5 "inquiries" (E? iq) Fd!;have k7:AX! H6 H6 Em!:=gH;have hG:An! H6 Em! Em!:=Ac;generalize upd H6 p Em!=H7 at k7 hG;have li7:=uv.keep (k7.ex (N? hG));intro fi pG;have ur:=li7.new (H':=Ar! H7 fi) pG BN! (Ep! pG);have wj:f? H7 fi Ab! fi Ab!:=Ac;have s8:=Bq! .dK pG;generalize Ar! H7 fi=H8 at ur wj s8;refine Cd! (s8 _ _ hG) TW.nF;have l5:=A5 "finds" (E? fi) (Ar "inquiries" (E? iq) Fd!);have k9:AX! H8 H8 DT!:=gH;have aL:An! H8 DT! DT!:=Ac;generalize upd H8 p DT!=H9 at k9 aL;have li9:=ur.keep (k9.ex (N? aL));intro en pH;have i':=li9.new (H':=Ar! H9 en) pH BN! (Ep! pH);have wm:f? H9 en Ab! en Ab!:=Ac;have cG:=Bq! .dK pH;generalize Ar! H9 en=HA at i' wm cG;refine Cd! (cG _ _ aL) TW.nE;have kB:AX! HA HA En!:=gH;have vO:An! HA En! En!:=Ac;generalize upd HA p En!=HB at kB vO;have nd:=i'.nd;(have pm:(en::fi::iq::pd::po::BO!).Perm ([p,r,po,pd,iq,fi,en]++Cb qs):=by have a:(Cb qs++[r,p]).Perm ([r,p]++Cb qs):=FH;have b:(en::fi::iq::pd::po::BO!).Perm ([en,fi,iq,pd,po,r,p]++Cb qs):=((((a.cons po).cons pd).cons iq).cons fi).cons en;refine b.trans (OT _ ?_);exact(List.reverse_perm [p,r,po,pd,iq,fi,en]));have KA:=pm.nodup_iff.mp nd;have u0:Kp p H9 HB:=Kp.trans (BX! cG) kB;have u_:Kp p H7 HB:=Kp.trans (Kp.trans (BX! s8) k9) u0;have kA5:Kp p H5 HB:=Kp.trans (Kp.trans (BX! s6) k7) u_;have oM:Kp p H4 HB:=k5.trans kA5;have oN:Kp p H2 HB:=(k3.trans (BX! s4)).trans oM;have tn:=(AK.mp KA).1;simp only[AM,BU,DD,JM,not_or,CK,and_true,not_false_eq_true] at tn;obtain⟨⟨a1,a2,a3,a4,a5,a6⟩,_⟩:=tn;have RX:∀b∈Cb qs,b≠p:=λb hb z=>(AK.mp KA).2.2 p ut b hb z.symm;refine k ⟨sh,r,po,iq,fi,en,pd,0,[],qs,[],[],[]⟩ HB ⟨⟨dx,by rw[vO,<-Jik]⟩,UF oN er a1,X! ((ho q hq).keep λb o hb e=>oN b o e (RX b (CU.mpr (Az! hb)))),P4.keep (λo e=>UF oM e a2) (λo e=>UF oM e a3),UF (k7.trans u_) iP a4,UF (k9.trans u0) wj a5,UF kB wm a6,KA⟩ rfl rfl rfl rfl rfl rfl ql em λb u e hb=>oN b u (s2 b u (k1 b u e hb)) hb
theorem M':i? [S!,"n","letter","kind"] [S!,"n"] Iy:={}
inductive Nv(CW C CP DJ NW:Addr)(vs:g!)(H:Hp)(Q:VK)(E:XK):Prop
 | mk (p b:Addr) (h g:Int) (W:FK) (tb:T2) (q:Addr) (G:BX) (_:vs=[pi,z! h,q! g,o! b]) (_:Ap!) (_:A4! (.AZ (tv tb))) (_:JX W h q G) (_:(∃q2 G2,JX W g q2 G2)) (_:G.AH.length<=500) (_:G.AN.length<=500) (_:Ex! 500) (_:((tb∉G.hand/\E (E? DJ) none H)\/(Ez!/\tb.1=G.BL/\∃o,Bt! G.AH.find? wP tb o/\E8! G.AN.find? wP=none/\∀(t:Addr)(H':Hp),EY! h.toNat { G with A_:=AT,AH:=Dl! (o+W.share) } IR (Am! t) t Y! h g W.share FH! (Q (z! Ck!) H'))\/(Ez!/\BW!/\∃wt,Bt! G.AN.find? wP tb wt/\((wt=0/\E (E? NW) none H)\/(wt=1/\∀(t:Addr)(H':Hp),EY! h.toNat { G with A_:=AT,AN:=AZ! 0 } IR (Am! t) t G? h tb.1 g FH! (Q (z! Ck!) H'))\/(2<=wt/\∀(t:Addr)(H':Hp),EY! h.toNat { G with A_:=AT,AN:=AZ! (wt-BD!) } IR (Am! t) t Y! h g (BD!) FH! (Q (z! Ck!) H'))))))
theorem RP:i? [S!,"h","g","b","house","weight"] [S!,"h","g","b"] To:={}
theorem Rv(h:Bt! l.find? d! t w):Bt! (Be l t v).find? d! t v:=by have m:ww:=AC ⟨_,AJ h,rfl⟩;unfold Be;rw[AD m];clear m;induction l with | nil=>simp at h | cons q l ih =>rw[AI];by_cases e:d!;(.rw[AD e,BN];simp[e]);.rw[AB e,BN];rw[BN] at h;simp only[e,OQ] at h ⊢;exact ih h
theorem Jec(F:j? "send" "World.send" To)(T:Go)(TW:AP!)(TP:Ca!)(MH:DG K CW "house" "World.house" Em xL fH dH)(M1:DG K C "part" "House.part" mn [S!,"b",IN] f1 d1)(G1:Bi! 3 f1 d1 [S!,"b",IN] (Yk C DJ NW))(M2:DG K C "is_spent" "House.is_spent" Tu [S!,BP!] f2 d2)(M3:DG K CP "put" "Post.put" K3 Aw! f3 d3) : Bi! 4 f fd [S!,"h","g","b"] (Nv CW C CP DJ NW):=by
 have GH:Bi! 1 fH dH xL (Eh CW C CP NH):=Ea MH.fn T TW;have G2:Bi! 1 f2 d2 [S!,BP!] (Zw C):=FX.EO.TK (Jel M2.fn T);have G3:Bi! 1 f3 d3 Aw! (Gd CP):=FX.EO.TK (Jh M3.fn TP);refine Gz F RP FM!;obtain⟨p,b,h,g,W,tb,q,G,rfl,S,hb,i,⟨q2,qt,i2⟩,z1,z2,z3,k⟩:=h;refine Ev;have HP:DI 1 _:=hr.mono (db);obtain⟨dx,hp⟩:=S.ob;refine Bu! (FP! 4 RP.nd (B9! k! TW.cl MH.mt GH MH.bd DN!)) (Ad (A3 (B9! k! TW.cl MH.mt GH MH.bd (O? b?))) (z? (FU! 5 RP.nd (As (pl:=_) BJ! T.cl M1.mt G1 hr M1.bd L? Bp (Aa (pv 3) (O? R!)))) (Bf (Fx (B9! BJ! T.cl M2.mt G2 M2.bd (O? (pv 3)))) (Ae (Ay (B9! R! TP.cl M3.mt G3 M3.bd (CJ! 1 (BL! (Av Aq (pv 3) Ag) (ER! b?)))))) A4) (Ae (Ay (B9! R! TP.cl M3.mt G3 M3.bd (CJ! 1 (Aa (pv 2) (O? (ER! Rs)))))))));obtain⟨E',hq⟩:=Ej!;refine⟨_,rfl,p,dx,_,rfl,hp,Dp W ZV,_,rfl,p,h,W,rfl,S,F! ⟨q,G,i,_,rfl,p,dx,_,rfl,hp,Dp W ZV,_,rfl,p,g,W,rfl,S,F! ⟨q2,qt,i2,?_⟩⟩⟩;refine⟨_,rfl,q,E',_,rfl,hq,XV,_,rfl,_,rfl,p,CW,dx,_,_,rfl,hp,TW.cl,TW.nS,Ia W,q,b,G,tb,W.share,rfl,Ak!,hb,z1,z2,?_⟩;rcases k with k|⟨h1,h2,o,h3,h4,k⟩|⟨h1,h2,wt,h3,k⟩;.exact A! k
 .refine TD ⟨h1,h2,o,h3,C2!⟩;obtain⟨W1,HF⟩:=EE!;have NT:=EX!;obtain⟨IY,bQ⟩:=S1.ob;refine⟨_,rfl,q,IY,_,rfl,bQ,CL!,_,rfl,q,b,_,tb,rfl,S1,B8!,_,rfl,?_⟩;(have e4:H? (((G.AN.find? (Cu! wP)).map (·.2))=K! 0)=false:=F? h4);rw[e4];refine By ?_;obtain⟨OH,PJ⟩:=W1.ob;obtain⟨XD,cU⟩:=W1.po.ob;refine⟨_,rfl,p,CW,OH,_,_,rfl,PJ,TW.cl,TW.nP,El _,W.po,XD,_,rfl,cU,bi,_,rfl,_,rfl,_,rfl,_,rfl,AH!,λa ha=>?_⟩;have s2:=EB! ha;have W2:=EG!;refine CP! W2.po z3 (λt H3 ht et S3 MQ=>?_);obtain⟨W3,UN⟩:=W2.JF S3 MQ;have QG:=GV.DL W2 UN;refine k t H3 W3 ⟨a,b,et,QG.AZ _ _ Ac,DZ! QG.AZ (NT.AZ _ _ hb)⟩ BC!;exact Av! MQ Cb!
 .refine o? ⟨h1,h2,wt,h3,?_⟩;rcases k with k|⟨rfl,k⟩|⟨h4,k⟩;(.exact A! k);(.refine h! db C2!;(have eg:j! 1-Hf 1=0:=db);rw[eg] at S1;obtain⟨W1,HF⟩:=EE!;have NT:=EX!;obtain⟨IY,bQ⟩:=S1.ob;refine⟨_,rfl,q,IY,_,rfl,bQ,CL!,_,rfl,q,b,_,tb,rfl,S1,B8!,_,rfl,?_⟩;(have e4:H? ((((Be G.AN tb 0).find? (Cu! wP)).map (·.2))=K! 0)=true:=F? (Rv h3));rw[e4];refine B7 ?_;obtain⟨OH,PJ⟩:=W1.ob;obtain⟨XD,cU⟩:=W1.po.ob;have lW:=B8!;refine⟨_,rfl,p,CW,OH,_,_,rfl,PJ,TW.cl,TW.nP,El _,W.po,XD,_,rfl,cU,bi,_,rfl,_,rfl,b,_,_,_,rfl,rfl,y? lW,rfl,_,rfl,_,rfl,AH!,λa ha=>?_⟩;have s2:=FY! (V.int g) ha;have W2:=EG!;refine CP! W2.po z3 (λt H3 ht et S3 MQ=>?_);obtain⟨W3,UN⟩:=W2.JF S3 MQ;have QG:=GV.DL W2 UN;refine k t H3 W3 ⟨a,b,et,QG.AZ _ _ Ac,DZ! QG.AZ lW⟩ BC!;exact Av! MQ Cb!);.refine h! B! C2!;(have eg:Hf wt=BD!:=by unfold Hf;rw[AB (B!)]);rw[eg] at S1;obtain⟨W1,HF⟩:=EE!;have NT:=EX!;obtain⟨IY,bQ⟩:=S1.ob;refine⟨_,rfl,q,IY,_,rfl,bQ,CL!,_,rfl,q,b,_,tb,rfl,S1,B8!,_,rfl,?_⟩;(have e4:H? ((((Be G.AN tb (wt-BD!)).find? (Cu! wP)).map (·.2))=K! 0)=false:=by rw[Rv h3];refine BR! (λz=>?_);have:wt-BD!=0:=ZO z;lia);rw[e4];refine By ?_;obtain⟨OH,PJ⟩:=W1.ob;obtain⟨XD,cU⟩:=W1.po.ob;have lW:=B8!;refine⟨_,rfl,p,CW,OH,_,_,rfl,PJ,TW.cl,TW.nP,El _,W.po,XD,_,rfl,cU,bi,_,rfl,_,rfl,_,rfl,_,rfl,AH!,λa ha=>?_⟩;rw[eg] at *;have s2:=FY! (V.int (BD!)) ha;have W2:=EG!;refine CP! W2.po z3 (λt H3 ht et S3 MQ=>?_);obtain⟨W3,UN⟩:=W2.JF S3 MQ;have QG:=GV.DL W2 UN;refine k t H3 W3 ⟨a,b,et,QG.AZ _ _ Ac,DZ! QG.AZ lW⟩ BC!;exact Av! MQ Cb!
universe E
structure mR(H:Hp)(c h:Int)(L:DH!)(bs:J!):Prop where
 BL:V! L.map=(List.range bs.length).map λ(i:Nat)=>c+1+C!
 NU:Paired (λ(y:Int×Addr)(q:T2×Int)=>IZ H y.2 y.1 T? h q.1.1 q.1 q.2) L bs
universe S
inductive Nw(CW C CP:Addr)(vs:g!)(H:Hp)(Q:VK)(E:XK):Prop
 | mk (p l:Addr) (h:Int) (W:FK) (as:Z?) (bs:J!) (_:vs=[pi,z! h,o! l]) (_:Ap!) (_:V? l AT!) (_:l∉Bv p W) (_:IP H as bs) (_:bs.length<=60) (_:Ex! 400) (_:∀(x:Addr)(L:DH!)(H':Hp),FR! { W with c:=W.c+(bs.length:Nat),ls:=W.ls++L }->mR H' W.c h L bs->Es! (.BC (L.map CH!)))
theorem Jgf:i? CN! CN! Oo:={}
def xw(CP:Addr)(K:W.Frag):TE:=Qw CP "put" (Gd CP) [] E0 (Sn K (Bx 2) "post") (Dz (tC (.str T?)) (Dz (Bx 1) (Dz (NS (Ql K) (NS (Ql K) (Bx 0) Ee!) Ee!) (Dz (Bx 0) Jz))))
theorem Jeh(F:j? BQ! "World.give_back" Oo)(TW:AP!)(TP:Ca!)(M3:DG K CP "put" "Post.put" K3 Aw! f3 d3):Au! 2 CN! Nw:=by
 have G3:EU! f3 d3 Aw! Gd:=Jh M3.fn TP;refine WP Jgf;obtain⟨p,l,h,W,as,bs,rfl,S,el,lno,bk,zb,zl,k⟩:=h;refine Ev;have uy:=Y? bk;refine A1! (Ae (Ay (En (te:=xw CP K) (caps:=[("h",1),(S!,0)]) rfl (Do b?) rfl ZV rfl ZV rfl ⟨rfl,rfl,trivial⟩ (λy h=>Jm1 (N? rfl) (N? rfl) h) ⟨Cp!,Cp!,trivial⟩ ZV (λ_ _ _ _ _=>Jd) (p? (As (pl:=_) (Ao b? rfl) TP.cl M3.mt G3 hr M3.bd L? Bg (CJ! 1 (BL! (Av Aq (Av Aq (pv 0) Ag) Ag) k!)))))));refine Ed! l (DM! el) (λr HZ=>?_);have s0:=Bq! .BC HZ;have fE:l≠r:=Aj el HZ;have fB:r∉Bv p W:=S.NN HZ;have S0:AO CW C CP (upd H r Ch) p { W with c:=W.c+DG! 0,ls:=W.ls++[] }:=cr (show W.c+DG! 0=W.c by simp) AG (S.same s0)
 refine Fq (K:=K) (a:=l) (xs:=as.map V.ref) (tt:=λ_ H Q=>Q true H) (te:=xw CP K) (caps:=[("h",1),(S!,0)]) (σ:=[Bs!,K! (z! h),o0 l]) (λi ys H2=>n? r Db/\n? l AT!/\∃L,ys=L.map (CH!)/\AO CW C CP H2 p { W with c:=W.c+(i:Nat),ls:=W.ls++L }/\mR H2 W.c h L (bs.take i)/\IP H2 as bs/\GV p W H H2) ⟨Ac,s0 _ _ el,[],rfl,S0,l? L?,bk.keep (HN s0),BX! s0⟩ (λi ys H2 _ h=>⟨DU.of h.2.1,h.1⟩) ?_ ?_;.rintro i v ys H2 N hi ⟨er,wZ,L,rfl,W2,b2,qM,NQ⟩ hN;refine B7 ?_;rw[ZH] at hi;cases aQ:as[i]? with | none=>rw[aQ] at hi;cases hi | some ai =>rw[aQ] at hi;cases hi;(have pB:i<bs.length:=BE! uy aQ);obtain⟨q,hq⟩:=Au pB;obtain⟨cc,ea,ec⟩:=Aw qM i ai q aQ hq;(have lL:L.length=i:=by have:=Y? b2.NU;rw[B'] at this;lia);obtain⟨IY,GO⟩:=W2.ob;obtain⟨OH,WJ⟩:=W2.po.ob;refine⟨_,rfl,p,CW,IY,_,_,rfl,GO,TW.cl,TW.nP,El _,W.po,OH,_,rfl,WJ,bi,_,rfl,_,rfl,ai,_,_,_,rfl,rfl,y? ea,rfl,cc,_,_,_,rfl,rfl,y? ec,rfl,_,rfl,?_⟩;refine⟨W.po,W.pd,_,_,_,_,_,_,rfl,W2.po,(by rw[ZE,lL];lia),λt H4 ht et S4 VR=>?_⟩;obtain⟨W4,QK⟩:=W2.JF S4 VR;have LA:=GV.DL W2 QK;have S_:L! H4 r (.BC (L.map CH!)):=QK _ _ er fB;have cg:L! H4 l AT!:=QK _ _ wZ lno;(have kq:BW H4 (upd H4 r (.BC (L.map (CH!)++[V.int (DU!)]))):=CW! S_);refine⟨S_,Bb (v? ZA),hN _ _ ⟨Ac,q? fE cg,L++[(DU!,t)],F? ZF,?_,?_,qM.keep (LA.trans kq),BC!⟩⟩;(·(have e1:W.c+DG! (i+1)=DU!:=B!);rw[e1,<-AQ];exact W4.keep λb o hb e=>D6! fB hb e);(.rw[DS,hq];refine⟨?_,Fe ?_ (Ap (λ_ _ rr=>rr.keep (LA.trans kq)) b2.NU)⟩;(.have n1:=b2.BL;(have n2:(bs.take i).length=i:=v? B');rw[n2] at n1;rw[ZF,n1,ZE,n2];show _=(List.range (i+1)).map _;rw[EZ,ZF];congr 1;show [DU!]=[IR+C!];congr 1;lia);.exact⟨ai,cc,kq.AZ _ _ et,FJ! ea,FJ! ec⟩);·(have iC:b'≠r:=λz=>by rw[z] at e';rw[HZ] at e';cases e');rw[Ab iC];exact QK b' o' (NQ b' o' e' H_) H_
 .rintro ys H2 ⟨er,wZ,L,rfl,W2,b2,qM,NQ⟩;rw[ZA,uy] at W2 b2;rw[BP] at b2;exact k r L H2 W2 b2 NQ (λz=>fB (Q! z (ZB _ (E2!)))) (λb o e _ z=>by rw[<-z,e] at HZ;cases HZ) er
theorem Kg:∀b∈BI (IM (HV l!)),b∈BI G:=λb hb=>by unfold BI at hb ⊢;have hb:b∈G.h::G.o::G.l::G.r::(G.holds.filter (Cu! (q.1∈R))).map (·.2.1):=hb;simp only[BU] at hb ⊢;rcases hb with h|h|h|h|h;(.exact I!);(.exact TD h);(.exact De! h);(.exact o? (i! (.inl h)));.obtain⟨q,hq,e⟩:=ZN h;exact o? (i! (i! (AF.mpr ⟨q,FC!,e⟩)))
inductive Kt(CW C CP:Addr)(vs:g!)(H:Hp)(Q:VK)(E:XK):Prop
 | mk (p:Addr) (h:Int) (W:FK) (q:Addr) (G:BX) (n m:Nat) (rs:J!) (R:Q?) (_:CF! (z! h)) (_:Ap!) (_:JX W h q G) (_:GM) (_:n<=62) (_:EH!) (_:EI!) (_:AN!) (_:Dy!) (_:Fb! m) (_:m<=5000) (_:Ok l! n) (_:(B4 l! rs).length<=60) (_:Ex! 400) (_:∀(x:Addr)(L:DH!)(H':Hp),FZ! h.toNat ED! (W.c+((B4 l! rs).length:Nat)) (W.ls++L)->mR H' W.c h L (B4 l! rs)->Es! (.BC (L.map CH!)))
theorem Jds:i? xL xL Nx:={}
theorem Jb7(F:j? "clean" "World.clean" Nx)(T:Go)(TW:AP!)(MH:DG K CW "house" "World.house" Em xL fH dH)(M1:DG K C "clean" "House.clean" T7 v! f1 d1)(G1:Bo! f1 d1 v! Ti)(M2:DG K CW BQ! "World.give_back" Oo CN! f2 d2)(G2:DH P w K mg base 2 f2 d2 CN! (Nw CW C CP)):Au! 3 xL Kt:=by
 have GH:DH P w K mg base 1 fH dH xL (λvs H Q _=>Eh CW C CP NH vs H Q E0):=FX.EO.no (Ea MH.fn T TW);refine WP Jds;obtain⟨p,h,W,q,G,n,m,rs,R,rfl,S,i,ok,zn,aJ,aH,pm,pw,rc,zm,WX,zb,zl,k⟩:=h;refine Ev;have HP:DI 1 _:=hr.mono (db);obtain⟨dx,hp⟩:=S.ob;obtain⟨E',hq⟩:=Ej!;refine A1! (Ae (Ay (FG! k! TW.cl M2.mt G2 M2.bd (Aa (pv 1) (O? (Dr (pl:=_) (As (pl:=_) k! TW.cl MH.mt GH HP MH.bd L? Bg DN!) T.cl M1.mt G1 hr M1.bd L? Bg))))));refine⟨_,rfl,p,dx,_,rfl,hp,Dp W ZV,_,rfl,_,rfl,p,dx,_,rfl,hp,Dp W ZV,_,rfl,p,h,W,rfl,S,F! ⟨q,G,i,q,E',_,rfl,hq,XV,q,G,n,m,rs,R,rfl,Ak!,ok,zn,aJ,aH,pm,pw,rc,zm,WX,λx as H1 nx ex bk S1 KY=>?_⟩⟩;obtain⟨W1,HF⟩:=S.step i.2 S1 KY λb hb=>A! (Kg b hb);have cS:=S.IG (b:=W.hs) (E2!) (ZP i.2);have cA:x≠W.hs:=λz=>nx _ _ S.hs cS.1 cS.2 z.symm;have sub:∀b,b∉Bv p W->b∉Bv p { W with qs:=E5! h.toNat ED! }:=λb hb m=>by rcases ZI m with m|m;(.exact hb (ZB _ m));.obtain⟨z,hz,hm⟩:=CU.mp m;have hz:z∈E5! h.toNat ED!:=hz;rcases NB hz with hz|rfl;(.exact hb (ZC _ (CU.mpr ⟨z,hz,hm⟩)));.refine hb (ZC _ (CU.mpr ⟨(q,G),ZP i.2,?_⟩));exact hm.imp id λz=>Kg b z
 refine⟨p,x,h,_,as,_,rfl,W1,ex,W1.RK ex cA,bk,zb,zl,λy L H2 W2 b2 NQ b_ bz ey=>?_⟩;exact k y L H2 W2 b2 (Ce! (NQ b o (HF b o e hb) (sub b hb))) b_ (Ce! (bz b o (HF b o e hb) (sub b hb))) ey
universe E
universe E K62
universe N FX
open PySem PySem.Spec PyProof.Rows L2
def QJ(G:BX)(t:T2):Prop:=A3!\/∃q∈G.holds,C0!
theorem Lu(h:t∈Bn G.holds ta):R?:=by unfold Bn at h;cases e:G.holds.find? λq=>H? (q.1=ta) with | none=>rw[e] at h;cases h | some q=>rw[e] at h;exact F! ⟨q,AJ e,h⟩
def ao(m:Nat)(t:T2):Prop:=TU t/\t.1<m
structure Sd(m:Nat)(G:BX)(n:Nat):Prop where
 ok:GM
 nn:∀q∈G.AN,0<=q.2
 ip:∀t,R?->ao m t
 rk:∀t,R?->t.1≠G.BL->P? G.AN.map
 ir:∀t∈V! G.AN.map,ao m t
 n0:0<=G.BL
 n1:G.BL<m
 m0:0<=G.AU
 m1:G.AU<=n
theorem Ra(h:q∈Be l t v):q=(t,v)\/q∈l:=by
 unfold Be at h;by_cases c:ww;.rw[N!] at h;obtain⟨r,hr,e⟩:=ZN h;by_cases d:r.1=t;(.rw[AD d] at e;exact B? (by rw[<-e,d]));.rw[AB d] at e;exact AW! i! hr
 .rw[P!] at h;rcases ZI h with h|h;(.exact wv);.exact B? K?
theorem D0(l:J!)(t:T2)(v:Int):P? (Be l t v).map/\(∀u∈V! l.map,u∈V! (Be l t v).map)/\∀u∈V! (Be l t v).map,u=t\/u∈V! l.map:=by
 rw[Gu];by_cases c:ww;.rw[N!];exact⟨c,λu hu=>hu,λu hu=>F! hu⟩
 .rw[P!];refine⟨ZC _ ut,λu hu=>ZB _ hu,λu hu=>?_⟩;rcases ZI hu with hu|hu;(.exact F! hu);.exact B? (by simpa using hu)
theorem C6:∀(l:J!)(t u:T2)(v:Int),Ai (Be l t v) u=if u=t then v else Ai l u:=by
 have app:∀(l:J!)(t u:T2)(v:Int),t∉V! l.map->Ai (l++[(t,v)]) u=if u=t then v else Ai l u:=λl t u v h=>by unfold Ai;rw[FU];by_cases e:u=t;(.rw[AD e,e];(have:E8! l.find? d!=none:=AY.mpr (X! (by have:¬d!:=λz=>h (AF.mpr (Az! z));simpa using this)));rw[this];simp);.rw[AB e];have:¬t=u:=E0! e;cases E8! l.find? (q.1=u)<;>simp[this]
 have mp:∀(l:J!)(t u:T2)(v:Int),ww->Ai (l.map λq=>if d! then(q.1,v) else q) u=if u=t then v else Ai l u:=λl t u v h=>by induction l with | nil=>simp at h | cons q l ih =>unfold Ai;rw[AI,BN,BN];by_cases e:d!;(.rw[AD e];by_cases e2:u=t;(.rw[AD e2,e2,e];simp);.rw[AB e2];have n1:¬q.1=u:=λz=>e2 (z▸e);rw[BR! n1];by_cases hl:ww;(.have:=ih hl;rw[AB e2] at this;exact this);·(have:(l.map λq=>if d! then(q.1,v) else q)=l:=by refine(BM Cy!).trans (List.map_id l);have:¬r.1=t:=λz=>hl (AF.mpr (AE! z));rw[AB this];rfl);rw[this]);.rw[AB e];(have hl:ww:=by rcases ZM h with h|h;(.exact DW! e);.exact h);by_cases e2:q.1=u;(.rw[A6! e2];have:¬u=t:=λz=>e (e2.trans z);rw[AB this]);.rw[BR! e2];exact ih hl
 intro l t u v;unfold Be;by_cases c:ww;.rw[N!];exact mp l t u v c
 .rw[P!];exact app l t u v c
theorem D6(l:J!)(P:T2->Bool)(t:T2):D! (l.filter λq=>P q.1)=BY! (P t=true) (D! l):=by induction l with | nil=>by_cases c:P t=true<;>simp[c,Ai] | cons q l ih =>rw[CY];by_cases e:d!;(.by_cases c:P q.1=true;(.rw[N!,AW! AD c];unfold Ai;rw[BN,BN,decide_eq_true e]);.rw[P!,ih,AB (U! e c),AB (U! e c)]);·(have e1:D! (q::l)=D! l:=by unfold Ai;rw[BN,decide_eq_false e]);rw[e1];by_cases c:P q.1=true;(.rw[N!];(have:D! (q::l.filter λq=>P q.1)=D! (l.filter λq=>P q.1):=by unfold Ai;rw[BN,decide_eq_false e]);rw[this,ih]);.rw[P!,ih]
theorem Il(h:∀q∈l,0<=q.2)(t:T2):0<=D! l:=by unfold Ai;cases e:E8! l.find? d! with | none=>exact A' _ | some q=>exact h q (AJ e)
universe S
theorem Sd.of(x:w!)(cJ:Bn! G')(nu:E9!)(md:G'.AU=G.AU)(hd:FA! (R?\/(ao m t/\(t.1≠G.BL->P? G'.AN.map))))(hl:∀q∈G'.holds,∀t∈q.2.2,R?)(nn:∀q∈G'.AN,0<=q.2)(ir:∀t∈V! G'.AN.map,P? G.AN.map\/ao m t)(ks:∀t,QJ G' t->P? G.AN.map->P? G'.AN.map):g? G':=by
 refine⟨cJ,nn,BF!,BZ!,t? ((ir t ht).elim (x.ir t) id),Q! nu x.n0,Q! nu x.n1,Q! md x.m0,by rw[md];have:=x.m1;lia⟩;.rcases ht with ht|⟨q,hq,ht⟩;(.rcases hd t ht with h|h;(.exact x.ip t h);.exact h.1);.exact x.ip t (hl q hq t ht)
 .rw[nu] at e;rcases id ht with h|⟨q,hq,h⟩;(.rcases hd t h with h|h;(.exact ks t ht (x.rk t h e));.exact h.2 e);.exact ks t ht (x.rk t (hl q hq t h) e)
theorem Sd.up(x:w!):Sd m G (n+1):=x.of (x.ok.mono (FC n)) rfl rfl (Is E1!) (λq hq t ht=>s?) x.nn WF No
theorem Sd.tk(x:w!):Sd m (IM G) n:=⟨x.ok.IM,x.nn,x.ip,x.rk,x.ir,x.n0,x.n1,x.m0,x.m1⟩
theorem Sd.make(x:w!)(hm:m<=12)(hn:n<60)(a:Addr):g? (IM (UR G a)):=by
 refine Sd.tk ⟨x.ok.UR a,x.nn,BF!,BZ!,x.ir,x.n0,x.n1,by show 0<=G.AU+1;have:=x.m0;lia,by show G.AU+1<=DG! (n+1);have:=x.m1;lia⟩;.have h1:=x.m1;have h2:=x.n1;rcases ht with ht|⟨q,hq,ht⟩;(.have ht:Ei!:=ht;rcases ZI ht with ht|ht;(.exact x.ip t E1!);·(have:Ba!:=by simpa using ht);rw[this];exact⟨⟨x.n0,u? (G.BL<12),x.m0,u? (G.AU<60)⟩,x.n1⟩);.have hq:q∈C4!:=hq;rcases ZI hq with hq|hq;(.exact x.ip t (i! (Az! ht)));·(have:q=(lc,a,[]):=by simpa using hq);rw[this] at ht;cases ht
 .rcases ht with ht|⟨q,hq,ht⟩;(.have ht:Ei!:=ht;rcases ZI ht with ht|ht;(.exact x.rk t E1! e);·(have:Ba!:=by simpa using ht);exact absurd (F? this) e);.have hq:q∈C4!:=hq;rcases ZI hq with hq|hq;(.exact x.rk t (i! (Az! ht)) e);·(have:q=(lc,a,[]):=by simpa using hq);rw[this] at ht;cases ht
theorem Ok.YI(ok:GM)(h:tb.1=G.BL->wS):Bn! (A5! AF!):=by
 refine(ok.mono (FC n)).hand (O4 _ ok.hn) (by have:=G7 G.hand tb;have:=ok.hz;lia) BZ!;rcases d? with ht|ht;.exact ok.hk t ht e
 .rw[ht];exact h (U! ht e)
def Ng(G:BX)(ta tb:T2):BX:=IM (Ek! Bj)
def L1(G:BX)(ta tb:T2):BX:=IM (Ek! E2)
def Lz(G:BX)(tb:T2):BX:=IM (A5! AF!)
def L0(G:BX)(tb:T2):BX:=IM (A5! (E2 G.hand tb))
theorem Sd.hold(x:w!)(hb:Ez!):g? (Ng G ta tb):=by
 have cJ:Bn! (Ek! Bj):=by obtain⟨g1,g2,g3⟩:=x.ok.get ta;refine(x.ok.mono (FC n)).holds (O4 _ g1) (CS! (G7 (Bn G.holds ta) tb)) BZ!;rcases d? with ht|ht;(.exact g3 t ht e);.rw[ht];exact x.ok.hk tb hb (A8! ht e)
 refine Ag! cJ ?_ x.nn WF No;rcases Lh hq with⟨_,e⟩|hq;.rw[e] at ht;rcases d? with ht|ht;(.exact Lu ht);.rw[ht];exact A! hb
 .exact s?
theorem Sd.drop(x:w!)(ta tb:T2):g? (L1 G ta tb):=by
 have cJ:Bn! (Ek! E2):=by obtain⟨g1,g2,g3⟩:=x.ok.get ta;refine(x.ok.mono (FC n)).holds (g1.sublist FA) (by have:=AV (λu=>H? (u≠tb)) (Bn G.holds ta);unfold E2;lia) λt ht e=>g3 t Ai! e
 refine Ag! cJ ?_ x.nn WF No;rcases Lh hq with⟨_,e⟩|hq;.rw[e] at ht;exact Lu Ai!
 .exact s?
theorem Sd.take(x:w!)(hb:tb∈Bn G.holds ta):g? (Lz G tb):=by
 refine E4! (x.ok.YI λe=>(x.ok.get ta).2.2 tb hb e) (Is ?_) s? x.nn WF No;rcases d? with ht|ht;.exact A! ht
 .rw[ht];exact Lu hb
theorem Sd.free(x:w!)(tb:T2):g? (L0 G tb):=by refine E4! ((x.ok.mono (FC n)).hand (l:=E2 G.hand tb) (x.ok.hn.sublist FA) (by have:=AV (λu=>H? (u≠tb)) G.hand;have:=x.ok.hz;unfold E2;lia) λt ht e=>x.ok.hk t Ai! e) (Is (.inl Ai!)) s? x.nn WF No
def Zi(G:BX)(tb:T2)(v:Int):BX:=IM { G with AH:=Dl! v }
def Mv(G:BX)(tb:T2)(v:Int):BX:=IM { G with AN:=AZ! v }
theorem Sd.out(x:w!)(h:wS)(v:Int):Eb! Zi :=Ag! ((x.ok.AH h v).mono (FC n)) s? x.nn WF No
theorem Sd.dX(x:w!)(hf:BW!)(hi:ao m tb)(hv:0<=v):Eb! Mv:=by
 have okc:=(x.ok.jx hf v).hand (l:=G.hand) x.ok.hn (FR x.ok.hz) x.ok.hk;refine Ag! okc s? (X! ?_) SC (λt _ h=>(D0 _ _ _).2.1 t h);.rcases Ra hq with e|hq;(.rw[e];exact hv);.exact x.nn q hq
 .rcases At! with e|h;(.rw[e];exact F! hi);.exact I!
def Ir(G:BX)(R:Q?):BX:=ED!
theorem Sd.clean(x:w!)(WX:Ok l! n):g? (Ir G R):=by
 refine Ag! (WX.HV.mono (FC n)) (F! ⟨q,FC!,ht⟩) (X! (Dc! x.nn)) (Is (D8! ht)) (λt ht hk=>?_);obtain⟨q,hq,e⟩:=ZN hk;refine Df! hq ?_ e;rw[e];unfold Bo;rcases ht with ht|⟨r,hr,ht⟩;.have ht:t∈(keepR G R).hand:=ht;rw[decide_eq_true ht];rfl
 .have:Cq! (keepR G R).holds.any C0!=true:=KJ.mpr (AE! (by simpa using ht));rw[this,Bool.or_true]
theorem LR.ofN(ok:GM)(hn:n<=60):∃k R,k<=5000/\D5!:=by
 have l1:(G.holds.map y!).length<=60:=by rw[ok.ke,ZA];have:=ok.oz;lia
 have l2:(startT G).length<=200:=by unfold startT Lk;refine BA (AV _ _) ?_;rw[ZE];have h1:=ok.hz;have h2:=AV (KF (0<W?)) (G.AH.map y!);rw[ZA] at h2;have h3:=ok.oz;lia
 have l3:((G.holds.map y!).filter (Dh! ([]:Q?))).length<=60:=BA (AV _ _) l1;obtain⟨k,R,h1,h2⟩:=LR.ex (nx:=OV G.holds) (keys:=V! G.holds.map) (B:=60) (yS G.holds) (λt=>BA (AV _ _) (BA (ok.get t).2.1 hn)) 5000 (startT G) [] (Jbv G) (by have:((G.holds.map y!).filter (Dh! ([]:Q?))).length*(60+1)<=60*(60+1):=FV _ l3;lia);exact⟨k,R,h1,h2⟩
theorem Ok.clean(ok:GM)(rc:D5!):Ok (FX.keepR G R) n:=ok.keepR rc.sub.2 (rc.closed (t? (by cases ht)))
universe E
universe S
def yR(G:BX)(tb:T2)(v:Int):BX:=IM { G with hand:=AF!,AH:=Dl! v }
def yQ(G:BX)(tb:T2)(v:Int):BX:=IM { G with hand:=AF!,AN:=AZ! v }
theorem Sd.kS(x:w!)(IX:wS)(hi:ao m tb)(v:Int):Eb! yR:=by
 refine E4! (FX.Ok.AH (G:=A5! AF!) (Ok.YI x.ok λ_=>IX) IX v) SC s? x.nn WF No;rcases d? with ht|ht;.exact DD!
 .rw[ht];exact h! hi (λe=>I? (x.ok.new tb IX).1 e)
theorem Sd.kU(x:w!)(hf:BW!)(hi:ao m tb)(hv:0<=v):Eb! yQ:=by
 refine E4! (x.ok.jx hf v) SC s? (X! ?_) SC (λt _ h=>(D0 _ _ _).2.1 t h);.rcases d? with ht|ht;(.exact DD!);.rw[ht];exact h! hi (λ_=>(D0 _ _ _).1)
 .rcases Ra hq with e|hq;(.rw[e];exact hv);.exact x.nn q hq
 .rcases At! with e|h;(.rw[e];exact F! hi);.exact I!
theorem Q4(l:J!)(t:T2)(v:Int):(Be l t v).length<=l.length+1:=by
 unfold Be;split;.rw[ZA];lia
 .rw[ZE];exact ZG _
universe E
universe E FX
universe N K62
open PySem L2 FX
structure LT where
 kind:Str
 s:Int
 g:Int
 th:T2
 x:Int
def NF(t:T2)(l:LT):Int:=if bn then(if Bb! then 1 else l.x) else 0
def Cr(t:T2):M!->Int
 | []=>0
 | l::r=>Bf! r
theorem Gm(t:T2):∀(a b:M!),Cr t H!=Cr t a+Cr t b
 | [],b=>by simp[Cr]
 | l::a,b=>by show Bf! H!=(Bf! a)+Cr t b;rw[Gm t a b];lia
theorem Fc(t:T2)(a b:M!)(l:LT):Cr t (a++l::b)=CK! H! l:=by rw[Gm,Gm];show Cr t a+(Bf! b)=_;lia
theorem Gk(t:T2)(a:M!)(l:LT):Cr t (a++[l])=CK! a l:=by rw[Gm];show Cr t a+(NF t l+0)=_;lia
def LB(t:T2)(G:BX):Int:=Z!-W?
def Gc(t:T2):O!->Int
 | []=>0
 | q::r=>A? q.2+Gc t r
def Ni:O!->Nat
 | []=>0
 | q::r=>q.2.AN.length+Ni r
theorem Vu:∀{l:O!} {i:Nat} {q r:Cf!},Ah!->Gc t (l.set i r)=Gc t l-A? q.2+LB t r.2
 | [],i,q,r,h=>by simp at h
 | x::l,0,q,r,h=>by (have h:x=q:=K?);subst h;show A? r.2+Gc t l=(CC!)-A? x.2+LB t r.2;lia
 | x::l,i+1,q,r,h=>by (have h:Ah!:=K?);show A? x.2+Gc t (l.set i r)=(CC!)-A? q.2+LB t r.2;rw[Vu h];lia
theorem V7:∀{l:O!} {i:Nat} {q r:Cf!},Ah!->Ni (l.set i r)+q.2.AN.length=Ni l+r.2.AN.length
 | [],i,q,r,h=>by simp at h
 | x::l,0,q,r,h=>by (have h:x=q:=K?);subst h;show r.2.AN.length+Ni l+x.2.AN.length=x.2.AN.length+Ni l+r.2.AN.length;lia
 | x::l,i+1,q,r,h=>by (have h:Ah!:=K?);have:=V7 (r:=r) h;show x.2.AN.length+Ni (l.set i r)+q.2.AN.length=x.2.AN.length+Ni l+r.2.AN.length;lia
theorem Nu:∀{l:O!},(∀(j:Nat) r,l[j]?=K! r->0<=A? r.2)->0<=Gc t l
 | [],_=>A' _
 | x::l,k=>by have h1:=k 0 x rfl;have h2:=Nu (t:=t) λj r h=>k (j+1) r (K?);show 0<=CC!;lia
theorem So:∀{l:O!} {i:Nat} {q:Cf!},Ah!->(∀(j:Nat) r,l[j]?=K! r->j≠i->0<=A? r.2)->A? q.2<=Gc t l
 | [],i,q,h,_=>by simp at h
 | x::l,0,q,h,k=>by (have h:x=q:=K?);subst h;have h2:=Nu (t:=t) λj r h=>k (j+1) r (K?) a!;show A? x.2<=CC!;lia
 | x::l,i+1,q,h,k=>by (have h:Ah!:=K?);have h1:=k 0 x rfl a!;have h2:=So h λj r h ne=>k (j+1) r (K?) a!;show A? q.2<=CC!;lia
def KG(m:Nat)(l:LT):Prop:=0<=l.g/\l.g<m/\ao m l.th /\
 ((l.kind=Y!/\1<=l.x)\/(l.kind=k?/\1<=l.x/\l.g≠l.th.1)\/(l.kind=T?/\1<=l.x/\l.g=l.th.1)\/(Bb!/\l.g=l.th.1/\0<=l.x/\l.x<m/\0<=l.s/\l.s<m/\l.s≠l.th.1))
theorem Ez:GE k? G?:=ZV
theorem Dh:GE Y! G?:=ZV
theorem E1:GE T? G?:=ZV
theorem KG.w(h:AD!):1<=NF l.th l:=by grind [NF,Dh,Ez,E1,LT,KG]
theorem KG.nn(h:AD!)(t:T2):0<=NF t l:=by
 by_cases e:bn;.rw[<-e];have:=h.w;lia
 .unfold NF;rw[AB e];exact A' _
theorem Kr:∀{ls:M!},(xz AD!)->0<=Cr t ls
 | [],_=>A' _
 | l::ls,h=>by have h1:=(h l sK).nn t;have h2:=Kr (t:=t) (BG! h Dw!);show 0<=Bf! ls;lia
theorem Od(h:xz AD!)(hl:bv):1<=Cr l.th ls:=by obtain⟨a,b,e⟩:=MA hl;rw[e,Fc];have h1:=(h l hl).w;have h2:=Kr (t:=l.th) (ls:=x!) (BG! h (by rw[e];rcases EQ with hz|hz;(.exact ZB _ hz);.exact ZC _ Dw!));lia
structure Wl(C:B5!)(m n:Nat)(sh:Int)(qs:O!)(ls:M!):Prop where
 len:qs.length=m
 cQ:m<=12
 sd:∀(i:Nat)(q:Addr)(G:BX),E!->w!/\G.BL=C!
 ok:xz AD!
 sum:∀t,C t->Gc t qs+Cr t ls=0
 cnt:Ni qs+ls.length<=n
 sh:2<=sh
universe S
variable {C:T2->Prop}{m n:Nat}{sh:Int}{qs:List (Addr×BX)}{ls:List LT}
theorem Jhz{P:BX->Nat->Prop}{l:O!}{i:Nat}{q:Addr}{G':BX}(h:∀j q G,M? (l[j]?)->j≠i->P G j)(hi:P G' i):∀j q' G,(l.set i (q,G'))[j]?=K! (q',G)->P G j:=by
 intro j q' G e;rw[EW] at e;by_cases z:i=j;.rw[AD z] at e;by_cases z2:i<l.length;(.rw[AD z2] at e;have:(q,G')=(q',G):=ZO e;rw[<-FK! this,<-z];exact hi);.rw[AB z2] at e;cases e
 .rw[AB z] at e;exact h j q' G e λz'=>z z'.symm
theorem Wl.next(x:C?){i:Nat}{q:Addr}{G G':BX}{K_:M!}(hi:E!)(nV:g? G')(nu:E9!)(cJ:∀l∈K_,AD!)(qw:∀t,C t->A? G'+Cr t K_=A? G+Cr t ls)(JKc:G'.AN.length+K_.length<=G.AN.length+ls.length+1):Uf c? K_:=by
 refine⟨Q! List.length_set x.len,x.cQ,Jhz (P:=λG j=>Sd m G (n+1)/\G.BL=Cn!) (λj q G e _=>⟨(x.sd j q G e).1.up,(x.sd j q G e).2⟩) ⟨nV,by rw[nu];exact(x.sd i q G hi).2⟩,cJ,λt hC=>?_,?_,x.sh⟩;.have h1:=x.sum t hC;have h2:=qw t hC;rw[Vu hi];show Gc t qs-A? G+LB t G'+Cr t K_=0;lia
 .have h1:=V7 (r:=(q,G')) hi;have h1:Ni c?+G.AN.length=Ni qs+G'.AN.length:=h1;have h2:=x.cnt;lia
theorem Wl.up(x:C?):Cg! Wl C (n+1):=⟨x.len,x.cQ,λi q G e=>⟨(x.sd i q G e).1.up,(x.sd i q G e).2⟩,x.ok,x.sum,FR x.cnt,x.sh⟩
theorem Wl.i7(x:C?){t:T2}{j:Nat}{r:Cf!}(e:qs[j]?=K! r)(ne:D0!):D! r.2.AH=0:=by obtain⟨s,nu⟩:=x.sd j r.1 r.2 e;exact Ep λz=>ne (S? (D7! z) nu)
theorem Wl.jz(x:C?){t:T2}{j:Nat}{r:Cf!}(e:qs[j]?=K! r)(ne:D0!):0<=A? r.2:=by have h1:=x.i7 e ne;have h2:=Il (x.sd j r.1 r.2 e).1.nn t;unfold LB;lia
theorem Wl.there(x:C?){l:LT}(hl:bv)(hC:C l.th){i:Nat}{q:Addr}{G:BX}(hi:E!)(e:l.th.1=C!):C6!:=by
 refine Classical.byContradiction λno=>?_;have h1:=Od x.ok hl;have h2:=Nu (t:=l.th) (l:=qs) λj r ej=>by by_cases c:l.th.1=j! j;(·(have:i=j:=B!);subst this;have er:(q,G)=r:=ZO (hi.symm.trans ej);have h3:=Il (x.sd i r.1 r.2 ej).1.nn l.th;unfold LB;rw[<-er] at h3 ⊢;have h4:Ai G.AH l.th=0:=Ep no;show 0<=Ai G.AN l.th-Ai G.AH l.th;have h3:0<=Ai G.AN l.th:=h3;lia);.exact x.jz ej c
 have h3:=x.sum l.th hC;lia
theorem Wl.eD(x:C?){i:Nat}{q:Addr}{G:BX}(hi:E!)(t:T2)(hC:Sc->C t):0<=W?:=by
 by_cases c:Sc;.obtain⟨s,nu⟩:=AL!;(have e1:t.1=C!:=S? (D7! c) nu);have h1:=So (t:=t) hi λj r ej ne=>x.jz ej a!;have h2:=Kr (t:=t) x.ok;have h3:=x.sum t (hC c);have h4:Z!=0:=Ep λz=>s.ok.rk t z (D7! c);have h1:Z!-W?<=Gc t qs:=h1;lia
 .rw[Ep c];exact A' _
universe E
universe S
variable {C:T2->Prop}{m n:Nat}{sh:Int}{qs:List (Addr×BX)}{ls:List LT}{i:Nat}{q:Addr}{G:BX}
theorem mem_mid(hz:z∈x!):z∈a++l::b:=by grind
theorem Wl.same(x:C?)(hi:E!){G':BX}(nV:g? G')(nu:E9!)(hr:G'.AN=G.AN)(ho:G'.AH=G.AH):Wl C m (n+1) sh c? ls :=x.next hi nV nu x.ok (λt _=>by unfold LB;rw[hr,ho]) (Ct! hr)
theorem Wl.make(x:C?)(hi:E!)(hn:n<60)(a:Addr):Wl C m (n+1) sh (x? (IM (UR G a))) ls:=by
 obtain⟨s,nu⟩:=AL!;refine FE! (s.make x.cQ hn a) x.ok C3!;have fr:lc∉Ch!:=λz=>by obtain⟨r,hr,e⟩:=ZN z;exact s.ok.fresh.2.1 r hr e
 have e:D! (G.AH++[(lc,0)])=W?:=by rw[<-Jdz fr,C6];by_cases c:Ba!;(.rw[N!,c,Ep fr]);.rw[P!]
 show Br! (G.AH++[(lc,0)]) ls;rw[e]
theorem Jg(h:∀z∈ls,KG m z)(hl:AD!):∀z∈ls++[l],KG m z:=λz hz=>by rcases EQ with hz|hz;(.exact h z hz);.rw[ZK hz];exact hl
theorem Wl.QA(x:C?)(hi:E!){b:T2}(hb:BB!)(hn:b.1=G.BL){g:Int}(g0:0<=g)(g1:g<m):Uf (x? EV!) (ls++[CZ!]):=by
 obtain⟨s,nu⟩:=AL!;have hs:=x.sh;refine FE! (s.out (s.ok.hk b hb hn) _) (Jg x.ok ⟨g0,g1,s.ip b DQ!,A! (l? (u? (1<=sh)))⟩) (by rw[ZE,DV];show FX!;lia);rw[Gk];show KB (Z!-D! (Be G.AH b (Ai G.AH b+sh))+(CK! ls CZ!));rw[C6];unfold NF;by_cases c:t=b;.rw[N!,AD (show b=t from c.symm),AB Dh,c];show _+(_+sh)=_;lia
 .rw[P!,AB (show ¬b=t from Da!)];lia
theorem Xz(h:b∈V! G.AN.map)(v:Int):(Mv G b v).AN.length=G.AN.length:=Wb h v
theorem Wl.RO(x:C?)(hi:E!){b:T2}(hb:BB!)(hf:C1!){g:Int}(g0:0<=g)(g1:g<m)(w2:2<=Ey!) : Uf (DL! CR!) (Ad! Y! g re):=by
 obtain⟨s,nu⟩:=AL!;refine FE! (s.dX hf (s.ip b DQ!) a!) (Jg x.ok ⟨g0,g1,s.ip b DQ!,A! (l? (u? (1<=re)))⟩) (by rw[ZE,DV,Xz (s.rk b (.inl hb) hf)];lia);rw[Gk];show KB (EO! b CR!+(CK! ls (E6! Y! g re)));rw[C6];unfold NF;by_cases c:t=b;.rw[N!,AD (show b=t from c.symm),AB Dh,c];show _+(_+re)=_;lia
 .rw[P!,AB (show ¬b=t from Da!)];lia
theorem Wl.P'(x:C?)(hi:E!){b:T2}(hb:BB!)(hf:C1!){g:Int}(g0:0<=g)(g1:g<m)(w1:Ey!=1) : Uf (DL! 0) (Ad! G? b.1 g):=by
 obtain⟨s,nu⟩:=AL!;have ib:=s.ip b DQ!;have hil:i<m:=BE! x.len hi
 refine D3! s.dX hf (A' _) (Jg x.ok ⟨ib.1.1,ib.2,ib,o? (i! ⟨rfl,rfl,g0,g1,u? (0<=C!),by show C!<m;lia,by rw[nu] at hf;exact E0! hf⟩)⟩) (by rw[ZE,DV,Xz (s.rk b (.inl hb) hf)];lia);rw[Gk];show KB (EO! b 0+(CK! ls (E6! G? b.1 g)));rw[C6];unfold NF;by_cases c:t=b;.rw[N!,AD (show b=t from c.symm),At,c,w1];lia
 .rw[P!,AB (show ¬b=t from Da!)];lia
theorem Wl.wt(x:C?){a b:M!}{l:LT}(es:C7!)(np:l.kind≠G?)(hC:BU! (C l.th))(hi:M? (qs[l.g.toNat]?)) : ∃G',Wt l.kind G l.th l.x G'/\Uf ET! H!:=by
 have hl:bv:=Dz!
 obtain⟨g0,g1,ib,kk⟩:=x.ok l hl;obtain⟨s,nu⟩:=x.sd _ q G hi;rw[BJ g0] at nu;have bJ:∀z∈x!,KG m z:=BG! x.ok (W! es Db!);have len:(a++b).length+1=ls.length:=by rw[es];simp only[ZE,BF];lia
 have lw:∀t,NF t l=if bn then l.x else 0:=Cz! (AB np)
 rcases kk with⟨k,x1⟩|⟨k,x1,ne⟩|⟨k,x1,eg⟩|⟨k,_⟩;· by_cases c:l.th.1=G.BL;(.have IX:=x.there hl (hC (by rw[k];decide +kernel)) hi (by rw[BJ g0,c,nu]);refine⟨SL yR CE!,A! ⟨k,Os c _ (Lx IX) rfl⟩,D3! s.kS IX _ bJ C3!⟩;show Br! (Be G.AH l.th CE!) H!;rw[es,Fc,C6,lw];by_cases d:ca;(.rw[AD d,SB,d];lia);.rw[AB d,UV];lia);.have r0:=Il s.nn l.th;refine⟨SL yQ Al!,A! ⟨k,h! c rfl⟩,D3! s.kU c a! bJ (by have:=Q4 G.AN l.th Al!;show(Be G.AN l.th _).length+_<=_;lia)⟩;show KB (EO! l.th Al!+Cr t H!);rw[es,Fc,C6,lw];by_cases d:ca;(.rw[AD d,SB,d];lia);.rw[AB d,UV];lia
 · (have c:l.th.1≠G.BL:=Q! nu (E0! ne));have r0:=Il s.nn l.th;refine⟨SL Mv Al!,TD ⟨k,rfl⟩,D3! s.dX c a! bJ (by have:=Q4 G.AN l.th Al!;show(Be G.AN l.th _).length+_<=_;lia)⟩;show KB (EO! l.th Al!+Cr t H!);rw[es,Fc,C6,lw];by_cases d:ca;(.rw[AD d,SB,d];lia);.rw[AB d,UV];lia
 · by_cases IX:C6!;(·(have e1:SL WM l.x=Be G.AH l.th CE!:=by unfold WM;rw[AD IX]);refine⟨SL Zi CE!,o? ⟨k,F? e1⟩,FE! (s.out IX _) bJ C3!⟩;show Br! (Be G.AH l.th CE!) H!;rw[es,Fc,C6,lw];by_cases d:ca;(.rw[AD d,SB,d];lia);.rw[AB d,UV];lia);·(have e1:SL WM l.x=G.AH:=by unfold WM;rw[AB IX]);refine⟨IM G,o? ⟨k,F? e1⟩,x.next hi s.up.tk rfl bJ SC (C3!)⟩;show KB (Z!-W?+Cr t H!);rw[es,Fc,lw];by_cases d:bn;(.exact I? (x.there hl (W! d ht) hi (S? (BJ g0) eg)) IX);.rw[AB d];lia
 .exact D9!
theorem Sd.pass(s:w!)(IX:wS)(hi:ao m tb)(sh:Int)(HK:Bool):g? (Gy G tb sh HK):=by
 have okh:Bn! (A5! Eg!):=by cases HK;(.exact s.ok.mono (FC n));.exact FX.Ok.YI s.ok λ_=>IX
 refine(s.of (FX.Ok.AH (G:=A5! Eg!) okh IX _) rfl rfl SC (λq hq t ht=>s?) s.nn WF No).tk;have ht:t∈Eg!:=ht;unfold WE at ht;cases HK;.exact DD!
 .rcases d? with ht|ht;(.exact DD!);.rw[ht];exact h! hi (λe=>I? (s.ok.new tb IX).1 e)
theorem Wl.pass(x:C?){a b:M!}{l:LT}(es:C7!)(hp:Bb!)(hC:C l.th)(hi:M? (qs[l.th.1.toNat]?)):C6! /\ (l.x=l.th.1->Uf (be true) (x!++[sB])) /\ (l.x≠l.th.1->Uf (be false) (Bk! (x!++BT!))):=by
 have hl:bv:=Dz!
 obtain⟨g0,g1,ib,kk⟩:=x.ok l hl;obtain⟨s,nu⟩:=x.sd _ q G hi;have hs:=x.sh;have IX:=x.there hl hC hi (BJ ib.1.1).symm;have bJ:∀z∈x!,KG m z:=BG! x.ok (W! es Db!);have len:(a++b).length+1=ls.length:=by rw[es];simp only[ZE,BF];lia
 have fin:l.g=l.th.1/\0<=l.x/\l.x<m/\0<=l.s/\l.s<m/\l.s≠l.th.1:=by rcases kk with⟨h,_⟩|⟨h,_⟩|⟨h,_⟩|⟨_,h⟩;(.rw[hp] at h;exact DW! Dh);(.rw[hp] at h;exact DW! Ez);(.rw[hp] at h;exact DW! E1);.exact h
 obtain⟨eg,x0,x1,s0,s1,sne⟩:=fin;have uV:KG m sB:=⟨s0,s1,ib,TD ⟨rfl,u? (1<=sh),sne⟩⟩;have okH:KG m Fg!:=⟨x0,x1,ib,A! (l? (u? (1<=sh)))⟩;have um:∀t,NF t l=BY! bn 1:=Cz! (AD hp)
 have uo:∀t,NF t sB=if bn then sh else 0:=Cz! (AB Ez)
 have lwH:∀t,NF t Fg!=if bn then sh else 0:=Cz! (AB Dh)
 refine⟨IX,λ_=>FN! (Sd.pass s IX ib sh true) (Jg bJ uV) ?_,λ_=>FN! (Sd.pass s IX ib sh false) (Jg (Jg bJ okH) uV) ?_⟩;.show Br! (bH G l.th sh true) _;unfold bH;rw[Gk,es,Fc,C6,um,uo,At];by_cases d:ca;(.rw[AD d,SB,SB,d];lia);.rw[AB d,UV,UV];try lia
 .rw[ZE,DV];show FX!;lia
 .show Br! (bH G l.th sh false) _;unfold bH;rw[Gk,Gk,es,Fc,C6,um,uo,lwH,AB AX];by_cases d:ca;(.rw[AD d,SB,SB,d];lia);.rw[AB d,UV,UV];try lia
 .rw[ZE,ZE,DV,DV];show FX!;lia
universe E
def Hh(i:Int)(y:AS!):LT:=⟨T?,i,y.1.1,y.1,y.2⟩
theorem Xo(q:AS!)(l:J!)(t:T2):D! (q::l)=if d! then q.2 else D! l:=by
 unfold Ai;rw[BN];by_cases e:d!;.rw[decide_eq_true e,AD e];rfl
 .rw[decide_eq_false e,AB e]
theorem Qf(i:Int)(t:T2):∀{l:J!},KE l.map->(∀q∈l,0<=q.2)->Cr t ((l.filter DK!).map (Hh i))=D! l
 | [],_,_=>rfl
 | q::l,nd,nn=>by have KA:=AM.mp nd;have ih:=Qf i t KA.2 (v6 nn (ZD _ hr));have q0:=nn q sK;rw[Xo,CY];(have lw:NF t (Hh i q)=BY! d! q.2:=by unfold NF;rw[AB (show ¬(Hh i q).kind=G? from E1)];rfl);by_cases c:0<q.2;(.rw[AD (decide_eq_true c)];show NF t (Hh i q)+Cr t _=_;rw[lw,ih];by_cases e:d!;(.rw[AD e,AD e,AW! Ep KA.1];lia);.rw[AB e,AB e];lia);.rw[AB (by simpa using c),ih];by_cases e:d!;(.rw[AD e,AW! Ep KA.1];lia);.rw[AB e]
theorem P1(p:a.Perm b)(nd:KE b.map)(t:T2):D! a=D! b:=by
 have lF:KE a.map:=(p.map _).nodup_iff.mpr nd;by_cases c:P? b.map;.obtain⟨q,hq,e⟩:=ZN c;have h1:=GX nd hq;have h2:=GX lF (p.mem_iff.mpr hq);rw[e] at h1 h2;unfold Ai;rw[h1,h2]
 .rw[Ep c,Ep λz=>c ((p.map _).mem_iff.mp z)]
theorem P8(P:α->Bool):∀l:BI!,(l.filter P).length+(l.filter λx=>! P x).length=l.length
 | []=>rfl
 | x::l=>by have:=P8 P l;rw[CY,CY];cases e:P x<;>simp<;>lia
universe S
variable {C:T2->Prop}{m n:Nat}{sh:Int}{qs:List (Addr×BX)}{ls:List LT}{i:Nat}{q:Addr}{G M:BX}
theorem Wl.clean(x:C?)(hi:E!)(hC:∀t∈Ch!,C t){k:Nat}{R:Q?}(rc:D5!){rs:J!}(pm:AN!) : Uf (x? (Ir G R)) (ls++(B4 l! rs).map (Hh C!)):=by
 obtain⟨s,nu⟩:=AL!;refine FN! (s.clean (s.ok.clean rc)) (C5!) ?_;.rcases EQ with hz|hz;(.exact x.ok z hz);.obtain⟨y,hy,rfl⟩:=ZN hz;obtain⟨oS,oR⟩:=AE.mp hy;have oQ:=pm.mem_iff.mp (AE.mp oS).1;have im:=s.ir y.1 (AF.mpr ⟨y,oQ,rfl⟩);exact⟨im.1.1,im.2,im,De! ⟨rfl,by have:=BO oR;show 1<=y.2;lia,rfl⟩⟩
 .rw[Gm];have YV:Dg!:=(pm.map _).nodup_iff.mpr s.ok.rn;have e1:Cr t ((B4 l! rs).map (Hh C!))=D! (FT! AB!) :=Qf C! t (YV.sublist (List.filter_sublist.map _)) (v6 s.nn (pm.mem_iff.mp AA!));rw[e1,D6 rs (λt=>! Bw!) t,P1 pm s.ok.rn];show KB (DE! AB!-D! (Cq! G.AH.filter (q.1∈R))+_);rw[D4! Bw!,D6 G.AH (KF (t∈R)) t];(have e2:(BY! (H? (t∈R)=true) W?)=W?:=by by_cases c:t∈R;(.rw[AD (decide_eq_true c)]);.rw[AB (by simpa using c)];have h1:=x.eD hi t (hC t);by_cases d:Sc;(.have h2:¬0<W?:=λz=>c (rc.sub.2 t (by unfold startT Lk;refine AE.mpr ⟨ZC _ (AE.mpr ⟨d,A6! z⟩),?_⟩;rw[s.ok.ke];exact A6! d));lia);.rw[Ep d]);rw[e2];cases Bw!;(.rw[DP!,AD (by rfl)];lia);.rw[At,DP!];lia
 .rw[ZE,ZA];have h1:(B4 l! rs).length<=(rs.filter λq=>! AB!).length:=AV _ _;have h2:=(pm.filter λq=>! AB!).length_eq;have h3:=P8 (λq:T2×Int=>AB!) G.AN;show(G.AN.filter λq=>AB!).length+_<=_;lia
theorem Wl.good(x:C?)(hn:n<=60)(hi:E!):Good G:=by obtain⟨s,nu⟩:=AL!;have h1:=s.ok.hz;have h2:=s.ok.oz;have h3:=s.ok.rz;refine⟨s.ok.hn,B!,s.ok.on,B!,s.ok.rn,B!,Cy!⟩;obtain⟨a,fd⟩:=N5 (l:=G.holds) (t:=r.1) (W! s.ok.ke (AC (AE! rfl)));obtain⟨g1,g2,_⟩:=s.ok.get r.1;exact⟨a,_,fd,g1,B!⟩
universe E
inductive VX(qs:O!)(t:T2):Prop
 | mk (j:Nat) (q:Addr) (G:BX) (_:M? (qs[j]?)) (_:Sc)
structure NX(qs:O!)(ls:M!)(X:B5!):Prop where
 hand:C8! (∀t∈G.hand,¬X t)
 RF:xz (BU! (¬X l.th))
 hold:C8! (∀r∈G.holds,∀t∈X?,X t->X r.1)
 old:C8! (∀t,X t->t.1=j! j->t.2<G.AU)
def KO(qs:O!)(ls:M!)(uM:O!)(K_:M!):Prop:=∀X,ap X->NX uM K_ X
theorem KO.refl(qs:O!)(ls:M!):ii qs ls:=λ_ h=>h
def RI(ls:M!)(j:Int)(t:T2):Prop:=∃l∈ls,bn/\((Bb!/\l.s=j)\/(l.kind=k?/\l.g=j))
def RH(qs:O!)(ls:M!):Prop:=C8! (∀t,R?->D0!->1<=Z!\/RI ls Cn! t)
universe S
variable {qs:List (Addr×BX)}{ls K_:List LT}{i:Nat}{q:Addr}{G G':BX}{X:T2->Prop}
theorem Ew{l:O!}{j:Nat}{q':Addr}{G2:BX}(e:(l.set i (q,G'))[j]?=K! (q',G2)):(j=i/\G2=G'/\q'=q)\/(j≠i/\l[j]?=K! (q',G2)):=by
 rw[EW] at e;by_cases z:i=j;.rw[AD z] at e;by_cases z2:i<l.length;(.rw[AD z2] at e;have:(q,G')=(q',G2):=ZO e;exact A! ⟨z.symm,(Prod.mk.inj this).2.symm,(Prod.mk.inj this).1.symm⟩);.rw[AB z2] at e;cases e
 .rw[AB z] at e;exact h! (λy=>z y.symm) e
theorem NX.next(x:ap X)(hi:E!)(h1:FA! (A3!\/¬X t))(h2:∀l∈K_,BU! (bv\/¬X l.th))(h3:∀r∈G'.holds,∀t∈X?,(∃r0∈G.holds,r0.1=r.1/\t∈r0.2.2)\/¬X t)(h4:G.AU<=G'.AU):NX c? K_ X:=by
 refine⟨λj q' G2 e t ht=>?_,λl hl nb=>?_,λj q' G2 e r hr t ht xt=>?_,λj q' G2 e t xt et=>?_⟩;.rcases Ew e with⟨_,e2,_⟩|⟨_,e⟩;(.rw[e2] at ht;rcases h1 t ht with h|h;(.exact x.hand i q G hi t h);.exact h);.exact x.hand j q' G2 e t ht
 .rcases h2 l hl nb with h|h;(.exact x.RF l h nb);.exact h
 .rcases Ew e with⟨_,e2,_⟩|⟨_,e⟩;(.rw[e2] at hr;rcases h3 r hr t ht with⟨r0,m0,e0,t0⟩|h;(.rw[<-e0];exact x.hold i q G hi r0 m0 t t0 xt);.exact I? xt h);.exact x.hold j q' G2 e r hr t ht xt
 .rcases Ew e with⟨ej,e2,_⟩|⟨_,e⟩;(.rw[e2];have:=B0! x.old xt (S? et ej);lia);.exact x.old j q' G2 e t xt et
theorem KO.less(hi:E!)(h1:FA! A3!)(h2:∀l∈K_,BU! bv)(h3:∀r∈G'.holds,∀t∈X?,∃r0∈G.holds,r0.1=r.1/\t∈r0.2.2)(h4:G.AU<=G'.AU):DY! K_ :=λX x=>x.next hi (Is (h1 t ht)) (λl hl nb=>A! (AJ! h2)) (E3! (B? (h3 r hr t ht))) h4
theorem RH.next(x:RH qs ls)(hi:E!)(hp:∀(j:Nat) t,j≠i->RI ls Cn! t->RI K_ Cn! t)(h':∀t,QJ G' t->t.1≠C!->1<=D! G'.AN\/RI K_ C! t):RH c? K_:=by
 intro j q' G2 e t ht ne;rcases Ew e with⟨ej,e2,_⟩|⟨ne2,e⟩;.subst ej;rw[e2] at ht ⊢;exact h' t ht ne
 .rcases x j q' G2 e t ht ne with h|h;(.exact I!);.exact i! (hp j t ne2 h)
theorem RI.mono(h:xz (l∈K_))(p:RI ls j t):RI K_ j t:=let⟨l,hl,r⟩:=p;⟨l,h l hl,r⟩
theorem RH.less(x:RH qs ls)(hi:E!)(hl:xz (l∈K_))(h':∀t,QJ G' t->t.1≠C!->R?/\Z!<=D! G'.AN):RH c? K_ :=x.next hi (λj t _ p=>p.mono hl) λt ht ne=>by obtain⟨h1,h2⟩:=h' t ht ne;rcases B0! x h1 ne with h|h;(.exact B? B!);.exact i! (h.mono hl)
universe E
structure Wg(D:B5!)(m n:Nat)(sh:Int)(qs:O!)(ls:M!):Prop where
 wl:Cg! Wl (λt=>CG! qs) n
 sD:ap D
 rc:RH qs ls
theorem Wl.mono{C C':B5!}{m n:Nat}{sh:Int}{qs:O!}{ls:M!}(x:C?)(h:∀t,C' t->C t):Cg! Wl C' n:=⟨x.len,x.cQ,x.sd,x.ok,λt c=>x.sum t (h t c),x.cnt,x.sh⟩
universe S
variable {D:T2->Prop}{m n:Nat}{sh:Int}{qs:List (Addr×BX)}{ls K_:List LT}{i:Nat}{q:Addr}{G G':BX}
theorem VX.set(hi:E!){t:T2}(h:VX c? t):VX qs t\/P? G'.AH.map:=by
 obtain⟨j,q',G2,e,m⟩:=h;rcases Ew e with⟨_,e2,_⟩|⟨_,e⟩;.rw[e2] at m;exact F! m
 .exact A! ⟨j,q',G2,e,m⟩
theorem Wg.step(x:D?)(hi:E!)(w:Wl (λt=>CG! qs) m (n+1) sh c? K_)(ho:∀t∈V! G'.AH.map,Sc\/¬D t)(st:DY! K_)(rc:RH c? K_):FS! c? K_ :=⟨w.mono λt h=>by rcases h with h|h;(.exact I!);.rcases h.set hi with h|h;(.exact wv);.rcases ho t h with h|h;(.exact F! ⟨i,q,G,hi,h⟩);.exact I!,st D x.sD,rc⟩
theorem Wg.BL(x:D?)(hi:E!):w!/\G.BL=C!:=x.wl.sd i q G hi
theorem Vv(hi:E!)(nu:G.BL=C!)(a:Addr):Ix (IM (UR G a)) ls:=λX x=>by (have nx:¬X lc:=λz=>by have:=x.old i q G hi _ z nu;simp at this);refine x.next hi SC (λl hl _=>A! hl) (E3! ?_) (u? (G.AU<=G.AU+1));(.have ht:Ei!:=ht;rcases ZI ht with h|h;(.exact I!);.rw[ZK h];exact F! nx);.have hr:r∈C4!:=hr;rcases SZ with h|h;(.exact BH! h);.rw[ZK h] at ht;cases ht
theorem Wg.make(x:D?)(hi:E!)(hn:n<60)(a:Addr):Wg D m (n+1) sh (x? (IM (UR G a))) ls:=by
 obtain⟨s,nu⟩:=FM;refine x.step hi (x.wl.make hi hn a) SC (Vv hi nu a) (x.rc.less hi (λl h=>h) λt ht ne=>?_);.have ht:t∈(G.AH++[((lc,0):AS!)]).map (h?):=ht;rw[ZF] at ht;rcases ZI ht with h|h;(.exact I!);·(have e:Ba!:=K?);refine F! (λz=>?_);rw[e] at z;have:=x.sD.old i q G hi _ z nu;simp at this
 .refine⟨?_,A' _⟩;rcases ht with h|⟨r,hr,h⟩;(.have h:Ei!:=h;rcases ZI h with h|h;(.exact I!);·(have e:Ba!:=K?);exact absurd (Q! e nu) ne);.have hr:r∈C4!:=hr;rcases SZ with hr|hr;(.exact F! (AE! h));.rw[ZK hr] at h;cases h
theorem Lr(h:t∈Bn l ta):∃r0∈l,r0.1=ta/\t∈r0.2.2:=by unfold Bn at h;cases e:l.find? λq=>H? (q.1=ta) with | none=>rw[e] at h;cases h | some r =>rw[e] at h;exact⟨r,AJ e,Cr! (DO e),h⟩
theorem Jj(hr:r∈Cw l ta h):(r.1=ta/\X?=h)\/r∈l:=by
 unfold Cw at hr;obtain⟨r0,m0,e⟩:=ZN hr;by_cases c:r0.1=ta;.rw[N!] at e;exact A! ⟨U! e c,by rw[<-e]⟩
 .rw[P!] at e;exact AW! i! m0
theorem Wg.hold(x:D?)(hi:E!){ta tb:T2}(hb:Ez!):Cx! (Ng G ta tb) (Dq! Ng):=by
 obtain⟨s,nu⟩:=FM;have st:Dq! Ng:=λX y=>Aa! y.next (Is ht) (λl hl _=>A! hl) (by rcases Jj hr with⟨e1,e2⟩|h;(.rw[e2] at ht;rcases d? with h|h;(.obtain⟨r0,m0,e0,t0⟩:=Lr h;exact Os r0 m0 (S? e0 e1) t0);.rw[h];exact i! (y.hand i q G hi tb hb));.exact BH! h);refine Ev! (s.hold hb);rcases ht with h|⟨r,hr,h⟩;.exact I!
 .rcases Jj hr with⟨e1,e2⟩|h2;(.rw[e2] at h;rcases DQ.mp h with h|h;(.exact Lu h);.rw[h];exact A! hb);.exact ES! h2
theorem Wg.drop(x:D?)(hi:E!)(ta tb:T2):Cx! (L1 G ta tb) (Dq! L1):=by
 obtain⟨s,nu⟩:=FM;have key:∀r∈(L1 G ta tb).holds,∀t∈X?,∃r0∈G.holds,r0.1=r.1/\t∈r0.2.2:=λr hr t ht=>by rcases Jj hr with⟨e1,e2⟩|h;(.rw[e2] at ht;obtain⟨r0,m0,e0,t0⟩:=Lr Ai!;exact⟨r0,m0,S? e0 e1,t0⟩);.exact E7! h
 have st:Dq! L1:=KO.less hi (λt ht=>ht) (λl hl _=>hl) key (A' _);refine Ev! (s.drop ta tb);rcases ht with h|⟨r,hr,h⟩;.exact I!
 .obtain⟨r0,m0,_,t0⟩:=key r hr t h;exact F! ⟨r0,m0,t0⟩
theorem Wg.take(x:D?)(hi:E!){ta tb:T2}(ha:ta∈G.hand)(hb:tb∈Bn G.holds ta):Cx! (Lz G tb) (Dp! Lz):=by
 obtain⟨s,nu⟩:=FM;have st:Dp! Lz:=λX y=>Aa! y.next (t? (by rcases d? with h|h;(.exact I!);.refine F! (λz=>?_);rw[h] at z;obtain⟨r0,m0,e0,t0⟩:=Lr hb;exact y.hand i q G hi ta ha (A8! e0 (y.hold i q G hi r0 m0 tb t0 z)))) (λl hl _=>A! hl) (BH! hr);refine Ev! (s.take hb);rcases ht with h|h;.rcases DQ.mp h with h|h;(.exact I!);.rw[h];exact Lu hb
 .exact wv
theorem Wg.free(x:D?)(hi:E!)(tb:T2):Cx! (L0 G tb) (Dp! L0):=by
 obtain⟨s,nu⟩:=FM;have st:Dp! L0:=Aa! KO.less (t? Ai!) (λl hl _=>hl) (E7! hr);refine Ev! (s.free tb);rcases ht with h|h;.exact A! (IH.mp h).1
 .exact wv
theorem Oe(hi:E!){l:LT}(hb:l.th∈G.hand)(h1:G'.hand=G.hand)(h2:G'.holds=G.holds)(h3:G'.AU=G.AU):DY! (ls++[l]):=λX y=>y.next hi (t? (B? (U! h1 ht))) (λl' hl _=>by rcases ZI hl with h|h;(.exact I!);.rw[ZK h];exact i! (y.hand i q G hi _ hb)) (E3! (BH! (U! h2 hr))) (W! h3 (A' _))
theorem Ze(h1:G'.hand=G.hand)(h2:G'.holds=G.holds)(h:QJ G' t):R?:=by unfold QJ at *;rw[h1,h2] at h;exact h
theorem Wg.QA(x:D?)(hi:E!){b:T2}(hb:BB!)(hn:b.1=G.BL){g:Int}(g0:0<=g)(g1:g<m):BA! (x? EV!) (ls++[CZ!]) (Ix EV! (ls++[CZ!])):=by
 obtain⟨s,nu⟩:=FM;have st:=Oe (ls:=ls) (G':=EV!) (l:=CZ!) hi hb rfl rfl rfl;refine Ff! (x.wl.QA hi hb hn g0 g1) ?_ x.rc.less wT ⟨Ze (G:=G) rfl rfl ht,A' _⟩;have ht:P? (Be G.AH b (Ai G.AH b+sh)).map:=ht;rcases At! with h|h;.rw[h];exact s.ok.hk b hb hn
 .exact h
theorem Wg.RO(x:D?)(hi:E!){b:T2}(hb:BB!)(hf:C1!){g:Int}(g0:0<=g)(g1:g<m)(w2:2<=Ey!) : BA! (DL! CR!) (Ad! Y! g re) (Ix (Mv G b CR!) (Ad! Y! g re)):=by
 have st:=Oe (ls:=ls) (G':=Mv G b CR!) (l:=E6! Y! g re) hi hb rfl rfl rfl;refine Fa! (x.wl.RO hi hb hf g0 g1 w2) x.rc.next (λj t _ p=>p.mono wT) ?_;show 1<=D! (Be G.AN b _)\/_;rw[C6];by_cases c:t=b;.rw[N!];exact B? B!
 .rw[P!];rcases B0! x.rc (Ze (G:=G) rfl rfl ht) ne with h|h;(.exact I!);.exact i! (h.mono wT)
theorem Wg.P'(x:D?)(hi:E!){b:T2}(hb:BB!)(hf:C1!){g:Int}(g0:0<=g)(g1:g<m)(w1:Ey!=1) : BA! (DL! 0) (Ad! G? b.1 g) (Ix (Mv G b 0) (Ad! G? b.1 g)):=by
 have st:=Oe (ls:=ls) (G':=Mv G b 0) (l:=E6! G? b.1 g) hi hb rfl rfl rfl;refine Fa! (x.wl.P' hi hb hf g0 g1 w1) x.rc.next (λj t _ p=>p.mono wT) ?_;show 1<=D! (Be G.AN b 0)\/_;rw[C6];by_cases c:t=b;.exact F! ⟨_,ZC _ AU!,c.symm,A! Bj!⟩
 .rw[P!];rcases B0! x.rc (Ze (G:=G) rfl rfl ht) ne with h|h;(.exact I!);.exact i! (h.mono wT)
universe E
universe S
theorem U4:GE Y! T?:=ZV
theorem U2:GE G? T?:=ZV
theorem Ln:GE Y! k?:=ZV
theorem U5:GE T? k?:=ZV
theorem U6:GE T? Y!:=ZV
theorem U3:GE k? Y!:=ZV
theorem Wt.c6(h:Wt kind G tb x G'):(FA! (A3!\/(kind=Y!/\t=tb)))/\G'.holds=G.holds/\G'.AU=G.AU/\E9!/\G'.A_=AT/\(∀t,Z!=D! G'.AN\/(t=tb/\D! G'.AN=Z!+x))/\(∀t∈V! G'.AH.map,Sc) /\ (kind=k?->Ai G'.AN tb=Ai G.AN tb+x)/\(kind=Y!->BW!->Ai G'.AN tb=Ai G.AN tb+x):=by
 have put:∀t,D! (Be G.AN tb (Xq G.AN tb+x))=if t=tb then Ai G.AN tb+x else Z!:=λt=>F? C6
 rcases h with⟨k,⟨c,o,f,e⟩|⟨c,e⟩⟩|⟨k,e⟩|⟨k,e⟩;.refine Eu! BF! (B? (by rw[e])) BF! (CU! Ln) (λ_ z=>I? c z);(.rw[e] at ht;rcases d? with h|h;(.exact I!);.exact h! k h);.rw[e] at ht;rcases At! with h|h;(.rw[h];exact AC ⟨_,AJ f,rfl⟩);.exact h
 .refine Eu! BF! ?_ (EP! ht) (CU! Ln) (λ_ _=>by rw[e];show Ai (Be G.AN tb _) tb=_;rw[put,At]);(.rw[e] at ht;rcases d? with h|h;(.exact I!);.exact h! k h);.rw[e];show Z!=EA!\/_;by_cases d:t=tb;(.exact h! d (by show EA!=_;rw[put,AD d,d]));.exact B? (S? put (AB d))
 .refine Eu! (EP! (A! ht)) ?_ (EP! ht) (λ_=>by rw[e];show Ai (Be G.AN tb _) tb=_;rw[put,At]) (CU! U3);rw[e];show Z!=EA!\/_;by_cases d:t=tb;(.exact h! d (by show EA!=_;rw[put,AD d,d]));.exact B? (S? put (AB d))
 .refine Eu! (EP! (A! ht)) (B? (by rw[e])) BF! (CU! U5) (CU! U6);rw[e] at ht;have ht:P? (WM G tb x).map:=ht;unfold WM at ht;by_cases c:wS;(.rw[N!] at ht;rcases At! with h|h;(.rw[h];exact c);.exact h);.rw[P!] at ht;exact ht
theorem Wg.wt(x:D?){a b:M!}{l:LT}(es:C7!)(np:l.kind≠G?)(hi:M? (qs[l.g.toNat]?)) : ∃G',Wt l.kind G l.th l.x G'/\FS! ET! H!/\ii ET! H!:=by
 have hl:bv:=Dz!
 have hC:BU! (¬D l.th\/VX qs l.th):=λnb=>A! (AJ! x.sD.RF);obtain⟨G',wt,w⟩:=x.wl.wt es np hC hi;obtain⟨h1,h2,h3,h4,_,h5,h6,h7,h8⟩:=wt.c6;obtain⟨s,nu⟩:=FM;obtain⟨g0,g1,ib,kk⟩:=x.wl.ok l hl;rw[BJ g0] at nu;have sub:∀z∈x!,z∈ls:=λz hz=>Q! es Db!
 have st:ii ET! H!:=λX y=>y.next hi (t? (by rcases h1 t ht with h|⟨k,e⟩;(.exact I!);.rw[e];exact F! (y.RF l hl (W! k U4)))) (λz hz _=>A! (sub z hz)) (E3! (BH! (U! h2 hr))) (W! h3 (A' _));have x1:1<=l.x:=by rcases kk with⟨_,h⟩|⟨_,h,_⟩|⟨_,h,_⟩|⟨k,_⟩;(.exact h);(.exact h);(.exact h);.exact D9!
 refine⟨G',wt,x.step hi w (Is (h6 t ht)) st (x.rc.next hi (λj t ne p=>?_) λt ht ne=>?_),st⟩;.obtain⟨z,hz,e,c⟩:=p;rw[es] at hz;rcases EQ with hz|hz;(.exact CT! (ZB _ hz));.rcases ZM hz with hz|hz;(.rw[hz] at c;rcases c with⟨k,_⟩|⟨_,g⟩;(.exact D9!);.exact absurd (F? g) ne);.exact CT! (ZC _ hz)
 .rw[BJ g0] at ne;have r0:=Il s.nn t;by_cases d:ca;(.subst d;rcases kk with⟨k,_⟩|⟨k,_⟩|⟨k,_,eg⟩|⟨k,_⟩;(.exact B? (v? (h8 k (W! nu ne))));(.exact B? (v? (h7 k)));(.exact I? eg.symm ne);.exact D9!);·(have hd:R?:=by rcases ht with h|⟨r,hr,h⟩;(.rcases h1 t h with h|⟨_,h⟩;(.exact I!);.exact I? h d);.exact ES! (U! h2 hr));(have er:D! G'.AN=Z!:=by rcases h5 t with h|⟨h,_⟩;(.exact h.symm);.exact I? h d);rcases x.rc _ q G hi t hd (W! (BJ g0) ne) with h|⟨z,hz,e,c⟩;(.exact B? (Q! er h));.refine F! (CT! ?_);rw[es] at hz;rcases EQ with hz|hz;(.exact ZB _ hz);.rcases ZM hz with hz|hz;(.exact absurd (by rw[<-e,hz]) d);.exact ZC _ hz
theorem Gw(IX:wS):∀t∈V! (bH G tb sh HK).map,Sc:=t? (by unfold bH at ht;rcases At! with h|h;(.rw[h];exact IX);.exact h)
theorem Wg.pass(x:D?){a b:M!}{l:LT}(es:C7!)(hp:Bb!)(hi:M? (qs[l.th.1.toNat]?)):C6! /\ (l.x=l.th.1->BA! (be true) (x!++[sB]) (ii (be true) (x!++[sB]))) /\ (l.x≠l.th.1->BA! (be false) (Bk! (x!++BT!)) (ii (be false) (Bk! (x!++BT!)))):=by
 have hl:bv:=Dz!
 have nb:l.kind≠T?:=Q! hp U2
 obtain⟨IX,p1,p2⟩:=x.wl.pass es hp (.inl (AJ! x.sD.RF)) hi;obtain⟨s,nu⟩:=FM;obtain⟨g0,g1,ib,kk⟩:=x.wl.ok l hl;have sub:∀z∈x!,z∈ls:=λz hz=>Q! es Db!
 have ti:∀(HK:Bool)(more:M!),(∀z∈more,z.th=l.th)->ii (be HK) (x!++more):=λHK more hm X y=>Aa! y.next (t? (by have ht:t∈SL WE HK:=ht;unfold WE at ht;cases HK;(.exact A! ht);.rcases d? with h|h;(.exact I!);.rw[h];exact F! (AJ! y.RF))) (λz hz _=>by rcases EQ with hz|hz;(.exact A! (sub z hz));.rw[hm z hz];exact F! (AJ! y.RF)) (BH! hr);have uL:∀(HK:Bool)(more:M!),(sB:LT)∈more->RH (be HK) (x!++more):=λHK more hm=>by (have pn:∀(j:Int) t,RI ls j t->RI (x!++more) j t:=λj t ⟨z,hz,e,c⟩=>by rw[es] at hz;rcases EQ with hz|hz;(.exact CT! (ZB _ (ZB _ hz)));.rcases ZM hz with hz|hz;(.rw[hz] at c e;rcases c with⟨_,c⟩|⟨k,_⟩;(.exact⟨_,ZC _ hm,e,F! (l? c)⟩);.rw[hp] at k;exact I? k ZV);.exact CT! (ZB _ (ZC _ hz)));refine x.rc.next hi (λj t _ p=>pn _ t p) λt ht ne=>?_;(have hd:R?:=by rcases ht with h|h;(.have h:t∈SL WE HK:=h;unfold WE at h;cases HK;(.exact I!);.rcases DQ.mp h with h|h;(.exact I!);.refine I? ?_ ne;rw[h,BJ ib.1.1]);.exact wv);rcases x.rc _ q G hi t hd ne with h|h;(.exact I!);.exact F! (pn _ t h)
 refine⟨IX,λe=>?_,λe=>?_⟩;·(have st:=ti true [sB] λz hz=>by rw[ZK hz]);exact Fe! (p1 e) (Gw IX t ht) (uL true _ AU!)
 ·(have st:=ti false (Bk! BT!) λz hz=>by rcases EQ with hz|hz<;>rw[ZK hz]);have rn:=uL false (Bk! BT!) (ZC _ AU!);rw[<-AQ] at st rn;exact Fe! (p2 e) (Gw IX t ht) rn
theorem Je4(h:QJ (Ir G R) t):R?/\Bw!=true:=by
 rcases h with h|⟨r,hr,h⟩;.have h:A3!:=h;exact⟨I!,by unfold Bo;rw[decide_eq_true (show t∈(keepR G R).hand from h)];rfl⟩
 .have hr:r∈(keepR G R).holds:=hr;refine A9! (ES! AA!);unfold Bo;have:Cq! (keepR G R).holds.any C0!=true:=KJ.mpr (AE! K?);rw[this,Bool.or_true]
theorem Wg.clean(x:D?)(hi:E!)(rc:D5!)(pm:AN!) : BA! (x? (Ir G R)) (ls++(B4 l! rs).map (Hh C!)) (Ix (Ir G R) (ls++(B4 l! rs).map (Hh C!))):=by
 have st:Ix (Ir G R) (ls++(B4 l! rs).map (Hh C!)):=Aa! KO.less (λt ht=>ht) (λl hl nb=>by rcases ZI hl with h|h;(.exact h);.obtain⟨y,_,rfl⟩:=ZN h;exact I? rfl nb) (E7! AA!);refine Ff! (x.wl.clean hi (t? (F! ⟨i,q,G,hi,ht⟩)) rc pm) ?_ x.rc.less wT ?_;.exact D8! ht
 .obtain⟨h1,h2⟩:=Je4 ht;refine A9! h1;show Z!<=DE! AB!;rw[D4! Bw!,AD h2];exact A' _
universe E
universe E K62
universe N FX
open PySem PySem.Spec PyProof.Rows L2
universe S
theorem Xj(I:CY! H s)(e:Bh! (.dK kvs)):∃o,L! s.heap.get? d o/\CY! (upd H d AK!) s:=by
 have ok:=I.DC d _ e;obtain⟨_,_,vs,_,o,es,ep,g,_⟩:=id ok;refine⟨o,g,Kf I (N? e) (λxs z=>DA! e) (λy z=>DA! e) (λob v z=>by have:=I.base.MW d ob v z;rw[e] at this;cases this) (λps z=>DA! e) (A9! g)⟩;refine ok.PN (λc w' _ q=>q) (λc q=>?_) λc xs q=>?_;.rw[Ab λz=>by rw[z,e] at q;cases q];exact q
 .rw[Ab λz=>by rw[z,e] at q;cases q];exact q
theorem yA(I:CY! H s)(hg:Bh! AK!)(hd:o.data=.dict es ep):∃vs,KV kvs vs/\(d==sysModules)=false/\s.heap.DictAt (Bq X.prog X.w) d vs ep:=by obtain⟨g,z,lo,vs,rel,o',cY,cZ,g',c',q',k',p',n'⟩:=(show DN X.prog X.w H s.heap d AK! from I.DC d _ hg);rw[g] at g';cases g';rw[hd] at q';injection q' with q1 q2;subst q1;subst q2;exact⟨vs,rel,lo,o,es,g,c',hd,k',p',n'⟩
universe E
def gN(d:Addr)(kvs:List (Key×V))(o:Obj):It :=
 ⟨λi H=>Bh! AK!/\i<kvs.length,λi H x H'=>H'=H/\∃k,kvs[i]?=K! (k,x),λi H=>Bh! AK!/\kvs.length<=i⟩
theorem Vs{P:Program}{w:World}{K:W.Frag}{tg:Expr}(d it:Addr)(kvs:List (Key×V))(o:Obj)(es:Array DictEntry)(ep:Nat)(hd:o.data=.dict es ep):Turn P w K tg (gN d kvs o) [it] it (λi h=>h.IsValIter it d i kvs.length ep) where
 mem:=ga
 obj:=λi h st b hb=>by
  have e:b=it:=by simpa using hb
  subst e
  obtain⟨oi,e,c,q⟩:=st
  exact⟨oi,e,λv z=>DA! q⟩
 keep:=λi h h' ⟨oi,e,r⟩ k=>⟨oi,k it ut oi e,r⟩
 item:=by
  intro X hP hw hK hc i AA s σ H E I hf st ⟨hg,hi⟩
  subst hP hw hK
  obtain⟨f0,f1,f2,f3,f4,f5⟩:=hf it ut
  obtain⟨vs,rel,lo,da⟩:=yA I hg hd
  have hl:kvs.length=vs.length:=Y? rel
  have hx:kvs[i]?=K! (kvs[i]):=by simp[hi]
  have hy:vs[i]?=some (vs[i]' a!):=by simp[show i<vs.length by lia]
  obtain⟨ek,rv⟩:=Aw rel i _ _ hx hy
  have QL:s.heap.IsValIter it d i vs.length ep:=U! hl st
  refine wpAny_pyNext_values_item QL da (k:=(vs[i]' a!).1) (v:=(vs[i]' a!).2) hy λh' YS sb=>?_
  have I1:CY! H { s with heap:=h' }:=I.turned (t':=s.toks) (λb ob hb e=>(sb.2 b hb).trans e) f0 f1 f3 f4 f5
  obtain⟨oi,e,c,q⟩:=id YS
  exact T0 (Xn (s:={ s with heap:=h' }) e c q BS! ⟨kvs[i].2,H,I1,rv,⟨rfl,kvs[i].1,hx⟩,W! hl YS,λb hb=>(hf b hb).1⟩)
 done:=by
  intro X hP hw hK hc i AA s σ H E I hf st ⟨hg,hi⟩
  subst hP hw hK
  obtain⟨f0,f1,f2,f3,f4,f5⟩:=hf it ut
  obtain⟨vs,rel,lo,da⟩:=yA I hg hd
  have hl:kvs.length=vs.length:=Y? rel
  have QL:s.heap.IsValIter it d i vs.length ep:=U! hl st
  exact wpAny_pyNext_values_end (I.ok.hd hc) QL da (v? List.getElem?_eq_none_iff) λh' eb=>l? (I.turned (t':=s.toks) (λb ob hb e=>eb b ob hb e) f0 f1 f3 f4 f5)
 self:=λ_ _ _ _ _ st h=>wpAny_pyIter_valiter st h
universe S
def Jk4(td:TE):TI:=λσ H R=>td σ H λx H1=>∃p d kvs,x=pi/\L! H1 p (Hx p d)/\L! H1 d (.dK kvs)/\∀o,R (gN d kvs o) (upd H1 d AK!)
theorem Q5{l:Expr}{td:TE}(hl:PE X l td):PI X tg l (Jk4 td):=by
 intro AA s σ H R I h;refine DX (hl AA s σ H _ I h) ?_;rintro v s1 ⟨x,H1,I1,r1,p,d,kvs,ex,hp,hd,hR⟩;subst ex;cases r1;obtain⟨o,g,I2⟩:=Xj I1 hd;obtain⟨z,lo,vs,rel,o',es,ep,g',c',q',k',p',n'⟩:=(show DN X.prog X.w H1 s1.heap d (.dK kvs) from I1.DC d _ hd);rw[g] at g';cases g';have hlen:kvs.length=vs.length:=Y? rel;have da:s1.heap.DictAt (Bq X.prog X.w) d vs ep:=⟨o,es,g,c',q',k',p',n'⟩;have hv:s1.heap.IsValuesView p d:=(I1.DC p _ hp).1;refine wpAny_pyIter_values hv da ?_;have fresh:=I2.DC.fresh (ZG _);have I3:CY! (upd H1 d AK!) { s1 with heap:=s1.heap.push { cls:=.type "dict_valueiterator",data:=.fields #[o! d,z! 0 0,z! vs.length 0,z! ep 0] } }:=I2.kept (t':=s1.toks) λb ob e=>ZT _ e;refine⟨s1.heap.objs.size,[s1.heap.objs.size],_,gN d kvs o,_,rfl,I3,Vs d _ kvs o es ep q',(by rw[hlen];exact⟨_,ZU _ rfl,rfl,rfl⟩),λb hb=>?_,hR o⟩;have e:b=s1.heap.objs.size:=by simpa using hb
 subst e;exact I2.WA (ZG _) fresh
universe E
theorem P2{d:Addr}{kvs:List (Key×V)}{ob:Obj}{g:TG}{tb:TS}{D:Ends}{σ:L2.St}{H:Hp}(Pv:Nat->B6! L2.St)(h0:Pv 0 σ H)(hf:∀i σ H,i<=kvs.length->Pv i σ H->Bh! (.GF ob (.dK kvs)))(hs:∀i k v σ H,kvs[i]?=K! (k,v)->Pv i σ H->g v σ H λOU H2=>tb { D with nx:=Pv (i+1),ct:=Pv (i+1),bk:=D.nx } OU H2)(hd:∀σ H,Pv kvs.length σ H->D.nx σ H) : ∃W:Nat->Nat->L2.St->Hp->Prop,(∃m,W 0 m σ H)/\∀i m σ H,W i m σ H -> ((gN d kvs ob).stop i H/\D.nx σ H)\/((gN d kvs ob).go i H/\∃N:B6! L2.St,(∀ER H',N ER H'->CQ! ER H')/\∀x H',(gN d kvs ob).SW i H x H'->g x σ H' λOU H2=>tb { D with nx:=N,ct:=N,bk:=D.nx } OU H2):=by
 refine⟨λi m σ H=>m=kvs.length-i/\i<=kvs.length/\Pv i σ H,⟨kvs.length,ga,BE _,h0⟩,?_⟩;rintro i m σ H ⟨rfl,hi,pv⟩;have fz:=hf i σ H hi pv;by_cases JU:i<kvs.length;.refine F! ⟨⟨fz,JU⟩,Pv (i+1),λER H' p'=>⟨kvs.length-(i+1),B!,rfl,JU,p'⟩,λx H' y=>?_⟩;obtain⟨e,k,ek⟩:=y;subst e;exact hs i k x σ _ ek pv
 ·(have e:i=kvs.length:=B!);subst e;exact A! ⟨⟨fz,ZG _⟩,hd σ H pv⟩
universe S
universe E
theorem Y6(h1:IW a b)(h2:IW b c):IW a c:=by rw[Eo] at *;lia
theorem Uv(h:a≠b)(h1:¬IW a b):IW b a:=by rw[Eo] at *;have:¬(a.1=b.1/\a.2=b.2):=λz=>h (Prod.ext z.1 z.2);lia
theorem Kw(key:α->T2)(x:α):∀{s:BI!},(s.map key).Pairwise IW->(∀y∈s,key x≠key y)->∃s':BI!,s'.Perm (x::s)/\(s'.map key).Pairwise IW
 | [],_,_=>⟨[x],.refl _,ga⟩
 | y::s,h,ne=>by have h':=EL.mp h;by_cases e:IW (key x) (key y);(.refine⟨x::y::s,.refl _,EL.mpr ⟨C5!,h⟩⟩;rcases ZM hz with rfl|hz;(.exact e);.exact Y6 e (h'.1 z hz));.obtain⟨s',p,q⟩:=Kw key x h'.2 (BG! ne Dw!);refine⟨y::s',(p.cons y).trans (List.Perm.swap x y s),EL.mpr ⟨C5!,q⟩⟩;obtain⟨u,hu,rfl⟩:=ZN hz;rcases ZM (p.mem_iff.mp hu) with rfl|hu;(.exact Uv (ne y sK) e);.exact h'.1 _ (BG hu)
theorem sorts(key:α->T2):∀{l:BI!},(l.map key).Nodup->∃s:BI!,s.Perm l/\(s.map key).Pairwise IW
 | [],_=>⟨[],.refl _,ga⟩
 | x::l,nd=>by have KA:=AM.mp nd;obtain⟨s,p,q⟩:=sorts key KA.2;obtain⟨s',p',q'⟩:=Kw key x q λy hy e=>KA.1 (AF.mpr ⟨y,p.mem_iff.mp hy,e.symm⟩);exact⟨s',p'.trans (p.cons x),q'⟩
theorem MV{a b c:Str}{k:NameKind}{cl:List (Str×Addr)}{y:Str}(hc:∃z,L! cl.lookup c z)(h:Ea! [Dt!,Ds!,(c,k)] .cell\/Ea! [Dt!,Ds!,(c,k)] .free):∃z,L! cl.lookup y z :=Mr (λp hp hk=>by simp only[BU,DD,JM] at hp;rcases hp with rfl|rfl|rfl;(.rcases hk with hk|hk<;>cases hk);(.rcases hk with hk|hk<;>cases hk);.exact hc) h
theorem X6{K:W.Frag}{a p:Addr}{xs:g!}{tt:TT}{te:TE}{caps:List (Str×Nat)}{σ:L2.St}{H:Hp}{Q:Hp->Prop}(Pv:Nat->B6! g!)(h0:Pv 0 [] (upd H p Ch))(hl:∀i ys H2,i<=xs.length->Pv i ys H2->CF K H2 a xs/\AV! Db)(hs:∀i x ys H2 (N:B6! g!),xs[i]?=K! x->Pv i ys H2->(∀ys H,Pv (i+1) ys H->N ys H)->CA! tt H2 (λb H4 =>if b=true then CA! te H4 (λv H5=>L! H5 p Db/\ys.length<sizeLine/\N (ys++[v]) (upd H5 p (.BC B4!))) else N ys H4))(hd:∀ys H2,Pv xs.length ys H2->Q H2) : ∃W:Nat->Nat->g!->Hp->Prop,(∃m,W 0 m [] (upd H p Ch))/\∀i m ys H2,W i m ys H2->AV! Db /\ (((XF K a).stop i H2/\Q H2)\/((XF K a).go i H2/\∀x H3,(XF K a).SW i H2 x H3->CA! tt H3 (λb H4 =>if b=true then CA! te H4 (λv H5=>L! H5 p Db/\ys.length<sizeLine/\CQ! B4! (upd H5 p (.BC B4!))) else CQ! ys H4))):=by
 refine⟨λi m ys H=>m=xs.length-i/\i<=xs.length/\Pv i ys H,⟨xs.length,ga,BE _,h0⟩,?_⟩;rintro i m ys H2 ⟨rfl,hi,pv⟩;obtain⟨q1,q2⟩:=hl i ys H2 hi pv;refine A9! q2;by_cases JU:i<xs.length;.refine h! ⟨xs,xs[i],q1,by simp[JU]⟩ (λx H3 y=>?_);obtain⟨e,y⟩:=y;subst e;exact hs i x ys _ (λzs H'=>∃m',m'<xs.length-i/\(m'=xs.length-(i+1)/\i+1<=xs.length/\Pv (i+1) zs H')) (y xs q1) pv λzs H' pz=>⟨_,B!,rfl,JU,pz⟩
 ·(have e:i=xs.length:=B!);subst e;exact A! ⟨⟨xs,q1,ZG _⟩,hd ys H2 pv⟩
theorem xj:∀{ds:List PyData},(∀d∈ds,d.canLay0=true/\d.depth<=n)->PyData.canLayAll0 ds=true/\PyData.depthAll ds<=n
 | [],_=>⟨by simp[PyData.canLayAll0],by simp[PyData.depthAll]⟩
 | d::ds,h=>by obtain⟨h1,h2⟩:=xj (BG! h Dw!);obtain⟨h3,h4⟩:=h d sK;exact⟨by simp[PyData.canLayAll0,h1,h3],by simp only[PyData.depthAll];lia⟩
theorem Ly(ds:List PyData):PyData.eqv (.list ds) (.list [])=ds.isEmpty:=by cases ds<;>simp[PyData.eqv,PyData.eqvAll]
theorem Xx(ds:List PyData):PyData.eqv (.tuple ds) (.tuple [])=ds.isEmpty:=by cases ds<;>simp[PyData.eqv,PyData.eqvAll]
theorem Sk:PyData.eqv (NR t) (NR u)=H? (t=u):=by obtain⟨a,b⟩:=t;obtain⟨c,d⟩:=u;unfold NR;simp only[PyData.eqv,PyData.eqvAll,Prod.mk.injEq];by_cases h1:a=c<;>by_cases h2:b=d<;>simp[h1,h2,PyData.eqv]
abbrev HS:=Q?×List (AO!)×J!
inductive YA(K:W.Frag)(H:Hp)(v:V)(r:AO!):Prop
 | mk (a t hd:Addr) (cs:Z?) (_:v=o! a) (_:FS a [E? t,q! Op,o! hd]) (_:Bg! (.AZ (tv r.1))) (_:FS hd (cs.map V.ref)) (_:AW H cs X?)
inductive a_(K:W.Frag)(H:Hp)(v:V)(q:AS!):Prop
 | mk (a t:Addr) (_:v=o! a) (_:FS a [E? t,q! q.2]) (_:Bg! (.AZ (tv q.1)))
inductive RZ(K:W.Frag)(H:Hp)(x:Addr)(S:HS):Prop
 | mk (y1 y2 y3:Addr) (as:Z?) (bs ds:g!) (_:FS x [o! y1,o! y2,o! y3]) (_:FS y1 (as.map V.ref)) (_:AW H as S.1) (_:FS y2 bs) (_:Paired (YA K H) bs S.2.1) (_:FS y3 ds) (_:Paired (a_ K H) ds S.2.2)
universe S
variable {K:W.Frag}{H H':Hp}
theorem YA.keep(k:As!){v:V}{r:AO!}(h:YA K H v r):YA K H' v r:=by obtain⟨a,t,hd,cs,e,e1,e2,e3,th⟩:=h;exact⟨a,t,hd,cs,e,k.sq e1,Be! e2,k.sq e3,AW.keep k th⟩
theorem a_.keep(k:As!){v:V}{q:AS!}(h:a_ K H v q):a_ K H' v q:=by obtain⟨a,t,e,e1,e2⟩:=h;exact⟨a,t,e,k.sq e1,Be! e2⟩
theorem RZ.keep(k:As!){x:Addr}{S:HS}(h:RZ K H x S):RZ K H' x S:=by obtain⟨y1,y2,y3,as,bs,ds,e,e1,t1,e2,t2,e3,t3⟩:=h;exact⟨y1,y2,y3,as,bs,ds,k.sq e,k.sq e1,AW.keep k t1,k.sq e2,Ap (λ_ _ r=>r.keep k) t2,k.sq e3,Ap (λ_ _ r=>r.keep k) t3⟩
universe E
universe S
variable {p:Addr}{b:T2->Bool}{ts:List T2}{H:Hp}{tt:TT}{caps:List (Str×Nat)}{σ:L2.St}{Q:Hp->Prop}
theorem Xw{K:W.Frag}{l:Addr}{as:Z?}(hp:H p=none)(hz:ts.length<=900)(hl:FS l (as.map V.ref))(th:EC!)(ht:∀(H2:Hp) (a:Addr) (t:T2) (Q':B6! Bool),Bh H H2->n? a (.AZ (tv t))->t∈ts->Q' (b t) H2->tt (o0 a::C0 σ caps) H2 Q')(k:∀(H2:Hp) (bs:Z?),Bh H H2->AV! (jp bs.map)->AW H2 bs (ts.filter b)->Q H2) : ∃W:Nat->Nat->g!->Hp->Prop,(∃m,W 0 m [] (upd H p Ch))/\∀i m ys H2,W i m ys H2->AV! Db /\ (((XF K l).stop i H2/\Q H2)\/((XF K l).go i H2/\∀x H3,(XF K l).SW i H2 x H3->CA! tt H3 (λb H4 =>if b=true then Bx 0 (K! x::C0 σ caps) H4 λv H5=>L! H5 p Db/\ys.length<sizeLine/\CQ! B4! (upd H5 p (.BC B4!)) else CQ! ys H4))):=by
 have lt:=Y? th;refine X6 (K:=K) (a:=l) (p:=p) (xs:=as.map V.ref) (caps:=caps) (λi ys H2=>JH p b ts H i ys H2) (JH.start hp) (λi ys H2 _ pv=>?_) (λi x ys H2 N hx pv n=>?_) λys H2 pv=>?_;.obtain⟨bs,_,sm,GO,_⟩:=pv;exact⟨(HN sm).sq hl,GO⟩
 .rw[ZH] at hx;cases ea:as[i]? with | none=>rw[ea] at hx;cases hx | some a =>rw[ea] at hx;have hx:V.ref a=x:=ZO hx;subst hx;obtain⟨t,et⟩:=Ec! ts ea;have ha:=Aw th i a t ea et;obtain⟨bs,e0,sm,GO,QY⟩:=id pv;exact qT hp hz ht pv et (sm _ _ ha) n
 .obtain⟨bs,ey,sm,GO,QY⟩:=pv;rw[ZA,lt,BP] at QY;exact k H2 bs sm (U! ey GO) QY
universe E
inductive Jdy(K:W.Frag)(x:V)(vs:g!)(H:Hp)(Q:VK):Prop
 | mk l b xs zs (_:x=o! l) (_:vs=[o! b]) (_:V? l (.BC xs)) (_:FS b zs) (_:xs.length+zs.length<=sizeLine) (_:Q .E_ (upd H l (.BC (xs++zs))))
theorem Y2:cw X "list.extend" (Jdy X.K):=by
 intro AA s σ H x vs v us Q I rx rv h;obtain⟨l,b,xs,zs,rfl,rfl,hH,hB,hz,q⟩:=h;cases rx;obtain⟨u,rfl,ru⟩:=rv.one;cases ru;obtain⟨z,its,n,r,hl,e⟩:=I.TY hH;obtain⟨ON,r2,⟨o2,e2,c2,n2,q2⟩,z2⟩:=I.tuple hB;have l1:=r.length;have l2:=r2.length;have hsz:its.toArray.size+ON.toArray.size<=sizeLine:=by rw[BD,BD];lia
 have YE:¬(!its.toArray.isEmpty&&Builtin.List.listTooLong (its.toArray.size+ON.toArray.size))=true:=cr (Ws hsz) Bool.and_false AX
 refine C_ F.slot_list_extend ⟨_,e,rfl⟩ F.entry_list_extend ?_ (F.args_list_extend_2 _ _);show wpAny _ _ (Builtin.List.listExtendWith (E? l) (E? b) .none) _ _ s;unfold Builtin.List.listExtendWith;refine ZR (wpAny_typeOf (T:="tuple") ⟨o2,e2,c2⟩ ?_);have ht:(Value.type "tuple" == Value.type "tuple")=true:=by rfl
 rw[AD (by rw[ht];simp)];refine ZR (WT e2 q2 (ZR (WT e rfl ?_)));rw[AB YE];refine ZR (listUpdate_at e rfl ?_ (v? BD) (show(its.toArray++ON.toArray).size<=sizeLine+1 by rw[Array.size_append];lia));refine ZS (T0 ⟨.E_,_,I.ax (its':=its++ON) hH e ut (r.append r2) ?_,rfl,q⟩);rw[ZE];lia
def rowsOf(L:PP):List (AO!):=L.flatMap (·.2.1)
def Gg(l:J!)(t:T2):Int:=((l.find? λq=>H? d!).map (·.2)).getD 0
def addW(a:J!)(q:AS!):J!:=Be a q.1 (Gg a q.1+q.2)
def Ct(L:PP):J!:=(L.flatMap (·.2.2)).foldl addW []
inductive Led(L:PP):B5!
 | hand {S:HS} {t:T2} (h:S∈L) (m:t∈S.1):Led L t
 | out {r:AO!} (h:C9! L) (m:Op≠Gg (Ct L) r.1):Led L r.1
 | step {r:AO!} {u:T2} (h:C9! L) (m:u∈X?) (l:Led L r.1):Led L u
structure Found(L:PP)(ts:Q?):Prop where
 pw:ts.Pairwise IW
 mem:∀t,t∈ts↔(P? (rowsOf L).map/\¬Led L t)
universe E FX
universe N K62
open PySem L2 FX
def Jr(t:T2)(rs:J!):Int:=(rs.map λq=>BY! d! q.2).sum
theorem Rn(t:T2):∀(rs a:J!),Gg (rs.foldl addW a) t=Gg a t+Jr t rs
 | [],a=>by simp[Jr]
 | q::rs,a=>by rw[List.foldl_cons,Rn t rs];have e:Gg (addW a q) t=D! (Be a q.1 (Gg a q.1+q.2)):=rfl;rw[e,C6];unfold Jr;rw[AI,CG];by_cases c:t=q.1;(.rw[N!,AD c.symm,c];lia);.rw[P!,AB (E0! c)];show Gg a t+_=_;lia
theorem Jdg(t:T2)(a b:J!):Jr t H!=Jr t a+Jr t b:=by unfold Jr;rw[ZF,List.sum_append]
theorem Qz(t:T2):∀(L:PP),Jr t (L.flatMap (·.2.2))=(L.map λS=>Jr t S.2.2).sum
 | []=>rfl
 | S::L=>by rw[B_,Jdg,Qz t L,AI,CG]
theorem Jcr(t:T2)(L:PP):Gg (Ct L) t=(L.map λS=>Jr t S.2.2).sum:=by unfold Ct;rw[Rn,Qz];show 0+_=_;lia
theorem Vt{t:T2}:∀{rs:J!},Dg!->Jr t rs=D! rs
 | [],_=>rfl
 | q::rs,nd=>by have KA:=AM.mp nd;have ih:=Vt (t:=t) KA.2;rw[Xo];unfold Jr at *;rw[AI,CG,ih];by_cases c:d!;(.rw[N!,N!,Ep (U! c KA.1)];lia);.rw[P!,P!];lia
theorem Jv{α:Type}{f:α->Int}{b:α->Bool}:∀{l:BI!},(∀x∈l,0<=f x)->((l.filter b).map f).sum<=(l.map f).sum/\∀j∈l,b j=false->((l.filter b).map f).sum+f j<=(l.map f).sum
 | [],_=>⟨ga,λj hj=>by cases hj⟩
 | a::l,h=>by obtain⟨i1,i2⟩:=Jv (f:=f) (b:=b) (l:=l) λx hx=>h x (ZD _ hx);have h0:=h a sK;rw[CY];cases c:b a with | true =>rw[At,AI,CG,AI,CG];refine⟨B!,λj hj bj=>?_⟩;rcases ZM hj with e|hj;(.rw[e,c] at bj;cases bj);.have:=i2 j hj bj;lia | false =>rw[AB AX,AI,CG];refine⟨B!,λj hj bj=>?_⟩;rcases ZM hj with e|hj;(.rw[e];lia);.have:=i2 j hj bj;lia
def UO(t:T2)(qs:O!)(h:Nat):Int:=(qs[h]?.map λp=>D! p.2.AN).getD 0
def VN(t:T2)(qs:O!)(h:Nat):Int:=(qs[h]?.map λp=>D! p.2.AH).getD 0
theorem Oc(t:T2):∀(qs:O!),Gc t qs=B2! qs.length (λh=>UO t qs h)-B2! qs.length (λh=>D2!)
 | []=>by simp[Gc]
 | p::qs=>by have ih:=Oc t qs;rw[BF,List.range_succ_eq_map];simp only[AI,AL,CG];(have e1:((λh=>UO t (p::qs) h) ∘ Nat.succ)=λh=>UO t qs h:=by funext h;simp[UO]);(have e2:((λh=>VN t (p::qs) h) ∘ Nat.succ)=λh=>D2!:=by funext h;simp[VN]);rw[e1,e2];show A? p.2+Gc t qs=_;rw[ih];unfold LB;(have e3:UO t (p::qs) 0=D! p.2.AN:=by simp[UO]);(have e4:VN t (p::qs) 0=D! p.2.AH:=by simp[VN]);rw[e3,e4];lia
theorem Zt{f:Nat->Int}{h0:Nat}:∀{m:Nat},h0<m->(∀h,h≠h0->f h=0)->B2! m f=f h0
 | 0,hl,_=>B!
 | m+1,hl,h=>by rw[EZ,ZF,List.sum_append];simp only[AI,FO,CG,List.sum_nil];by_cases c:h0=m;(.subst c;(have:∀k,k<=h0->B2! k f=0:=λk=>by induction k with | zero=>intro _;simp | succ k ih =>intro hk;rw[EZ,ZF,List.sum_append,Cm! ih];simp only[AI,FO,CG,List.sum_nil];rw[h k a!];lia);rw[this h0 (ZG _)];lia);.rw[Zt (m:=m) a! h,h m (Da!)];lia
structure mV(G:BX)(S:HS):Prop where
 hand:∀t∈G.hand,t∈S.1
 row:∀t∈Ch!,∃r∈S.2.1,r.1=t
 q_:∀r∈S.2.1,r.1∈Ch!/\Op=Ai G.AH r.1
 rA:∀r∈S.2.1,∀q∈G.holds,q.1=r.1->∀t∈q.2.2,t∈X?
 AN:∀t,Jr t S.2.2=Z!
def Lb(m:Nat)(b:Bp!)(S1:Nat->HS):PP:=((List.range m).filter b).map S1
def GS(m:Nat)(b:Bp!)(S1:Nat->HS)(t:T2):Prop:=P? (rowsOf Cs!).map/\¬Led Cs! t
theorem UH{m:Nat}{b:Bp!}{S1:Nat->HS}{S:HS}:S∈Lb m b S1↔∃h,h<m/\b h=true/\S1 h=S:=by
 unfold Lb;rw[AF];constructor;.rintro⟨h,hh,e⟩;obtain⟨h1,h2⟩:=AE.mp hh;exact⟨h,BR.mp h1,h2,e⟩
 .rintro⟨h,h1,h2,e⟩;exact⟨h,AE.mpr ⟨BR.mpr h1,h2⟩,e⟩
theorem LJ{L:PP}{r:AO!}:C9! L↔∃S∈L,r∈S.2.1:=by unfold rowsOf;exact CV
universe S
variable {D:T2->Prop}{m n:Nat}{sh:Int}{qs:List (Addr×BX)}{ls:List LT}
theorem Wg.snap(x:D?){b:Bp!}{S1:Nat->HS}(hs:∀(h:Nat) q G,M? (qs[h]?)->b h=true->mV G (S1 h)):ap (GS m b S1):=by
 have lm:=x.wl.len;have key:∀t,GS m b S1 t->(∃(h:Nat)(q:Addr)(G:BX),M? (qs[h]?)/\b h=true/\t.1=j! h/\Sc)/\Cr t ls=0/\EQ! (b j=false) (Z!=0):=λt ⟨ht,nl⟩=>by obtain⟨r,hr,e⟩:=ZN ht;obtain⟨S,hS,LF⟩:=LJ.mp hr;obtain⟨h,hm,bh,e2⟩:=UH.mp hS;subst e2;obtain⟨⟨q,G⟩,eq⟩:=Au (xs:=qs) (j:=h) a!;have T:=hs h q G eq bh;obtain⟨o1,o2⟩:=T.q_ r LF;obtain⟨s,nu⟩:=x.BL eq;rw[e] at o1 o2;(have t1:t.1=j! h:=S? (D7! o1) nu);have ew:Op=Gg (Ct Cs!) r.1:=Classical.byContradiction λz=>AW! nl (.out hr z);rw[e,Jcr] at ew;(have eR:∀k,k<m->∃q G,M? (qs[k]?)/\B3!=Z!/\VN t qs k=W?:=λk hk=>by obtain⟨⟨q,G⟩,eq⟩:=Au (xs:=qs) (j:=k) a!;exact⟨q,G,eq,by unfold UO;rw[eq];rfl,by unfold VN;rw[eq];rfl⟩);(have eA:((Lb m b S1).map λS=>Jr t S.2.2).sum=(((List.range m).filter b).map λk=>B3!).sum:=by unfold Lb;rw[AL];congr 1;refine BM λk hk=>?_;obtain⟨h1,h2⟩:=AE.mp hk;obtain⟨q',G',TQ,e3,_⟩:=eR k (BR.mp h1);show Jr t (S1 k).2.2=B3!;rw[e3,(hs k q' G' TQ h2).AN t]);rw[eA] at ew;(have ua:∀k∈List.range m,0<=B3!:=λk hk=>by obtain⟨q',G',TQ,e3,_⟩:=eR k (BR.mp hk);rw[e3];exact Il (x.BL TQ).1.nn t);(have sO:B2! m (λk=>VN t qs k)=D2!:=Zt hm λk nk=>by by_cases hk:k<m;(.obtain⟨q',G',TQ,_,e4⟩:=eR k hk;rw[e4];exact x.wl.i7 (r:=(q',G')) TQ (Ct! t1));.unfold VN;rw[Cm! CM];rfl);(have oh:D2!=W?:=by unfold VN;rw[eq];rfl);have sm:=x.wl.sum t (i! ⟨h,q,G,eq,o1⟩);rw[Oc,lm,sO,oh,<-o2] at sm;have l0:=Kr (t:=t) x.wl.ok;obtain⟨f1,f2⟩:=Jv (f:=λk=>B3!) (b:=b) ua;refine⟨⟨h,q,G,eq,bh,t1,o1⟩,B!,λj q' G' TQ bj=>?_⟩;(have hj:j<m:=BE! lm TQ);have f3:=f2 j (BR.mpr hj) bj;(have e5:UO t qs j=D! G'.AN:=by unfold UO;rw[TQ];rfl);have nn5:=ua j (BR.mpr hj);rw[e5] at f3 nn5;lia
 have uZ:∀t,GS m b S1 t->xz (l.th≠t):=λt ht l hl e=>by have:=Od x.wl.ok hl;rw[e,(key t ht).2.1] at this;lia
 have iG:∀t,GS m b S1 t->EQ! (b j=false) (¬R?):=λt ht j q G eq bj hd=>by obtain⟨⟨h,q',G',TQ,bh,t1,_⟩,_,z⟩:=key t ht;(have nj:D0!:=λy=>by (have:h=j:=B!);rw[this,bj] at bh;cases bh);rcases x.rc j q G eq t hd nj with r|⟨l,hl,e,_⟩;(.have:=z j q G eq bj;lia);.exact uZ t ht l hl e
 refine⟨λj q G eq t ht gs=>?_,λl hl _ gs=>uZ _ gs l hl rfl,λj q G eq r0 TM t ht gs=>?_,λj q G eq t gs tj=>?_⟩;.cases bj:b j with | false=>exact iG t gs j q G eq bj E1! | true =>(have hj:j<m:=BE! lm eq);exact gs.2 (.hand (UH.mpr ⟨j,hj,bj,rfl⟩) ((hs j q G eq bj).hand t ht))
 .cases bj:b j with | false=>exact absurd (i! ⟨r0,TM,ht⟩) (iG t gs j q G eq bj) | true =>(have hj:j<m:=BE! lm eq);have T:=hs j q G eq bj;obtain⟨s,nu⟩:=x.BL eq;obtain⟨r,hr,e⟩:=T.row r0.1 (A8! s.ok.ke (AC ⟨r0,TM,rfl⟩));have mr:C9! Cs!:=LJ.mpr ⟨_,UH.mpr ⟨j,hj,bj,rfl⟩,hr⟩;refine⟨AC ⟨r,mr,e⟩,λld=>gs.2 ?_⟩;exact .step mr (T.rA r hr r0 TM e.symm t ht) (W! e ld)
 .obtain⟨⟨h,q',G',TQ,bh,t1,o1⟩,_⟩:=key t gs;(have:h=j:=B!);subst this;have e:(q',G')=(q,G):=ZO (TQ.symm.trans eq);obtain⟨s,nu⟩:=x.BL eq;exact(s.ok.new t (A8! (FK! e) o1)).2
universe E
def Vg(G:BX)(ts:Q?):BX:=IM (HV e?)
universe S
variable {D F:T2->Prop}{m n:Nat}{sh:Int}{qs:List (Addr×BX)}{ls:List LT}{i:Nat}{q:Addr}{G:BX}{ts:List T2}
theorem zA{t:T2}(h:QJ (Vg G ts) t):R?/\Bx!=true:=by
 rcases h with h|⟨r,hr,h⟩;.have h:A3!:=h;exact⟨I!,by unfold Bo;rw[decide_eq_true (show t∈(Am G ts).hand from h)];rfl⟩
 .have hr:r∈(Am G ts).holds:=hr;refine A9! (ES! AA!);unfold Bo;have:Cq! (Am G ts).holds.any C0!=true:=KJ.mpr (AE! K?);rw[this,Bool.or_true]
theorem Jk1(ok:GM)(h1:∀t∈G.hand,t∉ts)(h2:∀r∈G.holds,r.1∉ts->∀t∈X?,t∉ts):Bz!:=by
 have sub:(G.AH.filter λq=>decide (q.1∉ts)).Sublist G.AH:=FA;refine⟨ok.hn,ok.hz,ok.on.sublist (sub.map _),BA sub.length_le ok.oz,?_,ok.rn,ok.rz,v6 ok.ln AA!,t? (ok.new t ((sub.map _).subset ht)),BZ!,λr hr t ht e=>?_,ok.rk⟩;.show Dv! G.holds.filter=Dv! G.AH.filter;(have e1:Dv! G.holds.filter=(G.holds.map y!).filter (KF (t∉ts)):=F? PD);(have e2:Dv! G.AH.filter=(G.AH.map y!).filter (KF (t∉ts)):=F? PD);rw[e1,e2,ok.ke]
 .have m:=ok.hk t ht e;obtain⟨o,ho,eo⟩:=ZN m;exact AC ⟨o,AE.mpr ⟨ho,by rw[eo];simpa using h1 t ht⟩,eo⟩
 .obtain⟨HP,LF⟩:=AE.mp hr;have m:=ok.lk r HP t ht e;obtain⟨o,ho,eo⟩:=ZN m;exact AC ⟨o,AE.mpr ⟨ho,by rw[eo];simpa using h2 r HP (by simpa using LF) t ht⟩,eo⟩
theorem Jkl(x:w!)(WX:Bz!):g? (Vg G ts):=by refine Ag! (WX.HV.mono (FC n)) (F! ⟨q,FC!,ht⟩) (X! (Dc! x.nn)) (Is (D8! ht)) (λt ht hk=>?_);obtain⟨q,hq,e⟩:=ZN hk;refine Df! hq ?_ e;rw[e];exact(zA (G:=G) (ts:=ts) ht).2
theorem Wg.rh(x:D?)(hi:E!)(sF:ap F)(fD:∀t,F t->D t)(ht:∀t,t∈ts↔(F t/\t.1=C!)){rs:J!}(pm:AN!) : FS! (x? CI!) (ls++(B4 e? rs).map (Hh C!))/\Ix CI! (ls++(B4 e? rs).map (Hh C!))/\Bz!:=by
 obtain⟨s,nu⟩:=FM;have k8:Bz!:=Jk1 s.ok (λt m z=>B0! sF.hand m ((ht t).mp z).1) λr hr nr t m z=>nr ((ht r.1).mpr ⟨sF.hold i q G hi r hr t m ((ht t).mp z).1,S? (s.ok.new r.1 (A8! s.ok.ke (AC (AE! rfl)))).1 nu⟩);have st:Ix CI! (ls++(B4 e? rs).map (Hh C!)):=Aa! KO.less (λt ht=>ht) (λl hl nb=>by rcases ZI hl with h|h;(.exact h);.obtain⟨y,_,rfl⟩:=ZN h;exact I? rfl nb) (E7! AA!);have gone:∀t∈ts,¬(CG! (x? CI!)):=λt m z=>by obtain⟨f,t1⟩:=(ht t).mp m;rcases z with z|⟨j,q',G2,e,o⟩;(.exact z (fD t f));.rcases Ew e with⟨_,e2,_⟩|⟨nj,e⟩;(.rw[e2] at o;obtain⟨y,hy,ey⟩:=ZN o;have:=(AE.mp hy).2;rw[ey] at this;exact(BO this) m);.obtain⟨s2,nu2⟩:=x.BL e;have:=(s2.ok.new t o).1;lia
 have C':∀t,(CG! (x? CI!))->(CG! qs):=λt h=>by rcases h with h|h;(.exact I!);.rcases h.set hi with h|h;(.exact wv);.exact F! ⟨i,q,G,hi,D8! h⟩
 refine⟨⟨(x.wl.mono C').next hi (Jkl s k8) rfl (C5!) (λt ct=>?_) ?_,st D x.sD,x.rc.less hi (wT) λt ht ne=>?_⟩,st,k8⟩;.rcases EQ with hz|hz;(.exact x.wl.ok z hz);.obtain⟨y,hy,rfl⟩:=ZN hz;obtain⟨oS,oR⟩:=AE.mp hy;have oQ:=pm.mem_iff.mp (AE.mp oS).1;have im:=s.ir y.1 (AF.mpr ⟨y,oQ,rfl⟩);exact⟨im.1.1,im.2,im,De! ⟨rfl,by have:=BO oR;show 1<=y.2;lia,rfl⟩⟩
 .rw[Gm];have YV:Dg!:=(pm.map _).nodup_iff.mpr s.ok.rn;have e1:Cr t ((B4 e? rs).map (Hh C!))=D! (FT! AC!) :=Qf C! t (YV.sublist (List.filter_sublist.map _)) (v6 s.nn (pm.mem_iff.mp AA!));rw[e1,D6 rs (λt=>! Bx!) t,P1 pm s.ok.rn];show KB (DE! AC!-D! (Cq! G.AH.filter (q.1∉ts))+_);rw[D4! Bx!,D6 G.AH (KF (t∉ts)) t];rw[AD (decide_eq_true (show ¬t∈ts from λz=>gone t z ct))];cases Bx!;(.rw[DP!,AD (by rfl)];lia);.rw[At,DP!];lia
 .rw[ZE,ZA];have h1:(B4 e? rs).length<=(rs.filter λq=>! AC!).length:=AV _ _;have h2:=(pm.filter λq=>! AC!).length_eq;have h3:=P8 (λq:T2×Int=>AC!) G.AN;show(G.AN.filter λq=>AC!).length+_<=_;lia
 .obtain⟨h1,h2⟩:=zA ht;refine A9! h1;show Z!<=DE! AC!;rw[D4! Bx!,AD h2];exact A' _
theorem Wg.more(x:D?)(sF:ap F):Cg! Wg (λt=>D t\/F t) n :=⟨x.wl.mono λt h=>by rcases h with h|h;(.exact A! (λz=>h (.inl z)));.exact wv,⟨λj q G e t ht z=>z.elim (x.sD.hand j q G e t ht) (sF.hand j q G e t ht),λl hl nb z=>z.elim (AJ! x.sD.RF) (AJ! sF.RF),λj q G e r hr t ht z=>z.elim (λz=>B? (x.sD.hold j q G e r hr t ht z)) λz=>i! (sF.hold j q G e r hr t ht z),λj q G e t z tj=>z.elim (λz=>x.sD.old j q G e t z tj) λz=>sF.old j q G e t z tj⟩,x.rc⟩
universe E
universe E K62
universe N FX
open PySem PySem.Spec PyProof.Rows L2
def rg(n:Nat):List Int:=(List.range n).map λk:Nat=>j! k
theorem J6(n:Nat):(rg n).length=n:=by unfold rg;rw[ZA,BZ]
theorem N_:x∈rg n↔(0<=x/\x<n):=by
 unfold rg;rw[AF];constructor;.rintro⟨k,hk,rfl⟩;have:=BR.mp hk;lia
 .rintro⟨h1,h2⟩;exact⟨x.toNat,Cm! BR.mpr,B!⟩
universe S
universe E
universe E FX
universe N K62
open PySem L2 FX
inductive LL where
 | w (l:LT)
 | ask (s g n u:Int)
 | MJ (s g n u tick:Int) (S:HS)
 | lt (s g:Int) (ts:Q?)
def eP:LL->Option LT
 | .w l=>K! l
 | _=>none
def Zn(n u:Int):LL->Option Int
 | .ask _ g n' u'=>A0! (n'=n/\u'=u) g
 | _=>none
def gI(n u:Int):LL->Option (FQ!)
 | .MJ s _ n' u' tick S=>A0! (n'=n/\u'=u) Ci!
 | _=>none
def Cs(al:a?)(n u:Int):List Int:=al.filterMap (Zn n u)
def Ck(al:a?)(n u:Int):BK!:=al.filterMap (gI n u)
def EH(al:a?):M!:=al.filterMap eP
theorem Bz(a b:a?)(n u:Int):T! H! u=T! a u++T! b u:=QD ..
theorem Bu(a b:a?)(n u:Int):G! H! u=G! a u++G! b u:=QD ..
theorem Cg(a b:a?):EH (x!)=EH a++EH b:=QD ..
theorem Fs(z:LL)(b:a?)(n u:Int):T! (z::b) u=(Zn n u z).toList++T! b u:=by unfold Cs;rw[GQ];cases Zn n u z<;>rfl
theorem Eb(z:LL)(b:a?)(n u:Int):G! (z::b) u=(gI n u z).toList++G! b u:=by unfold Ck;rw[GQ];cases gI n u z<;>rfl
def Jm7(al:a?):Prop:=∀n u,Ac! u/\AY! u
theorem Mj:∀ls:M!,Jm7 (ls.map .w)
 | []=>λn u=>Bj!
 | l::ls=>λn u=>⟨by rw[AI,Fs];exact(Mj ls n u).1,by rw[AI,Eb];exact(Mj ls n u).2⟩
theorem qi:∀ls:M!,EH (ls.map .w)=ls
 | []=>rfl
 | l::ls=>by show l::EH (ls.map .w)=_;rw[qi ls]
structure iX(h:Int)(S:HS):Prop where
 nd:KE S.2.1.map
 hz:S.1.length<=60
 rz:S.2.2.length<=60
 oz:∀w∈S.2.1,w.1.1=h/\0<=w.1.2/\w.2.2.length<=60
structure Hw(qs:O!)(r:FQ!):Prop where
 tk:EQ! (r.1=j! j) (Op<=G.A_/\(Op=G.A_->mV G X?))
 so:iX r.1 X?
 nw:EQ! (r.1=j! j) (∀w∈r.2.2.2.1,w.1.2<G.AU)
def Jq(fi:BK!)(h:Nat):Int:=((fi.find? (wE AG!)).map (·.2.1)).getD 0
def Nh(fi:BK!)(h:Nat):HS:=((fi.find? (wE AG!)).map (·.2.2)).getD ([],[],[])
def Still(qs:O!)(al:a?)(n:Int)(fi:BK!)(se:List (Int×Int))(h:Nat):Prop :=
 (∃r∈se,AG!/\r.2=Aj!)\/(∃r∈G! al 2,AG!/\Op=Aj!)\/(j! h∈T! al 2/\∃q G,M? (qs[h]?)/\G.A_=Aj!)
structure OJ(m:Nat)(qs:O!)(ls:M!)(al:a?)(n:Int)(fi:BK!)(se:List (Int×Int)):Prop where
 t1:By! al 1 al 1 Bc!
 t2:(fi.length<m/\Ac! 2/\AY! 2/\se=[])\/(Ax!/\By! al 2 al 2 Bd!)
 f1:∀r∈fi,CB!
 f2:∀r∈G! al 1,CB!
 s2:Ax!->∀b:Bp!,(∀h:Nat,h<m->b h=true->Still qs al n fi se h)->ap (GS m b (Nh fi))
theorem yB{m:Nat}{fi:BK!}(pm:(fi.map y!).Perm (rg m)){h:Nat}(hh:h<m):∃r∈fi,AG!/\Aj!=Op/\Nh fi h=X?:=by have m1:j! h∈Bc!:=pm.mem_iff.mpr (N_.mpr ⟨B!,B!⟩);obtain⟨r0,TM,e0⟩:=ZN m1;cases e:fi.find? (wE AG!) with | none =>have:=AY.mp e r0 TM;simp[e0] at this | some r =>refine⟨r,AJ e,Cr! (DO e),?_,?_⟩;(.unfold Jq;rw[e];rfl);.unfold Nh;rw[e];rfl
universe S
variable {m:Nat}{qs uM:List (Addr×BX)}{ls K_:List LT}{al al':List LL}{n:Int}{fi:List (Int×Int×HS)}{se:List (Int×Int)}{i:Nat}{q:Addr}{G G':BX}
theorem OJ.whole(x:AI!)(e:Ax!):Ac! 1/\AY! 1/\(fi.map y!).Perm (rg m):=by have l:=x.t1.length_eq;rw[ZE,ZE,ZA,ZA,J6] at l;have e1:Ac! 1:=Dn!;have e2:AY! 1:=Dn!;refine⟨e1,e2,?_⟩;have t:=x.t1;rw[e1,e2] at t;exact t
theorem OJ.de(x:AI!)(ha:∀u,T! al' u=T! al u)(hb:∀u,G! al' u=G! al u)(st:ii qs K_):OJ m qs K_ al' n fi se:=by refine⟨EM! x.t1,EM! x.t2,x.f1,Q! hb x.f2,λe b hs=>st _ (x.s2 e b DB!)⟩;have:=CX!;unfold Still at *;rw[ha,hb] at this;exact this
theorem OJ.X_(x:AI!)(hi:E!)(tk:G.A_<G'.A_)(md:G.AU<=G'.AU)(ha:∀u,T! al' u=T! al u)(hb:∀u,G! al' u=G! al u)(st:DY! K_):OJ m c? K_ al' n fi se:=by
 have fo:∀r,CB!->Hw c? r:=λr h=>⟨λj q2 G2 e ej=>by rcases Ew e with⟨e1,e2,_⟩|⟨_,e⟩;(.have:=h.tk i q G hi (S? ej e1);rw[e2];exact⟨B!,λz=>B!⟩);.exact h.tk j q2 G2 e ej,h.so,λj q2 G2 e ej w hw=>by rcases Ew e with⟨e1,e2,_⟩|⟨_,e⟩;(.have:=h.nw i q G hi (S? ej e1) w hw;rw[e2];lia);.exact h.nw j q2 G2 e ej w hw⟩;refine⟨EM! x.t1,EM! x.t2,v6 fo (x.f1 r hr),v6 fo (x.f2 r (A8! hb hr)),λe b hs=>st _ (x.s2 e b DB!)⟩;have:=CX!;unfold Still at *;rw[ha,hb] at this;rcases this with h1|h1|⟨h1,q2,G2,e2,e3⟩;.exact A! h1
 .exact TD h1
 .rcases Ew e2 with⟨e4,e5,_⟩|⟨_,e4⟩;(.exfalso;obtain⟨r,hr,er,et,_⟩:=yB (x.whole e).2.2 hh;have:=((x.f1 r hr).tk i q G hi (S? er e4)).1;rw[e5] at e3;lia);.exact o? ⟨h1,q2,G2,e4,e3⟩
theorem OJ.asked(x:AI!)(es:al=a++.ask s g n' u::b)(g0:0<=g)(hi:M? (qs[g.toNat]?))(et:tick=G.A_)(tl:mV G S)(so:iX g S)(nw:∀w∈S.2.1,w.1.2<G.AU):FO! Cc! fi:=by
 have A:∀n u2,T! Cc! u2=BM! u2:=λn u2=>by rw[Bz];show _++[]=_;rw[AG]
 have A0:∀u2,T! al u2=T! a u2++(FV! (n'=n) (u=u2) g++T! b u2):=λu2=>by rw[es,Bz,Fs];rfl
 have B:∀u2,G! Cc! u2=G! al u2++FV! (n'=n) (u=u2) Bm!:=λu2=>by rw[Bu,Bu,es,Bu,Eb,Eb];show _++(FV! (n'=n) (u=u2) Bm!++[])=_;rw[AG];rfl
 have eG:∀(j:Nat) q2 G2,qs[j]?=K! (q2,G2)->g=Cn!->G=G2:=λj q2 G2 e ej=>by (have:j=g.toNat:=B!);rw[this,hi] at e;exact(Prod.mk.inj (ZO e)).2
 have fo:Hw qs Bm!:=⟨λj q2 G2 e ej=>by rw[<-eG j q2 G2 e ej];exact⟨u? (tick<=G.A_),λ_=>tl⟩,so,λj q2 G2 e ej w hw=>U! (eG j q2 G2 e ej) (nw w hw)⟩;have pmv:∀(P Q R T:List Int)(y:Int),(P++([y]++Q)++R++T).Perm (P++Q++(R++[y])++T):=λP Q R T y=>by refine OT T ?_;have h1:(P++([y]++Q)).Perm (y::(P++Q)):=List.perm_middle;(have h2:(P++Q++(R++[y])).Perm (y::(P++Q++R)):=U! AQ (FH (l₂:=[y])));exact(h1.append_right R).trans h2.symm
 have tok:∀u2 (T:List Int),(T! al u2++A2! al u2++T).Perm (rg m)->(T! Cc! u2++A2! Cc! u2++T).Perm (rg m):=λu2 T h=>by rw[A,B,Bz,ZF];rw[A0] at h;by_cases c:n'=n/\u=u2;(.rw[N!] at h ⊢;exact(pmv _ _ _ _ g).symm.trans h);.rw[P!] at h ⊢;simpa using h
 refine⟨tok 1 _ x.t1,?_,x.f1,Cy!,λe bb hs=>x.s2 e bb DB!⟩;.rcases x.t2 with⟨z1,z2,z3,z4⟩|⟨z1,z2⟩;(.rw[A0] at z2;(have nc:¬(n'=n/\u=2):=λc=>by rw[N!] at z2;simp at z2);rw[AB nc] at z2;refine Os z1 ?_ ?_ z4;(.rw[A,Bz];simpa using z2);.rw[B,AB nc,z3];rfl);.exact h! z1 (tok 2 _ z2)
 .rw[B] at hr;rcases SZ with hr|hr;(.exact x.f2 r hr);.by_cases c:n'=n/\u=1;(.rw[N!] at hr;(have:r=Bm!:=by simpa using hr);rw[this];exact fo);.rw[P!] at hr;cases hr
 .have:=CX!;unfold Still at *;rcases this with h1|⟨r,hr,e1,e2⟩|⟨h1,h2⟩;(.exact A! h1);(.rw[B] at hr;rcases SZ with hr|hr;(.exact TD ⟨r,hr,e1,e2⟩);.by_cases c:n'=n/\u=2;(.rw[N!] at hr;(have er:r=Bm!:=by simpa using hr);rw[er] at e1 e2;have e1:g=j! h:=e1;have e2:tick=Aj!:=e2;(have eh:h=g.toNat:=B!);refine o? ⟨?_,q,G,Q! eh hi,by rw[<-e2,et]⟩;rw[A0,N!,<-e1];exact ZC _ (ZB _ AU!));.rw[P!] at hr;cases hr);.rw[A,Bz] at h1;refine o? ⟨?_,h2⟩;rw[A0];rcases ZI h1 with h1|h1;(.exact ZB _ h1);.exact ZC _ (ZC _ h1)
universe E
universe S
def Ek(m:Nat)(g n u:Int):a?:=(List.range m).map λi:Nat=>.ask g C! n u
theorem Hi:Cs (Ek m g n u) n2 u2=if n=n2/\u=u2 then rg m else []:=by
 unfold Cs Ek;rw[List.filterMap_map];by_cases c:n=n2/\u=u2;.rw[N!];(have:(Zn n2 u2 ∘ λi:Nat=>LL.ask g C! n u)=λi:Nat=>K! C!:=by funext i;show(A0! (n=n2/\u=u2) C!)=_;rw[N!]);rw[this];unfold rg;exact congrFun List.filterMap_eq_map' _
 .rw[P!];(have:(Zn n2 u2 ∘ λi:Nat=>LL.ask g C! n u)=λ_:Nat=>none:=by funext i;show(A0! (n=n2/\u=u2) C!)=_;rw[P!]);rw[this];simp
theorem Jo:Ck (Ek m g n u) n2 u2=[]:=by simp_all [Ck,Ek,gI]
theorem Vl:EH (B1! u)=[]:=by simp_all [EH,Ek,eP]
theorem yI(m:Nat):(rg m).Nodup:=by unfold rg List.Nodup;rw[EG];exact List.Pairwise.imp (λ{a b} (h:a<b)=>B!) OS
theorem Jnj(m1:1<=m)(h1:∀u,Ac! u)(h2:∀u,AY! u)(g:Int):OJ m qs ls (al++B1! 1) n [] []:=by
 have A:∀u,T! (al++B1! 1) u=if u=1 then rg m else []:=λu=>by rw[Bz,h1,Hi];by_cases c:u=1;(.rw[AD (l? c.symm),N!];rfl);.rw[AB (λz=>c z.2.symm),P!];rfl
 have B:∀u,G! (al++B1! 1) u=[]:=λu=>by rw[Bu,h2,Jo];rfl
 refine⟨?_,Os (u? (0<m)) ?_ (B 2) rfl,λr hr=>(by cases hr),Cy!,λe=>?_⟩;.rw[A,B,At];simp
 .rw[A,AB (db)]
 .rw[B] at hr;cases hr
 .have:0=m:=e;lia
theorem OJ.first(x:AI!)(es:al=a++.MJ s g n 1 tick S::b) : fi.length<m/\s∉Bc!/\(fi.length+1≠m->FO! H! (wp))/\(fi.length+1=m->Cg! Wg D N->∀g,FO! (x!++B1! 2) (wp)):=by
 have A:∀u,T! al u=BM! u:=λu=>by rw[es,Bz,Fs,Bz];rfl
 have B1:G! al 1=G! a 1++Ci!::G! b 1:=by rw[es,Bu,Eb];show Er! (j! 1=1);rw[AD Bj!];rfl
 have B2:G! al 2=G! H! 2:=by rw[es,Bu,Eb,Bu];show Er! (j! 1=2);rw[AB (λz=>I? z.2 BS!)];rfl
 have pm:By! H! 1 H! 1 (V! (wp).map):=by refine List.Perm.trans ?_ x.t1;rw[A,B1,Bu];simp only[ZF,AI,FO];generalize BM! 1=P;generalize A2! a 1=Q;generalize A2! b 1=R;generalize Bc!=T;(have h1:(FD!++(T++[s])).Perm (s::Dm!):=U! AQ (FH (l₂:=[s])));(have h2:(Dd!++T).Perm (s::Dm!):=by (have:(Dd!).Perm (s::(FD!)):=by rw[<-AQ,<-AQ];exact List.perm_middle);exact this.append_right T);exact h1.trans h2.symm
 have nd:KE (wp).map:=by have h1:=(pm.nodup_iff).mpr (yI m);exact(AK.mp h1).2.1
 have sn:s∉Bc!:=λz=>by rw[ZF] at nd;exact(AK.mp nd).2.2 s z s AU! rfl
 have lt:fi.length<m:=by have:=pm.length_eq;rw[ZE,ZE,ZA,ZA,J6,ZE] at this;have e:[(Ci!:FQ!)].length=1:=rfl;lia
 have z2:Ac! 2/\AY! 2/\se=[]:=by rcases x.t2 with⟨_,h⟩|⟨h,_⟩;(.exact h);.lia
 obtain⟨tM,tL,m6⟩:=z2;have f1:∀r∈wp,CB!:=λr hr=>by rcases SZ with h|h;(.exact x.f1 r h);.rw[ZK h];exact x.f2 _ (W! B1 (ZC _ sK))
 have f2:∀r∈G! H! 1,CB!:=v6 x.f2 (by rw[B1];rw[Bu] at hr;rcases SZ with h|h;(.exact ZB _ h);.exact ZC _ (ZD _ h));have ln:(wp).length=fi.length+1:=F? ZE
 refine⟨lt,sn,λne=>⟨pm,Os B! (U! A tM) (U! B2 tL) m6,f1,f2,λe=>B!⟩,λee wg g2=>?_⟩;have A1:T! Ef! 1=BM! 1:=by rw[Bz,Hi,AB (λz=>CS! z.2),AG]
 have A2:T! Ef! 2=rg m:=by rw[Bz,Hi,AD Bj!,<-A,tM];rfl
 have C:∀u,G! Ef! u=G! H! u:=λu=>by rw[Bu,Jo,AG]
 have C2:G! Ef! 2=[]:=by rw[C,<-B2,tL]
 have pf:((wp).map y!).Perm (rg m):=by have l:=pm.length_eq;rw[ZE,ZE,ZA,ZA,J6,ln] at l;have e1:T! H! 1=[]:=Dn!;have e2:G! H! 1=[]:=Dn!;have t:=pm;rw[e1,e2] at t;exact t
 refine⟨cr A1 C pm,h! B! (by rw[A2,C2,m6];simp),f1,Q! C f2,λ_ bb hs=>wg.snap λh q G eq bh=>?_⟩;have hh:h<m:=BE! wg.wl.len eq
 rcases CX! with⟨r,hr,_⟩|⟨r,hr,_⟩|⟨_,q2,G2,e2,e3⟩;.rw[m6] at hr;cases hr
 .rw[C2] at hr;cases hr
 .rw[eq] at e2;have eG:G=G2:=(Prod.mk.inj (ZO e2)).2;obtain⟨r,hr,er,et,e4⟩:=yB pf hh;rw[e4];exact((f1 r hr).tk h q G eq er).2 (by rw[<-et,<-e3,eG])
theorem OJ.second(x:AI!)(es:al=a++.MJ s g n 2 tick S::b) : Ax!/\se.length<m/\s∉Bd!/\OJ m qs ls H! n fi (se++[(s,tick)]):=by
 have A:∀u,T! al u=BM! u:=λu=>by rw[es,Bz,Fs,Bz];rfl
 have B2:G! al 2=G! a 2++Ci!::G! b 2:=by rw[es,Bu,Eb];show Er! (j! 2=2);rw[AD Bj!];rfl
 have B1:G! al 1=G! H! 1:=by rw[es,Bu,Eb,Bu];show Er! (j! 2=1);rw[AB (λz=>I? z.2 BS!)];rfl
 have t2:Ax!/\By! al 2 al 2 Bd!:=by rcases x.t2 with⟨_,_,h,_⟩|h;(.rw[B2] at h;simp at h);.exact h
 have pm:By! H! 2 H! 2 (V! (se++[(s,tick)]).map):=by refine List.Perm.trans ?_ t2.2;rw[A,B2,Bu];simp only[ZF,AI,FO];generalize BM! 2=P;generalize A2! a 2=Q;generalize A2! b 2=R;generalize Bd!=T;(have h1:(FD!++(T++[s])).Perm (s::Dm!):=U! AQ (FH (l₂:=[s])));(have h2:(Dd!++T).Perm (s::Dm!):=by (have:(Dd!).Perm (s::(FD!)):=by rw[<-AQ,<-AQ];exact List.perm_middle);exact this.append_right T);exact h1.trans h2.symm
 have nd:KE (se++[(s,tick)]).map:=by have h1:=(pm.nodup_iff).mpr (yI m);exact(AK.mp h1).2.1
 have sn:s∉Bd!:=λz=>by rw[ZF] at nd;exact(AK.mp nd).2.2 s z s AU! rfl
 have lt:se.length<m:=by have:=pm.length_eq;rw[ZE,ZE,ZA,ZA,J6,ZE] at this;have e:[((s,tick):Int×Int)].length=1:=rfl;lia
 refine⟨t2.1,lt,sn,⟨by rw[<-A,<-B1];exact x.t1,h! t2.1 pm,x.f1,U! B1 x.f2,λe bb hs=>x.s2 e bb DB!⟩⟩;rcases CX! with⟨r,hr,e1,e2⟩|⟨r,hr,e1,e2⟩|⟨h1,h2⟩;.rcases SZ with hr|hr;(.exact Os r hr e1 e2);.have er:=ZK hr;rw[er] at e1 e2;exact TD ⟨Ci!,Q! B2 (ZC _ sK),e1,e2⟩
 .refine TD ⟨r,?_,e1,e2⟩;rw[B2];rw[Bu] at hr;rcases SZ with h|h;(.exact ZB _ h);.exact ZC _ (ZD _ h)
 .exact o? ⟨Q! A h1,h2⟩
theorem OJ.done(x:AI!)(e:Ax!){c:Nat->Int}(hc:∀h,h<m->∃r∈se,AG!/\r.2=c h):ap (GS m (λh=>H? (Aj!=c h)) (Nh fi)) :=x.s2 e _ λh hh bh=>by obtain⟨r,hr,e1,e2⟩:=hc h hh;exact Os r hr e1 (by rw[e2];exact(BO bh).symm)
universe E
universe S
inductive Z0(C:Addr)(vs:g!)(H:Hp)(Q:VK)(E:XK):Prop
 | mk (p ta:Addr) (G:BX) (as:Z?) (ts:Q?) (_:CF! (o! ta)) (_:EW!) (_:V! G.holds.map=Ch!) (_:V? ta (.AZ (as.map V.ref))) (_:EC!) (_:Done C p G H e? (Q .E_))
theorem Jer(F:j? "lose" "House.lose" Q3)(T:Go):FB f fd Tk Z0:=by
 refine WP av;obtain⟨p,ta,G,as,ts,rfl,S,ke,et,th,k⟩:=h;refine Ev;have hu:=Cf hr;have lt:=Y? th;refine A1! (Ae (Ee PassesOwn.never rfl (Ih KM) (Bk (i:=2) av.nd rfl FL!) (Ae (Bf (D3 (Ka hu (pv 2) R!)) (Ad (A3 (Fy hu R! b? Cp!)) (Ae (A3 (Fy hu R! b? Cp!)))) A4))));refine Ed! ta (N? (y? et)) ?_;refine Lv (K:=K) (a:=ta) (xs:=as.map V.ref) (λi σ H2=>∃u2:Option V,σ=[Bs!,o0 ta,u2]/\NE H2 (Am G m?)/\Ao! H2) ⟨_,rfl,cr JP Qa S,λb o e _ _=>e⟩ (λi σ H2 _ h=>let⟨_,_,_,fr⟩:=h;CF.of (fr _ _ et (S.tup_ne et).1 (S.tup_ne et).2)) ?_ ?_;.rintro i x σ H2 hx ⟨u2,rfl,S2,JB⟩;rw[ZH] at hx;cases ea:as[i]? with | none=>rw[ea] at hx;cases hx | some a =>rw[ea] at hx;have hx:V.ref a=x:=ZO hx;subst hx;obtain⟨t,ht⟩:=Ec! ts ea;have ha:=Aw th i a t ea ht;have WL:=JB _ _ ha (S.tup_ne ha).1 (S.tup_ne ha).2;obtain⟨IY,GO⟩:=S2.ob;obtain⟨o,g,eo⟩:=Mo (k:=h?) (f:=v4) (.inl S2.dO) WL;have f1:=Fg (h?) G.AH ht;have f2:=Fg (BV!) G.holds ht;refine⟨_,rfl,_,rfl,p,C,IY,_,_,rfl,GO,T.cl,T.nO,De _,G.o,o,rfl,g,_,rfl,?_⟩;rw[eo];(have ks:V! (Am G m?).holds.map=V! (Am G m?).AH.map:=by show FB! G.holds.filter (Co! Dj!)=FB! G.AH.filter (Co! Dj!);rw[Dk (BV!) G.holds (Dh! Dj!),Dk (h?) G.AH (Dh! Dj!),ke]);by_cases h:P? (Am G m?).AH.map;(.rw[decide_eq_true h];obtain⟨v1,oZ⟩:=Gi (l:=(Am G m?).AH) (k:=λq=>q.1) (f:=v4) h;obtain⟨v2,oY⟩:=Gi (l:=(Am G m?).holds) (k:=λq=>q.1) (f:=λq=>FW!) (W! ks h);refine B7 ⟨_,rfl,p,C,IY,_,_,rfl,GO,T.cl,T.nO,De _,G.o,rfl,DI! (A! S2.dO),_,rfl,_,tk t,_,a,S2.dO,rfl,WL,oZ,?_⟩;rw[F4 (k:=h?) (f:=v4)];have S3:=S2.JY (r? J?);(have MQ:Ao! (upd H2 G.o (C7 (r? J?))):=w? (q? (λz=>h2 (by rw[z];simp[BI])) (CD! JB)));have iD:=MQ _ _ ha (S.tup_ne ha).1 (S.tup_ne ha).2;rw[show HO.dT ((r? J?).map EK!)=C7 (r? J?) from rfl];have S3:NE (upd H2 G.o (C7 (r? J?))) { Do! with AH:=r? J? }:=S3;generalize upd H2 G.o (C7 (r? J?))=H3 at S3 MQ iD;obtain⟨OH,PJ⟩:=S3.ob;refine⟨_,rfl,p,C,OH,_,_,rfl,PJ,T.cl,T.nL,Ei _,G.l,rfl,DI! (A! S3.dl),_,rfl,_,tk t,_,a,S3.dl,rfl,iD,oY,?_⟩;have e3:Dt (({ Do! with AH:=r? J? }:BX).holds.map λ(q:T2×Addr×List T2)=>Dr!) (tk t)=(DC! J?).map λ(q:T2×Addr×List T2)=>Dr! :=F4 (k:=BV!) (f:=λq=>FW!) _ t;rw[e3];have S4:=S3.SS (hl:=DC! J?) FA;(have eG:Am G (ts.take (i+1))={ Do! with AH:=r? (J?),holds:=DC! (J?) }:=by unfold Am;rw[f1,f2]);refine⟨_,rfl,Q! eG S4,w? ?_⟩;rw[Ab λz=>h2 (by rw[z];show G.l∈BI G;simp[BI])];exact CD! MQ);.rw[decide_eq_false h];have oA:∀q∈(Am G m?).AH,q.1≠t:=λq hq z=>h (AF.mpr (Az! z));have n_:∀q∈(Am G m?).holds,q.1≠t:=λq hq z=>h (U! ks (AC (Az! z)));(have eG:Am G (ts.take (i+1))=Do!:=by (have a1:r? (J?)=(Am G m?).AH:=EI.mpr (X! (Cr! (oA q hq))));(have a2:DC! (J?)=(Am G m?).holds:=EI.mpr (X! (Cr! (n_ q hq))));unfold Am at a1 a2 ⊢;rw[f1,f2,a1,a2]);exact By ⟨_,rfl,Q! eG S2,JB⟩
 .rintro σ H2 ⟨u2,rfl,S2,JB⟩;rw[ZA,lt,BP] at S2;exact k H2 S2 JB
inductive Yl(C:Addr)(vs:g!)(H:Hp)(Q:VK)(E:XK):Prop
 | mk (p ta:Addr) (G:BX) (n:Nat) (rs:J!) (ts:Q?) (as:Z?) (_:CF! (o! ta)) (_:EW!) (_:GM) (_:n<=62) (_:EH!) (_:EI!) (_:AN!) (_:Dy!) (_:V? ta (.AZ (as.map V.ref))) (_:EC!) (_:Bz!) (_:∀(x:Addr)(as:Z?)(H':Hp),(Et!)->L! H' x AT!->IP H' as (B4 e? rs)->NE H' (IM (HV e?))->Ao! H'->FF! x)
theorem Jko:i? Tk Tk mj:={}
theorem Jg1(F:j? "let" "House.let" mj)(T:Go)(Tx:mO mg)(ML:DG K C "lose" "House.lose" Q3 Tk fL dL)(MG:DG K C BQ! "House.give_back" V2 v! fG dG) : Bo! f fd Tk Yl:=by
 have GL:FB fL dL Tk Z0:=Jer ML.fn T;have GG:FB fG dG v! Ym:=zI MG.fn T Tx;refine WP Jko;obtain⟨p,ta,G,n,rs,ts,as,rfl,S,ok,zn,aJ,aH,pm,pw,et,th,WX,k⟩:=h;refine Ev;have hu:=Cf hr;obtain⟨dx,hp⟩:=S.ob;refine A1! (Ad (A3 (FG! k! T.cl ML.mt GL ML.bd DN!)) (Ad (Cq k! Ag D4) (Ae (Ay (Dr k! T.cl MG.mt GG hr MG.bd L? Bg)))));refine⟨_,rfl,p,dx,_,rfl,hp,XV,_,rfl,p,ta,G,as,ts,rfl,S,ok.ke,et,th,λH9 S9 pU=>?_⟩;obtain⟨VT,aL⟩:=S9.ob;refine⟨_,rfl,p,C,VT,_,_,rfl,aL,T.cl,T.nT,Cp _,_,_,rfl,rfl,VT,_,aL,D5 _,?_⟩;rw[Bi];have XE:=S9.fld VT (Am G ts).AU ((Am G ts).A_+1);have UA:Ao! (upd H9 p (Ae! (Cc { Am G ts with A_:=(Am G ts).A_+1 }))):=w? (q? h1 (CD! pU))
 have XE:NE (upd H9 p (Ae! (Cc { Am G ts with A_:=(Am G ts).A_+1 }))) (IM e?):=XE;generalize upd H9 p (Ae! (Cc { Am G ts with A_:=(Am G ts).A_+1 }))=cy at XE UA;obtain⟨d0,dk⟩:=XE.ob;refine⟨_,rfl,p,d0,_,rfl,dk,CL!,p,IM e?,n,rs,rfl,XE,WX.IM,zn,aJ,X! (Dc! aH),pm,pw,λx as ik hx ex ba qR dw=>?_⟩;have oW:Et!:=w? (Aj (CD! UA) hx);exact k x as ik oW ex ba qR (w? (dw _ _ (UA _ _ e h1 h2) h1 λz=>h2 (xa ts z)))
universe E
inductive NZ(H:Hp)(t:Addr)(k:Int)(kind:Str)(s g n u:Int):Prop
 | mk a (_:Bg! (.AZ [q! k,.str kind,q! s,q! g,o! a])) (_:V? a (.AZ [q! n,q! u]))
inductive RJ(H:Hp)(t:Addr)(k s g:Int)(ts:Q?):Prop
 | mk (a:Addr) (as:Z?) (_:Bg! (.AZ [q! k,.str "let",q! s,q! g,o! a])) (_:V? a (.AZ (as.map V.ref))) (_:EC!)
theorem NZ.keep(h:NZ H t k kind s g n u)(kt:As!):NZ H' t k kind s g n u:=let⟨a,e1,e2⟩:=h;⟨a,kt.AZ _ _ e1,kt.AZ _ _ e2⟩
theorem RJ.keep(h:RJ H t k s g ts)(kt:As!):RJ H' t k s g ts:=let⟨a,as,e1,e2,th⟩:=h;⟨a,as,kt.AZ _ _ e1,kt.AZ _ _ e2,AW.keep kt th⟩
structure LW(H:Hp)(c b n turn:Int)(L:DH!)(m:Nat):Prop where
 BL:V! L.map=(List.range m).map λ(i:Nat)=>c+1+C!
 NU:Paired (λ(y:Int×Addr)(i:Nat)=>NZ H y.2 y.1 "ask" b C! n turn) L (List.range m)
theorem LW.len(x:LW H c b n turn L m):L.length=m:=by have:=Y? x.NU;rw[BZ] at this;exact this
universe S
theorem xZ(x:AO CW CH CP H p W):AO CW CH CP (upd H W.en (.dK (kvsOf l))) p { W with EN:=l }/\GV p W H (upd H W.en (.dK (kvsOf l))):=by
 obtain⟨⟨a1,a2,a3,a4,a5,a6⟩,⟨b1,b2,b3,b4,b5⟩,⟨c1,c2,c3,c4⟩,⟨d1,d2,d3⟩,⟨g1,g2⟩⟩:=x.aq;have f:∀b o,A4! o->b≠W.en->f? H W.en (.dK (kvsOf l)) b o:=λb o e h=>Q! (Ab h) e
 refine⟨⟨let⟨dx,e⟩:=x.ob;⟨dx,UF f e g1⟩,UF f x.hs g2,X! ((x.ho q hq).keep λb o hb e=>f b o e ?_),x.po.keep (λo e=>f _ _ e a6) (λo e=>f _ _ e b5),f _ _ x.iq c4,f _ _ x.fi d3,Ac,x.nd⟩,Ce! (f b o e ?_)⟩;.rintro rfl;have h:=x.IG (b:=W.en) (E2!) hq;exact hb.elim h.1 h.2
 .rintro rfl;exact hb (ZB _ (E2!))
end
mutual
def Z:=#[D! a b,by rw[a];exact b,
o? a,λq hq=>a,
C!,.ref,
Y!,.int,
AO! a b,{ W with c:=a,ls:=b },
S?,W.ls++L,
H?,"self",
Cl!,"beginner",
A?,.str,
B?,"ask",
I!,.nil,
AB!,by simp,
A!,by lia,
No a b c,by rw[a,b];exact c,
BN! a b,by rw[a,b];lia,
p? a b,by rw[a,b];rfl,
Y? a b,by rw[<-a];exact b,
J!,(·.1),
q?,.cons,
Os,"answer",
a?,by decide,
AC a,by show a;lia,
r? a,λb o eb hb=>a,
Ct! a,show a from rfl,
Z! a,λb hb=>a,
K! a,λt ht=>a,
Dw! a,by rw[a];rfl,
ES! a,λq:T2×Int=>a,
CR!,(·.2.2),
T?,"states",
AF!,(·.key),
U? a b,by rw[a,b],
SL a,λk:Nat=>a,
u?,"many",
SZ,"second_ticks",
Db,"first_ticks",
CW! a,by rw[a];simp,
U!,e1++e2,
AS!,l1++l2,
z?,"pass",
BM!,"deliver",
A2!,by simpa using h,
Op,(·.n),
Cm!,G.A_<G'.A_,
Cn!,G.AU<=G'.AU,
j! a,λz hz=>a,
Z?,"hold",
AC!,"drop",
AD!,"take",
I?,a++b,
CO!,ta∈G.hand,
AE!,tb∈G.hand,
PP,G'.hand=G.hand,
CP!,λ_ h=>h,
AT,"more",
CQ! a,∀v W' al' H',a,
CS!,W'.qs=W.qs,
FC!,(·.toNat),
A8! a,λk hk=>a,
R! a,(a:Int),
J? a b c d,a b=some (c d),
B! a,.inl a,
G! a,(.inl a),
L! a,C! a,
K?,(pv 0),
k! a,V.ref a,
a! a,CF.of a,
M! a,decide (a),
S!,(pv 1),
N!,W.c+1,
d! a,V.int a,
g! a,a J!,
At a b c,Paired a b c,
s? a,(Av Aq a Ag),
t?,q.2.1,
E!,(pv 2),
C? a,Y! a,
Rs a b c d e,DH P w K mg base a b c d e,
H! a,.inr a,
O! a b,D! (Ab a) b,
SB a,⟨rfl,a⟩,
L? a,(Aa a Af),
P! a,some (C! a),
h! a,H a=none,
SC,s? S!,
A9!,k! t?,
Fn! a b,WI CW C CP CI K a p W D m b al ys,
w! a b,(D! a b),
AG!,L! p,
Q!,List T2,
F!,Fn! H n,
T!,(A!),
Ch,(Ao K? rfl),
V!,R! i,
BA! a b c d,At (JW K a b) c d,
Sc a b c d e,FE P w K mg base a b c d e,
TD,[H?,"letter"],
W!,List V,
CT! a b c d e f g,J? (upd a b (c d)) e f g,
X!,List (Int×Addr),
FD! a b c,J? a b .AZ (tv c),
FE! a,t∈g! a,
x!,(pv 3),
EQ a,⟨_,a,?_⟩,
v? a b c d e f,DG K CW a b c d e f,
BB! a,GV p W H a,
M? a b,Ah (o:=a) b,
Fb! a b c d e f,As (pl:=_) K? TW.cl a b c d I! e f,
BC!,(A7 _),
CU!,λq=>((B! q.1:Key),A9!),
i!,JX W h q G,
N?,C? h,
O? a b,(Aa a (Aa b Af)),
BD! a,QX W W' h.toNat G a,
Fc! a b,BA! H W.EN a b,
l! a b c,EU K a b c f fd,
Fd! a b c,(Ax (i:=a) b rfl (Or.inl rfl) c),
b? a b,⟨a,b,rfl⟩,
Tk a,[AG!,a],
T0,(A' _),
o! a,.inr (.inr a),
FF! a b c d e,Fb! a b c d Bp e,
AH!,W.EN++[(N!,e)],
q! a b c,An a b (Ak c),
v!,KT CW C CP CI p K W m n ys H Q R,
c? a b,GV.DL a b,
y!,n<60,
z!,R! k,
BE! a b c,J? H' a b c,
UF,(EH al),
d? a b c d e,Rs 1 a b c (d e),
AI! a,putK a (G! s) (Y! tick),
e? a,hR _ _ _ _ a,
w?,r.2.1,
D? a,(a J!).Nodup,
E?,j! ?_,
F?,(pv 4),
Ev a,R! (a:Nat),
G?,List LL,
BF! a,a b=some ob,
FG!,(Ct (GJ L)),
AJ!,(ZL ..),
AK! a,U' CW C CP CI NH DJ DY MI NW K p H Q E a,
P? a,Paired.length a,
Q?,[H?],
FB,q.2.2,
R?,SB (λD_ A outer s hr=>?_),
CV!,H b=some o,
FH! a,Q (C! a) H',
Fe! a c,∀b∈a,b∈c\/h! b,
FI!,(AC (G.A_<G.A_+1)),
FJ!,(AC (G.AU<=G.AU+1)),
FK! a,W.qs.set a (q,G'),
V?,(Am G ts),
BG!,SD++[(r.1,ha,r.2.2)],
W?,hr.mono (a?),
AL!,⟨rfl,rfl,rfl,rfl⟩,
X?,y.se++[(s,tick)],
FL!,(GJ (L.take i)),
BH! a,(λ_ _ _ _ _=>a),
FM!,found++[t],
f?,List Addr,
g?,List (T2×Int),
h? a,AO CW C CP H' p a,
i? a b,H! ⟨a,b⟩,
j? a,.inr (.inl a),
CX!,R! ys.length+1,
k?,W.c+(W.qs.length:Nat),
Ff!,W.c+(i:Nat),
BI!,Bv p W,
CY!,FE! hl.map,
CZ! a b c,J? H' a .BC (b c),
l?,Cf hr,
Fo!,⟨λ_ z=>(by cases z),λ_ _ z=>(by cases z)⟩,
m? a,F.JD a λvs H Q E h=>?_,
n?,FD! H b tb,
AM! a b,(a CW C CP b),
BJ! a b,a (AF.mpr b),
Ca!,R! h,
BK!,[H?,"h"],
x? a,AO CW C CP H2 p a,
BL! a,(Sum.inl a:Key),
Cb!,R! W.LD.length+1,
Cc! a,[H?,"h",a],
FN!,(Dc n f c),
FO! a,Fe! (BI a) (BI G),
FP! a b c d e,(a b (by rfl) c d (L? e)),
y?,AO CW C CP H p W,
FQ! a b c d,EQ (Ad (Ax (i:=a) b rfl (Or.inl rfl) c) d),
Cd!,q.2.2.2.1.take,
Ce! a,a (A!),
FM,B! h,
FR! a b c,(upd a b (.dK (kvsOf (c)))),
Cf!,a! et,
FS,ZN hz,
GE,Nat->Int,
FS!,⟨_,rfl⟩,
GM a b c d,Sc 5 a b c d,
UV,(putK I.fs (G! h) (Y! t)),
Cg! a,(K! (B! a)),
Ch!,Di (EH al'),
Go,R v W' al' H',
IN,W.JK++[(n,xf)],
IR,x.wg.BL i.2,
Ci! a b c d,a->b->c->d->FH! x,
Fg!,λy=>d! y.1,
Is a,(a CW C CP),
Fh! a,⟨_,rfl,x,_,_,_,rfl,rfl,a! ex,rfl,a⟩,
Ix,(hs,os,rs),
KB a,OI λo' e=>by rw[a] at e;cases e;exact Fo!,
Uf,[T?],
FT! a,Y? a hb,
FU! a b,by have:=a;rw[b] at this;exact this,
FV!,(GJ (L.take i)).flatMap,
WF a,¬kind=a,
WP,AS!++L,
XV a b,.inl (a b),
am,List Qy,
ap,List (Key×V),
be a,s3 _ _ a,
bi,Ff!+1,
Fi! a b c d,Rs a b c TD d,
bn,(q,G),
AN!,(putK I.cs (G! h) (Y! t)),
bv,Tk (L! t),
KE,Bh H H',
Cj! a,R! (putK a (G! s) (Y! tick)).length,
KF,Nq G G',
Ck! a b,(Bk (i:=a) b rfl (Or.inl rfl)),
KM,[H?,Cl!,"n","turn"],
NE,Fa K mg CW NH NI,
ca,(FM!),
ci a,FX.EO.TK a,
cr,q.2.AU,
db,i1++y'::i2,
ga,(pv 5),
ii a,some (Y! a),
jp,List α,
lc a b c,a _ _ (b _ _ c),
o0 a b,At R a b,
pi a,⟨_,rfl,a⟩,
re,Nat->Addr,
sB,Ab (Ne.symm bK),
sK,H' b=some o,
sw a,(ZJ a).1,
ut,BB! H1,
v4,BD! G',
v6,ZC _ AJ!,
wE a b c d,(Ad (Fd! a b c) d),
FW! a b,AK! (a b),
wP,DI 1 _,
wS,List (Int×Addr×HS),
FX!,(HF b o e hb),
wT,x.OM hn,
wp,Ok G n,
wv,Fc! l2 b,
ww,Fc! l1 a,
xL a b c d,CT! H a .dK b c .dK d,
xz a,(a CW C CP CI K),
FY!,(.dK (L.map CU!)),
AA!,(putK I.ss (G! h) v),
AP! a,(λb o e hb=>a),
AQ!,(BG!),
AR!,(CX!),
AT! a b,D! (Ab (Ne.symm a)) b,
AU! a,⟨a,?_⟩,
AV!,W.ls.length<=400,
AW! a,λq=>M! a,
AX! a,(Ne.symm a),
AY! a b,(a ⟨z,hz,b⟩),
AZ!,List Nat,
Aa!,List Int,
Ab!,C? n,
Ac!,Nat->HS,
Ad!,Bv p W',
Ae!,BB! H',
Af! a b c,J? a b .BC (c V.ref),
Ag! a b c d e,(Ad (Fd! a b c) (Ad d e)),
Ah!,BW H H',
Ai! a,(IV (IV a)),
Aj! a,M? (.BC []) a,
Ak!,FO! G',
Al!,(W.qs.set h.toNat (q,G')),
Fj! a b c,FQ! 2 a b c,
Am! a b,(B6 hu Ch a b rfl),
An!,Option V,
Ao!,λt=>M! CY!,
Ap!,Gg FG! r.1,
Aq! a,Fh! (IV (IV a)),
Ar!,FF C H p I,
As!,[H?,"h","a","b"],
At! a,(show R! 0<a by decide),
Au! a,MM K a hl,
Fk! a b,FP! Bm a b CJ Ch,
Av! a b,(λq=>a (EV.mpr b)),
Aw!,ls.map .w,
Ax! a b,¬((a:Str)=b),
Ay! a,(Ae (Ay a)),
Fl! a,CZ! a L.map Fg!,
Az! a,(a G ta tb),
A0!,rowsOf (GJ (L.take i)),
A1!,(Hx p d),
A3! a,K62F.FF CI a io I,
A4! a,(ne e (λ_ z=>by cases z) a),
A5!,(upd H5 d (.dK (L.map CU!))),
A6!,[H?,"kind","sender","goal","about"],
A7!,Txt K mg C DJ DY MI NW,
BO!,W.qs.length<=12,
BP! a,W.c+Ev a,
BQ!,W.ls++[(N!,t1)],
BR!,λe he=>?_,
BS!,b∉BI!,
BT! a b c,by have:=a;rw[b,c] at this;exact this,
BU!,λq:T2×Addr×List T2=>q.1,
BV!,{ W with EN:=U! },
BW!,λH1 S1 KY=>?_,
BX!,λs g ts hz=>?_,
BY!,ta.1=G.BL,
BZ! a b,by rw[a,b,AG],
Ba!,I?++new,
Bb!,List HS,
Bc!,List LT,
Bd! a,k.AZ _ _ a,
Be!,[H?,"n"],
Bf!,[H?,u?],
Bg! a,AO CW C CP H1 p a,
Bh! a b c d,Rs 2 a b c d,
Bi!,(Y! n),
Bj!,SB trivial,
Bk!,L? SC,
Bl!,P! d,
Bm!,Ab (Ne.symm fF),
Bn!,JX W g q G,
Bo! a b c d e,v? a b c TD d e,
Bp! a,⟨rfl,rfl,a,λ_ _=>rfl⟩,
Bq! a b,BE! a C7 b,
Br! a,(AE.mp a).2,
Bs! a b,J? H a .dK b,
Bt! a b,J? H a .AZ b,
Bu!,EH (I?),
Bv!,BH! (pv 0),
Bw!,(Z! (B! hb)),
Bx!,Cc! "tick",
By! a,PU CI K a m y,
Bz!,F3 W.qs,
B0! a b c,Fi! 3 a b c,
B1!,W.ls=l1++(BL,t)::l2,
B2!,i.at x.wa,
B3! a b,AF.mpr (b? a b),
B4! a,(.inr (.inl a)),
B5!,W.LD++[(Cb!,io)],
B6!,⟨AL!,trivial⟩,
B7! a b,(YW a b).toNat,
B8!,FD! H a ta,
B9!,(WN b o eb hb),
CA!,[H?,"h","tick","state"],
CB! a b,(B4 a rs).length<=b,
CC!,Led L t,
CD!,RG K mg C,
CE!,(λy h=>FX.MV FS! h),
CF!,(upd H' aa (.BC (IA.map V.ref))),
CG!,FR! H3 W.en AH!,
CH! a,B! ⟨rfl,_,DU.of a⟩,
CI!,λr=>M! (r.1=Ca!),
CJ! a,λb hb o eb=>a b o eb (off b hb),
FZ!,(iN (List.range n)),
CK! a,a G hs os rs,
CL!,EH al'=EH al,
CM! a b c d,(Dj (f:=a) (R:=JW K b c) d),
CN! a,x.wa.step i.2 (G':=a) S1 KY UQ,
Co! a,(λb o eb hb n1 n2 n3=>a),
Cp!,(λ_ _=>rfl),
Cq! a b,(O! a b),
Cr!,(λvs H Q E h=>?_),
Cs! a,(hR _ _ _ _ rfl a),
Cu! a c d,∀b o,CV!->a->c->d,
Cv! a,D! ew a,
Cw! a,⟨a?,a⟩,
Cx! a b,a FG! b,
Cy!,λy=>(y.n,y.io),
Cz! a,BN! ZA a,
C0!,(by cases hz),
C1!,λD_ A outer s H vs Q E hr h=>?_,
C2! a,AC (W.EN.length<=a),
C3! a,AC (W.JK.length<=a),
C4!,q.2.2.2.2.take,
C5! a,λr=>d! a,
C6! a,λr=>! M! (w?=a),
C7! a b,(by rw[a,b] at e;cases e),
C8! a,Cj! a=I.m,
C9!,kind=Z?,
DA!,λy hy=>?_,
DB! a,{ W with qs:=FK! a,c:=c,ls:=Ls },
DC!,G'.AU<=G.AU+1,
DD! a,{ W with qs:=FK! h.toNat,c:=c,ls:=a },
DE!,{ y.I with cs:=AI! y.I.cs },
DF! a,λ_ _ _ c=>e? a,
DG! a b,a (List.range b),
DH! a,decide_eq_false (a),
DI!,List (Addr×BX),
DJ!,List (T2×Int×Q!),
DK!,SB ?_,
DL!,SB rfl,
DM! a,w! e a,
DN! a,w! AG a,
DO! a b,w! a (Ce! b),
DP!,Ab (Ne.symm gn),
DQ!,λq=>(tk q.1,A9!),
DR! a,⟨_,DU.of a⟩,
DS! a b c d,Sc 3 a b c d,
DT! a b c d e f,CT! H2 a b c d e f,
DU! a b c d e f,CT! H1 a b c d e f,
DV! a b c d e,v? a b c BK! d e,
DW! a b,BE! x a b,
DX! a,λz=>a (FT! z),
DY!,al=a++z::b,
DZ!,List (Int×Int×HS),
Da!,(HF b o eb hb),
Fa!,(W.qs.set j (q,G')),
Db!,Cd! j,
Dc! a b c,FU! (DM.k (k:=B! a) b) c,
Dd!,AW H' as ts,
De! a,Ck! a RB.nd,
Df! a,(.inr (.inr (.inl a))),
Dg! a,(.inr (.inr (.inr a))),
Dh!,(List.range m).map,
Di!,c? x.wa HF,
Dj! a,(Ba hu Ch a),
Dk!,AM! Gq K,
Dl!,GJ (L.take (i+1)),
Dm! a,λb ob e n=>O! n a,
Fm!,(FV! CR!),
Dn!,NQ b o FX! hb,
Do! a b,Fj! a SC b,
Dp! a,Fk! a T.len,
Dq! a,[AG!,N?,a,L! b],
Dr! a,(Ae (Ay (pv a))),
Ds! a b,d? f fd a b C,
Dt!,Fl! x,
Du! a b c d,(Ee PassesOwn.never rfl (a b) c d),
Dv! a b c,NZ H t a b s g c u,
Dx!,p2.keep NT,
Dy! a c,∀b o,CV!->a->c,
Dz! a b,D! (Ab (a)) b,
D0!,(keepR G R),
D1!,ZC _ (ZD _ h),
D2!,(IV (Kj ?_)),
D3! a,JW K H W.EN (BL,t) a,
D4! a,⟨_,rfl,_,a,?_⟩,
D5! a b,Wg D m (n+1) W.share a b,
D6! a b c d e f,(As (pl:=_) a b c d HP e I! Bg f),
D7!,x.lt s g ts h,
D8! a b c,(⟨Z?,a,b,th,c⟩:LT),
D9!,e1++(k,e)::e2,
EA! a b c d e f g,k a b D c ys d e f g (GV.wi wf) rfl,
EB!,⟨_,rfl,p,IY,_,rfl,GO,Dp _ ZV,_,rfl,k⟩,
EC!,Ch!=Di (EH al),
ED!,(G.BL,G.AU),
EE!,ys=i1++y::i2,
EF!,["starts","holds"],
EG! a,{ W with c:=N!,ls:=a,EN:=AH! },
EH!,λt=>M! (t.1=V!),
EI! a c,λb o e=>O! (Aj e a) c,
EJ! a,∀v W' H',BD! a->R v W' al H',
EK!,(List.filter_sublist.map _).subset,
EL! a,(q? a I!),
EM! a b c,J? (F8 m sd fd cd).lookup (a:Str) b c,
EN!,[("holds",1)],
EO! a,(Sn K (Bx 1) a),
EP!,(rowsOf L).map,
EQ!,[H?,Cl!,"n"],
ER! a b c d e f g h i,(Ad (Bf (Az Ca E! A6 BC!) (Ae (Ay (FF! a b aK c d))) A4) (Ad (Bf (Az Ca E! A6 BC!) (Ae (Ay (FF! e f aK g h))) A4) i)),
ET! a b c,DM.t (k:=tk a) b c,
EU! a b c d,(Bf (Az Ca x! A6 BC!) (Ae (Ay (FF! a b c d (L? E!)))) A4),
EV!,SJ p W y.I H H2,
EW! a,λr=>(BL! r.1,d! a),
EX!,λr=>((Sum.inl (k r):Key),f r),
EY!,[d! G.A_,k! xs],
EZ!,FW! .deliver BL,
Ea!,∀t∈g! G'.AH.map,FE! G.AH.map\/0<=t.2,
Eb!,(K62F.KP m f c a S),
Ec!,(AS!).length<=400,
Ed! a,J? H' a .AZ (as.map V.ref),
Ee!,Au (xs:=W.qs) (j:=g.toNat) (by rw[x.wg.wl.len];lia),
Ef! a b,KO W.qs UF a b,
Eg! a b c,Ci (kvsOf a) (G! b)=P! c,
Eh!,tb∈Bn G.holds ta,
Ei!,{ y.I with ss:=putK y.I.ss (G! s) (C! xs),fs:=AI! y.I.fs },
Ej! a,(Dm K? a rfl),
Ek!,Dq _ _ ZV ZV,
El! a,⟨_,a,λ_ z=>(by cases z),λ_ z=>(by cases z),λ_ _ z=>(by cases z)⟩,
Em!,(upd H5 sl (.BC ((as++JV).map V.ref))),
En!,(Aa SC (O? SC SC)),
Eo!,Ve ey rfl rfl,
Ep! a,BJ! a ⟨q,hq,z⟩,
Eq!,H' d=some (.GF o FY!),
Er!,∀b ob,BF! H->b≠d->BF! H',
Es! a c,∀b,(a\/b=I.sd\/b=I.fd\/b=I.cd)->c,
Et!,M! (Jq y.fi h=cf h),
Eu!,∃a,kv=(Sum.inl r.1,k! a)/\RZ K H a r.2.2,
Ev! a,a ZV ZV ZV ZV,
Ew!,by rw[el,ZE,BF] at z3;rw[ZE];lia,
Ex!,y.fi++[(s,tick,S)],
Ey!,L8 K mg CP NL,
Ez! a b,⟨_,rfl,t,_,a,d! b,rfl,rfl,Cf!,rfl,?_⟩,
E0! a b c,Ci! a (K62F.FF CI H' io b) (SJ p W I H H') c,
E1! a,a p=some (.ins C dx (F8 I.m I.sd I.fd I.cd)),
E2! a b c d e f,Dr (pl:=_) a b c d e f I! Bg,
E3!,(fw b o eb hb n1 n2 n3),
E4!,x.SQ i W1 HF UQ FI! T0 FJ! (Cg! ht) g1 g2 k _ λ_ c=>hR _ _ _ c,
E5! a b,a x hn el es p1 p2 p3 k b,
E6! a b c d e f g h i j,⟨_,rfl,_,rfl,p,a,b,_,_,rfl,c,d,e,f,_,rfl,g,_,rfl,F_.k (k:=Sum.inl h) i j,?_⟩,
E7! a b,⟨p,BL,W,l1,l2,t,BL,a,g,b,_,rfl,x.wa,el,et,λH1 W1 HF=>?_⟩,
E8! a b d f g h,x.au (G':=a) i W1 HF b FI! T0 FJ! d wg st T! f k _ λ_ _ c e=>hR _ _ _ _ _ c rfl g (h),
E9!,⟨_,rfl,p,dx,_,rfl,hp,fl _ ZV,_,rfl,x,_,_,_,rfl,rfl,a! ex,rfl,k⟩,
FA! a b c d e f g h i j k l m n o p q,x.answer (new:=a) (D':=b) (y':=c) el es p1 p3 ey ee cu fr rfl rfl rfl (iV fr at2) d e (f) g h i (j) (k) l (m) n (o) p q,
FB!,⟨_,rfl,p,dx,_,rfl,hp,fl _ ZV,_,rfl,x,_,_,_,rfl,rfl,a! ex,rfl,_,rfl,x,_,_,_,rfl,rfl,a! ex,rfl,_,rfl,x,_,_,_,rfl,rfl,a! ex,rfl,k⟩]
theorem Jn9(x:AO CW CH CP H p W):AO CW CH CP (upd H W.fi (.dK (kvsOf l))) p { W with JK:=l }/\BB! (upd H W.fi (.dK (kvsOf l))):=by
 obtain⟨⟨a1,a2,a3,a4,a5,a6⟩,⟨b1,b2,b3,b4,b5⟩,⟨c1,c2,c3,c4⟩,⟨d1,d2,d3⟩,⟨g1,g2⟩⟩:=x.aq;have f:Dy! (b≠W.fi) ((upd H W.fi (.dK (kvsOf l))) b=some o):=λb o e h=>O! h e
 refine⟨⟨let⟨dx,e⟩:=x.ob;⟨dx,f _ _ e (AX! d1)⟩,f _ _ x.hs (AX! d2),o? ((x.ho q hq).keep λb o hb e=>f b o e ?_),x.po.keep (λo e=>f _ _ e a5) (λo e=>f _ _ e b4),f _ _ x.iq c3,Ac,f _ _ x.en (AX! d3),x.nd⟩,λb o e hb=>f b o e ?_⟩;.rintro rfl;have h:=x.IG (b:=W.fi) (by simp[Cm]) hq;exact hb.elim h.1 h.2
 .rintro rfl;exact hb (ZB _ (by simp[Cm]))
universe E
universe S
inductive Gq(CW C CP:Addr)(K:W.Frag)(vs:W!)(H:Hp)(Q:VK)(E:XK):Prop
 | mk (p:Addr) (b n turn:Int) (W:FK) (_:vs=[AG!,C? b,Ab!,C? turn]) (_:y?) (_:BO!) (_:AV!) (_:∀(l:Addr)(L:X!)(H':Hp),h? (AO! k? S?)->LW H' W.c b n turn L W.qs.length->Ae!->Fl! l->l≠W.hs->Vo p W H l->FH! l)
theorem Jb0:q! KM KM Ie:={}
theorem Yx(F:l! "ask_all" "World.ask_all" Ie)(T:A7!)(TW:NE)(TP:Ey!)(M3:DG K CP "put" "Post.put" K3 A6! f3 d3) : Bh! f fd KM Dk!:=by
 have G3:d? f3 d3 A6! Gd CP:=Jh M3.fn TP;refine m? Jb0;obtain⟨p,b,n,turn,W,rfl,S,z1,z2,k⟩:=h;refine R?;obtain⟨dx,hp⟩:=S.ob;refine EQ (Ae (Ay (En (te:=Qw CP "put" (Gd CP) [] E0 (EO! "post") (Dz (tC (A? B?)) (Dz (Bx 2) (Dz (Bx 0) (Dz (mQ (Dz (Bx 3) (Dz (Bx 4) Jz))) Jz))))) (caps:=[(H?,0),(Cl!,1),("n",2),("turn",3)]) rfl (Gx rfl T.range (L? (Dp! Bs))) rfl ZV rfl ZV rfl ⟨rfl,rfl,rfl,rfl,trivial⟩ (λy h=>Jm0 FS! FS! FS! FS! h) ⟨AL!,AL!,AL!,AL!,trivial⟩ ZV (λ_ _ _ _ _=>Jd) (BH! (As (pl:=_) (Ao S! rfl) TP.cl M3.mt G3 hr M3.bd I! Bg (Aa A6 (Aa E! (O? K? (Cj (O? x! F?))))))))));have e0:R! (W.qs.map λq=>k! q.1).length=W.qs.length:=AB!
 refine⟨_,rfl,p,CW,dx,_,_,rfl,hp,TW.cl,TW.nH,Du W,W.hs,_,rfl,XV DU.of S.hs,R! W.qs.length,(by rw[e0]),A!,A!,λr HZ=>?_⟩;rw[DT];have s0:=Aj! HZ;have S0:=S.same s0;have S0':AO CW C CP (upd H r (.BC [])) p (AO! (BP! 0) (W.ls++[])):=No (show BP! 0=W.c by simp) AG S0
 refine Ki (lo:=0) (n:=W.qs.length) (tt:=λ_ H Q=>Q true H) (te:=Qw CP "put" (Gd CP) [] E0 (EO! "post") (Dz (tC (A? B?)) (Dz (Bx 2) (Dz (Bx 0) (Dz (mQ (Dz (Bx 3) (Dz (Bx 4) Jz))) Jz))))) (caps:=[(H?,0),(Cl!,1),("n",2),("turn",3)]) (σ:=[P! p,ii b,ii n,ii turn]) (λi ys H2=>J? H2 r .BC ys/\ys.length=i/\∃L,ys=L.map (Fg!)/\x? (AO! Ff! S?)/\LW H2 W.c b n turn L i/\BB! H2) ⟨Ac,rfl,[],rfl,S0',SB I!,λb o e _=>s0 b o e⟩ (λi ys H2 _ h=>h.1) ?_ ?_;.rintro i ys H2 N hi ⟨er,ly,L,pZ,W2,l2,NQ⟩ hN;refine B7 ?_;have fB:r∉Bv p (AO! Ff! S?):=λm=>S.NN HZ m;obtain⟨IY,GO⟩:=W2.ob;obtain⟨OH,WJ⟩:=W2.po.ob;refine⟨_,rfl,p,CW,IY,_,_,rfl,GO,TW.cl,TW.nP,El _,W.po,OH,_,rfl,WJ,Ek!,_,rfl,_,rfl,_,rfl,_,rfl,(by show 2<=sizeLine;decide),λa ha=>?_⟩;have s3:=M? (.AZ [d! n,d! turn]) ha;have W3:=W2.same s3;refine⟨W.po,W.pd,_,_,_,_,_,_,rfl,W3.po,(BN! ZE l2.len),λt H4 ht et S4 VR=>?_⟩;obtain⟨W4,QK⟩:=W3.JF S4 VR;have QG:=HN s3;have LA:=c? W3 QK;have S_:J? H4 r .BC ys:=QK _ _ (s3 _ _ er) fB;refine⟨S_,Ce! Bb,hN _ _ ⟨Ac,p? ZE ly,L++[(bi,t)],p? pZ ZF,?_,?_,?_⟩⟩;(·(have e1:BP! (i+1)=bi:=A!);rw[e1,<-AQ];exact W4.keep λb o hb e=>Dz! (DX! fB) e);(·(have kq:BW H4 (upd H4 r (.BC (ys++[V.int (bi)]))):=KB S_);have kk:=(QG.trans LA).trans kq;refine AU! (by rw[ZF,l2.BL,EZ,ZF];congr 1;show [bi]=[N!+V!];congr 1;lia);rw[EZ];refine Fe ?_ (Ap (λ_ _ rr=>rr.keep kk) l2.NU);have ea:=LA.AZ _ _ (show DT! a .AZ [d! n,d! turn] a .AZ [d! n,d! turn] from Ac);(have e2:R! 0+V!=V!:=A!);rw[e2] at et;exact⟨a,kq.AZ _ _ et,kq.AZ _ _ ea⟩);.intro b' o' e' H_;(have iC:b'≠r:=λz=>by rw[z] at e';rw[HZ] at e';cases e');rw[Ab iC];exact QK b' o' (s3 _ _ (NQ b' o' e' H_)) H_
 .rintro ys H2 ⟨er,ly,L,pZ,W2,l2,NQ⟩;exact k r L H2 W2 l2 NQ (Y? pZ er) (λz=>by rw[z,S.hs] at HZ;cases HZ) λb o e _=>Aj e HZ
universe E
structure Tells(G:BX)(hs:Q!)(os:DJ!)(rs:g?):Prop where
 z1:G.hand.length<64
 z2:G.AH.length<64
 z3:G.AN.length<64
 pm:hs.Perm G.hand
 pw:hs.Pairwise IW
 QE:Rows G os
 pr:rs.Perm G.AN
 wr:(rs.map J!).Pairwise IW
theorem xX{K:W.Frag}{H:Hp}{x:Addr}{hs:Q!}{os:DJ!}{rs:g?}(h:j9 H x hs os rs):RZ K H x Ix:=by obtain⟨y1,y2,y3,as,bs,ds,e,e1,t1,e2,t2,⟨ob,e3,_⟩,t3⟩:=h;refine⟨y1,y2,y3,as,bs,ds.map V.ref,a! e,a! e1,t1,a! e2,Ap (λv r h9=>by obtain⟨a,t,hd,cs,e,e1,e2,e3,th⟩:=h9;exact⟨a,t,hd,cs,e,a! e1,e2,a! e3,th⟩) t2,XV .inr ⟨ob,e3⟩,?_⟩;clear e e1 t1 e2 t2 e3;induction t3 with | nil=>exact I! | cons r _ ih =>obtain⟨ka,e1,e2⟩:=r;exact q? ⟨_,ka,rfl,a! e1,e2⟩ ih
universe S
inductive Fv(CW C CP:Addr)(K:W.Frag)(vs:W!)(H:Hp)(Q:VK)(E:XK):Prop
 | mk (p t:Addr) (W:FK) (k s g n u:Int) (q:Addr) (G:BX) (hs:Q!) (os:DJ!) (rs:g?) (_:vs=bv) (_:y?) (_:Dv! k B? n) (_:Bn!) (_:CK! Tells) (_:AV!) (_:W.EN.length<=400) (_:(∀e∈W.EN,e.1≠N!)) (_:∀(x t1 e xs:Addr)(H':Hp),h? (EG! BQ!)->NZ H' t1 (N!) Os g s n u->BE! e .AZ [C? G.A_,L! xs]->RZ K H' xs Ix->Ci! Ae! (DW! .BC [Y! (N!)]) (x≠W.hs) (Vo p W H x))
theorem VB:q! [H?,"letter","asked","house","number"] TD Iz:={}
theorem Wn(F:l! "ask_came" "World.ask_came" Iz)(T:A7!)(TW:NE)(TP:Ey!)(M1:DG K C "tick" "House.tick" Z6 Q? f1 d1)(M2:DG K C "state" "House.state" Oq Q? f2 d2)(G2:Bh! f2 d2 Q? (Ku C K))(M3:DG K CP "put" "Post.put" K3 A6! f3 d3):B0! f fd (AM! Fv K):=by
 have G1:d? f1 d1 Q? Yi C:=zJ M1.fn T;have G3:d? f3 d3 A6! Gd CP:=Jh M3.fn TP;refine F.ok VB Cr! (C1!);.obtain⟨p,t,W,k,s,g,n,u,q,G,hs,os,rs,rfl,_⟩:=h;rfl
 .obtain⟨p,t,W,k,s,g,n,u,q,G,hs,os,rs,rfl,S,⟨a,et,ea⟩,i,tl,z1,z2,ne,kk⟩:=h;have hu:=l?;have HP:wP:=W?;obtain⟨dx,hp⟩:=S.ob;refine Do! VB.nd (wE 3 VB.nd (Av C4 Ch E!) (Ag! 4 VB.nd (D6! Ch TP.cl M3.mt G3 M3.bd (Aa A6 (Aa E! (O? SC SC)))) (Am! F? (Cj (O? (E2! x! T.cl M1.mt G1 HP M1.bd) (E2! x! T.cl M2.mt G2 hr M2.bd)))) (Ae (Ay (Es (L? F?))))));refine Ez! 3 g;refine⟨_,rfl,p,CW,dx,_,_,rfl,hp,TW.cl,TW.nH,Du W,_,rfl,W.hs,_,_,k! q,rfl,rfl,DU.of S.hs,i.QI,?_⟩;obtain⟨XD,cU⟩:=S.po.ob;refine⟨_,rfl,p,CW,dx,_,_,rfl,hp,TW.cl,TW.nP,El _,W.po,XD,_,rfl,cU,Ek!,_,rfl,_,rfl,t,_,2,d! s,rfl,rfl,Cf!,rfl,_,rfl,t,_,4,k! a,rfl,rfl,Cf!,rfl,?_⟩;refine⟨W.po,W.pd,W.c,W.ls,_,_,_,_,rfl,S.po,A!,λt1 H1 ht1 pq S1 KY=>?_⟩;obtain⟨W1,HF⟩:=S.JF S1 KY;have NT:=c? S HF;have HA:=i.at (W:=AO! N! BQ!) W1;obtain⟨aX,lR⟩:=HA.ob;refine⟨_,rfl,q,aX,_,rfl,lR,Cd G ZV,q,G,rfl,HA,?_⟩;refine⟨_,rfl,q,aX,_,rfl,lR,Cd G ZV,q,G,hs,os,rs,rfl,HA,tl.z1,tl.z2,tl.z3,tl.pm,tl.pw,tl.QE,tl.pr,tl.wr,λxs H2 s2 sx=>?_⟩;refine⟨(show 2<=sizeLine by decide),BR!⟩;have s3:=M? (.AZ EY!) he;have ee:DT! e .AZ EY! e .AZ EY!:=Ac;generalize upd H2 e (.AZ EY!)=H3 at s3 ee;have nZ:=Al s2 s3;have W3:=W1.same nZ;obtain⟨TC,WK⟩:=W3.ob;refine⟨_,rfl,p,CW,TC,_,_,rfl,WK,TW.cl,TW.nE,yj _,_,rfl,W.en,_,rfl,F_.k (k:=Sum.inl (N!)) W3.en (w! Lm (Bb (C2! _))),?_⟩;have ek:putK (kvsOf W.EN) (Sum.inl (N!):Key) (V.ref e)=kvsOf (AH!):=U1 ne;show _;rw[show putK (kvsOf (AO! N! BQ!:FK).EN) (Sum.inl (N!):Key) (V.ref e)=kvsOf (AH!) from ek];obtain⟨W4,QK⟩:=xZ W3 (l:=AH!);have LA:=c? W3 QK;have WN:BB! CG!:=r? (QK b o (nZ _ _ Da!) hb);have ka:BW H CG!:=c? S WN;have wb:BW H1 CG!:=(HN nZ).trans LA;have W4:AO CW C CP CG! p (EG! BQ!):=W4;show _;generalize CG!=H4 at W4 LA WN ka wb;refine⟨_,rfl,(show 1<=sizeLine by decide),λx hx=>?_⟩;have s5:=M? (.BC [V.int (N!)]) hx;have k5:=HN s5;refine kk x t1 e xs _ (W4.same s5) ⟨a,lc k5.AZ wb.AZ pq,lc k5.AZ ka.AZ ea⟩ (k5.AZ _ _ (LA.AZ _ _ ee)) (((((xX sx:RZ K H2 xs Ix).keep (HN s3)).keep LA).keep k5)) (r? (s5 _ _ B9!)) Ac (λz=>?_) (r? (Aj B9! hx));have:=W4.hs;rw[Ct! ((EG! BQ!:FK).hs=W.hs),<-z,hx] at this;cases this
theorem P5:∀b∈BI (IM (HV V?)),b∈BI G:=Z! (xa ts hb)
inductive Fu(CW C CP:Addr)(vs:W!)(H:Hp)(Q:VK)(E:XK):Prop
 | mk (p t:Addr) (W:FK) (k s g:Int) (ts:Q!) (q:Addr) (G:BX) (n:Nat) (rs:g?) (_:vs=bv) (_:y?) (_:RJ H t k s g ts) (_:Bn!) (_:wp) (_:n<=62) (_:(∀t∈G.hand,TU t)) (_:(∀q∈G.holds,∀t∈FB,TU t)) (_:rs.Perm G.AN) (_:(rs.map J!).Pairwise IW) (_:Ok V? n) (_:CB! V? 60) (_:AV!) (_:∀(x:Addr)(L:X!)(H':Hp),h? { W with qs:=W.qs.set g.toNat (q,IM (HV V?)),c:=W.c+((B4 V? rs).length:Nat),ls:=S? }->mR H' W.c g L (B4 V? rs)->Ci! Ae! (x≠W.hs) (Vo p W H x) Dt!)
theorem bp:q! [H?,"letter","h"] TD Iw:={}
theorem Wk(F:l! "let_came" "World.let_came" Iw)(T:A7!)(TW:NE)(M1:DG K C "let" "House.let" mj [H?,"things"] f1 d1)(G1:Rs 2 f1 d1 [H?,"things"] (Yl C))(M2:v? "give_back" "World.give_back" Oo (Cc! "records") f2 d2)(G2:Bh! f2 d2 (Cc! "records") (Is Nw)):B0! f fd (Is Fu):=by
 refine F.ok bp Cr! (C1!);.obtain⟨p,t,W,k,s,g,ts,q,G,n,rs,rfl,_⟩:=h;rfl
 .obtain⟨p,t,W,k,s,g,ts,q,G,n,rs,rfl,S,⟨a,cq,et,ea,th⟩,i,ok,zn,aJ,aH,pm,pw,WX,zb,zl,kk⟩:=h;obtain⟨dx,hp⟩:=S.ob;obtain⟨E',hq⟩:=(i.at S).ob;refine Do! bp.nd (Ae (Ay (Fb! M2.mt G2 hr M2.bd Bg (O? E! (As (pl:=_) (Av C4 Ch E!) T.cl M1.mt G1 hr M1.bd I! Bg Bk!)))));refine Ez! 3 g;refine⟨_,rfl,p,dx,_,rfl,hp,Dp W ZV,_,rfl,_,rfl,p,CW,dx,_,_,rfl,hp,TW.cl,TW.nH,Du W,_,rfl,W.hs,_,_,k! q,rfl,rfl,DU.of S.hs,i.QI,q,E',_,rfl,hq,Cd G ZV,_,rfl,t,_,4,k! a,rfl,rfl,Cf!,rfl,q,a,G,n,rs,ts,cq,rfl,i.at S,ok,zn,aJ,aH,pm,pw,ea,th,WX,λx as H1 nx ex bk S1 KY=>?_⟩;obtain⟨W1,HF⟩:=S.step i.2 S1 KY (Z! (B! (P5 b hb)));have cS:=S.IG (b:=W.hs) (by simp[Cm]) (ZP i.2);have cA:x≠W.hs:=λz=>nx _ _ S.hs cS.1 cS.2 z.symm;(have sub:∀b,BS!->b∉Bv p { W with qs:=W.qs.set g.toNat (q,IM (HV V?)) }:=λb hb m=>by rcases ZI m with m|m;(.exact hb (ZB _ m));.obtain⟨z,hz,hm⟩:=CU.mp m;have hz:z∈W.qs.set g.toNat (q,IM (HV V?)):=hz;rcases NB hz with hz|rfl;(.exact hb (ZC _ (AY! CU.mpr hm)));.refine hb (ZC _ (CU.mpr ⟨bn,ZP i.2,?_⟩));exact hm.imp id λz=>P5 b z);refine⟨p,x,g,_,as,_,rfl,W1,ex,W1.RK ex cA,bk,zb,zl,λy L H2 W2 b2 NQ b_ bz ey=>?_⟩;exact kk y L H2 W2 b2 (AP! (NQ b o FX! (sub b hb))) b_ (AP! (bz b o FX! (sub b hb))) ey
universe E
universe E K62
universe N K62F
open PySem L2 FX K62
theorem Eu(h:n<=20000):n<sizeLine:=I_ h (a?)
structure j8(mg:Str->Option Value):Prop where
 tuple:mg "tuple"=none
 sorted:mg "sorted"=none
structure bx(K:W.Frag)(H:Hp)(d:Addr)(L:wS):Prop where
 ob:J? H d .dK (L.map λq=>(B! q.1,L! t?))
 st:∀q∈L,RZ K H t? FB
universe S
theorem Fn(hd:J? H d A8 l)(ht:FD! H t th):DM H d (C! t) (if th∈l then some (V.bl true) else none):=FU! (ET! th hd ht) Gj
theorem T9(hd:J? H d C1 l)(ht:FD! H t th)(f:l.find? (AW! (q.1=th))=some q):DM H d (C! t) (some (C! t?)):=BT! (ET! th hd ht) (Dl (k:=BU!) (f:=λq=>A9!)) f
def MM(K:W.Frag)(H:Hp)(hl:HL):Prop:=∀q∈hl,∃cs:f?,CF K H t? (cs.map V.ref)/\AW H cs FB
theorem MM.keep(k:Ah!)(h:Au! H):Au! H':=o? (let⟨cs,e,th⟩:=h q hq;⟨cs,k.sq e,AW.keep k th⟩)
inductive Gr(K:W.Frag)(vs:W!)(H:Hp)(Q:VK)(E:XK):Prop
 | mk (sa l:Addr) (as:f?) (ts:Q!) (hl:HL) (n:Nat) (R:Q!) (_:vs=[L! sa,L! l]) (_:Af! H sa as.map) (_:AW H as ts) (_:ts.length<=900) (_:J? H l C1 hl) (_:hl.length<=900) (_:Au! H) (_:(∀q∈hl,q.2.2.length<=900)) (_:LR (OV hl) n (ts.filter Ao!) [] R) (_:n<=6000) (_:∀(x:Addr)(H':Hp),h! x->KE->DW! A8 R->FH! x)
theorem Z':q! ["starts","holds","found","thing","ahead"] EF! Fw:={}
theorem Kb(F:l! "reached" "reached" Fw):d? f fd EF! Gr K:=by
 refine m? Z';obtain⟨sa,l,as,ts,hl,n,R,rfl,es,th,zt,el,zl,hq,hz,nv,zn,k⟩:=h;refine R?;have hu:=l?;refine Fj! Z'.nd Ds (Ad (Je (te:=Bx 0) (i:=4) (caps:=EN!) Z'.nd rfl rfl rfl rfl (Do (pv 0)) rfl ZV rfl ZV rfl Bj! CE! B6! ZV (BH! (D7 (D3 (Ka hu K? S!)))) Bv!) (Ad (Ow PassesOwn.never (Wc F? (λ_=>rfl)) (wE 3 Z'.nd (J9 BB QC QB Y1 F?) (Ae (Bf (D3 (Dv hu x! E!)) (Ad (B6 hu E! x! Fz rfl) (Ae (A3 (E6 BB GB GA Ji F? (L? (En (te:=Bx 0) (caps:=EN!) rfl (Ih (Ba hu S! x!)) rfl ZV rfl ZV rfl Bj! CE! B6! ZV (BH! (D7 (D3 (Ka hu K? S!)))) Bv!)))))) A4)))) (Dr! 2)));intro fa UT;have s1:=M? (.dT []) UT;have e1:CT! H fa .dT [] fa A8 []:=Ac;generalize upd H fa (.dT [])=H1 at s1 e1;have gU:AW H1 as ts:=AW.keep (HN s1) th;refine⟨_,rfl,sa,rfl,DR! (s1 _ _ es),λaa XA=>?_⟩;refine Jn (b:=Ao!) (caps:=EN!) XA T! (s1 _ _ es) gU (λH2 a t Q' sm ha ht q=>?_) λH2 bs sm ea tb=>?_;.obtain⟨o,g,eo⟩:=Mo (k:=BU!) (f:=λq=>A9!) (G! (sm _ _ (s1 _ _ el))) ha;refine⟨_,rfl,_,rfl,l,o,rfl,g,?_⟩;rw[eo];exact pi q
 have cM:h! aa:=by cases c:H aa with | none=>rfl | some o=>rw[s1 _ _ c] at XA;cases XA
 have cL:fa≠aa:=λz=>by rw[<-z,e1] at XA;cases XA
 refine⟨λm σ H'=>∃(ahead found:Q!)(IB:f?)(u3:An!),σ=[P! sa,P! l,P! fa,u3,P! aa]/\KE/\BE! fa A8 found/\CZ! aa IB.map V.ref/\AW H' IB ahead/\LR (OV hl) m ahead found R/\found.length+m<=6000/\∀t∈ahead,CY!,⟨n,_,[],bs,_,rfl,Al s1 sm,sm _ _ e1,ea,tb,nv,by simpa using zn,K! (by have:=Br! ht;simpa using this)⟩,?_⟩;rintro m σ H' ⟨ahead,found,IB,u3,rfl,sh,ef,QH,R_,rc,zm,hk⟩;refine D4! (B! ⟨_,DU.of QH,rfl⟩);cases m with | zero =>obtain⟨e0,eR⟩:=rc;rw[e0] at R_;have e2:IB=[]:=CA.mp (Paired.length R_);rw[e2];refine By (pi (k fa H' UT sh ?_));rw[eR];exact ef | succ m =>have kW:=rc.len;obtain⟨a,t,aW,rc⟩:=rc;rw[aW] at R_ kW;obtain⟨IA,c,e2,gR,ec⟩:=Ob R_;subst e2;(have em:(IA++[c]).map V.ref=IA.map V.ref++[k! c]:=Dw! ZF);rw[em] at QH ⊢;rw[show(!(IA.map V.ref++[k! c]).isEmpty)=true by cases IA<;>rfl];refine B7 (EQ (λER H' h=>⟨m,II m,h⟩));refine⟨_,rfl,CH! QH,aa,_,_,rfl,rfl,QH,U0 _ _,?_⟩;rw[show(IA.map V.ref++[k! c]).dropLast=IA.map V.ref by simp];(have s3:Bh H CF!:=EI! cM (sh _ _ e));(have QG:BW H' CF!:=KB QH);(have QN:J? CF! fa A8 found:=O! cL ef);have XC:Af! CF! aa IA.map:=Ac;have PM:AW CF! IA a:=AW.keep QG gR;have UX:=QG.AZ _ _ ec;generalize upd H' aa (.BC (IA.map V.ref))=H3 at s3 QG QN XC PM UX;refine⟨_,rfl,_,rfl,fa,_,rfl,Fn QN UX,_,rfl,?_⟩;rcases rc with⟨hf,rc⟩|⟨hf,rc⟩;(.rw[AD hf];exact By ⟨a,found,IA,_,rfl,s3,QN,XC,PM,rc,A!,λu hu=>hk u (w! aW (ZB _ hu))⟩);.rw[AB hf];refine B7 ⟨_,rfl,_,rfl,fa,_,rfl,F_.t (k:=tk t) QN UX (DO! ZA Eu),?_⟩;rw[Et,show Bj found t=FM! by unfold Bj;rw[AB hf]];(have s4:Bh H (upd H3 fa (A8 ca)):=EI! UT (be e));(have LA:BW H3 (upd H3 fa (A8 ca)):=KB QN);have TB:CT! H3 fa A8 ca fa A8 ca:=Ac;(have SF:Af! (upd H3 fa (A8 ca)) aa IA.map:=O! cL.symm XC);have PL:AW (upd H3 fa (A8 ca)) IA a:=AW.keep LA PM;have bY:=LA.AZ _ _ UX;rw[show HO.dT ((FM!).map λq=>(tk q,V.bl true))=A8 (FM!) from rfl];generalize upd H3 fa (A8 ca)=H4 at s4 LA TB SF PL bY;have nB:CY!:=hk t (w! aW (ZC _ (AB!)));obtain⟨ad,aV⟩:=N5 nB;have mq:=AJ aV;obtain⟨cs,q1,q2⟩:=hq _ mq;have q1:CF K H ad (cs.map V.ref):=q1;have q2:AW H cs (Bn hl t):=q2;have q3:(Bn hl t).length<=900:=hz _ mq;refine⟨_,rfl,CH! SF,_,rfl,_,rfl,l,_,rfl,T9 (s4 _ _ el) bY aV,ad,rfl,⟨_,(HN s4).sq q1⟩,λpl QM=>?_⟩;refine Xw (K:=K) (b:=λu=>M! (u∈g! hl.map)) (caps:=EN!) QM T! ((HN s4).sq q1) (AW.keep (HN s4) q2) (λH2 a' u Q' nK ha hu' q=>?_) λH6 aZ s6 l6 TL=>?_;(.obtain⟨o,g,eo⟩:=Mo (k:=BU!) (f:=λq=>A9!) (G! (nK l (C1 hl) (s4 _ _ el))) ha;refine⟨_,rfl,_,rfl,l,o,rfl,g,?_⟩;rw[eo];exact pi q);.have TL:AW H6 aZ (OV hl t):=TL;have zz:=rc.len;rw[ZE] at zz;have l1:=P? PL;have l2:=P? TL;refine⟨aa,pl,_,_,rfl,rfl,s6 _ _ SF,l6,EF (Eu (Cz! ZA)),?_⟩;rw[<-ZF];(have RV:BW H6 (upd H6 aa (.BC ((IA++aZ).map V.ref))):=KB (s6 _ _ SF));refine⟨a++OV hl t,FM!,IA++aZ,_,rfl,λb o e=>?_,?_,Ac,AW.keep RV (Hj (AW.keep (HN s6) PL) TL),rc,?_,λu hu=>?_⟩;(.rw[Ab (Aj e cM)];exact lc s6 s4 e);(.rw[Ab cL];exact s6 _ _ TB);(.rw[ZE];show found.length+1+m<=6000;lia);.rcases ZI hu with hu|hu;(.exact hk u (w! aW (ZB _ hu)));.have:=Br! hu;simpa using this
universe E
theorem Xp(a:g?)(t:T2):((Ci (a.map λq=>(tk q.1,d! q.2)) (tk t)).getD (Y! 0))=Y! (Gg a t):=by rw[Dl (k:=ES! q.1) (f:=λq=>d! q.2)];unfold Gg;cases a.find? (AW! (q.1=t)) with | none=>rfl | some r=>rfl
theorem Jft(a:g?)(q:T2×Int):(addW a q).length<=a.length+1:=by have lp:=Ff (a.map λq=>(tk q.1,d! q.2)) (tk q.1) (Y! (Gg a q.1+q.2));rw[Ey,ZA,ZA] at lp;exact lp
theorem Rt:∀(l a:g?),(l.foldl addW a).length<=a.length+l.length
 | [],a=>ZG _
 | q::l,a=>by have h1:=Rt l (addW a q);have h2:=Jft a q;show(l.foldl addW (addW a q)).length<=_;simp only[BF];lia
abbrev GJ(L:wS):Bb!:=L.map CR!
theorem xY{K:W.Frag}{H:Hp}{d:Addr}{L:wS}{i:Nat}{k:Key}{v:V}(h:(L.map CU!)[i]?=some (k,v)):∃q,L[i]?=some q/\v=L! t?:=by rw[ZH] at h;cases e:L[i]? with | none=>rw[e] at h;cases h | some q =>rw[e] at h;have h:((B! q.1:Key),A9!)=(k,v):=ZO h;exact⟨q,rfl,(Prod.mk.inj h).2.symm⟩
universe S
theorem XQ:q! [T?,"weights","state","thing","weight"] Uf Ja:={}
inductive Og(K:W.Frag)(vs:W!)(H:Hp)(Q:VK)(E:XK):Prop
 | mk (d:Addr) (L:wS) (_:vs=[L! d]) (_:bx K H d L) (_:((GJ L).flatMap CR!).length<=1200) (_:∀(r:Addr)(H':Hp),h! r->KE->Bq! r FG!->FH! r)
theorem Wo{f:Addr}{fd:FuncData}(F:l! "recorded" "recorded" Ja):d? f fd Uf Og K:=by
 refine m? XQ;obtain⟨d,L,rfl,S,zl,k⟩:=h;refine R?;have hu:=l?;refine FQ! 1 XQ.nd Ds (Ad (Du! Q5 (J9 CZ IT NP Ml K?) (Ck! 2 XQ.nd) (Ae (Du! Ih (s? E!) (J8 rfl (Ce (Ck! 3 XQ.nd) (Ce (Ck! 4 XQ.nd) Hr))) (Ae (B6 hu S! x! (Bl Hs (Oz hu S! x! Ag AL!) F?) rfl))))) (OY.TX (Ae (Ay (pv 1)))));intro r TM;have s1:=M? (.dT []) TM;have e1:CT! H r .dT [] r C7 []:=Ac;generalize upd H r (.dT [])=H1 at s1 e1;have qC:=s1 _ _ S.ob;refine⟨_,rfl,o! (G! (SB (B! ⟨_,qC⟩))),d,_,rfl,rfl,qC,λp hp=>?_⟩;have s2:=M? (Hx p d) hp;have e2:(upd H1 p A1!) p=some A1!:=Ac;generalize upd H1 p A1!=H2 at s2 e2;have wq:=s2 _ _ qC;have fy:=s2 _ _ e1;have YV:r≠d:=λz=>by rw[z,S.ob] at TM;cases TM
 refine⟨p,d,_,rfl,e2,wq,λo=>?_⟩;have kd:∀{H':Hp} {u:HO},J? H' d .dK (L.map CU!)->BW H' (upd H' d u):=λ{H'} {u} e=>OI λo' e'=>by rw[e] at e';cases e';exact Fo!
 refine P2 (d:=d) (ob:=o) (λi σ H'=>∃(u2 u3 u4:An!),σ=[Bl!,P! r,u2,u3,u4]/\Eq!/\Bq! r (((GJ (L.take i)).flatMap (·.2.2)).foldl addW [])/\BW H2 H'/\Er!) ⟨_,_,_,rfl,Ac,O! YV fy,kd wq,Dm! (lc s2 s1 e)⟩ (λi σ H' _ h9=>by obtain⟨_,_,_,_,e,_⟩:=h9;exact e) ?_ ?_;.rintro i kk v σ H3 hi ⟨u2,u3,u4,rfl,ef,er,kt,fr⟩;obtain⟨q,eq,rfl⟩:=xY (K:=K) (H:=H) (d:=d) hi;have mq:=ZP eq;have SE:=sw eq;have bF:=((S.st q mq).keep ((HN s1).trans (HN s2))).keep kt;obtain⟨y1,y2,y3,as,bs,ds,f0,f1,t1,f2,t2,f3,t3⟩:=bF;refine⟨_,rfl,t?,_,2,k! y3,rfl,rfl,f0,rfl,y3,rfl,⟨_,f3⟩,?_⟩;(have IM:L.take (i+1)=L.take i++[q]:=p? DS eq);(have lT:((GJ (L.take i)).flatMap (·.2.2)).length+q.2.2.2.2.length<=1200:=by (have e5:GJ L=Dl!++GJ (L.drop (i+1)):=by rw[<-ZF,EK]);rw[e5,BV,ZE,IM] at zl;rw[show GJ (L.take i++[q])=GJ (L.take i)++[FB] by unfold GJ;rw[ZF];rfl,BV,ZE] at zl;simp only[B_,GZ,AG] at zl;lia);refine Lv (K:=K) (a:=y3) (xs:=ds) (λj σ H'=>∃(w3 w4:An!),σ=[Bl!,P! r,P! t?,w3,w4]/\Eq!/\Bq! r ((Fm!++C4! j).foldl addW [])/\BW H2 H'/\BW H3 H'/\Er!) ⟨_,_,rfl,ef,No JP AG er,kt,BW.refl _,fr⟩ (λj σ H' _ h9=>by obtain⟨_,_,_,_,_,_,k3,_⟩:=h9;exact k3.sq f3) ?_ ?_;(.rintro j v σ H4 hj ⟨w3,w4,rfl,TB,S_,LA,oO,VR⟩;obtain⟨x,ex⟩:=Au (xs:=q.2.2.2.2) (j:=j) (by rw[<-P? t3];exact sw hj);obtain⟨a,t,rfl,g1,g2⟩:=(Aw t3 j v x hj ex).keep oO;have aO:=sw ex;refine⟨a,_,rfl,g1,rfl,_,_,rfl,_,_,rfl,rfl,?_⟩;refine⟨_,rfl,r,rfl,H! ⟨_,B! S_⟩,_,rfl,_,ET! x.1 S_ g2,_,rfl,_,x.2,Xp _ _,rfl,_,rfl,_,rfl,r,_,rfl,F_.t (k:=tk x.1) S_ g2 (by rw[ZA];have:=Rt (Fm!++C4! j) [];rw[ZE,B'] at this;simp only[BS] at this;exact Ce! Eu),?_⟩;rw[Ey];(have fX:∀u:HO,BW H4 (upd H4 r u):=λu=>KB S_);refine⟨_,_,rfl,AT! YV TB,?_,LA.trans (fX _),oO.trans (fX _),λb ob e n=>O! (Aj e TM) (VR _ _ e n)⟩;(have e7:∀l:g?,(l++[x]).foldl addW []=addW (l.foldl addW []) x:=λl=>Dw! List.foldl_append);(have e8:FV! CR!++C4! (j+1)=(FV! CR!++C4! j)++[x]:=by rw[DS,ex,<-AQ];rfl);rw[e8,e7];exact Ac);.rintro σ H4 ⟨w3,w4,rfl,TB,S_,LA,oO,VR⟩;rw[P? t3,BP] at S_;refine⟨_,_,_,rfl,TB,?_,LA,VR⟩;rw[IM,show GJ (L.take i++[q])=GJ (L.take i)++[FB] by unfold GJ;rw[ZF];rfl,BV];simp only[B_,GZ,AG];exact S_
 .rintro σ H3 ⟨u2,u3,u4,rfl,ef,er,kt,fr⟩;rw[ZA,BP] at er;refine⟨upd H3 d FY!,⟨d,o,_,ef,λob v z=>?_,rfl⟩,?_⟩;(.have z:H d=some (.GF ob v):=z;rw[S.ob] at z;cases z);refine pi (k r _ TM (λb ob e=>?_) (Cq! YV er));by_cases hb:b=d;(.rw[hb,Ac];rw[hb,S.ob] at e;exact e);.rw[Ab hb];exact fr b ob e hb
universe E
structure UD(L:Bb!):Prop where
 nd:D? EP!
 rz:(rowsOf L).length<=60
 hz:(L.flatMap J!).length<=800
 oz:∀r∈rowsOf L,r.2.2.length<=60
 tz:(L.flatMap CR!).length<=1200
def C3(ws:g?)(L:Bb!):Q!:=L.flatMap λS=>S.1++((S.2.1.filter (C6! (Gg ws r.1))).map J!)
theorem Hk(ws:g?):∀L:Bb!,(C3 ws L).length<=(L.flatMap J!).length+(rowsOf L).length
 | []=>by simp[C3]
 | S::L=>by have ih:=Hk ws L;have h:=AV (λr:T2×Int×List T2=>! M! (w?=Gg ws r.1)) S.2.1;unfold C3 rowsOf at *;simp only[B_,ZE,ZA] at *;lia
theorem NA:t∈C3 ws L↔(∃S∈L,t∈S.1)\/∃r∈rowsOf L,r.1=t/\w?≠Gg ws r.1:=by
 unfold C3 rowsOf;simp only[CV,K',AF,AE];constructor;.rintro⟨S,hS,(h|⟨r,⟨hr,c⟩,e⟩)⟩;(.exact B! ⟨S,hS,h⟩);.exact H! ⟨r,⟨S,hS,hr⟩,e,by simpa using c⟩
 .rintro(⟨S,hS,h⟩|⟨r,⟨S,hS,hr⟩,e,c⟩);(.exact⟨S,hS,FM⟩);.exact⟨S,hS,H! ⟨r,⟨hr,by simpa using c⟩,e⟩⟩
def NY(hl:HL)(rows:DJ!):Prop:=hl.map (λq=>(q.1,FB))=rows.map λr=>(r.1,r.2.2)
theorem NY.keys(h:NY hl rows):hl.map J!=rows.map J!:=BT! (congrArg (List.map Prod.fst) h) AL AL
theorem NY.get(h:NY hl rows)(nd:D? rows.map)(hr:r∈rows):Bn hl r.1=r.2.2:=by
 have m:(r.1,r.2.2)∈hl.map λq=>(q.1,FB):=D! h (B3! r hr)
 obtain⟨q,hq,e⟩:=ZN m;have e1:=(Prod.mk.inj e).1;have e2:=(Prod.mk.inj e).2;unfold Bn;rw[<-e1,FX.GX (k:=BU!) (w! h.keys nd) hq];exact e2
theorem Jhd(nd:D? EP!)(h:NY hl (rowsOf L))(rc:LR (OV hl) n ((C3 (Ct L) L).filter Ao!) [] R) : ∀t,FE! EP!->(t∈R↔CC!):=by
 have start:∀t,t∈C3 (Ct L) L->CC!:=K! (by rcases NA.mp ht with⟨S,hS,m⟩|⟨r,hr,e,c⟩;(.exact .hand hS m);.rw[<-e];exact .out hr c)
 have row:∀t,CY!->∃r∈rowsOf L,r.1=t:=K! (by rw[h.keys] at ht;obtain⟨r,hr,e⟩:=ZN ht;exact⟨r,hr,e⟩)
 have cl:∀t∈R,CC!:=LR.least (S:=λt=>CC!) (λt lt u hu=>by have g7:=AE.mp hu;by_cases c:CY!;(.obtain⟨r,hr,e⟩:=row t c;subst e;have vI:=g7.1;rw[h.get nd hr] at vI;exact .step hr vI lt);.exfalso;(have:Bn hl t=[]:=by unfold Bn;rw[AY.mpr (o? (by have:q.1≠t:=λz=>Ep! c;simpa using this))];rfl);rw[this] at g7;exact absurd g7.1 (DD)) rc (K! (by cases ht)) (K! (start t (AE.mp ht).1));have closed:=LR.closed rc (K! (by cases ht));have sub:=(LR.sub rc).2;have back:∀t,CC!->FE! EP!->t∈R:=λt lt=>by induction lt with | hand hS m=>intro ht;exact sub _ (AE.mpr ⟨NA.mpr (.inl ⟨_,hS,m⟩),by rw[h.keys];simpa using ht⟩) | out hr c=>intro ht;exact sub _ (AE.mpr ⟨NA.mpr (.inr ⟨_,hr,rfl,c⟩),by rw[h.keys];simpa using ht⟩) | @step r u hr m _ ih =>intro ht;refine closed _ (ih (AF.mpr ⟨_,hr,rfl⟩)) u (AE.mpr ⟨D! (h.get nd hr) m,by rw[h.keys];simpa using ht⟩)
 exact K! ⟨λm=>cl t m,λl=>back t l ht⟩
theorem Jdt(F:UD L)(h:NY hl (rowsOf L)):∃n R,n<=6000/\LR (OV hl) n ((C3 (Ct L) L).filter Ao!) [] R:=by
 have lk:(hl.map J!).length<=60:=No h.keys ZA F.rz
 have ls:=Hk (Ct L) L;have l2:=AV (Ao!) (C3 (Ct L) L);have sz:∀t,(OV hl t).length<=60:=λt=>by refine BA (AV _ _) ?_;by_cases c:CY!;(.rw[h.keys] at c;obtain⟨r,hr,e⟩:=ZN c;rw[<-e,h.get F.nd hr];exact F.oz r hr);·(have:Bn hl t=[]:=by unfold Bn;rw[AY.mpr (o? (by have:q.1≠t:=λz=>Ep! c;simpa using this))];rfl);rw[this];simp
 have:=F.rz;have:=F.hz;obtain⟨n,R,h1,h2⟩:=LR.ex (nx:=OV hl) (keys:=g! hl.map) (B:=60) (yS hl) sz 6000 ((C3 (Ct L) L).filter Ao!) [] (K! (by have:=Br! ht;simpa using this)) (by have:((hl.map J!).filter λt=>M! (t∉([]:Q!))).length<=60:=BA (AV _ _) lk;have:=FV (60+1) this;lia);exact⟨n,R,A!,h2⟩
universe S
theorem RB:q! [T?,"weights","holds","starts","state","thing","out","held","kept"] Uf Hn:={}
inductive LK(K:W.Frag)(vs:W!)(H:Hp)(Q:VK)(E:XK):Prop
 | mk (d:Addr) (L:wS) (_:vs=[L! d]) (_:bx K H d L) (_:UD (GJ L)) (_:∀(x:Addr)(as:f?)(ts:Q!)(H':Hp),Ci! KE (Ed! x) Dd! (Found (GJ L) ts))
theorem NY.snoc(h:NY hl rows)(r:T2×Int×Q!)(a:Addr):NY (hl++[(r.1,a,r.2.2)]) (rows++[r]):=by unfold NY at *;rw[ZF,ZF,h];rfl
theorem RT(F:l! "unreached" "unreached" Hn)(T:j8 mg)(MR:QW K mg "reached" Fw EF! fR dR)(MD:QW K mg "recorded" Ja Uf fD dD):Rs 2 f fd Uf (LK K):=by
 have GR:d? fR dR EF! Gr K:=Kb MR.fn;have GD:d? fD dD Uf Og K:=Wo MD.fn;refine m? RB;obtain⟨d,L,rfl,S,fi,k⟩:=h;refine R?;have hu:=l?;have HP:wP:=W?;refine FQ! 1 RB.nd (Co GD HP (by rfl) MD.mg MD.fn.kp MD.bd I! Bg (L? K?)) (wE 2 RB.nd Ds (Ag! 3 RB.nd (Es Af) (Du! Q5 (J9 CZ IT NP Ml K?) (De! 4) (Ad (A3 (E6 BB GB GA Y2 x! (L? (s? F?)))) (Ae (Du! Ih (s? F?) (J8 rfl (Ce (De! 5) (Ce (De! 6) (Ce (De! 7) Hr)))) (Ad (B6 hu E! ga (pv 7) rfl) (Ae (Bf (Az yF (pv 6) (Oz hu S! ga Ag AL!) BC!) (Ae (A3 (E6 BB DF DE Dw x! (L? ga)))) A4))))))) (OY.TX (Ad (Ax (i:=8) RB.nd rfl (Or.inr rfl) (Co GR HP (by rfl) MR.mg MR.fn.kp MR.bd I! Bg (O? x! E!))) (Ay! (FP! Df Da T.tuple DK (En (te:=Bx 0) (caps:=[("kept",8)]) rfl (Do (FP! Bm (Cz rfl) T.sorted CO E!)) rfl ZV rfl ZV rfl Bj! CE! B6! ZV (BH! (D7 (D3 (Dv hu K? S!)))) Bv!)))))));refine⟨_,rfl,d,L,rfl,S,fi.tz,λws H1 vG s1 ew=>?_⟩;intro hd aP;have s2:=M? (.dT []) aP;have e2:DU! hd .dT [] hd C1 []:=Ac;generalize upd H1 hd (.dT [])=H2 at s2 e2;refine Cw! (λsl YZ=>?_);have s3:=Aj! YZ;have e3:DT! sl .BC [] sl .BC []:=Ac;generalize upd H2 sl (.BC [])=H3 at s3 e3;have ni:=Al s1 (Al s2 s3);have ew3:=be (s2 _ _ ew);have eh3:=be e2;have lC:h! hd:=Bw s1 aP;have lB:h! sl:=Bw s1 (Bw s2 YZ);have nwh:ws≠hd:=Aj ew aP;have k_:ws≠sl:=Aj (s2 _ _ ew) YZ;have oE:hd≠sl:=Aj e2 YZ;have bX:=ni _ _ S.ob;have oH:hd≠d:=λz=>by rw[z,S.ob] at lC;cases lC
 have SA:sl≠d:=λz=>by rw[z,S.ob] at lB;cases lB
 have ndw:ws≠d:=λz=>by rw[z,S.ob] at vG;cases vG
 refine⟨_,rfl,o! (G! (SB (B! ⟨_,bX⟩))),d,_,rfl,rfl,bX,λp hp=>?_⟩;have s4:=M? (Hx p d) hp;have e4:(upd H3 p A1!) p=some A1!:=Ac;generalize upd H3 p A1!=H4 at s4 e4;have wo:=s4 _ _ bX;refine⟨p,d,_,rfl,e4,wo,λo=>?_⟩;have zv:∀i,A0!=FV! (·.2.1):=λi=>rfl;have kZ:∀{i:Nat} {q:Int×Addr×HS},L[i]?=some q->Dl!=GJ (L.take i)++[FB]:=λ{i q} eq=>by rw[DS,eq];show List.map _ (L.take i++[q])=_;rw[ZF];rfl
 refine P2 (d:=d) (ob:=o) (λi σ H'=>∃(u4 u5 u6 u7:An!)(hl:HL)(as:f?),σ=[Bl!,P! ws,P! hd,P! sl,u4,u5,u6,u7,none]/\Eq!/\Bq! ws FG!/\BE! hd C1 hl/\NY hl (rowsOf (GJ (L.take i)))/\Au! H'/\CZ! sl as.map V.ref/\AW H' as (C3 FG! FL!)/\BW H4 H'/\Er!) ⟨_,_,_,_,[],[],rfl,Ac,O! ndw (s4 _ _ ew3),O! oH (s4 _ _ eh3),rfl,(o? (by cases hq)),O! SA (s4 _ _ e3),I!,OI (λo' e'=>by rw[wo] at e';cases e';exact Fo!),Dm! (lc s4 ni e)⟩ (λi σ H' _ h9=>by obtain⟨_,_,_,_,_,_,_,e,_⟩:=h9;exact e) ?_ ?_;.rintro i kk v σ H5 hi ⟨u4,u5,u6,u7,hl,as,rfl,ef,wR,qA,ZW,pC,iO,YR,fX,TN⟩;obtain⟨q,eq,rfl⟩:=xY (K:=K) (H:=H) (d:=d) hi;have mq:=ZP eq;have WW:=((S.st q mq).keep ((HN ni).trans (HN s4))).keep fX;obtain⟨y1,y2,y3,JV,bs,ds,f0,f1,t1,f2,t2,f3,t3⟩:=WW;(have t_:rowsOf (GJ L)=A0!++(q.2.2.2.1++rowsOf (GJ (L.drop (i+1)))):=by (have e5:GJ L=Dl!++GJ (L.drop (i+1)):=by rw[<-ZF,EK]);rw[e5,kZ eq];unfold rowsOf;simp only[BV,B_,GZ,AG,AQ]);(have qx:(GJ L).flatMap J!=g! FV!++(q.2.2.1++g! (GJ (L.drop (i+1))).flatMap):=by (have e5:GJ L=Dl!++GJ (L.drop (i+1)):=by rw[<-ZF,EK]);rw[e5,kZ eq];simp only[BV,B_,GZ,AG,AQ]);have zr:=fi.rz;have zh:=fi.hz;have ls:=Cx! Hk FL!;have oJ:=P? YR;have l1:=P? t1;rw[t_,ZE,ZE] at zr;rw[qx,ZE,ZE] at zh;have nd:=fi.nd;rw[t_] at nd;refine⟨_,rfl,CH! iO,_,rfl,t?,_,0,k! y1,rfl,rfl,f0,rfl,sl,y1,_,_,rfl,rfl,iO,f1,EF (Eu (Cz! ZA)),?_⟩;rw[<-ZF];(have WY:BW H5 Em!:=KB iO);(have aS:∀b ob,BF! H5->b≠sl->BF! Em!:=Dm! e);have iM:Af! Em! sl (as++JV).map:=Ac;have TL:AW Em! (as++JV) (Cx! C3 FL!++q.2.2.1):=AW.keep WY (Hj YR t1);generalize upd H5 sl (.BC ((as++JV).map V.ref))=H6 at WY aS iM TL;refine⟨_,rfl,t?,_,1,k! y2,rfl,rfl,WY.sq f0,rfl,y2,rfl,⟨_,WY.sq f2⟩,?_⟩;refine Lv (K:=K) (a:=y2) (xs:=bs) (λj σ H'=>∃(w5 w6 w7:An!)(hl:HL)(as:f?),σ=[Bl!,P! ws,P! hd,P! sl,P! t?,w5,w6,w7,none]/\Eq!/\Bq! ws FG!/\BE! hd C1 hl/\NY hl (A0!++Db!)/\Au! H'/\CZ! sl as.map V.ref/\AW H' as ((Cx! C3 FL!++q.2.2.1)++g! ((Cd! j).filter (C6! Ap!)).map)/\BW H6 H'/\Er!) ⟨_,_,_,hl,as++JV,rfl,aS _ _ ef (AX! SA),aS _ _ wR k_,aS _ _ qA oE,No JP AG ZW,pC.keep WY,iM,by rw[JP];simpa using TL,BW.refl _,λb ob e n=>aS _ _ (TN _ _ e n) (Aj e lB)⟩ (λj σ H' _ h9=>by obtain⟨_,_,_,_,_,_,_,_,_,_,_,_,_,k3,_⟩:=h9;exact(WY.trans k3).sq f2) ?_ ?_;(.rintro j v σ H7 hj ⟨w5,w6,w7,SD,iW,rfl,qB,pj,f',T_,dt,p4,cE,gw,PK⟩;obtain⟨r,er⟩:=Au (xs:=q.2.2.2.1) (j:=j) (by rw[<-P? t2];exact sw hj);obtain⟨a,t,ha,cs,rfl,g1,g2,g3,g4⟩:=(Aw t2 j v r hj er).keep (WY.trans gw);have aO:=sw er;(have IM:Cd! (j+1)=Db!++[r]:=p? DS er);(have YU:r.1∉g! SD.map:=by rw[T_.keys];intro z;have e9:q.2.2.2.1=Cd! (j+1)++q.2.2.2.1.drop (j+1):=(EK _ _).symm;rw[e9,IM,<-AQ,<-AQ,<-AQ,AQ (A0!++Db!++[r])] at nd;(have fO:D? (A0!++Db!++[r]).map:=by rw[ZF] at nd;exact(AK.mp nd).1);rw[ZF] at fO;exact(AK.mp fO).2.2 r.1 z r.1 (AB!) rfl);(have lh:SD.length<=60:=by have:=congrArg List.length T_.keys;rw[ZA,ZA,ZE,B'] at this;lia);have lf:=AV (λr:T2×Int×List T2=>! M! (w?=Ap!)) (Cd! j);rw[B'] at lf;have la7:=P? cE;rw[ZE,ZE,ZA] at la7;refine⟨a,_,rfl,g1,rfl,_,_,rfl,_,_,rfl,_,_,rfl,rfl,?_⟩;refine⟨_,rfl,_,rfl,_,rfl,hd,_,rfl,F_.t (k:=tk r.1) f' g2 (DO! ZA Eu),?_⟩;rw[F5 (V.ref ha) (λq hq z=>Ep! YU)];rw[show(SD.map DQ!)++[(tk r.1,k! ha)]=(BG!).map DQ! by rw[ZF];rfl];(have WG:BW H7 (upd H7 hd (C1 AQ!)):=KB f');(have fq:∀b ob,BF! H7->b≠hd->BF! (upd H7 hd (C1 AQ!)):=Dm! e);have p8:CT! H7 hd C1 AQ! hd C1 AQ!:=Ac;rw[show HO.dT ((BG!).map DQ!)=C1 (BG!) from rfl];generalize upd H7 hd (C1 AQ!)=H8 at WG fq p8;(have jE:MM K H8 AQ!:=λq' OG=>by rcases ZI OG with OG|OG;(.exact(dt.keep WG) q' OG);.rw[ZK OG];exact⟨cs,WG.sq g3,AW.keep WG g4⟩);(have jG:NY (BG!) (A0!++Cd! (j+1)):=by rw[IM,<-AQ];exact T_.snoc r ha);have lr:=fq _ _ pj nwh;have lx:=fq _ _ p4 (AX! oE);have wk:=fq _ _ qB (AX! oH);have vn:=WG.AZ _ _ g2;have gT:=AW.keep WG cE;refine⟨_,rfl,_,rfl,ws,rfl,H! ⟨_,B! lr⟩,_,rfl,_,ET! r.1 lr vn,?_⟩;rw[Xp];refine⟨rfl,_,rfl,?_⟩;refine U8 (λc=>?_) (λc=>?_);(·(have c:¬w?=Ap!:=λz=>by rw[z] at c;simp at c);refine⟨_,rfl,CH! lx,_,rfl,sl,_,_,rfl,rfl,lx,Eu (by rw[ZA];lia),?_⟩;(have lI:BW H8 (upd H8 sl (.BC (iW.map V.ref++[k! t]))):=KB lx);refine⟨_,_,_,BG!,iW++[t],rfl,AT! SA wk,O! k_ lr,O! oE p8,jG,jE.keep lI,D! ZF Ac,?_,(gw.trans WG).trans lI,λb ob e n=>O! (Aj e lB) (fq _ _ (PK _ _ e n) (Aj e lC))⟩;rw[IM,JA,ZF,<-AQ];(have gA:([r].filter (C6! Ap!))=[r]:=by simp[c]);rw[gA];exact Cu (AW.keep lI gT) (lI.AZ _ _ vn));·(have c:w?=Ap!:=by simpa using c);refine⟨_,_,_,BG!,iW,rfl,wk,lr,p8,jG,jE,lx,?_,gw.trans WG,λb ob e n=>fq _ _ (PK _ _ e n) (Aj e lC)⟩;rw[IM,JA];(have gA:([r].filter (C6! Ap!))=[]:=by simp[c]);rw[gA,AG];exact gT);.rintro σ H7 ⟨w5,w6,w7,SD,iW,rfl,qB,pj,f',T_,dt,p4,cE,gw,PK⟩;rw[P? t2,BP] at T_ cE;refine⟨_,_,_,_,SD,iW,rfl,qB,pj,f',?_,dt,p4,?_,(fX.trans WY).trans gw,PK⟩;(.rw[kZ eq];unfold rowsOf at T_ ⊢;simp only[BV,B_,GZ,AG];exact T_);.rw[kZ eq];unfold C3 at cE ⊢;simp only[BV,B_,GZ,AG];rw[AQ] at cE;exact cE
 .rintro σ H5 ⟨u4,u5,u6,u7,hl,as,rfl,ef,wR,qA,ZW,pC,iO,YR,fX,TN⟩;rw[ZA,BP] at ZW YR;refine⟨upd H5 d FY!,⟨d,o,_,ef,λob v z=>?_,rfl⟩,?_⟩;(.have z:H d=some (.GF ob v):=z;rw[S.ob] at z;cases z);(have s6:Bh H A5!:=λb ob e=>by by_cases hb:b=d;(.rw[hb,Ac];rw[hb,S.ob] at e;exact e);.rw[Ab hb];exact TN b ob e hb);(have t9:∀{b:Addr} {xs:W!},CF K H5 b xs->CF K A5! b xs:=λ{b xs} z=>by rcases z with(z|⟨ob,z⟩)|z;(.exact XV .inl (w! (Ab (λy=>by rw[y,ef] at z;cases z)) z));(.exact XV .inr ⟨ob,Dz! (λy=>by rw[y,ef] at z;cases z) z⟩);.exact H! z);have TL:∀{as:f?} {ts:Q!},AW H5 as ts->AW A5! as ts:=λ{as ts} z=>Ap (λb t e=>Dz! (λy=>C7! y ef) e) z;(have jF:Au! A5!:=o? (by obtain⟨cs,e,t⟩:=pC q hq;exact⟨cs,t9 e,TL t⟩));have iu:=TL YR;(have iM:Af! A5! sl as.map:=O! SA iO);(have p_:J? A5! hd C1 hl:=O! oH qA);clear t9 TL;generalize upd H5 d FY!=H6 at s6 jF iu iM p_;obtain⟨n,R,zn,rc⟩:=Jdt fi ZW;have ls:=Cx! Hk (GJ L);have zr:=fi.rz;have zh:=fi.hz;(have lh:hl.length=(rowsOf (GJ L)).length:=BT! (congrArg List.length ZW.keys) ZA ZA);refine⟨_,rfl,_,rfl,sl,hd,as,_,hl,n,R,rfl,iM,iu,A!,p_,A!,jF,o? ?_,rc,zn,λx H7 hx s7 ex=>?_⟩;(·(have m:q.1∈g! (rowsOf (GJ L)).map:=Y? ZW.keys (B3! q hq));(have e8:Bn hl q.1=FB:=by unfold Bn;rw[FX.GX (k:=BU!) (w! ZW.keys fi.nd) hq];rfl);obtain⟨r,HZ,e⟩:=ZN m;rw[<-e,ZW.get fi.nd HZ] at e8;rw[<-e8];exact BA (fi.oz r HZ) (a?));have f':=s7 _ _ p_;obtain⟨so,pm,pw⟩:=FX.sorts (λt:T2=>t) (l:=g! (rowsOf (GJ L)).map) (w! JO fi.nd);(have pw:so.Pairwise IW:=by simpa using pw);(have dr:Rd H7 hd (.dT ((hl.map λq=>(q.1,A9!)).map λq=>(tk q.1,q.2))):=by (have e:((hl.map λq=>(q.1,A9!)).map λq=>(tk q.1,q.2))=hl.map DQ!:=Dw! AL);rw[e];exact B! f');refine⟨_,rfl,hd,_,so,rfl,dr,by rw[ZA];lia,?_,pw,λr2 SH LF QY=>?_⟩;(.rw[AL];show so.Perm (hl.map J!);rw[ZW.keys];exact pm);have s8:=M? (.BC (SH.map V.ref)) LF;have e8:Af! (upd H7 r2 (.BC (SH.map V.ref))) r2 SH.map:=Ac;have gT:=AW.keep (HN s8) QY;generalize upd H7 r2 (.BC (SH.map V.ref))=H8 at s8 e8 gT;have ex8:=s8 _ _ ex;refine⟨r2,rfl,DR! e8,λp2 GO=>?_⟩;(have lso:so.length<=60:=No pm.length_eq ZA zr);refine Jn (b:=λt=>! M! (t∈R)) (caps:=[("kept",8)]) GO T! e8 gT (λH9 a t Q' sm ha ht q=>?_) λH9 bs sm ea tb=>?_;(.refine⟨_,rfl,_,rfl,x,_,rfl,Fn (sm _ _ ex8) ha,_,rfl,?_⟩;by_cases c:t∈R;(.rw[AD c];rw[show(! M! (t∈R))=false by simp[c]] at q;exact q);.rw[AB c];rw[show(! M! (t∈R))=true by simp[c]] at q;exact q);.refine⟨p2,_,rfl,B! ⟨DU.of ea,λtt htt=>?_⟩⟩;have s9:=M? (.AZ (bs.map V.ref)) htt;refine k tt bs _ _ (Al s6 (Al s7 (Al s8 (Al sm s9)))) Ac (AW.keep (HN s9) tb) ⟨pw.filter _,λt=>?_⟩;have li:=Jhd fi.nd ZW rc;rw[AE];constructor;(.rintro⟨h1,h2⟩;have m:=pm.mem_iff.mp h1;exact⟨m,λz=>by rw[(li t m).mpr z |> decide_eq_true] at h2;simp at h2⟩);.rintro⟨h1,h2⟩;exact⟨pm.mem_iff.mpr h1,by have:t∉R:=λz=>h2 ((li t h1).mp z);simp[this]⟩
universe E
universe E K62F
universe N FX
open PySem PySem.Spec PyProof.Rows L2
theorem O0:∀{es:List DictEntry} {vs:List (Key×Value)} {ns:Aa!},Pairs (Bq P w) es vs->vs.map J!=ns.map Sum.inl->IntsAre (es.map AF!) ns
 | _,_,ns,.nil,e=>by cases ns with | nil=>exact I! | cons n ns=>cases e
 | _,_,ns,.cons (e:=d) (kv:=kv) h _ t,e=>by cases ns with | nil=>cases e | cons n ns =>have e:kv.1::_=Sum.inl n::ns.map Sum.inl:=e;obtain⟨e1,e2⟩:=List.cons.inj e;have ih:=O0 t e2;rcases Cv (k:=kv.1) (v:=d.key) h with⟨i,tk,e3,e4⟩|⟨x,tk,e3,e4⟩;(.rw[e1] at e3;have:n=i:=Sum.inl.inj e3;rw[AI,e4,<-this];exact q? n tk ih);.rw[e1] at e3;cases e3
theorem Jfu{es:Array DictEntry}{acc:Array Value}(ha:ItemsOf (λi v=>∃e,es[i]?=some e/\v=e.key) acc es.size):acc.toList=es.toList.map AF!:=by
 refine EX λj=>?_;by_cases hj:j<es.size;·(have h1:j<acc.size:=D! ha.1 hj);obtain⟨e2,e3,e4⟩:=ha.2 j acc[j] (by simp[h1]);(have e5:es[j]?=some es[j]:=by simp[hj]);rw[e5] at e3;cases e3;(have h2:acc.toList[j]?=some acc[j]:=by simp[h1]);(have h3:es.toList[j]?=some es[j]:=by simp[hj]);rw[h2,ZH,h3,e4];rfl
 .rw[CM (BN! CT ha.1),CM (Cz! CT)]
universe S
variable {X:Cx}
theorem L7(hc:X.calm=true):Ga X (.builtin "sorted") (λxs H Q=>∃(d:Addr)(kvs:ap)(ns:Aa!),xs=[L! d]/\Bs! d kvs/\kvs.map J!=ns.map Sum.inl/\ns.length<64 /\ ∀(r:Addr)(ms:Aa!),h! r->ms.Perm ns->ms.Pairwise (·<=·)->Q (C! r) (upd H r (.BC (ms.map V.int)))):=by
 intro AA s σ H xs us Q I rv h;obtain⟨d,kvs,ns,rfl,hd,ek,UU,q⟩:=h;obtain⟨u,rfl,rx⟩:=vals1 rv;cases rx;obtain⟨z,lo,vs,rel,o,es,ep,g1,g2,g3,g4,g5,g6⟩:=(show DN X.prog X.w H s.heap d (.dK kvs) from I.DC d _ hd);have ev:∀{a:ap} {b:List (Key×Value)},KV a b->b.map J!=a.map J!:=λ{a b} r=>by induction r with | nil=>rfl | cons h _ ih=>rw[AI,AI,ih,h.1]
 have hI:IntsAre (es.toList.map AF!) ns:=O0 g5 (U? (ev rel) ek);have hl:es.size=ns.length:=BT! (IntsAre.length hI) ZA CT
 refine JC kind_sorted plain_sorted entry_sorted (args_sorted1 _) (by unfold Builtin.«sorted»;refine ZR (m:=checkCount "sorted" 1 1 _) (ZS (ZR (W.kdu_collect (Ua lo (es:=es) (ep:=ep)) (show _ from I.ok.hd hc) ⟨o,g1,g2,g3⟩ (BN! hl Cn) λh1 tk acc kp ha=>?_)));rw[Jfu ha];have I1:Inv X AA σ H { s with heap:=h1,toks:=tk }:=I.kept kp;refine ZR (PZ ?_ (by rw[ZA,CT,hl,Cn];lia));have e1:(h1.push (seqObj "list" (es.toList.map AF!).toArray 0)).get? h1.objs.size=some (seqObj "list" (es.toList.map AF!).toArray 0):=ZU _ rfl;refine ZR (EJ (C_ slot_list_sort ⟨_,e1,rfl⟩ YJ (list_sort_tree e1 hI (by rw[ZA,CT,hl];exact UU) λout ms a1 a2 a3=>EQ rfl) (args_list_sort _)));have hn:h! h1.objs.size:=I1.DC.fresh (ZG _);obtain⟨c,ec⟩:=sortedHeap_at (out:=out) e1;(have old:∀b ob,BF! h1.get?->BF! (sortedHeap (h1.push (seqObj "list" (es.toList.map AF!).toArray 0)) h1.objs.size (es.toList.map AF!) out).get?:=λb ob hb=>by have JU:=AR hb;rw[sortedHeap_old (BH JU) (w! size_push' (Nat.lt_succ_of_lt JU))];exact ZT _ hb);refine ZS ⟨_,rfl,L! h1.objs.size,_,I1.laid (a:=h1.objs.size) (o:=.BC (ms.map V.int)) (t':=tk) old (ZG _) ⟨?_,out.toList,c,L9 a1,by simpa using ec⟩,rfl,q _ ms hn a2 a3⟩;rw[ZA,a2.length_eq,Cn];lia)
universe E
universe E FX
universe N K62F
open PySem L2 FX K62
def iN(os:AZ!):W!:=os.map (SL (d! z!))
theorem Jks(n:Nat):(rg n).map V.int=DG! iN n:=by unfold rg iN;rw[AL];rfl
theorem Jbr{L:wS}{h:Int}(n:h∉g! L.map):Ci (L.map CU!) (G! h)=none:=by
 unfold Ci;rw[LY,AY.mpr];.rfl
 .intro q hq z;(have z:BL! q.1=FM:=by simpa using z);injection z with z;exact Ep! n
theorem q1:Ax! u? SZ:=ZV
theorem q2:Ax! u? Db:=ZV
theorem q3:Ax! u? T?:=ZV
theorem q4:Ax! T? SZ:=ZV
theorem q5:Ax! T? Db:=ZV
theorem q6:Ax! Db SZ:=ZV
def F8(m:Int)(sd fd cd:Addr):List (Str×V):=Ar SZ (C! cd) (Ar Db (C! fd) (Ar T? (C! sd) (Ar u? (Y! m) [])))
universe S
theorem zP:EM! u? Y! m:=by unfold F8;rw[Bc,AB q1,Bc,AB q2,Bc,AB q3,Bc,AD rfl]
theorem Ru:EM! T? C! sd:=by unfold F8;rw[Bc,AB q4,Bc,AB q5,Bc,AD rfl]
theorem Lw:EM! Db C! fd:=by unfold F8;rw[Bc,AB q6,Bc,AD rfl]
theorem Mt:EM! SZ C! cd:=by unfold F8;rw[Bc,AD rfl]
theorem VE{x:Str}(h1:¬x=SZ)(h2:¬x=Db)(h3:¬x=T?)(h4:¬x=u?):(F8 m sd fd cd).lookup x=none:=by unfold F8;rw[Bc,AB h1,Bc,AB h2,Bc,AB h3,Bc,AB h4];rfl
universe E
structure Iq where
 m:Int
 sd:Addr
 fd:Addr
 cd:Addr
 ss:ap
 fs:ap
 cs:ap
structure FF(C:Addr)(H:Hp)(p:Addr)(I:Iq):Prop where
 ob:∃dx,E1! H
 s:Bs! I.sd I.ss
 f:Bs! I.fd I.fs
 c:Bs! I.cd I.cs
 sf:I.sd≠I.fd
 sc:I.sd≠I.cd
 fc:I.fd≠I.cd
theorem FF.keep(x:Ar!)(k:Es! (b=p) (∀o,CV!->sK)):FF C H' p I :=⟨let⟨dx,e⟩:=x.ob;⟨dx,k p (G! rfl) _ e⟩,k _ (B4! rfl) _ x.s,k _ (Df! rfl) _ x.f,k _ (Dg! rfl) _ x.c,x.sf,x.sc,x.fc⟩
theorem FF.same(x:Ar!)(s:KE):FF C H' p I:=x.keep λb _ o e=>s b o e
structure RG(K:W.Frag)(mg:Str->Option Value)(C:Addr):Prop where
 cl:VA K C
 nM:EB K C u?
 nS:EB K C T?
 nF:EB K C Db
 nT:EB K C SZ
 cP:J? mg "Inquiry" C! C
universe S
inductive MX(C:Addr)(vs:W!)(H:Hp)(Q:VK)(E:XK):Prop
 | mk (p dx:Addr) (n:Int) (_:vs=Tk Ab!) (_:H p=some (.ins C dx [])) (_:∀(H':Hp)(I:Iq),(∀b u,H b=some u->b≠p->H' b=some u)->FF C H' p I->I.m=n->I.ss=[]->I.fs=[]->I.cs=[]->h! I.sd->h! I.fd->h! I.cd->Q .E_ H')
theorem Jmh:q! Bf! Bf! T4:={}
theorem RR(F:l! "__init__" "Inquiry.__init__" T4)(T:CD!):Ds! Bf! MX:=by
 refine m? Jmh;obtain⟨p,dx,n,rfl,hp,k⟩:=h;refine R?;refine EQ (Ad (Ej! S!) (Ad (Ej! Fd) (Ad (Ej! Fd) (Ae (Ej! Fd)))));have l1:=A5 u? Bi! [];refine⟨_,rfl,_,rfl,p,C,dx,[],rfl,hp,T.cl,T.nM,(by show 0<1000;decide),λd1 h1=>?_⟩;have bK:p≠d1:=Aj Ac h1;have l2:=λv=>A5 T? v (Ar u? Bi! []);refine⟨_,rfl,p,C,dx,_,rfl,Cq! bK Ac,T.cl,T.nS,(by simp only[BS] at l1;lia),λd2 h2=>?_⟩;have fF:p≠d2:=Aj Ac h2;have l3:=λv u=>A5 Db u (Ar T? v (Ar u? Bi! []));refine⟨_,rfl,p,C,dx,_,rfl,Cq! fF Ac,T.cl,T.nF,(by have:=l2 (C! d1);simp only[BS] at l1;lia),λd3 h3=>?_⟩;have gn:p≠d3:=Aj Ac h3;refine⟨_,rfl,p,C,dx,_,rfl,Cq! gn Ac,T.cl,T.nT,(by have:=l2 (C! d1);have:=l3 (C! d1) (C! d2);simp only[BS] at l1;lia),?_⟩;have g1:h! d1:=by rw[sB] at h1;exact h1
 have aE:d1≠d2:=λz=>by rw[<-z,sB,Ac] at h2;cases h2
 have g2:h! d2:=by rw[Bm!,Ab (Ne.symm aE),Bm!] at h2;exact h2
 have cN:d2≠d3:=λz=>by rw[<-z,Bm!,Ac] at h3;cases h3
 have cO:d1≠d3:=λz=>by rw[<-z,sB,Ab aE,sB,Ac] at h3;cases h3
 have g3:h! d3:=by rw[DP!,Ab (Ne.symm cN),DP!,Ab (Ne.symm cO),DP!] at h3;exact h3
 refine k _ ⟨n,d1,d2,d3,[],[],[]⟩ (λb u e hb=>?_) ⟨⟨dx,Ac⟩,?_,?_,?_,aE,cO,cN⟩ rfl rfl rfl rfl g1 g2 g3;.have m1:=Aj e g1;have m2:=Aj e g2;have m3:=Aj e g3;rw[Ab hb,Ab m3,Ab hb,Ab m2,Ab hb,Ab m1,Ab hb];exact e
 .rw[sB,Ab cO,sB,Ab aE,sB];exact Ac
 .rw[Bm!,Ab cN,Bm!];exact Ac
 .rw[DP!];exact Ac
inductive VG(C:Addr)(vs:W!)(H:Hp)(Q:VK)(E:XK):Prop
 | mk (p:Addr) (I:Iq) (h t:Int) (v:V) (_:vs=[AG!,N?,C? t,v]) (_:Ar!) (_:I.fs.length<=500) (_:I.ss.length<=500) (_:∀H',FF C H' p { I with ss:=putK I.ss (G! h) v,fs:=putK I.fs (G! h) (Y! t) }->(Cu! (b≠I.sd) (b≠I.fd) sK)->Q (.bl (decide (V.int (R! (putK I.fs (.inl h) (.int t)).length)=V.int I.m))) H')
theorem nX:q! CA! CA! N1:={}
theorem YN(F:l! "first" "Inquiry.first" N1)(T:CD!)(hl:mg "len"=none):Ds! CA! VG:=by
 refine m? nX;obtain⟨p,I,h,t,v,rfl,S,zf,zs,k⟩:=h;refine R?;have hu:=l?;obtain⟨dx,hp⟩:=S.ob;refine EQ (Ad (Am! S! E!) (Ad (Am! S! x!) (Ay! (Lc Ca (Fk! My hl) Ch BC!))));have npf:p≠I.fd:=λz=>by rw[z,S.f] at hp;cases hp
 have nps:p≠I.sd:=λz=>by rw[z,S.s] at hp;cases hp
 refine E6! C dx hp T.cl T.nF Lw I.fd h S.f (Eu T!);have HJ:E1! (upd H I.fd (.dK UV)):=O! npf hp
 have s1:xL I.fd UV I.sd I.ss:=O! S.sf S.s
 have c1:xL I.fd UV I.cd I.cs:=AT! S.fc S.c
 have f1:xL I.fd UV I.fd UV:=Ac;have k1:Cu! (b≠I.sd) (b≠I.fd) ((upd H I.fd (.dK UV)) b=some o):=λb o e _ n=>O! n e
 generalize upd H I.fd (.dK UV)=H1 at HJ s1 c1 f1 k1;refine E6! C dx HJ T.cl T.nS Ru I.sd h s1 (Eu T!);have GO:E1! (upd H1 I.sd (.dK AA!)):=O! nps HJ
 have s2:DU! I.sd .dK AA! I.sd .dK AA!:=Ac;have c2:DU! I.sd .dK AA! I.cd .dK I.cs:=AT! S.sc c1
 have f2:DU! I.sd .dK AA! I.fd .dK UV:=AT! S.sf f1
 have k2:Cu! (b≠I.sd) (b≠I.fd) ((upd H1 I.sd (.dK AA!)) b=some o):=λb o e n1 n2=>O! n1 (k1 b o e n1 n2)
 generalize upd H1 I.sd (.dK AA!)=H2 at GO s2 c2 f2 k2;exact⟨_,rfl,p,C,dx,_,_,rfl,GO,T.cl,T.nF,Lw,I.fd,_,rfl,f2,_,rfl,p,C,dx,_,_,rfl,GO,T.cl,T.nM,zP,rfl,k H2 ⟨⟨dx,GO⟩,s2,f2,c2,S.sf,S.sc,S.fc⟩ k2⟩
inductive SU(C:Addr)(vs:W!)(H:Hp)(Q:VK)(E:XK):Prop
 | mk (p:Addr) (I:Iq) (h t:Int) (_:vs=[AG!,N?,C? t]) (_:Ar!) (_:I.cs.length<=500) (_:∀H',FF C H' p { I with cs:=putK I.cs (G! h) (Y! t) }->(Dy! (b≠I.cd) sK)->Q (.bl (decide (V.int (R! (putK I.cs (.inl h) (.int t)).length)=V.int I.m))) H')
theorem eX:q! Bx! Bx! K5:={}
theorem WC(F:l! "second" "Inquiry.second" K5)(T:CD!)(hl:mg "len"=none):Ds! Bx! SU:=by
 refine m? eX;obtain⟨p,I,h,t,rfl,S,zc,k⟩:=h;refine R?;have hu:=l?;obtain⟨dx,hp⟩:=S.ob;refine EQ (Ad (Am! S! E!) (Ay! (Lc Ca (Fk! My hl) Ch BC!)));have npc:p≠I.cd:=λz=>by rw[z,S.c] at hp;cases hp
 refine E6! C dx hp T.cl T.nT Mt I.cd h S.c (Eu T!);have HJ:E1! (upd H I.cd (.dK AN!)):=O! npc hp
 have s1:xL I.cd AN! I.sd I.ss:=O! S.sc S.s
 have c1:xL I.cd AN! I.cd AN!:=Ac;have f1:xL I.cd AN! I.fd I.fs:=O! S.fc S.f
 have k1:Dy! (b≠I.cd) ((upd H I.cd (.dK AN!)) b=some o):=λb o e n=>O! n e
 generalize upd H I.cd (.dK AN!)=H1 at HJ s1 c1 f1 k1;exact⟨_,rfl,p,C,dx,_,_,rfl,HJ,T.cl,T.nT,Mt,I.cd,_,rfl,c1,_,rfl,p,C,dx,_,_,rfl,HJ,T.cl,T.nM,zP,rfl,k H1 ⟨⟨dx,HJ⟩,s1,f1,c1,S.sf,S.sc,S.fc⟩ k1⟩
structure Full(I:Iq)(n:Nat)(f c:GE)(a:re):Prop where
 ks:∃os:AZ!,DG! os.Perm n/\I.fs.map J!=os.map (SL (BL! z!))
 fs:∀k<n,Ci I.fs (G! z!)=ii (f k)
 cs:∀k<n,Ci I.cs (G! z!)=ii (c k)
 ss:∀k<n,Ci I.ss (G! z!)=P! (a k)
def Dc(n:Nat)(f c:GE):AZ!:=(List.range n).filter λk=>M! (f k=c k)
theorem Jbx:∀{ms:Aa!} {n:Nat},ms.Perm (rg n)->ms.Pairwise (·<=·)->ms=rg n:=λ{ms n} pm pw=>by (have pr:(rg n).Pairwise (·<=·):=by unfold rg;rw[EG];exact List.Pairwise.imp (λ{a b} (h:a<b)=>A!) OS);exact pm.eq_of_pairwise (λa b _ _ h1 h2=>A!) pw pr
inductive RM(C:Addr)(vs:W!)(H:Hp)(Q:VK)(E:XK):Prop
 | mk (p:Addr) (I:Iq) (n:Nat) (f c:GE) (a:re) (_:vs=[AG!]) (_:Ar!) (_:n<=60) (_:Full I n f c a) (_:∀(l:Addr)(H':Hp),h! l->KE->CZ! l iN FN!->FH! l)
theorem RC:q! Q? Q? N0:={}
def x9(K:W.Frag):TT:=Fi (NS UP (Qx (EO! Db) (Bx 0)) (Qx (EO! SZ) (Bx 0)))
theorem YM(F:l! "still" "Inquiry.still" N0)(T:CD!)(hso:mg "sorted"=none):Ds! Q? RM:=by
 refine m? RC;obtain⟨p,I,n,f,c,a,rfl,S,hz,fu,k⟩:=h;refine R?;have hu:=l?;obtain⟨dx,hp⟩:=S.ob;refine EQ (Ae (Ay (En (tt:=x9 K) (te:=Bx 0) (caps:=[(H?,0)]) rfl (Do (FP! Bm (L7 rfl) hso CO Ch)) rfl ZV rfl ZV rfl Bj! CE! B6! ZV (BH! (D7 (Az Ca (Ba hu (Ao S! rfl) K?) (Ba hu (Ao S! rfl) K?) BC!))) Bv!)));obtain⟨os,pm,ek⟩:=fu.ks;have lo:os.length=n:=U? pm.length_eq BZ
 refine⟨_,rfl,p,C,dx,_,_,rfl,hp,T.cl,T.nF,Lw,I.fd,I.fs,os.map (SL z!),rfl,S.f,p? ek AL,by rw[ZA];lia,λr ms HZ pm2 pw=>?_⟩;have em:ms=rg n:=Jbx (pm2.trans (pm.map _)) pw;subst em;rw[Jks];have s1:=M? (.BC (iN (List.range n))) HZ;have e1:CT! H r .BC FZ! r .BC FZ!:=Ac;generalize upd H r (.BC FZ!)=H1 at s1 e1;refine⟨r,rfl,DR! e1,λl hl=>?_⟩;refine Fq (K:=K) (a:=r) (xs:=DG! iN n) (tt:=x9 K) (te:=Bx 0) (caps:=[(H?,0)]) (λi ys H'=>BE! l .BC ys/\Bh H1 H'/\ys=iN (Dc i f c)) (b? Ac (Ah hl)) (λi ys H' _ z=>⟨DU.of (z.2.1 _ _ e1),z.1⟩) ?_ ?_;.rintro i v ys H2 N hi ⟨el,s2,rfl⟩ hN;have SE:=sw hi;(have li:(iN (List.range n)).length=n:=by unfold iN;rw[ZA,BZ]);rw[li] at SE;(have hi:d! V!=v:=by unfold iN at hi;rw[ZH,List.getElem?_range SE] at hi;exact ZO hi);subst hi;have cH:=Al s1 s2;have S2:=S.same cH;obtain⟨IY,GO⟩:=S2.ob;(have gf:DM H2 I.fd (Y! V!) (some (Y! (f i))):=Dc! V! S2.f (fu.fs i SE));(have gc:DM H2 I.cd (Y! V!) (some (Y! (c i))):=Dc! V! S2.c (fu.cs i SE));(have BC:(Dc i f c).length<=i:=FU! (AV (λk=>M! (f k=c k)) (List.range i)) BZ);(have tq:Dc (i+1) f c=Dc i f c++(if f i=c i then [i] else []):=by unfold Dc;rw[EZ,JA];congr 1;by_cases z:f i=c i;(.rw[AD z];simp[z]);.rw[AB z];simp[z]);refine⟨_,rfl,p,C,IY,_,_,rfl,GO,T.cl,T.nF,Lw,_,rfl,I.fd,_,rfl,gf,_,rfl,p,C,IY,_,_,rfl,GO,T.cl,T.nT,Mt,_,rfl,I.cd,_,rfl,gc,rfl,_,rfl,?_⟩;refine U8 (λz=>?_) (λz=>?_);(·(have z:f i=c i:=by have:=BO z;injection this);refine⟨_,rfl,el,Eu (by unfold iN;rw[ZA];lia),hN _ _ ⟨Ac,EI! hl (s2 b o e),?_⟩⟩;rw[tq,AD z];unfold iN;rw[ZF];rfl);.have z:¬f i=c i:=λy=>z (CW! y);refine hN _ _ ⟨el,s2,?_⟩;rw[tq,AB z,AG]
 .rintro ys H2 ⟨el,s2,rfl⟩;(have li:(iN (List.range n)).length=n:=by unfold iN;rw[ZA,BZ]);rw[li] at el;exact k l H2 (Bw s1 hl) (Al s1 s2) el
def KP(n:Nat)(f c:GE)(a:re)(S:Ac!):wS:=(Dc n f c).map (SL (z!,a k,S k))
inductive P_(C:Addr)(K:W.Frag)(vs:W!)(H:Hp)(Q:VK)(E:XK):Prop
 | mk (p:Addr) (I:Iq) (n:Nat) (f c:GE) (a:re) (S:Ac!) (_:vs=[AG!]) (_:Ar!) (_:n<=60) (_:Full I n f c a) (_:(∀k<n,RZ K H (a k) (S k))) (_:UD (GJ (KP n f c a S))) (_:∀(x:Addr)(as:f?)(ts:Q!)(H':Hp),Ci! KE (Ed! x) Dd! (Found (GJ (KP n f c a S)) ts))
theorem YC:q! [H?,T?,"h"] Q? K6:={}
theorem Jf2{a:re}{S:Ac!}{ks:AZ!}{k:Nat}(h:k∉ks):Ci ((ks.map (SL (z!,a k,S k))).map CU!) (G! z!)=none:=by refine Jbr λm=>?_;rw[AL] at m;obtain⟨j,hj,e⟩:=ZN m;have e:R! j=z!:=e;exact h (D! (show k=j by lia) hj)
theorem Jdi(n:Nat)(f c:GE):(Dc n f c).Nodup:=List.nodup_range.filter _
theorem WD{f fS fU:Addr}{fd dS dU:FuncData}(F:l! "result" "Inquiry.result" K6)(T:CD!)(MS:DG K C "still" "Inquiry.still" N0 Q? fS dS)(GS:d? fS dS Q? RM C)(MU:QW K mg "unreached" Hn Uf fU dU)(GU:Rs 2 fU dU Uf (LK K)):Rs 3 f fd Q? (P_ C K):=by
 refine m? YC;obtain⟨p,I,n,f,c,a,Sf,rfl,S,hz,fu,st,fi,k⟩:=h;refine R?;have hu:=l?;have HP:wP:=W?;have LF:DI 2 _:=W?;obtain⟨dx,hp⟩:=S.ob;refine FQ! 1 YC.nd Fd (Ad (Ee PassesOwn.never rfl (Do (E2! K? T.cl MS.mt GS HP MS.bd)) (Ck! 2 YC.nd) (Ae (B6 hu S! E! (Dj! E!) rfl))) (Ae (Ay (Co GU LF (by rfl) MU.mg MU.fn.kp MU.bd I! Bg (L? S!)))));intro d hd;have s1:=M? (.dK []) hd;have e1:xL d [] d []:=Ac;generalize upd H d (.dK [])=H1 at s1 e1;have S1:=S.same s1;obtain⟨E',HJ⟩:=S1.ob;refine⟨_,rfl,p,E',_,rfl,HJ,Ev! VE,p,I,n,f,c,a,rfl,S1,hz,fu,λl H2 hl s2 el=>?_⟩;refine⟨l,rfl,DR! el,?_⟩;have fK:d≠l:=λz=>by rw[z] at e1;rw[e1] at hl;cases hl
 have ls:(iN FN!).length=(Dc n f c).length:=by unfold iN;rw[ZA]
 have lz:(Dc n f c).length<=n:=FU! (AV (λk=>M! (f k=c k)) (List.range n)) BZ
 refine Io (K:=K) (a:=l) (xs:=iN FN!) (λj σ H'=>∃u2,σ=[P! p,Bl!,u2]/\KE/\CZ! l iN FN!/\BE! d .dK (((Dc n f c).take j).map (SL (z!,a k,Sf k)) |>.map CU!)) ⟨_,rfl,Al s1 s2,el,s2 _ _ e1⟩ (λj σ H' _ h9=>by obtain⟨_,_,_,z,_⟩:=h9;exact DU.of z) ?_ ?_;.rintro j v σ H3 hj ⟨u2,rfl,s3,bV,bX⟩;have aO:=sw hj;rw[ls] at aO;obtain⟨kk,l7⟩:=Au (xs:=Dc n f c) aO;(have hj:d! (R! kk)=v:=by unfold iN at hj;rw[ZH,l7] at hj;exact ZO hj);subst hj;have mk:=ZP l7;have hk:kk<n:=BR.mp (AE.mp mk).1;have S3:=S.same s3;obtain⟨OH,PJ⟩:=S3.ob;(have gs:DM H3 I.sd (Y! (R! kk)) (some (C! (a kk))):=Dc! (R! kk) S3.s (fu.ss kk hk));(have YU:kk∉(Dc n f c).take j:=λz=>by obtain⟨i,hi,e⟩:=List.mem_iff_getElem.mp z;rw[B'] at hi;rw[List.getElem_take] at e;have e3:=(ZJ l7).2;have:=(DZ (Jdi n f c)).mp (e.trans e3.symm);lia);refine⟨_,rfl,p,C,OH,_,_,rfl,PJ,T.cl,T.nS,Ru,_,rfl,I.sd,_,rfl,gs,_,rfl,_,rfl,d,_,rfl,F_.k (k:=B! (R! kk)) bX (Eu (by rw[ZA,ZA,B'];lia)),?_⟩;rw[Ex _ (Jf2 YU)];refine⟨_,rfl,EI! hd (be e),AT! fK bV,?_⟩;rw[Ac,DS,l7];simp only[Option.toList_some,ZF,AI,FO]
 .rintro σ H3 ⟨u2,rfl,s3,bV,bX⟩;rw[ls,BP] at bX;refine⟨_,rfl,d,KP n f c a Sf,rfl,⟨bX,o? ?_⟩,fi,λx as ts H4 s4 ex th fo=>k x as ts H4 (Al s3 s4) ex th fo⟩;obtain⟨j,hj,rfl⟩:=ZN hq;exact(st j (BR.mp (AE.mp hj).1)).keep (HN s3)
universe E
universe E K62F
universe N K62
open PySem L2 FX
theorem Kc:∀{R U:Q!},R.Nodup->(∀t∈R,t∈U)->R.length<=U.length
 | [],U,_,_=>BE _
 | a::R,U,nd,h=>by have KA:=AM.mp nd;have ha:=h a AJ!;have ih:=Kc (R:=R) (U:=U.erase a) KA.2 (K! ((List.mem_erase_of_ne (λz=>KA.1 (Y? z ht))).mpr (h t (ZD _ ht))));rw[List.length_erase_of_mem ha] at ih;have:=List.length_pos_of_mem ha;simp only[BF];lia
def qb(p:Addr)(W:FK)(io:Addr)(I:K62F.Iq):Prop:=Es! (b=io) BS!
structure gG(H:Hp)(c b:Int)(ts:Q!)(L:X!)(m:Nat):Prop where
 BL:L.map J!=Dh! λ(i:Nat)=>c+1+V!
 NU:Paired (λ(y:Int×Addr)(i:Nat)=>RJ H y.2 y.1 b V! (ts.filter EH!)) L (List.range m)
theorem gG.len(x:gG H c b ts L m):L.length=m:=FU! (P? x.NU) BZ
universe S
inductive Me(CW C CP CI:Addr)(K:W.Frag)(vs:W!)(H:Hp)(Q:VK)(E:XK):Prop
 | mk (p:Addr) (b n:Int) (W:FK) (io:Addr) (I:K62F.Iq) (m:Nat) (f c:GE) (a:re) (S:Ac!) (_:vs=[AG!,C? b,Ab!]) (_:y?) (_:Eg! W.LD n io) (_:A3! H) (_:m<=60) (_:K62F.Full I m f c a) (_:(∀k<m,RZ K H (a k) (S k))) (_:K62F.UD (K62F.GJ Eb!)) (_:BO!) (_:AV!) (_:W.JK.length<=400) (_:(∀e∈W.JK,e.1≠n)) (_:∀(x xf:Addr)(as:f?)(ts:Q!)(L:X!)(H':Hp),Found (K62F.GJ Eb!) ts->h? { W with c:=k?,ls:=S?,JK:=IN }->gG H' W.c b ts L W.qs.length->Ed! xf->Dd!->Ci! Ae! Dt! (x≠W.hs) (Vo p W H x))
theorem SM:q! [H?,Cl!,"n","found","went","h","there"] EQ! K1:={}
def Jlz(K:W.Frag):TT:=Fi (NS UP (NS (Ql K) (Bx 0) (tC (Y! 0))) (Bx 1))
theorem Yw(F:l! "let_all" "World.let_all" K1)(T:A7!)(TW:NE)(TP:Ey!)(TI:K62F.RG K mg CI)(M1:DG K CI "result" "Inquiry.result" K6 Q? f1 d1)(G1:Rs 3 f1 d1 Q? (K62F.P_ CI K))(M3:DG K CP "put" "Post.put" K3 A6! f3 d3):Rs 4 f fd EQ! (xz Me):=by
 have G3:d? f3 d3 A6! Gd CP:=Jh M3.fn TP;refine m? SM;obtain⟨p,b,n,W,io,I,m,f,c,a,Sf,rfl,S,vi,SI,zm,fu,st,fi,z1,z2,z3,nf,k⟩:=h;refine R?;have hu:=l?;have HP:wP:=W?;obtain⟨dx,hp⟩:=S.ob;obtain⟨bc,fg⟩:=SI.ob;refine FQ! 3 SM.nd (E2! (Dj! E!) TI.cl M1.mt G1 hr M1.bd) (Ad (Am! E! x!) (Ag! 4 SM.nd (Es Af) (Ee PassesOwn.never rfl (Gx rfl T.range (L? (Dp! Bs))) (Bk (i:=5) SM.nd rfl (Or.inr rfl)) (wE 6 SM.nd (FP! Df Da T.tuple DK (En (tt:=Jlz K) (te:=Bx 0) (caps:=[("h",5)]) rfl (Ih (pv 3)) rfl ZV rfl ZV rfl Bj! CE! B6! ZV (BH! (D7 (Az Ca (s? K?) S! BC!))) Bv!)) (Ae (A3 (E6 BB DF DE Dw F? (L? (D6! Ch TP.cl M3.mt G3 M3.bd (Aa A6 (Aa S! (O? ga (pv 6))))))))))) (Dr! 4)));have gi:DM H W.iq Bi! (some (C! io)):=Dc! n S.iq vi
 refine⟨_,rfl,p,CW,dx,_,_,rfl,hp,TW.cl,TW.nI,N8 W,_,rfl,W.iq,_,rfl,gi,io,bc,_,rfl,fg,Ev! K62F.VE,io,I,m,f,c,a,Sf,rfl,SI,zm,fu,st,fi,λxf as ts H1 s1 VS th fo=>?_⟩;have W1:=S.same s1;obtain⟨E',HJ⟩:=W1.ob;refine E6! CW E' HJ TW.cl TW.nF (Jc4 W) W.fi n W1.fi (DO! Lm Bb);rw[U1 nf];obtain⟨W2,NQ⟩:=Jn9 W1 (l:=IN);have aF:=c? W1 NQ;have WN:BB! (FR! H1 W.fi IN):=r? (NQ b o (s1 _ _ eb) hb);have dy:=aF.AZ _ _ VS;have QY:=AW.keep aF th;generalize upd H1 W.fi (.dK (kvsOf (IN)))=H2 at W2 aF WN dy QY;refine Cw! (λr HZ=>?_);have s3:=Aj! HZ;have e3:DT! r .BC [] r .BC []:=Ac;have W3:=W2.same s3;generalize upd H2 r (.BC [])=H3 at s3 e3 W3;have i6:∀W':FK,Ad!=BI!->r∉Ad!:=λW' e m=>by rw[e] at m;exact W2.NN HZ m
 obtain⟨OH,PJ⟩:=W3.ob;have e0:R! (W.qs.map λq=>k! q.1).length=W.qs.length:=AB!
 refine⟨_,rfl,p,CW,OH,_,_,rfl,PJ,TW.cl,TW.nH,Du _,W.hs,_,rfl,XV DU.of W3.hs,R! W.qs.length,(by rw[<-e0]),A!,A!,?_⟩;rw[DT];have bM:as.length=ts.length:=P? QY;have JKY:ts.length<=60:=by have nd:ts.Nodup:=List.Pairwise.imp (λ{a b} (h:IW a b) (z:a=b)=>by rw[Eo,z] at h;lia) fo.pw;have:=Kc nd (K! ((fo.mem t).mp ht).1);rw[ZA] at this;exact BA this fi.rz
 refine Rp (lo:=0) (n:=W.qs.length) (λi σ H'=>∃(u5 u6:An!)(L:X!),σ=[P! p,ii b,ii n,P! xf,P! r,u5,u6]/\Fl! r/\h? { W with c:=Ff!,ls:=S?,JK:=IN }/\gG H' W.c b ts L i/\BW H3 H'/\Ae!) ⟨_,_,[],rfl,e3,by (have e:({ W with c:=BP! 0,ls:=W.ls++[],JK:=IN }:FK)={ W with JK:=IN }:=AB!);rw[e];exact W3,SB I!,BW.refl _,r? (be B9!)⟩ ?_ ?_;.rintro i σ H4 hi ⟨u5,u6,L,rfl,er,W4,l4,k4,QK⟩;rw[show R! 0+V!=V! by lia];have jb:=lc k4.AZ s3 dy;have th4:=AW.keep k4 (AW.keep (HN s3) QY);refine⟨_,rfl,xf,rfl,⟨_,a! jb⟩,o? ?_⟩;refine Xw (K:=K) (b:=EH!) (caps:=[("h",5)]) hq T! (CF.of jb) th4 (λH5 a5 t5 Q' sm ha ht qq=>?_) λH5 bs sm ep tb=>?_;(.refine⟨_,rfl,a5,_,0,d! t5.1,rfl,rfl,a! ha,rfl,_,rfl,rfl,_,rfl,?_⟩;rw[show M! (V.int t5.1=V.int V!)=M! (t5.1=V!) by by_cases z:t5.1=V!;(.rw[z];simp);.rw[decide_eq_false z,decide_eq_false λy=>z (by injection y)]];exact qq);refine⟨q,_,rfl,B! ⟨DU.of ep,λx6 hx6=>?_⟩⟩;have s6:=M? (.AZ (bs.map V.ref)) hx6;have e6:J? (upd H5 x6 (.AZ (bs.map V.ref))) x6 .AZ (bs.map V.ref):=Ac;have tZ:=AW.keep (HN s6) tb;have gY:=Al sm s6;generalize upd H5 x6 (.AZ (bs.map V.ref))=H6 at s6 e6 tZ gY;have W6:=W4.same gY;obtain⟨TC,WK⟩:=W6.ob;obtain⟨qG,hq7⟩:=W6.po.ob;have wV:=gY _ _ er;refine⟨_,rfl,CH! wV,_,rfl,p,CW,TC,_,_,rfl,WK,TW.cl,TW.nP,El _,W.po,qG,_,rfl,hq7,Ek!,_,rfl,_,rfl,_,rfl,?_⟩;refine⟨W.po,W.pd,_,_,_,_,_,_,rfl,W6.po,(BN! ZE l4.len),λt7 H7 ht7 pk S7 PK=>?_⟩;obtain⟨W7,eO⟩:=W6.JF S7 PK;have RV:=c? W6 eO;have wU:J? H7 r .BC (L.map Fg!):=eO _ _ wV (i6 _ rfl);refine⟨r,_,_,rfl,rfl,wU,Bb (Cz! l4.len),?_⟩;(have kq:BW H7 (upd H7 r (.BC (L.map (Fg!)++[V.int (bi)]))):=KB wU);have kk:=((HN gY).trans RV).trans kq;refine⟨_,_,L++[(bi,t7)],rfl,D! ZF Ac,?_,AU! ?_,k4.trans kk,?_⟩;(·(have e1:BP! (i+1)=bi:=A!);rw[e1,<-AQ];exact W7.keep λb o hb e=>Dz! (λz=>i6 _ rfl (FT! z)) e);(.rw[ZF,l4.BL,EZ,ZF];congr 1;show [bi]=[N!+V!];congr 1;lia);(.rw[EZ];exact Fe ⟨x6,bs,kq.AZ _ _ pk,lc kq.AZ RV.AZ e6,AW.keep kq (AW.keep RV tZ)⟩ (Ap (λ_ _ rr=>rr.keep kk) l4.NU));.intro b' o' e' H_;have iC:b'≠r:=Aj (WN b' o' e' H_) HZ;rw[Ab iC];exact eO b' o' (gY _ _ (QK b' o' e' H_)) H_
 .rintro σ H4 ⟨u5,u6,L,rfl,er,W4,l4,k4,QK⟩;exact pi (k r xf as ts L H4 fo W4 l4 (k4.AZ _ _ (s3 _ _ dy)) (AW.keep k4 (AW.keep (HN s3) QY)) QK er (λz=>by have:=W2.hs;rw[Ct! (({ W with JK:=IN }:FK).hs=W.hs),<-z,HZ] at this;cases this) (r? (Aj B9! HZ)))
universe E
def SJ(p:Addr)(W:FK)(I:K62F.Iq)(H H':Hp):Prop:=∀b o,CV!->BS!->b≠I.sd->b≠I.fd->b≠I.cd->sK
universe S
theorem SJ.DL(x:y?)(y:A3! H)(f:SJ p W I H H'):Ah!:=by
 have ne:∀{b:Addr} {o:HO} {d:Addr} {kvs:ap},CV!->(∀kvs,o≠.dK kvs)->Bs! d kvs->b≠d:=λ{b o d kvs} e n ed z=>by rw[z,ed] at e;injection e with e;exact n _ e.symm
 exact⟨λa xs e=>f a _ e (x.YK e) (A4! y.s) (A4! y.f) (A4! y.c),λa ob u e=>f a _ e (λm=>by obtain⟨o,e',_,h⟩:=x.some_at m;rw[e] at e';cases e';exact h _ _ rfl) (A4! y.s) (A4! y.f) (A4! y.c)⟩
theorem AO.off(x:y?)(f:Dy! (b∈BI!) sK):h? W:=x.keep λb o m e=>f b o e m
theorem yx(nd:D? (D9!).map):Eg! (D9!) k e/\Dt (kvsOf (D9!)) (G! k)=kvsOf (U!):=⟨p? Ll (Xv nd),X1 nd⟩
universe E
universe S
inductive Of(CW C CP CI:Addr)(K:W.Frag)(vs:W!)(H:Hp)(Q:VK)(E:XK):Prop
 | mk (p t:Addr) (W:FK) (k s g n u:Int) (e1 e2:X!) (e xs:Addr) (tick:Int) (io:Addr) (I:K62F.Iq) (_:vs=bv) (_:y?) (_:Dv! k Os n) (_:W.EN=D9!) (_:D? W.EN.map) (_:Bt! e [C? tick,L! xs]) (_:Eg! W.LD n io) (_:A3! H) (_:qb p W io I) (_:I.fs.length<=500) (_:I.ss.length<=500) (_:I.cs.length<=500) (_:BO!) (_:AV!) (_:((u=1/\(Cj! I.fs≠I.m->∀(x:Addr)(H':Hp),E0! (h? BV!) { I with ss:=putK I.ss (G! s) (C! xs),fs:=AI! I.fs } (DW! .BC []))/\(C8! I.fs->∀(x:Addr)(L:X!)(H':Hp),h? { W with EN:=U!,c:=k?,ls:=S? }->E0! (LW H' W.c g n 2 L W.qs.length) { I with ss:=putK I.ss (G! s) (C! xs),fs:=AI! I.fs } Dt!))\/(u≠1/\(Cj! I.cs≠I.m->∀(x:Addr)(H':Hp),E0! (h? BV!) { I with cs:=AI! I.cs } (DW! .BC []))/\(C8! I.cs->∃(m:Nat)(f c:GE)(a:re)(S:Ac!),m<=60/\K62F.Full { I with cs:=AI! I.cs } m f c a/\(∀k<m,RZ K H (a k) (S k))/\K62F.UD (K62F.GJ Eb!)/\W.JK.length<=400/\(∀e∈W.JK,e.1≠n)/\∀(x xf:Addr)(as:f?)(ts:Q!)(L:X!)(H':Hp),Found (K62F.GJ Eb!) ts->h? { W with EN:=U!,c:=k?,ls:=S?,JK:=IN }->gG H' W.c g ts L W.qs.length->Ed! xf->E0! Dd! { I with cs:=AI! I.cs } Dt!))))
theorem PX:q! [H?,"letter","sender",Cl!,"n","enclosed","last"] TD Fk:={}
theorem Jgt(F:l! "answer_came" "World.answer_came" Fk)(T:A7!)(TW:NE)(TI:K62F.RG K mg CI)(M1:DG K CI "first" "Inquiry.first" N1 CA! f1 d1)(M2:DG K CI "second" "Inquiry.second" K5 Bx! f2 d2)(M3:v? "ask_all" "World.ask_all" Ie KM f3 d3)(G3:Bh! f3 d3 KM Dk!)(M4:v? "let_all" "World.let_all" K1 EQ! f4 d4)(G4:Rs 4 f4 d4 EQ! (xz Me)) : Fi! 5 f fd (xz Of):=by
 have G1:d? f1 d1 CA! K62F.VG CI:=K62F.YN M1.fn TI T.len;have G2:d? f2 d2 Bx! K62F.SU CI:=K62F.WC M2.fn TI T.len;refine F.ok PX Cr! (C1!);.obtain⟨p,t,W,k,s,g,n,u,e1,e2,e,xs,tick,io,I,rfl,_⟩:=h;rfl
 .obtain⟨p,t,W,k,s,g,n,u,e1,e2,e,xs,tick,io,I,rfl,S,⟨a,et,ea⟩,ee,nde,he,vi,SI,off,zf,zs,zc,z1,z2,kk⟩:=h;have hu:=l?;have HP:wP:=W?;have LF:DI 2 _:=W?;obtain⟨dx,hp⟩:=S.ob;refine Do! PX.nd (wE 3 PX.nd SC (Ag! 4 PX.nd (s? SC) (Fd! 5 PX.nd (Wh Ch SC AL!)) (Ad (Bf (Az Ca (s? SC) Ag BC!) (wE 6 PX.nd (D6! (Dj! F?) TI.cl M1.mt G1 M1.bd (Aa E! (O? (s? ga) (s? ga)))) (Ay! (Wf (Fx (pv 6)) (Fb! M3.mt G3 LF M3.bd Bg (Aa x! (O? F? Ag))) (Es Af)))) A4) (Ad (Fd! 6 PX.nd (D6! (Dj! F?) TI.cl M2.mt G2 M2.bd (O? E! (s? ga)))) (Ay! (Wf (Fx (pv 6)) (Fb! M4.mt G4 hr M4.bd Bg (O? x! F?)) (Es Af)))))));have i9:=nde;rw[ee] at i9;obtain⟨ev,ed⟩:=yx i9;refine Ez! 2 s;refine Ez! 3 g;refine⟨_,rfl,t,_,4,k! a,rfl,rfl,Cf!,rfl,a,_,0,d! n,rfl,rfl,a! ea,rfl,?_⟩;have p5:=S.en;rw[ee] at p5;refine⟨_,rfl,p,CW,dx,_,_,rfl,hp,TW.cl,TW.nE,yj W,W.en,rfl,B! ⟨_,B! p5⟩,_,rfl,t,_,0,d! k,rfl,rfl,Cf!,rfl,_,Sum.inl k,_,p5,rfl,ev,?_⟩;rw[ed];obtain⟨W1,HF⟩:=xZ S (l:=U!);have NT:=c? S HF;have mD:A3! (FR! H W.en U!):=SI.keep (CJ! HF);generalize upd H W.en (.dK (kvsOf (U!)))=H1 at W1 HF NT mD;have pq:=NT.AZ _ _ et;have ea1:=NT.AZ _ _ ea;have pI:=NT.AZ _ _ he;obtain⟨E',HJ⟩:=W1.ob;obtain⟨bc,fg⟩:=mD.ob;(have gi:DM H1 W.iq Bi! (some (C! io)):=BT! (DM.k (k:=B! n) W1.iq) (Ct! ((BV!:FK).LD=W.LD)) vi);refine⟨_,rfl,t,_,4,k! a,rfl,rfl,a! pq,rfl,a,_,1,d! u,rfl,rfl,a! ea1,rfl,rfl,_,rfl,?_⟩;have rO:=off I.sd (B4! rfl);have rP:=off I.fd (Df! rfl);have rQ:=off I.cd (Dg! rfl);rcases kk with⟨u1,k1,k2⟩|⟨u1,k1,k2⟩;(.subst u1;refine B7 ?_;refine⟨_,rfl,p,CW,E',_,_,rfl,HJ,TW.cl,TW.nI,N8 _,_,rfl,W.iq,_,rfl,gi,io,bc,_,rfl,fg,Ev! K62F.VE,_,rfl,_,rfl,e,_,0,d! tick,rfl,rfl,a! pI,rfl,_,rfl,e,_,1,k! xs,rfl,rfl,a! pI,rfl,?_⟩;refine⟨io,I,s,tick,L! xs,rfl,mD,zf,zs,λH2 gF JB=>?_⟩;have W2:x? BV!:=AO.off W1 (r? (JB b o eb (DX! rO) (DX! rP)));have fw:SJ p W I H H2:=λb o eb hb n1 n2 n3=>JB b o Da! n1 n2;obtain⟨IY,GO⟩:=W2.ob;refine D4! rfl;by_cases c:C8! I.fs;(.rw[decide_eq_true (by rw[c])];refine B7 ?_;refine⟨_,rfl,p,IY,_,rfl,GO,Dp _ ZV,_,rfl,_,rfl,p,g,n,2,_,rfl,W2,z1,z2,λx L H3 W3 l3 UN ex _ _=>?_⟩;refine k2 c x L H3 W3 l3 (gF.keep (CJ! UN)) (Co! (UN b o E3! hb)) ex);.rw[DH! (λz=>c (by injection z))];refine By (Cw! (λx hx=>?_));have s3:=Aj! hx;exact k1 c x _ (W2.same s3) (gF.same s3) (Co! (be E3!)) Ac);.rw[DH! (λz=>u1 (by injection z))];refine By ?_;refine⟨_,rfl,p,CW,E',_,_,rfl,HJ,TW.cl,TW.nI,N8 _,_,rfl,W.iq,_,rfl,gi,io,bc,_,rfl,fg,Ev! K62F.VE,_,rfl,_,rfl,e,_,0,d! tick,rfl,rfl,a! pI,rfl,?_⟩;refine⟨io,I,s,tick,rfl,mD,zc,λH2 gF JB=>?_⟩;have W2:x? BV!:=AO.off W1 (r? (JB b o eb (DX! rQ)));have fw:SJ p W I H H2:=λb o eb hb n1 n2 n3=>JB b o Da! n3;obtain⟨IY,GO⟩:=W2.ob;refine D4! rfl;by_cases c:C8! I.cs;(.rw[decide_eq_true (by rw[c])];refine B7 ?_;obtain⟨m,f,cf,af,Sf,zm,fu,st,fi,z3,nf,k3⟩:=k2 c;have kt:=SJ.DL S SI fw;refine⟨_,rfl,p,IY,_,rfl,GO,Dp _ ZV,_,rfl,_,rfl,p,g,n,_,io,_,m,f,cf,af,Sf,rfl,W2,vi,gF,zm,fu,λj hj=>(st j hj).keep kt,fi,z1,z2,z3,nf,λx xf as ts L H3 fo W3 l3 VS th UN ex _ _=>?_⟩;exact k3 x xf as ts L H3 fo W3 l3 VS th (gF.keep (CJ! UN)) (Co! (UN b o E3! hb)) ex);.rw[DH! (λz=>c (by injection z))];refine By (Cw! (λx hx=>?_));have s3:=Aj! hx;exact k1 c x _ (W2.same s3) (gF.same s3) (Co! (be E3!)) Ac
inductive Sx(CW C CP CI:Addr)(vs:W!)(H:Hp)(Q:VK)(E:XK):Prop
 | mk (p:Addr) (h:Int) (W:FK) (q:Addr) (G:BX) (_:vs=Tk N?) (_:y?) (_:i!) (_:BO!) (_:AV!) (_:W.LD.length<=400) (_:(∀l∈W.LD,l.1≠Cb!)) (_:∀(io:Addr)(I:K62F.Iq)(L:X!)(H':Hp),h? { W with LD:=B5!,c:=k?,ls:=S? }->LW H' W.c h (Cb!) 1 L W.qs.length->A3! H'->qb p W io I->(Es! (b=io) (h! b))->I.m=R! W.qs.length->I.ss=[]->I.fs=[]->I.cs=[]->Ae!->Q (Y! (Cb!)) H')
theorem YL:q! (Cc! "n") BK! Z4:={}
theorem Jgs(F:l! B? "World.ask" Z4)(T:A7!)(TW:NE)(TI:K62F.RG K mg CI)(MH:DV! "house" "World.house" Em fH dH)(qS:Mk K CI fI)(FI:EU K "__init__" "Inquiry.__init__" T4 fI dI)(bI:Binds K dI Bf! [])(M1:v? "ask_all" "World.ask_all" Ie KM f1 d1)(G1:Bh! f1 d1 KM Dk!):DS! f fd BK! (AM! Sx CI):=by
 have GH:Sc 1 fH dH BK! (AM! Eh NH):=Ea MH.fn T TW;have GI:Sc 1 fI dI Bf! (K62F.MX CI):=ci (K62F.RR FI TI);have G1':Sc 2 f1 d1 KM Dk!:=ci G1;refine Gz F YL λvs H Q E h=>?_;obtain⟨p,h,W,q,G,rfl,S,i,z1,z2,z3,h1,k⟩:=h;refine R?;have hu:=l?;have HP:wP:=W?;obtain⟨dx,hp⟩:=S.ob;refine EQ (Ad (A3 (FF! MH.mt GH HP MH.bd (L? S!))) (wE 2 YL.nd (Bl Hs (Dp! My) Ag) (Ad (Am! E! (Ub qS GI hr (by rfl) TI.cP bI I! Bp (L? (Dp! Bs)))) (Ad (A3 (FF! M1.mt G1' hr M1.bd (Aa S! (O? E! Ag)))) (Dr! 2)))));refine⟨_,rfl,p,dx,_,rfl,hp,Dp W ZV,_,rfl,p,h,W,rfl,S,H! ⟨q,G,i,?_⟩⟩;refine⟨_,rfl,p,CW,dx,_,_,rfl,hp,TW.cl,TW.nI,N8 W,W.iq,_,rfl,S.iq,_,_,rfl,rfl,?_⟩;rw[Lm];refine⟨_,rfl,p,CW,dx,_,_,rfl,hp,TW.cl,TW.nH,Du W,W.hs,_,rfl,XV DU.of S.hs,λio bc oC bL oF=>?_⟩;refine⟨io,bc,_,rfl,Ac,λH1 I lJ A1 im is oP ic n1 n2 n3=>DK!⟩;have s0:Bh H (upd (upd H bc (.own io)) io (.ins CI bc [])):=λb o e=>No (Ab (Aj e oC)) (Ab (Aj e bL)) e
 have s1:Bh H H1:=λb o e=>lJ b o (s0 b o e) (Aj e oC);have E_:Es! (b=io) (h! b):=Z! (by rcases hb with rfl|rfl|rfl|rfl;(.exact oC);(.exact Bw s0 n1);(.exact Bw s0 n2);.exact Bw s0 n3)
 have off:qb p W io I:=Z! (S.NN (E_ b hb));have S1:=S.same s1;obtain⟨E',HJ⟩:=S1.ob;refine⟨_,rfl,p,CW,E',_,_,rfl,HJ,TW.cl,TW.nI,N8 W,_,rfl,W.iq,_,rfl,F_.k (k:=Sum.inl (Cb!)) S1.iq (DO! Lm Bb),?_⟩;rw[U1 h1];obtain⟨W2,NQ⟩:=S1.rp (l:=B5!);have A2:A3! (FR! H1 W.iq B5!):=A1.keep (CJ! NQ);have WN:BB! (FR! H1 W.iq B5!):=r? (NQ b o (s1 _ _ eb) hb);generalize upd H1 W.iq (.dK (kvsOf (B5!)))=H2 at W2 NQ A2 WN;obtain⟨IY,GO⟩:=W2.ob;refine⟨_,rfl,p,IY,_,rfl,GO,Dp _ ZV,_,rfl,_,rfl,p,h,Cb!,1,_,rfl,W2,z1,z2,λx L H3 W3 l3 UN _ _ _=>?_⟩;refine pi (k io I L H3 W3 l3 (A2.keep (CJ! UN)) off E_ ?_ is oP ic (r? (UN b o B9! hb)));rw[im];simp
universe E
universe S
inductive Sw(CW C CP CI:Addr)(K:W.Frag)(vs:W!)(H:Hp)(Q:VK)(E:XK):Prop
 | mk (p:Addr) (n:Int) (W:FK) (l1 l2:X!) (t:Addr) (m s g:Int) (kind:Str) (v:V) (_:vs=Tk Ab!) (_:y?) (_:W.ls=l1++(n,t)::l2) (_:Bt! t [C? m,A? kind,C? s,C? g,v]) (_:∀H1,Bg! { W with ls:=AS! }->ut->((kind=z?/\Ks CW C CP bv H1 Q E)\/(kind=B?/\Fv CW C CP K bv H1 Q E)\/(kind=Os/\Of CW C CP CI K bv H1 Q E)\/(kind="let"/\Fu CW C CP bv H1 Q E)\/((WF z?/\WF B?/\WF Os/\WF "let")/\Gn CW C CP bv H1 (λ_ H2=>∀r,H2 r=none->Q (C! r) (upd H2 r (.BC []))) E)))
theorem Jgr(F:l! BM! "World.deliver" Iy)(TW:NE)(TP:Ey!)(M1:DG K CP "taken" "Post.taken" Nz Be! f1 d1)(M2:Bo! "weight_came" "World.weight_came" Kz f2 d2)(G2:B0! f2 d2 (Is Gn))(M3:Bo! "pass_came" "World.pass_came" Tp f3 d3)(G3:Fi! 2 f3 d3 (Is Ks))(M4:Bo! "ask_came" "World.ask_came" Iz f4 d4)(G4:B0! f4 d4 (AM! Fv K))(M5:Bo! "answer_came" "World.answer_came" Fk f5 d5)(G5:Fi! 5 f5 d5 (xz Of))(M6:Bo! "let_came" "World.let_came" Iw f6 d6)(G6:B0! f6 d6 (Is Fu)):Sc 6 f fd Be! (xz Sw):=by
 have G1:Sc 1 f1 d1 Be! (V1 CP NL):=Jb8 M1.fn TP;have qt:DS! f2 d2 TD (Is Gn):=ci G2;have G3':Sc 2 f3 d3 TD (Is Ks):=ci G3;have G4':DS! f4 d4 TD (AM! Fv K):=ci G4;have G5':GM f5 d5 TD (xz Of):=ci G5;have G6':DS! f6 d6 TD (Is Fu):=ci G6;refine uW F M' Cr! (C1!);.obtain⟨p,n,W,l1,l2,t,m,s,g,kind,v,rfl,_⟩:=h;rfl
 .obtain⟨p,n,W,l1,l2,t,m,s,g,kind,v,rfl,S,el,et,k⟩:=h;have HP:wP:=W?;have LF:DI 2 _:=W?;have Y_:DI 3 _:=W?;obtain⟨dx,hp⟩:=S.ob;obtain⟨E',hq⟩:=S.po.ob;refine Fj! M'.nd (As (pl:=_) Ch TP.cl M1.mt G1 HP M1.bd I! Bp (L? S!)) (Ag! 3 M'.nd (s? E!) (EU! M3.mt G3' LF M3.bd) (Ad (EU! M4.mt G4' Y_ M4.bd) (Ad (EU! M5.mt G5' hr M5.bd) (Ad (EU! M6.mt G6' Y_ M6.bd) (Ad (A3 (FF! M2.mt qt Y_ M2.bd (L? E!))) (Ae (Ay (Es Af))))))));refine⟨_,rfl,p,CW,dx,_,_,rfl,hp,TW.cl,TW.nP,El W,W.po,E',_,rfl,hq,Ek!,_,rfl,W.po,W.pd,W.c,W.ls,n,rfl,S.po,?_⟩;refine B! ⟨l1,l2,t,el,BW!⟩;obtain⟨W1,HF⟩:=S.JF S1 λb o e h1 h2=>KY b o e h2;have NT:=c? S HF;obtain⟨IY,GO⟩:=W1.ob;refine⟨_,rfl,t,_,_,_,rfl,rfl,a! (NT.AZ _ _ et),rfl,?_⟩;have k2:=k H1 W1 HF;clear k;rcases k2 with⟨rfl,k⟩|⟨rfl,k⟩|⟨rfl,k⟩|⟨rfl,k⟩|⟨nk,k⟩;(.exact Kj EB!);(.exact IV (Kj EB!));(.exact IV (IV (Kj EB!)));(.exact IV (IV (IV (Kj EB!))));.refine IV (ne:=nk.1) (IV (ne:=nk.2.1) (IV (ne:=nk.2.2.1) (IV (ne:=nk.2.2.2) ⟨_,rfl,p,IY,_,rfl,GO,Dp _ ZV,_,rfl,?_⟩)));obtain⟨p',t',W',n',s',g',kI,tb,wt,q,G,G',e1,h1,h2,h3,h4,h5,h6⟩:=k;exact⟨p',t',W',n',s',g',kI,tb,wt,q,G,G',e1,h1,h2,h3,h4,h5,λH2 a1 a2=>⟨BE _,h6 H2 a1 a2⟩⟩
universe E
def JW(K:W.Frag)(H:Hp)(EN:X!)(y:Int×Addr):LL->Prop
 | .w l=>IZ H y.2 y.1 l.kind l.s l.g l.th l.x
 | .ask s g n u=>NZ H y.2 y.1 B? s g n u
 | .MJ s g n u tick S=>NZ H y.2 y.1 Os s g n u/\∃e xs,(y.1,e)∈EN/\Bt! e [C? tick,L! xs]/\RZ K H xs S
 | .lt s g ts=>RJ H y.2 y.1 s g ts
theorem JW.keep(h:JW K H EN y z)(k:Ah!):JW K H' EN y z:=by cases z with | w l=>exact IZ.keep h k | ask s g n u=>exact NZ.keep h k | MJ s g n u tick S =>obtain⟨h1,e,xs,h2,h3,h4⟩:=h;exact⟨h1.keep k,e,xs,h2,Bd! h3,h4.keep k⟩ | lt s g ts=>exact RJ.keep h k
theorem JW.more(h:JW K H EN y z)(sb:∀e,(y.1,e)∈EN->(y.1,e)∈si):JW K H si y z:=by cases z with | w l=>exact h | ask s g n u=>exact h | MJ s g n u tick S =>obtain⟨h1,e,xs,h2,h3,h4⟩:=h;exact⟨h1,e,xs,sb e h2,h3,h4⟩ | lt s g ts=>exact h
theorem Dx(x:BA! H EN ys al)(k:Ah!):BA! H' EN ys al:=Ap (λ_ _ r=>r.keep k) x
structure Qy where
 n:Int
 io:Addr
 I:K62F.Iq
 fi:DZ!
 se:List (Int×Int)
def Cy(y:Qy):f?:=[y.io,y.I.sd,y.I.fd,y.I.cd]
theorem EV:b∈Cy y↔(b=y.io\/b=y.I.sd\/b=y.I.fd\/b=y.I.cd):=by simp[Cy]
structure PU(CI:Addr)(K:W.Frag)(H:Hp)(m:Nat)(y:Qy):Prop where
 at_:K62F.FF CI H y.io y.I
 many:y.I.m=R! m
 fs:y.I.fs=y.fi.map (EW! w?)
 cs:y.I.cs=y.se.map (EW! r.2)
 ss:At (λ(kv:Key×V)(r:Int×Int×HS)=>Eu!) y.I.ss y.fi
universe S
variable {CI:Addr}{K:W.Frag}{H H':Hp}{m:Nat}{y:Qy}
theorem PU.has(x:By! H)(hb:b∈Cy y):∃o,CV!/\(∀xs,o≠.AZ xs)/\(∀xs,o≠.BC xs)/\(∀ob u,o≠.GF ob u):=by
 rcases EV.mp hb with rfl|rfl|rfl|rfl;.obtain⟨dx,e⟩:=x.at_.ob;exact El! e
 .exact El! x.at_.s
 .exact El! x.at_.f
 .exact El! x.at_.c
theorem PU.keep(x:By! H)(k:∀b o,b∈Cy y->CV!->sK)(kt:Ah!):By! H' :=⟨x.at_.keep λb hb o e=>k b o (EV.mpr hb) e,x.many,x.fs,x.cs,Ap (λ_ _ h9=>by obtain⟨a,e,s⟩:=h9;exact⟨a,e,s.keep kt⟩) x.ss⟩
universe E
def Kn(ns:Aa!):LL->Prop
 | .ask _ _ n u=>n∈ns/\(u=1\/u=2)
 | .MJ _ _ n u _ _=>n∈ns/\(u=1\/u=2)
 | _=>True
def F3(qs:DI!):Int:=(qs.map λq=>cr).sum
theorem Rc:∀{l:DI!} {i:Nat} {q r:Addr×BX},l[i]?=some q->F3 (l.set i r)=F3 l-cr+r.2.AU
 | [],i,q,r,h=>by simp at h
 | a::l,0,q,r,h=>by (have e:a=q:=A2!);subst e;simp only[List.set_cons_zero,F3,AI,CG];lia
 | a::l,i+1,q,r,h=>by have ih:=Rc (l:=l) (i:=i) (q:=q) (r:=r) (A2!);simp only[List.set_cons_succ,F3,AI,CG] at *;lia
structure WI(CW C CP CI:Addr)(K:W.Frag)(H:Hp)(p:Addr)(W:FK)(D:T2->Prop)(m n:Nat)(al:G?)(ys:am):Prop where
 wa:y?
 wg:Wg D m n W.share W.qs UF
 md:Bz!<=n
 ob:∀(j:Nat) q G,W.qs[j]?=some bn->∀t∈g! G.AH.map,0<=t.2
 m1:1<=m
 m5:m<=5
 lw:Fc! W.ls al
 en:D? W.EN.map
 ec:∀e∈W.EN,e.1<=W.c
 ez:W.EN.length<=n
 fz:W.JK.length<=n
 lz:al.length<=(EH al).length+5*n
 iz:ys.length<=n
 iq:W.LD=ys.map Cy!
 fe:ys.map Op=(List.range ys.length).map λ(j:Nat)=>R! j+1
 nd:(ys.flatMap Cy).Nodup
 off:∀y∈ys,∀b∈Cy y,BS!
 at_:∀y∈ys,By! H
 iv:∀y∈ys,OJ m W.qs UF al y.n y.fi y.se
 kn:∀z∈al,Kn (ys.map Op) z
 ff:∀e∈W.JK,∃y∈ys,y.n=e.1/\y.se.length=m
 lt:∀s g ts,LL.lt s g ts∈al->0<=g/\g<m/\∃F,NX W.qs UF F/\(∀t,F t->D t)/\∀t,t∈ts↔(F t/\t.1=g)
def ia(p:Addr)(W:FK)(ys:am)(H H':Hp):Prop:=Cu! BS! (b∉ys.flatMap Cy) sK
universe S
variable {CW C CP CI p:Addr}{K:W.Frag}{H H1:Hp}{W W':FK}{D:T2->Prop}{m n:Nat}{al al':List LL}{ys:List Qy}
theorem WI.same(x:F!)(s:Bh H H1):Fn! H1 n :={ x with wa:=x.wa.same s,lw:=Dx x.lw (HN s),at_:=λy hy=>(x.at_ y hy).keep (λb o _ e=>s _ _ e) (HN s) }
theorem WI.len(x:F!):W.ls.length=al.length/\(EH al).length<=n:=by have:=P? x.lw;have:=x.wg.wl.cnt;lia
theorem Vq{i:Nat}{q:Addr}{G G':BX}{c:Int}{Ls:X!}(hi:W.qs[i]?=some bn)(nw:Ak!):Fe! (Bv p (DB! i)) BI!:=Z! (by rcases ZI hb with hb|hb;(.exact B! (ZB _ hb));.obtain⟨z,hz,hm⟩:=CU.mp hb;have hz:z∈FK! i:=hz;rcases NB hz with hz|rfl;(.exact B! (ZC _ (AY! CU.mpr hm)));.have mq:=ZP hi;rcases hm with hm|hm;(.exact B! (ZC _ (CU.mpr ⟨bn,mq,B! hm⟩)));.rcases nw b hm with h|h;(.exact B! (ZC _ (CU.mpr ⟨bn,mq,H! h⟩)));.exact H! h)
theorem GV.wi(f:ut):ia p W ys H H1:=λb o e h _=>f b o e h
theorem WI.VC(x:F!)(f:ut)(hy:y∈ys):By! H1:=(x.at_ y hy).keep (λb o hb e=>f b o e (x.off y hy b hb)) (GV.DL x.wa f)
theorem WI.rD(x:F!)(sub:Fe! Ad! BI!):∀y∈ys,∀b∈Cy y,b∉Ad!:=λy hy b hb m=>by rcases sub b m with h|h;(.exact x.off y hy b hb h);.obtain⟨o,e,_⟩:=(x.at_ y hy).has hb;rw[e] at h;cases h
theorem WI.X_(x:F!){j:Nat}{q:Addr}{G G':BX}{c:Int}{Ls:X!}(hi:W.qs[j]?=some bn)(W1:Bg! (DB! j))(wf:ut)(nw:Ak!)(tk:Cm!)(md:Cn!)(mk:DC!)(ou:Ea!)(wg:D5! Fa! (EH al'))(st:Ef! Fa! (EH al'))(hA:∀n u,Cs al' n u=Cs al n u)(hB:∀n u,Ck al' n u=Ck al n u)(lw:BA! H1 W.EN Ls al')(lz:al'.length<=(EH al').length+5*(n+1))(hc:W.c<=c)(sub:∀z∈al',z∈al\/∃l,z=.w l):WI CW C CP CI K H1 p (DB! j) D m (n+1) al' ys:=by
 have a1:=x.md;have a2:=x.ez;have a3:=x.fz;have a4:=x.iz;refine⟨W1,wg,?_,λj2 q2 G2 e2 t ht=>?_,x.m1,x.m5,lw,x.en,λe he=>Int.le_trans (x.ec e he) hc,C2! (n+1),C3! (n+1),lz,A!,x.iq,x.fe,x.nd,x.rD (Vq hi nw),λy hy=>x.VC wf hy,λy hy=>(x.iv y hy).X_ hi tk md (hA y.n) (hB y.n) st,E?,x.ff,BX!⟩;.show F3 Fa!<=_;rw[Rc hi];show Bz!-G.AU+G'.AU<=Ev (n+1);lia
 .have e2:(W.qs.set j (q,G'))[j2]?=some (q2,G2):=e2;rcases Ew e2 with⟨_,e3,_⟩|⟨_,e3⟩;(.rw[e3] at ht;rcases ou t ht with h|h;(.exact x.ob j q G hi t h);.exact h);.exact x.ob j2 q2 G2 e3 t ht
 .rcases sub z hz with h|⟨l,rfl⟩;(.exact x.kn z h);.trivial
 .rcases sub _ hz with h|⟨l,h⟩;(.obtain⟨g0,g1,F,sF,fD,ht⟩:=D7!;exact⟨g0,g1,F,st F sF,fD,ht⟩);.cases h
universe E
inductive Dd where
 | make (h:Int)
 | three (w:Str) (h:Int) (a b:Addr)
 | free (h:Int) (b:Addr)
 | send (h g:Int) (b:Addr)
 | clean (h:Int)
 | ask (h:Int)
 | deliver (n:Int)
def l_:Dd->W!
 | .make h=>[A? "make",N?]
 | .three w h a b=>[A? w,N?,L! a,L! b]
 | .free h b=>[A? "free",N?,L! b]
 | .send h g b=>[A? "send",N?,C? g,L! b]
 | .clean h=>[A? "clean",N?]
 | .ask h=>[A? B?,N?]
 | .deliver n=>[A? BM!,Ab!]
theorem fJ(k:tb D σ H)(ex:Bt! x (A? wd::r))(hv:σ[i]?=some (some (C! x)):=by rfl)(ne:¬wd=c:=by decide +kernel):Sm (Fi (NS UP (NS (Ql K) (Bx i) (tC (Y! 0))) (tC (A? c)))) ta tb D σ H :=⟨_,hv,x,_,0,_,rfl,rfl,a! ex,A9 (a?) rfl,rfl,_,rfl,D! (decide_eq_false (show ¬V.str wd=V.str c from λz=>ne (V.str.inj z))) (By k)⟩
theorem Jlx(k:ta D σ H)(ex:Bt! x (A? c::r))(hv:σ[i]?=some (some (C! x)):=by rfl):Sm (Fi (NS UP (NS (Ql K) (Bx i) (tC (Y! 0))) (tC (A? c)))) ta tb D σ H :=⟨_,hv,x,_,0,_,rfl,rfl,a! ex,A9 (a?) rfl,rfl,_,rfl,D! (decide_eq_true rfl) (B7 k)⟩
universe S
structure Wm(P:Program)(w:World)(K:W.Frag)(mg:Str->Option Value)(base:Heap)(CW C CP CI NH DJ DY MI NW f1 f2 f3 f4 f5 f6 f7 f8 f9:Addr)(d1 d2 d3 d4 d5 d6 d7 d8 d9:FuncData):Prop where
 make:DV! "make" "World.make" Tq f1 d1
 hold:v? Z? "World.hold" Tr As! f2 d2
 drop:v? AC! "World.drop" Tt As! f3 d3
 take:v? AD! "World.take" Tn As! f4 d4
 free:v? "free" "World.free" Ts (Cc! "b") f5 d5
 send:v? "send" "World.send" To [H?,"h","g","b"] f6 d6
 clean:DV! "clean" "World.clean" Nx f7 d7
 ask:DV! B? "World.ask" Z4 f9 d9
 deliver:v? BM! "World.deliver" Iy Be! f8 d8
 kO:GM f1 d1 BK! (AM! Sr NH)
 kP:GM f2 d2 As! (Ss CW C CP NH DJ DY)
 kR:GM f3 d3 As! (Sv CW C CP NH DJ DY MI)
 kM:GM f4 d4 As! (Sq CW C CP NH DJ DY MI)
 kQ:GM f5 d5 (Cc! "b") (Su CW C CP NH DJ)
 kN:GM f6 d6 [H?,"h","g","b"] (Nv CW C CP DJ NW)
 eI:GM f7 d7 BK! (Is Kt)
 sS:GM f9 d9 BK! (AM! Sx CI)
 YQ:Sc 6 f8 d8 Be! (xz Sw)
def U'(CW C CP CI NH DJ DY MI NW:Addr)(K:W.Frag)(p:Addr)(H:Hp)(Q:VK)(E:XK):Dd->Prop
 | .make h=>Sr CW C CP NH (Tk N?) H Q E
 | .three x h a b=>(x=Z?/\Ss CW C CP NH DJ DY (Dq! (L! a)) H Q E)\/(x=AC!/\Sv CW C CP NH DJ DY MI (Dq! (L! a)) H Q E)\/(x=AD!/\Sq CW C CP NH DJ DY MI (Dq! (L! a)) H Q E)
 | .free h b=>Su CW C CP NH DJ [AG!,N?,L! b] H Q E
 | .send h g b=>Nv CW C CP DJ NW (Dq! (C? g)) H Q E
 | .clean h=>Kt CW C CP (Tk N?) H Q E
 | .ask h=>Sx CW C CP CI (Tk N?) H Q E
 | .deliver n=>Sw CW C CP CI K (Tk Ab!) H Q E
inductive qX(CW C CP CI NH DJ DY MI NW:Addr)(K:W.Frag)(vs:W!)(H:Hp)(Q:VK)(E:XK):Prop
 | mk (p x dx:Addr) (fs:List (Str×V)) (dd:Dd) (_:vs=Tk (L! x)) (_:J? H x .AZ (l_ dd)) (_:H p=some (.ins CW dx fs)) (_:(∀n:Str,(["make",Z?,AC!,AD!,"free","send","clean",B?,BM!]:List Str).contains n=true->fs.lookup n=none)) (_:AK! dd)
theorem i5:q! ["_law_world","_law_deed_here","_law_word"] ["_law_world","_law_deed_here"] kj:={}
theorem Jk0(F:l! "_law_do" "_law_do" kj)(TW:NE)(M:Wm P w K mg base CW C CP CI NH DJ DY MI NW f1 f2 f3 f4 f5 f6 f7 f8 f9 d1 d2 d3 d4 d5 d6 d7 d8 d9) : Sc 7 f fd ["_law_world","_law_deed_here"] (qX CW C CP CI NH DJ DY MI NW K):=by refine Gz F i5 λvs H Q E h=>?_;obtain⟨p,x,dx,fs,dd,rfl,ex,hp,fl,k⟩:=h;refine R?;have aK:DI 5 _:=W?;refine Do! i5.nd (ER! M.make.mt M.kO M.make.bd Bk! M.hold.mt M.kP M.hold.bd En! (ER! M.drop.mt M.kR M.drop.bd En! M.take.mt M.kM M.take.bd En! (ER! M.free.mt M.kQ M.free.bd (O? SC SC) M.send.mt M.kN M.send.bd En! (ER! M.clean.mt M.eI M.clean.bd Bk! M.ask.mt M.sS M.ask.bd Bk! (Ae (Ay (FF! M.deliver.mt M.YQ hr M.deliver.bd Bk!)))))));cases dd with | make h =>refine Fh! (Kj ?_);exact E9! | three wd h a b =>rcases k with⟨rfl,k⟩|⟨rfl,k⟩|⟨rfl,k⟩;(.refine Fh! (IV (Kj ?_));exact FB!);(.refine Fh! (IV (IV (Kj ?_)));exact FB!);.refine Aq! D2!;exact FB! | free h b =>refine Aq! (IV (IV (Kj ?_)));exact⟨_,rfl,p,dx,_,rfl,hp,fl _ ZV,_,rfl,x,_,_,_,rfl,rfl,a! ex,rfl,_,rfl,x,_,_,_,rfl,rfl,a! ex,rfl,k⟩ | send h g b =>refine Aq! (Ai! D2!);exact FB! | clean h =>refine Aq! (IV (IV (IV D2!)));exact E9! | ask h =>refine Aq! (Ai! (Ai! D2!));exact E9! | deliver n =>refine Aq! (Ai! (Ai! (Ai! ?_)));exact E9!
universe E
theorem C8:∀{as:jp} {bs:List β} {cs:jp} {ds:List β},o0 as bs->o0 cs ds->o0 (as++cs) (bs++ds)
 | _,_,_,_,.nil,k=>k
 | _,_,_,_,.cons h t,k=>q? h (C8 t k)
theorem Dj{α β γ:Type}{f:β->γ}{R:α->γ->Prop}:∀{l:jp} {m:List β},At (λa b=>R a (f b)) l m->Paired R l (m.map f)
 | _,_,.nil=>I!
 | _,_,.cons h t=>q? h (Dj t)
theorem Rw(h:FE! l.map):l.find? (AW! (q.1=t))=some (t,Ai l t):=by unfold Ai;cases e:l.find? (AW! (q.1=t)) with | none =>obtain⟨q,hq,e2⟩:=ZN h;have:=AY.mp e q hq;simp[e2] at this | some q =>have:=DO e;have:q.1=t:=BO this;rw[<-this];rfl
inductive QX(W W':FK)(j:Nat)(G G':BX):Prop
 | mk q (_:W.qs[j]?=some bn) (_:W'.qs=FK! j)
structure Nq(G G':BX):Prop where
 BL:G'.BL=G.BL
 AU:G'.AU=G.AU
 AH:∀t∈g! G'.AH.map,FE! G.AH.map
 holds:∀t∈g! G'.AH.map,Bn G'.holds t=Bn G.holds t
def Fp(p:Addr)(W:FK)(ys:am)(W':FK)(UM:am)(H:Hp):Prop:=∀b,(b∈Ad!\/b∈UM.flatMap Cy)->b∈BI!\/b∈ys.flatMap Cy\/h! b
theorem Zf{p:Addr}{W:FK}{ys:am}{H:Hp}{i:Nat}{q:Addr}{G G':BX}{c:Int}{Ls:X!}(hi:W.qs[i]?=some bn)(nw:Ak!):Fp p W ys (DB! i) ys H:=Z! (by rcases hb with h|h;(.rcases Vq hi nw b h with h|h;(.exact FM);.exact o! h);.exact j? h)
theorem Ve{p:Addr}{W W':FK}{ys i1 i2:am}{y y':Qy}{H:Hp}(ey:EE!)(qf:Cy y'=Cy y)(ew:Ad!=BI!):Fp p W ys W' (db) H:=Z! (by rcases hb with h|h;(.exact .inl (Y? ew h));.refine j? ?_;rw[ey,BV,B_,<-qf];rw[BV,B_] at h;exact h)
def Iu(l:LT):List (Int×T2):=if l.kind=Z? then [(l.g,l.th)] else if l.kind=z? then [(l.x,l.th)] else []
def Di(ls:Bc!):List (Int×T2):=ls.flatMap Iu
theorem Ej(a b:Bc!):Di (I?)=Di a++Di b:=BV ..
def KT(CW C CP CI p:Addr)(K:W.Frag)(W:FK)(m n:Nat)(ys:am)(H:Hp)(Q:VK)(R:V->FK->G?->Hp->Prop):Prop:=∀(v:V)(W':FK)(D':T2->Prop)(al':G?)(UM:am)(H':Hp),Go->Fp p W ys W' UM H->WI CW C CP CI K H' p W' D' m (n+1) al' UM->ia p W ys H H'->W'.hs=W.hs->Q v H'
universe S
variable {CW C CP CI NH NL DJ DY MI NW p:Addr}{K:W.Frag}{H H1:Hp}{W W':FK}{D:T2->Prop}{m n:Nat}{al:List LL}{ys:List Qy}{Q:VK}{E:XK}{h:Int}{q:Addr}{G G':BX}
theorem Jhj{a:Addr}(ha:h! a):Fe! (BI (IM (UR G a))) (BI G):=Z! (by rw[Jfb] at hb;rcases ZI hb with hb|hb;(.exact B! hb);.rw[ZK hb];exact H! ha)
theorem Rq(ta:T2)(l:Q!):BI { G with A_:=G.A_+1,holds:=Cw G.holds ta l }=BI G:=by unfold BI;show G.h::G.o::G.l::G.r::(Cw G.holds ta l).map (·.2.1)=_;rw[Ky]
theorem qV(ok:wp):D? G.holds.map:=D! ok.ke ok.on
theorem WI.SQ(x:F!)(i:i!)(W1:Bg! { W with qs:=FK! h.toNat })(wf:ut)(nw:Ak!)(tk:Cm!)(md:Cn!)(mk:DC!)(ou:Ea!)(wg:D5! Al! UF)(st:Ef! Al! UF)(k:v!)(v:V)(hr:∀W',v4->R v W' al H1):Q v H1 :=EA! v _ al H1 (hr _ (b? q i.2)) (Zf (c:=W.c) (Ls:=W.ls) i.2 nw) (x.X_ (c:=W.c) (Ls:=W.ls) i.2 W1 wf nw tk md mk ou wg st Cp! Cp! (Dx x.lw (GV.DL x.wa wf)) (by have:=x.lz;lia) T0 (j! (B! hz)))
theorem Jhp(x:F!)(hn:y!)(i:i!)(k:v!)(hR:∀t a W' H',BD! (IM (UR G a))->FD! H' t ED!->R (C! t) W' al H'):FW! .make h:=by
 obtain⟨s,nu⟩:=IR;have z1:=s.ok.hz;have z2:=s.ok.oz;have z3:=s.ok.OM;refine⟨p,h,W,rfl,x.wa,H! ⟨q,G,i,q,G,rfl,B2!,A!,A!,A!,s.ok.fresh.1,s.ok.fresh.2.1,s.ok.fresh.2.2,λt a H1 ht ha et S1 KY=>?_⟩⟩;have UQ:=Jhj (G:=G) ha;obtain⟨W1,HF⟩:=CN! (IM (UR G a));refine x.SQ i W1 HF UQ FI! FJ! T0 (K! ?_) (x.wg.make i.2 hn a) (Vv i.2 nu a) k _ λW' c=>hR _ _ _ _ c et;have ht:t∈(G.AH++[((ED!,0):T2×Int)]).map (ES! q.1):=ht;rw[ZF] at ht;rcases ZI ht with h|h;.exact FM
 ·(have e:t=ED!:=A2!);rw[e];exact H! s.m0
theorem Jhq(x:F!)(hn:y!)(i:i!)(ea:B8!)(eb:n?)(ha:CO!)(hb:AE!)(hh:BY!)(k:v!)(hR:EJ! (Az! Ng)):AK! (.three Z? h a b):=by obtain⟨s,nu⟩:=IR;obtain⟨ad,fd⟩:=s.ok.find ha hh;have z1:=(s.ok.get ta).2.1;refine B! ⟨rfl,p,h,_,_,W,rfl,x.wa,H! ⟨q,G,i,q,a,b,G,ta,tb,rfl,B2!,ea,eb,o! ⟨ha,hb,hh,ad,_,fd,A!,BW!⟩⟩⟩;rw[Q2 (ym (i.at x.wa).nd) (qV s.ok) fd] at S1;have UQ:FO! (Az! Ng):=Z! (.inl (FT! (Rq (G:=G) ta (Bj (Bn G.holds ta) tb))));obtain⟨W1,HF⟩:=CN! (Ng G ta tb);obtain⟨g1,g2⟩:=x.wg.hold i.2 (ta:=ta) hb;exact E4!
theorem Jhs(x:F!)(hn:y!)(i:i!)(ea:B8!)(eb:n?)(ha:CO!)(hb:Eh!)(hh:BY!)(k:v!)(hR:EJ! (Az! L1)):AK! (.three AC! h a b):=by obtain⟨s,nu⟩:=IR;obtain⟨ad,fd⟩:=s.ok.find ha hh;refine j? ⟨rfl,p,h,_,_,W,rfl,x.wa,H! ⟨q,G,i,q,a,b,G,ta,tb,rfl,B2!,ea,eb,o! ⟨ha,hh,ad,_,fd,i? hb BW!⟩⟩⟩;rw[Q2 (ym (i.at x.wa).nd) (qV s.ok) fd] at S1;have UQ:FO! (Az! L1):=Z! (.inl (FT! (Rq (G:=G) ta (E2 (Bn G.holds ta) tb))));obtain⟨W1,HF⟩:=CN! (L1 G ta tb);obtain⟨g1,g2⟩:=x.wg.drop i.2 ta tb;exact E4!
theorem Jhn(x:F!)(hn:y!)(i:i!)(ea:B8!)(eb:n?)(ha:CO!)(hb:Eh!)(hh:BY!)(k:v!)(hR:EJ! (Lz G tb)):AK! (.three AD! h a b):=by obtain⟨s,nu⟩:=IR;obtain⟨ad,fd⟩:=s.ok.find ha hh;have z1:=s.ok.hz;refine o! ⟨rfl,p,h,_,_,W,rfl,x.wa,H! ⟨q,G,i,q,a,b,G,ta,tb,rfl,B2!,ea,eb,A!,o! ⟨ha,hh,ad,_,fd,i? hb BW!⟩⟩⟩;have UQ:FO! (Lz G tb):=Z! (B! hb);obtain⟨W1,HF⟩:=CN! (Lz G tb);obtain⟨g1,g2⟩:=x.wg.take i.2 ha hb;exact E4!
theorem Jhr(x:F!)(hn:y!)(i:i!)(eb:n?)(hb:AE!)(k:v!)(hR:EJ! (L0 G tb)):AK! (.free h b):=by refine⟨p,h,_,W,rfl,x.wa,H! ⟨q,G,i,q,b,G,tb,rfl,B2!,eb,i? hb BW!⟩⟩;have UQ:FO! (L0 G tb):=Z! (B! hb);obtain⟨W1,HF⟩:=CN! (L0 G tb);obtain⟨g1,g2⟩:=x.wg.free i.2 tb;exact E4!
theorem WI.au(x:F!)(i:i!){c:Int}{L:X!}{ls:Bc!}(W1:Bg! (DD! S?))(wf:ut)(nw:Ak!)(tk:Cm!)(md:Cn!)(mk:DC!)(ou:Ea!)(wg:D5! Al! (EH al++ls))(st:Ef! Al! (EH al++ls))(hc:W.c<=c)(lw:At (λ(y:Int×Addr) (l:LT)=>IZ H1 y.2 y.1 l.kind l.s l.g l.th l.x) L ls)(k:v!)(v:V)(hr:∀W' al',v4->EH al'=EH al++ls->R v W' al' H1):Q v H1:=by
 have e:EH (al++Aw!)=EH al++ls:=U? Cg qi
 have zl:=x.lz;refine EA! v (DD! S?) (al++Aw!) H1 (hr _ _ (b? q i.2) e) (Zf i.2 nw) (x.X_ (al':=al++Aw!) i.2 W1 wf nw tk md mk ou (DM! wg) (DM! st) (λn u=>BZ! Bz (Mj ls n u).1) (λn u=>BZ! Bu (Mj ls n u).2) (C8 (Dx x.lw (GV.DL x.wa wf)) (CM! LL.w H1 W.EN lw)) ?_ hc E?);.rw[e,ZE,ZE,ZA];lia
 .rcases ZI hz with h|h;(.exact FM);.obtain⟨l,_,rfl⟩:=ZN h;exact i? l rfl
theorem WI.OM(x:F!)(hn:y!):W.ls.length<=360:=by have:=x.len;have:=x.lz;lia
theorem Jho(x:F!)(hn:y!)(i:i!){g:Int}(g0:0<=g)(g1:g<m){b:Addr}{tb:T2}(eb:n?)(hb:AE!)(k:v!)(hR:∀v W' al' H' G',v4->PP->KF->Ch!=Di (EH al)++[(g,tb)]->Go)(kE:E (C! NW) none H):AK! (.send h g b):=by
 obtain⟨s,nu⟩:=IR;have z1:=s.ok.oz;have z2:=s.ok.rz;have z3:=wT;have hN:Ev h.toNat=h:=BJ i.1;have ig:∃q2 G2,JX W g q2 G2:=by obtain⟨y,hy⟩:=Ee!;exact⟨y.1,y.2,g0,hy⟩
 refine⟨p,b,h,g,W,tb,q,G,rfl,x.wa,eb,i,ig,A!,A!,A!,?_⟩;by_cases near:tb.1=G.BL;.have ho:=s.ok.hk tb hb near;refine j? ⟨hb,near,_,Rw ho,AY.mpr E?,λt H1 W1 l1 HF=>?_⟩;(.have:=s.ok.rk z.1 (AF.mpr (b? z hz));have:¬z.1=tb:=λe=>this (D! e near);simpa using this);obtain⟨wg,st⟩:=x.wg.QA i.2 hb near g0 g1;rw[hN] at wg st;exact E8! (Zi G tb (Ai G.AH tb+W.share)) Bw! (K! (.inl (by rcases(D0 _ _ _).2.2 t ht with h|h;(.rw[h];exact ho);.exact h))) (EL! l1) (Bp! (K! (by rcases(D0 _ _ _).2.2 t ht with h|h;(.rw[h];exact ho);.exact h))) (p? e Ej)
 .have hr:=s.rk tb (G! hb) near;have nn:=Il s.nn tb;refine o! ⟨hb,near,_,Rw hr,?_⟩;by_cases w0:Ai G.AN tb=0;(.exact B! ⟨w0,kE⟩);.by_cases w1:Ai G.AN tb=1;(.refine j? ⟨w1,λt H1 W1 l1 HF=>?_⟩;obtain⟨wg,st⟩:=x.wg.P' i.2 hb near g0 g1 w1;rw[hN] at wg st;exact E8! (Mv G tb 0) Bw! (Cg! ht) (EL! l1) (Bp! CP!) (p? e Ej));·(have w2:2<=Ai G.AN tb:=A!);refine o! ⟨w2,λt H1 W1 l1 HF=>?_⟩;obtain⟨wg,st⟩:=x.wg.RO i.2 hb near g0 g1 w2;rw[hN] at wg st;exact E8! (Mv G tb (Ai G.AN tb-Ai G.AN tb / 2)) Bw! (Cg! ht) (EL! l1) (Bp! CP!) (p? e Ej)
theorem Im{p:T2->Bool}:∀{l:HL},p t=true->Bn (l.filter λq=>p q.1) t=Bn l t
 | [],_=>rfl
 | a::l,hp=>by have ih:=Im (l:=l) hp;unfold Bn at *;by_cases h:p a.1=true;(.rw[List.filter_cons_of_pos (A2!)];simp only[BN];by_cases e:a.1=t;(.simp[e]);.simp only[e,OQ];exact ih);.rw[List.filter_cons_of_neg (A2!)];have e:¬a.1=t:=λz=>h (D! z hp);simp only[BN,e,OQ];exact ih
theorem Y7(ok:wp)(R:Q!):Nq G (Ir G R) :=⟨rfl,rfl,K! (EK! ht),K! (by obtain⟨q,hq,e⟩:=ZN ht;have hq:q∈G.AH.filter (AW! (q.1∈R)):=hq;have m:=Br! hq;rw[e] at m;exact Im (p:=λt=>M! (t∈R)) (l:=G.holds) m)⟩
theorem R6{f:T2×Int->LT}{rs:g?}(hf:∀r,(f r).kind="back"):Di (rs.map f)=[]:=by unfold Di;rw[List.flatMap_eq_nil_iff];intro l hl;obtain⟨r,_,rfl⟩:=ZN hl;unfold Iu;rw[hf r,AB ZV,AB ZV]
theorem Jfj(x:F!)(hn:y!)(i:i!)(k:v!)(hR:∀v W' al' H' G',v4->PP->KF->EC!->Go):FW! .clean h:=by
 obtain⟨s,nu⟩:=IR;have z3:=wT;have hN:Ev h.toNat=h:=BJ i.1;obtain⟨hs,os,rs,KN⟩:=(x.wg.wl.good T! i.2).told;obtain⟨kk,R,hk,rc⟩:=FX.LR.ofN s.ok T!;have zb:CB! D0! 60:=by have h1:CB! D0! (rs.filter λq=>! Bo D0! q.1).length:=AV _ _;have h2:=AV (ES! (! Bo D0! q.1)) rs;have h3:=KN.pr.length_eq;have h4:=s.ok.rz;lia
 refine⟨p,h,W,q,G,n,kk,rs,R,rfl,x.wa,i,s.ok,A!,K! (s.ip t (G! ht)).1,λz hz t ht=>(s.ip t (AY! .inr ht)).1,KN.pr,KN.wr,rc,hk,FX.Ok.clean s.ok rc,zb,A!,λy L H1 W1 bk HF b_ bz ey=>?_⟩;obtain⟨wg,st⟩:=x.wg.clean i.2 rc KN.pr;rw[hN] at wg st;exact E8! (Ir G R) (Z! (B! (Kg b hb))) (K! (XV EK! ht)) (Dj bk.NU) (Y7 s.ok R) (by rw[e,Ej,R6 (λ_=>rfl),AG])
universe E
theorem Vy:∀{l1:X!} {al:G?},o0 (l1++y::l2) al->∃(a:G?)(z:LL)(b:G?),DY!/\o0 l1 a/\R y z/\o0 l2 b
 | [],_,.cons r pr=>⟨[],_,_,rfl,I!,r,pr⟩
 | _::l1,_,.cons r pr=>by obtain⟨a,z,b,e,p1,p2,p3⟩:=Vy pr;subst e;exact⟨_::a,z,b,rfl,q? r p1,p2,p3⟩
universe S
theorem Ok.sz(ok:wp)(hn:y!):Sz G:=by grind [Ok,Sz]
theorem Xm(es:DY!)(lz:al.length<=(EH al).length+5*n):a.length+b.length<=(EH (I?)).length+5*n:=by
 rw[es,Cg] at lz;have e:EH (z::b)=(eP z).toList++EH b:=by unfold EH;rw[GQ];cases eP z<;>rfl
 rw[e] at lz;rw[Cg];simp only[ZE,BF] at *;have:(eP z).toList.length<=1:=by cases eP z<;>simp
 lia
theorem WI.got(x:F!)(i:i!)(es:DY!)(p1:ww)(p3:wv)(W1:Bg! (DD! WP))(wf:ut)(nw:Ak!)(tk:Cm!)(md:Cn!)(mk:DC!)(ou:Ea!)(wg:D5! Al! (Bu!++ls))(st:Ef! Al! (Bu!++ls))(hc:W.c<=c)(lw:At (λ(y:Int×Addr) (l:LT)=>IZ H1 y.2 y.1 l.kind l.s l.g l.th l.x) L ls)(mu:∀n u,Zn n u z=none/\gI n u z=none)(k:v!)(v:V)(hr:∀W' al',v4->EH al'=Bu!++ls->R v W' al' H1):Q v H1:=by
 have e:EH (I?++Aw!)=Bu!++ls:=U? Cg qi
 have zl:=Xm es x.lz;have kt:=c? x.wa wf;refine EA! v (DD! WP) (I?++Aw!) H1 (hr _ _ (b? q i.2) e) (Zf i.2 nw) (x.X_ (al':=I?++Aw!) i.2 W1 wf nw tk md mk ou (DM! wg) (DM! st) (λn u=>?_) (λn u=>?_) (C8 (C8 (Dx p1 kt) (Dx p3 kt)) (CM! LL.w H1 W.EN lw)) ?_ hc E?);.rw[Bz,(Mj ls n u).1,AG,es,Bz,Bz,Fs,(mu n u).1];rfl
 .rw[Bu,(Mj ls n u).2,AG,es,Bu,Bu,Eb,(mu n u).2];rfl
 .rw[e];simp only[ZE,ZA] at *;lia
 .rcases ZI hz with h|h;(.refine B! ?_;rw[es];rcases ZI h with h|h;(.exact ZB _ h);.exact D1!);.obtain⟨l,_,rfl⟩:=ZN h;exact i? l rfl
theorem Jij(es:al=a++LL.w l::b):EH al=EH a++l::EH b:=p? es Cg
theorem Jmx(ok:KG g0 l)(e:l.kind=kind)(np:kind≠z?):WF z?/\WF B?/\WF Os/\WF "let":=by
 obtain⟨_,_,_,kk⟩:=ok;rw[e] at kk;rcases kk with⟨e,_⟩|⟨e,_⟩|⟨e,_⟩|⟨e,_⟩;.rw[e];exact⟨ZV,ZV,ZV,ZV⟩
 .rw[e];exact⟨ZV,ZV,ZV,ZV⟩
 .rw[e];exact⟨ZV,ZV,ZV,ZV⟩
 .exact absurd e np
theorem X7(x:Int):Di [⟨AT,a,b,th,x⟩]=[]:=by unfold Di Iu;simp only[B_,GZ];rw[AB ZV,AB ZV];rfl
theorem Jjw:Di [D8! a b x,⟨AT,a',b',tX,x'⟩]=[(b,th)]:=by rw[Ct! (([D8! a b x,⟨AT,a',b',tX,x'⟩])=[D8! a b x]++[⟨AT,a',b',tX,x'⟩]),Ej,X7];rfl
inductive xb(W:FK)(l:LT)(ls:Bc!)(W':FK)(al':G?):Prop
 | mk G G' (_:QX W W' l.g.toNat G G') (_:KF) (_:((((l.kind=Z?)\/(l.kind=z?/\l.x=l.g))/\G'.hand=Bj G.hand l.th/\Ch!=Di ls)\/(l.kind=z?/\l.x≠l.g/\PP/\Ch!=Di ls++[(l.x,l.th)])\/(l.kind≠Z?/\l.kind≠z?/\PP/\Ch!=Di ls)))
theorem Wt.hand(h:Wt kind G tb x G')(k:C9!\/kind=AT\/kind="back"):KF/\G'.hand=if C9! then Bj G.hand tb else G.hand:=by
 obtain⟨_,h2,h3,h4,_,_,h6,_⟩:=h.c6;refine AU! ⟨h4,h3,h6,λt _=>by rw[h2]⟩;rcases h with⟨k,⟨c,o,f,e⟩|⟨c,e⟩⟩|⟨k,e⟩|⟨k,e⟩;.rw[AD k,e]
 .rw[AD k,e]
 .rw[k,AB ZV,e]
 .rw[k,AB ZV,e]
theorem Jkv:WE G tb true=Bj G.hand tb:=rfl
theorem Jkw:WE G tb false=G.hand:=rfl
theorem Jct(x:F!)(hn:y!)(el:B1!)(es:al=a++LL.w l::b)(p1:ww)(p2:D3! (.w l))(p3:wv)(k:v!)(hR:CQ! (xb W l (EH (I?)) W' al'->Go)):EZ!:=by
 have z3:=wT;have ew:=Jij es;have hl:l∈EH al:=Cv! v6
 have lok:=x.wg.wl.ok _ hl;obtain⟨kind,sn,g,th,xx⟩:=l;obtain⟨g0,g1,ib,kk⟩:=lok;have g0:0<=g:=g0;have g1:g<m:=g1;obtain⟨⟨q,G⟩,hi⟩:=Ee!;have i:Bn!:=⟨g0,hi⟩;obtain⟨s,nu⟩:=IR;have TZ:Ec!:=Ew!
 have p2:IZ H t BL kind sn g th xx:=p2;obtain⟨a0,b0,et,_⟩:=id p2;refine E7! sn kind;have NT:=Di!;have mu:∀n u,Zn n u (.w ⟨kind,sn,g,th,xx⟩)=none/\gI n u (.w ⟨kind,sn,g,th,xx⟩)=none:=λ_ _=>DL!;by_cases hp:kind=z?;.refine B! (AU! hp);subst hp;(have gt:g=th.1:=by rcases kk with⟨e,_⟩|⟨e,_⟩|⟨e,_⟩|⟨_,e,_⟩;(.exact absurd e.symm Dh);(.exact absurd e.symm Ez);(.exact absurd e.symm E1);.exact e);subst gt;obtain⟨mem,tP,tQ⟩:=x.wg.pass ew rfl hi;have mem:th∈g! G.AH.map:=mem;rw[<-Cg] at tP tQ;refine⟨p,t,_,BL,sn,th.1,xx,th,q,G,rfl,W1,Dx!,i,Ok.sz s.ok hn,mem,TZ,?_⟩;by_cases same:xx=th.1;(.subst same;refine B! (SB (λy t1 H2 W2 m1 NQ b_ bz ey=>?_));obtain⟨wg,st⟩:=tP rfl;exact x.got i (ls:=[⟨AT,th.1,sn,th,W.share⟩]) es p1 p3 W2 (AP! Dn!) Bw! FI! T0 FJ! (Cg! (Gw mem t ht)) wg st (AC (W.c<=N!)) (EL! m1) mu k _ λ_ _ c e=>e? ⟨_,_,c,Bp! (Gw mem),B! ⟨H! DL!,Jkv,by rw[e,Ej,X7,AG]⟩⟩);.refine i? same (λy t1 t2 H2 W2 m1 m2 NQ b_ bz ey=>?_);obtain⟨wg,st⟩:=tQ same;rw[AQ (EH (I?))] at wg st;(have W2:x? { W with qs:=W.qs.set th.1.toNat (q,Gy G th W.share false),c:=N!+1,ls:=AS!++([(N!,t1)]++[(N!+1,t2)]) }:=Y? AQ W2);have lw:At (λ(y:Int×Addr)(l:LT)=>IZ H2 y.2 y.1 l.kind l.s l.g l.th l.x) [(N!,t1),(N!+1,t2)] [⟨Z?,th.1,xx,th,W.share⟩,⟨AT,th.1,sn,th,W.share⟩]:=q? m1 (q? m2 I!);exact x.got i (ls:=[D8! th.1 xx W.share]++[(⟨AT,th.1,sn,th,W.share⟩:LT)]) es p1 p3 W2 (AP! Dn!) Bw! FI! T0 FJ! (Cg! (Gw mem t ht)) wg st (AC (W.c<=N!+1)) lw mu k _ λ_ _ c e=>e? ⟨_,_,c,Bp! (Gw mem),j? ⟨rfl,same,Jkw (tb:=th),No e Ej (congrArg _ Jjw)⟩⟩
 .obtain⟨G',wt,wg,st⟩:=x.wg.wt ew hp hi;rw[<-Cg] at wg st;have wt:Wt kind G th xx G':=wt;(have k3:C9!\/kind=AT\/kind="back":=by rcases kk with⟨e,_⟩|⟨e,_⟩|⟨e,_⟩|⟨e,_⟩;(.exact B! e);(.exact j? e);(.exact o! e);.exact absurd e hp);refine o! (.inr (.inr ⟨Jmx (x.wg.wl.ok _ hl) rfl hp,p,t,_,BL,sn,g,kind,th,xx,q,G,G',rfl,W1,Dx!,i,wt,Ok.sz s.ok hn,λH2 W2 NQ r hr=>?_⟩));have s3:=Aj! hr;obtain⟨_,_,h3,_,h5,_,h6,_⟩:=wt.c6;(have W2:x? { W with qs:=FK! g.toNat,c:=W.c,ls:=AS!++[] }:=D! AG W2);exact x.got i (ls:=[]) es p1 p3 (W2.same s3) (AP! (be (NQ b o FX! hb))) (Z! (.inl (FT! wt.BI))) T! T! T! (Cg! (h6 t ht)) (DN! wg) (DN! st) T0 I! mu k _ λ_ _ c e=>e? ⟨_,_,c,(wt.hand k3).1,by rw[AG] at e;rw[e];have hh:=(wt.hand k3).2;by_cases kh:C9!;(.rw[AD kh] at hh;exact B! (b? (B! kh) hh));.rw[AB kh] at hh;exact o! ⟨kh,hp,hh,rfl⟩⟩
theorem Je1(G:BX)(ts:Q!):Nq G (Vg G ts) :=⟨rfl,rfl,K! (EK! ht),K! (by obtain⟨q,hq,e⟩:=ZN ht;have hq:q∈G.AH.filter (AW! (q.1∉ts)):=hq;have m:=Br! hq;rw[e] at m;exact Im (p:=λt=>M! (t∉ts)) (l:=G.holds) m)⟩
theorem Jjq(x:F!)(hn:y!)(el:B1!)(es:al=a++LL.lt s g ts::b)(p1:ww)(p2:D3! (.lt s g ts))(p3:wv)(k:v!)(hR:∀v W' al' H' j G G',QX W W' j G G'->PP->KF->EC!->Go):EZ!:=by
 have z3:=wT;have ew:EH al=Bu!:=by rw[es,Cg,Cg];rfl
 obtain⟨g0,g1,F,sF,fD,ht⟩:=x.lt s g ts (w! es v6);obtain⟨⟨q,G⟩,hi⟩:=Ee!;have i:Bn!:=⟨g0,hi⟩;obtain⟨sd,nu⟩:=IR;have hN:Ev g.toNat=g:=BJ g0;have TZ:Ec!:=Ew!
 have p2:RJ H t BL s g ts:=p2;obtain⟨a0,cq,et,_⟩:=id p2;refine E7! s "let";have NT:=Di!;refine o! (B4! DK!);obtain⟨hs,os,rs,KN⟩:=(x.wg.wl.good T! i.2).told;obtain⟨wg,st,k8⟩:=x.wg.rh i.2 sF fD (w! hN ht) KN.pr;rw[hN,ew] at wg st;have zb:CB! V? 60:=by have h1:CB! V? (rs.filter λq=>! Bo V? q.1).length:=AV _ _;have h2:=AV (ES! (! Bo V? q.1)) rs;have h3:=KN.pr.length_eq;have h4:=sd.ok.rz;lia
 refine⟨p,t,_,BL,s,g,ts,q,G,n,rs,rfl,W1,Dx!,i,sd.ok,A!,K! (sd.ip t (G! ht)).1,λz hz t ht=>(sd.ip t (AY! .inr ht)).1,KN.pr,KN.wr,k8,zb,TZ,λy L H2 W2 bk NQ b_ bz ey=>?_⟩;exact x.got (G':=Vg G ts) i es p1 p3 W2 (AP! Dn!) (Z! (B! (P5 b hb))) FI! T0 FJ! (K! (XV EK! ht)) wg (w! ew st) (AC (W.c<=W.c+_)) (Dj bk.NU) (λ_ _=>DL!) k _ λ_ _ c e=>hR _ _ _ _ _ _ _ c rfl (Je1 G ts) (by rw[e,Ej,R6 (λ_=>rfl),AG,ew])
universe E
theorem O3:∀{l:List (T2×α)},D? l.map->∀{a b:T2×α},a∈l->b∈l->a.1=b.1->a=b
 | [],_,a,b,ha,_,_=>by cases ha
 | c::l,nd,a,b,ha,hb,e=>by rw[AI] at nd;obtain⟨n1,n2⟩:=AM.mp nd;rcases ZM ha with ha|ha;(.rcases ZM hb with hb|hb;(.rw[ha,hb]);.exact absurd (AF.mpr ⟨b,hb,by rw[<-e,ha]⟩) n1);.rcases ZM hb with hb|hb;(.exact absurd (AF.mpr ⟨a,ha,U? e hb⟩) n1);.exact O3 n2 ha hb e
universe S
variable {G:BX}{hs:List T2}{os:List (T2×Int×List T2)}{rs:List (T2×Int)}{n:Nat}
theorem Told.kC(t:CK! Told)(ok:wp):mV G Ix:=by
 have kn:D? G.holds.map:=qV ok;refine⟨λu hu=>t.pm.mem_iff.mpr hu,λu hu=>?_,λr hr=>AU! ?_,λr hr q hq e u hu=>?_,λu=>?_⟩;.obtain⟨r,hr,e⟩:=ZN (t.QE.pm.mem_iff.mpr hu);exact⟨r,hr,e⟩
 .exact BJ! t.QE.pm.mem_iff.mp (b? r hr)
 .unfold Ai;rw[(t.QE.at_ r hr).1];rfl
 .obtain⟨_,a,hl,f,_,pm,_⟩:=t.QE.at_ r hr;refine pm.mem_iff.mpr ?_;have f2:=DO f;have m2:=AJ f;(have:q=(r.1,a,hl):=by have h1:q.1=(r.1,a,hl).1:=e;exact O3 kn hq m2 h1);rw[this] at hu;exact hu
 .have nd:D? rs.map:=(t.pr.map _).nodup_iff.mpr ok.rn;show Jr u rs=_;rw[Vt nd,P1 t.pr ok.rn]
theorem Told.kg(t:CK! Told)(ok:wp)(hn:n<=60)(ob:∀t∈g! G.AH.map,0<=t.2):iX G.BL Ix/\∀w∈os,w.1.2<G.AU:=by
 have h1:=t.pm.length_eq;have h2:=t.pr.length_eq;have z1:=ok.hz;have z2:=ok.rz;have key:∀w∈os,w.1∈g! G.AH.map:=λw hw=>BJ! t.QE.pm.mem_iff.mp (b? w hw);refine⟨⟨?_,AC (hs.length<=60),AC (rs.length<=60),λw hw=>⟨(ok.new w.1 (key w hw)).1,ob _ (key w hw),?_⟩⟩,λw hw=>(ok.new w.1 (key w hw)).2⟩;.exact t.QE.pm.nodup_iff.mpr ok.on
 .obtain⟨_,a,hl,f,_,pm,_⟩:=t.QE.at_ w hw;have:=(ok.ln _ (AJ f)).2;have:=pm.length_eq;(have e:hl.length<=n:=by assumption);lia
theorem Told.tells(t:CK! Told)(ok:wp)(hn:n<=60):CK! Tells:=by have z1:=ok.hz;have z2:=ok.rz;have z3:=ok.oz;exact⟨A!,A!,A!,t.pm,t.pw,t.QE,t.pr,t.wr⟩
universe E
theorem zQ(kn:∀z∈al,Kn ns z)(h:n∉ns)(u:Int):Cs al n u=[]/\Ck al n u=[]:=by
 refine⟨FN.mpr E?,FN.mpr E?⟩;.have k:=kn z hz;cases z with | ask s g n' u'=>exact AB λz=>h (Y? z.1 k.1) | w l=>rfl | MJ s g n' u' tk S=>rfl | lt s g ts=>rfl
 .have k:=kn z hz;cases z with | MJ s g n' u' tk S=>exact AB λz=>h (Y? z.1 k.1) | w l=>rfl | ask s g n' u'=>rfl | lt s g ts=>rfl
universe S
theorem OJ.s_(x:OJ m qs ls al n fi se)(hu:u=1\/u=2)(h:g∈Cs al n u):0<=g/\g<m:=by
 rcases hu with rfl|rfl;.exact N_.mp (x.t1.mem_iff.mp (ZB _ (ZB _ h)))
 .rcases x.t2 with⟨_,e,_⟩|⟨_,pm⟩;(.rw[e] at h;cases h);.exact N_.mp (pm.mem_iff.mp (ZB _ (ZB _ h)))
universe E
theorem Wg.up(x:Wg D m n sh qs ls):Wg D m (n+1) sh qs ls:=⟨x.wl.up,x.sD,x.rc⟩
universe S
theorem Jfk(x:F!)(hn:y!)(el:B1!)(es:al=a++LL.ask s g n' u::b)(p1:ww)(p2:D3! (.ask s g n' u))(p3:wv)(k:v!)(hR:CQ! (CS!->CL!->Go)):EZ!:=by
 have z3:=wT;have z4:=x.ez;have hz:LL.ask s g n' u∈al:=D! es v6
 obtain⟨k1,ku⟩:=x.kn _ hz;obtain⟨y0,bN,iH⟩:=ZN k1;have mg:g∈Cs al n' u:=LZ.mpr ⟨_,hz,AD DL!⟩;obtain⟨g0,g1⟩:=(x.iv y0 bN).s_ ku (w! iH mg);obtain⟨⟨q,G⟩,hi⟩:=Ee!;have i:Bn!:=⟨g0,hi⟩;obtain⟨sd,nu⟩:=IR;have hN:Ev g.toNat=g:=BJ g0;have TZ:Ec!:=Ew!
 have p2:Dv! BL B? n':=p2;obtain⟨a0,et,_⟩:=id p2;refine E7! s B?;have NT:=Di!;refine j? DK!;obtain⟨hs,os,rs,KN⟩:=(x.wg.wl.good T! i.2).told;refine⟨p,t,_,BL,s,g,n',u,q,G,hs,os,rs,rfl,W1,Dx!,i,KN.tells sd.ok T!,TZ,C2! 400,λe he=>by have:=x.ec e he;show e.1≠N!;lia,λy t1 e xs H2 W2 mB he st NQ _ _ _=>?_⟩;have wf:BB! H2:=λb o e hb=>Dn!;have kt:=c? x.wa wf;have ew:EH (I?++[.MJ g s n' u G.A_ Ix])=EH al:=by rw[es,Cg,Cg,Cg];show _++_++[]=_;rw[AG];rfl
 have zl:=Xm es x.lz;have mo:∀{L:X!} {c:G?},Fc! L c->BA! H2 (AH!) L c:=λpp=>Ap (λ_ _ r=>(r.keep kt).more λe he=>ZB _ he) pp;have XU:∀z∈I?++[LL.MJ g s n' u G.A_ Ix],z∈al\/z=LL.MJ g s n' u G.A_ Ix:=j! (by rcases ZI hz with h|h;(.refine B! ?_;rw[es];rcases ZI h with h|h;(.exact ZB _ h);.exact D1!);.exact .inr (ZK h))
 obtain⟨kg,nw⟩:=KN.kg sd.ok T! (x.ob _ _ _ hi);rw[nu,hN] at kg;have a1:=x.md;have a3:=x.fz;have a4:=x.iz;refine EA! _ (EG! (AS!++[(N!,t1)])) (I?++[.MJ g s n' u G.A_ Ix]) H2 (Cs! ew) (Z! (hb.elim .inl λh=>j? h)) ⟨W2,Cv! x.wg.up,AC (Bz!<=_),x.ob,x.m1,x.m5,?_,?_,?_,?_,C3! (n+1),?_,A!,x.iq,x.fe,x.nd,x.off,λy hy=>x.VC wf hy,DA!,E?,x.ff,BX!⟩;.exact C8 (C8 (mo p1) (mo p3)) (q? ⟨mB,e,xs,ZC _ (DA.mpr rfl),he,st⟩ I!)
 .show D? (AH!).map;rw[ZF];refine AK.mpr ⟨x.en,AB!,λu hu v hv z=>?_⟩;obtain⟨w,hw,ew⟩:=ZN hu;have:=x.ec w hw;have hv:v=N!:=ZK hv;lia
 .intro w hw;have hw:w∈AH!:=hw;show w.1<=N!;rcases ZI hw with hw|hw;(.have:=x.ec w hw;lia);.rw[ZK hw];exact A' _
 .show(AH!).length<=n+1;rw[ZE];show W.EN.length+1<=n+1;lia
 .rw[ew];(have e2:al.length=a.length+(b.length+1):=CW! es);have:=x.lz;simp only[ZE,BF,BS];lia
 .rw[ew];exact(x.iv y hy).asked es g0 hi rfl (KN.kC sd.ok) kg nw
 .rcases XU z hz with h|rfl;(.exact x.kn z h);.exact⟨k1,ku⟩
 .rcases XU _ hz with h|h;(.rw[ew];exact D7!);.cases h
theorem WI.eE(x:F!):∀y∈ys,1<=y.n/\y.n<=R! ys.length:=λy hy=>by have:y.n∈ys.map Op:=B3! y hy;rw[x.fe] at this;obtain⟨j,hj,e⟩:=ZN this;have:=BR.mp hj;lia
theorem Jjr(x:F!)(hn:y!)(i:i!)(k:v!)(hR:CQ! (CS!->CL!->Go)):FW! .ask h:=by
 have z3:=wT;have a1:=x.md;have a2:=x.ez;have a3:=x.fz;have a4:=x.iz;have a5:=x.m5;have a6:=x.lz;have f_:W.qs.length=m:=x.wg.wl.len;have iP:W.LD.length=ys.length:=U? x.iq ZA
 have YU:CX!∉ys.map Op:=λz=>by obtain⟨y,hy,e⟩:=ZN z;have:=x.eE y hy;lia
 refine⟨p,h,W,q,G,rfl,x.wa,i,A!,A!,A!,λl hl e=>?_,λio I L H1 W1 qP UZ rR E_ im is oP ic wf=>?_⟩;.rw[iP] at e;rw[x.iq] at hl;obtain⟨y,hy,e2⟩:=ZN hl;rw[<-e2] at e;exact BJ! YU ⟨y,hy,e⟩
 rw[f_] at qP;rw[iP] at W1 qP;have kt:=c? x.wa wf;have ew:EH (al++Ek m h AR! 1)=EH al:=BZ! Cg Vl
 let y1:Qy:=⟨CX!,io,I,[],[]⟩;have XU:∀z∈al++Ek m h AR! 1,z∈al\/∃g,z=LL.ask h g AR! 1:=j! (by rcases ZI hz with h|h;(.exact FM);.obtain⟨j,_,e⟩:=ZN h;exact H! ⟨_,e.symm⟩)
 have atY:PU CI K H1 m y1:=⟨UZ,by show I.m=_;rw[im,f_],oP,ic,by show Paired _ I.ss [];rw[is];exact I!⟩;have ndY:(Cy y1).Nodup:=by obtain⟨dx,e⟩:=UZ.ob;(have n1:io≠I.sd:=λz=>C7! z UZ.s);(have n2:io≠I.fd:=λz=>C7! z UZ.f);(have n3:io≠I.cd:=λz=>C7! z UZ.c);show [io,I.sd,I.fd,I.cd].Nodup;simp[n1,n2,n3,UZ.sf,UZ.sc,UZ.fc]
 refine k _ { W with LD:=W.LD++[(CX!,io)],c:=k?,ls:=S? } D (al++Ek m h AR! 1) (ys++[y1]) H1 (Cs! ew) (Z! (hb.elim .inl λh=>(by rw[BV] at h;rcases ZI h with h|h;(.exact j? h);.exact o! (E_ b (EV.mp (A2!)))))) ⟨W1,Cv! x.wg.up,AC (Bz!<=_),x.ob,x.m1,x.m5,?_,x.en,BR!,C2! (n+1),C3! (n+1),?_,?_,?_,?_,?_,DA!,DA!,DA!,E?,BR!,BX!⟩ (GV.wi wf) rfl;.exact C8 (Dx x.lw kt) (CM! (λi:Nat=>LL.ask h V! AR! 1) H1 W.EN qP.NU)
 .have:=x.ec e he;show e.1<=k?;lia
 .rw[ew,ZE];(have:(Ek m h AR! 1).length=m:=by unfold Ek;rw[ZA,BZ]);lia
 .rw[ZE];show ys.length+1<=n+1;lia
 .show W.LD++_=_;rw[x.iq,ZF];rfl
 .rw[ZF,ZE,x.fe];show _++[CX!]=(List.range (ys.length+1)).map _;rw[EZ,ZF];rfl
 .rw[BV];refine AK.mpr ⟨x.nd,by simpa using ndY,λu hu v hv z=>?_⟩;obtain⟨y,hy,hb⟩:=CV.mp hu;obtain⟨o,e,_⟩:=(x.at_ y hy).has hb;(have hv:v∈Cy y1:=by simpa using hv);have:=E_ v (EV.mp hv);rw[<-z,e] at this;cases this
 .rcases ZI hy with hy|hy;(.exact x.off y hy);.rw[ZK hy];exact Z! (rR b (EV.mp hb))
 .rcases ZI hy with hy|hy;(.exact x.VC wf hy);.rw[ZK hy];exact atY
 .rcases ZI hy with hy|hy;(.have ne:¬CX!=y.n:=λz=>BJ! YU ⟨y,hy,z.symm⟩;refine(x.iv y hy).de (λu=>?_) (λu=>?_) (w! ew (KO.refl _ _));(.rw[Bz,Hi,AB (λz=>ne z.1),AG]);.rw[Bu,Jo,AG]);.rw[ZK hy];exact Jnj x.m1 (λu=>(zQ x.kn YU u).1) (λu=>(zQ x.kn YU u).2) h
 .rcases XU z hz with h|⟨g,rfl⟩;(.have kz:=x.kn z h;rw[ZF];cases z with | w l=>trivial | ask s g n' u=>exact⟨ZB _ kz.1,kz.2⟩ | MJ s g n' u tk S=>exact⟨ZB _ kz.1,kz.2⟩ | lt s g ts=>trivial);.exact⟨B3! y1 (ZC _ (DA.mpr rfl)),B! rfl⟩
 .obtain⟨y,hy,e1,e2⟩:=x.ff e he;exact⟨y,ZB _ hy,e1,e2⟩
 .rcases XU _ hz with h|⟨_,h⟩;(.rw[ew];exact D7!);.cases h
universe E
theorem O1:∀{as:jp} {bs:List β},(∀a∈as,∀b,R a b->S a b)->o0 as bs->At S as bs
 | _,_,_,.nil=>I!
 | _,_,h,.cons r p=>q? (h _ AJ! _ r) (O1 (λa ha=>h a (ZD _ ha)) p)
universe S
variable {CW C CP CI NH NL DJ DY MI NW p:Addr}{K:W.Frag}{H H2:Hp}{W:FK}{D D':T2->Prop}{m n:Nat}{al a b new:List LL}{ys i1 i2:List Qy}{y y':Qy}
theorem Jff(ey:EE!)(nd:(ys.flatMap Cy).Nodup):∀z,(z∈i1\/z∈i2)->∀b∈Cy z,b∉Cy y:=λz hz b hb vj=>by rw[ey,BV,B_] at nd;obtain⟨_,n2,n3⟩:=AK.mp nd;rcases hz with hz|hz;(.exact n3 b (AY! CV.mpr hb) b (ZB _ vj) rfl);.exact(AK.mp n2).2.2 b vj b (AY! CV.mpr hb) rfl
theorem Uh(ey:EE!)(nd:(ys.map Op).Nodup):∀z,(z∈i1\/z∈i2)->z.n≠y.n:=λz hz e=>by rw[ey,ZF,AI] at nd;obtain⟨_,n2,n3⟩:=AK.mp nd;rcases hz with hz|hz;(.exact n3 z.n (AF.mpr (b? z hz)) y.n AJ! e);.exact BJ! (AM.mp n2).1 ⟨z,hz,e⟩
theorem WI.lE(x:F!):(ys.map Op).Nodup:=by rw[x.fe];unfold List.Nodup;rw[EG];exact List.Pairwise.imp (λ{a b} (h:a<b)=>A!) OS
theorem WI.answer(x:F!){BL s g u tick:Int}{S:HS}{t e:Addr}{l1 l2 L e1 e2 ZY:X!}{c':Int}(el:B1!)(es:al=a++.MJ s g y.n u tick S::b)(p1:ww)(p3:wv)(ey:EE!)(ee:W.EN=e1++(BL,e)::e2)(W2:x? { W with c:=c',ls:=WP,EN:=U!,JK:=ZY })(fr:EV!)(en:y'.n=y.n)(eo:y'.io=y.io)(qf:Cy y'=Cy y)(at2:PU CI K H2 m y')(hc:W.c<=c')(hw:Wg D' m n W.share W.qs UF)(hD:∀t,D t->D' t)(lw:BA! H2 (U!) L new)(nz:new.length<=5)(k_:EH new=[])(nkn:∀z∈new,Kn (ys.map Op) z)(nas:∀k u,k≠y.n->Cs new k u=[])(nan:∀k u,Ck new k u=[])(nlt:∀s g ts,LL.lt s g ts∈new->0<=g/\g<m/\∃F,NX W.qs UF F/\(∀t,F t->D' t)/\∀t,t∈ts↔(F t/\t.1=g))(iv':OJ m W.qs UF (Ba!) y'.n y'.fi y'.se)(ff':∀e∈ZY,e∈W.JK\/(e.1=y.n/\y'.se.length=m))(fz':ZY.length<=n+1)(se:y.se.length=m->y'.se.length=m) : WI CW C CP CI K H2 p { W with c:=c',ls:=WP,EN:=U!,JK:=ZY } D' m (n+1) (Ba!) (db)/\ia p W ys H H2:=by
 have hy:y∈ys:=D! ey v6
 have kt:BW H H2:=SJ.DL x.wa (x.at_ y hy).at_ fr;have ew:EH (Ba!)=EH al:=by rw[es,Cg,Cg,k_,Cg,AG];rfl
 have em:∀{α:Type} (f:Qy->α),f y'=f y->(db).map f=ys.map f:=λf ef=>by rw[ey,ZF,AI,ZF,AI,ef]
 have wX:=em Op en;have fK:=x.wa.po.nd;rw[el,ZF,AI] at fK;obtain⟨_,nl2,nl3⟩:=AK.mp fK;have nd1:∀z∈l1,z.1≠BL:=j! (nl3 z.1 (AF.mpr (b? z hz)) BL AJ!);have fO:∀z∈l2,z.1≠BL:=λz hz q=>BJ! (AM.mp nl2).1 ⟨z,hz,q⟩;have mo:∀{L:X!} {c:G?},(∀z∈L,z.1≠BL)->Fc! L c->BA! H2 (U!) L c:=λaN pp=>O1 (λz hz r hr=>(hr.keep kt).more λe' vZ=>by rw[ee] at vZ;rcases ZI vZ with h|h;(.exact ZB _ h);.rcases ZM h with h|h;(.exact absurd (Prod.mk.inj h).1 (aN z hz));.exact ZC _ h) pp;have mid:∀z∈db,z=y'\/(z∈ys/\(z∈i1\/z∈i2)):=j! (by rcases ZI hz with h|h;(.exact i? (D! ey (ZB _ h)) FM);.rcases ZM h with h|h;(.exact FM);.exact i? (D! ey D1!) (H! h))
 have i_:∀z∈Ba!,z∈al\/z∈new:=j! (by rcases ZI hz with h|h;(.refine B! ?_;rw[es];rcases ZI h with h|h;(.exact ZB _ h);.exact D1!);.exact H! h)
 have dA:(U!).Sublist W.EN:=D! ee (List.Sublist.append_left (List.sublist_cons_self _ _) _)
 have a1:=x.md;have a2:=x.ez;have a4:=x.iz;have a5:=dA.length_le;have eqf:(db).flatMap Cy=ys.flatMap Cy:=by rw[ey,BV,B_,BV,B_,qf]
 refine AU! ⟨W2,Cv! hw.up,AC (Bz!<=_),x.ob,x.m1,x.m5,C8 (C8 (mo nd1 p1) (mo fO p3)) lw,x.en.sublist (dA.map _),λe he=>Int.le_trans (x.ec e (dA.subset he)) hc,by show(U!).length<=n+1;lia,fz',?_,?_,?_,?_,D! eqf x.nd,E?,E?,E?,E?,BR!,BX!⟩;.rw[ew];(have e2:al.length=a.length+(b.length+1):=CW! es);have:=x.lz;simp only[ZE];lia
 ·(have:(db).length=ys.length:=CW! ey);lia
 .show W.LD=_;rw[x.iq];exact(em (Cy!) (U? en eo)).symm
 ·(have:(db).length=ys.length:=CW! ey);rw[wX,x.fe,this]
 .rcases mid z hz with rfl|⟨h,_⟩;(.rw[qf];exact x.off y hy);.exact x.off z h
 .rcases mid z hz with rfl|⟨h,h2⟩;(.exact at2);.refine(x.at_ z h).keep (λb o hb eb=>?_) kt;have nb:=Jff ey x.nd z h2 b hb;exact fr b o eb (x.off z h b hb) (Av! nb (B4! q)) (Av! nb (Df! q)) (Av! nb (Dg! q))
 .rcases mid z hz with rfl|⟨h,h2⟩;(.rw[ew];exact iv');.have ne:=Uh ey x.lE z h2;refine(x.iv z h).de (λv=>?_) (λv=>?_) (w! ew (KO.refl _ _));(.rw[Bz,nas _ _ ne,AG,es,Bz,Bz,Fs];rfl);.rw[Bu,nan,AG,es,Bu,Bu,Eb];show _=_++((if y.n=z.n/\u=v then some (s,tick,S) else none).toList++_);rw[AB λq=>ne q.1.symm];rfl
 .rw[wX];rcases i_ z hz with h|h;(.exact x.kn z h);.exact nkn z h
 .rcases ff' e he with h|⟨h1,h2⟩;(.obtain⟨z,hz,q1,q2⟩:=x.ff e h;rw[ey] at hz;rcases ZI hz with hz|hz;(.exact⟨z,ZB _ hz,q1,q2⟩);.rcases ZM hz with rfl|hz;(.exact⟨y',v6,D! en q1,se q2⟩);.exact⟨z,ZC _ (ZD _ hz),q1,q2⟩);.exact⟨y',v6,D! en h1.symm,h2⟩
 .rw[ew];rcases i_ _ hz with h|h;(.obtain⟨g0,g1,F,sF,fD,ht⟩:=D7!;exact⟨g0,g1,F,sF,λt ft=>hD t (fD t ft),ht⟩);.exact nlt s g ts h
 .intro b o eb h1 h2;have hq:b∉Cy y:=λq=>h2 (CV.mpr ⟨y,hy,q⟩);exact fr b o eb h1 (Av! hq (B4! q)) (Av! hq (Df! q)) (Av! hq (Dg! q))
universe E
def YW(qs:DI!)(h:Nat):Int:=(qs[h]?.map λq=>cr).getD 0
theorem Pj:∀{qs:DI!},(∀q∈qs,0<=cr)->Ev ((List.range qs.length).map λh=>B7! qs h).sum=F3 qs
 | [],_=>by simp[F3]
 | q::qs,nn=>by have ih:=Pj (qs:=qs) (j! (nn z (ZD _ hz)));rw[BF,List.range_succ_eq_map];simp only[AI,AL,CG];(have e1:((λh=>B7! (q::qs) h) ∘ Nat.succ)=λh=>B7! qs h:=by funext h;simp[YW]);rw[e1];(have e2:YW (q::qs) 0=cr:=by simp[YW]);have:=nn q AJ!;rw[e2];show _=cr+F3 qs;lia
def m8(m:Nat)(mx:Nat->Nat):Q!:=(List.range m).flatMap (SL ((List.range (mx k)).map λj:Nat=>((z!,R! j):T2)))
theorem Jf3(m:Nat)(mx:Nat->Nat):(m8 m mx).length=(Dh! mx).sum:=by simp_all [m8]
theorem P6{α:Type}{f:HS->jp}{c:Nat}:∀{L:Bb!},(∀S∈L,(f S).length<=c)->(L.flatMap f).length<=L.length*c
 | [],_=>AB!
 | S::L,h=>by have ih:=P6 (f:=f) (c:=c) (L:=L) (j! (h z (ZD _ hz)));have:=h S AJ!;rw[B_,ZE,BF,Nat.succ_mul];lia
theorem zN:∀{ks:AZ!},ks.Nodup->(∀k∈ks,iX z! (S k))->D? (rowsOf (ks.map S)).map
 | [],_,_=>by simp[rowsOf]
 | k::ks,nd,h=>by obtain⟨n1,n2⟩:=AM.mp nd;have ih:=zN (S:=S) n2 (j! (h z (ZD _ hz)));have so:=h k AJ!;(have e:rowsOf ((k::ks).map S)=(S k).2.1++rowsOf (ks.map S):=by unfold rowsOf;rw[AI,B_]);rw[e,ZF];refine AK.mpr ⟨so.nd,ih,λu hu v hv z=>?_⟩;obtain⟨r,hr,e1⟩:=ZN hu;obtain⟨r2,LF,e2⟩:=ZN hv;obtain⟨S2,hS,Y_⟩:=LJ.mp LF;obtain⟨k2,vU,e3⟩:=ZN hS;have c1:=(so.oz r hr).1;subst e3;have c2:=((h k2 (ZD _ vU)).oz r2 Y_).1;(have:k=k2:=by rw[e1] at c1;rw[e2] at c2;rw[z] at c1;lia);rw[this] at n1;exact n1 vU
theorem Jhk{ks:AZ!}{S:Ac!}{mx:Nat->Nat}{m:Nat}(nd:ks.Nodup)(kz:ks.length<=5)(km:∀k∈ks,k<m)(so:∀k∈ks,iX z! (S k))(nw:∀k∈ks,∀w∈(S k).2.1,w.1.2<mx k)(sm:(Dh! mx).sum<=60):K62F.UD (ks.map S):=by
 have YV:=zN nd so;refine⟨YV,?_,?_,λr hr=>?_,?_⟩;·(have:=Kc (U:=m8 m mx) YV (K! (by obtain⟨r,hr,e⟩:=ZN ht;obtain⟨S2,hS,LF⟩:=LJ.mp hr;obtain⟨k,hk,e2⟩:=ZN hS;subst e2;obtain⟨c1,c2,_⟩:=(so k hk).oz r LF;have c3:=nw k hk r LF;rw[e] at c1 c2 c3;refine CV.mpr ⟨k,BR.mpr (km k hk),AF.mpr ⟨t.2.toNat,Ce! BR.mpr,?_⟩⟩;exact Prod.ext c1.symm (by show Ev t.2.toNat=t.2;lia))));rw[Jf3,ZA] at this;lia
 ·(have:=P6 (f:=λS=>S.1) (c:=60) (L:=ks.map S) (j! (by obtain⟨k,hk,e2⟩:=FS;subst e2;exact(so k hk).hz)));rw[ZA] at this;have:ks.length*60<=5*60:=FV 60 kz;lia
 .obtain⟨S2,hS,LF⟩:=LJ.mp hr;obtain⟨k,hk,e2⟩:=ZN hS;subst e2;exact((so k hk).oz r LF).2.2
 ·(have:=P6 (f:=λS=>S.2.2) (c:=60) (L:=ks.map S) (j! (by obtain⟨k,hk,e2⟩:=FS;subst e2;exact(so k hk).rz)));rw[ZA] at this;have:ks.length*60<=5*60:=FV 60 kz;lia
theorem Va{α:Type}{l:jp}{k:α->Int}{f:α->V}{n:Int}:Ci (l.map EX!) (Sum.inl n)=(l.find? λr=>M! (k r=n)).map f:=by
 unfold Ci;rw[LY,Option.map_map];congr 1;congr 1;funext r;show M! ((Sum.inl (k r):Key)=Sum.inl n)=M! (k r=n);by_cases e:k r=n;.rw[e];simp
 .rw[decide_eq_false e,decide_eq_false λz=>e (Sum.inl.inj z)]
theorem zT{α:Type}{l:jp}{k:α->Int}{f:α->V}{r:α}(h:k r∉l.map k):putK (l.map EX!) (Sum.inl (k r)) (f r)=(l++[r]).map EX!:=by
 have e:Ci (l.map EX!) (Sum.inl (k r))=none:=by rw[Va];(have:l.find? (λz=>M! (k z=k r))=none:=AY.mpr (j! (by have:k z≠k r:=λe=>h (Y? e (BG hz));simpa using this)));rw[this];rfl
 rw[Ex _ e,ZF];rfl
theorem Jfc{se:List (Int×Int)}{h:Int}(m:h∈g! se.map):∃r∈se,r.1=h/\se.find? (λr=>M! (r.1=h))=some r:=by cases e:se.find? λr=>M! (r.1=h) with | none =>obtain⟨r0,TM,e0⟩:=ZN m;have:=AY.mp e r0 TM;simp[e0] at this | some r=>exact⟨r,AJ e,by simpa using DO e,rfl⟩
theorem ya:∀{ss:ap} {fi:DZ!},At (λ(kv:Key×V)(r:Int×Int×HS)=>Eu!) ss fi->∀{h:Int} {r:Int×Int×HS},fi.find? (λr=>M! (r.1=h))=some r->∃a,Ci ss (Sum.inl h)=P! a/\RZ K H a r.2.2
 | _,_,.nil,h,r,e=>by simp at e
 | kv::ss,r0::fi,.cons ⟨a,ea,st⟩ pp,h,r,e=>by subst ea;unfold Ci;rw[BN] at e ⊢;by_cases c:r0.1=h;(.rw[decide_eq_true c] at e;have e:r0=r:=ZO e;rw[show M! (BL! r0.1=Sum.inl h)=true by rw[c];simp];exact⟨a,rfl,Y? e st⟩);.rw[decide_eq_false c] at e;rw[DH! (show ¬BL! r0.1=Sum.inl h from λz=>c (Sum.inl.inj z))];exact ya pp e
theorem Zu:∀{ss:ap} {fi:DZ!},At (λ(kv:Key×V)(r:Int×Int×HS)=>Eu!) ss fi->ss.map J!=fi.map λr=>BL! r.1
 | _,_,.nil=>rfl
 | kv::ss,r0::fi,.cons ⟨a,ea,st⟩ pp=>by rw[AI,AI,Zu pp,ea]
theorem Jiy(pp:At (λ(kv:Key×V) (r:Int×Int×HS)=>Eu!) ss fi)(h:s∉g! fi.map)(v:V):putK ss (Sum.inl s) v=ss++[(Sum.inl s,v)]:=by refine Ex _ ?_;unfold Ci;rw[AY.mpr λkv hkv=>?_];rfl;have:kv.1∈g! ss.map:=BG hkv;rw[Zu pp] at this;obtain⟨r,hr,e⟩:=ZN this;have ne:¬kv.1=Sum.inl s:=λz=>h (by rw[z] at e;rw[<-Sum.inl.inj e];exact BG hr);simpa using ne
theorem N6{m:Nat}{fi:DZ!}(pm:(fi.map J!).Perm (rg m)){h:Nat}(hh:h<m):∃r∈fi,r.1=Ca!/\fi.find? (CI!)=some r/\Jq fi h=w?/\Nh fi h=r.2.2:=by have m1:Ca!∈g! fi.map:=pm.mem_iff.mpr (N_.mpr ⟨A!,A!⟩);obtain⟨r0,TM,e0⟩:=ZN m1;cases e:fi.find? CI! with | none =>have:=AY.mp e r0 TM;simp[e0] at this | some r =>refine⟨r,AJ e,by simpa using DO e,rfl,?_,?_⟩;(.unfold Jq;rw[e];rfl);.unfold Nh;rw[e];rfl
def Xe(m:Nat)(g:Int)(ts:Q!):G?:=Dh! λi:Nat=>.lt g V! (ts.filter EH!)
theorem Rf:Cs (Xe m g ts) n u=[]:=FN.mpr (j! (by obtain⟨i,_,e⟩:=FS;rw[<-e];rfl))
theorem Rg:Ck (Xe m g ts) n u=[]:=FN.mpr (j! (by obtain⟨i,_,e⟩:=FS;rw[<-e];rfl))
theorem zB:EH (Xe m g ts)=[]:=FN.mpr (j! (by obtain⟨i,_,e⟩:=FS;rw[<-e];rfl))
theorem Jd4{l:Aa!}{m:Nat}(pm:l.Perm (rg m)):DG! (l.map FC!).Perm m:=by
 have:=pm.map FC!;have e:(rg m).map FC!=List.range m:=by unfold rg;rw[AL];(have:((λx:Int=>x.toNat) ∘ SL z!)=id:=by funext k;simp);rw[this,List.map_id]
 rw[e] at this;exact this
universe S
theorem Se(es:al=a++LL.MJ s g n' u tick S::b)(nw:EH new=[]):EH (Ba!)=EH al:=by rw[es,Cg,Cg,Cg,nw,AG];rfl
theorem Jcu(x:F!)(hn:y!){BL:Int}{l1 l2:X!}{t:Addr}{s g n' u tick:Int}{S:HS}(el:B1!)(es:al=a++LL.MJ s g n' u tick S::b)(p1:ww)(p2:D3! (.MJ s g n' u tick S))(p3:wv)(k:v!)(hR:CQ! (CS!->CL!->Go)):EZ!:=by
 have z3:=wT;have z5:=x.fz;have f_:W.qs.length=m:=x.wg.wl.len;have m5:=x.m5;have hz:LL.MJ s g n' u tick S∈al:=D! es v6
 obtain⟨k1,ku⟩:=x.kn _ hz;obtain⟨y,hy,iH⟩:=ZN k1;have iH:y.n=n':=iH;subst iH;obtain⟨i1,i2,ey⟩:=MA hy;obtain⟨pA,e,xs,me,he,st⟩:=p2;obtain⟨e1,e2,ee⟩:=MA me;have pA:Dv! BL Os y.n:=pA;have iv:=x.iv y hy;have Q_:=x.at_ y hy;have lf:y.fi.length<=m:=by have:=iv.t1.length_eq;rw[ZE,ZE,ZA,ZA,J6] at this;lia
 have lse:y.se.length<=m:=by rcases iv.t2 with⟨_,_,_,e⟩|⟨_,pm⟩;(.rw[e];exact BE _);.have:=pm.length_eq;rw[ZE,ZE,ZA,ZA,J6] at this;lia
 have lfs:y.I.fs.length=y.fi.length:=U? Q_.fs ZA
 have lcs:y.I.cs.length=y.se.length:=U? Q_.cs ZA
 have lss:y.I.ss.length=y.fi.length:=P? Q_.ss;have TZ:Ec!:=Ew!
 obtain⟨a0,et,_⟩:=id pA;refine E7! s Os;have NT:=Di!;have UZ:=x.VC HF hy;have vi:Eg! W.LD y.n y.io:=by (have e1:W.LD=(i1.map Cy!)++(y.n,y.io)::i2.map Cy!:=by rw[x.iq,ey,ZF,AI]);(have nd:D? W.LD.map:=No x.iq AL x.lE);rw[e1] at nd ⊢;exact(yx nd).1
 refine o! (G! DK!);refine⟨p,t,_,BL,s,g,y.n,u,e1,e2,e,xs,tick,y.io,y.I,rfl,W1,pA.keep NT,ee,x.en,NT.AZ _ _ he,vi,UZ.at_,Z! (x.off y hy b (EV.mpr hb)),A!,A!,A!,AC BO!,TZ,?_⟩;have lb:∀{H2:Hp},SJ p W y.I H1 H2->EV!:=λfr b o eb hb n1 n2 n3=>fr b o Da! hb n1 n2 n3;rcases ku with rfl|rfl;· obtain⟨lt,sn,ivA,ivB⟩:=iv.first (D:=D) (N:=n) (sh:=W.share) es;(have ef:AI! y.I.fs=(Ex!).map (EW! w?):=D! Q_.fs (zT (k:=λr:Int×Int×HS=>r.1) (f:=C5! w?) (r:=(s,tick,S)) sn));(have uw:Cj! y.I.fs=R! y.fi.length+1:=by rw[ef,ZA,ZE];rfl);(have iV:∀{H2:Hp},EV!->K62F.FF CI H2 y.io Ei!->PU CI K H2 m { y with I:=Ei!,fi:=Ex! }:=λfr at2=>by have kt:=SJ.DL x.wa Q_.at_ fr;refine⟨at2,Q_.many,ef,Q_.cs,?_⟩;show Paired _ (putK y.I.ss (G! s) (C! xs)) _;rw[Jiy Q_.ss sn];exact C8 (Ap (λ_ _ h9=>by obtain⟨a,e,s⟩:=h9;exact⟨a,e,s.keep kt⟩) Q_.ss) (q? ⟨xs,rfl,st.keep kt⟩ I!));refine B! ⟨rfl,λne v H2 W2 at2 JB _=>?_,λeq v L H2 W2 bM at2 JB _=>?_⟩;(.have ne':y.fi.length+1≠m:=λz=>ne (BN! uw Q_.many);have fr:=lb JB;(have cu:x? { W with c:=W.c,ls:=AS!++[],EN:=U!,JK:=W.JK }:=D! AG W2);obtain⟨wi,bD⟩:=FA! [] D { y with I:=Ei!,fi:=Ex! } T0 x.wg CP! I! (BE _) rfl (j! C0!) (λ_ _ _=>rfl) Cp! (λ_ _ _ hz=>C0!) (DN! (ivA ne')) (λe he=>B! he) T! (λh=>h);refine k _ _ D _ _ H2 ?_ ?_ wi bD rfl;(.exact hR _ _ _ _ rfl (Se (new:=[]) es rfl));.exact Eo!);·(have TQ:y.fi.length+1=m:=by rw[uw,Q_.many] at eq;lia);have fr:=lb JB;(have bM:LW H2 W.c g y.n 2 L m:=Y? f_ bM);have cu:x? { W with c:=k?,ls:=WP,EN:=U!,JK:=W.JK }:=W2;refine(λ(A:_/\_)=>k (C! v) { W with c:=k?,ls:=WP,EN:=U!,JK:=W.JK } D _ _ H2 (Cs! (Se es Vl)) (by exact Eo!) A.1 A.2 rfl) (FA! (Ek m g y.n 2) D { y with I:=Ei!,fi:=Ex! } T! x.wg CP! (CM! (λi:Nat=>LL.ask g V! y.n 2) H2 (U!) bM.NU) (by unfold Ek;rw[ZA,BZ];exact m5) Vl E? (λk u ne=>U? Hi (AB λz=>ne z.1.symm)) (λ_ _=>Jo) BX! (ivB TQ x.wg g) (λe he=>B! he) T! (λh=>h));(.obtain⟨j,_,ez⟩:=FS;rw[<-ez];exact⟨B3! y hy,H! rfl⟩);.obtain⟨j,_,ez⟩:=FS;cases ez
 · obtain⟨fl,lt,sn,lK⟩:=iv.second es;have pf:=(iv.whole fl).2.2;(have ec:AI! y.I.cs=(X?).map (EW! r.2):=D! Q_.cs (zT (k:=λr:Int×Int=>r.1) (f:=C5! r.2) (r:=(s,tick)) sn));(have lec:Cj! y.I.cs=R! y.se.length+1:=by rw[ec,ZA,ZE];rfl);(have JKZ:(X?).length=y.se.length+1:=Dw! ZE);(have iV:∀{H2:Hp},EV!->K62F.FF CI H2 y.io DE!->PU CI K H2 m { y with I:=DE!,se:=X? }:=λfr at2=>by have kt:=SJ.DL x.wa Q_.at_ fr;exact⟨at2,Q_.many,Q_.fs,ec,Ap (λ_ _ h9=>by obtain⟨a,e,s⟩:=h9;exact⟨a,e,s.keep kt⟩) Q_.ss⟩);refine H! ⟨a?,λne v H2 W2 at2 JB _=>?_,λeq=>?_⟩;(.have fr:=lb JB;(have cu:x? { W with c:=W.c,ls:=AS!++[],EN:=U!,JK:=W.JK }:=D! AG W2);obtain⟨wi,bD⟩:=FA! [] D { y with I:=DE!,se:=X? } T0 x.wg CP! I! (BE _) rfl (j! C0!) (λ_ _ _=>rfl) Cp! (λ_ _ _ hz=>C0!) (DN! lK) (λe he=>B! he) T! (λh=>A!);refine k _ _ D _ _ H2 ?_ ?_ wi bD rfl;(.exact hR _ _ _ _ rfl (Se (new:=[]) es rfl));.exact Eo!);·(have TQ:(X?).length=m:=by rw[lec,Q_.many] at eq;lia);(have ps:((X?).map J!).Perm (rg m):=by rcases lK.t2 with⟨h,_⟩|⟨_,pm⟩;(.lia);.have l:=pm.length_eq;rw[ZE,ZE,ZA,ZA,J6] at l;have q1:Cs (I?) y.n 2=[]:=Ce! CA.mp;have q2:Ck (I?) y.n 2=[]:=Ce! CA.mp;rw[q1,q2] at pm;exact pm);(have iU:∀h:Nat,∃ah:Addr,h<m->Ci y.I.ss (G! Ca!)=P! ah/\RZ K H1 ah (Nh y.fi h):=λh=>by by_cases hh:h<m;(.obtain⟨r,_,_,ef,_,es2⟩:=N6 pf hh;obtain⟨ah,va,sa⟩:=ya UZ.ss ef;exact⟨ah,λ_=>⟨va,D! es2 sa⟩⟩);.exact⟨e,λz=>absurd z hh⟩);let cf:GE:=λh=>(((X?).find? CI!).map (·.2)).getD 0;(have vd:∀h:Nat,h<m->∃r∈X?,r.1=Ca!/\(X?).find? (CI!)=some r/\r.2=cf h:=λh hh=>by obtain⟨r,hr,er,ef⟩:=Jfc (se:=X?) (h:=Ca!) (ps.mem_iff.mpr (N_.mpr ⟨A!,A!⟩));exact⟨r,hr,er,ef,by show r.2=((((X?).find? CI!).map (·.2)).getD 0);rw[ef];rfl⟩);(have sF:=lK.done fl (c:=cf) λh hh=>by obtain⟨r,hr,er,_,ev⟩:=vd h hh;exact⟨r,hr,er,ev⟩);(have eL:K62F.GJ (K62F.KP m (Jq y.fi) cf (λh=>Classical.choose (iU h)) (Nh y.fi))=Lb m (λh=>Et!) (Nh y.fi):=by show List.map _ (List.map _ _)=_;rw[AL];rfl);(have sT:K62F.UD (K62F.GJ (K62F.KP m (Jq y.fi) cf (λh=>Classical.choose (iU h)) (Nh y.fi))):=by rw[eL];have WH:∀k∈(List.range m).filter (λh=>Et!),k<m:=A8! (BR.mp (AE.mp hk).1);(have nn:∀q∈W.qs,0<=cr:=o? (by obtain⟨j,hj⟩:=CB.mp hq;exact(x.wg.BL (q:=q.1) (G:=q.2) hj).1.m0));refine Jhk (mx:=λk=>B7! W.qs k) (m:=m) (List.nodup_range.filter _) ?_ WH (A8! ?_) (λk hk w hw=>?_) ?_;(.have:=AV (λh=>Et!) (List.range m);rw[BZ] at this;lia);(.obtain⟨r,hr,er,_,_,e4⟩:=N6 pf (WH k hk);have:=(iv.f1 r hr).so;rw[er,<-e4] at this;exact this);(.obtain⟨r,hr,er,_,_,e4⟩:=N6 pf (WH k hk);obtain⟨⟨q,G⟩,hi⟩:=Au (xs:=W.qs) (j:=k) (by have:=WH k hk;lia);rw[e4] at hw;have h1:=(iv.f1 r hr).nw k q G hi er w hw;(have h2:YW W.qs k=G.AU:=by unfold YW;rw[hi];rfl);have h3:=(x.wg.BL hi).1.m0;show w.1.2<Ev (B7! W.qs k);rw[h2];lia);.have h1:=Pj nn;have h2:=x.md;rw[f_] at h1;lia);refine⟨m,Jq y.fi,cf,λh=>Classical.choose (iU h),Nh y.fi,A!,⟨⟨(y.fi.map J!).map FC!,Jd4 pf,?_⟩,A8! ?_,A8! ?_,A8! ((Classical.choose_spec (iU k)) hk).1⟩,A8! ((Classical.choose_spec (iU k)) hk).2,sT,C3! 400,λe he z=>?_,λv xf as ts L H2 fo W2 bM VS th at2 JB _=>?_⟩;(.show y.I.fs.map J!=_;rw[Q_.fs,AL,AL,AL];refine BM λr hr=>?_;have:=N_.mp (pf.mem_iff.mp (AF.mpr (b? r hr)));show BL! r.1=Sum.inl (Ev r.1.toNat);rw[BJ this.1]);(.show Ci y.I.fs _=_;obtain⟨r,_,_,ef,e3,_⟩:=N6 pf hk;rw[Q_.fs,Va (k:=λr:Int×Int×HS=>r.1) (f:=C5! w?),ef,e3];rfl);(.show Ci (putK y.I.cs (G! s) (Y! tick)) _=_;obtain⟨r,_,_,ef,e3⟩:=vd k hk;rw[ec,Va (k:=λr:Int×Int=>r.1) (f:=C5! r.2),ef,<-e3];rfl);(.obtain⟨y0,bN,q1,q2⟩:=x.ff e he;(have:y0=y:=by rw[ey] at bN;rcases ZI bN with h|h;(.exact absurd (U? q1 z) (Uh ey x.lE y0 (G! h)));.rcases ZM h with h|h;(.exact h);.exact absurd (U? q1 z) (Uh ey x.lE y0 (.inr h)));rw[this] at q2;lia);.have fr:=lb JB;rw[eL] at fo;(have bM:gG H2 W.c g ts L m:=Y? f_ bM);have cu:x? { W with c:=k?,ls:=WP,EN:=U!,JK:=W.JK++[(y.n,xf)] }:=W2;refine(λ(A:_/\_)=>k (C! v) { W with c:=k?,ls:=WP,EN:=U!,JK:=W.JK++[(y.n,xf)] } _ _ _ H2 (Cs! (Se es zB)) (by exact Eo!) A.1 A.2 rfl) (FA! (Xe m g ts) (λt=>D t\/GS m (λh=>Et!) (Nh y.fi) t) { y with I:=DE!,se:=X? } T! (x.wg.more sF) (λ_ h=>FM) (CM! (λi:Nat=>LL.lt g V! (ts.filter EH!)) H2 (U!) bM.NU) (by unfold Xe;rw[ZA,BZ];exact m5) zB E? (λ_ _ _=>Rf) (λ_ _=>Rg) (λs0 g0 ts0 hz=>?_) (lK.de (λu=>BZ! Bz Rf) (λu=>BZ! Bu Rg) (KO.refl _ _)) BR! ?_ (λh=>A!));(.obtain⟨j,_,ez⟩:=FS;rw[<-ez];trivial);(.obtain⟨j,hj,ez⟩:=FS;injection ez with q1 q2 q3;have hj:=BR.mp hj;refine⟨A!,A!,_,sF,λt h=>H! h,λt=>?_⟩;rw[<-q3,<-q2,AE,fo.mem];constructor;(.rintro⟨h1,h2⟩;exact⟨h1,BO h2⟩);.rintro⟨h1,h2⟩;exact⟨h1,decide_eq_true h2⟩);(.rcases ZI he with he|he;(.exact B! he);.rw[ZK he];exact H! (SB TQ));.rw[ZE];show W.JK.length+1<=n+1;lia
universe E
def Val(W:FK)(m:Nat)(H:Hp):Dd->Prop
 | .make h=>∃q G,i!
 | .three w h a b=>∃q G ta tb,i!/\B8!/\n?/\CO!/\BY!/\((w=Z?/\AE!)\/((w=AC!\/w=AD!)/\Eh!))
 | .free h b=>∃q G tb,i!/\n?/\AE!
 | .send h g b=>∃q G tb,i!/\0<=g/\g<m/\n?/\AE!
 | .clean h=>∃q G,i!
 | .ask h=>∃q G,i!
 | .deliver n=>∃l1 l2 t,W.ls=l1++(n,t)::l2
def Jna(W:FK)(al:G?)(ls:Bc!)(W':FK)(al':G?):LL->Prop
 | .w l=>xb W l ls W' al'
 | .lt _ _ _=>(∃j G G',QX W W' j G G'/\PP/\KF)/\EC!
 | _=>CS!/\CL!
def qu(K:W.Frag)(W:FK)(al:G?)(H:Hp)(v:V)(W':FK)(al':G?)(H':Hp):Dd->Prop
 | .make h=>al'=al/\∃G t a,BD! (IM (UR G a))/\v=L! t/\FD! H' t ED!
 | .three w h a b=>al'=al/\∃G ta tb,B8!/\n?/\CO!/\BY!/\((w=Z?/\BD! (Az! Ng))\/(w=AC!/\Eh!/\BD! (Az! L1))\/(w=AD!/\BD! (Lz G tb)))
 | .free h b=>al'=al/\∃G tb,n?/\AE!/\BD! (L0 G tb)
 | .send h g b=>∃G G' tb,n?/\v4/\PP/\KF/\Ch!=Di (EH al)++[(g,tb)]
 | .clean h=>∃G G',v4/\PP/\KF/\EC!
 | .ask _=>CS!/\CL!
 | .deliver n=>∃l1 l2 t a z b,W.ls=l1++(n,t)::l2/\DY!/\ww/\JW K H W.EN (n,t) z/\wv/\Jna W al (EH (I?)) W' al' z
universe S
theorem Jjs(x:F!)(hn:y!)(v:Val W m H dd)(k:v!)(hR:CQ! (qu K W al H v W' al' H' dd->Go))(kE:E (C! NW) none H):AK! dd:=by cases dd with | make h=>obtain⟨q,G,i⟩:=v;exact Jhp x hn i k λ_ _ _ _ c e=>e? ⟨rfl,_,_,_,c,rfl,e⟩ | three w h a b =>obtain⟨q,G,ta,tb,i,ea,eb,ha,hh,v⟩:=v;rcases v with⟨rfl,hb⟩|⟨rfl|rfl,hb⟩;(.exact Jhq x hn i ea eb ha hb hh k (DF! ⟨rfl,_,_,_,ea,eb,ha,hh,B! (SB c)⟩));(.exact Jhs x hn i ea eb ha hb hh k (DF! ⟨rfl,_,_,_,ea,eb,ha,hh,j? ⟨rfl,hb,c⟩⟩));.exact Jhn x hn i ea eb ha hb hh k (DF! ⟨rfl,_,_,_,ea,eb,ha,hh,o! (SB c)⟩) | free h b=>obtain⟨q,G,tb,i,eb,hb⟩:=v;exact Jhr x hn i eb hb k (DF! ⟨rfl,_,_,eb,hb,c⟩) | send h g b=>obtain⟨q,G,tb,i,g0,g1,eb,hb⟩:=v;exact Jho x hn i g0 g1 eb hb k (λ_ _ _ _ _ c e l m=>e? ⟨_,_,_,eb,c,e,l,m⟩) kE | clean h=>obtain⟨q,G,i⟩:=v;exact Jfj x hn i k λ_ _ _ _ _ c e l m=>e? ⟨_,_,c,e,l,m⟩ | ask h=>obtain⟨q,G,i⟩:=v;exact Jjr x hn i k λ_ _ _ _ e1 e2=>e? ⟨e1,e2⟩ | deliver BL =>obtain⟨l1,l2,t,el⟩:=v;have lw:=x.lw;rw[el] at lw;obtain⟨a,z,b,es,p1,p2,p3⟩:=Vy lw;cases z with | w l=>exact E5! Jct (λ_ _ _ _ e=>e? ⟨_,_,_,_,_,_,el,es,p1,p2,p3,e⟩) | ask s g n' u=>exact E5! Jfk (λ_ _ _ _ e1 e2=>e? ⟨_,_,_,_,_,_,el,es,p1,p2,p3,e1,e2⟩) | MJ s g n' u tk S=>exact E5! Jcu (λ_ _ _ _ e1 e2=>e? ⟨_,_,_,_,_,_,el,es,p1,p2,p3,e1,e2⟩) | lt s g ts=>exact E5! Jjq (λ_ _ _ _ _ _ _ c h l e=>e? ⟨_,_,_,_,_,_,el,es,p1,p2,p3,⟨_,_,_,c,h,l⟩,e⟩)
theorem Jc6(W:FK)(n:Str)(h:(["make",Z?,AC!,AD!,"free","send","clean",B?,BM!]:List Str).contains n=true):(E4 W).lookup n=none:=by simp only[L_,List.contains_nil,Bool.or_false,Bool.or_eq_true,LX] at h;rcases h with h|h|h|h|h|h|h|h|h<;>(rw[h];exact Dp W ZV)
theorem Val.keep(v:Val W m H dd)(k:Ah!):Val W m H' dd:=by cases dd with | make h=>exact v | three w h a b =>obtain⟨q,G,ta,tb,i,ea,eb,r⟩:=v;exact⟨q,G,ta,tb,i,Bd! ea,Bd! eb,r⟩ | free h b=>obtain⟨q,G,tb,i,eb,r⟩:=v;exact⟨q,G,tb,i,Bd! eb,r⟩ | send h g b=>obtain⟨q,G,tb,i,g0,g1,eb,r⟩:=v;exact⟨q,G,tb,i,g0,g1,Bd! eb,r⟩ | clean h=>exact v | ask h=>exact v | deliver n=>exact v
theorem WI.upn(x:F!):Fn! H (n+1):=by have a1:=x.md;have a2:=x.ez;have a3:=x.fz;have a4:=x.iz;have a5:=x.lz;exact{ x with wg:=x.wg.up,md:=A!,ez:=A!,fz:=A!,iz:=A!,lz:=A! }
universe E
universe S
theorem YB:q! ["_law_cell_here","_law_free","_law_number"] ["_law_cell_here","_law_free"] Z9:={}
inductive yZ(vs:W!)(H:Hp)(Q:VK)(E:XK):Prop
 | mk (c:Int) (b:Bool) (_:vs=[C? c,.bl b]) (_:∀v:Int,Q (Y! v) H)
theorem Jgx(F:l! "_law_spun" "_law_spun" Z9):Rs 1 f fd ["_law_cell_here","_law_free"] yZ:=by refine m? YB;obtain⟨c,b,rfl,k⟩:=h;refine R?;refine EQ (Ad (Bf (Fx (pv 1)) (Dr! 0) A4) (Ag! 2 YB.nd (Bl Dg (Bl Ge (Bl Dg K? Ag) Ag) Ag) (Fd! 2 YB.nd (Bl Dg (Bl Ge (Bl Dg (Bl Ge E! (Bl Hs E! Ag)) Ag) Ag) Ag)) (Ay! (Bl Hs E! (Bl Ge (Bl Dg K? Ag) Ag)))));refine D4! rfl;cases b with | true=>exact B7 (pi (k _)) | false =>refine By ?_;refine⟨_,rfl,_,_,rfl,rfl,At! 2147483647,_,_,rfl,rfl,i? a? a?,_,_,rfl,rfl,At! 2147483647,?_⟩;have n0:=DP (c % 2147483647*48271) (show R! 2147483647≠0 by decide);have n1:=DB (c % 2147483647*48271) (At! 2147483647);generalize c % 2147483647*48271 % 2147483647=z at n0 n1;refine⟨_,rfl,_,rfl,_,_,rfl,rfl,_,_,rfl,rfl,B! ⟨A!,A!⟩,_,_,rfl,rfl,At! 2147483629,_,_,rfl,rfl,i? a? a?,_,_,rfl,rfl,At! 2147483587,?_⟩;exact⟨_,rfl,_,rfl,_,_,rfl,rfl,At! 1000003,_,_,rfl,rfl,i? a? a?,_,_,rfl,rfl,k _⟩
end
mutual
def Z:=#[s?,"_law_things",
GM,"_law_a",
AV!,"_law_holds",
J?,(·.1),
TD,by simp,
F! a b,by rw[a];exact b,
U? a b,by rw[<-a];exact b,
Tk,"_law_world",
Bi!,"_law_many",
T0,"_law_cell_here",
AX!,"_law_free",
AY!,"_law_hand",
Bj!,"_law_records",
y?,.tuple,
q!,.str,
I!,.cons,
P!,.nil,
AC,"hold",
UF,"pass",
K!,by decide,
D!,.inl,
H!,.inr,
AZ!,Int×Addr,
l? a,(by cases a),
Bo!,"_law_hand_here",
v4,X.env::X.outer,
v! a,λb hb=>a,
g!,Int×T2,
BH! a,by have:=a;lia,
BV! a,by rw[a];lia,
E!,by lia,
CU! a,∀y∈sc.names,a,
AL! a,∀b∈fp,a,
AT,"hands",
At,"holds",
Ch,"coming",
Db a,by rw[a];rfl,
m?,(·.2.1),
BW! a,∀q∈F.holds,a,
V! a,λq hq=>a,
BX!,"_law_flat_here",
Df! a,by unfold Bj;rw[a],
Dg! a,{ F with BY:=a },
Dh!,"_law_deed_here",
Di!,"_law_noted",
SB a,λb o e n=>a,
BY!,λ_ _ e _=>e,
Dj! a,λH' S' fr=>a,
Dk!,Str×NameKind,
Dl!,"_law_reached",
Dm! a,λ_ _ _ _ _=>a,
h! a,λt ht=>a,
FB a b c,by rw[a,b];exact c,
Bn!,"_law_step",
d!,"self",
Bp!,"_law_flat",
Aa!,"_law_script",
Bq!,"_law_share",
Br!,"_law_right",
De!,"beginner",
A! a,some a,
L! a b c,a b=A! c,
G! a,(.ref a),
B! a b,a _ _ b,
w! a b,L! H a b,
C!,A9 (K!) rfl,
W! a,.ref a,
X! a,CF.of a,
Dn! a b c d e,DH P w K mg base a b c d e,
SC a,(l? a),
M? a,[d!,a],
i! a,A! (G! a),
n? a,decide (a),
Z! a b,(F! a b),
R! a,a J?,
J! a,List (a),
o?,q.1=t,
M!,List T2,
Y! a,V.ref a,
V? a,V.int a,
O! a b,F! (Ab a) b,
AM! a,(.BC (a V.ref)),
S! a,.int a,
T! a,(some a),
x! a,DU.of a,
k! a b,⟨a,b,rfl⟩,
U! a,H! a,
N!,CC H fl F,
W?,q.2.1,
X?,[d!],
AN!,λ_ z=>SC z,
y!,X! ex,
Y?,(.BC []),
Q!,(G.BL,G.AU),
j!,List V,
AO! a,B! kt.AZ a,
AP! a,a (λq=>n? o?),
p? a,⟨rfl,a⟩,
q? a b c,Ah (o:=a b) c,
r? a b,(Aa a (Aa b Af)),
Do!,(x::y0::Dy caps),
Z? a,Paired.length a,
z! a b c d,Dn! 2 a b c d,
a? a,a b=none,
b?,R++[t],
SL,(pv 4),
a!,(Av Aq (pv 1) Ag),
D3! a b c,Ax (i:=a) b rfl (Or.inl rfl) c,
AQ! a b,F.BK.set a b,
c? a b c,⟨_,a,b,c⟩,
BZ! a,k! q a,
Dp! a,(H! (D! a)),
AR!,(Ba hu (pv 0) A6),
AS! a b c d e f,(Co a b (by rfl) c d e P! Bg f),
EQ a b c d e,FE P w K mg base a b c d e,
l!,(.int _),
o!,ZG _,
Ev,(Av Aq (pv 2) Ag),
Ba! a b,(Bk (i:=a) b rfl (Or.inl rfl)),
Dq! a b,AP! a=A! b,
AT! a,a (K!),
FM a,a (E!),
AU! a b c,L! a b (.BC c),
FS,(pv 0),
A?,(pv 2),
B?,List LL,
C?,(i:Int),
GE a,⟨_,rfl,a⟩,
D? a b c d e,QW K mg a b c d e,
E?,Wg D m n sh qs ls,
Bb! a,VW fl F H a,
F? a,(a J?).Nodup,
Go a b c d,Dn! 1 a b c d,
IN,i! fl,
Dr! a,Z! eN a,
G? a,LP X G a,
H?,qs[j]?=A! (q,G),
Ds! a,(Az Ca a A6 (A7 _)),
I? a b c,An a b (Ak c),
K? a b,W.nsIn K mainGlobals a=A! (some (.ref b)),
L? a b c,EU K a b c f fd,
IR a,D! ⟨rfl,_,x! a⟩,
N?,(ZL ..),
Bc! a b,L! a b .local,
O?,(pv 1),
P?,(pv 3),
AW! a,w! x a,
Bd! a b c d e f,Dn! a b c d (e CW C CP f K),
Q? a,GY X G a,
R?,w! b o,
S?,Bh H H',
SZ a,L! a b o,
Sc a,(a (Js hr)),
T? a,W.nsIn K mainGlobals a=A! none,
Dt!,λvs H Q E h=>?_,
d?,[Aa!],
e? a,by rw[ZH,a];rfl,
f?,(m:Int),
g?,W! a,
h?,X! et,
i?,BZ! hq,
Du! a b c d e,Bt CW C CP CI K a p W b m c d e fl F,
j? a b,if a then(q.1,W?,b) else q,
Be!,(ns.map V.int),
Dv!,(.AZ [V? g,Y! b]),
k?,FD F qs ls,
Bf! a b c d e,WI CW C CP CI K a p W b m c d e,
t? a,B! s1 a,
Bg! a b c,(upd a b (AM! c)),
Bh!,i! p,
u?,R! F.holds.map,
v?,p? (λD_ A outer s hr=>?_),
Dw! a,AQ! h.toNat a,
w? a,Ba! a QR.nd,
Bk! b c,Dq! b (t,a,c),
Bl! a b c d e,(Ae (A3 (E6 BB a b c d (Aa e Af)))),
x? a,q? .BC [] a,
Dx!,Ds! SL,
z?,T2->Prop,
Dy!,[.Name x px,.Name y0 aB],
Bm! a b c,Au (xs:=a) (j:=b) (c),
Is a b,by rw[<-a];exact(ZJ b).1,
Dz!,λ_ _ z=>SC z,
D0! a b c,L! a b (AM! c),
Ix,List Addr,
KB,List Qy,
KE,.int h,
KF,⟨_,e⟩,
KM a,W.findIn K (G! C) a=A! none,
NE,AO! eb,
No,Bb! H',
Op,decide_eq_true rfl,
Os a b,⟨λz=>a,λz=>b⟩,
D1! a b,A! a::A! b::C0 σ caps,
PP,(relabel sc X.env).names.lookup,
D2!,(model X.prog X.w),
Rs a,⟨_,rfl,x,_,0,_,rfl,rfl,y!,C!,a⟩,
UV a b c,(D3! a b c),
Uf a,a λq=>n? o?,
WF,q.1=ta,
WP,[Bi!],
XV,List Int,
am,List Str,
ap,G! D,
be a b,w! a (AM! b),
bi a b,w! a (.AZ (tv b)),
bn,W! t,
bv,R! G.AH.map,
ca,J! AZ!,
ci,AD rfl,
cr a,F.holds++[(a:T2×Addr×M!)],
db a,W.findIn K (G! CW) a=A! none,
ga,Z? th,
ii,BW H H',
jp,a? H',
lc,(.dT []),
o0,x.at hi,
pi,AT! hr.mono,
re a b c d e,DG K CW a b c (M? "h") d e,
sB a,(JT (JT (OF (OF a)))),
sK,[Tk,BX!],
sw a,Bc! sc.names.lookup a,
ut a b c d e,Bd! 4 a b c d e,
v6 a,AU! H2 a ys,
wE a b,Inv X AA σ a b,
wP a,F'.JD a Dt!,
wS,F.holds++[(tm,a,[])],
wT a,Ap (λ_ _ h=>a) pc,
wp,F.BK.map (·.2),
wv,(g,th),
D4! a,{ F with holds:=Cw F.holds ta a },
ww,(.AZ (IB.map V.ref)),
xL a b,E7 (o:=.BC (a V.ref)) b,
xz a b c d,⟨_,Ad (D3! a b c) d,?_⟩,
AA!,V! (SC hq),
AB! a c,λb o e=>O! (Aj e a) (B! c e),
AC! a,Eg (fY a),
AD! a,Di (EH a),
AE!,(upd H c Dv!),
AF!,[Tk,BX!,Dh!],
AG!,[BX!,"_law_h","_law_thing"],
D5!,(10:Int) ^ (59:Int).toNat,
AH!,[BX!,Dh!,"_law_letter","_law_made"],
AI!,Du! H D n al ys,
AJ!,[Tk,Bi!,T0,"_law_asks",AX!],
AK! a,W.excIn K a [.type "ValueError",.type "Exception",.type "BaseException",.type "object"] "ValueError.__new__"=true,
Ab!,(λ_=>False),
Ac!,[BX!],
Ad! a,∀b∈Ec fl F,a,
Ae!,b∉Bv p W,
Af!,b∈Ec fl F,
Ag!,b∈UW F,
Ah! a,{ F with BK:=Dw! a },
Ai!,G! c,
Aj!,G! b,
Ak!,W! fl,
Al!,M? "h",
Am!,M? "letter",
An!,J! (Addr×BX),
Ao! a b c d e,DG K C a b c X? d e,
Ap!,⟨_,rfl⟩,
Aq!,Ec fl F',
Ar!,(q.1,l),
As!,AO! ea,
At! a,(Bf Dx! a A4),
Au! a b c d,EQ 3 a b c d,
Av!,Option V,
Aw!,g.BL hi,
Ax! a b c d e,DG K CW a b c (M? "letter") d e,
Ay! a,H! (D! a),
Az! a b,AW! (.AZ [q! a,b]),
A0!,(s1 _ _ e),
A1!,(cs.eraseIdx j).map,
A2! a b c d e,DG K C a b c (M? "thing") d e,
A3! a,(EY.mpr (H! (Dp! a))),
A4!,S.same s1,
A5!,F.BK[h.toNat]?=A! q,
A6! a b,YX a (λo e=>O! b e) kt,
A7!,λq=>Y! q.1,
A8!,(upd H a Y?),
A9! a b,(.tupP (CF.of a) b),
BA!,F.BY.eraseIdx j,
BB!,[Aa!,"_law_k"],
BC!,b∉ys.flatMap Cy,
BD!,(L5 Be! (T! 2) (T! 62)),
BE! a,a mainGlobals mg,
BF!,h.keep kt,
BG!,Str->Option Value,
BI! a,if a then 0 else q.2.2.length,
BJ! a,(by rw[z,a] at e;cases e),
BK!,(EY.mpr (Dp! rfl)),
BL! a b c d e,(a b (by rfl) c d (Aa e Af)),
BM!,(upd H3 ra (A8 (b?))),
BN! a,(qs.set j (q,a)),
BO! a b c,(Ee PassesOwn.never rfl a b c),
BP!,(Av Aq Ev Ag),
BQ!,(MF X sc cl s3.heap.objs.size Do! s3 H3 fp AA),
BR!,fJ (go AN!) ex,
BS!,Bf! H D n al ys,
BT!,(.ListComp elt [⟨.Tuple Dy! kt pt,iter,ifs,0⟩] sc pos),
BU! a,F! eW (x.SO g hi le eh (Z! SG a)),
Bs! a,(∀q∈F.BK,a),
Bt! a b,⟨a,C!,b⟩,
Bu!,v! (D! hb),
Bv! a c d,λb o hb e=>a b o c d,
Bw! a,λh1=>GE a,
Bx!,λc hc=>?_,
By!,λb o e=>?_,
Bz!,λa=>(a,[]),
B0! a b c,a (F! b c),
B1! a b,L! a b Y?,
B2! a b,w! a (.AZ b),
B3!,(.BC (ys++[v])),
B4!,(Classical.propDecidable _),
B5! a,a (λq=>q.1),
B6! a,[d!,"h",a],
B7! a,[d!,a,"share"],
B8! a b,(upd H a (AM! b)),
B9! a c d e f g,DG K CW a c d [d!,"h",e,"b"] f g,
CA! a,⟨_,x! a⟩,
CB!,F.holds++[(t,a,[])],
CC! a,W.findIn K (G! CQ) a=A! none,
CD!,(q.1,q.2.2),
CE! a,r? FS a,
CF! a b c,z! a b X? c,
CG! a b c,(Az (Sc a) b c (A7 _)),
CH!,(ZJ hj).1,
CI! a b c d e,AS! a HP b c d e,
CJ! a,L! cl.lookup y a,
CK!,(a,NameKind.local),
CL!,(b,NameKind.local),
CM!,IR el,
CN!,as.map V.ref,
CO!,[Tk,Dh!],
CP! a b c,λz=>a (U? b c),
CQ! a b,λz=>a (F! z b),
CR! a,(EY.mpr (H! (H! (H! a)))),
CS!,⟨?_,?_⟩,
CT! b,Bk! F.holds.find? b,
CV! a b,(k 0 _ (H! nm) (Dr! a) b),
CW! a b,(k 0 _ (H! AN!) (Dr! a) b),
CX! a b,Bm! a i b,
CY! a b,D0! a la b,
CZ! a b c d,Dn! 3 a b c (d CW C CP),
Ca!,Bj q.2 tb,
Cb! a,(Av C4 AR! a),
Cc!,CC H' fl F,
Cd! a,(by show a<=sizeLine;decide),
Ce! a b,(Fj (AW.keep a b)),
Cf!,(Ae (Ay Fz)),
Cg! a b c,⟨λ_=>a,λ_=>⟨b,FB eW cj c⟩⟩,
Ch! a b,D4! (a b tb),
Ci! a,F.ha::F.co::(R! F.BK.map++a),
Cj! a b c,a (D1! u v') b c,
Ck! a,Paired (HE a) cs F.BY,
Cl! a,go _ rfl rfl rfl a rfl,
Cm! a,(show(0:Int)<a by decide),
Cn!,F! ZA (FM Ed),
Co! a c,∀b o,a->c->SZ H',
Cp! a b c d e,MeI K a "__init__" b c d e,
Cq!,w! b (.AZ (tv tb)),
Cr! a b c d e f g,AS! a hr b c d (Aa e (r? f g)),
Cs!,j!->Hp->Prop,
Ct! a c d e f,DG K C a c d [d!,"b","weight"] e f,
Cu! a b,JL K H (G! a) b,
Cv! a,[S! n,q! kind,S! s,S! g,a],
Cw!,⟨q,hq,e.symm⟩,
Cx! a b c,DM H a b (some (V.ref c)),
Cy! a,(Ba hu AR! a),
Cz! a b,x.holds j q G a t b,
C0!,t.1=(j:Int),
C1!,⟨x.up.a,x.up.b⟩,
C2!,⟨AN!,Dz!⟩,
C3! a b,∀d∈a,d.canLay0=true/\d.depth<=b,
C4! a,λz=>ne (a z),
C5! a b c,∀C s1 H1 fp AA,a (MF X sc cl C Do! s1 H1 fp AA) b c,
C6! a b c,Z! (sN a) (By (b c)),
C7! a,F.holds.find? (λq=>n? a),
C8!,(as.map λa=>((a,[]):Addr×M!)).map,
C9! a b,Go f fd a b,
DA!,(U! AT,W! F.ha),
DB!,(U! At,W! F.hd),
DC! c d e f g,DG K C c d e [d!,"a","b"] f g,
DD!,(.Name y py),
DE! a b,(NS (Ql K) (Bx a) (tC (.int b))),
DF! a,σ[4]?=A! (some (q! a)),
DG! a b,AK.mpr ⟨a,TD,λu hu v hv z=>b⟩,
DH! a,(DZ a).mp (g1.trans g2.symm),
DI! a b c d e f,⟨λ_=>F,λ_=>⟨⟨t',rfl,H! (H! ⟨a,b,c? _ _ c,d,e,rfl⟩)⟩,f⟩⟩,
DJ!,N3 J5 J2.ok,
DK! a b,L! a y .cell\/L! b y .free,
DL!,{ cls:=.type "list",dict:=none,data:=.seq ([]:List Value).toArray },
DM! a,V! (BA (a q hq) (E!)),
DN! a,.tupP (CF.of e1) a,
DO!,Bg! H4 la IA.map,
DP! a b,Bl! DF DE Dw a b,
DQ! a,V.str a=V.str c,
DR!,⟨_,_,_,_,e⟩,
DS! a b c,wpAny D2! X.A a b X.xe c,
DT!,[V? 2,V? 2,V? 3,V.int (2+v / 4 % D5!)],
DU! a,[Bh!,IN,i! x,A! a,none,none],
DV! a b c d,(MeI.mth (ps:=a) ⟨b,c,d⟩).bd,
DW!,(.GF ob (.dT (R.map λt=>(tk t,V.bl true)))),
DX! a,Fa K mg CW NH a,
DY!,(NS UP (Bx 4) (tC (q! c))),
DZ! a,⟨_,hv,rfl,_,rfl,a⟩,
Da! a b,Sm a ta b D σ H,
Db!,Txt K mg C DJ DY MI NW,
Dc! b c d,mU b F lv c a d dd,
Dd! b c d e f g h,b (K:=K) (a:=c) (xs:=d) (e) f (g) ?_ h]
theorem Sk:PyData.eqv (NR t) (NR u)=n? (t=u):=by obtain⟨a,b⟩:=t;obtain⟨c,d⟩:=u;unfold NR;simp only[PyData.eqv,PyData.eqvAll,Prod.mk.injEq];by_cases h1:a=c<;>by_cases h2:b=d<;>simp[h1,h2,PyData.eqv]
theorem aw:I? [s?,GM,"_law_thing","_law_out",AV!] [s?,GM] K7:={}
inductive Q1(vs:j!)(H:Hp)(Q:VK)(E:XK):Prop
 | mk (y2 a:Addr) (bs:j!) (os:J! (T2×Int×M!)) (ta:T2) (_:vs=[W! y2,g?]) (_:B2! y2 bs) (_:Paired (OO H) bs os) (_:bi a ta) (_:ta∈R! os.map) (_:∀(hd:Addr)(cs:Ix)(o:Int)(hl:M!),(ta,o,hl)∈os->w! hd (.AZ (cs.map V.ref))->AW H cs hl->Q (G! hd) H)
theorem Yz(F:L? "_law_holding" "_law_holding" K7):C9! [s?,GM] Q1:=by
 refine F.ok aw (Dt!) (λD_ A outer s H vs Q E hr h=>?_);.obtain⟨y2,a,bs,os,ta,rfl,_⟩:=h;rfl
 .obtain⟨y2,a,bs,os,ta,rfl,e2,rows,ea,mem,k⟩:=h;refine⟨_,Ad (Ee PassesOwn.never rfl (Ih (pv 0)) (J8 rfl (Ce (Ba! 2 aw.nd) (Ce (Ba! 3 aw.nd) (Ce (Ba! 4 aw.nd) Hr)))) (Ae (Bf (CG! Ue A? O?) (Ae (Ay (pv 4))) A4))) (Ae (Ay (Cj Af))),?_⟩;refine⟨_,rfl,y2,rfl,⟨_,X! e2⟩,?_⟩;refine Dd! Lv y2 bs (λj σ H2=>H2=H/\(∃u1 u2 u3,σ=[i! y2,i! a,u1,u2,u3])/\ta∉R! (os.take j).map) ⟨rfl,c? _ _ rfl,TD⟩ (λj σ H2 _ h=>F! h.1 (X! e2)) (λσ H2 h=>?_);(.rintro j v σ H2 hj ⟨rfl,⟨u1,u2,u3,rfl⟩,no⟩;obtain⟨r,HZ⟩:=Bm! os j (Is (Z? rows) hj);obtain⟨a',t,hd,cs,rfl,e3,e4,e5,e6⟩:=Aw rows j v r hj HZ;refine⟨a',_,rfl,X! e3,rfl,_,_,rfl,_,_,rfl,_,_,rfl,rfl,?_⟩;refine⟨_,rfl,_,rfl,NR r.1,NR ta,.one (Mb e4),.one (Mb ea),Si r.1,Si ta,_,rfl,?_⟩;rw[Sk];refine U8 (λc=>?_) (λc=>?_);(.have c:r.1=ta:=BO c;exact GE (k hd cs r.2.1 r.2.2 (U? c (ZP HZ)) e5 e6));·(have c:¬r.1=ta:=by simpa using c);refine⟨rfl,c? _ _ rfl,?_⟩;rw[DS,HZ,ZF,K'];rintro(z|z);(.exact no z);·(have:ta=r.1:=by simpa using z);exact c this.symm);.exfalso;obtain⟨_,_,no⟩:=h;rw[Z? rows,BP] at no;exact no mem
example:I? [Tk,Bi!,T0,"_law_asks",AX!,"_law_kind","_law_h",AY!,s?,Bj!,"_law_letters","_law_b","_law_near",GM,AV!] AJ! V3:={}
universe E
def gK(n:Int)(kind:Str)(s g:Int)(th:T2)(x:Int):PyData:=y? (Cv! (y? [NR th,S! x]))
def Zo(n:Int)(kind:Str)(s g k u:Int):PyData:=y? (Cv! (y? [S! k,S! u]))
def fV(n s g:Int)(ts:M!):PyData:=y? [S! n,q! "let",S! s,S! g,y? (ts.map NR)]
theorem Jhb{K:W.Frag}{H:Hp}{t:Addr}{n:Int}{kind:Str}{s g:Int}{tb:T2}{x:Int}(h:IZ H t n kind s g tb x):Cu! t (gK n kind s g tb x):=by obtain⟨a,b,e1,e2,e3⟩:=h;exact DN! (I! l! (I! (q! _) (I! l! (I! l! (I! (A9! e2 (I! (Mb e3) (I! l! P!))) P!)))))
theorem yp{K:W.Frag}{H:Hp}{t:Addr}{n:Int}{kind:Str}{s g k u:Int}(h:NZ H t n kind s g k u):Cu! t (Zo n kind s g k u):=by obtain⟨a,e1,e2⟩:=h;exact DN! (I! l! (I! (q! _) (I! l! (I! l! (I! (A9! e2 (I! l! (I! l! P!))) P!)))))
theorem Jjc{K:W.Frag}{H:Hp}{t:Addr}{n s g:Int}{ts:M!}(h:RJ H t n s g ts):Cu! t (fV n s g ts):=by obtain⟨a,as,e1,e2,th⟩:=h;exact DN! (I! l! (I! (q! _) (I! l! (I! l! (I! (A9! e2 (Fj th)) P!)))))
theorem Jhc{n:Int}{kind:Str}{s g:Int}{th:T2}{x:Int}(hk:kind=AC\/kind="more"\/kind="back"\/kind=UF):(gK n kind s g th x).canLay0=true/\(gK n kind s g th x).depth<=20:=by
 have t1:(NR th).canLay0=true:=(Si th).1;refine CS!;.rcases hk with rfl|rfl|rfl|rfl;all_goals unfold gK;simp only[PyData.canLay0,PyData.canLayAll0,t1,Bool.and_true,Bool.true_and];decide +kernel
 .unfold gK;simp[PyData.depth,PyData.depthAll,NR]
theorem yo{n:Int}{kind:Str}{s g k u:Int}(hk:kind="ask"\/kind="answer"):(Zo n kind s g k u).canLay0=true/\(Zo n kind s g k u).depth<=20:=by
 refine CS!;.rcases hk with rfl|rfl;all_goals unfold Zo;simp only[PyData.canLay0,PyData.canLayAll0,Bool.and_true,Bool.true_and];decide +kernel
 .unfold Zo;simp[PyData.depth,PyData.depthAll]
theorem yc(ts:M!):C3! (ts.map NR) 20:=λd hd=>by obtain⟨t,_,rfl⟩:=ZN hd;exact⟨(Gb t).1,BA (Gb t).2 (K!)⟩
theorem Jf4(ts:M!):C3! (ts.map NR) 5:=λd hd=>by obtain⟨t,_,rfl⟩:=ZN hd;exact⟨(Gb t).1,by unfold NR;simp[PyData.depth,PyData.depthAll]⟩
theorem Jjd{n s g:Int}{ts:M!}:(fV n s g ts).canLay0=true/\(fV n s g ts).depth<=20:=by
 obtain⟨h1,h2⟩:=xj (Jf4 ts);refine CS!;.unfold fV;simp only[PyData.canLay0,PyData.canLayAll0,h1,Bool.and_true,Bool.true_and];decide +kernel
 .unfold fV;simp only[PyData.depth,PyData.depthAll];lia
theorem KG.kd{m:Nat}{l:LT}(h:KG m l):l.kind=AC\/l.kind="more"\/l.kind="back"\/l.kind=UF:=by
 rcases h.2.2.2 with⟨h,_⟩|⟨h,_⟩|⟨h,_⟩|⟨h,_⟩;.exact D! h
 .exact Ay! h
 .exact U! (Dp! h)
 .exact U! (H! (H! h))
def uq(n:Int):LL->PyData
 | .w l=>gK n l.kind l.s l.g l.th l.x
 | .ask s g k u=>Zo n "ask" s g k u
 | .MJ s g k u _ _=>Zo n "answer" s g k u
 | .lt s g ts=>fV n s g ts
def Xf:XV->B?->List PyData
 | n::ns,l::ls=>uq n l::Xf ns ls
 | _,_=>[]
theorem Jjf{K:W.Frag}{H:Hp}{EN:ca}{y:AZ!}{z:LL}(h:JW K H EN y z):Cu! y.2 (uq y.1 z):=by cases z with | w l=>exact Jhb h | ask s g k u=>exact yp h | MJ s g k u t S=>exact yp h.1 | lt s g ts=>exact Jjc h
theorem Pp{K:W.Frag}{H:Hp}{EN:ca}:∀{ys:ca} {ls:B?},Paired (JW K H EN) ys ls->Paired (JL K H) (ys.map λy=>Y! y.2) (Xf (ys.map J?) ls)
 | _,_,.nil=>P!
 | _,_,.cons h t=>I! (Jjf h) (Pp t)
theorem Pq{m:Nat}:∀{ns:XV} {ls:B?},(∀l∈EH ls,KG m l)->C3! (Xf ns ls) 20
 | [],_,_,d,h=>l? h
 | _::_,[],_,d,h=>l? h
 | n::ns,l::ls,k,d,h=>by rcases ZM h with rfl|h;(.cases l with | w l=>exact Jhc (k l N?).kd | ask s g k u=>exact yo (D! rfl) | MJ s g k u t S=>exact yo (H! rfl) | lt s g ts=>exact Jjd);.refine Pq (λz hz=>k z ?_) d h;cases l with | w l=>exact ZD _ hz | ask s g k u=>exact hz | MJ s g k u t S=>exact hz | lt s g ts=>exact hz
theorem Jcd{R:AZ!->LL->Prop}{ys:ca}{ls:B?}(p:Paired R ys ls)(ne:ys≠[]):(Xf (ys.map J?) ls).isEmpty=false:=by cases p with | nil=>exact absurd rfl ne | cons _ _=>rfl
theorem Jce{ls:B?}:(Xf (([]:J! AZ!).map J?) ls).isEmpty=true:=by cases ls<;>rfl
theorem JW.AZ{K:W.Frag}{H:Hp}{EN:ca}{y:AZ!}{z:LL}(h:JW K H EN y z):∃xs,B2! y.2 (S! y.1::xs):=by cases z with | w l=>obtain⟨a,b,e,_⟩:=h;exact KF | ask s g k u=>obtain⟨a,e,_⟩:=h;exact KF | MJ s g k u t S=>obtain⟨⟨a,e,_⟩,_⟩:=h;exact KF | lt s g ts=>obtain⟨a,as,e,_⟩:=h;exact KF
universe S
theorem NG:I? [Tk,Bi!,T0,"_law_asks",AX!,"_law_kind","_law_h",Bo!,s?,Bj!,"_law_letters","_law_b","_law_near",GM,AV!] AJ! V3:={}
inductive Yn(CW C CP CI:Addr)(K:W.Frag)(vs:j!)(H:Hp)(Q:VK)(E:XK):Prop
 | mk (p:Addr) (W:FK) (D:z?) (m n:Nat) (al:B?) (ys:KB) (c:Int) (fr:Bool) (_:vs=[W! p,S! f?,S! c,.bl true,.bl fr]) (_:BS!) (_:n<60) (_:∀(x:Addr)(H':Hp)(dd:Dd),S?->L! H' x (.AZ (l_ dd))->Val W m H' dd->Q (G! x) H')
def x8(K:W.Frag):TT:=Fi (NS UP (DE! 0 0) (Bx 1))
theorem yg:∀{zs:J! (Addr×T2)},(∀z∈zs,bi z.1 z.2)->Paired (JL K H) (zs.map λz=>Y! z.1) (zs.map λz=>NR z.2)
 | [],_=>P!
 | z::zs,h=>I! (Mb (h z N?)) (yg λy hy=>h y (ZD _ hy))
theorem Jj7(zs:J! (Addr×T2)):C3! (zs.map (λz=>NR z.2)) 20:=λd hd=>by obtain⟨t,_,rfl⟩:=ZN hd;exact⟨(Gb t.2).1,BA (Gb t.2).2 (K!)⟩
theorem vC(h:l≠[]):(l.map f).isEmpty=false:=by cases l with | nil=>exact absurd rfl h | cons a b=>rfl
theorem Jlb(a0 a1 a2 a3 a4 v kd h c2 y1 y2 y3:V):(((((((L2.start [Tk,Bi!,T0,"_law_asks",AX!,"_law_kind","_law_h",Bo!,s?,Bj!,"_law_letters","_law_b","_law_near",GM,AV!] [a0,a1,a2,a3,a4]).set 2 (T! v)).set 5 (T! kd)).set 6 (T! h)).set 2 (T! c2)).set 7 (T! y1)).set 8 (T! y2)).set 9 (T! y3)=[A! a0,A! a1,A! c2,A! a3,A! a4,A! kd,A! h,A! y1,A! y2,A! y3,none,none,none,none,none]:=rfl
set_option maxHeartbeats 20000000 in
theorem Jg6(F:EU K "_law_deed" "_law_deed" V3 f fd)(T:Txt K mg C DJ DY MI NW)(TW:Fa K mg CW NH NI)(MP:QW K mg "_law_spun" Z9 ["_law_cell_here","_law_free"] fP dP)(MH:QW K mg "_law_holding" K7 ["_law_things","_law_a"] fH dH)(MS:DG K CW "state" "World.state" K0 ["self","h"] fS dS)(qr:FE P w K mg base 3 fS dS ["self","h"] (Gp CW C CP NH K))(ML:DG K CW "letters" "World.letters" Gs ["self"] fL dL)(GL:DH P w K mg base 2 fL dL ["self"] (Hl CW C CP)) :
 DH P w K mg base 4 f fd ["_law_world","_law_many","_law_cell_here","_law_asks","_law_free"] (Yn CW C CP CI K):=by
 have GP:DH P w K mg base 1 fP dP ["_law_cell_here","_law_free"] yZ:=Jgx MP.fn
 have GH:DH P w K mg base 1 fH dH ["_law_things","_law_a"] Q1:=Yz MH.fn
 have GS:DH P w K mg base 3 fS dS ["self","h"] (λvs H Q _=>Gp CW C CP NH K vs H Q E0):=FX.EO.no qr
 refine F.JD NG λvs H Q E h=>?_
 obtain⟨p,W,D,m,n,ls,ys,c,fr,rfl,S,hn,k⟩:=h
 refine⟨rfl,λD_ A outer s hr=>?_⟩
 have HP:DI 1 _:=hr.mono (by decide)
 have LF:DI 2 _:=hr.mono (by decide)
 have Y_:DI 3 _:=hr.mono (by decide)
 refine⟨_,Ad (Ax (i:=2) NG.nd rfl (Or.inl rfl) (Co GP HP (by rfl) MP.mg MP.fn.kp MP.bd .nil Bg (Aa (pv 2) (Aa (pv 4) Af))))
  (Ad (Ax (i:=5) NG.nd rfl (Or.inl rfl) (Bl Dg (pv 2) Ag))
  (Ad (Ax (i:=6) NG.nd rfl (Or.inr rfl) (Bl Dg (Bl F6 (pv 2) Ag) (pv 1)))
  (Ad (Ax (i:=2) NG.nd rfl (Or.inl rfl) (Bl F6 (Bl F6 (pv 2) Ag) (pv 1)))
  (Ad (yf (As (pl:=_) (pv 0) TW.cl MS.mt GS Y_ MS.bd .nil Bg (Aa (pv 6) Af)) (J8 rfl (Ce (Bk (i:=7) NG.nd rfl (Or.inl rfl)) (Ce (Bk (i:=8) NG.nd rfl (Or.inl rfl)) (Ce (Bk (i:=9) NG.nd rfl (Or.inl rfl)) Hr)))))
  (Ad (Ax (i:=10) NG.nd rfl (Or.inl rfl) (Dr (pl:=_) (pv 0) TW.cl ML.mt GL LF ML.bd .nil Bg))
  (Ad (Bf (ZZ (J7 (Az Q7 (pv 5) Ag (A7 _)) (K8 (Az (Ud (Js hr)) (pv 10) (Es Af) (A7 _))))) (Ae (Ay (Cj (Aa A6 (Aa (Av Aq (Av C4 (pv 10) (Bl Dg (pv 2) (Bm Bs (by rfl) T.len CJ (Aa (pv 10) Af)))) Ag) Af))))) A4)
  (Ad (Bf (ZZ (J7 (Az Ca (pv 5) Ag (A7 _)) (J7 (Fx (pv 3)) (K8 (Az Ca (Bl Dg (pv 2) Ag) Ag (A7 _)))))) (Ae (Ay (Cj (Aa A6 (Aa (pv 6) Af))))) A4)
  (Ad (Bf (Az Q7 (pv 5) Ag (A7 _)) (Ae (Ay (Cj (Aa A6 (Aa (pv 6) Af))))) A4)
  (Ad (Bf (ZZ (Wa (Az Wi (pv 5) Ag (A7 _)) (Ov (Az (Ue (Js hr)) (pv 7) (Cj Af) (A7 _))))) (Ae (Ay (Cj (Aa A6 (Aa (pv 6) Af))))) A4)
  (Ad (Ax (i:=11) NG.nd rfl (Or.inl rfl) (Av Aq (pv 7) (Bl Dg (pv 2) (Bm Bs (by rfl) T.len CJ (Aa (pv 7) Af)))))
  (Ad (Ax (i:=2) NG.nd rfl (Or.inl rfl) (Bl F6 (pv 2) (Bm Bs (by rfl) T.len CJ (Aa (pv 7) Af))))
  (Ad (Je (i:=12) (tt:=x8 K) (te:=Bx 0) (caps:=[("_law_h",6)]) NG.nd rfl rfl rfl rfl (Ih (pv 7)) rfl ZV rfl ZV rfl ⟨rfl,trivial⟩ (λy h=>MV ⟨_,rfl⟩ h) ⟨⟨rfl,rfl,rfl,rfl⟩,trivial⟩ ZV (λ_ _ _ _ _=>D7 (Az Ca (Av Aq (pv 0) Ag) (pv 1) (A7 _))) (λ_ _ _ _ _=>pv 0))
  (Ad (Bf (Az Wi (pv 5) Ag (A7 _)) (Ae (Ay (Cj (Aa A6 (Aa (pv 6) (Aa (Bl Dg (pv 2) (pv 1)) (Aa (pv 11) Af))))))) A4)
  (Ad (Bf (ZZ (Wa (Az Q7 (pv 5) Ag (A7 _)) (Ov (Az (Ue (Js hr)) (pv 12) (Es Af) (A7 _))))) (Ae (Ay (Cj (Aa A6 (Aa (pv 6) (Aa (pv 11) Af)))))) A4)
  (Ad (Ax (i:=13) NG.nd rfl (Or.inl rfl) (Av C4 (pv 12) (Bl Dg (pv 2) (Bm Bs (by rfl) T.len CJ (Aa (pv 12) Af)))))
  (Ad (Ax (i:=14) NG.nd rfl (Or.inl rfl) (Co GH HP (by rfl) MH.mg MH.fn.kp MH.bd .nil Bg (Aa (pv 8) (Aa (pv 13) Af))))
  (Ad (Bf (ZZ (Wa (Az Wi (pv 5) Ag (A7 _)) (Ov (Az (Ue (Js hr)) (pv 14) (Cj Af) (A7 _))))) (Ae (Ay (Cj (Aa A6 (Aa (pv 6) (Aa (pv 13) (Aa (pv 11) Af))))))) A4)
  (Ae (Ay (Cj (Aa (Av C4 (Es (Aa A6 (Aa A6 Af))) (Bl Uc (pv 5) Ag)) (Aa (pv 6) (Aa (pv 13) (Aa (Av Aq (pv 14) (Bl Dg (Bl F6 (pv 2) (Bm Bs (by rfl) T.len CJ (Aa (pv 12) Af))) (Bm Bs (by rfl) T.len CJ (Aa (pv 14) Af)))) Af)))))))))))))))))))))))),?_⟩
 have XT:(0:Int)<(m:Int):=by have:=S.m1;lia
 have cQ:=S.wg.wl.cQ
 refine⟨_,rfl,_,rfl,c,fr,rfl,λv=>?_⟩
 refine⟨_,rfl,_,_,rfl,rfl,(show(0:Int)<17 by decide),?_⟩
 refine⟨_,rfl,_,_,rfl,rfl,⟨by decide,by decide⟩,_,rfl,_,_,rfl,rfl,XT,?_⟩
 refine⟨_,rfl,_,_,rfl,rfl,⟨by decide,by decide⟩,_,rfl,_,_,rfl,rfl,⟨XT,by lia⟩,?_⟩
 have k0:=DP v (show(17:Int)≠0 by decide)
 have k1:=DB v (show(0:Int)<17 by decide)
 have h0:=DP (v / 17) (show(m:Int)≠0 by lia)
 have h1:=DB (v / 17) XT
 generalize v / 17 % (m:Int)=h at h0 h1
 generalize v / 17 / (m:Int)=c2
 generalize v % 17=kd at k0 k1
 obtain⟨⟨q,G⟩,hq⟩:=Au (xs:=W.qs) (j:=h.toNat) (by rw[S.wg.wl.len];lia)
 have i:JX W h q G:=⟨h0,hq⟩
 obtain⟨sd,nu⟩:=S.wg.wl.sd _ q G hq
 have hN:((h.toNat:Nat):Int)=h:=BJ h0
 rw[hN] at nu
 have gd:=S.wg.wl.good (by lia) hq
 obtain⟨hs,os,rs,KN⟩:=gd.told
 obtain⟨dx,hp⟩:=S.wa.ob
 refine⟨_,rfl,p,dx,_,rfl,hp,Dp W ZV,_,rfl,p,h,W,rfl,S.wa,.inr ⟨q,G,i,q,G,hs,os,rs,rfl,i.at S.wa,gd.h2,gd.o2,gd.r2,KN.pm,KN.pw,KN.QE,KN.pr,KN.wr,λx H1 s1 st=>?_⟩⟩
 obtain⟨y1,y2,y3,as,bs,ds,ex,e1,t1,e2,r2,⟨ob,e3,pl⟩,r3⟩:=st
 refine⟨x,_,rfl,CF.of ex,rfl,_,_,rfl,_,_,rfl,_,_,rfl,rfl,?_⟩
 obtain⟨E',HJ⟩:=(S.wa.same s1).ob
 refine⟨_,rfl,p,E',_,rfl,HJ,Dp W ZV,p,W,rfl,S.wa.same s1,λl H2 hl el s2=>?_⟩
 have fA:=Al s1 s2
 have S2:=S.same fA
 have e1:=s2 _ _ e1
 have t1:=AW.keep (HN s2) t1
 have e2:=s2 _ _ e2
 have r2:Paired (OO H2) bs os:=Ap (λ_ _ r=>r.keep (HN s2)) r2
 have ux:as.length=hs.length:=Paired.length t1
 have lhs:=KN.pm.length_eq
 have zhd:=gd.h2
 clear ex e3 pl r3 s1 s2 hp HJ
 rw[Jlb]
 by_cases qL:10<kd
 .by_cases cd:11<kd/\W.ls≠[]
  .refine⟨_,rfl,_,_,rfl,rfl,_,rfl,?_⟩
   rw[decide_eq_true cd.1]
   refine B7 ⟨_,rfl,BE _,λr HZ=>⟨_,_,.BC (DU.of (Ah HZ _ _ el)) (Pp (Dx S2.lw (HN (Ah HZ)))),.BC (DU.of Ac) .nil,Le (Pq S.wg.wl.ok),Y0,_,rfl,?_⟩⟩
   rw[Ly,Jcd S2.lw cd.2]
   refine B7 ?_
   have s3:=Ah (o:=.BC []) HZ
   generalize upd H2 r (.BC [])=H3 at s3
   have bV:=s3 _ _ el
   have VZ:(0:Int)<(((W.ls.map λx=>V.ref x.2).length:Nat):Int):=by
    rw[ZA]
    have:=LC.mpr cd.2
    lia
   have j0:=DP c2 (show(((W.ls.map λx=>V.ref x.2).length:Nat):Int)≠0 by lia)
   have j1:=DB c2 VZ
   obtain⟨⟨BL,t⟩,hy⟩:=Au (xs:=W.ls) (j:=(c2 % (((W.ls.map λx=>V.ref x.2).length:Nat):Int)).toNat) (by rw[ZA] at j0 j1 ⊢;lia)
   have fm:QI (W.ls.map λx=>V.ref x.2) (c2 % (((W.ls.map λx=>V.ref x.2).length:Nat):Int))=some (.ref t):=A9 j0 (by rw[ZH,hy];rfl)
   obtain⟨lt,JU⟩:=Au (xs:=ls) (j:=(c2 % (((W.ls.map λx=>V.ref x.2).length:Nat):Int)).toNat) (by rw[<-Paired.length S.lw];exact(ZJ hy).1)
   obtain⟨a1,et⟩:=JW.AZ (Aw S2.lw _ _ _ hy JU)
   have et:H2 t=some (.AZ (V.int BL::a1)):=et
   obtain⟨l1,l2,esp⟩:=MA (ZP hy)
   refine⟨_,rfl,_,rfl,_,rfl,l,_,rfl,.inl (DU.of bV),_,_,rfl,rfl,VZ,l,_,_,_,rfl,rfl,DU.of bV,fm,t,_,0,_,rfl,rfl,CF.of (s3 _ _ et),A9 (by decide) rfl,(by show 2<=sizeLine;decide),λx hx=>?_⟩
   exact k x _ (.deliver BL) (Al fA (Al s3 (Ah hx))) Ac ⟨l1,l2,t,esp⟩
  .have cl:∀{H3:Hp},Bh H2 H3->∀x,H3 x=none->Q (.ref x) (upd H3 x (.AZ [.str "clean",.int h])):=λ{H3} s3 x hx=>k x _ (.clean h) (Al fA (Al s3 (Ah hx))) Ac ⟨q,G,i⟩
   have rf:Bh H2 H2:=λb o e=>e
   by_cases qK:11<kd
   .have e0:W.ls=[]:=Classical.byContradiction λz=>cd ⟨qK,z⟩
    refine⟨_,rfl,_,_,rfl,rfl,_,rfl,?_⟩
    rw[decide_eq_true qK]
    refine B7 ⟨_,rfl,BE _,λr HZ=>⟨_,_,.BC (DU.of (Ah HZ _ _ el)) (Pp (Dx S2.lw (HN (Ah HZ)))),.BC (DU.of Ac) .nil,Le (Pq S.wg.wl.ok),Y0,_,rfl,?_⟩⟩
    rw[Ly,e0,Jce]
    refine By ?_
    refine⟨_,rfl,rfl,_,rfl,?_⟩
    rw[decide_eq_false (show ¬V.int kd=V.int 11 from λz=>by have:=V.int.inj z;lia)]
    refine By (By ?_)
    refine⟨_,rfl,_,_,rfl,rfl,_,rfl,?_⟩
    rw[decide_eq_true qL]
    exact B7 ⟨_,rfl,(by show 2<=sizeLine;decide),λx hx=>cl (Ah HZ) x hx⟩
   .have iS:kd=11:=by lia
    refine⟨_,rfl,_,_,rfl,rfl,_,rfl,?_⟩
    rw[decide_eq_false qK]
    refine By (By ?_)
    refine⟨_,rfl,rfl,_,rfl,?_⟩
    rw[decide_eq_true (show V.int kd=V.int 11 by rw[iS])]
    refine B7 ⟨_,rfl,_,rfl,B7 ⟨_,rfl,_,_,rfl,rfl,(show(0:Int)<2 by decide),rfl,_,rfl,?_⟩⟩
    refine U8 (λcc=>?_) (λcc=>?_)
    .exact⟨_,rfl,(by show 2<=sizeLine;decide),λx hx=>k x _ (.ask h) (Al fA (Ah hx)) Ac ⟨q,G,i⟩⟩
    .refine⟨_,rfl,_,_,rfl,rfl,_,rfl,?_⟩
     rw[decide_eq_true qL]
     exact B7 ⟨_,rfl,(by show 2<=sizeLine;decide),λx hx=>cl rf x hx⟩
 .have n11:¬11<kd:=by lia
  refine⟨_,rfl,_,_,rfl,rfl,_,rfl,?_⟩
  rw[decide_eq_false n11]
  refine By (By ?_)
  refine⟨_,rfl,rfl,_,rfl,?_⟩
  rw[decide_eq_false (show ¬V.int kd=V.int 11 from λz=>by have:=V.int.inj z;lia)]
  refine By (By ?_)
  refine⟨_,rfl,_,_,rfl,rfl,_,rfl,?_⟩
  rw[decide_eq_false qL]
  refine By ?_
  have mk:∀{H3:Hp},Bh H2 H3->∀x,H3 x=none->Q (.ref x) (upd H3 x (.AZ [.str "make",.int h])):=λ{H3} s3 x hx=>k x _ (.make h) (Al fA (Al s3 (Ah hx))) Ac ⟨q,G,i⟩
  have rf:Bh H2 H2:=λb o e=>e
  by_cases xQ:kd<2
  .refine⟨_,rfl,_,_,rfl,rfl,_,rfl,?_⟩
   rw[decide_eq_true xQ]
   exact B7 (B7 ⟨_,rfl,(by show 2<=sizeLine;decide),λx hx=>mk rf x hx⟩)
  .refine⟨_,rfl,_,_,rfl,rfl,_,rfl,?_⟩
   rw[decide_eq_false xQ]
   refine By ⟨_,rfl,BE _,λr HZ=>⟨_,_,.one (.tupP (CF.of (Ah HZ _ _ e1)) (Fj (AW.keep (HN (Ah HZ)) t1))),.one (.tupP (CF.of Ac) .nil),Jf (yc hs),Jf (λ_ h=>by cases h),_,rfl,?_⟩⟩
   have s3:=Ah (o:=.AZ []) HZ
   generalize upd H2 r (.AZ [])=H3 at s3
   rw[Xx]
   by_cases e0:hs=[]
   .rw[e0]
    exact B7 ⟨_,rfl,(by show 2<=sizeLine;decide),λx hx=>mk s3 x hx⟩
   .have ne:(hs.map NR).isEmpty=false:=by cases hs with
     | nil=>exact absurd rfl e0
     | cons a b=>rfl
    rw[ne]
    refine By ?_
    have e1:=s3 _ _ e1
    have t1:=AW.keep (HN s3) t1
    have e2:=s3 _ _ e2
    have r2:Paired (OO H3) bs os:=Ap (λ_ _ r=>r.keep (HN s3)) r2
    have s13:=Al fA s3
    clear S2 HZ el hl
    have XX:=LC.mpr e0
    have lmap:(as.map V.ref).length=as.length:=ZA ..
    have VZ:(0:Int)<(((as.map V.ref).length:Nat):Int):=by rw[lmap];lia
    have j0:=DP c2 (show(((as.map V.ref).length:Nat):Int)≠0 by lia)
    have j1:=DB c2 VZ
    obtain⟨b,hb⟩:=Au (xs:=as) (j:=(c2 % (((as.map V.ref).length:Nat):Int)).toNat) (by rw[lmap] at j0 j1 ⊢;lia)
    obtain⟨tb,oq⟩:=Au (xs:=hs) (j:=(c2 % (((as.map V.ref).length:Nat):Int)).toNat) (by rw[<-ux];exact(ZJ hb).1)
    have eb:H3 b=some (.AZ (tv tb)):=Aw t1 _ _ _ hb oq
    have pL:tb∈G.hand:=KN.pm.mem_iff.mp (ZP oq)
    have fm:QI (as.map V.ref) (c2 % (((as.map V.ref).length:Nat):Int))=some (.ref b):=A9 j0 (by rw[ZH,hb];rfl)
    refine⟨_,rfl,_,rfl,_,rfl,y1,_,rfl,.inr (CF.of e1),_,_,rfl,rfl,VZ,y1,_,_,_,rfl,rfl,CF.of e1,fm,?_⟩
    refine⟨_,rfl,_,rfl,y1,_,rfl,.inr (CF.of e1),_,_,rfl,rfl,⟨VZ,by rw[lmap];lia⟩,?_⟩
    clear j0 j1 fm hb oq
    generalize c2 / (((as.map V.ref).length:Nat):Int)=c3
    refine⟨_,rfl,y1,rfl,⟨_,CF.of e1⟩,λnr o7=>?_⟩
    have s4:=Ah (o:=.BC []) o7
    refine X6 (K:=K) (a:=y1) (xs:=as.map V.ref) (tt:=x8 K) (te:=Bx 0) (caps:=[("_law_h",6)])
     (λj ys Hc=>Bh H3 Hc/\Hc nr=some (.BC ys)/\∃zs:List (Addr×T2),ys=zs.map (λz=>V.ref z.1)/\zs.length<=j/\∀z∈zs,H3 z.1=some (.AZ (tv z.2))/\z.2∈hs/\z.2.1=h)
     ⟨s4,Ac,[],rfl,ZG _,λz hz=>by cases hz⟩ (λj ys Hc _ hc=>⟨CF.of (hc.1 _ _ e1),hc.2.1⟩) ?_ ?_
    .rintro j x' ys Hc N hj ⟨sc,en,zs,rfl,zl,al⟩ aR
     rw[ZH] at hj
     cases lX:as[j]? with
     | none=>rw[lX] at hj;cases hj
     | some aj =>
       rw[lX] at hj
       cases hj
       have h_:=(ZJ lX).1
       obtain⟨tj,vJ⟩:=Au (xs:=hs) (j:=j) (by rw[<-ux];exact h_)
       have ej:H3 aj=some (.AZ (tv tj)):=Aw t1 _ _ _ lX vJ
       refine⟨_,rfl,aj,_,_,_,rfl,rfl,CF.of (sc _ _ ej),rfl,_,rfl,rfl,_,rfl,?_⟩
       refine U8 (λcc=>?_) (λcc=>?_)
       .have cc:V.int tj.1=V.int h:=BO cc
        have cc:=V.int.inj cc
        refine⟨_,rfl,en,Bb (by rw[ZA];lia),aR _ _ ⟨λb o e=>?_,Ac,zs++[(aj,tj)],by rw[ZF];rfl,by rw[ZE,DV];lia,λz hz=>?_⟩⟩
        .rw[Ab (Aj e o7)];exact sc b o e
        .rcases ZI hz with hz|hz
         .exact al z hz
         .rw[ZK hz];exact⟨ej,ZP vJ,cc⟩
       .exact aR _ _ ⟨sc,en,zs,rfl,by lia,al⟩
    .rintro ys H4 ⟨e_,en,zs,rfl,zl,al⟩
     have ng:=Al s13 e_
     have eb:=e_ _ _ eb
     have e2:=e_ _ _ e2
     have r2:Paired (OO H4) bs os:=Ap (λ_ _ r=>r.keep (HN e_)) r2
     have al:∀z∈zs,H4 z.1=some (.AZ (tv z.2))/\z.2∈hs/\z.2.1=h:=λz hz=>⟨e_ _ _ (al z hz).1,(al z hz).2⟩
     have zl:zs.length<=64:=by rw[lmap] at zl;lia
     clear s4 e_ t1 e1 o7
     have fr:∀{H5:Hp},Bh H4 H5->∀x,H5 x=none->Q (.ref x) (upd H5 x (.AZ [.str "free",.int h,.ref b])):=λ{H5} s5 x hx=>k x _ (.free h b) (Al ng (Al s5 (Ah hx))) Ac ⟨q,G,tb,i,Ah hx _ _ (s5 _ _ eb),pL⟩
     by_cases c5:kd<5
     .refine⟨_,rfl,_,_,rfl,rfl,_,rfl,?_⟩
      rw[decide_eq_true c5]
      refine B7 ⟨_,rfl,_,rfl,_,rfl,_,_,rfl,rfl,XT,_,rfl,(by show 4<=sizeLine;decide),λx hx=>?_⟩
      exact k x _ (.send h (c3 % (m:Int)) b) (Al ng (Ah hx)) Ac ⟨q,G,tb,i,DP c3 (show(m:Int)≠0 by lia),DB c3 XT,Ah hx _ _ eb,pL⟩
     .refine⟨_,rfl,_,_,rfl,rfl,_,rfl,?_⟩
      rw[decide_eq_false c5]
      refine By ?_
      by_cases c8:8<kd
      .refine⟨_,rfl,_,_,rfl,rfl,_,rfl,?_⟩
       rw[decide_eq_true c8]
       exact B7 (B7 ⟨_,rfl,_,rfl,(by show 3<=sizeLine;decide),λx hx=>fr (λb o e=>e) x hx⟩)
      .refine⟨_,rfl,_,_,rfl,rfl,_,rfl,?_⟩
       rw[decide_eq_false c8]
       refine By ⟨_,rfl,BE _,λr' HZ=>⟨_,_,.BC (DU.of (Ah HZ _ _ en)) (yg λz hz=>Ah HZ _ _ (al z hz).1),.BC (DU.of Ac) .nil,Le (Jj7 zs),Y0,_,rfl,?_⟩⟩
       have s5:=Ah (o:=.BC []) HZ
       generalize upd H4 r' (.BC [])=H5 at s5
       rw[Ly]
       by_cases z0:zs=[]
       .rw[z0]
        exact B7 ⟨_,rfl,_,rfl,(by show 3<=sizeLine;decide),λx hx=>fr s5 x hx⟩
       .rw[vC z0]
        refine By ?_
        have uH:=Al ng s5
        have eb:=s5 _ _ eb
        have e2:=s5 _ _ e2
        have en:=s5 _ _ en
        have r2:Paired (OO H5) bs os:=Ap (λ_ _ r=>r.keep (HN s5)) r2
        have JKT:=LC.mpr z0
        have cz:(zs.map λz=>V.ref z.1).length=zs.length:=ZA ..
        have YD:(0:Int)<(((zs.map λz=>V.ref z.1).length:Nat):Int):=by rw[cz];lia
        have j0:=DP c3 (show(((zs.map λz=>V.ref z.1).length:Nat):Int)≠0 by lia)
        have j1:=DB c3 YD
        obtain⟨⟨a,ta⟩,ha⟩:=Au (xs:=zs) (j:=(c3 % (((zs.map λz=>V.ref z.1).length:Nat):Int)).toNat) (by rw[cz] at j0 j1 ⊢;lia)
        have fm:QI (zs.map λz=>V.ref z.1) (c3 % (((zs.map λz=>V.ref z.1).length:Nat):Int))=some (.ref a):=A9 j0 (by rw[ZH,ha];rfl)
        obtain⟨ea,hta,near⟩:=al _ (ZP ha)
        have ea:H5 a=some (.AZ (tv ta)):=s5 _ _ ea
        have pN:ta∈G.hand:=KN.pm.mem_iff.mp hta
        have near:ta.1=G.BL:=by rw[nu];exact near
        have mem:ta∈os.map (·.1):=KN.QE.pm.mem_iff.mpr (sd.ok.hk ta pN near)
        refine⟨_,rfl,_,rfl,_,rfl,nr,_,rfl,.inl (DU.of en),_,_,rfl,rfl,YD,nr,_,_,_,rfl,rfl,DU.of en,fm,?_⟩
        refine⟨_,rfl,_,rfl,y2,a,bs,os,ta,rfl,e2,r2,ea,mem,λhd cs o hl hm p7 nC=>?_⟩
        have vS:∀{H6:Hp},Bh H5 H6->∀x,H6 x=none->Q (.ref x) (upd H6 x (.AZ [.str "hold",.int h,.ref a,.ref b])):=λ{H6} s6 x hx=>k x _ (.three "hold" h a b) (Al uH (Al s6 (Ah hx))) Ac ⟨q,G,ta,tb,i,Ah hx _ _ (s6 _ _ ea),Ah hx _ _ (s6 _ _ eb),pN,near,.inl ⟨rfl,pL⟩⟩
        by_cases c7:kd<7
        .refine⟨_,rfl,_,_,rfl,rfl,_,rfl,?_⟩
         rw[decide_eq_true c7]
         exact B7 (B7 ⟨_,rfl,_,rfl,_,rfl,(by show 4<=sizeLine;decide),λx hx=>vS (λb o e=>e) x hx⟩)
        .refine⟨_,rfl,_,_,rfl,rfl,_,rfl,?_⟩
         rw[decide_eq_false c7]
         refine By ⟨_,rfl,BE _,λr6 o3=>⟨_,_,.one (.tupP (CF.of (Ah o3 _ _ p7)) (Fj (AW.keep (HN (Ah o3)) nC))),.one (.tupP (CF.of Ac) .nil),Jf (yc hl),Jf (λ_ h=>by cases h),_,rfl,?_⟩⟩
         have s6:=Ah (o:=.AZ []) o3
         generalize upd H5 r6 (.AZ [])=H6 at s6
         rw[Xx]
         by_cases pT:hl=[]
         .rw[pT]
          exact B7 ⟨_,rfl,_,rfl,_,rfl,(by show 4<=sizeLine;decide),λx hx=>vS s6 x hx⟩
         .rw[vC pT]
          refine By ?_
          obtain⟨_,a0,hl0,fd0,z64,pmh,_⟩:=KN.QE.at_ _ hm
          have lcs:cs.length=hl.length:=Paired.length nC
          have HG:=LC.mpr pT
          have jw:(cs.map V.ref).length=cs.length:=ZA ..
          have bu:(0:Int)<(((cs.map V.ref).length:Nat):Int):=by rw[jw];lia
          have i0:=DP (c3 / (((zs.map λz=>V.ref z.1).length:Nat):Int)) (show(((cs.map V.ref).length:Nat):Int)≠0 by lia)
          have i1:=DB (c3 / (((zs.map λz=>V.ref z.1).length:Nat):Int)) bu
          obtain⟨cb,pJ⟩:=Au (xs:=cs) (j:=(c3 / (((zs.map λz=>V.ref z.1).length:Nat):Int) % (((cs.map V.ref).length:Nat):Int)).toNat) (by rw[jw] at i0 i1 ⊢;lia)
          obtain⟨tc,vK⟩:=Au (xs:=hl) (j:=(c3 / (((zs.map λz=>V.ref z.1).length:Nat):Int) % (((cs.map V.ref).length:Nat):Int)).toNat) (by rw[<-lcs];exact(ZJ pJ).1)
          have ec:H5 cb=some (.AZ (tv tc)):=Aw nC _ _ _ pJ vK
          have sR:QI (cs.map V.ref) (c3 / (((zs.map λz=>V.ref z.1).length:Nat):Int) % (((cs.map V.ref).length:Nat):Int))=some (.ref cb):=A9 i0 (by rw[ZH,pJ];rfl)
          have inH:tc∈Bn G.holds ta:=by rw[Jhi fd0];exact pmh.mem_iff.mp (ZP vK)
          refine⟨(by show 2<=sizeLine;decide),λwl gz=>?_⟩
          have s7:=Ah (o:=.BC [.str "drop",.str "take"]) gz
          have wQ:(upd H6 wl (.BC [.str "drop",.str "take"])) wl=some (.BC [.str "drop",.str "take"]):=Ac
          generalize upd H6 wl (.BC [.str "drop",.str "take"])=H7 at s7 wQ
          have eZ:=Al s6 s7
          obtain⟨wd,hwd,hw⟩:∃wd:Str,QI [V.str "drop",V.str "take"] (kd-7)=some (.str wd)/\(wd="drop"\/wd="take"):=by
           rcases(show kd=7\/kd=8 by lia) with e|e<;>rw[e]
           .exact⟨"drop",A9 (by decide) rfl,.inl rfl⟩
           .exact⟨"take",A9 (by decide) rfl,.inr rfl⟩
          refine⟨_,rfl,_,_,rfl,rfl,wl,_,_,_,rfl,rfl,DU.of wQ,hwd,?_⟩
          refine⟨_,rfl,?_⟩
          refine⟨_,rfl,?_⟩
          refine⟨_,rfl,?_⟩
          refine⟨_,rfl,?_⟩
          refine⟨_,rfl,nr,_,rfl,.inl (DU.of (eZ _ _ en)),?_⟩
          refine⟨_,_,rfl,rfl,⟨YD,by rw[cz];lia⟩,?_⟩
          refine⟨_,rfl,hd,_,rfl,.inr (CF.of (eZ _ _ p7)),?_⟩
          refine⟨_,_,rfl,rfl,bu,?_⟩
          refine⟨hd,_,_,_,rfl,rfl,CF.of (eZ _ _ p7),sR,?_⟩
          refine⟨(by show 4<=sizeLine;decide),λx hx=>?_⟩
          exact k x _ (.three wd h a cb) (Al uH (Al eZ (Ah hx))) Ac ⟨q,G,ta,tc,i,Ah hx _ _ (eZ _ _ ea),Ah hx _ _ (eZ _ _ ec),pN,near,.inr ⟨hw,inH⟩⟩
universe E
universe E K62
universe N FX
open PySem PySem.Spec PyProof.Rows L2
def Jl0(K:W.Frag)(D:Addr)(tb:(L2.St->XK)->TS)(ts:TS):TS:=λE σ H=>tb (λER cls _ H'=>∃C,Jj6 K D cls C/\ts E ER H') E σ H
universe S
theorem Ji1(V_:X.stack=v4)(bS:X.env.frame=A! X.env.locals)(hex:X.ex=[])(hg:Gl X x)(cD:Vm X.K X.mg x D)(hb:∀(AA:J! (Addr×Obj)) (E:Value->Shared->Prop) (ES:L2.St->XK),Vn (Rk X AA E) ES->OY (Rk X AA E) body (tb ES))(hs:∀ex,OY (gy X ex) (jy::bo) ts)(hd:(x==("__debug__":Str))=false:=by decide) : PS X (.Try body [.ExceptHandler (T! (.Name x np)) none (jy::bo) XX] [] [] pos) (Jl0 X.K D tb ts):=by
 intro AA s σ H E I h;refine wpAny_Try_except (EC (hb AA (λe s1=>DS! (noteFrame e X.env) (λ_ s2=>DS! (setFlight e none) (λ_ s3=>DS! (handleBy e X.env [.ExceptHandler (T! (.Name x np)) none (jy::bo) XX]) (SP X AA E) s3) s2) s1) _ ?_ [] s σ H E (Jck I) h) (λf s1 q=>?_) λe s1 q=>q);· intro SN ER H0 s0 e s' I0 ⟨ex,cls,H',he,xt,⟨C,⟨XY,dj⟩,hE⟩,ho,vX,u,ok⟩;subst he XY;have I1:Inv X AA ER H0 s0:=G8 I0;(have vo:∀b∈LM (v4),jp:=v! (by have:=I1.OZ b (Z! V_ hb);obtain⟨o,e1,_⟩:=(I1.stack.mem (Z! V_ hb)).2;exact u.free b o e1 this (TD)));(have frg:∀b∈LM (v4),¬(a? s0.heap.get?/\jp):=λb hb z=>by obtain⟨o,e1,_⟩:=(I1.stack.mem (Z! V_ hb)).2;rw[e1] at z;cases z.1);have I2:Inv X AA ER H' s':=I1.VF (ch:=[]) ho u ok vX (v! (by simp at hb));(have fl:s'.heap.FunFrames X.base (v4):=by have:=I2.stack;rwa [V_] at this);(have hfm:X.A.frames=A! (v4):=by rw[I1.ok.frames,V_]);(have none_:∀b,a? s'.heap.get?->a? s0.heap.get?/\jp:=λb q=>by constructor;(.cases q2:s0.heap.get? b with | none=>rfl | some o =>obtain⟨o',e1⟩:=u.there b o q2 (TD);rw[q] at e1;cases e1);.cases q2:H' b with | none=>rfl | some o =>obtain⟨ob,e1⟩:=Mq ok q2;rw[q] at e1;cases e1);(have back:∀{h':Heap} (t:Nat),LH (LM (v4)) (λb=>a? s0.heap.get?/\jp) s'.heap h'->Inv X AA ER H' { s' with heap:=h',toks:=t }:=λ{h'} t as=>by refine I1.VF (s':={ s' with heap:=h',toks:=t }) (ch:=[]) ho ?_ (Rl ok as vo λb z=>z.2) vX (v! (by simp at hb));have u':Un (LM X.stack) [] H0 H' s0.heap s'.heap:=u;exact Vr u' as (λb o e1 z=>by rw[e1] at z;cases z.1) (λb o e1 m=>F! V_ m) vo);refine Jje (base:=X.base) (L:=X.env.locals) hfm fl bS xt none_ λh1 x1 JV=>?_;have J1:=back s'.toks JV;obtain⟨oe,vs,a0,T,oT,eS,b1,b2,b3,_⟩:=x1.2;refine wpAny_handleBy_cons (codeAny_handlers_test (Jk (X:=gy X ex) (zV J1) hg cD.mg ?_ hd)) (by intro q;cases q);refine Jii J1.RW cD.ex dj b1 b2 ?_;refine codeAny_handlers_suite (Jjg (s:={ s' with heap:=h1 }) x1 frg λh2 x2 SH=>?_);have J2:=back s'.toks (JV.trans SH);refine EC (hs ex AA _ _ _ E (zV J2) hE) (λf s5 q=>?_) λ_ _ z=>z.elim;cases f with | next=>obtain⟨m4,H5,J5,q5⟩:=q;exact c? H5 DJ! q5 | brk=>obtain⟨m4,H5,J5,q5⟩:=q;exact c? H5 DJ! q5 | cont=>obtain⟨m4,H5,J5,q5⟩:=q;exact c? H5 DJ! q5 | ret v=>obtain⟨v5,m4,H5,J5,r5,q5⟩:=q;exact⟨v5,_,H5,DJ!,r5,q5⟩
 .cases f with | next=>obtain⟨UL,H1,I1,q1⟩:=q;exact M_ ⟨UL,H1,G8 I1,q1⟩ | brk=>obtain⟨UL,H1,I1,q1⟩:=q;exact⟨UL,H1,G8 I1,q1⟩ | cont=>obtain⟨UL,H1,I1,q1⟩:=q;exact⟨UL,H1,G8 I1,q1⟩ | ret v=>obtain⟨v1,UL,H1,I1,r1,q1⟩:=q;exact⟨v1,UL,H1,G8 I1,r1,q1⟩
universe E
inductive HE(H:Hp)(c:Addr)(y:g!):Prop
 | mk a (_:w! c (.AZ [S! y.1,g?])) (_:bi a y.2)
theorem Jil{t u:T2}(h:tv t=tv u):t=u:=by unfold tv at h;simp only[List.cons.injEq,V.int.injEq,and_true] at h;exact Prod.ext h.1 h.2
theorem HE.one{H:Hp}{c:Addr}{y z:g!}(h:HE H c y)(k:HE H c z):y=z:=by obtain⟨a,e1,e2⟩:=h;obtain⟨b,f1,f2⟩:=k;rw[e1] at f1;have f1:=HO.AZ.inj (ZO f1);simp only[List.cons.injEq,V.int.injEq,V.ref.injEq,and_true] at f1;rw[<-f1.2,e2] at f2;exact Prod.ext f1.1 (Jil (HO.AZ.inj (ZO f2)))
theorem HE.keep{H H':Hp}{c:Addr}{y:g!}(h:HE H c y)(k:ii):HE H' c y:=by obtain⟨a,e1,e2⟩:=h;exact⟨a,B! k.AZ e1,B! k.AZ e2⟩
noncomputable def gx (H:Hp) (y:g!):Value->Bool
 | .ref c=>@decide (HE H c y) B4!
 | _=>false
theorem yV{H:Hp}{c:Addr}{y z:g!}(h:HE H c z):gx H y Ai!=n? (z=y):=by
 show @decide (HE H c y) B4!=_;by_cases e:z=y;.rw[decide_eq_true e];exact @decide_eq_true _ B4! (U? e h)
 .rw[decide_eq_false e];exact @decide_eq_false _ B4! λk=>e (h.one k)
def gB(y:g!):PyData:=y? [S! y.1,NR y.2]
theorem yO{K:W.Frag}{H:Hp}{c:Addr}{y:g!}(h:HE H c y):JL K H Ai! (gB y):=by obtain⟨a,e1,e2⟩:=h;exact DN! (I! l! (I! (Mb e2) P!))
theorem Vj(y:g!):WR (gB y):=by obtain⟨a,b⟩:=Gb y.2;unfold gB;exact⟨by simp[PyData.canLay0,PyData.canLayAll0,a],by simp only[PyData.depth,PyData.depthAll] at *;lia⟩
theorem Jjx(y z:g!):PyData.eqv (gB y) (gB z)=n? (y=z):=by obtain⟨g,h⟩:=y;obtain⟨g',h'⟩:=z;unfold gB;simp only[PyData.eqv,PyData.eqvAll,Prod.mk.injEq,Sk];by_cases h1:g=g'<;>by_cases h2:h=h'<;>simp[h1,h2]
universe S
variable {X:Cx}{AA:List (Addr×Obj)}{σ:L2.St}{H:Hp}{s:Shared}{A:Around}
theorem Jjp{c b:Addr}{y z:g!}(hu:A.units+40<cLine)(I:wE H s)(hc:HE H c z)(hb:HE H b y):SeqAt.EqAt A s Ai! Aj! (gx H y Ai!):=by rw[yV hc,<-Jjx];obtain⟨as,g1⟩:=(yO hc).reads I Ai! rfl;obtain⟨bs,g2⟩:=(yO hb).reads I Aj! rfl;exact PySem.SeqAt.eqAt_reads _ _ A s _ _ as bs g1 g2 (Vj z).1 (Vj y).1 (BH! (Vj z).2)
inductive Jdx(x:V)(vs:j!)(H:Hp)(Q:VK):Prop
 | mk (l b:Addr) (y:g!) (cs:Ix) (ys:J! g!) (j:Nat) (e0:x=W! l) (e1:vs=[W! b]) (e2:HE H b y) (e3:be l cs.map) (e4:Paired (HE H) cs ys) (e5:ys[j]?=A! y) (e6:∀(m:Nat) z,m<j->ys[m]?=A! z->z≠y) (e7:Q .E_ (B8! l A1!))
theorem Pf(hu:X.A.units+64<cLine):cw X "list.remove" Jdx:=by
 intro AA s σ H x vs v us Q I rx rv h;obtain⟨l,b,tb,as,ts,j,rfl,rfl,hb,hl,th,hj,no,q⟩:=h;cases rx;obtain⟨u,rfl,ru⟩:=rv.one;cases ru;obtain⟨z,its,n,vl,gl⟩:=(show DN X.prog X.w H s.heap l (AM! as.map) from I.DC l _ hl);have ei:=Gh vl;subst ei;have oJ:=ga;have hjt:j<ts.length:=CH!;have sz:(as.map Value.ref).toArray.size=as.length:=TD
 have a2:∀y,y∈(as.map Value.ref).toArray->SeqAt.EqAt X.A.in1 s y Aj! (gx H tb y):=λy hy=>by (have hy:y∈as.map Value.ref:=by simpa using hy);obtain⟨a,ha,rfl⟩:=ZN hy;obtain⟨i,hi⟩:=CB.mp ha;obtain⟨t,ht⟩:=CX! ts (Is oJ hi);exact Jjp (by show X.A.units+1+40<cLine;lia) I (Aw th i a t hi ht) hb
 have at_:∀m (h:m<(as.map Value.ref).toArray.size) t,ts[m]?=A! t->gx H tb (as.map Value.ref).toArray[m]=n? (t=tb):=λm h t ht=>by obtain⟨a,ha⟩:=Bm! as m (U? sz h);(have e:(as.map Value.ref).toArray[m]=Value.ref a:=by have:=ZJ ha;simp[this.2]);rw[e];exact yV (Aw th m a t ha ht)
 refine KS F.slot_list_remove (k! _ gl) F.entry_list_remove (F.args_list_remove_2 _ _) (S:=λA R s0=>A=X.A/\s0=s/\R=wants (EP X AA σ Q) X.xe) (λA R s0 hS=>?_) (k! rfl rfl);obtain⟨rfl,rfl,rfl⟩:=hS;refine ZS ⟨JN FY _,Ot (gx H tb) gl a2 j (BV! sz) ?_ (λm h hm=>?_) (by rw[sz];simpa using z) (λh' c g sb=>?_) j 0 (E!)⟩;.rw[at_ j (BV! sz) tb hj];simp
 .obtain⟨t,ht⟩:=Bm! ts m E!;rw[at_ m h t ht];exact decide_eq_false (no m t hm ht)
 .refine⟨.E_,_,F9 (t':=s0.toks) (ob:=.BC ((as.eraseIdx j).map V.ref)) I (Z! hl True.intro) sb ⟨_,g⟩ ⟨?_,(as.eraseIdx j).map Value.ref,c,Fo _,?_⟩,rfl,q⟩;(.rw[ZA];refine BA ?_ (by simpa using z);rw[List.length_eraseIdx];split<;>lia);.rw[g];(have e:((as.map Value.ref).toArray.eraseIdxIfInBounds j)=((as.eraseIdx j).map Value.ref).toArray:=by rw[<-Rb];simp);rw[e]
universe E
universe S
variable {X:Cx}{sc:Scope}{cl:List (Str×Addr)}{AA:List (Addr×Obj)}{σ:L2.St}{H1:Hp}{s1:Shared}{fp:List Addr}{N:List Str}
theorem Jhw{x y0:Str}{caps:J! (Str×Nat)}{h':Heap}{m:BG!}{t':Nat}{o:Obj}(I:wE H1 s1)(ok:(MF X sc cl s1.heap.objs.size Do! s1 H1 fp AA).Ok)(IX:HI X.env.cells cl)(NV:JI X sc cl caps)(hx:Bc! PP x)(hn:h'.Ns s1.heap.objs.size m)(hs:Heap.SameBut s1.heap.objs.size (s1.heap.push o) h') : Inv (MF X sc cl s1.heap.objs.size Do! s1 H1 fp AA) [] (none::none::C0 σ caps) H1 { s1 with heap:=h',toks:=t' }:=by
 have kp:∀b u,L! s1.heap.get? b u->L! h'.get? b u:=λb u e=>(hs.2 b (BH (AR e))).trans (ZT _ e);have MK:H1 s1.heap.objs.size=none:=I.DC.fresh (ZG _);refine⟨ok,rfl,I.bare,Un.kept kp,⟨m,hn,λi y v e1 e2 e3=>?_⟩,λy c e=>?_,MK,λy c e=>I.IK y c (IX.look e),λp hp=>?_,I.DC.kept kp,?_⟩;.match i,e1,e2 with | 0,e1,e2=>simp at e2 | 1,e1,e2=>simp at e2 | j+2,e1,e2 =>have QZ:(x::y0::Dy caps)[j+2]?=A! y:=e1;rw[OE,OE] at QZ;(have TR:(C0 σ caps)[j]?=A! (T! v):=by simpa using e2);rw[ZH] at QZ;unfold C0 at TR;rw[ZH] at TR;cases q:caps[j]? with | none=>rw[q] at QZ;cases QZ | some p =>rw[q] at QZ TR;have e4:p.1=y:=ZO QZ;have e5:(σ[p.2]?).join=A! v:=ZO TR;have hc:=NV.at q;(have e6:σ[p.2]?=A! (T! v):=by cases z:σ[p.2]? with | none=>rw[z] at e5;cases e5 | some w' =>rw[z] at e5;have:w'=A! v:=e5;rw[this]);obtain⟨mm,hV,hl⟩:=I.loc;obtain⟨u,r,lk⟩:=hl p.2 p.1 v hc.n e6 (Dp! hc.k);refine⟨u,r,U! ⟨D! (U? e4 hc.f),?_⟩⟩;rcases lk with⟨k1,_⟩|⟨_,c,W_,ce⟩;(.have:Bc! X.env.scope.names.lookup p.1:=k1;rw[hc.k] at this;cases this);.obtain⟨oc,ZQ,hd⟩:=ce;exact⟨c,U? e4 (hc.l.trans W_),oc,B! kp ZQ,hd⟩
 .obtain⟨v,oc,ZQ,hd⟩:=I.cell y c (IX.look e);exact⟨v,oc,B! kp ZQ,hd⟩
 .have VO:p∈(X.pn++AA)++[]:=hp;rw[AG] at VO;obtain⟨a1,a2,a3,a4,a5⟩:=I.pin p VO;refine⟨B! kp a1,a2,BH (AR a1),λz=>?_,a5⟩;rcases ZM (I.PY _ z) with q|q;(.exact a3 q);.exact a4 q
 .simp[C0,MF]
universe E
def yb(K:W.Frag)(wi:TI)(caps:J! (Str×Nat))(tt:TT)(te:TE):TE:=λσ H Q=>wi σ H λJ H1=>∀p,H1 p=none->∃W:Nat->Nat->Cs!,(∃m,W 0 m [] (upd H1 p Y?))/\∀i m ys H2,W i m ys H2->v6 p /\
 ((J.stop i H2/\Q (G! p) H2)\/(J.go i H2/\∀x H3,J.SW i H2 x H3->∃a u v,x=g?/\CF K H3 a [u,v]/\tt (D1! u v) H3 λb H4 =>
   if b=true then te (D1! u v) H4 λv H5=>AU! H5 p ys/\ys.length<sizeLine/\∃m',m'<m/\W (i+1) m' (ys++[v]) (upd H5 p B3!)
   else ∃m',m'<m/\W (i+1) m' ys H4))
universe S
variable {X:Cx}{elt iter:Expr}{x y0:Str}{px aB pt pos:Pos}{kt:Nat}{ifs:List Expr}{sc:Scope}{cl:List (Str×Addr)}{caps:List (Str×Nat)}{wi:TI}{tt:TT}{te:TE}
theorem Zl{AA:J! (Addr×Obj)}{σ:L2.St}{H:Hp}{s:Shared}{Q:VK}{use:Option (Value->Sem Unit)}{RQ:Value->Shared->Prop}(hc:X.calm=true)(hi:PI X (.Tuple Dy! kt pt) iter wi)(NJ:closureFor sc X.env=pure cl)(KZ:CU! (y.2≠.cell))(JE:sc.kind=.function)(KR:CU! (y.2=.local->sw y.1))(hx:sw x)(bN:sw y0)(IX:HI X.env.cells cl)(has:∀y,(DK! PP PP)->∃c,CJ! c)(NV:JI X sc cl caps)(hN:(x::y0::Dy caps).Nodup)(ht:C5! cv ifs tt)(he:C5! PE elt te)(I:wE H s)(h:yb X.K wi caps tt te σ H Q)(fin:∀(C D:Addr) (H':Hp) (s1 s':Shared) (H1:Hp),C=s1.heap.objs.size->wE H1 s1->wE H' s'->H' C=none->(∃m,s'.heap.Ns C m)->Q ap H'->compPost D2! X.A X.xe use RQ ap C (.ok .next) s')(hs:∀v,foldedSetIterable iter X.env v=pure v) : DS! (comprehension BT! sc X.env (firstIterPos [⟨.Tuple Dy! kt pt,iter,ifs,0⟩] pos) (newList []) false (eval iter X.env) use) RQ s:=by
 refine wpAny_comprehension_free rfl hs NJ JE KR (DX (hi AA s σ H _ I h) λv s1 h1=>DX h1 λlM s2 h2=>?_);obtain⟨it,fp,tn,J,H2,e,I2,T,YS,f2,hW⟩:=h2;subst e;refine DW ?_;have UJ:H2 s2.heap.objs.size=none:=I2.DC.fresh (ZG _);have I3:wE (upd H2 s2.heap.objs.size Y?) { s2 with heap:=s2.heap.push DL! }:=I2.df (t':=s2.toks) (its:=[]) P! (BE _);obtain⟨W,⟨m0,w0⟩,turn⟩:=hW s2.heap.objs.size UJ;have pV:AL! (b≠s2.heap.objs.size):=λb hb z=>by obtain⟨o,e,_⟩:=T.obj 0 _ YS b hb;exact absurd (AR e) (Z! z (CN _))
 have f3:AL! (Nr X AA (upd H2 s2.heap.objs.size Y?) b):=v! ⟨by rw[Ab (pV b hb)];exact(f2 b hb).1,(f2 b hb).2⟩;have bF:tn 0 (s2.heap.push DL!):=T.keep 0 _ _ YS λb hb o e=>ZT _ e;obtain⟨D,hD⟩:∃D,D=s2.heap.objs.size:=Ap!;obtain⟨H3,pQ⟩:∃H3,H3=upd H2 s2.heap.objs.size Y?:=Ap!;obtain⟨s3,cT⟩:∃s3:Shared,s3={ s2 with heap:=s2.heap.push DL! }:=Ap!;have XJ:tn 0 s3.heap:=F! cT bF
 rw[<-pQ] at I3 f3 w0;rw[<-cT] at I3;rw[<-hD] at turn;show wpAny _ _ _ _ _ ({ s2 with heap:=s2.heap.push DL! }:Shared);rw[<-cT,<-hD];refine wpAny_newFunctionEnv KZ (by intro y hy;simp at hy) (λh1 o8 g8=>?_) JE;have ok:=yN (N:=x::y0::Dy caps) I3 f3 (v! (let⟨o,e,_⟩:=T.obj 0 _ XJ b hb;⟨o,e⟩)) JE IX has;have cR:Bc! PP x:=lookup_relabel_local hx;have lN:Bc! PP y0:=lookup_relabel_local bN;have J4:=Jhw (y0:=y0) (t':=s3.toks+([]:J! (Str×Value)).length) I3 ok IX NV cR o8 g8;have gV:tn 0 h1:=T.keep 0 _ _ XJ λb hb o e=>(g8.2 b (BH (AR e))).trans (ZT _ e);have PQ:∀{H':Hp},(AL! jp)->AL! (Nr BQ! [] H' b):=λhn b hb=>by refine⟨hn b hb,?_,λz=>ok.QS b hb z,D! hb,λy c e=>(f3 b hb).2.2.2.2.1 y c (IX.look e),λp hp=>?_⟩;(.exact(ok.VS b hb).1);.have VO:p∈(X.pn++AA)++[]:=hp;rw[AG] at VO;exact(f3 b hb).2.2.2.2.2 p VO
 have loop:∀s4:Shared,s4={ s3 with heap:=h1,toks:=s3.toks+([]:J! (Str×Value)).length } -> codeAny D2! X.A (.compLoop BT! 0 (G! it) ap (compEnvC sc cl s3.heap.objs.size X.env)) (compPost D2! X.A X.xe use RQ ap s3.heap.objs.size) s4:=by rintro s4 rfl;refine R4 (λk s'=>∃i v0 v1 ys H',Inv BQ! [] (v0::v1::C0 σ caps) H' s'/\tn i s'.heap/\(AL! jp)/\W i k ys H') ?_ m0 ⟨0,none,none,[],H3,J4,gV,v! (f3 b hb).1,w0⟩;rintro k s5 ⟨i,v0,v1,ys,H5,I5,WW,TN,w5⟩;obtain⟨hD5,stop|⟨go,step⟩⟩:=turn i k ys H5 w5;(.obtain⟨stop,q⟩:=stop;refine DX (T.done BQ! rfl rfl rfl hc i [] s5 _ H5 (λ_ _=>False) I5 (PQ TN) WW stop) λr s6 ⟨hr,I6⟩=>?_;subst hr;obtain⟨mm,hV,_⟩:=I6.loc;exact fin _ D H5 s3 s6 H3 rfl I3 (yr I3 f3 I6) I6.free ⟨mm,hV⟩ q);.refine DX (T.item BQ! rfl rfl rfl hc i [] s5 _ H5 (λ_ _=>False) I5 (PQ TN) WW go) λr s6 ⟨u,hr,h6⟩=>?_;subst hr;refine DX h6 ?_;rintro _ s7 ⟨y,H7,I7,r7,y7,cF,PK⟩;have qk:=I7.pinned (PQ PK) (T.obj _ _ cF);obtain⟨ay,uu,vv,ey,cS,kG⟩:=step y _ y7;refine DX (J8 (X:=MF X sc cl s3.heap.objs.size Do! s3 H3 fp AA) hc (Ce (Bk (i:=0) hN rfl (D! cR) (H! cR)) (Ce (Bk (i:=1) hN rfl (D! lN) (H! lN)) Hr)) rfl rfl _ s7 (v0::v1::C0 σ caps) H7 y u (λER H'=>ER=D1! uu vv/\H'=H7) qk r7 ⟨ay,_,ey,cS,rfl,_,_,rfl,_,_,rfl,rfl,rfl,rfl⟩) λ_ s8 ⟨zy,H8,I8,e8,qE⟩=>?_;subst e8;subst qE;(have back:∀{gO:L2.St} {H9:Hp} {s9:Shared},Inv BQ! ([]++Mf fp s7.heap) gO H9 s9->tn (i+1) s9.heap/\AL! (a? H9):=λ{gO H9 s9} I9=>by refine⟨T.keep _ _ _ cF λb hb o e=>(I9.pin (b,o) (ZC _ (ZC _ (E9 hb e)))).1,v! ?_⟩;obtain⟨o,e,d⟩:=T.obj _ _ cF b hb;exact(I9.pin (b,o) (ZC _ (ZC _ (E9 hb e)))).2.1);refine DX (ht _ _ _ _ _ _ s8 _ _ _ I8 kG) ?_;rintro ok s9 ⟨H9,I9,q9⟩;cases ok with | false =>simp only[CL,ED] at q9 ⊢;obtain⟨m',hm,w9⟩:=q9;exact⟨m',hm,i+1,A! uu,A! vv,ys,H9,I9.JJ,(back I9).1,(back I9).2,w9⟩ | true =>simp only[HH] at q9 ⊢;refine DX (he _ _ _ _ _ _ s9 _ _ _ I9 q9) ?_;rintro xv cG ⟨v,cy,qm,ny,dv,JU,m',hm,m7⟩;refine DX (Dw (X:=MF X sc cl s3.heap.objs.size Do! s3 H3 fp AA) _ cG _ cy ap [v] ap [xv] (λ_ H'=>H'=upd cy D B3!) qm rfl (I! ny P!) ⟨D,ys,v,rfl,rfl,dv,JU,rfl⟩) λ_ s11 ⟨_,ik,cx,_,iS⟩=>?_;subst iS;exact⟨m',hm,i+1,A! uu,A! vv,ys++[v],_,cx.JJ,(back cx).1,(back cx).2,m7⟩
 exact codeAny_compStart_list (loop _ rfl) (T.self _ 0 _ _ _ gV (loop _ rfl))
universe E
theorem Zk{K:W.Frag}{a p:Addr}{xs:j!}{tt:TT}{te:TE}{caps:J! (Str×Nat)}{σ:L2.St}{H:Hp}{Q:Hp->Prop}(Pv:Nat->Cs!)(h0:Pv 0 [] (upd H p Y?))(hl:∀i ys H2,i<=xs.length->Pv i ys H2->DU K H2 a xs/\v6 p)(hs:∀i x ys H2 (N:Cs!),xs[i]?=A! x->Pv i ys H2->(∀ys H,Pv (i+1) ys H->N ys H)->∃a' u v',x=W! a'/\CF K H2 a' [u,v']/\Cj! tt H2 (λb H4 =>if b=true then Cj! te H4 (λv H5=>AU! H5 p ys/\ys.length<sizeLine/\N (ys++[v]) (upd H5 p B3!)) else N ys H4))(hd:∀ys H2,Pv xs.length ys H2->Q H2) : ∃W:Nat->Nat->Cs!,(∃m,W 0 m [] (upd H p Y?))/\∀i m ys H2,W i m ys H2->v6 p /\ (((U_ K a).stop i H2/\Q H2)\/((U_ K a).go i H2/\∀x H3,(U_ K a).SW i H2 x H3->∃a' u v',x=W! a'/\CF K H3 a' [u,v']/\Cj! tt H3 (λb H4 =>if b=true then Cj! te H4 (λv H5=>AU! H5 p ys/\ys.length<sizeLine/\∃m',m'<m/\W (i+1) m' (ys++[v]) (upd H5 p B3!)) else ∃m',m'<m/\W (i+1) m' ys H4))):=by
 refine⟨λi m ys H=>m=xs.length-i/\i<=xs.length/\Pv i ys H,⟨xs.length,TD,BE _,h0⟩,?_⟩;rintro i m ys H2 ⟨rfl,hi,pv⟩;obtain⟨q1,q2⟩:=hl i ys H2 hi pv;refine⟨q2,?_⟩;by_cases JU:i<xs.length;.refine U! ⟨⟨xs,xs[i],q1,by simp[JU]⟩,λx H3 y=>?_⟩;obtain⟨e,y⟩:=y;subst e;exact hs i x ys _ (λzs H'=>∃m',m'<xs.length-i/\(m'=xs.length-(i+1)/\i+1<=xs.length/\Pv (i+1) zs H')) (y xs q1) pv λzs H' pz=>⟨_,E!,rfl,JU,pz⟩
 ·(have e:i=xs.length:=E!);subst e;exact D! ⟨⟨xs,q1,o!⟩,hd ys H2 pv⟩
universe S
variable {X:Cx}{elt iter:Expr}{x y0:Str}{px aB pt pos:Pos}{kt:Nat}{ifs:List Expr}{sc:Scope}{cl:List (Str×Addr)}{caps:List (Str×Nat)}{wi:TI}{tt:TT}{te:TE}
theorem Jd0{i:Nat}{y:Str}{py XO:Pos}(aR:X.N.Nodup)(SE:X.N[i]?=A! y)(hy:L! X.env.scope.names.lookup y .local)(ot:swapsWith BT! (T! DD!) XO.line X.env=pure true)(hc:X.calm=true)(hi:PI X (.Tuple Dy! kt pt) iter wi)(NJ:closureFor sc X.env=pure cl)(KZ:CU! (y.2≠.cell))(JE:sc.kind=.function)(KR:CU! (y.2=.local->sw y.1))(hx:sw x)(bN:sw y0)(IX:HI X.env.cells cl)(has:∀y,(DK! PP PP)->∃c,CJ! c)(NV:JI X sc cl caps)(hN:(x::y0::Dy caps).Nodup)(ht:C5! cv ifs tt)(he:C5! PE elt te)(hs:∀v,foldedSetIterable iter X.env v=pure v:=by intro _;rfl) :
 PS X (.Assign [.Name y py] BT! XO) (λD σ H=>yb X.K wi caps tt te σ H λv H'=>D.nx (σ.set i (T! v)) H'):=by
 intro AA s σ H D I h
 rw[exec_Assign_Name_used _ _ _ _ ot]
 refine ZR (wpAny_standAt (ZR ?_))
 show wpAny _ X.A (do let _ <-comprehension BT! sc X.env _ (newList []) false (eval iter X.env) (T! (assign DD! X.env))) _ _ s
 refine ZR (EC (Zl (use:=A! (assign DD! X.env)) (RQ:=λ_ s'=>SP X AA D .next s') hc hi NJ KZ JE KR hx bN IX has NV hN ht he I h (λC Dd H' s1 s' H1 hC I1 I' hn ⟨m,hm⟩ q=>?_) hs) (λ_ s' hq=>ZS (ZS hq)) λ_ _ e=>e)
 subst hC
 show wpAny _ _ (assign DD! X.env (G! Dd)) _ _ _
 refine wpAny_assign_Name (Md I' aR SE (D! hy) (show RelV (G! Dd) (G! Dd) from rfl) (λs2 I2 ⟨a,bO,ha⟩=>?_) (H! hy))
 have pR:s1.heap.objs.size≠a:=by
  rcases ha with z|z
  .rw[z];exact EE I1.lt
  .intro z2
   obtain⟨v,qc⟩:=I1.cell y a z
   exact absurd qc.lt (U? z2 (CN _))
 exact⟨m,hm.sameBut bO pR,λh' g9=>c? H' (Vk (s':=s') I1 I2 hn g9) q⟩
universe E
universe E FX
universe N K62
open PySem L2 FX
structure LO where
 ha:Addr
 hd:Addr
 co:Addr
 BK:J! (Addr×M!)
 holds:HL
 BY:J! g!
def Ip(F:LO):J! (Key×V):=[DA!,DB!,(U! Ch,W! F.co)]
theorem zE:¬((AT:Str)=At):=ZV
theorem zD:¬((AT:Str)=Ch):=ZV
theorem zF:¬((At:Str)=Ch):=ZV
theorem Jfe(F:LO):Ci (Ip F) (H! AT)=A! (G! F.ha):=by unfold Ip;rw[Ft rfl]
theorem Jfd(F:LO):Ci (Ip F) (H! At)=A! (G! F.hd):=by unfold Ip;rw[AC! zE,Ft rfl]
theorem Jcs(F:LO):Ci (Ip F) (H! Ch)=A! (G! F.co):=by unfold Ip;rw[AC! zD,AC! zF,Ft rfl]
theorem Jjo(F:LO):Kd [] (Ip F)=Ip F:=by have e0:putK ([]:J! (Key×V)) (H! AT) (G! F.ha)=[(U! AT,W! F.ha)]:=Ex _ Jc7;have e1:putK ([(U! AT,W! F.ha)]:J! (Key×V)) (H! At) (G! F.hd)=[DA!,DB!]:=Ex _ (Db (AC! zE));have e2:putK ([DA!,DB!]:J! (Key×V)) (H! Ch) (G! F.co)=[DA!,DB!,(U! Ch,W! F.co)]:=Ex _ (by rw[AC! zD,AC! zF];rfl);unfold Kd Ip;simp only[List.foldl_cons,List.foldl_nil];rw[e0,e1,e2]
def UW(F:LO):Ix:=Ci! (F.holds.map m?)
def Ec(fl:Addr)(F:LO):Ix:=fl::F.hd::UW F
structure CC(H:Hp)(fl:Addr)(F:LO):Prop where
 ob:w! fl (.dK (Ip F))
 ha:w! F.ha (.BC (F.BK.map A7!))
 hn:∀q∈F.BK,LstAt H q.1 q.2
 hd:w! F.hd (C1 F.holds)
 hl:BW! (LstAt H W? q.2.2)
 co:∃cs,be F.co cs.map/\Ck! H
 nd:(UW F).Nodup
 nk:F? F.holds.map
def VW(fl:Addr)(F:LO)(H H':Hp):Prop:=Co! R? (b∉Ec fl F)
theorem EY:Ag!↔(b=F.ha\/b=F.co\/(∃q∈F.BK,b=q.1)\/∃q∈F.holds,b=W?):=by
 unfold UW;simp only[BU,K',AF];constructor;.rintro(h|h|⟨q,hq,e⟩|⟨q,hq,e⟩);(.exact D! h);(.exact Ay! h);(.exact U! (Dp! Cw!));.exact U! (H! (H! Cw!))
 .rintro(h|h|⟨q,hq,e⟩|⟨q,hq,e⟩);(.exact D! h);(.exact Ay! h);(.exact U! (Dp! Cw!));.exact U! (H! (H! Cw!))
theorem CC.BC(x:N!)(hb:Ag!):∃xs,w! b (.BC xs):=by
 rcases EY.mp hb with rfl|rfl|⟨q,hq,rfl⟩|⟨q,hq,rfl⟩;.exact⟨_,x.ha⟩
 .obtain⟨cs,e,_⟩:=x.co;exact KF
 .obtain⟨as,e,_⟩:=x.hn q hq;exact KF
 .obtain⟨as,e,_⟩:=x.hl q hq;exact KF
theorem CC.has(x:N!)(hb:Af!):∃o,R?/\(∀xs,o≠.AZ xs)/\(∀ob u,o≠.GF ob u):=by
 unfold Ec at hb;rcases ZM hb with rfl|hb;.exact c? x.ob AN! Dz!
 rcases ZM hb with rfl|hb;.exact c? x.hd AN! Dz!
 obtain⟨xs,e⟩:=x.BC hb;exact c? e AN! Dz!
theorem YX(h:LstAt H b ts)(e:∀o,R?->SZ H')(k:ii):LstAt H' b ts:=by obtain⟨as,e1,t⟩:=h;exact⟨as,e _ e1,AW.keep k t⟩
theorem CC.keep(x:N!)(k:Co! Af! R?)(kt:ii):Cc!:=by have kl:Co! Ag! R?:=Bv! k (ZD _ (ZD _ hb)) e;refine⟨k _ _ N? x.ob,kl _ _ (EY.mpr (D! rfl)) x.ha,V! (YX (x.hn q hq) (λo e=>kl _ _ (A3! i?) e) kt),k _ _ (ZD _ N?) x.hd,V! (YX (x.hl q hq) (λo e=>kl _ _ (CR! i?) e) kt),?_,x.nd,x.nk⟩;obtain⟨cs,e,p⟩:=x.co;exact⟨cs,kl _ _ BK! e,Ap (λ_ _ h=>BF!) p⟩
theorem CC.same(x:N!)(s:S?):Cc!:=x.keep (λb o _ e=>s b o e) (HN s)
theorem VW.DL(f:No)(x:N!):ii :=⟨λa xs e=>f a _ e λhb=>(by obtain⟨o,e2,n,_⟩:=x.has hb;rw[e] at e2;cases e2;exact n _ rfl),λa o u e=>f a _ e λhb=>(by obtain⟨o,e2,_,n⟩:=x.has hb;rw[e] at e2;cases e2;exact B! n rfl)⟩
theorem E7(e:w! b (.BC xs)):BW H (upd H b o):=OI λo' e'=>by rw[e] at e';cases e';exact C2!
theorem Jy(hb:Ag!):Bb! (upd H b o):=λc o' e n=>O! (CQ! n (ZD _ (ZD _ hb))) e
theorem CC.ne(x:N!)(e:w! b (.BC xs)):fl≠b/\F.hd≠b:=Os (by rw[<-z,x.ob] at e;cases e) (by rw[<-z,x.hd] at e;cases e)
theorem CC.SA(x:N!):F.ha≠F.co/\Bs! (q.1≠F.ha/\q.1≠F.co)/\(BW! (W?≠F.ha/\W?≠F.co))/\Bs! (∀r∈F.holds,q.1≠r.2.1)/\F? F.BK.map/\(F.holds.map m?).Nodup:=by
 have nd:=x.nd;unfold UW at nd;rw[AM,AM,AK] at nd;obtain⟨n1,n2,n3,n4,n5⟩:=nd;refine⟨CQ! n1 (ZL ..),V! (Os (n1 ?_) (n2 ?_)),V! (Os (n1 ?_) (n2 ?_)),λq hq r hr=>n5 _ (AF.mpr i?) _ (AF.mpr (k! r hr)),n3,n4⟩;.rw[<-z];exact ZD _ (ZB _ (AF.mpr i?))
 .rw[<-z];exact ZB _ (AF.mpr i?)
 .rw[<-z];exact ZD _ (ZC _ (AF.mpr i?))
 .rw[<-z];exact ZC _ (AF.mpr i?)
theorem CC.SG(x:N!)(p:Paired (HE H) cs ys):CC (B8! F.co cs.map) fl { F with BY:=ys }:=by obtain⟨cs0,e0,_⟩:=x.co;obtain⟨n1,n2,n3,_⟩:=x.SA;obtain⟨m1,m2⟩:=x.ne e0;have kt:=xL cs.map e0;exact⟨O! m1 x.ob,O! n1 x.ha,V! (A6! (x.hn q hq) (n2 q hq).2),O! m2 x.hd,V! (A6! (x.hl q hq) (n3 q hq).2),⟨cs,Ac,Ap (λ_ _ h=>BF!) p⟩,x.nd,x.nk⟩
theorem CC.hand(x:N!)(hj:F.BK[j]?=A! q)(t:AW H as l):CC (B8! q.1 as.map) fl { F with BK:=AQ! j Ar! }:=by
 have hq:=ZP hj;obtain⟨cq,e0,_⟩:=x.hn q hq;obtain⟨n1,n2,n3,n4,n5,_⟩:=x.SA;obtain⟨m1,m2⟩:=x.ne e0;have kt:=xL as.map e0;have em:∀{β:Type} (f:Addr->β),(F.BK.set j Ar!).map (λq=>f q.1)=F.BK.map λq=>f q.1:=λf=>by refine EX λi=>?_;rw[ZH,ZH,EW];by_cases e:j=i;(.subst e;rw[ci,AD CH!,hj];rfl);.rw[AB e]
 obtain⟨cs,ec,pc⟩:=x.co;refine⟨O! m1 x.ob,by rw[Ab (n2 q hq).1.symm];show w! F.ha (.BC ((F.BK.set j Ar!).map A7!));rw[em V.ref];exact x.ha,λr hr=>?_,O! m2 x.hd,λr hr=>A6! (x.hl r hr) (n4 q hq r hr).symm,⟨cs,O! (n2 q hq).2.symm ec,wT BF!⟩,?_,x.nk⟩;.obtain⟨i,hi⟩:=CB.mp hr;have hi:(F.BK.set j Ar!)[i]?=A! r:=hi;rw[EW] at hi;by_cases e:j=i;(.rw[AD e,AD CH!] at hi;cases hi;exact⟨as,Ac,AW.keep kt t⟩);.rw[AB e] at hi;have LF:=ZP hi;refine YX (x.hn r LF) (λo e2=>?_) kt;rw[Ab λz=>e ?_];(.exact e2);·(have a1:(F.BK.map J?)[j]?=A! q.1:=e? hj);(have a2:(F.BK.map J?)[i]?=A! q.1:=by rw[ZH,hi,<-z];rfl);obtain⟨l1,g1⟩:=ZJ a1;obtain⟨l2,g2⟩:=ZJ a2;exact DH! n5
 .have nd:=x.nd;unfold UW at nd ⊢;show(F.ha::F.co::(B5! (F.BK.set j Ar!).map++F.holds.map m?)).Nodup;rw[em λa=>a];exact nd
theorem CC.held(x:N!)(hf:C7! (q.1=tb)=A! (tb,a,l0))(t:AW H as l):CC (B8! a as.map) fl { F with holds:=Cw F.holds tb l }:=by
 have hq:=AJ hf;obtain⟨cq,e0,_⟩:=x.hl _ hq;have e0:be a cq.map:=e0;obtain⟨n1,n2,n3,n4,_,n6⟩:=x.SA;obtain⟨m1,m2⟩:=x.ne e0;have kt:=xL as.map e0;have ui:a≠F.ha/\a≠F.co:=n3 _ hq;obtain⟨cs,ec,pc⟩:=x.co;have ed:C1 (Cw F.holds tb l)=C1 F.holds:=by unfold C1 Cw;rw[AL];refine congrArg _ (BM λq _=>?_);show(tk (j? (q.1=tb) l).1,Y! (j? (q.1=tb) l).2.1)=_;split<;>rfl
 refine⟨O! m1 x.ob,O! ui.1.symm x.ha,λr hr=>YX (x.hn r hr) (λo e=>F! (Ab (n4 r hr _ hq)) e) kt,by rw[Ab m2];show w! F.hd (C1 (Cw F.holds tb l));rw[ed];exact x.hd,λr hr=>?_,⟨cs,O! ui.2.symm ec,wT BF!⟩,?_,?_⟩;.have hr:r∈Cw F.holds tb l:=hr;obtain⟨q,WJ,e⟩:=ZN hr;by_cases c:q.1=tb;(.rw[AD c] at e;have:q=(tb,a,l0):=O3 x.nk WJ hq c;rw[<-e,this];exact⟨as,Ac,AW.keep kt t⟩);.rw[AB c] at e;rw[<-e];refine YX (x.hl q WJ) (λo e2=>?_) kt;rw[Ab λz=>c ?_];(.exact e2);.obtain⟨i,hi⟩:=CB.mp WJ;obtain⟨j,hj⟩:=CB.mp hq;(have a1:(F.holds.map m?)[i]?=A! a:=by rw[ZH,hi,<-z];rfl);(have a2:(F.holds.map m?)[j]?=A! a:=e? hj);obtain⟨l1,g1⟩:=ZJ a1;obtain⟨l2,g2⟩:=ZJ a2;have:=DH! n6;rw[this,hj] at hi;cases hi;rfl
 .have nd:=x.nd;unfold UW at nd ⊢;show(Ci! ((Cw F.holds tb l).map m?)).Nodup;rw[Ky];exact nd
 .show F? (Cw F.holds tb l).map;(have:R! (Cw F.holds tb l).map=u?:=by unfold Cw;rw[AL];refine BM λq _=>?_;show(j? (q.1=tb) l).1=_;split<;>rfl);rw[this];exact x.nk
theorem CC.dZ(x:N!)(ha:H a=none)(nt:t∉u?):CC (upd A8! F.hd (C1 (CB!))) fl { F with holds:=CB! }:=by
 have s1:=x? ha;have x1:=x.same s1;have hN:∀b o,R?->b≠a:=λb o e z=>BJ! ha
 have kt:BW A8! (upd A8! F.hd (C1 (CB!))):=OI λo' e=>by rw[x1.hd] at e;cases e;exact C2!
 have nl:∀b,Ag!->b≠F.hd:=λb hb z=>by obtain⟨xs,e⟩:=x.BC hb;rw[z,x.hd] at e;cases e
 have na:a≠F.hd:=(hN _ _ x.hd).symm;obtain⟨cs,ec,pc⟩:=x1.co;have nf:fl≠F.hd:=λz=>by have:=x.ob;rw[z,x.hd] at this;cases this
 refine⟨O! nf x1.ob,O! (nl _ (EY.mpr (D! rfl))) x1.ha,λr hr=>A6! (x1.hn r hr) (nl _ (A3! (k! r hr))),Ac,λr hr=>?_,⟨cs,O! (nl _ BK!) ec,wT BF!⟩,?_,?_⟩;.have hr:r∈CB!:=hr;rcases ZI hr with hr|hr;(.exact A6! (x1.hl r hr) (nl _ (CR! (k! r hr))));.rw[ZK hr];exact⟨[],O! na Ac,P!⟩
 .have nd:=x.nd;unfold UW at nd ⊢;show(Ci! ((cr (t,a,[])).map (λq=>W?))).Nodup;rw[ZF,<-AQ];show((Ci! (F.holds.map m?))++[a]).Nodup;refine DG! nd ?_;obtain⟨xs,e⟩:=x.BC (b:=u) hu;exact hN _ _ e (z.trans (by simpa using hv))
 .show((cr (t,a,[])).map (λq=>q.1)).Nodup;rw[ZF];refine DG! x.nk (nt ?_);(have:v=t:=by simpa using hv);rw[<-this,<-z];exact hu
theorem CC.MY(x:N!):Cx! fl (q! AT) F.ha:=by have:=DM.k (k:=U! AT) x.ob;rw[Jfe] at this;exact this
theorem CC.OA(x:N!):Cx! fl (q! At) F.hd:=by have:=DM.k (k:=U! At) x.ob;rw[Jfd] at this;exact this
theorem CC.a8(x:N!):Cx! fl (q! Ch) F.co:=by have:=DM.k (k:=U! Ch) x.ob;rw[Jcs] at this;exact this
theorem Wu{Q:VK}{H:Hp}{b l:Addr}{tb:T2}{as:Ix}{ts:M!}(hb:Cq!)(hl:be l as.map)(th:AW H as ts)(q:(tb∉ts->Q (.bl true) H)/\(tb∈ts->Q (.bl false) H)):xm true Aj! (G! l) H Q:=by
 refine⟨b,l,tb,as,ts,rfl,rfl,hb,hl,th,?_⟩;by_cases h:tb∈ts;.have:=q.2 h;simpa [h] using this
 .have:=q.1 h;simpa [h] using this
theorem Kx{l:List α}(h:l[j]?=A! a):l.set j a=l:=by
 refine EX λi=>?_;rw[EW];by_cases e:j=i;.rw[AD e,AD (ZJ h).1,<-e,h]
 .rw[AB e]
theorem Pt{F:LO}(h0:0<=h)(hq:A5!):QI (F.BK.map A7!) h=A! (V.ref q.1):=A9 h0 (e? hq)
universe S
variable {P:Program}{w:World}{K:W.Frag}{mg:Str->Option Value}{base:Heap}
theorem Jmi:I? AG! AG! T5:={}
inductive Z2(vs:j!)(H:Hp)(Q:VK)(E:XK):Prop
 | mk (fl t:Addr) (h:Int) (F:LO) (q:Addr×M!) (tb:T2) (_:vs=[Ak!,KE,bn]) (_:N!) (_:bi t tb) (_:0<=h) (_:A5!) (_:q.2.length<=400) (_:∀H',CC H' fl (Ah! (q.1,Ca!))->No->Q .E_ H')
theorem Jes(F':L? AY! AY! T5):C9! AG! Z2:=by
 refine wP Jmi;obtain⟨fl,t,h,F,q,tb,rfl,S,et,h0,hq,z,k⟩:=h;refine v?;have hu:=Cf hr;have mq:=ZP hq;obtain⟨as,ea,th⟩:=S.hn q mq;refine⟨_,Ae (Bf (Az (Sc Hy) A? (Cb! O?) rfl) (DP! (Cb! O?) A?) A4),?_⟩;refine⟨_,rfl,_,rfl,fl,_,rfl,S.MY,_,rfl,F.ha,_,h,_,rfl,rfl,x! S.ha,Pt h0 hq,Wu et ea th ⟨Bw! (B7 ?_),Bw! (By ?_)⟩⟩;.have lz:=ga;refine⟨_,rfl,fl,_,rfl,S.MY,_,rfl,F.ha,_,h,_,rfl,rfl,x! S.ha,Pt h0 hq,IR ea,_,rfl,q.1,_,_,rfl,rfl,ea,Cn!,?_⟩;(have e:Ca!=q.2++[tb]:=Df! (AB h1));have S1:=S.hand hq (Cu th et);rw[ZF,<-e] at S1;exact k _ S1 (Jy (A3! (BZ! mq)))
 ·(have e:Ca!=q.2:=Df! (AD h1));refine k H ?_ λb o e _=>e;rw[e,show Dw! (q.1,q.2)=F.BK from Kx hq];exact S
universe E
def LtK(H:Hp)(t:Addr)(kind:Str)(g:Int):Prop:=∃(n s:Int)(a:Addr),B2! t (Cv! g?)
def mU(H:Hp)(F:LO)(lv mv:V)(a:Addr)(F':LO):Dd->Prop
 | .make h=>∃t tm q,mv=bn/\bi t tm/\0<=h/\A5!/\tm∉u?/\F'={ F with holds:=wS,BK:=Dw! (q.1,q.2++[tm]) }
 | .three w h a b=>∃ta tb,bi a ta/\Cq! /\
  ((w=AC/\∃aa l,C7! WF=A! (ta,aa,l)/\F'=Ch! Bj l) \/
   (w="drop"/\∃aa l,C7! WF=A! (ta,aa,l)/\tb∈l/\l.Nodup/\F'=Ch! E2 l) \/
   (w="take"/\0<=h/\∃q,A5!/\F'=Ah! (q.1,Ca!)))
 | .free h b=>∃tb q,Cq!/\0<=h/\A5!/\tb∈q.2/\q.2.Nodup/\F'=Ah! (q.1,E2 q.2 tb)
 | .send h g b=>∃tb,Cq!/\F'=Dg! (F.BY++[(g,tb)])
 | .clean _=>F'=F
 | .ask _=>F'=F
 | .deliver _=>∃t,lv=bn /\
  ((∃n kind s g th x q j,IZ H t n kind s g th x/\(kind=AC\/(kind=UF/\x=g))/\0<=g/\F.BK[g.toNat]?=A! q/\F.BY[j]?=A! wv/\(∀(m:Nat) z,m<j->F.BY[m]?=A! z->z≠wv)/\F'={ F with BY:=BA!,BK:=AQ! g.toNat (q.1,Bj q.2 th) }) \/
   (∃n s g th x,IZ H t n UF s g th x/\x≠g/\F'=F) \/
   (∃kind g,LtK H t kind g/\kind≠AC/\kind≠UF/\F'=F))
structure zk(F:LO):Prop where
 BK:∀q∈F.BK,q.2.length<=400
 holds:F.holds.length<=400
 held:BW! (q.2.2.length<=400)
 BY:F.BY.length<=400
universe S
variable {P:Program}{w:World}{K:W.Frag}{mg:Str->Option Value}{base:Heap}
theorem JT(k:D.nx σ H)(hv:DF! wd:=by rfl)(ne:¬wd=c:=by decide +kernel):Da! (Fi DY!) qg :=DZ! (F! (decide_eq_false (show ¬DQ! wd from C4! V.str.inj)) (By k))
theorem OF(k:D.nx σ H)(hv:DF! wd:=by rfl)(ne:¬wd=c:=by decide +kernel):Da! (qY (Fi DY!) tt) qg :=DZ! (F! (decide_eq_false (show ¬DQ! wd from C4! V.str.inj)) (By (By k)))
theorem ie(k:ta D σ H)(hv:DF! c:=by rfl):Da! (Fi DY!) tb :=DZ! (F! Op (B7 k))
theorem gL(k:u σ H (λb H1=>if b=true then ta D σ H1 else tb D σ H1))(hv:DF! c:=by rfl):Da! (qY (Fi DY!) u) tb :=DZ! (F! Op (B7 k))
theorem Jby{l:HL}(nk:F? l.map)(hf:Bk! l.find? v):Cw l t v=l:=by
 unfold Cw;have:∀q∈l,(j? o? v)=q:=V! (by by_cases e:o?;(.have:=O3 nk hq (AJ hf) e;rw[AD e,this]);.rw[AB e])
 exact(BM this).trans (List.map_id _)
theorem kT(et:B2! t (Cv! g?))(k:Q (decide (DQ! kind)) H)(hv:σ[2]?=A! (some (.ref t)):=by rfl):Fi (NS UP (DE! 2 1) (tC (q! c))) σ H Q :=⟨_,hv,t,_,1,_,rfl,rfl,h?,C!,rfl,_,rfl,k⟩
theorem sN(ne:¬(kind:Str)=c):n? (DQ! kind)=false:=decide_eq_false (C4! V.str.inj)
theorem D9{R:α->β->Prop}:∀{as:List α} {bs:List β},Paired R as bs->∀j,Paired R (as.eraseIdx j) (bs.eraseIdx j)
 | _,_,.nil,j=>by simpa using Paired.nil
 | _,_,.cons r t,0=>t
 | _,_,.cons r t,j+1=>I! r (D9 t j)
theorem i4:I? [BX!,Dh!,"_law_letter","_law_made","_law_word"] AH! T3:={}
inductive Tb(vs:j!)(H:Hp)(Q:VK)(E:XK):Prop
 | mk (fl x:Addr) (lv mv:V) (F:LO) (N:Addr->LO) (dd:Dd) (_:vs=[Ak!,W! x,lv,mv]) (_:N!) (_:zk F) (_:AW! (.AZ (l_ dd))) (_:(∀a,Dc! H mv (N a))) (_:∀a H',(H a=none\/∀h,dd≠.make h)->CC H' fl (N a)->No->Q .E_ H')
theorem CC.at{t:T2}(x:N!)(hf:CT! l)(et:w! b (.AZ (tv t))):Cx! F.hd Aj! a:=by have:=DM.t (k:=tk t) x.hd et;rw[Dl (k:=λq:T2×Addr×List T2=>q.1) (f:=λq=>Y! W?),hf] at this;exact this
theorem Jeq(F':L? Di! Di! T3)(MH:D? AY! T5 AG! fH dH):z! f fd AH! Tb:=by have GH:Go fH dH AG! Z2:=Jes MH.fn;refine wP i4;obtain⟨fl,x,lv,mv,F,N,dd,rfl,S,sz,ex,hN,k⟩:=h;refine v?;have hu:=Cf hr;refine xz 4 i4.nd a! (Ad (At! (Ad (B6 hu AR! P? (Es Af) rfl) (DP! (Cb! a!) P?))) (Ad (Bf (ZZ (J7 Dx! (K8 (Az (Sc Hy) a! (Cy! a!) rfl)))) (DP! (Cy! a!) a!) A4) (Ad (At! (Bl! IS IQ (Sc Pe) (Cy! a!) a!)) (Ad (At! (Ae (A3 (Cr! GH MH.mg MH.fn.kp MH.bd FS a! a!)))) (Ad (At! (Bl! IS IQ (Sc Pe) (Cb! a!) a!)) (Ad (At! (DP! AR! (Cj (r? a! a!)))) (Ad (Bf (ZZ (J7 Dx! (K8 (Ds! Ev)))) (Ad (A3 (E6 BB IS IQ (Sc Pf) AR! (Aa (Cj (r? Ev BP!)) Af))) (Ae (A3 (Cr! GH MH.mg MH.fn.kp MH.bd FS Ev BP!)))) A4) (Ae (Bf (ZZ (J7 Dx! (J7 (Ds! Ev) (K8 (Az Ca BP! Ev (A7 _)))))) (Ad (A3 (E6 BB IS IQ (Sc Pf) AR! (Aa (Cj (r? Ev BP!)) Af))) (Ae (A3 (Cr! GH MH.mg MH.fn.kp MH.bd FS Ev BP!)))) A4)))))))));cases dd with | make h =>have ex:Az! "make" KE:=ex;refine Rs (ie ?_);refine⟨BE _,λa ha=>?_⟩;obtain⟨t,tm,q,rfl,et,h0,hq,nt,eN⟩:=hN a;have s1:=x? ha;have S1:=A4!;refine⟨_,rfl,fl,_,rfl,S1.OA,_,rfl,F.hd,_,rfl,F_.t (k:=tk tm) S1.hd (s1 _ _ et) (Z! ZA (Ed (by have:=sz.holds;lia))),?_⟩;rw[F5 (V.ref a) (λq hq z=>nt (AF.mpr ⟨q,hq,z⟩))];(have e5:HO.dT ((F.holds.map λ(q:T2×Addr×List T2)=>(tk q.1,Y! W?))++[(tk tm,Y! a)])=C1 (wS):=by unfold C1;rw[ZF];rfl);rw[e5];have S2:=S.dZ ha nt;(have JB:Bb! (upd A8! F.hd (C1 (wS))):=SB (O! (CQ! n (ZD _ N?)) (B! s1 e)));generalize upd A8! F.hd (C1 (wS))=H2 at S2 JB;have aF:=JB.DL S;have mq:=ZP hq;obtain⟨as,ea,th⟩:=S2.hn q mq;have lz:=ga;have z1:=sz.BK q mq;refine⟨_,rfl,fl,_,rfl,S2.MY,_,rfl,x,_,1,_,rfl,rfl,X! (aF.AZ _ _ ex),C!,F.ha,_,h,_,rfl,rfl,x! S2.ha,Pt (F:={ F with holds:=wS }) h0 hq,IR ea,_,rfl,q.1,_,_,rfl,rfl,ea,Cn!,?_⟩;have S3:=S2.hand (j:=h.toNat) hq (Cu th (aF.AZ _ _ et));rw[ZF] at S3;(have MQ:Bb! (upd H2 q.1 (.BC (CN!++[t].map V.ref))):=SB (O! (CQ! n (ZD _ (ZD _ (A3! (BZ! mq))))) (JB _ _ e n)));exact OF (JT (JT (sB (k a _ (D! ha) (Dr! S3) MQ)))) | three w h a b =>have ex:AW! (.AZ [q! w,KE,g?,W! b]):=ex;have nm:∀h',Dd.three w h a b≠.make h':=AN!;obtain⟨ta,tb,ea,eb,c⟩:=hN 0;refine Rs ?_;rcases c with⟨rfl,aa,l,hf,eN⟩|⟨rfl,aa,l,hf,hb,nd,eN⟩|⟨rfl,h0,q,hq,eN⟩;(.have mq:=AJ hf;obtain⟨as,el,th⟩:=S.hl _ mq;have el:be aa as.map:=el;have lz:=ga;have z1:=sz.held _ mq;refine JT (gL ?_);refine⟨_,rfl,x,_,3,_,rfl,rfl,y!,C!,_,rfl,fl,_,rfl,S.OA,_,rfl,x,_,2,_,rfl,rfl,y!,C!,F.hd,_,rfl,S.at hf ea,Wu eb el th ⟨Bw! (B7 ?_),Bw! (By ?_)⟩⟩;(.refine⟨_,rfl,fl,_,rfl,S.OA,_,rfl,x,_,2,_,rfl,rfl,y!,C!,F.hd,_,rfl,S.at hf ea,CM!,_,rfl,x,_,3,_,rfl,rfl,y!,C!,aa,_,_,rfl,rfl,el,F! ZA (Ed (by have z1:l.length<=400:=z1;have lz:as.length=l.length:=lz;lia)),?_⟩;(have e:Bj l tb=l++[tb]:=Df! (AB h1));have S1:=S.held hf (Cu th eb);rw[ZF,<-e] at S1;exact JT (JT (sB (CV! S1 (Jy (CR! (k! _ mq)))))));·(have e:Bj l tb=l:=Df! (AD h1));refine JT (JT (sB (k 0 _ (H! nm) ?_ BY!)));rw[eN,e,Jby S.nk hf];exact S);(.have mq:=AJ hf;obtain⟨as,el,th⟩:=S.hl _ mq;have el:be aa as.map:=el;have th:AW H as l:=th;obtain⟨j,hj,RX⟩:=Wd nd hb;refine JT (OF (ie ?_));refine⟨_,rfl,fl,_,rfl,S.OA,_,rfl,x,_,2,_,rfl,rfl,y!,C!,F.hd,_,rfl,S.at hf ea,CM!,_,rfl,x,_,3,_,rfl,rfl,y!,C!,aa,b,tb,as,l,j,rfl,rfl,eb,el,th,hj,RX,?_⟩;have S1:=S.held hf (Ma th j);rw[Ry nd hj] at S1;exact JT (sB (CV! S1 (Jy (CR! (k! _ mq))))));.refine JT (OF (JT (ie ?_)));refine⟨_,rfl,_,rfl,x,_,1,_,rfl,rfl,y!,C!,_,rfl,x,_,3,_,rfl,rfl,y!,C!,fl,b,h,F,q,tb,rfl,S,eb,h0,hq,sz.BK q (ZP hq),Dj! ?_⟩;exact JT (JT (OF (OF (CV! S' fr)))) | free h b =>have ex:AW! (.AZ [q! "free",KE,W! b]):=ex;obtain⟨tb,q,eb,h0,hq,hb,nd,eN⟩:=hN 0;have mq:=ZP hq;obtain⟨as,el,th⟩:=S.hn q mq;obtain⟨j,hj,RX⟩:=Wd nd hb;refine Rs (JT (OF (JT (JT (ie ?_)))));refine⟨_,rfl,fl,_,rfl,S.MY,_,rfl,x,_,1,_,rfl,rfl,y!,C!,F.ha,_,h,_,rfl,rfl,x! S.ha,Pt h0 hq,CM!,_,rfl,x,_,2,_,rfl,rfl,y!,C!,q.1,b,tb,as,q.2,j,rfl,rfl,eb,el,th,hj,RX,?_⟩;have S1:=S.hand hq (Ma th j);rw[Ry nd hj] at S1;exact JT (OF (OF (CW! S1 (Jy (A3! (BZ! mq)))))) | send h g b =>have ex:AW! (.AZ [q! "send",KE,S! g,W! b]):=ex;obtain⟨tb,eb,eN⟩:=hN 0;obtain⟨cs,ec,pc⟩:=S.co;have lz:=Z? pc;have z1:=sz.BY;refine Rs (JT (OF (JT (JT (JT (ie ?_))))));refine⟨_,rfl,fl,_,rfl,S.a8,IR ec,_,rfl,x,_,2,_,rfl,rfl,y!,C!,_,rfl,x,_,3,_,rfl,rfl,y!,C!,Cd! 2,Bx!⟩;have s1:=q? .AZ [V? g,Y! b] hc;have S1:=A4!;have c1:HE AE! c (g,tb):=⟨b,Ac,t? eb⟩;have YT:Ck! AE!:=wT (h.keep (HN s1));have bZ:=t? ec;generalize upd H c Dv!=H1 at s1 S1 c1 YT bZ;refine⟨F.co,_,_,rfl,rfl,bZ,Cn!,?_⟩;have S2:=S1.SG (Cu YT c1);rw[ZF] at S2;exact OF (OF (CW! S2 (SB (Jy BK! b o A0! n)))) | clean h =>have ex:Az! "clean" KE:=ex;have eN:N 0=F:=hN 0;refine Rs ?_;exact JT (OF (JT (JT (sB (CW! S BY!))))) | ask h =>have ex:Az! "ask" KE:=ex;have eN:N 0=F:=hN 0;refine Rs ?_;exact JT (OF (JT (JT (sB (CW! S BY!))))) | deliver n =>have ex:Az! "deliver" (S! n):=ex;have nm:∀h',Dd.deliver n≠.make h':=AN!;obtain⟨t,rfl,c⟩:=hN 0;refine Rs (JT (OF (JT (JT (JT (JT (gL ?_)))))));rcases c with⟨n',kind,sn,g,th,xx,q,j,⟨a,b,et,ea,eb⟩,kk,g0,hq,hj,RX,eN⟩|⟨n',sn,g,th,xx,⟨a,b,et,ea,eb⟩,ne,eN⟩|⟨kind,g,⟨n',sn,a,et⟩,n1,n2,eN⟩;(.obtain⟨cs,ec,pc⟩:=S.co;have fin:∀H',CC H' fl { F with BY:=BA!,BK:=AQ! g.toNat (q.1,Bj q.2 th) }->No->Q .E_ H':=Dj! (k 0 _ (H! nm) (Dr! S') fr);rcases kk with rfl|⟨rfl,eg⟩;(.refine kT et ?_;rw[Op];refine B7 ?_;refine⟨_,rfl,fl,_,rfl,S.a8,IR ec,_,rfl,t,_,3,_,rfl,rfl,h?,C!,_,rfl,t,_,4,_,rfl,rfl,h?,C!,a,_,0,_,rfl,rfl,X! ea,C!,Cd! 2,Bx!⟩;have s1:=q? .AZ [V? g,Y! b] hc;have S1:=A4!;have c1:HE AE! c wv:=⟨b,Ac,t? eb⟩;have YT:Ck! AE!:=wT (h.keep (HN s1));have bZ:=t? ec;generalize upd H c Dv!=H1 at s1 S1 c1 YT bZ;refine⟨F.co,c,wv,cs,F.BY,j,rfl,rfl,c1,bZ,YT,hj,RX,?_⟩;have S2:=S1.SG (D9 YT j);have JB:Bb! (Bg! H1 F.co A1!):=SB (Jy BK! b o A0! n);generalize upd H1 F.co (AM! A1!)=H2 at S2 JB;have kt:=JB.DL S;have iL:=AO! et;have qD:=As!;refine⟨_,rfl,_,rfl,t,_,3,_,rfl,rfl,X! iL,C!,_,rfl,t,_,4,_,rfl,rfl,X! iL,C!,a,_,0,_,rfl,rfl,X! qD,C!,fl,b,g,Dg! BA!,q,th,rfl,S2,NE,g0,hq,sz.BK q (ZP hq),Dj! ?_⟩;have MQ:No:=SB (fr b o (JB b o e n) n);exact gL (kT (MQ.DL S |>.AZ _ _ et) (C6! ZV By (fin _ S' MQ))));.have eg:=eg.symm;subst eg;refine kT et ?_;rw[sN ZV];refine By (gL (kT et ?_));rw[Op];refine B7 ⟨_,rfl,t,_,4,_,rfl,rfl,h?,C!,a,_,1,_,rfl,rfl,X! ea,C!,_,rfl,t,_,3,_,rfl,rfl,h?,C!,rfl,_,rfl,?_⟩;rw[Op];refine B7 ?_;refine⟨_,rfl,fl,_,rfl,S.a8,IR ec,_,rfl,t,_,3,_,rfl,rfl,h?,C!,_,rfl,t,_,4,_,rfl,rfl,h?,C!,a,_,0,_,rfl,rfl,X! ea,C!,Cd! 2,Bx!⟩;have s1:=q? .AZ [V? g,Y! b] hc;have S1:=A4!;have c1:HE AE! c wv:=⟨b,Ac,t? eb⟩;have YT:Ck! AE!:=wT (h.keep (HN s1));have bZ:=t? ec;generalize upd H c Dv!=H1 at s1 S1 c1 YT bZ;refine⟨F.co,c,wv,cs,F.BY,j,rfl,rfl,c1,bZ,YT,hj,RX,?_⟩;have S2:=S1.SG (D9 YT j);have JB:Bb! (Bg! H1 F.co A1!):=SB (Jy BK! b o A0! n);generalize upd H1 F.co (AM! A1!)=H2 at S2 JB;have kt:=JB.DL S;have iL:=AO! et;have qD:=As!;refine⟨_,rfl,_,rfl,t,_,3,_,rfl,rfl,X! iL,C!,_,rfl,t,_,4,_,rfl,rfl,X! iL,C!,a,_,0,_,rfl,rfl,X! qD,C!,fl,b,g,Dg! BA!,q,th,rfl,S2,NE,g0,hq,sz.BK q (ZP hq),Dj! ?_⟩;have MQ:No:=SB (fr b o (JB b o e n) n);exact fin _ S' MQ);(.exact kT et (C6! ZV gL (kT et (Z! Op (B7 ⟨_,rfl,t,_,4,_,rfl,rfl,h?,C!,a,_,1,_,rfl,rfl,X! ea,C!,_,rfl,t,_,3,_,rfl,rfl,h?,C!,rfl,_,rfl,F! (decide_eq_false (C4! V.int.inj)) (By (k 0 _ (H! nm) (Dr! S) BY!))⟩)))));.exact kT et (C6! n1 gL (kT et (C6! n2 By (CV! S BY!))))
universe E
theorem Jk8{a b c:Str}{cl:J! (Str×Addr)}{y:Str}(h:DK! ([CK!,CL!,(c,NameKind.local)]:J! Dk!).lookup ([CK!,CL!,(c,NameKind.local)]:J! Dk!).lookup):∃z,CJ! z :=Mr (λp hp hk=>by simp only[BU,DD,JM] at hp;rcases hp with rfl|rfl|rfl<;>rcases hk with hk|hk<;>cases hk) h
def wt(hl:HL)(R:M!):Nat:=(hl.map λq=>BI! (q.1∈R)).sum
theorem yl{t:T2}{R:M!}:∀{hl:HL},t∉R! hl.map->wt hl (b?)=wt hl R
 | [],_=>rfl
 | q::hl,h=>by have h1:¬o?:=CP! h z (ZL ..);have ih:=yl (R:=R) (hl:=hl) λz=>h (ZD _ z);unfold wt at *;rw[AI,CG,AI,CG,ih];(have e:(BI! (q.1∈b?))=BI! (q.1∈R):=by simp[h1]);rw[e]
theorem yk{t:T2}{R:M!}{a:Addr}{l:M!}:∀{hl:HL},F? hl.map->Bk! hl.find? l->t∉R->wt hl (b?)+l.length=wt hl R
 | [],_,h,_=>l? h
 | q::hl,nd,h,nr=>by have KA:=AM.mp nd;by_cases c:o?;(.rw[BN] at h;simp only[c,decide_true] at h;have e:q=(t,a,l):=ZO h;have o:=yl (R:=R) (hl:=hl) (t:=t) (U? c KA.1);unfold wt at *;rw[AI,CG,AI,CG,o,e,AD (ZC _ (DA.mpr rfl)),AB nr];simp only;lia);.rw[BN] at h;simp only[c,OQ] at h;have ih:=yk KA.2 h nr;unfold wt at *;rw[AI,CG,AI,CG];(have e:(BI! (q.1∈b?))=BI! (q.1∈R):=by simp[c]);rw[e];lia
theorem yJ:∀{hl:HL},(∀q∈hl,q.2.2.length<=100)->wt hl R<=hl.length*100
 | [],_=>o!
 | q::hl,h=>by have ih:=yJ (R:=R) (hl:=hl) (V! (h q (ZD _ hq)));have:=h q (ZL ..);unfold wt at *;rw[AI,CG,BF];split<;>lia
theorem zC(l:M!):WR (.list (l.map NR)):=by obtain⟨a,b⟩:=Yy Gb l;exact⟨by simp only[PyData.canLay0];exact a,by simp only[PyData.depth];lia⟩
universe S
variable {P:Program}{w:World}{K:W.Frag}{mg:Str->Option Value}{base:Heap}
theorem XR:I? [BX!,"_law_reached_here","_law_left",Bo!,"_law_thing"] Ac! Jb:={}
inductive Oh(vs:j!)(H:Hp)(Q:VK)(E:XK):Prop
 | mk (fl:Addr) (F:LO) (Pr:z?) (_:vs=[Ak!]) (_:N!) (_:F.BK.length<=12) (_:F.holds.length<=100) (_:(BW! (q.2.2.length<=100))) (_:Bs! (q.2.length<=100)) (_:F.BY.length<=400) (_:(∀y∈F.BY,Pr y.2)) (_:Bs! (∀t∈q.2,Pr t)) (_:(∀t,Pr t->∃a l,CT! l/\∀u∈l,Pr u)) (_:∀(x:Addr)(R:M!)(H':Hp),H x=none->S?->L! H' x (A8 R)->R.Nodup->(∀t∈R,Pr t)->Q (G! x) H')
theorem Wp(F':L? Dl! Dl! Jb):C9! Ac! Oh:=by
 refine wP XR;obtain⟨fl,F,Pr,rfl,S,zh,zo,zl,zq,zc,pc,ph,cl,k⟩:=h;refine v?;have hu:=Cf hr;refine xz 1 XR.nd Ds (Ad (Jd0 (te:=Bx 1) (i:=2) (caps:=[]) XR.nd rfl rfl rfl rfl (Do AR!) rfl ZV rfl ZV rfl rfl trivial (λy h=>Jk8 h) trivial ZV (λ_ _ _ _ _=>Jd) (Dm! (pv 1))) (Ad (BO! (Do AR!) (Ba! 3 XR.nd) (Bl! GB GA Ji A? P?)) (Ad (Ow PassesOwn.never (CG! Ud A? (Es Af)) (Ad (UV 4 XR.nd (J9 BB QC QB Y1 A?)) (Ae (Bf (D3 (Dv hu (pv 4) O?)) (Ad (B6 hu O? SL Fz rfl) (Bl! GB GA Ji A? (Cy! SL))) A4)))) (Ae (Ay (pv 1))))));intro ra oy;have s1:=q? .dT [] oy;have e1:L! (upd H ra lc) ra (A8 []):=Ac;generalize upd H ra lc=H1 at s1 e1;have S1:=A4!;obtain⟨cs,ec,uT⟩:=S1.co;have lcs:=Z? uT;refine⟨_,rfl,fl,_,rfl,S1.a8,F.co,rfl,CA! ec,λla VP=>?_⟩;have oB:H la=none:=by cases c:H la with | none=>rfl | some o=>rw[t? c] at VP;cases VP
 have fE:ra≠la:=λz=>by rw[<-z,e1] at VP;cases VP
 have s2:=x? VP;refine Zk (K:=K) (a:=F.co) (xs:=cs.map V.ref) (tt:=λ_ H Q=>Q true H) (te:=Bx 1) (caps:=[]) (σ:=[IN,i! ra,none,none,none]) (λi ys H2=>∃as,ys=CN!/\v6 la/\Bh H1 H2/\AW H2 as ((F.BY.take i).map (·.2))) ⟨[],rfl,Ac,s2,P!⟩ (λi ys H2 _ h=>by obtain⟨as,_,e,sm,_⟩:=h;exact⟨x! (sm _ _ ec),e⟩) ?_ ?_;.rintro i v ys H2 N hi ⟨as,rfl,el,sm,th⟩ hN;rw[ZH] at hi;cases lV:cs[i]? with | none=>rw[lV] at hi;cases hi | some c =>rw[lV] at hi;cases hi;(have pB:i<F.BY.length:=Is lcs lV);obtain⟨y,hy⟩:=Au pB;obtain⟨a,f1,f2⟩:=Aw uT i c y lV hy;have l1:=ga;rw[ZA,B'] at l1;refine⟨c,_,_,rfl,X! (sm _ _ f1),B7 ⟨_,rfl,el,Cn!,B! hN ⟨as++[a],Db ZF,Ac,By!,?_⟩⟩⟩;(.rw[Ab λz=>BJ! VP];exact B! sm e);.have kt:=E7 (o:=.BC (CN!++[Y! a])) el;rw[DS,hy,ZF];exact Cu (AW.keep kt th) (kt.AZ _ _ (sm _ _ f2))
 rintro ys H2 ⟨cq,rfl,el0,uB,tW⟩;rw[show(F.BY.take (cs.map V.ref).length)=F.BY by rw[ZA,lcs,BP]] at tW;have uD:Bh H H2:=Al s1 uB;have S2:=S.same uD;have fy:=B! uB e1;refine⟨_,rfl,fl,_,rfl,S2.MY,F.ha,rfl,CA! S2.ha,?_⟩;refine Dd! Io F.ha (F.BK.map A7!) (λi σ H3=>∃u3 as ts,σ=[IN,i! ra,i! la,u3,none]/\Bh H H3/\L! H3 ra (A8 [])/\CY! H3 as.map/\AW H3 as ts/\(∀t∈ts,Pr t)/\ts.length<=400+100*i) ⟨none,cq,_,rfl,uD,fy,el0,tW,h! (by obtain⟨y,hy,e⟩:=ZN ht;rw[<-e];exact pc y hy),BV! ZA⟩ (λi σ H3 _ h=>by obtain⟨_,_,_,_,sm,_⟩:=h;exact x! (S.same sm).ha) ?_;.rintro i v σ H3 hi ⟨u3,as,ts,rfl,sm,er,el,th,pr,z⟩;rw[ZH] at hi;cases hq:F.BK[i]? with | none=>rw[hq] at hi;cases hi | some q =>rw[hq] at hi;cases hi;have mq:=ZP hq;have SE:i<F.BK.length:=(ZJ hq).1;have S3:=S.same sm;obtain⟨bs,eb,tb⟩:=S3.hn q mq;have l1:=ga;have l2:=Z? tb;have z2:=zq q mq;refine⟨_,rfl,CM!,_,rfl,la,q.1,_,_,rfl,rfl,el,eb,EF (Ed (by rw[ZA,ZA];lia)),?_⟩;rw[<-ZF];have kt:=xL (as++bs).map el;exact⟨_,as++bs,ts++q.2,rfl,AB! oB sm,O! fE er,Ac,Hj (AW.keep kt th) (AW.keep kt tb),h! ((ZI ht).elim (pr t) (ph q mq t)),BV! ZE⟩
 rintro σ H3 ⟨u3,JV,ts1,rfl,sm1,er1,el1,gU,pr1,z1⟩;rw[ZA] at z1;have w0:=yJ (R:=[]) zl;refine⟨λm σ H'=>∃(left R:M!)(IB:Ix)(u3 u4:Av!),σ=[IN,i! ra,i! la,u3,u4]/\S?/\L! H' ra (A8 R)/\CY! H' IB.map/\AW H' IB left/\R.Nodup/\(∀t∈left,Pr t)/\(∀t∈R,Pr t)/\left.length+wt F.holds R=m/\R.length+m<=40000,⟨_,ts1,[],JV,u3,_,rfl,sm1,er1,el1,gU,CK,pr1,(h! (l? ht)),rfl,by have:([]:M!).length=0:=rfl;lia⟩,?_⟩;rintro m σ H' ⟨left,R,IB,u3',u4,rfl,sh,ef,QH,R_,nd,uQ,gZ,em,zm⟩;have lz:=Z? R_;refine c? rfl (BE _) (λp hp=>?_);have sp:=x? hp;have ep:B1! (upd H' p Y?) p:=Ac;have ef:=B! sp ef;have QH:=B! sp QH;have R_:=AW.keep (HN sp) R_;have sh:=Al sh sp;generalize upd H' p Y?=H4 at sp ep ef QH R_ sh;refine⟨_,_,.BC (DU.of QH) (Fj R_),.BC (DU.of ep) P!,zC _,zC [],?_⟩;refine GE ?_;rw[Ly];rcases List.eq_nil_or_concat left with e0|⟨a,t,e0⟩;.rw[e0];exact By (GE (k ra R H4 oy sh ef nd gZ))
 .rw[List.concat_eq_append] at e0;rw[e0] at R_ ⊢;(have kW:left.length=a.length+1:=by rw[e0,ZE];rfl);rw[show(!((a++[t]).map NR).isEmpty)=true by cases a<;>rfl];obtain⟨IA,c,e2,gR,ec'⟩:=Ob R_;subst e2;(have em2:(IA++[c]).map V.ref=IA.map V.ref++[Y! c]:=Db ZF);rw[em2] at QH;refine B7 ⟨_,λER H' h=>⟨m-1,E!,h⟩,?_⟩;refine⟨_,rfl,IR QH,la,_,_,rfl,rfl,QH,U0 _ _,?_⟩;rw[show(IA.map V.ref++[Y! c]).dropLast=IA.map V.ref by simp];(have s3:Bh H DO!:=AB! oB sh);have QG:=xL IA.map QH;(have QN:L! DO! ra (A8 R):=O! fE ef);have XC:CY! DO! IA.map:=Ac;have PM:AW DO! IA a:=AW.keep QG gR;have UX:=B! QG.AZ ec';generalize upd H4 la (AM! IA.map)=H3 at s3 QG QN XC PM UX;have uR:∀u∈a,Pr u:=λu hu=>uQ u (Z! e0 (ZB _ hu));have uP:Pr t:=uQ t (Z! e0 (ZC _ (DA.mpr rfl)));refine⟨_,rfl,_,rfl,ra,_,rfl,Fn QN UX,_,rfl,?_⟩;by_cases hf:t∈R;(.rw[AD hf];exact By ⟨a,R,IA,_,_,rfl,s3,QN,XC,PM,nd,uR,gZ,E!,E!⟩);.rw[AB hf];refine B7 ⟨_,rfl,_,rfl,ra,_,rfl,F_.t (k:=tk t) QN UX (Z! ZA (FM Ed)),?_⟩;rw[Et,show Bj R t=b? by unfold Bj;rw[AB hf]];(have s4:Bh H BM!:=AB! oy s3);(have LA:BW H3 BM!:=OI λo' e=>by rw[QN] at e;cases e;exact C2!);have TB:L! BM! ra (A8 (b?)):=Ac;(have SF:CY! BM! IA.map:=O! fE.symm XC);have PL:AW BM! IA a:=AW.keep LA PM;have bY:=B! LA.AZ UX;rw[show HO.dT ((b?).map λq=>(tk q,V.bl true))=A8 (b?) from rfl];generalize upd H3 ra (A8 (b?))=H5 at s4 LA TB SF PL bY;obtain⟨ad,l,aV,prl⟩:=cl t uP;have S5:=S.same s4;have mq:=AJ aV;obtain⟨ds,ed,td⟩:=S5.hl _ mq;have ed:D0! H5 ad ds.map:=ed;have td:AW H5 ds l:=td;have wn:=yk S.nk aV hf;have l1:=Z? PL;have l2:=Z? td;refine⟨_,rfl,IR SF,_,rfl,fl,_,rfl,S5.OA,_,rfl,F.hd,_,rfl,S5.at aV bY,la,ad,_,_,rfl,rfl,SF,ed,EF (Ed (by rw[ZA,ZA];lia)),?_⟩;rw[<-ZF];have WY:=xL (IA++ds).map SF;refine⟨a++l,b?,IA++ds,_,_,rfl,AB! oB s4,O! fE TB,Ac,Hj (AW.keep WY PL) (AW.keep WY td),?_,λu hu=>(ZI hu).elim (uR u) (prl u),λu hu=>?_,?_,?_⟩;(.refine DG! nd (hf ?_);rw[<-ZK hv,<-z];exact hu);(.rcases ZI hu with hu|hu;(.exact gZ u hu);.rw[ZK hu];exact uP);(.rw[ZE];lia);.rw[ZE];show R.length+1+(m-1)<=40000;lia
universe E
universe S
variable {D:T2->Prop}{m n:Nat}{sh:Int}{qs:List (Addr×BX)}{ls:List LT}{t:T2}
theorem Wg.nn(x:E?)(na:¬VX qs t){j:Nat}{r:Addr×BX}(e:qs[j]?=A! r):LB t r.2=Ai r.2.AN t/\0<=LB t r.2:=by have h1:Ai r.2.AH t=0:=Ep λz=>na ⟨j,r.1,r.2,e,z⟩;have h2:=Il (x.wl.sd j r.1 r.2 e).1.nn t;unfold LB;rw[h1];exact⟨E!,E!⟩
theorem Wg.j6(x:E?)(nD:¬D t){l:LT}(hl:l∈ls)(e:l.th=t):VX qs t:=by refine Classical.byContradiction λna=>?_;have h1:=Od x.wl.ok hl;rw[e] at h1;have h2:=Nu (t:=t) (l:=qs) λj r ej=>(x.nn na ej).2;have h3:=x.wl.sum t (D! nD);lia
theorem Wg.j7(x:E?)(nD:¬D t){j:Nat}{q:Addr}{G:BX}(hj:H?)(h:QJ G t):VX qs t:=by
 obtain⟨s,nu⟩:=x.BL hj;by_cases c:C0!;.refine⟨j,q,G,hj,?_⟩;rcases h with h|⟨r,hr,h⟩;(.exact s.ok.hk t h (Z! nu c));.exact s.ok.lk r hr t h (Z! nu c)
 rcases x.rc j q G hj t h c with h1|⟨l,hl,e,_⟩;.refine Classical.byContradiction λna=>?_;have h2:=So (t:=t) hj λi r ei _=>(x.nn na ei).2;have h4:=(x.nn na hj).1;have h4:LB t G=Ai G.AN t:=h4;have h5:=Kr (t:=t) x.wl.ok;have h3:=x.wl.sum t (D! nD);have h2:LB t G<=Gc t qs:=h2;lia
 .exact x.j6 nD hl e
theorem Wg.XS(x:E?){j:Nat}{q:Addr}{G:BX}(hj:H?)(h:t∈bv):C0!/\t.2<G.AU:=by obtain⟨s,nu⟩:=x.BL hj;have:=s.ok.new t h;rw[nu] at this;exact this
universe E
structure FD(F:LO)(qs:An!)(ls:List LT):Prop where
 BK:wp=qs.map λq=>q.2.hand
 holds:∀(j:Nat) q G,H?->∀t∈bv,∃a,CT! (Bn G.holds t)
 BY:F.BY.Perm (Di ls)
 old:∀t∈u?,∃(j:Nat)(q:Addr)(G:BX),H?/\C0!/\t.2<G.AU
theorem Jfp{y:g!}(h:y∈Di ls):∃l∈ls,l.th=y.2/\l.kind≠"back":=by
 obtain⟨l,hl,h⟩:=CV.mp h;refine⟨l,hl,?_⟩;unfold Iu at h;by_cases c:l.kind=AC;.rw[AD c] at h;rw[ZK h,c];exact p? ZV
 .rw[AB c] at h;by_cases c2:l.kind=UF;(.rw[AD c2] at h;rw[ZK h,c2];exact p? ZV);.rw[AB c2] at h;cases h
universe S
variable {D:T2->Prop}{m n:Nat}{sh:Int}{qs:List (Addr×BX)}{ls:List LT}{F:LO}
def Pr(D:z?)(qs:An!)(t:T2):Prop:=¬D t/\VX qs t
theorem FD.SG(x:k?)(g:E?):∀y∈F.BY,Pr D qs y.2:=λy hy=>by obtain⟨l,hl,e,nb⟩:=Jfp (x.BY.mem_iff.mp hy);(have nD:¬D y.2:=U? e (g.sD.RF l hl nb));exact⟨nD,g.j6 nD hl e⟩
theorem FD.hand(x:k?)(g:E?):∀q∈F.BK,∀t∈q.2,Pr D qs t:=λq hq t ht=>by have:q.2∈wp:=AF.mpr i?;rw[x.BK] at this;obtain⟨r,hr,e⟩:=ZN this;obtain⟨j,hj⟩:=CB.mp hr;(have ht:t∈r.2.hand:=F! e ht);have nD:=g.sD.hand j r.1 r.2 hj t ht;exact⟨nD,g.j7 nD hj (D! ht)⟩
theorem FD.closed(x:k?)(g:E?):∀t,Pr D qs t->∃a l,CT! l/\∀u∈l,Pr D qs u:=λt h=>by obtain⟨nD,j,q,G,hj,ho⟩:=h;obtain⟨a,hf⟩:=Cz! hj ho;refine⟨a,_,hf,λu hu=>?_⟩;obtain⟨r,hr,e,hm⟩:=Lr hu;have nU:¬D u:=CP! nD e (g.sD.hold j q G hj r hr u hm z);exact⟨nU,g.j7 nU hj (H! ⟨r,hr,hm⟩)⟩
theorem FD.chg{F':LO}{K_:List LT}{j:Nat}{q:Addr}{G G':BX}(x:k?)(g:E?)(hi:H?)(md:G.AU<=G'.AU)(hh:F'.BK.map (·.2)=(F.BK.map (·.2)).set j G'.hand)(ho:∀t∈R! G'.AH.map,∃a,Bk! F'.holds.find? (Bn G'.holds t))(hk:∀t,t.1≠(j:Int)->AP! F'.holds.find?=AP! F.holds.find?)(hc:F'.BY.Perm (Di K_))(od:∀t∈R! F'.holds.map,t∈u?\/(C0!/\t.2<G'.AU)):FD F' (BN! G') K_:=by
 refine⟨by rw[hh,x.BK,List.map_set],λi r G2 e t ht=>?_,hc,h! ?_⟩;.rcases Ew e with⟨_,rfl,_⟩|⟨ne,e2⟩;(.exact ho t ht);.rw[hk t (BH! (g.XS e2 ht).1)];exact x.holds i r G2 e2 t ht
 .have lj:j<qs.length:=(ZJ hi).1;rcases od t ht with h|⟨h1,h2⟩;(.obtain⟨i,r,G2,e,e1,e2⟩:=x.old t h;by_cases c:i=j;(.subst c;rw[hi] at e;cases e;exact⟨i,_,_,by rw[EW,ci,AD lj],e1,E!⟩);.exact⟨i,r,G2,FB EW (AB (λz=>c z.symm)) e,e1,e2⟩);.exact⟨j,_,_,by rw[EW,ci,AD lj],h1,h2⟩
universe E
theorem Xu[DecidableEq α]{y:α}:∀{l:List α},y∈l->∃j:Nat,l[j]?=A! y/\(∀(m:Nat) z,m<j->l[m]?=A! z->z≠y)/\l.Perm (y::l.eraseIdx j)
 | a::l,h=>by by_cases c:a=y;(.exact⟨0,Db c,λm z hm=>absurd hm (Nat.not_lt_zero _),F! c (.refl _)⟩);.obtain⟨j,h1,h2,h3⟩:=Xu ((ZM h).resolve_left λz=>c z.symm);refine⟨j+1,h1,λm z hm e=>?_,(h3.cons a).trans (List.Perm.swap y a _)⟩;cases m with | zero =>(have e:a=z:=by simpa using e);rw[<-e];exact c | succ m=>exact h2 m z (E!) (by simpa using e)
theorem Jm(l:HL)(ta:T2)(v:M!)(t:T2):AP! (Cw l ta v).find?=(l.find? λq=>n? o?).map λq=>j? WF v:=by unfold Cw;rw[LY];refine congrArg _ (congrArg (λp=>List.find? p l) (funext λq=>?_));show n? ((j? WF v).1=t)=n? o?;split<;>rfl
theorem find_key{l:HL}(h:Dq! l.find? q):o?:=by simpa using DO h
theorem Xr{l:HL}(ne:t≠ta):Bn (Cw l ta v) t=Bn l t:=by unfold Bn;rw[Jm];cases e:Uf l.find? with | none=>rfl | some q =>have:=find_key e;show((j? WF v).2.2)=q.2.2;rw[B0! AB this ne]
theorem Xs{l:HL}(h:t∈R! l.map):Bn (Cw l t v) t=v:=by unfold Bn;rw[Jm];cases e:Uf l.find? with | none =>obtain⟨q,hq,e2⟩:=ZN h;have:=AY.mp e q hq;simp[e2] at this | some q =>have:=find_key e;show((j? o? v).2.2)=v;rw[AD this]
theorem Jfa{l:HL}{tm:T2}{a0:Addr}(nt:tm∉R! l.map):Bn (l++[(tm,a0,[])]) t=Bn l t:=by unfold Bn;rw[FU];cases e:Uf l.find? with | some q=>rfl | none =>by_cases c:tm=t;(.simp[c]);.simp[c]
universe S
variable {D:T2->Prop}{m n:Nat}{sh:Int}{qs:List (Addr×BX)}{ls K_:List LT}{F:LO}{j:Nat}{q:Addr}{G G':BX}
theorem FD.at(x:k?)(hi:H?):∃b,F.BK[j]?=A! (b,G.hand):=by
 have:(F.BK.map (·.2))[j]?=A! G.hand:=by rw[x.BK,ZH,hi];rfl
 rw[ZH] at this;cases e:F.BK[j]? with | none=>rw[e] at this;cases this | some p =>rw[e] at this;exact⟨p.1,by rw[<-show p.2=G.hand from ZO this]⟩
theorem FD.less(x:k?)(g:E?)(hi:H?)(l:Nq G G')(hc:cm.Perm (Di K_)):FD { F with BK:=AQ! j (b,G'.hand),BY:=cm } (BN! G') K_ :=x.chg g hi (Z! l.AU (A' _)) (List.map_set ..) (h! (F! (l.holds t ht) (Cz! hi (l.AH t ht)))) (λ_ _=>rfl) hc (h! (D! ht))
theorem FD.SO(x:k?)(g:E?)(hi:H?)(l:Nq G G')(e:G'.hand=G.hand)(hc:cm.Perm (Di K_)):FD { F with BY:=cm } (BN! G') K_:=by obtain⟨b,hb⟩:=o0;have:=x.less (b:=b) g hi l hc;rw[e,Kx hb] at this;exact this
theorem FD.bw(x:k?)(g:E?)(hi:H?)(ho:ta∈bv)(v:M!):FD (D4! v) (BN! (IM { G with holds:=Cw G.holds ta v })) ls:=by
 obtain⟨s,nu⟩:=Aw!;refine x.chg g hi (A' _) ?_ (h! ?_) (λt ne=>?_) x.BY (h! (D! ?_));.show wp=(F.BK.map (·.2)).set j G.hand;obtain⟨b,hb⟩:=o0;rw[Kx (e? hb)]
 .obtain⟨a,hf⟩:=Cz! hi ht;show ∃a,Bk! (Cw F.holds ta v).find? (Bn (Cw G.holds ta v) t);refine⟨a,?_⟩;rw[Jm,hf];by_cases c:t=ta;(.subst c;rw[B0! Xs s.ok.ke ht];show A! (if t=t then(t,a,v) else _)=_;rw[ci]);.rw[Xr c];show A! (if t=ta then(t,a,v) else(t,a,Bn G.holds t))=_;rw[AB c]
 .show AP! (Cw F.holds ta v).find?=_;rw[Jm];cases e:Uf F.holds.find? with | none=>rfl | some p =>have:=find_key e;show A! (if p.1=ta then(p.1,p.2.1,v) else p)=A! p;rw[AB λz=>ne (by rw[<-this,z];exact(g.XS hi ho).1)]
 .have ht:t∈R! (Cw F.holds ta v).map:=ht;(have e:R! (Cw F.holds ta v).map=u?:=by unfold Cw;rw[AL];refine BM λq _=>?_;show(j? WF v).1=_;split<;>rfl);rw[e] at ht;exact ht
theorem FD.dZ(x:k?)(g:E?)(hi:H?)(a a0:Addr):Q!∉u?/\FD { F with holds:=F.holds++[(Q!,a,[])],BK:=AQ! j (b,G.hand++[Q!]) } (BN! (IM (UR G a0))) ls:=by
 obtain⟨s,nu⟩:=Aw!;have nt:Q!∉u?:=λz=>by obtain⟨i,r,G2,e,e1,e2⟩:=x.old _ z;have e1:G.BL=C?:=e1;(have:i=j:=E!);subst this;rw[hi] at e;cases e;have e2:G.AU<G.AU:=e2;lia
 have nG:Q!∉R! G.holds.map:=λz=>by rw[s.ok.ke] at z;have:=(s.ok.new _ z).2;have this:G.AU<G.AU:=this;lia
 refine⟨nt,x.chg g hi (by show G.AU<=G.AU+1;lia) (List.map_set ..) (h! ?_) (λt ne=>?_) x.BY (h! ?_)⟩;.have ht:t∈(G.AH++[(Q!,(0:Int))]).map (λq:T2×Int=>q.1):=ht;show ∃a',Dq! (cr (Q!,a,[])).find? (t,a',Bn (G.holds++[(Q!,a0,[])]) t);rw[Jfa nG,FU];rw[ZF] at ht;rcases ZI ht with h|h;(.obtain⟨a',hf⟩:=Cz! hi h;exact⟨a',Db hf⟩);·(have e:t=Q!:=by simpa using h);subst e;(have n1:C7! (q.1=Q!)=none:=AY.mpr λz hz=>by have:¬z.1=Q!:=λc=>nt (AF.mpr ⟨z,hz,c⟩);simpa using this);(have n2:Bn G.holds Q!=[]:=by unfold Bn;rw[AY.mpr λz hz=>by have:¬z.1=Q!:=λc=>nG (AF.mpr ⟨z,hz,c⟩);simpa using this];rfl);exact⟨a,by rw[n1,n2];simp⟩
 .show AP! (cr (Q!,a,[])).find?=_;rw[FU];have:¬Q!=t:=CP! ne z nu;cases Uf F.holds.find? with | some p=>rfl | none=>simp[this]
 .have ht:t∈B5! (cr (Q!,a,[])).map:=ht;rw[ZF] at ht;rcases ZI ht with h|h;(.exact D! h);·(have e:t=Q!:=by simpa using h);rw[e];exact U! ⟨nu,by show G.AU<G.AU+1;lia⟩
universe E
theorem Jbw{W:ca}(nd:F? W.map)(e1:W=l1++(k,t)::l2)(e2:W=l3++(k,u)::l4):t=u:=by
 have m1:(k,t)∈W:=F! e1 (ZC _ N?)
 have m2:(k,u)∈W:=F! e2 (ZC _ N?)
 obtain⟨i,hi⟩:=CB.mp m1;obtain⟨j,hj⟩:=CB.mp m2;have a1:(W.map J?)[i]?=A! k:=e? hi
 have a2:(W.map J?)[j]?=A! k:=e? hj
 obtain⟨p1,g1⟩:=ZJ a1;obtain⟨p2,g2⟩:=ZJ a2;have e:=DH! nd;rw[e,hj] at hi;cases hi;rfl
theorem Jhu(a b:B?)(l:LT):(Di (EH (a++.w l::b))).Perm (Iu l++AD! (a++b)):=by
 have e:EH (a++.w l::b)=EH a++l::EH b:=Db Cg
 rw[e,Cg,Ej,Ej];show(AD! a++(Iu l++AD! b)).Perm (Iu l++(AD! a++AD! b));rw[<-AQ,<-AQ];exact List.perm_append_comm.append_right _
universe S
variable {K:W.Frag}{D:T2->Prop}{m n:Nat}{sh:Int}{F:LO}{W W':FK}{al al':List LL}{H H1:Hp}
theorem Jg9(x:FD F W.qs (EH al))(g:Wg D m n sh W.qs (EH al))(lH:F? W.ls.map)(kt:BW H H1)(va:Val W m H dd)(ef:qu K W al H v W' al' H1 dd)(hl:∀BL,dd=.deliver BL->∃l1 l2 t,W.ls=l1++(BL,t)::l2/\lv=bn) : ∃N:Addr->LO,∀a,Dc! H1 v (N a)/\FD (N a) W'.qs (EH al'):=by cases dd with | make h =>obtain⟨cj,G,t,a0,⟨q,hi,eW⟩,rfl,et⟩:=ef;obtain⟨q',G',i⟩:=va;obtain⟨b,hb⟩:=o0;refine⟨λa=>{ F with holds:=F.holds++[(Q!,a,[])],BK:=Dw! (b,G.hand++[Q!]) },λa=>?_⟩;obtain⟨nt,r⟩:=x.dZ (b:=b) g hi a a0;exact⟨⟨t,_,(b,G.hand),rfl,et,i.1,hb,nt,rfl⟩,FB eW cj r⟩ | three w h a b =>obtain⟨cj,G,ta,tb,ea,eb,ha,hn,c⟩:=ef;obtain⟨q',G',_,_,i,_⟩:=va;rcases c with⟨rfl,q,hi,eW⟩|⟨rfl,hb,q,hi,eW⟩|⟨rfl,q,hi,eW⟩;(.obtain⟨s,nu⟩:=Aw!;have ho:=s.ok.hk ta ha hn;obtain⟨aa,hf⟩:=x.holds _ q G hi ta ho;exact Cg! (Ch! Bj (Bn G.holds ta)) ⟨ta,tb,As!,NE,D! ⟨rfl,aa,_,hf,rfl⟩⟩ (x.bw g hi ho _));(.obtain⟨s,nu⟩:=Aw!;have ho:=s.ok.hk ta ha hn;obtain⟨aa,hf⟩:=x.holds _ q G hi ta ho;exact Cg! (Ch! E2 (Bn G.holds ta)) ⟨ta,tb,As!,NE,Ay! ⟨rfl,aa,_,hf,hb,(s.ok.get ta).1,rfl⟩⟩ (x.bw g hi ho _));(.obtain⟨b',H_⟩:=o0;(exact Cg! (Ah! (b',Bj G.hand tb)) ⟨ta,tb,As!,NE,H! (H! ⟨rfl,i.1,_,H_,rfl⟩)⟩ (x.less (b:=b') (G':=Lz G tb) g hi ⟨rfl,rfl,λ_ h=>h,λ_ _=>rfl⟩ x.BY))) | free h b =>obtain⟨cj,G,tb,eb,hb,q,hi,eW⟩:=ef;obtain⟨q',G',_,i,_⟩:=va;obtain⟨s,nu⟩:=Aw!;obtain⟨b',H_⟩:=o0;(exact Cg! (Ah! (b',E2 G.hand tb)) ⟨tb,_,NE,i.1,H_,hb,s.ok.hn,rfl⟩ (x.less (b:=b') (G':=L0 G tb) g hi ⟨rfl,rfl,λ_ h=>h,λ_ _=>rfl⟩ x.BY)) | send h g' b =>obtain⟨G,G',tb,eb,⟨q,hi,eW⟩,eh,le,SG⟩:=ef;(exact⟨λ_=>Dg! (F.BY++[(g',tb)]),λ_=>⟨k! tb NE,BU! (x.BY.append_right _)⟩⟩) | clean h =>obtain⟨G,G',⟨q,hi,eW⟩,eh,le,SG⟩:=ef;exact⟨λ_=>F,λ_=>p? (BU! x.BY)⟩ | ask h=>exact⟨λ_=>F,λ_=>p? (FB ef.1 ef.2 x)⟩ | deliver BL =>obtain⟨l1,l2,t,a,z,b,el,es,p1,p2,p3,ez⟩:=ef;obtain⟨l3,l4,t',el',rfl⟩:=hl BL rfl;have et:=Jbw lH el' el;subst et;cases z with | w l =>(have hm:l∈EH al:=FB es Cg (ZC _ N?));obtain⟨g0,g1,_,kk⟩:=g.wl.ok l hm;have p2:IZ H1 t' BL l.kind l.s l.g l.th l.x:=IZ.keep p2 kt;obtain⟨G,G',⟨q,hi,eW⟩,le,c⟩:=ez;(have cp:F.BY.Perm (Iu l++AD! (a++b)):=by have:=x.BY;rw[es] at this;exact this.trans (Jhu a b l));rcases c with⟨k1,eh,SG⟩|⟨k1,ne,eh,SG⟩|⟨k1,k2,eh,SG⟩;(·(have iQ:Iu l=[(l.g,l.th)]:=by unfold Iu;rcases k1 with k1|⟨k1,k2⟩;(.rw[AD k1]);.rw[k1,AB ZV,ci,k2]);rw[iQ] at cp;obtain⟨j,hj,RX,pe⟩:=Xu (cp.mem_iff.mpr N?);(have ce:(F.BY.eraseIdx j).Perm (Di (EH al')):=by rw[SG];exact(pe.symm.trans cp).cons_inv);obtain⟨b',H_⟩:=o0;exact⟨λ_=>{ F with BY:=BA!,BK:=AQ! l.g.toNat (b',Bj G.hand l.th) },λ_=>⟨⟨t',rfl,D! ⟨BL,l.kind,l.s,l.g,l.th,l.x,_,j,p2,k1,g0,H_,hj,RX,rfl⟩⟩,by rw[eW,<-eh];exact x.less (b:=b') g hi le ce⟩⟩);(·(have iQ:Iu l=[(l.x,l.th)]:=by unfold Iu;rw[k1,AB ZV,ci]);rw[iQ] at cp;exact⟨λ_=>F,λ_=>⟨⟨t',rfl,Ay! ⟨BL,l.s,l.g,l.th,l.x,U? k1 p2,ne,rfl⟩⟩,BU! (cp.trans FH)⟩⟩);·(have iQ:Iu l=[]:=by unfold Iu;rw[AB k1,AB k2]);rw[iQ] at cp;obtain⟨a1,b1,q1,_⟩:=p2;exact DI! l.kind l.g q1 k1 k2 (BU! cp) | ask s g' n' u =>obtain⟨a1,q1,_⟩:=p2;exact DI! "ask" g' (AO! q1) ZV ZV (FB ez.1 ez.2 x) | MJ s g' n' u tk S =>obtain⟨⟨a1,q1,_⟩,_⟩:=p2;exact DI! "answer" g' (AO! q1) ZV ZV (FB ez.1 ez.2 x) | lt s g' ts =>obtain⟨a1,JV,q1,_⟩:=p2;obtain⟨⟨j,G,G',⟨q,hi,eW⟩,eh,le⟩,SG⟩:=ez;exact DI! "let" g' (AO! q1) ZV ZV (BU! x.BY)
universe E
structure XG(F:LO)(n:Nat):Prop where
 a:F.holds.length<=n
 b:BW! (q.2.2.length<=n)
theorem XG.up(x:XG F n):XG F (n+1):=⟨FR x.a,V! (FR (x.b q hq))⟩
theorem XG.set(x:XG F n)(hv:v.length<=n+1):XG (D4! v) (n+1):=by
 refine⟨?_,V! ?_⟩;.show(Cw F.holds ta v).length<=n+1;unfold Cw;rw[ZA];exact x.up.a
 .have hq:q∈Cw F.holds ta v:=hq;rcases Jj hq with⟨_,e⟩|h;(.rw[e];exact hv);.exact x.up.b q h
theorem XG.note{a:Addr}(x:XG F n)(h:Dc! H mv F'):XG F' (n+1):=by cases dd with | make h' =>obtain⟨t,tm,q,_,_,_,_,_,rfl⟩:=h;refine⟨by show(F.holds++[_]).length<=n+1;rw[ZE];exact Nat.succ_le_succ x.a,V! ?_⟩;have hq:q∈wS:=hq;rcases ZI hq with h|h;(.exact x.up.b q h);.rw[ZK h];exact BE _ | three w h' a' b' =>obtain⟨ta,tb,_,_,c⟩:=h;rcases c with⟨_,aa,l,hf,rfl⟩|⟨_,aa,l,hf,_,_,rfl⟩|⟨_,_,q,_,rfl⟩;(.have:=x.b _ (AJ hf);have:l.length<=n:=this;exact x.set (BH! (G7 l tb)));(.have:=x.b _ (AJ hf);have:l.length<=n:=this;exact x.set (by have:(E2 l tb).length<=l.length:=AV _ _;lia));.exact C1! | free h' b'=>obtain⟨_,_,_,_,_,_,_,rfl⟩:=h;exact C1! | send h' g' b'=>obtain⟨_,_,rfl⟩:=h;exact C1! | clean h'=>have h:F'=F:=h;rw[h];exact x.up | ask h'=>have h:F'=F:=h;rw[h];exact x.up | deliver k =>obtain⟨_,_,c⟩:=h;rcases c with⟨_,_,_,_,_,_,_,_,_,_,_,_,_,_,rfl⟩|⟨_,_,_,_,_,_,_,rfl⟩|⟨_,_,_,_,_,rfl⟩;(.exact C1!);(.exact x.up);.exact x.up
theorem Jhv(ls:List LT):(Di ls).length<=ls.length:=by induction ls with | nil=>exact o! | cons l ls ih =>show(Iu l++Di ls).length<=ls.length+1;(have:(Iu l).length<=1:=by unfold Iu;split;(.exact o!);.split<;>simp);rw[ZE];lia
structure Bt(CW C CP CI:Addr)(K:W.Frag)(H:Hp)(p:Addr)(W:FK)(D:z?)(m n:Nat)(al:B?)(ys:KB)(fl:Addr)(F:LO):Prop where
 wi:BS!
 fa:N!
 fr:FD F W.qs (EH al)
 fn:XG F n
 off:Ad! (Ae!/\BC!)
universe S
variable {CW C CP CI p fl:Addr}{K:W.Frag}{H H':Hp}{W W':FK}{D D':T2->Prop}{m n:Nat}{al al':List LL}{ys UM:List Qy}{F F':LO}
theorem Bt.BK(x:AI!):F.BK.length=m/\(∀q∈F.BK,q.2.length<=n)/\F.BY.length<=n:=by
 have e:=x.fr.BK;refine⟨?_,V! ?_,?_⟩;.have:=congrArg List.length e;rw[ZA,ZA,x.wi.wg.wl.len] at this;exact this
 .have:q.2∈wp:=AF.mpr i?;rw[e] at this;obtain⟨r,hr,e2⟩:=ZN this;obtain⟨j,hj⟩:=CB.mp hr;have:=(x.wi.wg.BL (q:=r.1) (G:=r.2) hj).1.ok.hz;rw[<-e2];exact this
 .rw[x.fr.BY.length_eq];exact BA (Jhv _) x.wi.len.2
theorem Bt.sz(x:AI!)(hn:n<=60):zk F:=by obtain⟨_,h2,h3⟩:=x.BK;exact⟨DM! h2,by have:=x.fn.a;lia,DM! x.fn.b,E!⟩
theorem WI.kJ(x:BS!)(k:Co! (b∈Bv p W\/b∈ys.flatMap Cy) R?)(kt:ii):Bf! H' D n al ys :={ x with wa:=x.wa.keep (Bv! k (D! hb) e),lw:=Dx x.lw kt,at_:=λy hy=>(x.at_ y hy).keep (Bv! k (H! (CV.mpr ⟨y,hy,hb⟩)) e) kt }
theorem WI.DL(x:BS!)(f:ia p W ys H H'):ii:=by
 have no:∀b o,R?->((∃xs,o=.AZ xs)\/∃ob u,o=.GF ob u)->Ae!/\BC!:=λb o e c=>by refine Os ?_ ?_;(.obtain⟨o',e',h1,h2⟩:=x.wa.some_at z;rw[e] at e';cases e';rcases c with⟨xs,c⟩|⟨ob,u,c⟩;(.exact h1 _ c);.exact B! h2 c);.obtain⟨y,hy,hb⟩:=CV.mp z;obtain⟨o',e',h1,_,h2⟩:=(x.at_ y hy).has hb;rw[e] at e';cases e';rcases c with⟨xs,c⟩|⟨ob,u,c⟩;(.exact h1 _ c);.exact B! h2 c
 exact⟨λa xs e=>f a _ e (no a _ e (D! ⟨xs,rfl⟩)).1 (no a _ e (D! ⟨xs,rfl⟩)).2,λa o u e=>f a _ e (no a _ e (H! (k! o u))).1 (no a _ e (H! (k! o u))).2⟩
theorem Bt.same(x:AI!)(s:S?):Du! H' D n al ys:=⟨x.wi.same s,x.fa.same s,x.fr,x.fn,x.off⟩
theorem Bt.kA(x:AI!)(wf:ia p W ys H H')(fp:Fp p W ys W' UM H):Cc!/\(Ad! (b∉Bv p W'/\b∉UM.flatMap Cy)):=by
 refine⟨x.fa.keep (λb o hb e=>wf b o e (x.off b hb).1 (x.off b hb).2) (x.wi.DL wf),v! ?_⟩;obtain⟨o,e,_⟩:=x.fa.has hb;have no:¬(b∈Bv p W'\/b∈UM.flatMap Cy):=λz=>by rcases fp b z with h|h|h;(.exact(x.off b hb).1 h);(.exact(x.off b hb).2 h);.rw[e] at h;cases h
 exact Os (no (D! z)) (no (H! z))
theorem Jnl(wi:BS!)(fa:N!)(off:Ad! (Ae!/\BC!))(ff:No)(lq:CC H' fl F')(fr':FD F' W.qs (EH al))(fn':XG F' n)(sub:∀b∈Aq!,Af!\/a? H):Bt CW C CP CI K H' p W D m n al ys fl F':=by
 refine⟨wi.kJ (Bv! ff e (λz=>?_)) (ff.DL fa),lq,fr',fn',v! ?_⟩;.rcases hb with h|h;(.exact(off b z).1 h);.exact(off b z).2 h
 .rcases sub b hb with h|h;(.exact off b h);.refine Os ?_ ?_;(.obtain⟨o,e,_⟩:=wi.wa.some_at z;rw[h] at e;cases e);.obtain⟨y,hy,hb⟩:=CV.mp z;obtain⟨o,e,_⟩:=(wi.at_ y hy).has hb;rw[h] at e;cases e
universe E
theorem xo{A B:TS}{D:Ends}{σ:L2.St}{H:Hp}(R:L2.St->Hp->Prop)(h1:∀nx,(∀ER H',R ER H'->nx ER H')->A { D with nx:=nx } σ H)(h2:∀ER H',R ER H'->B D ER H'):xq A B D σ H:=h1 _ h2
theorem Jl{F:LO}(hq:F.BK[j]?=A! q)(v:M!):R! (F.BK.set j (q.1,v)).map=R! F.BK.map:=F! List.map_set (Kx (e? hq))
theorem Q9(h:Dc! H mv F')(ha:H a=none\/∀h,dd≠.make h):∀b∈Aq!,Af!\/a? H:=by
 have go:∀(F':LO),F'.ha=F.ha->F'.hd=F.hd->F'.co=F.co->R! F'.BK.map=R! F.BK.map->F'.holds.map m?=F.holds.map m?->∀b∈Aq!,Af!\/a? H:=λF' e1 e2 e3 e4 e5 b hb=>by unfold Ec UW at hb ⊢;rw[e1,e2,e3,e4,e5] at hb;exact D! hb
 cases dd with | make h' =>obtain⟨t,tm,q,_,_,_,hq,_,rfl⟩:=h;have ha:H a=none:=ha.resolve_right λz=>z h' rfl;intro b hb;unfold Ec at hb ⊢;rcases ZM hb with hb|hb;(.exact B0! D! hb (ZL ..));rcases ZM hb with hb|hb;(.exact B0! D! hb (ZD _ N?));have hb:b∈F.ha::F.co::(R! (F.BK.set h'.toNat (q.1,q.2++[tm])).map++(cr (tm,a,[])).map (λq=>W?)):=hb;rw[Jl hq,ZF,<-AQ] at hb;have hb:b∈UW F++[a]:=hb;rcases ZI hb with h|h;(.exact D! (ZD _ (ZD _ h)));.rw[ZK h];exact U! ha | three w h' a' b' =>obtain⟨ta,tb,_,_,c⟩:=h;rcases c with⟨_,aa,l,hf,rfl⟩|⟨_,aa,l,hf,_,_,rfl⟩|⟨_,_,q,hq,rfl⟩;(.exact go _ rfl rfl rfl rfl (Ky ..));(.exact go _ rfl rfl rfl rfl (Ky ..));.exact Cl! (Jl hq _) | free h' b'=>obtain⟨_,_,_,_,hq,_,_,rfl⟩:=h;exact Cl! (Jl hq _) | send h' g' b'=>obtain⟨_,_,rfl⟩:=h;exact Cl! rfl | clean h'=>have h:F'=F:=h;rw[h];exact Bu! | ask h'=>have h:F'=F:=h;rw[h];exact Bu! | deliver k =>obtain⟨_,_,c⟩:=h;rcases c with⟨_,_,_,_,_,_,_,_,_,_,_,hq,_,_,rfl⟩|⟨_,_,_,_,_,_,_,rfl⟩|⟨_,_,_,_,_,rfl⟩;(.exact Cl! (Jl hq _));(.exact Bu!);.exact Bu!
universe S
variable {P:Program}{w:World}{K:W.Frag}{mg:Str->Option Value}{base:Heap}{CW C CP CI NH NI NL DJ DY MI NW:Addr}
theorem RC:I? [Tk,BX!,Dh!,"_law_letter","_law_made","_law_thin"] AF! Z8:={}
def BFr(p:Addr)(W:FK)(ys:KB)(fl:Addr)(F:LO)(H H':Hp):Prop:=∀b o,R?->Ae!->BC!->b∉Ec fl F->SZ H'
def x4(K:W.Frag):TT:=Fi (NS UP (DE! 0 0) (DE! 1 1))
inductive Yj(CW C CP CI:Addr)(K:W.Frag)(vs:j!)(H:Hp)(Q:VK)(E:XK):Prop
 | mk (p fl x:Addr) (W:FK) (D:z?) (m n:Nat) (al:B?) (ys:KB) (F:LO) (dd:Dd) (_:vs=[W! p,Ak!,W! x]) (_:AW! (.AZ (l_ dd))) (_:AI!) (_:n<60) (_:Val W m H dd) (_:∀(v:V)(H':Hp)(W':FK)(D':z?)(al':B?)(UM:KB)(F':LO),Bt CW C CP CI K H' p W' D' m (n+1) al' UM fl F'->BFr p W ys fl F H H'->(∀b o,R?->Ae!->BC!->b∉Ec fl F->b∉Aq!)->W'.hs=W.hs->Q v H')
theorem Jgw(F':L? Bn! Bn! Z8)(T:Db!)(TW:DX! NI)(sub:W.mroIn K NW (G! NW)=A! true)(MD:D? "_law_do" kj CO! fD dD)(GD:EQ 7 fD dD CO! (qX CW C CP CI NH DJ DY MI NW K))(ML:DG K CW "letters" "World.letters" Gs X? fL dL)(GL:CF! fL dL (Hl CW C CP))(MN:D? Di! T3 AH! fN dN)(GN:z! fN dN AH! Tb) : Bd! 8 f fd AF! Yj CI:=by
 refine wP RC;obtain⟨p,fl,x,W,D,m,n,al,ys,F,dd,rfl,ex,B,hn,va,k⟩:=h;refine v?;have hr7:DI 7 _:=hr;have LF:DI 2 _:=pi;refine xz 3 RC.nd ye (Ad (Bf (Ds! Ev) (Ae (D3! 3 RC.nd (Av C4 (En (tt:=x4 K) (te:=Bx 0) (caps:=[(Dh!,2)]) rfl (Do (Dr (pl:=_) FS TW.cl ML.mt GL LF ML.bd P! Bg)) rfl ZV rfl ZV rfl (p? trivial) (λy h=>FX.MV Ap! h) ⟨⟨rfl,rfl,rfl,rfl⟩,trivial⟩ ZV (Dm! (D7 (Az Ca (Av Aq (pv 0) Ag) a! (A7 _)))) (Dm! (pv 0))) Ag))) A4) (Ad (UV 4 RC.nd ye) (Ad (UV 5 RC.nd Fz) (Ad (Ji1 rfl rfl rfl rfl T.xP (λAA E ES hES=>Ae (D3! 4 RC.nd (Jd9 GD hr7 (by rfl) MD.mg MD.fn.kp MD.bd hES (CE! A?)))) (λex=>Ae (D3! 5 RC.nd Fz))) (Ae (Bf (Yu (Fx (pv 5))) (Ae (A3 (AS! GN LF MN.mg MN.fn.kp MN.bd (Aa O? (Aa A? (r? P? SL)))))) A4))))));have lH:F? W.ls.map:=B.wi.wa.po.nd;refine xo (λER H1=>ER=DU! .E_/\H=H1) (λnx hx=>B! hx (p? rfl)) ?_;rintro _ _ ⟨rfl,rfl⟩;refine xo (λER H1=>∃lv,ER=DU! lv/\Bh H H1/\∀BL,dd=.deliver BL->∃l1 l2 t,W.ls=l1++(BL,t)::l2/\lv=bn) ?_ ?_;.intro nx hx;have go:(∀BL,dd≠.deliver BL)->nx (DU! .E_) H:=λnd=>B! hx ⟨.E_,rfl,λ_ _ e=>e,λBL z=>absurd z (nd BL)⟩;cases dd with | make h=>exact BR! | three w' h a b =>obtain⟨_,_,_,_,_,_,_,_,_,c⟩:=va;refine fJ (go AN!) ex rfl ?_;(rcases c with⟨rfl,_⟩|⟨rfl|rfl,_⟩<;>decide +kernel) | free h b=>exact BR! | send h g b=>exact BR! | clean h=>exact BR! | ask h=>exact BR! | deliver BL =>obtain⟨l1,l2,t,el⟩:=va;obtain⟨dx,hp⟩:=B.wi.wa.ob;have ex:Az! "deliver" (S! BL):=ex;refine Jlx ?_ ex;refine⟨_,rfl,p,dx,_,rfl,hp,Dp W ZV,p,W,rfl,B.wi.wa,λla H1 VP wY s1=>⟨la,rfl,CA! wY,λpl QM=>?_⟩⟩;have lw:=Dx B.wi.lw (HN s1);have lz:=B.wi.OM hn;(have ntt:∀(i:Nat)(y:AZ!),W.ls[i]?=A! y->∃kind s g a,L! H1 y.2 (.AZ [S! y.1,q! kind,S! s,S! g,g?]):=λi y hy=>by obtain⟨z,hz⟩:=CX! al (Is B.wi.len.1 hy);have r:=Aw lw i y z hy hz;cases z with | w l=>obtain⟨a,b,e,_⟩:=r;exact DR! | ask s g n' u=>obtain⟨a,e,_⟩:=r;exact DR! | MJ s g n' u tk S=>obtain⟨⟨a,e,_⟩,_⟩:=r;exact DR! | lt s g ts=>obtain⟨a,as,e,_⟩:=r;exact DR!);have s2:=x? QM;refine Fq (K:=K) (a:=la) (p:=pl) (xs:=W.ls.map λx=>Y! x.2) (tt:=x4 K) (te:=Bx 0) (caps:=[(Dh!,2)]) (σ:=DU! .E_) (λi ys H2=>ys=(if l1.length<i then [Y! t] else [])/\v6 pl/\Bh H1 H2) ⟨rfl,Ac,s2⟩ (λi ys H2 _ h=>⟨x! (h.2.2 _ _ wY),h.2.1⟩) ?_ ?_;(.rintro i v ys H2 N' hi ⟨ey,ep,sm⟩ hN;rw[ZH] at hi;cases hy:W.ls[i]? with | none=>rw[hy] at hi;cases hi | some y =>rw[hy] at hi;cases hi;obtain⟨kind,s',g,a,ey2⟩:=ntt i y hy;refine⟨_,rfl,y.2,_,0,_,rfl,rfl,X! (sm _ _ ey2),C!,_,rfl,x,_,1,_,rfl,rfl,X! (sm _ _ (s1 _ _ ex)),C!,rfl,_,rfl,?_⟩;(have UZ:W.ls[l1.length]?=A! (BL,t):=by rw[el,MB (ZG _),Nat.sub_self];rfl);by_cases c:i=l1.length;(.subst c;rw[UZ] at hy;cases hy;rw[Op];rw[AB (CN _)] at ey;subst ey;refine B7 ⟨_,rfl,ep,(by show 0<sizeLine;decide),B! hN ⟨Db (AD (II _)),Ac,By!⟩⟩;rw[Ab λz=>BJ! QM];exact B! sm e);.have ne:¬V? y.1=V? BL:=λz=>c (by have z:=V.int.inj z;(have a1:(W.ls.map J?)[i]?=A! BL:=by rw[ZH,hy,<-z];rfl);(have a2:(W.ls.map J?)[l1.length]?=A! BL:=e? UZ);obtain⟨p1,g1⟩:=ZJ a1;obtain⟨p2,g2⟩:=ZJ a2;exact DH! lH);rw[decide_eq_false ne];refine By (hN _ _ ⟨?_,ep,sm⟩);rw[ey];by_cases c2:l1.length<i;(.rw[AD c2,FM AD]);.rw[AB c2,FM AB]);.rintro ys H2 ⟨ey,ep,sm⟩;rw[ZA,AD (by rw[el,ZE,BF];lia)] at ey;subst ey;exact⟨pl,_,0,_,rfl,rfl,x! ep,C!,B! hx ⟨bn,rfl,Al s1 sm,λJKU z=>by cases z;exact⟨l1,l2,t,el,rfl⟩⟩⟩
 rintro _ H1 ⟨lv,rfl,s1,hl⟩;have B1:=B.same s1;have wO:=t? ex;have tS:=va.keep (HN s1);obtain⟨dx,hp⟩:=B1.wi.wa.ob;refine⟨_,rfl,_,rfl,p,x,dx,_,dd,rfl,wO,hp,Jc6 W,?_⟩;refine Jjs (R:=λv W' al' H'=>qu K W al H1 v W' al' H' dd) B1.wi hn tS (λv W' D' al' UM H' eff fp wi bD p6=>?_) (λ_ _ _ _ e=>e) ?_;.have kt:=B1.wi.DL bD;obtain⟨lq,rS⟩:=B1.kA bD fp;obtain⟨N,hN⟩:=Jg9 B1.fr B1.wi.wg lH kt tS eff hl;refine⟨_,rfl,_,rfl,B7 ?_⟩;refine⟨_,rfl,_,rfl,_,rfl,_,rfl,fl,x,lv,v,F,N,dd,rfl,lq,FM B1.sz,AO! wO,λa=>(hN a).1,λa H2 ha fa2 ff=>?_⟩;refine k _ H2 W' D' al' UM (N a) (Jnl wi lq rS ff fa2 (hN a).2 (B1.fn.note (hN a).1) (Q9 (hN a).1 ha)) (λb o e n1 n2 n3=>ff b o (bD b o A0! n1 n2) n3) (λb o e n1 n2 n3 hb=>by rcases Q9 (hN a).1 ha b hb with h|h;(.exact n3 h);.rw[bD b o A0! n1 n2] at h;cases h) p6
 .refine⟨NW,p? sub,?_⟩;refine⟨_,rfl,_,rfl,By ?_⟩;exact k _ H1 W D al ys F ⟨B1.wi.upn,B1.fa,B1.fr,B1.fn.up,B1.off⟩ (λb o e _ _ _=>B! s1 e) (λb o e n1 n2 n3=>n3) rfl
theorem Jmk:I? WP WP mY:={}
inductive yX(vs:j!)(H:Hp)(Q:VK)(E:XK):Prop
 | mk (m:Nat) (_:vs=[S! f?]) (_:m<=12) (_:∀(fl:Addr)(F:LO)(H':Hp),S?->(Ad! (a? H))->Cc!->wp=List.replicate m []->F.holds=[]->F.BY=[]->Q (G! fl) H')
theorem Jk9{a b:Str}{cl:J! (Str×Addr)}{y:Str}(h:DK! ([CK!,CL!]:J! Dk!).lookup ([CK!,CL!]:J! Dk!).lookup):∃z,CJ! z :=Mr (λp hp hk=>by simp only[BU,DD,JM] at hp;rcases hp with rfl|rfl<;>rcases hk with hk|hk<;>cases hk) h
theorem Jg4(F':L? Bp! Bp! mY)(T:Db!):C9! WP yX:=by
 refine wP Jmk;obtain⟨m,rfl,cQ,k⟩:=h;refine v?;refine⟨_,Ae (Ay (Jgp (Ox A6 (En (te:=qZ Jz) (caps:=[]) rfl (Gx rfl T.range (Aa FS Af)) rfl ZV rfl ZV rfl trivial (λy h=>Jk9 h) trivial ZV (λ_ _ _ _ _=>Jd) (Dm! (Es Af))) (Ox A6 Ds (Ox A6 (Es Af) Jgm))) rfl rfl (by intro z;cases z) (K!))),?_⟩;intro fl pF;have s0:=q? .dK [] pF;have e0:L! (upd H fl (.dK [])) fl (.dK []):=Ac;generalize upd H fl (.dK [])=H0 at s0 e0;refine⟨_,rfl,f?,rfl,E!,E!,λr HZ=>?_⟩;have s1:=x? HZ;refine Ki (lo:=0) (n:=m) (tt:=λ_ H Q=>Q true H) (te:=qZ Jz) (caps:=[]) (σ:=[A! (.int f?)]) (λi ys H2=>v6 r/\Bh H0 H2/\∃as:Ix,ys=CN!/\as.length=i/\(∀a∈as,B1! H2 a/\H0 a=none)/\(r::as).Nodup) ⟨Ac,s1,[],rfl,rfl,(λa ha=>l? ha),TD⟩ (λi ys H2 _ h=>h.1) ?_ ?_;.rintro i ys H2 N hi ⟨er,s2,as,rfl,la,ha,nd⟩ hN;refine B7 ⟨BE _,λa na=>?_⟩;have s3:=x? na;(have ar:a≠r:=λz=>by rw[z,er] at na;cases na);refine⟨B! s3 er,Ed (BV! ZA),B! hN ⟨Ac,By!,as++[a],Db ZF,by rw[ZE,la];rfl,Bx!,?_⟩⟩;(.rw[Ab λz=>BJ! HZ];exact B! s3 (s2 _ _ e));(.rcases ZI hc with hc|hc;(.obtain⟨h1,h2⟩:=ha c hc;rw[Ab (CP! (AM.mp nd).1 z hc)];exact⟨B! s3 h1,h2⟩);.rw[ZK hc,Ab ar];refine⟨Ac,?_⟩;cases c':H0 a with | none=>rfl | some o=>rw[B! s2 c'] at na;cases na);.have:((r::as)++[a]).Nodup:=DG! nd (by rw[ZK hv] at z;subst z;rcases ZM hu with h|h;(.exact ar h);.rw[(ha _ h).1] at na;cases na);exact this
 rintro ys H2 ⟨er,s2,as,rfl,la,ha,nd⟩;refine λhd aP=>⟨BE _,λco lU=>?_⟩;have s3:=q? .dT [] aP;have ed:L! (upd H2 hd lc) hd lc:=Ac;generalize upd H2 hd (.dT [])=H3 at s3 ed lU;have s4:=x? lU;have ec:B1! (upd H3 co Y?) co:=Ac;generalize upd H3 co Y?=H4 at s4 ec;have nY:=Al s3 s4;have uJ:=Al s2 nY;have TB:=B! uJ e0;refine⟨TB,Ip ⟨r,hd,co,as.map Bz!,[],[]⟩,rfl,(by show 3<=15;decide),?_⟩;rw[Jjo];have nf:∀b o,L! H4 b (.BC o)->b≠fl:=λb o e z=>BJ! TB
 have ndf:hd≠fl:=λz=>by have:=B! s4 ed;rw[z,TB] at this;cases this
 have S_:=B! nY er;have SF:∀a∈as,B1! H4 a:=λa h=>B! nY (ha a h).1;have ug:∀b o,SZ H2->b≠co:=λb o e z=>by have:=B! s3 e;rw[z,lU] at this;cases this
 refine k fl ⟨r,hd,co,as.map Bz!,[],[]⟩ _ (By!) (v! ?_) ⟨Ac,?_,V! ?_,?_,(V! (l? hq)),⟨[],?_,P!⟩,?_,CK⟩ ?_ rfl rfl;.rw[Ab (Aj e pF)];exact B! uJ (s0 _ _ e)
 .have hb:b∈fl::hd::r::co::(B5! C8!++[]):=hb;rw[AL,AG,show((λq:Addr×List T2=>q.1) ∘ Bz!)=id from rfl,List.map_id] at hb;simp only[BU] at hb;rcases hb with rfl|rfl|rfl|rfl|hb;(.exact pF);(.exact Bw s0 (Bw s2 aP));(.exact Bw s0 HZ);(.exact Bw s0 (Bw s2 (Bw s3 lU)));.exact Bw s0 (ha b hb).2
 .rw[Ab (nf _ _ S_),S_];show _=A! (HO.BC (C8! A7!));rw[AL];rfl
 .obtain⟨a,h,rfl⟩:=ZN hq;exact⟨[],by show upd _ _ _ a=_;rw[Ab (nf _ _ (SF a h)),SF a h];rfl,P!⟩
 .show upd _ _ _ hd=_;rw[Ab ndf,B! s4 ed];rfl
 .show upd _ _ _ co=_;rw[Ab (nf _ _ ec),ec];rfl
 .show(r::co::(B5! C8!++[])).Nodup;rw[AL,AG,show((λq:Addr×List T2=>q.1) ∘ Bz!)=id from rfl,List.map_id];obtain⟨n1,n2⟩:=AM.mp nd;refine AM.mpr ⟨λz=>?_,AM.mpr ⟨λz=>ug _ _ (ha co z).1 rfl,n2⟩⟩;rcases ZM z with h|h;(.exact ug _ _ er h);.exact n1 h
 .show C8! (λq=>q.2)=_;rw[AL,<-la];exact List.map_const' ..
universe E
universe S
theorem iy:I? [Aa!,T0] d? Tv:={}
inductive Zx(K:W.Frag)(vs:j!)(H:Hp)(Q:VK)(E:XK):Prop
 | mk (a:Addr) (ns:XV) (_:vs=[g?]) (_:DU K H a Be!) (_:ns.length<=63) (_:∀(v:Int)(H':Hp),S?->2<=v->Q (.int v) H')
theorem Jem(F:L? Bq! Bq! Tv)(hl:mg "len"=none)(MC:D? "_law_cell" V4 BB! fC dC):z! f fd d? (Zx K):=by
 have GC:Go fC dC BB! (Yo K):=zH MC.fn hl;refine F.JD iy Dt!;obtain⟨a,ns,rfl,hS,hlen,k⟩:=h;refine v?;refine xz 1 iy.nd (AS! GC hr MC.mg MC.fn.kp MC.bd (CE! Ag)) (Ae (Ay (Av C4 (Es (Aa Ag (Aa Ag (r? Ag (Bl Hs Ag (Bl Dg (Bl F6 (pv 1) Ag) (Bl Ji6 Ag Ag))))))) (Bl Dg (pv 1) Ag))));refine⟨_,rfl,a,ns,1,rfl,hS,hlen,K!,K!,λv=>?_⟩;refine⟨_,rfl,_,_,rfl,rfl,⟨K!,K!⟩,_,_,rfl,rfl,⟨K!,K!,K!⟩,_,_,rfl,rfl,Cm! (10 ^ 59),_,_,rfl,rfl,Cd! 4,λsl YZ=>?_⟩;obtain⟨x,hx⟩:∃x,V? x=V.int (2+v / 4 % D5!):=Ap!;have x2:2<=x:=by have:=V.int.inj hx;have e:=DP (v / 4) (show D5!≠0 by decide);lia
 have s1:=q? .BC DT! YZ;have esl:AU! (upd H sl (.BC DT!)) sl DT!:=Ac;obtain⟨sh,ox,nQ⟩:∃sh:Int,QI DT! (v % 4)=A! (.int sh)/\2<=sh:=by rw[<-hx];rcases(show v % 4=0\/v % 4=1\/v % 4=2\/v % 4=3 by lia) with e|e|e|e<;>rw[e];(.exact Bt! 2 K!);(.exact Bt! 2 K!);(.exact Bt! 3 K!);.exact Bt! x x2
 exact⟨_,rfl,_,_,rfl,rfl,Cm! 4,sl,_,_,V? sh,rfl,rfl,x! esl,ox,k sh _ s1 nQ⟩
universe E
theorem Iv(l:M!):WR (y? (l.map NR)):=by obtain⟨a,b⟩:=Jim Gb l;exact⟨a,E!⟩
structure Jlh(K:W.Frag)(H:Hp)(d:Addr)(qs:An!)(i:Nat)(TH:HL):Prop where
 ob:w! d (C1 TH)
 at_:K62F.MM K H TH
 lt:∀q∈TH,q.1.1<C?
 nd:F? TH.map
 len:TH.length<=64*i
 all:∀(j:Nat)(q:Addr)(G:BX),j<i->H?->∀t∈bv,∃ad hs,Dq! TH.find? (t,ad,hs)/\hs.Perm (Bn G.holds t)/\hs.Pairwise IW
universe S
variable {P:Program}{w:World}{K:W.Frag}{mg:Str->Option Value}{base:Heap}{CW C CP CI NH NI NL DJ DY MI NW:Addr}
theorem QR:I? [Tk,BX!,"_law_there","_law_h",Bo!,s?,Bj!,"_law_thing","_law_out",AV!] sK Tw:={}
inductive Ta(CW C CP CI:Addr)(K:W.Frag)(vs:j!)(H:Hp)(Q:VK)(E:XK):Prop
 | mk (p fl:Addr) (W:FK) (D:z?) (m n:Nat) (al:B?) (ys:KB) (F:LO) (_:vs=[W! p,Ak!]) (_:AI!) (_:n<=60) (_:∀H',S?->Q (.bl true) H')
theorem Jen(F':L? Br! Br! Tw)(T:Db!)(TW:DX! NI)(MS:re "state" "World.state" K0 fS dS)(qr:Au! fS dS Al! (Gp CW C CP NH K))(MR:D? Dl! Jb Ac! fR dR)(GR:Go fR dR Ac! Oh) : ut f fd sK Ta CI:=by
 have GS:Dn! 3 fS dS Al! (λvs H Q _=>Gp CW C CP NH K vs H Q E0):=FX.EO.no qr;refine wP QR;obtain⟨p,fl,W,D,m,n,al,ys,F,rfl,B,hn,k⟩:=h;refine v?;have hu:=Cf hr;have Y_:DI 3 _:=hr;have HP:DI 1 _:=pi;refine xz 2 QR.nd Ds (Ad (BO! (Gx rfl T.range (Aa (BL! Bm Bs T.len CJ (Ba hu (pv 1) A6)) Af)) (w? 3) (Ad (yf (As (pl:=_) FS TW.cl MS.mt GS Y_ MS.bd P! Bg (Aa P? Af)) (J8 rfl (Ce (w? 4) (Ce (w? 5) (Ce (w? 6) Hr))))) (Ad (Bf (CG! Ud SL (BL! Df Da T.tuple DK (BL! Bm (Hg rfl) T.sorted CO (Av C4 (Ba hu (pv 1) A6) P?)))) Cf! A4) (Ae (BO! (Ih (pv 5)) (J8 rfl (Ce (w? 7) (Ce (w? 8) (Ce (w? 9) Hr)))) (Ae (B6 hu A? (pv 7) (pv 9) rfl))))))) (Ad (BO! (La (CI! GR MR.mg MR.fn.kp MR.bd (Aa O? Af))) (w? 7) (Ae (Bf (ZZ (Wa (D3 (Dv hu (pv 7) A?)) (Ov (CG! Ud (Ba hu (pv 2) (pv 7)) (BL! Df Da T.tuple DK (BL! Bm (Hg rfl) T.sorted CO (Ba hu (Ba hu (pv 1) A6) (pv 7)))))))) Cf! A4))) Cf!));intro da vc;have s1:=q? .dT [] vc;have e1:L! (upd H da lc) da (C1 []):=Ac;generalize upd H da lc=H1 at s1 e1;have B1:=B.same s1;have hm:=B.BK;have m5:=B.wi.m5;have rE:W.qs.length=m:=B.wi.wg.wl.len;refine⟨_,rfl,fl,_,rfl,B1.fa.MY,F.ha,_,rfl,D! (DU.of B1.fa.ha),f?,by rw[ZA,hm.1],E!,E!,?_⟩;refine Rp (lo:=0) (n:=m) (λi σ H'=>∃(u3 u4 u5 u6 u7 u8 u9:Av!)(TH:HL),σ=[Bh!,IN,i! da,u3,u4,u5,u6,u7,u8,u9]/\S?/\Jlh K H' da W.qs i TH) ⟨_,_,_,_,_,_,_,[],rfl,s1,e1,(V! (l? hq)),(V! (l? hq)),CK,BE _,λj _ _ hj=>absurd hj (Nat.not_lt_zero _)⟩ ?_ ?_;.rintro i σ H2 hi ⟨u3,u4,u5,u6,u7,u8,u9,TH,rfl,s2,th⟩;rw[show(0:Int)+C?=C? by lia];have B2:=B.same s2;obtain⟨⟨q,G⟩,hq⟩:=CX! W.qs E!;have iw:JX W C? q G:=⟨E!,F! DT hq⟩;have gd:=B.wi.wg.wl.good hn hq;obtain⟨hs,os,rs,KN⟩:=gd.told;obtain⟨dx,hp⟩:=B2.wi.wa.ob;refine⟨_,rfl,p,dx,_,rfl,hp,Dp W ZV,_,rfl,p,C?,W,rfl,B2.wi.wa,U! ⟨q,G,iw,q,G,hs,os,rs,rfl,iw.at B2.wi.wa,gd.h2,gd.o2,gd.r2,KN.pm,KN.pw,KN.QE,KN.pr,KN.wr,λx H3 s3 st=>?_⟩⟩;obtain⟨y1,y2,y3,as,bs,ds,f0,f1,t1,f2,t2,f3,t3⟩:=(xX st:RZ K H3 x (hs,os,rs));have t2:Paired (YA K H3) bs os:=t2;have t1:AW H3 as hs:=t1;have uC:=Al s2 s3;have B3:=B.same uC;obtain⟨fb,vY⟩:=B.fr.at hq;obtain⟨cs,iR,nJ⟩:=B3.fa.hn _ (ZP vY);have iR:D0! H3 fb cs.map:=iR;have nJ:AW H3 cs G.hand:=nJ;refine⟨x,_,rfl,f0,rfl,_,_,rfl,_,_,rfl,_,_,rfl,rfl,?_⟩;refine⟨_,rfl,_,rfl,fl,_,rfl,B3.fa.MY,_,rfl,F.ha,_,C?,_,rfl,rfl,x! B3.fa.ha,Pt (E!) (Z! DT vY),fb,cs,G.hand,hs,rfl,iR,nJ,gd.h2,KN.pm,KN.pw,λr IB HZ c_=>⟨r,_,rfl,D! ⟨x! Ac,λtp om=>?_⟩⟩⟩;have s4:=Ah (o:=.BC (IB.map V.ref)) HZ;have s5:=Al s4 (Ah (o:=.AZ (IB.map V.ref)) om);have iK:L! (upd (upd H3 r (AM! IB.map)) tp ww) tp ww:=Ac;generalize upd (upd H3 r (AM! IB.map)) tp ww=H5 at s5 iK;have k5:=HN s5;refine⟨_,_,.one (.tupP (k5.sq f1) (Ce! k5 t1)),.one (A9! iK (Ce! k5 c_)),Iv _,Iv _,?_⟩;rw[Xy (Iv hs)];refine GE (By ?_);have sh5:=Al uC s5;have ed5:=B! s5 (s3 _ _ th.ob);have at5:=th.at_.keep (HN (Al s3 s5));obtain⟨sd,nu⟩:=B.wi.wg.BL hq;refine⟨_,rfl,y2,rfl,⟨_,k5.sq f2⟩,?_⟩;refine Dd! Lv y2 bs (λj σ H'=>∃(w7 w8 w9:Av!)(L:HL),σ=[Bh!,IN,i! da,A! (.int C?),i! y1,i! y2,i! y3,w7,w8,w9]/\S?/\BW H3 H'/\L! H' da (C1 (TH++L))/\K62F.MM K H' (TH++L)/\L.map (λq=>CD!)=(os.take j).map λz=>(z.1,z.2.2)) ⟨_,_,_,[],rfl,sh5,k5,F! AG ed5,F! AG at5,rfl⟩ (λj σ H' _ h=>by obtain⟨_,_,_,_,_,_,kt,_⟩:=h;exact kt.sq f2) ?_;(.rintro j v σ H6 hj ⟨w7,w8,w9,L,rfl,s6,k6,l8,qO,eL⟩;obtain⟨z,ez⟩:=Bm! os j (Is (Z? t2) hj);obtain⟨a,t,hd,cs',rfl,g1,g2,g3,g4⟩:=Aw t2 j v z hj ez;have mz:=ZP ez;have zo:z.1∈bv:=KN.QE.pm.mem_iff.mp (AF.mpr (k! z mz));have jl:j<os.length:=(ZJ ez).1;(have ol:os.length<64:=by have:=KN.QE.pm.length_eq;rw[ZA,ZA] at this;have:=gd.o2;lia);(have lL:L.length=j:=by have:=congrArg List.length eL;rw[ZA,ZA,B'] at this;lia);(have YU:∀q∈TH++L,q.1≠z.1:=λq OG e=>by rcases ZI OG with h|h;(.have:=th.lt q h;rw[e,(B.wi.wg.XS hq zo).1] at this;lia);.have h1:CD!∈L.map (λq=>CD!):=AF.mpr (BZ! h);rw[eL] at h1;obtain⟨y,hy,e2⟩:=ZN h1;obtain⟨l',hZ,e3⟩:=List.mem_iff_getElem.mp hy;have nd:F? os.map:=KN.QE.pm.nodup_iff.mpr sd.ok.on;(have a1:(os.map J?)[l']?=A! z.1:=by rw[B'] at hZ;rw[ZH,FM List.getElem?_eq_getElem];rw[List.getElem_take] at e3;rw[e3];show A! y.1=A! z.1;rw[<-e];exact congrArg some (congrArg Prod.fst e2));(have a2:(os.map J?)[j]?=A! z.1:=e? ez);obtain⟨p1,b1⟩:=ZJ a1;obtain⟨p2,b2⟩:=ZJ a2;have:=(DZ nd).mp (b1.trans b2.symm);rw[B'] at hZ;lia);have tl:=th.len;refine⟨a,_,rfl,k6.sq g1,rfl,_,_,rfl,_,_,rfl,_,_,rfl,rfl,?_⟩;refine⟨_,rfl,_,rfl,_,rfl,da,_,rfl,F_.t (k:=tk z.1) l8 (k6.AZ _ _ g2) (FB ZA ZE (FM Ed)),?_⟩;rw[F5 (V.ref hd) YU];(have e5:HO.dT (((TH++L).map λ(q:T2×Addr×List T2)=>(tk q.1,Y! W?))++[(tk z.1,Y! hd)])=C1 (TH++(L++[(z.1,hd,z.2.2)])):=by unfold C1;rw[<-AQ];simp);rw[e5];(have RV:BW H6 (upd H6 da (C1 (TH++(L++[(z.1,hd,z.2.2)])))):=OI λo' e=>by rw[l8] at e;cases e;exact C2!);refine⟨_,_,_,L++[(z.1,hd,z.2.2)],rfl,AB! vc s6,k6.trans RV,Ac,λq OG=>?_,?_⟩;(.rw[<-AQ] at OG;rcases ZI OG with h|h;(.exact qO.keep RV q h);.rw[ZK h];exact⟨cs',(k6.trans RV).sq g3,AW.keep (k6.trans RV) g4⟩);.rw[ZF,eL,DS,ez,ZF];rfl);.rintro σ H6 ⟨w7,w8,w9,L,rfl,s6,k6,l8,qO,eL⟩;rw[show os.take bs.length=os by rw[Z? t2,BP]] at eL;(have eK:R! L.map=R! os.map:=by have:=congrArg (List.map Prod.fst) eL;rw[AL,AL] at this;exact this);(have lG:F? L.map:=F! eK (KN.QE.pm.nodup_iff.mpr sd.ok.on));have oL:∀q∈L,q.1∈bv:=λq OG=>KN.QE.pm.mem_iff.mp (U? eK (AF.mpr (BZ! OG)));(have iG:∀q∈TH,∀r∈L,q.1≠r.1:=λq OG r hr e=>by have h1:=th.lt q OG;have h2:=(B.wi.wg.XS hq (oL r hr)).1;rw[e,h2] at h1;lia);refine⟨_,_,_,_,_,_,_,TH++L,rfl,s6,l8,qO,λq OG=>?_,?_,?_,λj2 q2 G2 hj2 e2 t ht=>?_⟩;(.rcases ZI OG with h|h;(.have:=th.lt q h;push_cast;lia);.have:=(B.wi.wg.XS hq (oL q h)).1;rw[this];push_cast;lia);(.rw[ZF];refine AK.mpr ⟨th.nd,lG,λu hu v hv e=>?_⟩;obtain⟨q,OG,rfl⟩:=ZN hu;obtain⟨r',LF,rfl⟩:=ZN hv;exact iG q OG r' LF e);(.have h1:=congrArg List.length eK;rw[ZA,ZA] at h1;have h2:=KN.QE.pm.length_eq;rw[ZA,ZA] at h2;have:=gd.o2;have:=th.len;rw[ZE];lia);.by_cases c:j2<i;(.obtain⟨ad,bO,hf,r⟩:=th.all j2 q2 G2 c e2 t ht;exact⟨ad,bO,by rw[FU,hf];rfl,r⟩);·(have:j2=i:=E!);subst this;rw[hq] at e2;cases e2;obtain⟨z,mz,ez⟩:=ZN (KN.QE.pm.mem_iff.mpr ht);(have h1:(z.1,z.2.2)∈L.map (λq=>CD!):=F! eL (AF.mpr (k! z mz)));obtain⟨r',LF,e3⟩:=ZN h1;have e4:r'.1=t:=(congrArg Prod.fst e3).trans ez;have e5:r'.2.2=z.2.2:=congrArg Prod.snd e3;(have nT:AP! TH.find?=none:=AY.mpr λq OG=>by have:¬o?:=λe=>iG q OG r' LF (e.trans e4.symm);simpa using this);(have fL:Dq! L.find? r':=by cases e6:Uf L.find? with | none =>have:=AY.mp e6 r' LF;simp[e4] at this | some r2=>rw[O3 lG (AJ e6) LF ((find_key e6).trans e4.symm)]);obtain⟨_,a9,hl9,f9,_,p9,w9'⟩:=KN.QE.at_ z mz;refine⟨r'.2.1,r'.2.2,by rw[FU,nT,fL,<-e4];rfl,?_,F! e5 w9'⟩;(have:Bn G.holds t=hl9:=by unfold Bn;rw[<-ez,f9];rfl);rw[this,e5];exact p9
 .rintro σ H2 ⟨u3,u4,u5,u6,u7,u8,u9,TH,rfl,s2,th⟩;have B2:=B.same s2;refine⟨_,rfl,fl,F,Pr D W.qs,rfl,B2.fa,E!,by have:=B.fn.a;lia,DM! B.fn.b,DM! hm.2.1,BH! hm.2.2,B.fr.SG B.wi.wg,B.fr.hand B.wi.wg,B.fr.closed B.wi.wg,λxr R H3 hxr s3 exr ndR gZ=>?_⟩;refine⟨xr,_,rfl,exr,λob=>?_⟩;(have fx:∀b o,SZ H2->SZ (upd H3 xr DW!):=AB! hxr s3);have we:L! (upd H3 xr DW!) xr DW!:=Ac;generalize upd H3 xr DW!=H4 at fx we;refine Xt (d:=xr) (ob:=ob) (λi σ H'=>∃(u7:Av!),σ=[Bh!,IN,i! da,u3,u4,u5,u6,u7,u8,u9]/\Bh H4 H') (GE (λ_ _ e=>e)) (λi σ H' _ h=>by obtain⟨_,_,sm⟩:=h;exact B! sm we) ?_ ?_;(.rintro i a kk v σ H5 hx ha ⟨u7',rfl,sm⟩;rw[ZH] at hx;cases ht:R[i]? with | none=>rw[ht] at hx;cases hx | some t =>rw[ht] at hx;cases hx;have ha:L! H5 a (.AZ (tv t)):=ha;have mt:=ZP ht;obtain⟨nD,j,q,G,hj,ho⟩:=gZ t mt;have sH:Bh H H5:=λb o e=>B! sm (fx _ _ (s2 _ _ e));have k2:Bh H2 H5:=λb o e=>B! sm (fx _ _ e);have B5:=B.same sH;obtain⟨ad,hs,hf,pm,pw⟩:=th.all j q G (Is rE hj) hj t ho;obtain⟨aa,UT⟩:=B.fr.holds j q G hj t ho;obtain⟨cs,c1,c2⟩:=th.at_ _ (AJ hf);have c1:CF K H2 ad (cs.map V.ref):=c1;have c2:AW H2 cs hs:=c2;obtain⟨es,QZ,TR⟩:=B5.fa.hl _ (AJ UT);have QZ:D0! H5 aa es.map:=QZ;have TR:AW H5 es (Bn G.holds t):=TR;(have dg:DM H5 da (G! a) (some (V.ref ad)):=by have:=DM.t (k:=tk t) (k2 _ _ th.ob) ha;rw[Dl (k:=λq:T2×Addr×List T2=>q.1) (f:=λq=>Y! W?),hf] at this;exact this);(have lz:(Bn G.holds t).length<64:=BH! ((B.wi.wg.BL hj).1.ok.get t).2.1);refine⟨_,rfl,_,rfl,da,_,rfl,dg,_,rfl,By ?_⟩;refine⟨_,rfl,_,rfl,da,_,rfl,dg,_,rfl,fl,_,rfl,B5.fa.OA,_,rfl,F.hd,_,rfl,B5.fa.at UT ha,aa,es,_,hs,rfl,QZ,TR,lz,pm,pw,λr IB HZ c_=>⟨r,_,rfl,D! ⟨x! Ac,λtp om=>?_⟩⟩⟩;have s6:=Al (Ah (o:=.BC (IB.map V.ref)) HZ) (Ah (o:=.AZ (IB.map V.ref)) om);have iK:L! (upd (Bg! H5 r IB.map) tp ww) tp ww:=Ac;generalize upd (Bg! H5 r IB.map) tp ww=H6 at s6 iK;have k6:=HN s6;have vA:=(HN k2).trans k6;refine⟨_,_,.one (.tupP (vA.sq c1) (Ce! vA c2)),.one (A9! iK (Ce! k6 c_)),Iv _,Iv _,?_⟩;rw[Xy (Iv hs)];exact GE (By (GE (Al sm s6))));.rintro σ H5 ⟨u7',rfl,sm⟩;exact k H5 λb o e=>B! sm (fx _ _ (s2 _ _ e))
universe E
theorem Jfn(ns:XV)(lo hi:Option Int):∃cs:XV,L5 Be! lo hi=cs.map V.int:=by unfold L5;exact⟨_,by rw[<-List.map_drop,<-List.map_take]⟩
theorem Jle(xs:j!):(L5 xs (T! 2) (T! 62)).length<=60:=by unfold L5;rw[B',show HT.RU xs.length xs.length (some 62)=min 62 xs.length from B! HT.VI 62,show HT.RU xs.length 0 (some 2)=min 2 xs.length from B! HT.VI 2];lia
universe S
variable {CW C CP CI p:Addr}{K:W.Frag}{H1:Hp}{W:FK}{m:Nat}
theorem Mc:∀{l:An!},(∀z∈l,z.2.AN=[]/\z.2.AH=[])->Gc t l=0/\Ni l=0
 | [],_=>p? rfl
 | z::l,h=>by obtain⟨h1,h2⟩:=Mc (t:=t) λy hy=>h y (ZD _ hy);obtain⟨h3,h4⟩:=h z (ZL ..);refine CS!;(.show LB t z.2+Gc t l=0;unfold LB;rw[h1,h3,h4];rfl);.show z.2.AN.length+Ni l=0;rw[h2,h3];rfl
theorem qd{n mm tk:Int}{h o l r:Addr}{t:T2}(ht:QJ ⟨n,mm,tk,h,o,l,r,[],[],[],[]⟩ t):False:=by
 rcases ht with ht|⟨q,hq,_⟩;.cases ht
 .cases hq
theorem Jdp{i:Nat}{h o l r:Addr}(hi:i<m):Sd m ⟨C?,0,0,h,o,l,r,[],[],[],[]⟩ 0 :=⟨⟨CK,o!,CK,o!,rfl,CK,o!,AA!,AA!,AA!,AA!,AA!⟩,AA!,h! (qd ht).elim,h! (qd ht).elim,h! (SC ht),by show(0:Int)<=C?;lia,by show C?<f?;lia,A' _,A' _⟩
theorem Pk:∀{l:An!},(∀z∈l,z.2.AU=0)->F3 l=0
 | [],_=>rfl
 | z::l,h=>by have ih:=Pk (l:=l) λy hy=>h y (ZD _ hy);have:=h z (ZL ..);show z.2.AU+F3 l=0;lia
theorem WI.start(S:AO CW C CP H1 p W)(e2:W.c=0)(e3:W.ls=[])(e4:W.LD=[])(e5:W.JK=[])(e6:W.EN=[])(e7:W.qs.length=m)(e8:∀i q G,W.qs[i]?=A! (q,G)->mS G i)(m1:1<=m)(m5:m<=5)(sh:2<=W.share):Bf! H1 Ab! 0 [] []:=by
 have ee:∀(i:Nat) q G,W.qs[i]?=A! (q,G)->∃h o l r,G=⟨C?,0,0,h,o,l,r,[],[],[],[]⟩:=λi q G hi=>by obtain⟨h,o,l,r,e⟩:=e8 i q G hi;exact⟨h,o,l,r,e⟩
 have em:∀z∈W.qs,z.2.AN=[]/\z.2.AH=[]/\z.2.AU=0:=λz hz=>by obtain⟨i,hi⟩:=CB.mp hz;obtain⟨_,_,_,_,e⟩:=ee i z.1 z.2 hi;rw[e];exact k! rfl rfl
 refine⟨S,⟨⟨e7,E!,λi q G hi=>?_,λl hl=>SC hl,λt _=>?_,?_,sh⟩,⟨λ_ _ _ _ _ _ z=>z,λ_ _ _ z=>z,λ_ _ _ _ _ _ _ _ z=>z,λ_ _ _ _ _ z=>z.elim⟩,λj q G hj t ht _=>?_⟩,?_,λj q G hj t ht=>?_,m1,m5,F! e3 P!,F! e6 CK,λe he=>?_,F! e6 o!,F! e5 o!,o!,o!,e4,rfl,CK,λy hy=>SC hy,λy hy=>SC hy,λy hy=>SC hy,λz hz=>SC hz,λe he=>?_,λs g ts hz=>SC hz⟩;·(have hl:i<m:=Is e7 hi);obtain⟨_,_,_,_,e⟩:=ee i q G hi;rw[e];exact⟨Jdp hl,rfl⟩
 .rw[(Mc (t:=t) λz hz=>⟨(em z hz).1,(em z hz).2.1⟩).1];rfl
 .rw[(Mc (t:=(0,0)) λz hz=>⟨(em z hz).1,(em z hz).2.1⟩).2];exact o!
 .obtain⟨_,_,_,_,e⟩:=ee j q G hj;rw[e] at ht;exact(qd ht).elim
 .rw[Pk λz hz=>(em z hz).2.2];exact A' _
 .obtain⟨_,_,_,_,e⟩:=ee j q G hj;rw[e] at ht;cases ht
 .rw[e6] at he;cases he
 .rw[e5] at he;cases he
universe E
universe S
universe E
theorem Bt.start{H0 H:Hp}(x:Bf! H Ab! 0 [] [])(hw:∀b∈Bv p W,∃o,SZ H0)(fresh:Ad! (a? H0))(fa:N!)(fh:wp=List.replicate m [])(fo:F.holds=[])(fc:F.BY=[])(e7:W.qs.length=m)(e8:∀i q G,W.qs[i]?=A! (q,G)->mS G i):Du! H Ab! 0 [] []:=by
 refine⟨x,fa,⟨?_,λj q G hj t ht=>?_,F! fc (.refl _),h! (by rw[fo] at ht;cases ht)⟩,⟨F! fo o!,V! (by rw[fo] at hq;cases hq)⟩,v! (Os ?_ (l? z))⟩;.rw[fh];refine EX λi=>?_;rw[List.getElem?_replicate,ZH];by_cases c:i<m;(.rw[AD c];obtain⟨⟨q,G⟩,hq⟩:=CX! W.qs E!;obtain⟨h,o,l,r,e⟩:=e8 i q G hq;rw[hq,e];rfl);.rw[AB c,FM CM];rfl
 .obtain⟨h,o,l,r,e⟩:=e8 j q G hj;rw[e] at ht;cases ht
 .obtain⟨o,e⟩:=hw b z;rw[fresh b hb] at e;cases e
universe S
variable {P:Program}{w:World}{K:W.Frag}{mg:Str->Option Value}{base:Heap}{CW C CP CI NH NI NL DJ DY MI NW:Addr}
theorem eY:I? [Aa!,Bi!,AX!,Tk,BX!,T0] d? gM:={}
inductive Z1(K:W.Frag)(vs:j!)(H:Hp)(Q:VK)(E:XK):Prop
 | mk (a:Addr) (ns:XV) (_:vs=[g?]) (_:ae K H a Be!) (_:ns.length<=63) (_:∀H',Q (.bl true) H')
theorem Ji9(F:L? "law" "law" gM)(T:Db!)(TW:DX! NI)(MmW:Mk K CW fW)(bW:Binds K dW (B7! "many") [])(GW:CZ! fW dW (B7! "many") Zv)(MC:D? "_law_cell" V4 BB! fC dC)(MS:D? Bq! Tv d? fS dS)(ML:D? Bp! mY WP fL dL)(GL:Go fL dL WP yX)(MT:D? Bn! Z8 AF! fT dT)(GT:Bd! 8 fT dT AF! Yj CI)(MD:D? "_law_deed" V3 AJ! fD dD)(GD:ut fD dD AJ! Yn CI)(MR:D? Br! Tw sK fR dR)(GR:ut fR dR sK Ta CI) : Dn! 9 f fd d? (Z1 K):=by
 have GC:Go fC dC BB! (Yo K):=zH MC.fn T.len;have GS:z! fS dS d? (Zx K):=Jem MS.fn T.len MC;refine F.JD eY Dt!;obtain⟨a,ns,rfl,hS,hlen,k⟩:=h;refine v?;have HP:DI 1 _:=pi;have LF:DI 2 _:=pi;have lQ:DI 4 _:=pi;have aK:DI 5 _:=pi;refine xz 1 eY.nd (Bl Hs Ag (Bl Dg (CI! GC MC.mg MC.fn.kp MC.bd (CE! Ag)) Ag)) (Ad (UV 2 eY.nd (Lc Ca (Bl Dg (Bl F6 (CI! GC MC.mg MC.fn.kp MC.bd (CE! Ag)) Ag) Ag) Ag (A7 _))) (Ad (UV 3 eY.nd (Ub MmW GW lQ (by rfl) TW.cP bW P! Bg (r? O? (AS! GS LF MS.mg MS.fn.kp MS.bd (Aa FS Af))))) (Ad (UV 4 eY.nd (CI! GL ML.mg ML.fn.kp ML.bd (Aa O? Af))) (Ad (BO! (Do (Jd5 Jf9 FS (zK Ag) (zK Ag))) (Ba! 5 eY.nd) (Ad (A3 (Cr! GT MT.mg MT.fn.kp MT.bd P? SL (AS! GD lQ MD.mg MD.fn.kp MD.bd (Aa P? (Aa O? (Aa (pv 5) (r? Fz A?))))))) (Ae (Bf (Yu (Fx (AS! GR lQ MR.mg MR.fn.kp MR.bd (r? P? SL)))) Cf! A4)))) (Ae (Ay (AS! GR lQ MR.mg MR.fn.kp MR.bd (r? P? SL))))))));refine⟨_,rfl,a,ns,0,rfl,hS.sq,hlen,K!,K!,λv0=>⟨_,_,rfl,rfl,Cm! 5,_,_,rfl,rfl,?_⟩⟩;have o9:=DP v0 (show(5:Int)≠0 by decide);have hm1:=DB v0 (show(0:Int)<5 by decide);refine⟨_,rfl,a,ns,0,rfl,hS.sq,hlen,K!,K!,λv1=>⟨_,_,rfl,rfl,⟨K!,K!⟩,_,_,rfl,rfl,Cm! 2,rfl,?_⟩⟩;generalize n? (V.int (v1 / 30 % 2)=V? 1)=fr;obtain⟨m,em,m1,m5⟩:∃m:Nat,V.int (1+v0 % 5)=V? f?/\1<=m/\m<=5:=⟨(1+v0 % 5).toNat,by rw[FM BJ],E!,E!⟩;rw[em];refine⟨_,rfl,_,rfl,a,ns,rfl,hS.sq,hlen,λsh H1 s1 nQ=>?_⟩;have lY:=hS.keep (HN s1);intro p dx np bL oF;refine⟨p,dx,f?,sh,rfl,Ac,E!,E!,λW H2 S1 e1 e2 e3 e4 e5 e6 e7 e8 lJ=>p? ?_⟩;have uK:Bh H1 (upd (upd H1 dx (.own p)) p (.ins CW dx [])):=λb o e=>FB (Ab (Aj e np)) (Ab (Aj e bL)) e
 have s2:Bh H1 H2:=λb o e=>lJ b o (uK b o e) (Aj e np);have hS2:=lY.keep (HN s2);clear uK lJ np bL oF;rw[DT] at e7;have W0:Bf! H2 Ab! 0 [] []:=WI.start S1 e2 e3 e4 e5 e6 e7 e8 m1 m5 (Z! e1 nQ);refine⟨_,rfl,m,rfl,E!,λfl F H3 s3 fresh fa fh fo fc=>?_⟩;have hS3:=hS2.keep (HN s3);have B0:Du! H3 Ab! 0 [] []:=Bt.start (W0.same s3) (v! (by obtain⟨o,e,_⟩:=W0.wa.some_at hb;exact⟨o,e⟩)) fresh fa fh fo fc e7 e8;refine⟨_,rfl,2,rfl,62,rfl,a,_,rfl,hS3.sq,λcl W_=>⟨cl,rfl,CA! Ac,?_⟩⟩;have s5:=q? .BC BD! W_;have wu:AU! (upd H3 cl (.BC BD!)) cl BD!:=Ac;generalize upd H3 cl (.BC BD!)=H5 at s5 wu;have q3:cl≠W.hs:=λz=>by rw[z] at W_;rw[B0.wi.wa.hs] at W_;cases W_
 have q4:cl∉Ec fl F:=λz=>by obtain⟨o,e,_⟩:=fa.has z;rw[W_] at e;cases e
 have tK:=Jle (ns.map V.int);obtain⟨cs,iR⟩:=Jfn ns (T! 2) (some 62);refine Dd! Io cl (L5 Be! (T! 2) (some 62)) (λj σ Hc=>∃(W':FK)(D':z?)(al':B?)(UM:KB)(F':LO)(u4:Av!),σ=[i! a,A! (.int f?),A! (.bl fr),Bh!,IN,u4]/\Bt CW C CP CI K Hc p W' D' m j al' UM fl F'/\W'.hs=W.hs/\cl∉Aq!/\AU! Hc cl BD!) ⟨W,_,[],[],F,none,rfl,B0.same s5,rfl,q4,wu⟩ (λj σ Hc _ h=>by obtain⟨_,_,_,_,_,_,_,_,_,_,h⟩:=h;exact DU.of h) ?_;.rintro j x σ Hc hj ⟨W1,D1,mC,gP,F1,u4,rfl,Sj,ew,nf,ec⟩;have dq:j<60:=BQ CH! tK;(obtain⟨c,rfl⟩:∃c,x=V? c:=by rw[iR,ZH] at hj;cases hc:cs[j]? with | none=>rw[hc] at hj;cases hj | some c=>rw[hc] at hj;exact⟨c,(ZO hj).symm⟩);refine⟨_,rfl,_,rfl,_,rfl,_,rfl,_,rfl,_,rfl,p,W1,D1,m,j,mC,gP,c,fr,rfl,Sj.wi,dq,λx1 Hb dd sb ex va=>?_⟩;have Sb:=Sj.same sb;refine⟨p,fl,x1,W1,D1,m,j,mC,gP,F1,dd,rfl,ex,Sb,dq,va,λv Hd W2 D2 mB tN F2 bt bfr nf2 p6=>?_⟩;have l9:=B! sb ec;have o1:=Sb.wi.wa.RK l9 (Z! ew q3);(have o2:cl∉gP.flatMap Cy:=λz=>by obtain⟨y,hy,hb⟩:=CV.mp z;obtain⟨o,e,_,nl,_⟩:=(Sb.wi.at_ y hy).has hb;rw[l9] at e;cases e;exact nl _ rfl);have ecd:=bfr cl _ l9 o1 o2 nf;refine⟨_,rfl,_,rfl,p,fl,W2,D2,m,j+1,mB,tN,F2,rfl,bt,dq,λHe se=>?_⟩;exact GE (By ⟨W2,D2,mB,tN,F2,_,rfl,bt.same se,by rw[p6,ew],nf2 cl _ l9 o1 o2 nf,B! se ecd⟩)
 .rintro σ Hc ⟨W1,D1,mC,gP,F1,u4,rfl,Sj,ew,nf,ec⟩;exact⟨_,rfl,_,rfl,p,fl,W1,D1,m,_,mC,gP,F1,rfl,Sj,tK,λHa sa=>k Ha⟩
universe E
universe E K62
universe N K62
open PySem L2 FX
structure MeI(K:W.Frag)(C:Addr)(x q:Str)(st:Stmt)(f:Addr)(fd:FuncData):Prop where
 a:W.findIn K (G! C) x=A! (some (.ref f))
 i:W.isFn K (G! f)=true
 fn:L? x q st
structure GI(K:W.Frag)(x:Str)(st:Stmt)(f:Addr)(fd:FuncData):Prop where
 a:K? x f
 fn:L? x x st
structure RA(K:W.Frag)(x:Str)(st:Stmt)(ps:am)(f:Addr)(fd:FuncData):Prop extends GI K x st f fd where
 b:Binds K fd ps []
theorem RA.SX{K:W.Frag}{mg:BG!}{hp:Heap}{x:Str}{st:Stmt}{f:Addr}{fd:FuncData}{ps:am}(m:RA K x st ps f fd)(X:K.In hp)(G:BE! hp.Ns):D? x st ps f fd:=⟨m.fn,m.b,G? m.a⟩
structure CI(K:W.Frag)(C:Addr):Prop where
 pg:W.plainGet K C Str.empty=true
 hd:W.hasDictIn K C=true
 po:W.plainOver K C=true
 sa:W.findIn K (G! C) "__setattr__"=A! (some (.builtin "object.__setattr__"))
 mm:W.makesIn K C=true
 kc:W.keepIn K (G! C)=true
def Bd(x q:Str)(st:Stmt)(ps:am):Prop:=∀(kV doc pm:Value)(an:Option Addr)(D_ ct:Value)(us:List Value),us.length=ps.length->bindArgs (W.fnOf x q (N7 st) (Hu st) (Ak st) .none kV doc pm an D_ ct) ⟨us,[]⟩=pure (ps.zip us)
theorem MeI.mth{K:W.Frag}{C:Addr}{x q:Str}{st:Stmt}{f:Addr}{fd:FuncData}{ps:am}(m:MeI K C x q st f fd)(h:Bd x q st ps:=by intro _ _ _ _ _ _ us hl;rcases us with _|⟨_,_|⟨_,_|⟨_,_|⟨_,_|⟨_,_|⟨_,_|⟨_,_⟩⟩⟩⟩⟩⟩⟩<;>first|(cases hl;done)|rfl):DG K C x q st ps f fd:=⟨m.fn,m.fn.binds h,⟨m.a,m.i,m.fn.kp⟩⟩
theorem GI.gdi{K:W.Frag}{x:Str}{st:Stmt}{f:Addr}{fd:FuncData}{ps:am}(m:GI K x st f fd)(h:Bd x x st ps:=by intro _ _ _ _ _ _ us hl;rcases us with _|⟨_,_|⟨_,_|⟨_,_|⟨_,_|⟨_,_|⟨_,_|⟨_,_⟩⟩⟩⟩⟩⟩⟩<;>first|(cases hl;done)|rfl):RA K x st ps f fd:=⟨m,m.fn.binds h⟩
theorem all_mk{l:W.OpenLaw}{w:World}{K:W.Frag}{h:Heap}{mg:BG!}{fa C CW CP CQ NH XH XN XM NL XW fI v9 vt fM wG v8 wL wM fGi fPs wK v3 fTo fNe fSp fQH fPR fAR fLo fGb wF wH vz fQN fQG vy fPP fPL fPT fWM sW jO jV jU jN jQ fWH jM jP jT sV sX sU fP1 fR1 fC1 fSu fHg wJ wI fSh wD fIF fIS wC wB wA jW jY jX jR jZ jS vx fRc fFl fHd v_ fRl ja v7 fW:Addr}{dI dPI dWI dM xH xB xN xO dGi dPs xM w_ dTo dNe dSp dQH dPR dAR dLo dGb xG xI wz dQN dQG wy dPP dPL dPT dWM sr jg jo jn jf ji dWH je jh jm sk su sj dP1 dR1 dC1 dSu dHg xK xJ dSh dII dIF dIS xF xE xD jq js jr jj ju jk wx dRc dFl dHd xC dRl jv xA dW:FuncData}(X:K.In h)(G:BE! h.Ns)(UT:L! mg "law" (G! fa))(aC:K? "House" C)(aCW:K? "World" CW)(aCP:K? "Post" CP)(aCQ:K? "Inquiry" CQ)(aNH:K? "NoHouse" NH)(aXH:K? "NotHeld" XH)(aXN:K? "NotNear" XN)(aXM:K? "Missing" XM)(aNL:K? "NoLetter" NL)(aXW:K? "NoWeight" XW)(xNH:AK! NH)(xXH:AK! XH)(xXN:AK! XN)(xXM:AK! XM)(xNL:AK! NL)(xXW:AK! XW)(sXW:W.mroIn K XW (G! XW)=A! true)(hI:Cp! C "House.__init__" mh fI dI)(hPI:Cp! CP "Post.__init__" T1 v9 dPI)(hWI:Cp! CW "World.__init__" Ys vt dWI)(mM:Ao! "make" "House.make" ml fM dM)(mFr:DG K C "free" "House.free" mZ (M? "b") wG xH)(mPa:DG K C "part" "House.part" mn [d!,"b","share"] v8 xB)(mCa:Ct! "came" "House.came" mW wL xN)(mAd:Ct! "added" "House.added" T8 wM xO)(mGi:Ct! "given" "House.given" T6 fGi dGi)(mPs:DG K C "passed" "House.passed" Ny [d!,"b","share","mine"] fPs dPs)(mCl:Ao! "clean" "House.clean" T7 wK xM)(mSt:Ao! "state" "House.state" Oq v3 w_)(mTo:A2! "told" "House.told" Z5 fTo dTo)(mNe:A2! "is_near" "House.is_near" Jw fNe dNe)(mSp:A2! "is_spent" "House.is_spent" Tu fSp dSp)(mQH:A2! "need_in_hand" "House.need_in_hand" Ho fQH dQH)(mPR:DG K C "part_record" "House.part_record" Tz (M? "b") fPR dPR)(mAR:Ct! "add_to_record" "House.add_to_record" V5 fAR dAR)(mLo:DG K C "lose" "House.lose" Q3 (M? "things") fLo dLo)(mGb:Ao! "give_back" "House.give_back" V2 fGb dGb)(mHo:DC! AC "House.hold" mf wF xG)(mDr:DC! "drop" "House.drop" mX wH xI)(mTa:DC! "take" "House.take" Z7 vz wz)(mQN:A2! "need_near" "House.need_near" J3 fQN dQN)(mQG:DC! "need_holding" "House.need_holding" K4 fQG dQG)(mTi:Ao! "tick" "House.tick" Z6 vy wy)(mPP:DG K CP "put" "Post.put" K3 [d!,"kind","sender","goal","about"] fPP dPP)(mPL:DG K CP "letters" "Post.letters" Jc X? fPL dPL)(mPT:DG K CP "taken" "Post.taken" Nz (M? "n") fPT dPT)(mWM:re "make" "World.make" Tq fWM dWM)(mWFr:DG K CW "free" "World.free" Ts (B6! "b") sW sr)(mWSe:B9! "send" "World.send" To "g" jO jg)(mWCl:re "clean" "World.clean" Nx jV jo)(mWDe:DG K CW "deliver" "World.deliver" Iy (M? "n") jU jn)(mWSt:re "state" "World.state" K0 jN jf)(mWLe:DG K CW "letters" "World.letters" Gs X? jQ ji)(mWH:re "house" "World.house" Em fWH dWH)(mWWe:Ax! "weight_came" "World.weight_came" Kz jM je)(mWPa:Ax! "pass_came" "World.pass_came" Tp jP jh)(mWGb:DG K CW "give_back" "World.give_back" Oo (B6! "records") jT jm)(mWHo:B9! AC "World.hold" Tr "a" sV sk)(mWDr:B9! "drop" "World.drop" Tt "a" sX su)(mWTa:B9! "take" "World.take" Tn "a" sU sj)(mP1:RA K "parted" K2 ["weight"] fP1 dP1)(mR1:RA K "reached" Fw ["starts",At] fR1 dR1)(mC1:RA K "_law_cell" V4 BB! fC1 dC1)(mSu:RA K "_law_spun" Z9 [T0,AX!] fSu dSu)(mHg:RA K "_law_holding" K7 [s?,GM] fHg dHg)(mDe:RA K "_law_deed" V3 AJ! wJ xK)(mDo:RA K "_law_do" kj CO! wI xJ)(mSh:RA K Bq! Tv d? fSh dSh)(hII:Cp! CQ "Inquiry.__init__" T4 wD dII)(mIF:DG K CQ "first" "Inquiry.first" N1 [d!,"h","tick","state"] fIF dIF)(mIS:DG K CQ "second" "Inquiry.second" K5 (B6! "tick") fIS dIS)(mIL:DG K CQ "still" "Inquiry.still" N0 X? wC xF)(mIR:DG K CQ "result" "Inquiry.result" K6 X? wB xE)(mLH:DG K C "let" "House.let" mj (M? "things") wA xD)(mWAs:re "ask" "World.ask" Z4 jW jq)(mWAc:Ax! "ask_came" "World.ask_came" Iz jY js)(mWAn:Ax! "answer_came" "World.answer_came" Fk jX jr)(mWLc:Ax! "let_came" "World.let_came" Iw jR jj)(mWAa:DG K CW "ask_all" "World.ask_all" Ie [d!,De!,"n","turn"] jZ ju)(mWLa:DG K CW "let_all" "World.let_all" K1 [d!,De!,"n"] jS jk)(mUn:RA K "unreached" Hn ["states"] vx wx)(mRc:RA K "recorded" Ja ["states"] fRc dRc)(mFl:RA K Bp! mY WP fFl dFl)(mHd:RA K AY! T5 AG! fHd dHd)(mNo:RA K Di! T3 AH! v_ xC)(mRl:RA K Dl! Jb Ac! fRl dRl)(mSp2:RA K Bn! Z8 AF! ja jv)(mRi:RA K Br! Tw sK v7 xA)(hW:GI K "law" gM fW dW)(cC:CI K C)(nC0:KM "number")(nC1:KM "made")(nC2:KM "ticks")(nC3:KM "hand")(nC4:KM "outs")(nC5:KM At)(nC6:KM "records")(cCW:CI K CW)(nCW0:db "share")(nCW1:db "houses")(nCW2:db "post")(nCW3:db "inquiries")(nCW4:db "finds")(nCW5:db "enclosed")(cCP:CI K CP)(nCP0:W.findIn K (G! CP) "latest"=A! none)(nCP1:W.findIn K (G! CP) "waiting"=A! none)(cCQ:CI K CQ)(nCQ0:CC! "many")(nCQ1:CC! "states")(nCQ2:CC! "first_ticks")(nCQ3:CC! "second_ticks")(z0:T? "len")(z1:T? "range")(z2:T? "tuple")(z3:T? "sorted")(z4:T? "isinstance")(z5:T? "list")(z6:T? "dict")(z7:T? "max")(z8:T? "int")(z9:T? "bool") : ∃fd:FuncData,(∀(s:Shared)(v:Value),BindsTo s fd ⟨[v],[]⟩ [(Aa!,v)])/\∀base:Heap,K.In base->BE! base.Ns->EO l.prog w K mg base XI 9 fa fd d? (Z1 K):=by have e:=UT.symm.trans (LP X G hW.a);cases e;have y0:=Q? z0;have y1:=Q? z1;have y2:=Q? z2;have y3:=Q? z3;have y4:=Q? z4;have y5:=Q? z5;have y6:=Q? z6;have y7:=Q? z7;have y8:=Q? z8;have y9:=Q? z9;have gC:=G? aC;obtain⟨pgC,hdC,poC,saC,mkC,kcC⟩:=cC;have gCW:=G? aCW;obtain⟨rL,sL,rH,qy,rY,rj⟩:=cCW;have gCP:=G? aCP;obtain⟨rN,sP,rK,q8,rb,rm⟩:=cCP;have gCQ:=G? aCQ;obtain⟨rM,sM,rJ,qz,rZ,rl⟩:=cCQ;have gNH:=G? aNH;have gXH:=G? aXH;have gXN:=G? aXN;have gXM:=G? aXM;have gNL:=G? aNL;have gXW:=G? aXW;obtain⟨aI,iI,FI⟩:=hI;have bI:=DV! (M? "number") aI iI FI;have qS:Mk K C fI:=⟨mkC,aI,iI,kcC⟩;obtain⟨xT,vE,zp⟩:=hPI;have bPI:=DV! X? xT vE zp;have tF:Mk K CP v9:=⟨rb,xT,vE,rm⟩;obtain⟨xS,vD,zi⟩:=hWI;have bWI:=DV! (B7! "many") xS vD zi;have tE:Mk K CW vt:=⟨rY,xS,vD,rj⟩;replace mP1:=mP1.SX X G;replace mR1:=mR1.SX X G;replace mC1:=mC1.SX X G;replace mSu:=mSu.SX X G;replace mHg:=mHg.SX X G;replace mDe:=mDe.SX X G;replace mDo:=mDo.SX X G;replace mSh:=mSh.SX X G;obtain⟨xU,vF,zu⟩:=hII;have bII:=DV! (M? "many") xU vF zu;have tG:Mk K CQ wD:=⟨rZ,xU,vF,rl⟩;replace mUn:=mUn.SX X G;replace mRc:=mRc.SX X G;replace mFl:=mFl.SX X G;replace mHd:=mHd.SX X G;replace mNo:=mNo.SX X G;replace mRl:=mRl.SX X G;replace mSp2:=mSp2.SX X G;replace mRi:=mRi.SX X G;have FW:=hW.fn;have TW:DX! NH:=⟨⟨rL,sL,rH,qy⟩,nCW0,nCW1,nCW2,nCW3,nCW4,nCW5,gCW,⟨gNH,xNH⟩⟩;have TP:L8 K mg CP NL:=⟨⟨rN,sP,rK,q8⟩,nCP0,nCP1,gCP,⟨gNL,xNL⟩,y5⟩;have Tx:mO mg:=⟨y6,y5,y7⟩;have TI:K62F.RG K mg CQ:=⟨⟨rM,sM,rJ,qz⟩,nCQ0,nCQ1,nCQ2,nCQ3,gCQ⟩;have TF:K62F.j8 mg:=⟨y2,y3⟩;have T:Txt K mg C XH XN XM XW:=⟨⟨pgC,hdC,poC,saC⟩,nC0,nC1,nC2,nC3,nC4,nC5,nC6,gC,⟨gXH,xXH⟩,⟨gXN,xXN⟩,⟨gXM,xXM⟩,⟨gXW,xXW⟩,y0,y1,y2,y3,y4⟩;have z:=FW;obtain⟨⟨oc,od,kV,doc,pm,an,D_,ct,cI,rfl,lk,cd⟩,kp⟩:=z;refine⟨W.fnOf "law" "law" (N7 gM) (Hu gM) (Ak gM) .none kV doc pm an D_ ct,λs v=>.of_eq rfl,λbase _ _=>?_⟩;generalize l.prog=P;have za:CF! v3 w_ (Ku C K):=Jek mSt.fn T mTo.fn mTo.bd mTo.mt;have j':Au! jN jf Al! (Gp CW C CP NH K):=Jb6 mWSt.fn T TW mWH mSt (FX.EO.TK za);have GTi:Go vy wy X? (Yi C):=zJ mTi.fn T;have GCa:z! wL xN [d!,"b","weight"] (Yp C):=Jg7 mCa.fn T mNe mAR;have GAd:z! wM xO [d!,"b","weight"] (Tj C):=Jev mAd.fn T mAR;have GWe:CZ! jM je Am! Gn:=Yv mWWe.fn T TW mCa GCa mAd GAd mGi;have tH:z! jP jh Am! (Ks CW C CP):=Jed mWPa.fn T TW TP mPs mPP;have GPt:Au! v8 xB (B7! "b") (Yk C XH XW):=Jgy mPa.fn T mNe mQH mPR mP1;have GSd:EQ 4 jO jg [d!,"h","g","b"] (Nv CW C CP XH XW):=Jec mWSe.fn T TW TP mWH mPa GPt mSp mPP;have ze:CF! jQ ji (Hl CW C CP):=Wj mWLe.fn TW TP mPL;have GFr:EQ 2 wG xH (M? "b") (Tg C XH):=Jg3 mFr.fn T mQH;have GHo:Au! wF xG [d!,"a","b"] (Tf C XH XN):=Jg2 mHo.fn T mNe mQH mQN;have GDr:EQ 4 wH xI [d!,"a","b"] (Th C XH XN XM):=Jg5 mDr.fn T mNe mQH mQN mQG;have GTa:EQ 4 vz wz [d!,"a","b"] (Sy C XH XN XM):=Jgv mTa.fn T mNe mQH mQN mQG;have GMk:EQ 1 fM dM X? (Te C):=FX.EO.TK (Jgz mM.fn T);have GCh:CF! wK xM (Ti C):=Jeu mCl.fn T Tx mR1 mLo mGb;have zZ:z! jT jm (B6! "records") (Nw CW C CP):=Jeh mWGb.fn TW TP mPP;have GWC:CZ! jV jo Al! Kt:=Jb7 mWCl.fn T TW mWH mCl GCh mWGb zZ;have zg:z! jZ ju [d!,De!,"n","turn"] (Gq CW C CP K):=Yx mWAa.fn T TW TP mPP;have GAc:Dn! 3 jY js Am! (Fv CW C CP K):=Wn mWAc.fn T TW TP mTi mSt za mPP;have GLh:z! wA xD (M? "things") (Yl C):=Jg1 mLH.fn T Tx mLo mGb;have GLc:CZ! jR jj Am! Fu:=Wk mWLc.fn T TW mLH GLh mWGb zZ;have GUn:z! vx wx ["states"] (K62F.LK K):=K62F.RT mUn.fn TF mR1 mRc;have GIL:Go wC xF X? (K62F.RM CQ):=K62F.YM mIL.fn TI T.sorted;have GIR:Dn! 3 wB xE X? (K62F.P_ CQ K):=K62F.WD mIR.fn TI mIL GIL mUn GUn;have GLa:ut jS jk [d!,De!,"n"] Me CQ:=Yw mWLa.fn T TW TP TI mIR GIR mPP;have GAn:Bd! 5 jX jr Am! Of CQ:=Jgt mWAn.fn T TW TI mIF mIS mWAa zg mWLa GLa;have GAs:Au! jW jq Al! (Sx CW C CP CQ):=Jgs mWAs.fn T TW TI mWH tG zu bII mWAa zg;have GDl:EQ 6 jU jn (M? "n") (Sw CW C CP CQ K):=Jgr mWDe.fn TW TP mPT mWWe GWe mWPa tH mWAc GAc mWAn GAn mWLc GLc;have GDo:EQ 7 wI xJ CO! (qX CW C CP CQ NH XH XN XM XW K):=Jk0 mDo.fn TW ⟨mWM,mWHo,mWDr,mWTa,mWFr,mWSe,mWCl,mWAs,mWDe,AT! (Jee mWM.fn T TW mWH mM GMk).mono,AT! (Jeg mWHo.fn T TW mWH mHo GHo).mono,Jej mWDr.fn T TW mWH mDr GDr,Jeb mWTa.fn T TW mWH mTa GTa,AT! (Jei mWFr.fn T TW mWH mFr GFr).mono,AT! GSd.mono,AT! (FX.EO.TK GWC).mono,AT! GAs.mono,GDl⟩;have GDe:ut wJ xK AJ! Yn CQ:=Jg6 mDe.fn T TW mSu mHg mWSt j' mWLe ze;have GNo:z! v_ xC AH! Tb:=Jeq mNo.fn mHd;have tJ:Bd! 8 ja jv AF! Yj CQ:=Jgw mSp2.fn T TW sXW mDo GDo mWLe ze mNo GNo;have GRi:ut v7 xA sK Ta CQ:=Jen mRi.fn T TW mWSt j' mRl (Wp mRl.fn);exact Ji9 FW T TW tE bWI (Jef zi T TW TP qS FI bI tF zp bPI) mC1 mSh mFl (Jg4 mFl.fn T) mSp2 tJ mDe GDe mRi GRi
theorem walk{l:W.OpenLaw}{q:Program}{loose:am}{XP:(BG!)->Heap->Prop}{YP:World->Heap->Prop}{d:DefRec}{K:Params->W.Frag}(hn:l.most=A! 63)(iA:d.params.defaults=[])(hY:∀(w:World) (h:Heap),YP w h->(K w.params).In h)(F:∀(w:World) (mg:BG!) (fa:Addr) (h:Heap),(K w.params).In h->BE! h.Ns->L! mg d.name (G! fa) -> ∃fd:FuncData,(∀(s:Shared) (u:Value),BindsTo s fd ⟨[u],[]⟩ [(Aa!,u)])/\∀base:Heap,(K w.params).In base->BE! base.Ns->EO l.prog w (K w.params) mg base XI 9 fa fd d? (Z1 (K w.params))) : W.WalkO q loose XP YP l.row.toRowW d [] (λf vs=>PySem.call f vs) :=L2.bA (n:=63) (k:=9) (x:=Aa!) (CX:=λw=>XI) (sp:=λw=>Z1 (K w.params)) hn (K!) iA ⟨rfl,K!,K!⟩ hY F (λ_ H a ns hl hO hS=>⟨a,ns,rfl,ae.of hO hS,hl,λ_=>rfl⟩) λ_ _ _ _ _ z=>z
end
end K62
open PySem PySem.W PyProof.Rows
set_option maxRecDepth 100000 in
set_option maxHeartbeats 0 in
theorem PySem.Challenge.cw_farhold_k62_whole_nothing_reached_goes_holds : PySem.Challenge.rw_farhold_k62_whole_nothing_reached_goes.Holds := by
 w_on;o_law;k_head;(case hw=>w_witness2)
 k_fill
 refine K62.walk (l:=PySem.Challenge.rw_farhold_k62_whole_nothing_reached_goes) rfl rfl (fun w h Y=>W.kIn_of Y) ?F
 case F =>
  intro w mg fa h KX G hmg
  refine' K62.all_mk KX G hmg ?aC ?aCW ?aCP ?aCQ ?aNH ?aXH ?aXN ?aXM ?aNL ?aXW ?xNH ?xXH ?xXN ?xXM ?xNL ?xXW ?sXW ?hI ?hPI ?hWI ?mM ?mFr ?mPa ?mCa ?mAd ?mGi ?mPs ?mCl ?mSt ?mTo ?mNe ?mSp ?mQH ?mPR ?mAR ?mLo ?mGb ?mHo ?mDr ?mTa ?mQN ?mQG ?mTi ?mPP ?mPL ?mPT ?mWM ?mWFr ?mWSe ?mWCl ?mWDe ?mWSt ?mWLe ?mWH ?mWWe ?mWPa ?mWGb ?mWHo ?mWDr ?mWTa ?mP1 ?mR1 ?mC1 ?mSu ?mHg ?mDe ?mDo ?mSh ?hII ?mIF ?mIS ?mIL ?mIR ?mLH ?mWAs ?mWAc ?mWAn ?mWLc ?mWAa ?mWLa ?mUn ?mRc ?mFl ?mHd ?mNo ?mRl ?mSp2 ?mRi ?hW ?cC ?nC0 ?nC1 ?nC2 ?nC3 ?nC4 ?nC5 ?nC6 ?cCW ?nCW0 ?nCW1 ?nCW2 ?nCW3 ?nCW4 ?nCW5 ?cCP ?nCP0 ?nCP1 ?cCQ ?nCQ0 ?nCQ1 ?nCQ2 ?nCQ3 ?z0 ?z1 ?z2 ?z3 ?z4 ?z5 ?z6 ?z7 ?z8 ?z9
  case aC|aCW|aCP|aCQ|aNH|aXH|aXN|aXM|aNL|aXW=>k_is
  case xNH|xXH|xXN|xXM|xNL|xXW=>k_exc
  case sXW=>k_is
  case hI|hPI|hWI=>exact⟨by k_is,by k_is,⟨⟨_,_,_,_,_,_,_,_,_,rfl,by k_is,by k_is⟩,by k_is⟩⟩
  case mM|mFr|mPa|mCa|mAd|mGi|mPs|mCl|mSt|mTo|mNe|mSp|mQH|mPR|mAR|mLo|mGb|mHo|mDr|mTa|mQN|mQG|mTi|mPP|mPL|mPT|mWM|mWFr|mWSe|mWCl|mWDe|mWSt|mWLe|mWH|mWWe|mWPa|mWGb|mWHo|mWDr|mWTa=>exact K62.MeI.mth ⟨by k_is,by k_is,⟨⟨_,_,_,_,_,_,_,_,_,rfl,by k_is,by k_is⟩,by k_is⟩⟩
  case mP1|mR1|mC1|mSu|mHg|mDe|mDo|mSh=>exact K62.GI.gdi ⟨by k_is,⟨⟨_,_,_,_,_,_,_,_,_,rfl,by k_is,by k_is⟩,by k_is⟩⟩
  case hII=>exact⟨by k_is,by k_is,⟨⟨_,_,_,_,_,_,_,_,_,rfl,by k_is,by k_is⟩,by k_is⟩⟩
  case mIF|mIS|mIL|mIR|mLH|mWAs|mWAc|mWAn|mWLc|mWAa|mWLa=>exact K62.MeI.mth ⟨by k_is,by k_is,⟨⟨_,_,_,_,_,_,_,_,_,rfl,by k_is,by k_is⟩,by k_is⟩⟩
  case mUn|mRc|mFl|mHd|mNo|mRl|mSp2|mRi=>exact K62.GI.gdi ⟨by k_is,⟨⟨_,_,_,_,_,_,_,_,_,rfl,by k_is,by k_is⟩,by k_is⟩⟩
  case hW=>exact⟨by k_is,⟨⟨_,_,_,_,_,_,_,_,_,rfl,by k_is,by k_is⟩,by k_is⟩⟩
  case cC=>constructor<;>k_is
  case nC0|nC1|nC2|nC3|nC4|nC5|nC6=>k_is
  case cCW=>constructor<;>k_is
  case nCW0|nCW1|nCW2|nCW3|nCW4|nCW5=>k_is
  case cCP=>constructor<;>k_is
  case nCP0|nCP1=>k_is
  case cCQ=>constructor<;>k_is
  case nCQ0|nCQ1|nCQ2|nCQ3|z0|z1|z2|z3|z4|z5|z6|z7|z8|z9=>k_is
