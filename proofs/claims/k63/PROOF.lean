import PyProof.Rows.All
import Wide.All
import OpenK.AllK
import Wide.FinOn
import Lean
import PyProof.EqAt
import PyProof.EqKinds
import PyProof.TupleCall
import PySem.Challenge.RW_farhold_k63_whole_calm
set_option linter.all false
def AB:=@if_neg
def AD:=@List.mem_filter
def AE:=@if_pos
def AF:=@List.mem_map
def AG:=@List.append_nil
def AJ:=@List.mem_of_find?_eq_some
def AK:=@List.map_cons
def AL:=@List.map_map
def AM:=@List.nodup_append
def AN:=@List.nodup_cons
def AQ:=@List.append_assoc
def AR:=@PySem.Heap.lt_size
def AU:=@Nat.zero_le
def AV:=@Nat.le_trans
def AW:=@List.length_filter_le
def AY:=@Bool.false_ne_true
def BB:=@List.find?_eq_none
def BD:=@Int.le_refl
def BF:=@PySem.F.plainAttrs_list
def BG:=@List.size_toArray
def BH:=@List.mem_range
def BI:=@Nat.ne_of_lt
def BJ:=@List.mem_map_of_mem
def BK:=@Int.toNat_of_nonneg
def BL:=@List.length_cons
def BN:=@List.length_eq_zero_iff
def BQ:=@List.map_congr_left
def BR:=@of_decide_eq_true
def BS:=@List.take_length
def BU:=@List.flatMap_append
def BV:=@List.mem_cons
def BW:=@List.mem_iff_getElem?
def BX:=@List.find?_cons
def BY:=@List.flatMap_cons
def CA:=@List.length_nil
def CB:=@Nat.lt_of_lt_of_le
def CC:=@PySem.boot_len
def CD:=@List.length_take
def CF:=@List.sum_cons
def CJ:=@Int.emod_lt_of_pos
def CK:=@PySem.wpAny_dictEntries
def CL:=@List.not_mem_nil
def CM:=@List.length_range
def CN:=@List.getElem?_eq_none
def CO:=@List.mem_singleton
def CU:=@List.mem_flatMap
def CV:=@Int.emod_nonneg
def CY:=@List.nodup_nil
def CZ:=@Bool.false_eq_true
def Cn:=@Array.length_toList
def C_:=@Int.toNat_natCast
def DA:=@Nat.lt_irrefl
def DB:=@PySem.sizeLine_eq
def DC:=@PySem.Heap.get?_update_other
def DD:=@Nat.le_of_lt
def DE:=@List.find?_some
def DH:=@List.filter_cons
def DI:=@PySem.F.plainAttrs_dict
def DJ:=@List.take_add_one
def DL:=@PySem.wpAny_call_entry
def DR:=@PySem.F.type_list_append
def DS:=@PySem.F.slot_list_append
def DT:=@PyProof.Rows.boot_sorted
def DU:=@List.filter_eq_self
def DX:=@beq_eq_false_iff_ne
def DY:=@Nat.le_succ_of_le
def D_:=@List.length_singleton
def EA:=@Nat.ne_of_gt
def EC:=@PySem.wpAny_newObj_type
def ED:=@PySem.wpAny_holding
def EE:=@List.getElem_inj
def EF:=@List.flatMap_nil
def EG:=@PyProof.Rows.boot_tuple
def EJ:=@PySem.wpAny_mono
def EK:=@if_false
def EL:=@List.pairwise_map
def EN:=@Nat.le_succ
def EO:=@List.range_succ
def ER:=@List.filterMap_eq_nil_iff
def EU:=@List.take_append_drop
def EW:=@List.pairwise_cons
def EX:=@PySem.wpAny_dictEpoch
def E_:=@Nat.mul_le_mul_right
def FA:=@PySem.tupleKind_room_in1
def FD:=@List.getElem?_set
def FE:=@List.ext_getElem?
def FG:=@PySem.W.mg_none_of
def FK:=@List.filter_sublist
def FL:=@List.map_nil
def FR:=@PySem.F.slot_dict_get
def FU:=@List.perm_append_comm
def FV:=@PySem.Calls.callWith_builtin
def FZ:=@PySem.F.plain_extend_loop
def GB:=@PySem.wpAny_setField_rec
def GF:=@Nat.lt_succ_of_le
def GJ:=@PySem.MeetsSeq.plain_remove_loop
def GO:=@PySem.Heap.get?_update_self
def GX:=@Nat.not_lt
def GY:=@PySem.F.type_list_extend
def GZ:=@PySem.F.slot_list_extend
def HF:=@PySem.Calls.call_function_entry
def HH:=@List.length_pos_iff
def HI:=@List.filterMap_cons
def HK:=@or_false
def HP:=@PySem.wpAny_truthy_bool
def HQ:=@Nat.lt_succ_self
def HR:=@PySem.Obj.data_mapDictKeys
def HU:=@PySem.Calls.evalArgs_plain
def HV:=@PySem.Around.under_plainId
def H_:=@if_true
def IA:=@List.mem_filterMap
def IE:=@PySem.wpAny_callSpecial?_slot
def IF:=@PySem.wpAny_typeNameOfWhole_itemiter
def IG:=@PySem.wpAny_typeNameOfWhole_keyiter
def IH:=@PySem.F.slot_dict_itemiterator_next
def IJ:=@PySem.codeAny_mono
def IK:=@PySem.wpAny_Call_Name_kw
def IL:=@PySem.Calls.spliced_cons
def IS:=@PySem.wpAny_passesOwn
def IT:=@List.take_zero
def IU:=@List.getD_eq_getElem?_getD
def IV:=@PySem.F.slot_dict_keyiterator_next
def IY:=@PySem.wpAny_notOrdered_dict
def JA:=@PySem.mem_of_lookup
def JD:=@PySem.F.type_list_remove
def JE:=@PySem.F.slot_list_remove
def JF:=@PySem.F.slot_dict_values
def JG:=@PyProof.Rows.get?_update_seq
def JH:=@List.sum_append
def JP:=@PySem.call_meetsIn
def JQ:=@Nat.lt_of_le_of_lt
def JR:=@List.filter_append
def JS:=@List.append_of_mem
def KG:=@PySem.plainId_quiet
def KH:=@List.map_id'
def KI:=@Nat.le_of_lt_succ
def KJ:=@List.find?_append
def KL:=@List.filter_congr
def KN:=@PySem.wpAny_typeNameOf_keyiter
def KO:=@PySem.F.entry_dict_get
def KP:=@List.getElem?_set_self
def KU:=@PySem.size_of_entries
def KW:=@PySem.codeAny_builtin
def K_:=@PySem.F.slot_dict_pop
def LC:=@List.any_eq_true
def LD:=@Array.isEmpty_iff_size_eq_zero
def LM:=@PySem.W.hideAll_none
def LN:=@PySem.Calls.spliced_nil
def LW:=@List.mem_append
def MJ:=@PyProof.Rows.callWith_type1
def MO:=@PySem.W.mg_of
def MZ:=@beq_iff_eq
def M_:=@List.find?_map
def M':=@List.contains_cons
def NA:=@List.getElem?_append_right
def NB:=@Array.getElem?_eq_some_iff
def NQ:=@PySem.wpAny_execs_nil
def NT:=@List.mem_or_eq_of_mem_set
def NU:=@List.getElem?_append_left
def NX:=@PySem.Obj.isFreed_of_dict
def NY:=@List.foldl_append
def OH:=@PySem.W.KasT.kasWp_bind
def OI:=@PySem.F.type_dict_values
def OX:=@PySem.Obj.data_mapFields
def OY:=@Nat.le_add_right
def OZ:=@List.range'_succ
def O_:=@List.lookup_cons
def PD:=@List.getElem?_cons_succ
def P_:=@decide_false
def P':=@Nat.lt_trans
def QA:=@List.pairwise_lt_range
def QB:=@List.length_pos_of_mem
def QC:=@List.Perm.append_right
def QI:=@PySem.wpAny_Call_method
def QJ:=@List.filter_map
def QK:=@Bool.eq_iff_iff
def QZ:=@PySem.wpAny_newList
def RC:=@PySem.F.type_list_pop
def RD:=@PySem.F.slot_list_pop
def RE:=@List.filterMap_append
def RS:=@PySem.wpAny_forIn_list
def RT:=@Std.Legacy.Range.forIn_eq_forIn_range'
def TC:=@PySem.wpAny_isOneOf_itemiter
def YH:=@PyProof.Rows.listItems_at
def aN:=@PyProof.Rows.entry_list_sort
local macro_rules(kind:=Lean.Parser.Command.mutual)|s=>do
 let c:=s[1].getArgs
 if c[0]![1][1][0].getId != `Z then Lean.Macro.throwUnsupported
 let q:=fun(m:Lean.NameMap (Array Lean.Name×Lean.Syntax))(x:Lean.Syntax)=>x.rewriteBottomUp fun y=>if y.isIdent then match m.find? y.getId with|some (#[],b)=>b|_=>y else if y.isOfKind `Lean.Parser.Term.app then match m.find? y[0].getId with|some (p,b)=>if p.isEmpty then y else b.rewriteBottomUp fun z=>if z.isIdent then match p.findIdx? (·==z.getId) with|some i=>y[1][i]|_=>z else z|_=>y else y
 let e:=c[0]![1][3][1][1].getSepArgs
 let n<-`(noncomputable def a:=1)
 let mut m:={}
 for i in [0:e.size/2] do
  let h:=e[2*i]!
  let b:=q m e[2*i+1]!
  m:=if h.isIdent then m.insert h.getId (#[],b) else m.insert h[0].getId (h[1].getArgs.map (·.getId),b)
 let o<-(c.extract 1 c.size).mapM fun c=>do
  if c.isOfKind `Lean.Parser.Command.universe then
   let a:=c[1].getArgs
   if a[0]!.getId==`T then
    return Lean.mkNullNode ((a.extract 1 a.size).map fun i=>n.raw.rewriteBottomUp fun z=>if z.isIdent then Lean.mkIdent (.str `PySem.W.Fast s!"tw{i.getId.toString.foldl (fun n c=>n*52+if c.toNat<91 then c.toNat-65 else c.toNat-71) 0}") else z)
   else if a[0]!.getId==`S then `(section)
   else if a[0]!.getId==`N then `(namespace $(⟨a[1]!⟩))
   else if a.size==1 then `(end)
   else `(end $(⟨a[1]!⟩))
  else
   let c:=(q m c).rewriteBottomUp (·.setInfo .none)
   if [`Lean.Parser.Command.definition,`Lean.Parser.Command.abbrev,`Lean.Parser.Command.instance].contains c[1].getKind&&c[0].getArgs.all (·.isNone) then return c.setArg 0 n.raw[0] else return c
 return Lean.mkNullNode o
noncomputable section
mutual
def Z:=#[X?,Type _,
Q!,.inl,
j?,.inr,
E!,.int,
u?,.str,
Ev!,(nomatch e),
l!,.cons,
O!,.nil,
SB,xs.length<=sizeLine,
G?,.type,
p?,"list",
Eg!,kvs.length<=sizeLine,
Io!,Addr×Value,
a!,(·.1),
L!,.none,
ES!,λ_ _ q=>q,
CR! a,λb u e=>a,
S! a b,by rw[a];exact b,
Jx! a b,by subst z;rw[a] at mu;exact b,
Ck! a,by rw[a];simp,
Cm!,λz=>z,
Cq!,.local,
L?,.cell,
b?,X.calm=true,
J3!,b≠X.env.locals,
Es!,X.pn++AA,
T? a,λb o e=>a,
Eu!,s.heap.objs.size<=a,
M? a,λb hb=>a,
U? a b,by rw[a,b],
Cs!,{ s with heap:=h',toks:=t' },
B?,by simp,
KJ!,λ_ _ e=>e,
WF,by simpa using hb,
d!,{ s with heap:=h' },
q? a b,by rw[<-a];exact b,
Ex!,λ_ _=>False,
KN!,λ_ _ x=>x,
y?,.Name,
KO! a,λ_ _ _ H _ I h=>a,
C?,.bool,
r?,by decide,
Ez!,.Compare,
DR! a,λv s1 ⟨x,H1,I1,r1,q1⟩=>a,
DX!,b::rest,
KP! a,by intro AA s σ H Q I h;exact a,
BQ!,"tuple",
BR! a,by simpa using a,
CM! a,λD σ H=>a,
EH!,λ_ _ _=>False,
GM,(·.2),
wp a,∀b∈fp,a,
Ae!,"dict_itemiterator",
KT! a,λi h st b hb=>a,
Go a,λb o hb e=>a,
H!,by lia,
EQ!,i<=xs.length,
KV!,xs.length-i,
KW!,i<xs.length,
BT!,.builtin,
LK! a,by rw[a];lia,
LP!,"__init__",
BV! a,{ s with heap:=a },
Li! a,show a from rfl,
ET!,by simp at h,
Al! a b,show a from b,
xL a,a<=sizeLine,
CW!,λ_=>none,
Eb!,.Attribute,
BY!,A.handled=none,
Bc!,us++ds,
JI!,by simpa using h2,
En!,by simp[e],
J5!,kvs.length<sizeLine,
J6! a,by have:=a;lia,
Bm!,.Subscript,
Ew! a,λw' s3 I3 QL=>a,
KM!,A.units<cLine,
Ey! a b,if a then b else none,
CK!,xs[j]?,
C9!,j<xs.length,
E0! a b c,by rw[a,b];exact c,
KR!,ns.length<=n,
CO!,by simpa using e,
Gp!,"dict_keyiterator",
CT!,"StopIteration",
EV!,(·.2.1),
Ed! a b,by rw[a,b];rfl,
H8!,λc w' _ q=>q,
JM!,by simp[hi],
Hx!,by assumption,
Jb!,{ s with heap:=hh },
Cj! a,show a by lia,
J1!,j<L.length,
Cr!,i<as.length,
wT,"number",
UV,"made",
Uf,"ticks",
v6,"hand",
wE,"outs",
wP,"holds",
wS,"records",
Ac! a,λq hq=>a,
Ad!,by simp[BM],
KE! a,{ G with holds:=a },
Ct!,"dict_items",
KK!,by simpa using z,
Cw!,"ValueError.__new__",
CL!,{ s with heap:=h1 },
KS! b,λj a q e1 e2=>b,
CN! a b,if a then b else q,
ER!,"latest",
Gn!,"waiting",
Af!,"houses",
Ag!,"share",
Ah!,"post",
Ai!,"inquiries",
Go!,"finds",
Km!,"enclosed",
M! a b c,a b=some c,
H? a,List (a),
P! a,(.ref a),
I? a b,a->b->Prop,
IN a c,M! a b c,
IR a b,Inv X AA σ a b,
K! a,.ref a,
Aj! a,IR H a,
W! a b,a b=none,
B!,Aj! s,
g! a b,PE X a b,
CP! a b c d e f g,wpAny (model a b) c d e f g,
x! a,IN a o,
WP a b,M! H a b,
A!,Cx Kx,
C!,(H!),
D!,List V,
XV a,Option a,
Y!,(B?),
N? a b,RelV a b,
o! a,I? a Shared,
Ix a b,M! a x b,
BS! a,I? a Hp,
h! a b,(upd H a b),
V? a,W! H a,
CQ! a b,¬((a:Str)=b),
F!,List Value,
R! a,decide (a),
G!,H? (Addr×Obj),
c? a,(a:Int),
D? a b,ZR (a b),
i! a,⟨_,a⟩,
z? b c,M! b a c,
am,K! a,
U! a,some a,
I!,List α,
d? a,(a)=false,
J!,List Addr,
LF!,(as.map Value.ref),
LG! a,a AA s σ H _ I h,
y! a,j? a,
X!,List Int,
N!,o! Value,
O? a,Q! a,
CS! a b,{ cls:=G? a,data:=b },
LQ! a b,λσ H Q=>a σ H b,
AC,x! s.heap.get?,
z! a,E! a,
q! a b,(S! a b),
KE a b,λi=>a i b,
e? a,IN H a,
KF a b c d,⟨a,b,c,rfl,d⟩,
KM,‹_›,
BU! a,.fields a,
ap,List Key,
A?,(ZG _),
Le! a b c d,CP! prog w a b c d s,
T!,List Str,
AT a,W! a b,
Gq! a b,CP! X.prog X.w X.A a b X.xe s,
v!,List T2,
W? a b,Q (P! a) b,
V!,Str->XV Value,
BW! a b,absurd a b,
wv a b,S! (Ab a) b,
f? a b,a σ H1 b,
g?,q.2.1,
EU! a b,Le! A a b E,
At a b,⟨o,a,b⟩,
Ak! a,⟨a,[]⟩,
NE,BS! St,
EW! a,Vals a us,
h? a,a a!,
cr b,WP a b,
Z? a,(a b o e),
E? a,⟨a,?_⟩,
i?,P! it,
BX! a,a I.DM e,
Z! a,a (Ck I q Y!),
Am!,(e::es),
No,(i+1),
An! a b,IntsAre a b,
CU! a b,a (Ne.symm b),
j!,H? (κ×V),
EX!,P! f,
EY!,x! h'.get?,
CV! a,Ix a c,
k!,V? b,
G2! a b,(DZ (LG! a) b),
EZ! a,eval a X.env,
ww,(Q! rfl),
s?,ZU _ rfl,
CX!,s.heap.objs.size+1,
w!,P! a,
Op a,DZ (a) ?_,
Ea!,Ef caps,
bn a b,(seqObj p? a b),
bv a b c,Paired a b c,
Os a,(eval a X.env),
Ec! a,EU! a Q,
v4 a,⟨rfl,a⟩,
Ao! a b,M! a b o,
t?,K! d,
ca b,z? h.get? b,
HZ!,Value.ref a,
CY!,I? Hp VK,
F?,BM G,
ci a,(by exact a),
J?,x=am,
K?,[am],
Ap!,P! C,
PP,x! h.get?,
BZ! a b,⟨a,b,?_⟩,
Aq!,(as.map Value.ref).toArray,
P?,List Env,
S?,AR e,
Q?,XV Int,
R?,N? y u,
Ee! a b,LQ! a (λx H1=>b),
Ar!,ZT _ e,
Ba!,(h.lt C!),
As! a,(.ins C dx a),
Ch a b,ZR (m:=a) b,
L1! a b,a AA s1 σ H1 _ I1 b,
Y? a b,some (a b),
Rs a b c d,g! (a b c pos) d,
xz a,c? (a:Nat),
Bb! a,⟨_,a,rfl⟩,
a? a,CU! Cm a,
L2!,CV! X.env.cells.lookup,
Ca! a,MX a d es ep,
k?,u=HZ!,
Ef! a,IR H' a,
IO! a,Ix a Cq!,
l?,N? v u,
m? a,⟨_,rfl,a⟩,
db,Array Value,
Cb! a b c d,KF (K! a) b c d,
Cc! a,D.nx σ a,
Cd! a,Pv a σ H,
n?,MM P w H h,
o?,KV kvs vs,
ga,KE as.getD 0,
Ce!,Dc σ caps,
AA!,(L.map a!).getD,
Ih! a,a (env::outer),
v?,H? (Str×V),
In!,(I.tok _),
AB!,i! rfl,
w?,i! e,
Bd! a,(.A_ (a kV)),
Eh!,(ZS ?_),
Be! a,An! a ns,
AC! a b,PN X (compareOp a) b,
Bf!,[t.1,t.2],
x?,AX C H p G,
At! a b c,⟨a,b,rfl,c⟩,
Au! a,S! a q,
Bg! a,∀x c,L2!->a,
Db,p.1=k,
Av! a b,B!->a->b,
JK! a,LQ! t a,
EQ,(k,v),
JN!,EZ! e,
Ev,g! a ta,
FB,H? (ap×V),
FM,k _ _ ww e,
KB,Pm p n,
FS,absurd (show false=true from hs) AY,
Bh! a,CP! X.prog X.w A a Q E s,
Cf! a,Paired.length a,
SL a,a->Prop,
JW! a,(a:X!),
JY! a b c,Heap.SameBut a b c,
SC a,(a a!).Nodup,
SZ,List β,
Sc,H? (Key×V),
Ei! a,W? p a,
L3! a c,∀b o,a->c->EY!,
Tk a,At e a,
TD,EW! xs,
CZ! a,∀b o,AC->a,
Bl!,(VG P w),
Bi!,V.bl true,
Bj!,(AR e),
T0 a,Gq! a (EP X AA σ Q),
Cg!,V.int q.2,
Bk!,(.BE (as.map V.ref)),
UF,d? (x==("__debug__":Str)),
Ej! a b c,UW a it d b c ep,
Ek!,(relabel sc X.env).names.lookup,
Ch! a b,(q? a b),
ii a,(show a from r),
Jy! a,(show a from ry),
jp a,⟨o,a⟩,
Jz! a,(by rw[a] at z;cases z),
L4! a,{ s with toks:=s.toks+a },
lc,H? (T2×Int),
Ci! a b,a σ H λx H1=>b,
o0,BS! D!,
J0! a b,WP a (b xs),
L5! a,CS! p? a,
pi,AT H',
Cl! a,BW! rfl a,
re a,Ao! a d,
sB a,l! a ih,
sK a,(ZS (ZR a)),
Cn!,sp vs H Q E,
Co! a b c,CP! X.prog X.w X.A a b X.xe c,
El! a,wpAny _ _ a _ _ s,
sw,g! b tb,
ut,(.GV o u),
Cp! a b,∃m',m'<m/\W No m' a b,
L6!,[q.1.1,q.1.2],
AD! a,s.heap.push a,
L7!,(Ex!),
Em! a b c,(if a then b else c),
AE! a,(LK! a),
AF! a b,(a,K! b),
AG!,l.1=n,
AH! a b,M! h.get? a b,
J2! a,a (CX!),
AI!,H? (Str×Value),
AJ!,H? (Int×Addr),
AK!,K! b,
AL!,BS! Bool,
AM! a b,HT.lexLt a b=true,
AN! a b,KD K H a b,
AO! a b c d,y! ⟨a,b,c,d⟩,
AP!,O? rfl,
AQ!,Array DictEntry,
Eo! a,I? Hp (a),
AR!,DW K H a xs,
AS!,CS K H a xs,
AT!,(.A_ xs),
Ep!,(Ak st),
AU!,X.A.units+1<cLine,
J4! a b c,CP! prog w A a b E c,
AV!,Ca! s.heap,
AW!,Ef! s',
Eq!,(model prog w),
L8! a b,Lm a P w K mg base N qual scope f b A outer s H E,
L9! a,Inv X AA EV H' a,
AX!,g! o td,
AY!,bv R xs ys,
MA! a b c d,(Al! (DV X.prog X.w H s.heap a b) (I.DM c _ d)),
AZ!,(I.ok.hd hc),
Er! a,Int->Int->a,
Aa!,Pv (i+1),
Ab!,Gl X x,
Et! a b,W.findIn K Ap! a=some b,
MR! a,ET X.prog X.w Kx X.mg X.base a k f fd ps sp,
Aw! a b c,⟨σ,a,b,c⟩,
MS! a b,h? (backTo a (starEach b X.env)).any=false,
Ax! a,S! ZA a,
J7! a,∀p∈Es!,a,
Ay!,T? Ar!,
Az!,M? ?_,
A0!,λp hp=>?_,
A1!,List Expr,
A2!,H? (Str×Addr),
A3!,H? (Str×Nat),
A4!,P! D,
A5! a,W! H1 a,
A6!,c? n,
A7! b,z? h'.get? b,
J8! a b,a b (r?),
A8!,N? x u,
J9!,d? (a==sysModules),
A9! a b,y! ⟨a,b⟩,
BA!,Array Nat,
BB!,AB (B?),
BC! a,E! a 0,
KA! a b,Gq! a (b),
BD!,AE rfl,
BE! a,BW! a (DA _),
BF!,xs[i]?=some x,
BG!,BX! Nh,
BH! a b,PN X (binaryOp a) b,
KB! a c,∀b o,x! a->c,
KC! a b,Ec! (a b),
BI!,h! a o,
KD!,Cc! H,
BJ!,Cd! i,
KF! a b,F8 X (BT! a) b,
KG!,(p.getD i 0),
BK!,A.units+1<cLine,
BL!,I? α β,
MB! a b,a (DZ (LG! b) ?_),
KH! a b,Cb! s.heap.objs.size _ a b,
BM! a,wpAny M A a Q E s,
MT! a,NC X sc cl a (x::Ea!) s1 H1 fp AA,
MC! a b c,g! (.Call a b [] pos) c,
BN!,hf it Y!,
BO!,KT H kvs xs,
BP!,starEach (e::es) X.env=(false,JN!)::starEach es X.env,
KI! a b,(envOfC qual a s.heap.objs.size f b),
Bn!,(r?),
Bo! a,(wp a),
Bp!,(vs++QF),
Bq! a b,⟨a,rfl,b⟩,
Br! a,q? a z,
MU!,(as.map Value.ref).getD,
Bs! a b,(a EX! b),
Bt!,Aj! s',
Bu! a,WP d a,
Bv!,o! Unit,
MD!,G? BQ!,
Bw! a b,O? ⟨a,b⟩,
Bx!,X.N[i]?=some x,
By!,EW! vs,
Bz!,BX! Ng,
Cu!,(Bu P w),
B0!,GX.mp KM,
ME! a,ci (a KM),
MF! a,a X.env.scope x,
B1!,g! e te,
MG! a b,lt (p.getD a 0) b=true,
B2! a,a K C=true,
B3! a,.seq a n,
B4!,V->D!->CY!,
B5!,K.In s.heap,
B6!,L4! 1,
B7!,(.dT kvs),
MV! a,L5! (.seq a),
B8!,PA X Am! t,
KL! a,(putK kvs k a),
B9! a,JY! a s.heap h',
CA!,Binds Kx fd ps ds,
CB!,MR! CX,
MH!,λkv=>R! (kv.1=k),
CC! a,(eval a env),
CD!,λq=>(JW! L6!,q.2),
CE!,o.data=.dict es ep,
MI! a,∀b u,IN a u->IN h'.get? u,
CF!,(Mw ry),
CG!,Vals QF ds,
MW!,[⟨y? x px,iter,ifs,0⟩],
CH!,Jf CX X E,
MJ! a b c d,∃W:Nat->Nat->a,(∃m,W 0 m b c)/\d,
MK! a,λOJ H2=>tb a OJ H2,
ML!,(start N vs),
CI!,NC X sc cl s3.heap.objs.size (x::Ea!) s3 H3 fp AA,
CJ!,(.GV o (.dT kvs)),
MM! a b,⟨a,I.os,I.bare,I.base,I.loc,I.cell,I.free,I.I_,b,I.DM,I.len⟩,
MX! a,I.turned (t':=s.toks) a f0 f1 f3 f4 f5,
Cv! a,Value.type a,
Cx! a b c d,a (G2! b c) d,
Cy!,λb o e n hb hx=>?_,
Cz!,by rw[AL];rfl,
C0! a,∃EV H',L9! s'/\a,
C1!,x=z! i,
C2! a b,CM! (a σ H b),
C3!,(by cases h),
C4!,g?=a,
C5!,λt=>Bf!,
C6! a b,(a (Ak! b)),
C7!,List Keyword,
C8! a b,M! s.heap.get? a b,
DA!,P! b,
DB!,P! e,
DC!,P! d,
DD! a,I? a Heap,
DE! a b c,IR (h! a b) c,
DF!,K! ka,
DG! a,WP p a,
DH!,XV Addr,
DI! a,CQ! wT a,
DJ! a,CQ! UV a,
DK! a,CQ! Uf a,
DL! a,CQ! v6 a,
DM! a,CQ! wE a,
DN! a,CQ! wP a,
DO! a,CQ! wS a,
DP! a,D? ED a,
DQ! a b,WP a (.own b),
DS!,e? (Bd! k.map),
DT!,BU! vs,
DU! a c,∀b o,PP->a->c,
DV!,I.list hq,
DW!,I.tuple hq,
DY! a b,k _ _ (j? a) b,
DZ! a b c d,Ec! (a b c d),
Da! a,Ee! ta a,
Db!,vals1 r,
Dc!,X.A.units+64<cLine,
Dd!,λq=>(tk q.1,q.2),
De!,I.DM.fresh (ZG _),
Df!,∃t,u=Value.int i t,
Dg!,IO! sc.names.lookup,
Dh!,DP k A,
Di!,DP k X.A,
Dj!,2 ^ 62,
Dk! a,M! Ek! y a,
Dl! a,f? ty (λy H2=>a),
Dm!,Be! vs,
Dn! a b c,M! a S (bn b c),
MY!,G2! ho ?_,
Do!,WP a (.dK kvs),
Dp!,WP a (.dT kvs),
Dq!,AllBare s'.gens,
Dr! a c,e? a->IN H' c,
Ds!,Jz! e,
Dt! a,Up lt p a,
MZ! a,L8! a cd,
Du! a,dY a g e cls,
Dv!,inr i hi,
Dw!,Vals xs its,
Dx!,x.hl q hq,
Dy! a,Ej! a i n,
Dz! a,a b o e n hb hx,
D0!,(show False from r).elim,
D1! a,(l! a O!),
D2! a,(BI (AR a)),
Ma!,q! e True.intro,
D3!,J0! l .BE,
D4!,AZ H as ts,
D5!,MS! pos es,
D6!,(List.range as.length)[j]?,
D7! a b c,∀C s1 H1 fp AA,a (MT! C) b c,
D8!,H? (ap×Io!),
D9!,H? (T2×Addr×v!),
EA!,IR H1 s1,
EB! a b c,g! (.Call (Eb! o a apos) b [] HZ) c,
EC!,(E! i t),
ED!,λq=>(tk (k q),f q),
EE! a b,ZR (GB a Y! b),
EF! a b c,CP! prog w A a (b) L7! c,
EG!,Jy! (u=Value.ref b),
MN!,(h1.push (seqObj p? Aq! 0)),
KQ! a b,MA! d a d b,
EI! a,∀p,V? p->Ei! (h! p a),
EJ! b,DV P w H h a b,
EK! a b c,PW X (.BoolOp a b pos) c,
EL!,TE->TE->TE,
EM! a,(DZ (ha pos AA s σ H _ I h) a),
EN!,behindInMarks op b=false,
EO!,CS! "range" (BU! (#[E! lo t,E! hi u,E! 1 v])),
EP!,MY cmp lt n s,
E1!,(CX!),
E2!,p.1.map,
E3! a,B!->a,
E4! a b c,if a then U! b else c,
E5! a,(a b o e).1,
E6!,x≠"__name__",
E7!,x=K! l,
E8!,y=z! j,
E9!,sc.kind=.function,
FA! a,by simp[Cj! a],
FB!,λm=>?_,
FC! a b,vs[a]?=some b,
FD!,List Nat,
FE! a b,M! h'.get? a b,
FF!,H? (Addr×D!),
FG!,P! S,
FH!,P! fa,
FI!,Aj! d!,
FJ!,decide_eq_false e,
FK! a,Ix X.mg a,
FL!,V? a,
FM!,V? l,
FN!,V? s.heap.objs.size,
FO! a,CQ! Km! a,
FP! b,z? s.heap.get? b,
FQ!,d? (d==sysModules),
FR! a b,DZ (L1! a q1) b,
FS!,AT H1,
FT! a,a K H p xs,
FU!,Ak! us,
FV!,cr o,
FW!,Ct kvs k=some v,
FX! a,WP a (.dK kvs),
FY! a,Op (LG! a),
FZ!,(.A_ ys),
Fa!,knd.draws k,
Fb!,(G8 st),
Fc! a,CS! a (BU! (#[t?])),
Fd! a,Ee! td a,
Fe!,λq=>(tk q.1,Cg!),
Ff!,(y? x pos),
Fg!,I1.DM.fresh (ZG _),
Fh! a,kp b o a e,
Fi! a b,(a b).map GM,
Fj! a,a K EX!=true,
Fk! a,f? tb (λy H2=>a),
Fl!,Bg! (c≠b),
Fm!,G2! he ?_,
Fn!,V->V->CY!,
Fo! a b,Bh! (call (BT! a) b),
Fp!,Cf! rel,
Fq!,CZ! EY!,
Fr!,I.pin p hp,
Fs!,M! H2 p (.BE ys),
Ft! a,El! (a >>= _),
Fu! a,(q.map a).toArray,
Fv!,(C? true),
Fw!,J2! Value.ref,
Fx! a b,J4! a Q b,
Fy!,DQ H a y o,
Fz!,WK Kx C,
F0!,(DC _ _ (Ne.symm hb)).trans,
F1! a b c,DV X.prog X.w a h' b c,
F2!,λz=>e (h1.trans z),
F3!,KE MU! L!,
KU!,(Ct kvs k),
F4! a,MB! a ha,
F5! a b,B!->N? x v->a->b,
F6!,MV! vs.toArray,
F7! a,YD a it es as,
F8!,(Bu X.prog X.w),
F9! a,MX! (Go a),
GA!,(ns.map V.int),
GB! a,q.Perm (List.range a),
GC!,PT X a tA,
GD!,I.cell x c e,
GE!,JZ X sc cl caps,
GF! a,MC! (y? x p) Am! a,
GG!,IC X.env.cells cl,
GH!,∃sl,IN h'.get? { o with slots:=sl },
GI!,Value->Value->Sem Value,
GJ! a,wpAny _ _ a _ _ _,
GK! a,Zv λi j=>R! a,
GL! a,DP k (A.deeper a),
GM! a,a mainGlobals mg,
GN! a,⟨H,I.tok _,a⟩,
GO! a b c d,a (t':=b) c A? d,
GP!,(l+r) / 2,
GQ!,(ps.zip us),
GR!,(FA hu),
GS! a,q.Pairwise (λi j=>a),
GT! a,DP (k+1) a,
GU!,(model X.prog X.w),
GV!,g! i ty,
GW!,WP ka (.A_ (tv q.1)),
GX! a,CP! X.prog X.w X.A a Q E s,
GY! a b c d,a (DZ (b AA s σ H c I h) d),
GZ!,(upd H5 p (.BE (ys++[v]))),
Ga! a b,M! (Fi W).lookup (a:Str) (P! b),
MO!,(tupleKind (Bu P w)),
Gb!,(.ListComp elt MW! sc pos),
Gc!,b∈Ih! MK\/g b,
Gd! a b,∀w' s',a->N? b w'->Q w' s',
Ge!,(Jy I.DM eb),
Gf! a b,Inv a b σ H s,
Mb! a,(backToKw a (keywordEach [] X.env)),
Gg! a b,BZ! a ⟨b,B?,AU _,h0⟩,
Gh! a b,Un fs ex H a h b,
Gi! a b,a hu I2 g ry b,
Gj! a,K _ _ a Ba! _ ?_,
Gk! a b,a it d b es.size ep,
Gl! a b,a AA s1 σ H1 b I1 q1,
Gm!,E' K x qual st f fd,
KX! a,False.elim a,
KY! a b c,a (CS! b (BU! c)),
KZ!,(as.map Value.ref).length,
Ka!,(by size_fits),
Kb!,(ys++[v]),
Kc! a b,a b d!,
Kd!,lt i j=true,
Ke! a b,if c=true then a else b,
Kf! a c,⟨a,k b c q⟩,
Kg! a,S! a AY,
Kh!,Ck! q,
Ki! a,q? z a,
Kj!,o.cls=MD!,
Kk! a,wp (Lp X AA a b),
Kl! a,λh' eb=>v4 a,
Kn! a,∀y∈sc.names,y.2≠a,
Ko!,λv hv=>?_,
Kp!,(rel.val k).LB,
Kq!,λ_ _ q=>ZT _ q,
Kr!,(rel.val k).getD,
Ks! a,Ed! ZH a,
Kt! a,λt=>(a,Bi!),
Ku! a c,λb H4 =>if b=true then a else c,
Kv! a,a=some (some v),
Kw!,List Stmt,
Kx!,List PyData,
Ky!,H? (κ×Value),
Kz!,P! ka,
K0! b c,IR (h! a b) c,
K1! a b,Q a (h! l b),
K2!,x! h1.get?,
K3!,(Classical.propDecidable _),
K4! a,(a b hb).trans e,
K5!,XV Value,
K6! a,(starEach a X.env),
K7!,False.elim h,
K8! a,Ix a .free,
K9!,BS! V,
LA!,BS! It,
LB! a,CQ! Go! a,
LC! b,z? b (As! fs),
LD! a b,WP a (A9 b),
LE! a b,WP a (C6 b),
LH! a b c d,DZ (a AA b σ H2 _ c q2) d,
LI! a c d,a/\J3!/\c/\d,
LJ! a,q! fF a,
LL!,Str->XV NameKind,
LM!,AB (H!),
LN! a,wv a x.dO,
LO! a,wv a x.dr,
LR!,cr (As! fs),
LS!,(apos.endLine==HZ.line)=true,
LT! a,E? (KG a _),
LU! a b,R (.ok (.ret a)) b,
LV! a,Op (L1! a q1),
LW! a,(Al! a ?_),
LX!,(.A_ p.2),
LY!,v4 rfl,
LZ!,D? ZS ?_,
La! a,D? ZS (ZR (ZR a)),
Lb!,ca o,
Lc! a,absurd (a) Y!,
Ld!,g! o ta,
Lf! a,λz=>a (z▸m),
Lg! a,Gq! a (TP X AA σ Q),
Lh! a b c,Ch (a (.ref b)) c,
Lj!,xz 0,
Lk!,Bb! e,
Ll!,Bb! s?,
Lm!,∃t,u=Value.str x t,
Ln! a,∃t,u=a b t,
Lo! a b c,Q (C? (a b c)) s,
Lp!,g! e ty,
Lq!,h! p (.BE []),
Lr! a b,lt a (p.getD b 0)=true,
Ls! a b c d,M! (a b).lookup (c:Str) (E! d),
Lt!,Au! (Ab (Aj q hn)),
Lu!,((0,0),0),
Lv! a,Av! (t σ H Q) a,
Lw! a b c,M! a b (bn c 0),
Lx! a b,F8 X (G? a) b,
Ly! a,JK! (λc H1=>a),
Lz! a,JK! (λvs H1=>a),
Gr!,Nat->Nat->Bool,
Gs! a,Ch! z a,
Gt! a,Ci! ta a,
Gu! a,(ZC _ (ZC _ a)),
Gv!,(Eb! o m apos),
Gw!,(hi-lo).toNat,
Gx! a,(a Value.ref).toArray,
Gy! a,(.done (.ret a)),
Gz!,h _ In!,
G0!,Er! V,
G1! a,Et! a (some EX!),
G3! a b,HT.TK xs.length a b,
G4!,J7! (p.1≠b),
G5! a b c,CK!=some x->a=some b->c,
G6!,decide_eq_true (H!),
G7! a,J8! a KM,
G8! a b,KA! (Os a) b,
G9! a,KB! X.base.get? a,
HA! a b,D? ZS (ZR (CK a b ?_)),
HB! a b,D? ZS (ZR (EX a b ?_)),
HC! a,KF! "sorted" a,
HD!,(I.DM.fresh (ZG _)),
HE!,(I1.DM.fresh (ZG _)),
HF!,L3! (b≠a) AC,
HG!,L3! (b≠it) AC,
HH! a b,tt (U! x::Ce!) a b,
HI!,ZR (IG tI Eh!),
HJ!,ZR (KN tI Eh!),
HK!,BQ λq _=>?_,
L0!,(Heap.SameBut.update ..),
HL! a,congrArg List.length a,
HM!,⟨K! C::us,kw⟩,
HN!,(p.map ga),
HO! a b,(BT! a (Ak! b)),
HP!,Ix sc.names.lookup L?,
HQ!,(σ.set i (some v)),
HR!,(E! j u),
HS!,(ZJ hj).1,
HT!,ME! DD,
HU!,MF! Loc,
HV! a,MG! a KG!,
HW!,Rd H a (.dK kvs),
HX!,MI! h.get?,
HY! a b,An (xs:=a) (j:=b) C!,
Ha! a b c,MM! (a b) c,
Hb! a,EP X AA σ Q a s,
Hc! a,(hs.2 b (BI (CB Bj! a))).trans e1,
Hd!,Nat->NE,
He!,∀vs H Q E,Cn!->vs.length=ps.length,
Hf!,Ih! MK++[e,T],
Hg! b,Eg!/\J9!/\b,
Hh!,cr (.A_ (tv t)),
Hi! a b c d e,codeAny (model a w) b c (d) e,
Hj! a,⟨a,H,I.tok _,AB!,q⟩,
Hk!,MZ! Bl!,
Hl! a,pL λ_ _ _ _ _ _ _ q=>a q,
Hm!,(p.getD (a-1) 0),
Hn!,Pv i ys H2,
Ho!,At! _ s? rfl,
Hp!,Em! ((Value.ref d==Value.none)=true) _ _,
Hq! a,IS hp (DZ (a) ?_),
Hr!,E! (g i j),
Hs!,as.map Value.ref,
Ht! a,(λz=>a (by simp[z])),
Hu! a,s.TypeIs a "dict",
Hv! a,St->Eo! a,
Hw! a b,S! (Ab (n a)) b,
Hy!,(kvs.any MH!),
Hz! a,(W.instObj C a),
H0! a,M! a y.1 Cq!,
H1! a,I.tuple (CS.of a),
H2! a,(some (BT! a)),
H3!,g! value tv,
H4!,AB (show ¬((Value.ref d==Value.none)=true) from AY),
H5! a b c,PS X (.Assign a b pos) c,
H6!,I.base.there b o e hx,
H7!,(q.1,a,h),
H9! a b c,AX C (h! a (b l)) p c,
MP!,KI! scope cd,
IA! a,D? ZR (IF ty a),
IB!,QO xs i=some v,
IC!,(k,x)::Au f v r,
ID! a b c,Un (MK a) b H H' s.heap c,
IE! a b c d f g,⟨⟨dx,wv np.symm e⟩,wv a x.dh,b,c,d,f,g⟩,
IF! a,VO a x dx C mA,
IG! a,λx y H Q=>a K x y H Q,
IH! a b,wpAny_field (x:=a) e1 rfl rfl b,
II!,Au f v ((k,x)::r),
IJ! a,ET P w K mg base a (k+1) f fd ps sp,
IK!,⟨ok.mod,ok.kind,ok.glob,ok.blt,ok.above,ok.inj,ok.has,ok.bw,ok.hd,ok.frames,ok.cU,ok.XE,ok.bs,ok.XG,ok.SJ,ok.RP,ok.MW,ok.YT⟩,
IL! a,R! (a≠k)=true,
IM!,X.fn x=true\/IO! X.env.scope.names.lookup,
IN! a,d.canLay0=true/\d.depth<=a,
IP! a b c,⟨a,λi H x H'=>H'=H/\b,c⟩,
IQ!,show ca _ from x,
IR!,⟨q,hq⟩,
IS! a,by cases op<;>first|rfl|exact Cl! a,
IT! a b,intsAre_of (ns:=a) b,
IU! a b c d e f,a (s:=d!) b c d e f,
IV! a,λ_ _ _ _ _ st h=>a st h,
IW! a,λkv=>if kv.1=k then a else kv,
IX!,[tb.1,tb.2],
IY!,{ cls:=G? p?,dict:=none,data:=.seq ([]:F!).toArray },
IZ!,l1++(n,t)::l2,
Ia! a,pure (ForInStep.yield a),
Ib! a,.ok (.ret a),
Ic!,WP l Bk!,
Id!,¬(c? i<0),
Ie! a b c,setField i? a (b c),
If! a b c,D? wpAny_attempt (IE (name:=Str.ofString "__next__") a b c),
Ig! a,a base (env::outer),
Ii!,h AA s σ H _ I hw,
Ij!,e? (.A_ (tv tb)),
Ik! a b,a (Ck I q (congrArg not b)),
Il!,(b∈X.ex\/X.II.heap.objs.size<=b),
Im! a b,Qe a b (by intro z;cases z),
Ip!,BZ! t1 t2,
Iq! a b,Rs .Constant a j b,
Ir!,λq=>(tk q.1,V.ref g?),
Is! a,Lm a P w K mg base N qual Ep! f EB A outer s H E,
It! a b,k it Y! a b,
Iu!,p.1.map Sum.inl,
Iv! a b c,G9 I Ma! a b c,
Iw! a,Co! (f v u) Q a,
Ix! a b,M! (Cp G).lookup (a:Str) (P! b),
Iy! a b,(∃xs,a/\k=!xs.isEmpty)\/b,
Iz! a,AA! i []=a,
I0! a,KF a H I q,
I1!,KC! pyNext i?,
I2!,W i m σ H,
I3!,(by rw[ZA,DB];lia),
I4! c,∀a b,R a b->c,
I5!,(Fq hb e),
I6! a b,a b c (JM.look e),
I7! a b,Rd H d (.dT (a b)),
I8!,h _ _ In! ?_,
I9! a,MM X.prog X.w H' a,
JA! a,⟨_,a,rfl,_,rfl⟩,
JB!,FE λj=>?_,
JC! a b,BindsTo s fd a b,
JD! a c,∀b u,a->IN c u->IN h'.get? u,
JE! a,x.QU (b:=a) (Ad!),
JF! a,Inv a AA σ H s,
JG! c d,R! ((c a:Key)=d b),
JH! a b c,JP FR dd.typeIs KO a b c,
JJ! a b,swapsWith a b pos.line X.env=pure false,
JL! a,codeAny Eq! A a R s,
MQ! a,(A.under (BT! "type.__call__" a)),
JO! a,(a (D7 kvs k)),
JP! a b,foldedSetIterable iter X.env a=pure b,
JQ! a b,AC! a (aZ λi j=>.bl (decide (b))),
JR! a b,a/\k=(c? b != 0),
JS!,(Ab λz=>by rw[z,e] at q;cases q),
JT!,(oI b o e hx),
JU! a,te (U! x::Ce!) H4 λv H5=>M! H5 p (.BE ys)/\ys.length<sizeLine/\a,
JV! b c d e,KH! (I.laid (a:=s.heap.objs.size) (o:=b) (t':=s.toks) (c) A? d) e,
JX! a b,MJ! NE σ a (∀i m σ H,b),
JZ! a,FV rfl (HU (IL (DZ (L1! he q1) a))),
Ja! a b d,⟨?_,(a b).map Value.ref,c,d,?_⟩,
Jc! a,attributeBase o a X.env (Os o)=EZ! o,
Jd! a b c d,ho AA s2 σ H2 x y v u a I2 b c d,
Je! a,VQ P w K mg base a outer s H,
Jf! a b,pG (v:=v) (o:=a) b,
Jg! a,∃t,a/\t { nx:=λ_ H'=>Q .FH H',rt:=Q } ML! H,
Jh! a c d,⟨a,H,I1,c,d,RJ,M? (hf b hb).1⟩,
Ji!,((s.heap.update a (Obj.mapSeq λ_=>(#[]:db))).push (seqObj BQ! vs.toArray 0)).push,
Jj! a b c d,O.tr _ _ _ a Ba! b c d,
Jk!,[.Constant (u? msg) j p1],
Jl! a,(I.base.free b a e n hx),
Jm! a b c d,a AA s1 σ H1 b c d I1 r1 q1,
Jn!,⟨hp,g,d,tk,os⟩,
Jo! a b,a ha hb I h λv u s2 x y H2 I2 rx ry q=>b,
Jp!,Ao N ps (Ak st),
Jq! a,ET P w K mg base a k f fd ps sp,
Jr!,envOfC qual scope s.heap.objs.size f cd,
Js! a b c,(a i H/\KD!)\/(b i H/\∃N:NE,(∀EV H',N EV H'->Cp! EV H')/\∀x H',c i H x H'->g x σ H' (MK! { D with nx:=N,ct:=N,bk:=D.nx })),
Jt! a b,QI m.base m.jw m.line DI a b MY!,
Ju! a b,a kindOf ((p,w)::P.zip vs) m b=_,
Jv! a b,Turn P w K tg a [it] it (λi h=>b),
Jw! a b c d e,W.fnOf a qual b c d e kV doc pm an EB ct]
theorem ZV{p:Prop}(h:p:=by decide +kernel):p:=h
open PySem PySem.Spec PyProof.Rows in def ZR:=@wpAny_bind
open PySem PySem.Spec PyProof.Rows in def ZS:=@wpAny_pure
open PySem PySem.Spec PyProof.Rows in def ZT:=@Heap.get?_push_of_some
open PySem PySem.Spec PyProof.Rows in def ZU:=@Heap.get?_push_size
universe T BJHtmswkbKly SPFUVWNtFz BgMASodiKOqV BdhEhqidSNyZ CFafTwdQgXsr COYnTWszMiek CRvpDFNgCGlq BpLQCMItVAIC mNAPrTxSFCm YTkilCnreKq CEOBnHBUCVsL BHkuYQhOnRxc CJNDOIVrKSjD BrlZEWnDEssz NxcLhlvbHEF BUWewcwVBnAH COxobKWlZgNl BzloazJNRsKH BPorLOWFWGoR BuJdNYtclLbW mpPYlSzrSXo CQhgQwmjeQtI CJKlbYBlxIbl CAkJAvERGaAt BLcDLEsJzwgF BUmtTNrCZwMr MZtSbtmoORf CMvPDSHCJQQj BFOGQUfoiZAe nePlpSbWnXY BWrLyNEIauNu BUGWcyRjjnMz dIbQBgXPUmO ydfBxzdmtqo CKXxkxxDfMfH BLdodYUvXRUL CCxpyothaDcP CTqqnLEPQhSh BwKctZlLbdMV jVaWcpBOWLH BgFGiLSVVfhn BrFkGDOOXczB CJCiMggkNFAZ sEPcBRRhsoX BXbyxvfrzsjl fKZkLlLyhnw BweAJUpGAgxe CFwaeIxhnGdi BcgqkCfzSwnC PDLMSLepQrq HGyMqWDcDNX CVMQDDGakUeG CEmhxFAcKcgi khbsCEJAGdF RNslUKHwoaU KLwqiuEDEWJ BuMjfIimwrSh GMFUbdEiolQ ckNjkJtUsNq jKXgeLZlLTb BCJtoGOIuBIc CFiscUNrACGQ BZQahfVuXEIw naODUtSslJD ZzmdaiZxhOl yywOzeuJkrm BNhPGQOipXad pvbrEQZiDBo bFzjqXzBZBI VDcoLrUNBDG SRdElBkTkEz BGIlsIHoYhOx UZLQgSKNADQ rwpilMxXiep BUmJhkEyKppy xxNHiAECYLp BVOeFyfqRrDp ByhgVgfEpiRf HbXkbLYClvt BHlVsxqcWqwk BzmLngQkxbNH BivgeCmeKNhx CDfypSXTtbED zexISyxRaXj BmnBoOgyuMqd BwNKNBhmNBeg lhaNMWWSBEf oQQUzArVXvg BWePvqLIvCVr BQNpHgnHlqKt BBrbPMAdUjTu CIgOEOspJJON BtfHhVUPbesi wQSQCvLAgOC BecusrGBrfKP CGZlBNIIitYq ByGYOgNExQZI CRGKppfMeVLb ZzwUiMJkYTr BdXulIlCALkD BmJNJrSnMXtM RRmURDkgwGn QWOnJUmlnmJ BrxTegBSRPJs ZDoNRmkYOgA twDNAFRRRem CVeHINZqJMFk uOqrRDodHhA BZrMXveBhrbe BwehAqEmegim CPwSqApOhwxS LSdNiZyFOHP BHCUsglfWJuh BgbFmTBMXzru BDLlblYLemjO CUUWkdjZvBpX BUnkvwBmtMSC BxDTSzLJsZlV BPouyTCzeCVq XxQFrRDShIM BfuEngogHidc BtsSlGiLdJKa MTqhngNhnhD BEfadPYzQuFs yVEYMnqTrwq GJpOgkVUqBO EqUBtKhozUX RIPzBiWpnNt wjyoTkVfLpA xAfNZceEWNR BFNfYwhJoYtJ rlJrGARTere CDGxkoWzXKud BfLDgSzednoc BMJQUpbOZpkS eZqCfQZitIK BywLKTVUvexg rCfHPTEWlZh BkdngsWiSAvs BPykJtoLbZMY WGVJttxZgAi fOxPWDekWBq XXpRTsFnyVw CAIDBUcAoTzz ZuVBVmWrEdB LzLnnwZbPRp BzfxlycjuUuP oFHqAfvyiUn CHpqTDDjAcEB BiTxErGPnwKk BrhLRTNkwNDN QYbvkQKliQV COnRYTzAdbwE BSOhNNbsiJTQ xRTWEusdoxH BqJQhRpIQAga BzmyJAezWbQr BgrdtCzBYlUr CSnxeVXatZph BHXfRDSwMUBX BrEJNZNSYjtX BRVWjgPFnaMm nJmakXBMFFr gaWVGKlxqiZ SYQINLHYUSE rqkJpEMqsJQ bvoKLdPtPQh PRQewUYlIZN CDvwsMkySOnN gciUTuaDqSj dkbuvhMwCfp BydQGPHrCsmB BhzpOLhYqYCg BQoKAkEtJdxT BcfrsnEoBHhE CBiSrORJGfcP MAwxsCbaBdR BziMJhfngNoU IcFKWaXKkef tpOjaLlxFTJ CBVweNowbsTm BpPuDFSMyZVU BzWxlysuxMrx BAQITIGzflmJ hnPIRLlBUxy BlLZUzkEuigK BgTlWDddABih JPnibaVwhbm CBkkFjCTWDOg GvRbUzqtWAn BQQAzgrjMtdD CRumIuNRpzTp BxiQnRzuKxww BLVainRVillj BAYVVPikSLxj CIbopfRAzfvb BPmDAIGUiFwF BLCaRinzzFUc LXHPLmaxZaU BfcAVyjJHLnK lxHfKjcJbqY irCTlqbNcpK BCnbmBDfaNWx BsvswemueAwL ScSqJmChnEK BLWxtWkSdKGM CGAoneInNhjs ONndDdXElNn BmFuXkcWklOz BvlLIINeXjce zhJODaRvJSQ SBerQilHxyG BUXIxGqDVPGq BkZMJFuqmxmM BGalgxJyEYQK BnPTBWYQFNkZ BOPRorcOuocF stRxNXvJtyW kUIwoBlFjRc CCDBFaAyAnhJ IBSxnxOdcFK BROQofEJxolD CFcFdrhCuMHI eWgfOfPgfWE BrKsOFmozwTA BoQQOOsAuhsi CCxOKYjrdozN BxqlWUMhKMOs IlcvDqeMvDm CWKuRVEUYLCJ wsWwqFiqvFX CMWchNCJkSmN CTxWXBAmfpWA GHblegrMwTC CVzBWkcAwFqu plvIQOwbAVj BrTKbwsxKUyQ BIFcbpXDXRqn BVfigDKBLvsS BCMPtSeloSMn CQVFCiDvwAvr CMfUSPXwbtjq BJLGaDykPWbJ CLdOOTnKVCpW BcaApHEBAOFA BmAHcayrkgCS jViGJsiBelo NDBvUUgdljF CCAIUfEVRGdX CMWAougBikFM CMagNIMsYCLD BfyWuPWFovyz GPhGVVCRWZ jSgeXnxxAeB BFYgTRsBNLcX QoQtOlsTNtl dlEPntkNmoE nPxoxKHUabx BjqRaMsAwmxY BnEvPFVIaqAM ZMLCUkLfZOL BpULkaHppJFj BswOqrhfxGBf CCnJCRtZjLzG BVttfAQvFakK zgVqoYzslZT qCqRrrHnBKA DxnElhubkpY EnFSSGChmeZ CBLwURXofgkS PaeYZMvMhIu BbeefUUgFiEi jzpczVtVnXS pSznsdBTiNv Hipacesadxe CJczANwukOiO rOhqfqgRlMC BBXdMFToFyyP BRBkNnWeVuIj SbDycUovhte CQSKbbhxFjPg zzHCSBanRTM CAIbZThPiFVY BpAQWsXIcJtt BnlMSKnzPoqF BvjFxfJKLKVQ CEPDlHTqKGQd BWhYcOZdrIVa BSUwWzYIKlzC BTqPELzkgRNi hqjfyLwXbsn RVSZhsXIJja VwjSKXGLvLb BWkoQSAVyUzQ GBuMTVRVZmP BQCqHepFlonG CBhBMoKYUcXH BGgHFriPiUIm BeTZUnFxXwPD GKQGaSnzSNI BHqISUyfcDqO BqFYFGYOaEar CemWFqfInyN ZTDBTRGlgYS BWdqiGmKcBSi NelyjRoBjLM BXbDdHTSmRvf BATDRNPYBdIT LEvcnlFZWEk BWDejhjWEPwj hfBCVnyUsrx NjeqhJmAkIj CMwfKUVxyUmA CSPFzXiHWXtn gjzlhdCdTAH BGgjsJCNTDIb BAslVTVpgbCa yspKdZjilIl ivqcCnJoNYQ BTSaEYxPuriY xWekUygMuxP huSnTHBTSJo mQrqxrUjuwL KvSQEIbBhxr eWCpUdZuqWa CLmGCTDOnmwS BWEswGMyEnSE BVjKlTFwRMmY BxXnfKjurMwZ BcNavzFydOHQ CAfTITgxxBPf BLOwnRwwNPCY BRVtaAmQXiiv BALNSYRPuCtW CLPUEBVNnotD qLlJipaORHp BGudkrshZmvG BmeDKkvlmePI nZZzVQUAceX pnZKlQGbApX BcmpXGzaNnqs QWAaMiUEcwF BAAiRxaRvzsI BCupMBCIVylc BvfyDkBDPClS BHTpZRyARba CPEegOsarWLx NmOuezfUVvr BXvvFFEINoeW CVMmQIOqqxcd CWZHyjSBVLrX BiGuOYLmtDnP BDShpTzpinTF bvSwlpjhtWl BKjHyqlzmbpl CGiWnQlqgJlP BWojzZHkHrhI CRJgahtvvnJO CIELrPOUxsoK BDfqvGKynBvR CCtSSPvPubFi BZLwKCWItgGB CIsTqoccumIx sVweVgVcPCP CInuIUxxbNqa uIebPgNBlYV JXzdIIfFIUr BkArBClbnQoQ hEFuXLXvqqX BwchpYhqrKMr TQCTFVswApT gXiyVTfulxT BtbjMVDknPGd CXByrAPTVzuj VmPQTPBGQtX BzSxtwbQflzz BDGoAsGlhuft ZzAUtpVGkvb sFwLxZsOqeQ JKwfuopZzPA BmkjFByKfuiT BUtUOmSeMlBS RIJefNFQZSE OlziZREDsZu TDggESQYesW IZdbIzGIRsU JTtCXBgOkRe XuJCOROPshV BegiiuGwjmYk IOcIKYSyOEW CPnTEBZGgqFY ljckoTjpMnr BbZFKikbSRCY TRQIPhJHuqn BVfOozoXVzvU CPUwxLVpWiGo iDVGoAWmiZG BiKbOBDNeGwZ EDOLaDYrLUL zrXCLqaVLVq CJmhclyHxkEQ dVsvURZoeSK QzFWcaYHYHE BOhmbiaImyQH kvBmrUfkPkp BUjtQjbiytkz BvihaLWJJHUp BLYmwwFkjHAy yFoyHRBGTCL BcAhSOSQjRFr jkZohEUYtgD CKFTiAQMSKVE CLRPslvWKfqk CVZApJDojNog BFzzqiRcDRHp BULugkxqwzBd CNvCjmrPfMVW CEEyDwoiOxTU BclwrwTIpXUW IjQBWtrQIYd buFoZcgHcsR BEsLNndqxDBg BdxlmufJznDc BMbAfFnlGdyH BCsOdFxBOTMH BAZYmmGCkYqg BCYoPUHwklaB
theorem ZA {α β : X?} {as : I!} (f : α -> β) : (as.map f).length = as.length := List.length_map f
theorem ZB {α : X?} {a : α} {as : I!} (bs : I!) (h : a ∈ as) : a ∈ as ++ bs := List.mem_append_left bs h
theorem ZC {α : X?} {b : α} {bs : I!} (as : I!) (h : b ∈ bs) : b ∈ as ++ bs := List.mem_append_right as h
theorem ZD {α : X?} (y : α) {a : α} {l : I!} (h : a ∈ l) : a ∈ y :: l := List.mem_cons_of_mem y h
theorem ZE {α : X?} {as bs : I!} : (as ++ bs).length = as.length + bs.length := List.length_append
theorem ZF {α β : X?} {f : α -> β} {as bs : I!} : (as ++ bs).map f = as.map f ++ bs.map f := List.map_append
theorem ZG (n : Nat) : n <= n := Nat.le_refl n
theorem ZH {α β : X?} {f : α -> β} {as : I!} {i : Nat} : (as.map f)[i]? = as[i]?.map f := List.getElem?_map
theorem ZI {α : X?} {a : α} {s t : I!} : a ∈ s ++ t -> a ∈ s \/ a ∈ t := LW.mp
theorem ZJ {α : X?} {l : I!} {i : Nat} {a : α} : l[i]? = U! a -> ∃ h : i < l.length, l[i] = a := List.getElem?_eq_some_iff.mp
theorem ZK {α : X?} {a b : α} : a ∈ [b] -> a = b := CO.mp
theorem ZL {α : X?} {a : α} {l : I!} : a ∈ a :: l := List.mem_cons_self
theorem ZM {α : X?} {a b : α} {l : I!} : a ∈ b :: l -> a = b \/ a ∈ l := BV.mp
theorem ZN {α β : X?} {b : β} {f : α -> β} {l : I!} : b ∈ l.map f -> ∃ a, a ∈ l /\ f a = b := AF.mp
theorem ZO {α : X?} {a b : α} : U! a = some b -> a = b := Option.some.inj
theorem ZP {α : X?} {l : I!} {i : Nat} {a : α} : l[i]? = U! a -> a ∈ l := List.mem_of_getElem?
set_option autoImplicit true
set_option Elab.async false
set_option maxRecDepth 100000
set_option maxHeartbeats 4000000
set_option linter.all false
universe N L2
open PySem PySem.Spec PyProof.Rows
abbrev Key:=Sum Int Str
def Sy:Key->Value->Bool
 | .inl k,v=>Value.isInt k v
 | .inr x,v=>Value.isStrOf x v
def Jnk(w:World):Key->Int
 | .inl k=>hashInt k
 | .inr x=>hashStr w x
theorem C5:∀{k:Key} {v:Value},Sy k v=true->(∃i t,k=Sum.inl i/\v=Value.int i t)\/(∃x t,k=Sum.inr x/\v=Value.str x t)
 | .inl i,v,h=>by obtain⟨t,e⟩:=Value.isInt_shape (k:=i) (v:=v) h;exact O? (At! i t e)
 | .inr x,v,h=>by obtain⟨t,e⟩:=Value.isStrOf_shape (x:=x) (v:=v) h;exact y! (At! x t e)
theorem Jdx(i:Int)(t:Tok):Sy (Q! i) EC!=true:=by simp[Sy,Value.isInt]
theorem Jdw(x:Str)(t:Tok):Sy (j? x) (u? x t)=true:=by simp[Sy,Value.isStrOf]
theorem Jlz(a b:Int):JG! Sum.inl Sum.inl=(a==b):=by grind
theorem Jlw(a b:Str):JG! Sum.inr Sum.inr=decide (a=b):=by grind
theorem Jly(a:Int)(b:Str):JG! Sum.inl Sum.inr=false:=decide_eq_false (λq=>nomatch q)
theorem Jlx(a:Str)(b:Int):JG! Sum.inr Sum.inl=false:=decide_eq_false (λq=>nomatch q)
def Bu(prog:Program)(w:World):PySem.KeyKind prog w Key where
 is:=Sy
 hash:=Jnk w
 inj:=λv a b ha hb=>by
  rcases C5 ha with⟨i,t,rfl,rfl⟩|⟨x,t,rfl,rfl⟩
  .rcases C5 hb with⟨j,u,rfl,e⟩|⟨y,u,rfl,e⟩
   .injection e with e1 _;rw[e1]
   .exact Ev!
  .rcases C5 hb with⟨j,u,rfl,e⟩|⟨y,u,rfl,e⟩
   .exact Ev!
   .injection e with e1 _;rw[e1]
 byValue:=λk v h=>by
  rcases C5 h with⟨i,t,rfl,rfl⟩|⟨x,t,rfl,rfl⟩<;>rfl
 pyHash:=λhv h=>by
  rcases C5 hv with⟨i,t,rfl,rfl⟩|⟨x,t,rfl,rfl⟩
  .exact wpAny_pyHash_int h
  .exact wpAny_pyHash_str h
 eqBool:=λhu hv h=>by
  rcases C5 hu with⟨i,t,rfl,rfl⟩|⟨x,t,rfl,rfl⟩
  .rcases C5 hv with⟨j,u,rfl,rfl⟩|⟨y,u,rfl,rfl⟩
   .rw[Jlz] at h;exact wpAny_eqBool_int h
   .rw[Jly] at h;exact SeqAt.EqAt.int_str i t y u _ _ _ _ h
  .rcases C5 hv with⟨j,u,rfl,rfl⟩|⟨y,u,rfl,rfl⟩
   .rw[Jlx] at h;exact SeqAt.EqAt.str_int x t j u _ _ _ _ h
   .rw[Jlw] at h;exact wpAny_eqBool_str h
 «strs»:=λk x t v h=>by
  rcases C5 h with⟨i,u,rfl,e⟩|⟨y,u,rfl,e⟩
  .exact Ev!
  .injection e with e1 _
   subst e1
   cases v<;>rfl
theorem Yq(prog:Program)(w:World)(i:Int)(t:Tok):(Bu prog w).is (Q! i) EC!=true:=Jdx i t
theorem Yp(prog:Program)(w:World)(x:Str)(t:Tok):(Bu prog w).is (j? x) (u? x t)=true:=Jdw x t
inductive V where
 | FH|bl (b:Bool)|int (i:Int)|str (x:Str)|WG (b:Array UInt8)|oj (b:UInt64)|ref (a:Addr)|ty (n:String)
 deriving DecidableEq
def RelV:I? V Value
 | .FH,u=>u=Value.none
 | .bl b,u=>u=Value.bool b
 | .int i,u=>Df!
 | .str x,u=>Lm!
 | .WG b,u=>Ln! Value.bytes
 | .oj b,u=>Ln! Value.float
 | .ref a,u=>k?
 | .ty n,u=>u=Value.type n
abbrev Vals:I? D! F!:=Paired RelV
theorem Vals.length(r:TD):xs.length=us.length:=Paired.length r
theorem Vals.get{xs:D!}{us:F!}{i:Nat}{x:V}(p:TD):BF!->∃u,us[i]?=some u/\A8!:=by induction p generalizing i with | nil=>intro e;simp at e | cons r _ ih =>intro e;cases i with | zero=>cases e;exact m? r | succ i=>exact ih e
theorem Vals.append{xs ys:D!}{us ws:F!}(p:TD)(q:Vals ys ws):Vals (xs++ys) (us++ws):=by induction p with | nil=>exact q | cons h _ ih=>exact sB h
theorem Vals.take{xs:D!}{us:F!}(n:Nat)(p:TD):Vals (xs.take n) (us.take n):=by induction p generalizing n with | nil=>cases n<;>exact O! | cons r _ ih =>cases n with | zero=>exact O! | succ n=>exact l! r (ih n)
theorem Vals.drop:∀{xs:D!} {us:F!} (n:Nat),TD->Vals (xs.drop n) (us.drop n)
 | _,_,0,r=>r
 | _,_,_+1,.nil=>O!
 | _,_,n+1,.cons _ t=>Vals.drop n t
def PZ:I? (XV V) K5!
 | some v,some u=>l?
 | none,none=>True
 | _,_=>False
def KV{κ:Type}:I? j! Ky!:=Paired λ(p:κ×V)(q:κ×Value)=>p.1=q.1/\N? p.2 q.2
def kV:Key->V
 | .inl i=>z! i
 | .inr x=>u? x
inductive HO where
 | BE (xs:D!)
 | A_ (xs:D!)
 | dK (kvs:Sc)|dT (kvs:FB)
 | set (S:Int->Bool) (n:Nat)
 | ins (C dx:Addr) (fs:v?)
 | own (x:Addr)
 | xd (fs:v?)
 | met (f x:Addr)
 | oA (lo hi:Int)
 | GV (o:Obj) (u:HO)
 | bJ (ps:db)
 | ext (φ:SL Heap)
abbrev Hp:=Addr->XV HO
def upd(H:Hp)(a:Addr)(o:HO):Hp:=λb=>E4! (b=a) o (H b)
theorem Ac{H:Hp}{a:Addr}{o:HO}:upd H a o a=some o:=by unfold upd;rw[BD!]
theorem Ab(h:b≠a):upd H a o b=H b:=by unfold upd;rw[AB h]
theorem Ua:upd BI! a u=upd H a u:=by funext b;unfold upd;split<;>rfl
theorem Qe{H:Hp}{a b:Addr}{o u:HO}(h:FV!)(h':e? u)(d:o≠u):a≠b:=by intro e;subst e;rw[h] at h';exact d (ZO h')
theorem Aj{H:Hp}{a b:Addr}{o:HO}(h:FV!)(h':k!):a≠b:=by intro e;subst e;rw[h] at h';cases h'
universe S
variable (P:Program)(w:World)
def DV(H:Hp)(h:Heap)(a:Addr):SL HO
 | .BE xs=>SB/\∃(its:F!)(n:Nat),Dw!/\ca (L5! (B3! its.toArray))
 | .A_ xs=>SB/\∃its:F!,Dw!/\IsTup h a its.toArray
 | .dK kvs=>Hg! (∃vs,o?/\h.DictOf Cu! a vs)
 | .dT kvs=>Hg! (∃xs:D8!,
  Paired (λ(p:List Key×V)(q:List Key×Addr×Value)=>p.1=q.1/\WP g? (Bd! E2!)/\N? p.2 q.2.2) kvs xs /\
  ∃o es ep,Lb!/\o.ExactDict/\CE!/\es.toList=xs.map (entryOfKey MO!)/\SC xs.map)
 | .set S n=>h.SetOf (intKind P w) a S n
 | .ins C dx fs=>DQ! dx a/\fs.length<=1000/\dx≠a/\ca (Hz! dx) /\
  ∃mA,h.Ns1 dx mA/\(∀f,PZ (fs.lookup f) (mA f))/\PySem.Within mA (fs.map a!)
 | .own _=>∃o,Lb!
 | .xd fs=>∃mA,h.Ns1 a mA/\∀f,PZ (fs.lookup f) (mA f)
 | .oA lo hi=>∃t u v,ca EO!
 | .GV o u=>Lb!/\DV H h a u
 | .bJ ps=>ca { cls:=L!,data:=BU! ps }
 | .met f x=>ca (Bs! W.methodObj (P! x))
 | .ext φ=>φ h/\(∃o,Lb!)/\∀h1 h2:Heap,φ h1->(∀o,z? h1.get? o->z? h2.get? o)->φ h2
def MM(H:Hp)(h:Heap):Prop:=∀a o,FV!->EJ! o
universe E
universe S
variable {P:Program}{w:World}{H H':Hp}{h h':Heap}{a:Addr}{o:HO}
theorem DV.lt(x:EJ! o):a<h.objs.size:=by cases o with | BE xs=>obtain⟨_,_,_,_,e⟩:=x;exact S? | A_ xs=>obtain⟨_,_,_,p⟩:=x;exact p.lt | dK kvs=>obtain⟨_,_,_,_,o,_,_,e,_⟩:=x;exact S? | dT kvs=>obtain⟨_,_,_,_,o,_,_,e,_⟩:=x;exact S? | set S n=>obtain⟨o,_,_,_,e,_⟩:=x;exact S? | ins C dx fs=>obtain⟨_,_,_,e,_⟩:=x;exact S? | own y=>obtain⟨_,e⟩:=x;exact S? | xd fs=>obtain⟨_,⟨_,_,_,e,_⟩,_⟩:=x;exact S? | oA lo hi=>obtain⟨_,_,_,e⟩:=x;exact S? | GV ob u=>obtain⟨e,_⟩:=x;exact S? | bJ ps=>exact AR (IQ!) | met f y=>exact AR (IQ!) | ext φ=>obtain⟨_,⟨_,e⟩,_⟩:=x;exact S?
theorem Jnd{R:BL!}{S:I? γ δ}{f:α->γ}{g:β->δ}(h:I4! (S (f a) (g b))){xs:I!}{ys:SZ}(p:AY!):Paired S (xs.map f) (ys.map g):=by induction p with | nil=>exact O! | cons r _ ih=>exact sB (h _ _ r)
theorem Jkh{R:BL!}{S:I? α δ}{g:β->δ}(h:I4! (S a (g b))){xs:I!}{ys:SZ}(p:AY!):Paired S xs (ys.map g):=by induction p with | nil=>exact O! | cons r _ ih=>exact sB (h _ _ r)
theorem uA{R:BL!}{f:α->γ}{g:β->γ}(h:I4! (g b=f a)){xs:I!}{ys:SZ}(p:AY!):ys.map g=xs.map f:=by induction p with | nil=>rfl | cons r _ ih=>rw[AK,AK,ih,h _ _ r]
theorem pM{R:BL!}{as cs:I!}{bs ds:SZ}(p:bv R as bs)(q:bv R cs ds):Paired R (as++cs) (bs++ds):=by induction p with | nil=>exact q | cons h _ ih=>exact sB h
theorem Z9{R:BL!}{xs:I!}{ys:SZ}(p:AY!):∀j,Paired R (xs.eraseIdx j) (ys.eraseIdx j):=by induction p with | nil=>exact λ_=>O! | cons r t ih =>intro j;cases j with | zero=>exact t | succ j=>exact l! r (ih j)
theorem Jq4{F G:BL!}{SK:I!}{l₂:SZ}(p:bv F SK l₂)(f:∀a b,F a b->G a b):bv G SK l₂:=by induction p with | nil=>exact O! | cons r _ ih=>exact sB (f _ _ r)
theorem DV.ON(x:EJ! o)(k:JD! (b=a\/e? (.own a)) h.get?)(ho:∀b,e? (.own a)->IN H' (.own a))(ht:∀b xs,Dr! AT! AT!):DV P w H' h' a o:=by induction o with | BE xs=>obtain⟨z,its,n,r,e⟩:=x;exact⟨z,its,n,r,FM⟩ | A_ xs=>obtain⟨z,its,r,ob,e,c⟩:=x;exact⟨z,its,r,ob,FM,c⟩ | dK kvs=>obtain⟨z,y,vs,r,ob,es,ep,e,c⟩:=x;exact⟨z,y,vs,r,ob,es,ep,FM,c⟩ | dT kvs =>obtain⟨z,y,xs,r,ob,es,ep,e,c⟩:=x;exact⟨z,y,xs,Jq4 r λp q z=>⟨z.1,ht _ _ z.2.1,z.2.2⟩,ob,es,ep,FM,c⟩ | set S n=>obtain⟨ob,es,ep,t,e,c⟩:=x;exact⟨ob,es,ep,t,FM,c⟩ | ins C dx fs =>obtain⟨d,z,ne,e,mA,⟨od,es,ep,e2,c⟩,r⟩:=x;exact⟨ho _ d,z,ne,FM,mA,⟨od,es,ep,DY! d e2,c⟩,r⟩ | own y=>obtain⟨ob,e⟩:=x;exact⟨ob,FM⟩ | xd fs=>obtain⟨mA,⟨od,es,ep,e,c⟩,r⟩:=x;exact⟨mA,⟨od,es,ep,FM,c⟩,r⟩ | oA lo hi=>obtain⟨t,u,v,e⟩:=x;exact⟨t,u,v,FM⟩ | GV ob u ih=>obtain⟨e,q⟩:=x;exact⟨FM,ih q⟩ | bJ ps =>have e:ca { cls:=L!,data:=BU! ps }:=x;show A7! { cls:=L!,data:=BU! ps };exact k a _ ww e | met f y =>have e:ca (Bs! W.methodObj (P! y)):=x;show A7! (Bs! W.methodObj (P! y));exact k a _ ww e | ext φ=>obtain⟨p,⟨o,e⟩,st⟩:=x;exact⟨st _ _ p λo q=>k _ _ ww q,jp FM,st⟩
theorem MM.lt(x:n?)(e:FV!):a<h.objs.size:=(x a o e).lt
theorem MM.fresh(x:n?)(e:h.objs.size<=a):FL!:=by cases q:H a with | none=>rfl | some u=>exact BE! (CB (x.lt q) e)
theorem MM.kept(x:n?)(k:HX!):MM P w H h':=λa o e =>(x a o e).ON (λb u _ q=>k b u q) (λ_ q=>q) ES!
theorem MM.laid(x:n?)(k:HX!)(hp:h.objs.size<=a)(new:DV P w BI! h' a o):MM P w BI! h':=CR! (by have hn:=x.fresh hp;by_cases hb:b=a;(.subst hb;rw[Ac] at e;cases e;exact new);.rw[Ab hb] at e;exact(x b u e).ON (λc v _ q=>k c v q) (λc q=>Lt!) λc xs q=>Lt!)
universe E
def Rd(H:Hp)(a:Addr)(u:HO):Prop:=cr u\/∃o,cr ut
theorem Rd.ok(r:Rd H a u)(x:n?):EJ! u:=by
 rcases r with r|⟨o,r⟩;.exact x a u r
 .obtain⟨_,q⟩:=x a _ r;exact q
def kI:SL (XV HO)
 | some (.BE _)=>True
 | some (.dK _)=>True
 | some (.dT _)=>True
 | some (.set _ _)=>True
 | some (.ins _ _ _)=>True
 | some (.ext _)=>True
 | _=>False
universe S
variable {P:Program}{w:World}{H:Hp}{h h':Heap}{x e:Addr}{o':HO}
theorem MM.write(ok:n?)(mu:kI (H x))(he:e=x\/DQ! e x)(k:JD! (b≠e) h.get?)(iG:∃u,FE! e u)(new:DV P w (h! x o') h' x o'):MM P w (h! x o') h':=λb u q=>by (have kY:∀c y,DQ! c y->c≠x:=λc y r z=>Jx! r mu);(have uz:∀c xs,J0! c .A_->c≠x:=λc xs r z=>Jx! r mu);by_cases hb:b=x;(.subst hb;rw[Ac] at q;cases q;exact new);.rw[Ab hb] at q;by_cases fK:b=e;(·(have q':e? (.own x):=by rcases he with z|z;(.exact BW! (fK.trans z) hb);.rw[fK];exact z);rw[q] at q';cases q';obtain⟨v,hv⟩:=iG;exact⟨v,S! fK hv⟩);·(refine(ok b u q).ON (λc v hc r=>k c v ?_ r) (λc r=>S! (Ab (kY c b r)) r) λc xs r=>S! (Ab (uz c xs r)) r);rcases hc with rfl|hc;(.exact fK);.rintro rfl;rcases he with z|z;(.exact kY c b hc z);.rw[hc] at z;cases z;exact hb rfl
universe E
structure Un(fs ex:J!)(H H':Hp)(h h':Heap):Prop where
 keep:DU! k! (b∉fs->b∉ex->EY!)
 slot:DU! k! (b∈fs->b∉ex->GH!)
 free:∀b o,PP->k!->b∉ex->pi
 there:DU! (b∉ex) (∃o',IN h'.get? o')
 PR:∀b xs,Dr! AT! AT!
 NM:∀b o u,Dr! ut ut
 PU:∀b ps,e? (.bJ ps)->∃more,IN H' (.bJ (ps++more))
universe S
variable {fs bA ex ex':List Addr}{H H1 H2:Hp}{h h1 h2 h':Heap}{a x e:Addr}{o:HO}
theorem Un.any(u:Gh! H1 h1)(q:IN h.get? ob)(n:k!)(hx:b∉ex):∃sl,IN h1.get? { ob with slots:=sl }:=by
 by_cases hb:b∈fs;.exact u.slot b ob q n hb hx
 .exact⟨ob.slots,u.keep b ob q n hb hx⟩
theorem Un.kept(k:HX!):Gh! H h' :=⟨λb ob q _ _ _=>k b ob q,λb ob q _ _ _=>Kf! ob.slots ob,λ_ _ _ n _=>n,λb ob q _=>Kf! ob ob,ES!,λ_ _ _ q=>q,λ_ ps q=>⟨#[],Kh!⟩⟩
theorem Un.refl:Gh! H h:=Un.kept ES!
theorem Un.laid(k:HX!)(hp:h.objs.size<=a)(hn:FL!):Gh! BI! h' where
 keep:=λb u q _ _ _=>k b u q
 slot:=λb u q _ _ _=>Kf! u.slots u
 free:=λb u q n _=>S! (Ab (BI (CB (AR q) hp))) n
 there:=λb u q _=>Kf! u u
 PR:=λb xs q=>Lt!
 NM:=λb u xs q=>Lt!
 PU:=λb ps q=>⟨#[],by rw[Ab (Aj q hn),q];simp⟩
theorem Un.write(mu:kI (H x))(he:e=x\/DQ! e x)(k:JD! (b≠e) h.get?)(iG:∃u,FE! e u):Gh! (h! x o) h':=by
 have hx:∀b,k!->b≠x:=λb n z=>Jx! n mu
 have hb:∀b,k!->b≠e:=λb n z=>by subst z;rcases he with r|r;(.exact hx b n r);.rw[n] at r;cases r
 have hm:∀b u,e? u->¬kI (some u)->b≠x:=λb u q nm z=>Jx! q (nm mu)
 refine⟨λb u q n _ _=>k b u (hb b n) q,λb u q n _ _=>⟨u.slots,k b u (hb b n) q⟩,λb u q n _=>S! (Ab (hx b n)) n,λb u q _=>?_,λb xs q=>Au! (Ab (hm b _ q Cm!)),λb u xs q=>Au! (Ab (hm b _ q Cm!)),λb ps q=>⟨#[],by rw[Ab (hm b _ q Cm!),q];simp⟩⟩;by_cases fK:b=e;.subst fK;exact iG
 .exact⟨u,k b u fK q⟩
universe E
def ng(h:Heap)(H:Hp):J!:=(List.range h.objs.size).filter λa=>(H a).isSome
def Ws(h:Heap)(H:Hp):Heap:=W.hideAll h (ng h H)
theorem Jd2(h:Heap)(H:Hp):(Ws h H).objs.size=h.objs.size:=W.hideAll_size _ _
theorem Jgu(e:PP)(n:k!):x! (Ws h H).get? :=W.hideAll_get _ e λhm=>by have q:(H b).isSome=true:=(AD.mp hm).2;rw[n] at q;simp at q
theorem Ji9(e:x! (Ws h H).get?):PP/\k!:=by have e':PP:=W.of_hideAll (ng h H) e;refine E? e';cases q:H b with | none=>rfl | some x =>have hm:b∈ng h H:=AD.mpr ⟨BH.mpr (AR e'),by simp[q]⟩;have z:AT (Ws h H).get?:=LM (ng h H) hm;rw[z] at e;cases e
def Jj7(g h:Heap)(L:Addr):G!:=(List.range h.objs.size).filterMap λa=>if a=L\/(g.get? a).isSome=true then none else(h.get? a).map λo=>(a,o)
def rest(g h:Heap)(L d:Addr):G!:=(Jj7 g h L).filter λp=>R! (p.1≠d)
structure Mod(K:W.Frag)(mg:V!)(base:Heap):Prop where
 XZ:K.In base
 glob:GM! base.Ns
 blt:∃mb,base.Ns builtinsNs mb/\∀x:Str,E6!->mb x=bootBuiltins x
 nolimit:base.NoLimit
structure Cx(K:W.Frag) where
 prog:Program
 w:World
 mg:V!
 base:Heap
 A:Around
 N:T!
 II:Shared
 QW:Hp
 env:Env
 outer:P?
 stack:P?
 ex:J!
 fn:Str->Bool
 calm:Bool
 pn:G!
 xe:N!
def MK(l:P?):J!:=l.filterMap (·.frame)
abbrev Cx.fs(X:A!):J!:=MK X.outer
def tT(sc:Scope)(x:Str):Prop:=Dg!\/HP!\/K8! sc.names.lookup
def Loc(sc:Scope)(x:Str):Prop:=Dg!\/HP!
def Look(env:Env)(h:Heap)(m:V!)(x:Str)(u:Value):Prop :=
 (IO! env.kindOf/\Ix m u)\/((Ix env.kindOf L?\/K8! env.kindOf)/\∃c,CV! env.cells.lookup/\h.IsCell c (some u))
structure Cx.Ok(X:A!):Prop where
 mod:Mod Kx X.mg X.base
 kind:X.env.scope.kind=.function
 glob:X.env.globals=mainGlobals
 blt:X.env.builtins=builtinsNs
 above:X.II.heap.objs.size<=X.env.locals
 inj:∀x y c,L2!->M! X.env.cells.lookup y c->x=y
 has:∀x,(Ix X.env.kindOf L?\/K8! X.env.kindOf)->∃c,L2!
 bw:∀x c,X.fn x=true->L2!->X.II.heap.objs.size<=c
 hd:b?->X.A.handled=none
 frames:X.A.frames=U! X.stack
 cU:X.stack=X.outer\/(X.stack=X.env::X.outer/\X.env.frame=U! X.env.locals)
 XE:∀b∈X.ex,J3!/\Fl!
 bs:G9! (x! X.II.heap.get?/\AT X.QW)
 XG:X.base.objs.size<=X.II.heap.objs.size
 SJ:G9! (b∉X.ex)
 RP:∀b∈X.ex,b∉X.fs
 MW:X.II.heap.FunFrames X.base X.outer
 YT:∀b∈X.fs,AT X.QW
structure Inv(X:A!)(AA:G!)(σ:List (Option V))(H:Hp)(s:Shared):Prop where
 ok:X.Ok
 os:s.os=X.II.os
 bare:AllBare s.gens
 base:Un X.fs X.ex X.QW H X.II.heap s.heap
 loc:∃m,s.heap.Ns X.env.locals m/\∀(i:Nat)(x:Str)(v:V),Bx!->Kv! (σ[i]?)->MF! tT->∃u,l?/\Look X.env s.heap m x u
 cell:Bg! (∃v,s.heap.IsCell c v)
 free:V? X.env.locals
 I_:Bg! (V? c)
 pin:J7! (C8! p.1 p.2/\V? p.1/\p.1≠X.env.locals/\p.1∉X.fs/\∀v,p.2.data≠L? v)
 DM:MM X.prog X.w H s.heap
 len:σ.length=X.N.length
universe S
variable {X:Cx Kx}{AA:List (Addr×Obj)}{σ:List (Option V)}{H H':Hp}{s:Shared}{h':Heap}
theorem Cx.Ok.vA(ok:X.Ok){b:Addr}{o:Obj}(e:x! X.base.get?):b∉X.fs:=λhb=>by have:=(ok.MW.mem hb).1;rw[e] at this;cases this
theorem Inv.bs(I:B!):G9! (AC/\k!):=λb o e =>⟨I.base.keep b o (E5! I.ok.bs) (I.ok.bs b o e).2 (I.ok.vA e) (Z? I.ok.SJ),I.base.free b o (E5! I.ok.bs) (I.ok.bs b o e).2 (Z? I.ok.SJ)⟩
theorem Inv.bk(I:B!):G9! AC:=T? (E5! I.bs)
theorem Inv.mod{X:A!}(I:B!):Mod Kx X.mg X.base:=I.ok.mod
theorem Inv.TL{X:A!}(I:B!):Kx.In s.heap:=I.ok.mod.XZ.keeps I.bk
theorem Inv.lt(I:B!):X.env.locals<s.heap.objs.size:=let⟨_,hn,_⟩:=I.loc;hn.lt
theorem Inv.sz(I:B!):X.II.heap.objs.size<=s.heap.objs.size:=AV I.ok.above (DD I.lt)
theorem Inv.u_(I:B!)(h:Eu!):a∉X.fs:=λhb=>by obtain⟨_,o,ho,_⟩:=I.ok.MW.mem hb;exact BE! (CB (AR ho) (AV I.sz h))
theorem Inv.fX(I:B!):Bg! (c≠X.env.locals):=λx c e z=>by obtain⟨v,o,ho,hd⟩:=GD!;obtain⟨m,⟨o',es,ep,YO,TN,_⟩,_⟩:=I.loc;rw[z,YO] at ho;cases ho;rw[TN] at hd;cases hd
theorem Inv.MW(I:B!):s.heap.FunFrames X.base X.outer:=by
 have all:∀(l:P?),(∀b∈MK l,b∈X.fs)->X.II.heap.FunFrames X.base l->s.heap.FunFrames X.base l:=by intro l;induction l with | nil=>intro _ _;trivial | cons env r ih =>intro hs hl;obtain⟨hk,⟨L,o,hf,hn,ho,hd⟩,hr⟩:=hl;have hL:L∈X.fs:=hs L (by unfold MK;rw[HI,hf];exact ZL);obtain⟨sl,e⟩:=I.base.slot L o ho (I.ok.YT L hL) hL λz=>I.ok.RP L z hL;exact⟨hk,⟨L,_,hf,hn,e,hd⟩,ih (M? (hs b (by unfold MK;rw[HI,hf];exact ZD _ hb))) hr⟩
 exact all X.outer (λ_ hb=>hb) I.ok.MW
theorem Inv.stack(I:B!):s.heap.FunFrames X.base X.stack:=by
 rcases I.ok.cU with e|⟨e,hf⟩;.rw[e];exact I.MW
 .rw[e];obtain⟨m,hn,_⟩:=I.loc;refine l! (by rw[I.ok.kind];decide) hf hn ?_ I.MW;exact Heap.get?_none_of_le (AV I.ok.XG I.ok.above)
theorem Inv.QY(I:B!):∀b∈MK X.stack,b∈X.env.locals::X.fs:=M? (by rcases I.ok.cU with e|⟨e,hf⟩;(.rw[e] at hb;exact ZD _ hb);.rw[e] at hb;unfold MK at hb;rw[HI,hf] at hb;exact hb)
theorem Inv.QH(I:B!):∀b∈MK X.stack,k!:=M? (by rcases ZM (I.QY b hb) with e|hb;(.rw[e];exact I.free);.obtain⟨_,o,ho,_⟩:=I.ok.MW.mem hb;exact I.base.free b o ho (I.ok.YT b hb) λz=>I.ok.RP b z hb)
theorem Inv.step{g':Array GenState}{t':Nat}{d':Drawn}{ch:J!}(I:B!)(a_:∀b∈ch,LI! Il! (Fl!) G4!)(keep:∀b o,J3!->b∉X.fs->b∉ch->AC->k!->EY!)(slot:∀b o,J3!->b∈X.fs->b∉ch->AC->k!->GH!)(free:∀b o,b∉ch->AC->k!->pi)(there:∀b o,b∉ch->AC->∃o',IN h'.get? o')(PR:∀b xs,Dr! AT! AT!)(NM:∀b o u,Dr! ut ut)(PU:∀b ps,e? (.bJ ps)->∃more,IN H' (.bJ (ps++more)))(ns:∀m,s.heap.Ns X.env.locals m->h'.Ns X.env.locals m)(DM:I9! h')(hg:AllBare g') : Ef! { s with heap:=h',gens:=g',drawn:=d',toks:=t' }:=by
 have xU:KB! X.II.heap.get? J3!:=T? (BI (CB Bj! I.ok.above));have oI:∀b o,x! X.II.heap.get?->b∉X.ex->b∉ch:=λb o e hx hb=>by rcases(a_ b hb).1 with z|z;(.exact hx z);.exact BE! (CB Bj! z)
 have cellK:Bg! (∀v,s.heap.IsCell c v->h'.IsCell c v):=λx c e v ⟨o,ho,hd⟩=>by have jT:c∉ch:=λz=>(a_ c z).2.2.1 x c e rfl;by_cases hc:c∈X.fs;(.obtain⟨sl,q⟩:=slot c o (I.fX x c e) hc jT ho (I.I_ x c e);exact⟨_,q,hd⟩);.exact At (keep c o (I.fX x c e) hc jT ho (I.I_ x c e)) hd
 refine⟨I.ok,I.os,hg,⟨Cy!,Cy!,λb o e n hx=>?_,λb o e hx=>?_,λb xs e=>PR b xs (I.base.PR b xs e),λb o xs e=>NM b o xs (I.base.NM b o xs e),λb ps e=>?_⟩,?_,λx c e=>?_,?_,λx c e=>?_,A0!,DM,I.len⟩;.exact keep b o (Z? xU) hb JT! (Dz! I.base.keep) (Jl! o)
 .obtain⟨sl,e1⟩:=Dz! I.base.slot;obtain⟨sl',e2⟩:=slot b _ (Z? xU) hb JT! e1 (Jl! o);exact⟨sl',e2⟩
 .obtain⟨o',e1⟩:=H6!;exact free b o' JT! e1 (Jl! o)
 .obtain⟨o',e1⟩:=H6!;exact there b o' JT! e1
 .obtain⟨m1,e1⟩:=I.base.PU b ps e;obtain⟨m2,e2⟩:=PU b _ e1;exact⟨m1++m2,U? e2 Array.append_assoc⟩
 .obtain⟨m,hn,hl⟩:=I.loc;refine⟨m,ns m hn,λi x v e1 e2 e3=>?_⟩;obtain⟨u,r,l⟩:=hl i x v e1 e2 e3;refine BZ! u r;rcases l with l|⟨k,c,e,z⟩;(.exact O? l);.exact AO! k c e (cellK x c e _ z)
 .obtain⟨v,z⟩:=GD!;exact⟨v,cellK x c e v z⟩
 .obtain⟨m,⟨o,_,_,ho,_⟩,_⟩:=I.loc;exact free _ o (λz=>(a_ _ z).2.1 rfl) ho I.free
 .obtain⟨v,o,ho,hd⟩:=GD!;exact free c o (λz=>(a_ c z).2.2.1 x c e rfl) ho (I.I_ x c e)
 .obtain⟨e,n,ne,nf,d⟩:=Fr!;have jT:p.1∉ch:=λz=>(a_ p.1 z).2.2.2 p hp rfl;exact⟨keep p.1 p.2 ne nf jT e n,free p.1 p.2 jT e n,ne,nf,d⟩
theorem Inv.un(I:B!)(u:Un X.fs [] H H' s.heap h')(DM:I9! h'):Ef! Cs!:=by obtain⟨m,⟨o,es,ep,ho,r⟩,_⟩:=id I.loc;obtain⟨sl,hL⟩:=u.any ho I.free Y!;exact I.step (g':=s.gens) (d':=s.drawn) (ch:=[]) (λ_ z=>nomatch z) (λb o _ hb _ e n=>u.keep b o e n hb Y!) (λb o _ hb _ e n=>u.slot b o e n hb Y!) (λb o _ e n=>u.free b o e n Y!) (λb o _ e=>u.there b o e Y!) u.PR u.NM u.PU (λm' hm=>by obtain⟨o',fO,fQ,YO,r'⟩:=hm;rw[ho] at YO;cases YO;exact⟨_,fO,fQ,hL,r'⟩) DM I.bare
theorem Inv.call(I:B!)(u:ID! X.stack ch h')(DM:I9! h')(hg:AllBare g')(a_:∀b∈ch,LI! Il! (Fl!) G4!) : Ef! { s with heap:=h',gens:=g',drawn:=d',toks:=t' }:=by obtain⟨m,⟨o,es,ep,ho,r⟩,_⟩:=id I.loc;obtain⟨sl,hL⟩:=u.any ho I.free λz=>(a_ _ z).2.1 rfl;exact I.step (ch:=ch) a_ (λb o hL hb hc e n=>u.keep b o e n (λz=>(ZM (I.QY b z)).elim hL hb) hc) (λb o _ _ hc e n=>u.any e n hc) (λb o hc e n=>u.free b o e n hc) (λb o hc e=>u.there b o e hc) u.PR u.NM u.PU (λm' hm=>by obtain⟨o',fO,fQ,YO,r'⟩:=hm;rw[ho] at YO;cases YO;exact⟨_,fO,fQ,hL,r'⟩) DM hg
theorem Inv.turned{t':Nat}{it:Addr}(I:B!)(k:HG!)(hn:V? it)(hL:it≠X.env.locals)(h1:it∈X.ex\/X.II.heap.objs.size<=it)(h2:Bg! (c≠it))(h3:J7! (p.1≠it)):Aj! Cs!:=by
 have jR:∀b u,e? u->b≠it:=λb u e z=>by rw[z,hn] at e;cases e
 refine I.step (g':=s.gens) (d':=s.drawn) (ch:=[it]) (Az!) (λb o _ _ hc e _=>k b o (Ht! hc) e) (λb o _ _ hc e _=>⟨o.slots,k b o (Ht! hc) e⟩) (λ_ _ _ _ n=>n) (λb o hc e=>jp (k b o (Ht! hc) e)) (KJ!) (λ_ _ _ e=>e) (λb ps e=>⟨#[],Ck! e⟩) (λm hm=>?_) (CR! ?_) I.bare;·(have e:b=it:=WF);subst e;exact⟨h1,hL,h2,h3⟩
 .obtain⟨o,es,ep,ho,r⟩:=hm;exact⟨o,es,ep,k _ o (Ne.symm hL) ho,r⟩
 .refine(I.DM b u e).ON (λc v hc q=>k c v ?_ q) (λ_ q=>q) ES!;rcases hc with z|z;(.rw[z];exact jR b u e);.exact jR c _ z
theorem Inv.tok(I:B!)(t:Nat):Aj! { s with toks:=t }:=I.un (h':=s.heap) (t':=t) Un.refl I.DM
theorem Inv.kept(I:B!)(k:MI! s.heap.get?):Aj! Cs!:=I.un (Un.kept k) (I.DM.kept k)
theorem Inv.laid{a:Addr}{o:HO}{t':Nat}(I:B!)(k:MI! s.heap.get?)(hp:Eu!)(new:F1! BI! a o) : IR BI! Cs!:=I.un (Un.laid k hp (I.DM.fresh hp)) (I.DM.laid k hp new)
theorem Inv.write{x e:Addr}{o:HO}{t':Nat}(I:B!)(mu:kI (H x))(he:e=x\/DQ! e x)(k:JD! (b≠e) s.heap.get?)(iG:∃u,FE! e u)(new:F1! (h! x o) x o):DE! x o Cs!:=I.un (Un.write mu he k iG) (I.DM.write mu he k iG new)
theorem Inv.WU(I:B!)(h:∀p∈UI,C8! p.1 p.2/\V? p.1/\p.1≠X.env.locals/\p.1∉X.fs/\∀v,p.2.data≠L? v):Gf! X UI :=MM! I.ok (λp hp=>(ZI hp).elim (λz=>I.pin p (ZB _ z)) (h p))
theorem Yh{N:T!}(hN:N.Nodup){i j:Nat}{x:Str}(a:N[i]?=some x)(b:N[j]?=some x):i=j:=by obtain⟨h1,e1⟩:=ZJ a;obtain⟨h2,e2⟩:=ZJ b;exact(EE hN).mp (e1.trans e2.symm)
theorem Nu{M:Model}{A:Around}{E:N!}{i:Nat}{x:Str}{v:V}{u:Value}{Q:Bv!}(I:B!)(hN:X.N.Nodup)(hi:Bx!)(hx:HU!)(r:l?)(h:∀s',Inv X AA HQ! H s'->(∃a,JY! a s.heap s'.heap/\(a=X.env.locals\/Ix X.env.cells.lookup a))->Q () s')(hf:IM!:=by first|exact AP!|exact y! rfl|assumption):BM! (storeName X.env x u):=by
 obtain⟨m,hn,hl⟩:=id I.loc;have ZZ:d? (X.env.scope.kind == .class || (X.env.scope.kind == .module&&X.env.locals != X.env.globals)):=by rw[I.ok.kind];rfl
 have ko:i<σ.length:=by rw[I.len];exact(ZJ hi).1
 have fX:=I.fX;have tracked:∀{a:Addr} {h':Heap},(∃o,FP! o/\FL!)->B9! a->MM X.prog X.w H h':=λ{a h'} ha hs b ob e=>by obtain⟨_,_,ND⟩:=ha;refine(I.DM b ob e).ON (λc w' hc q=>(hs.2 c ?_).trans q) (λ_ q=>q) ES!;rintro rfl;rcases hc with rfl|hc;(.rw[ND] at e;cases e);.rw[ND] at hc;cases hc
 rcases hx with hk|hk;.refine wpAny_storeName_local hk hn (λh' hn' hs=>?_) ZZ;obtain⟨oL,_,_,hoL,_⟩:=id hn;refine h _ ⟨I.ok,I.os,I.bare,⟨Cy!,Cy!,I.base.free,λb o e hx=>?_,I.base.PR,I.base.NM,I.base.PU⟩,⟨_,hn',λj y v' e1 e2 e3=>?_⟩,λy c e=>?_,I.free,I.I_,A0!,tracked ⟨oL,hoL,I.free⟩ hs,by simpa using I.len⟩ ⟨_,hs,AP!⟩;(.exact(hs.2 b (BI (CB Bj! I.ok.above))).trans (Dz! I.base.keep));(.obtain⟨sl,e1⟩:=Dz! I.base.slot;exact⟨sl,Hc! I.ok.above⟩);(.obtain⟨o',e1⟩:=H6!;exact⟨o',Hc! I.ok.above⟩);(.by_cases hj:j=i;(.subst hj;rw[hi] at e1;cases e1;rw[KP ko] at e2;cases e2;exact⟨u,r,Bw! hk B?⟩);.rw[CU! List.getElem?_set_ne hj] at e2;obtain⟨u',r',q⟩:=hl j y v' e1 e2 e3;refine BZ! u' r';rcases q with⟨k,e⟩|⟨k,c,e,z⟩;(.refine O? (E? k);have:y≠x:=λe=>hj (Yh hN e1 (e▸hi));simp[this,e]);.exact AO! k c e (z.sameBut hs (fX y c e)));(.obtain⟨w',z⟩:=I.cell y c e;exact⟨w',z.sameBut hs (fX y c e)⟩);.obtain⟨e,n,ne,nf,d⟩:=Fr!;exact⟨(hs.2 p.1 ne).trans e,n,ne,nf,d⟩
 ·(have rX:X.fn x=true:=by rcases hf with z|z;(.exact z);.rw[z] at hk;cases hk);obtain⟨c,hc⟩:=I.ok.has x (Q! hk);obtain⟨w',z⟩:=I.cell x c hc;refine wpAny_storeName_cell I.ok.kind hk hc z (λh' rj hs=>?_);obtain⟨oc,a7,vV⟩:=id z;refine h d! ⟨I.ok,I.os,I.bare,⟨Cy!,Cy!,I.base.free,λb o e hx=>?_,I.base.PR,I.base.NM,I.base.PU⟩,⟨m,hn.sameBut hs (Ne.symm (fX x c hc)),λj y v' e1 e2 e3=>?_⟩,λy c' e=>?_,I.free,I.I_,A0!,tracked ⟨oc,a7,I.I_ x c hc⟩ hs,by simpa using I.len⟩ ⟨c,hs,y! hc⟩;(.exact(hs.2 b (BI (CB Bj! (I.ok.bw x c rX hc)))).trans (Dz! I.base.keep));(.obtain⟨sl,e1⟩:=Dz! I.base.slot;exact⟨sl,Hc! (I.ok.bw x c rX hc)⟩);(.obtain⟨o',e1⟩:=H6!;exact⟨o',Hc! (I.ok.bw x c rX hc)⟩);(.by_cases hj:j=i;(.subst hj;rw[hi] at e1;cases e1;rw[KP ko] at e2;cases e2;exact⟨u,r,AO! (O? hk) c hc rj⟩);.rw[CU! List.getElem?_set_ne hj] at e2;obtain⟨u',r',q⟩:=hl j y v' e1 e2 e3;refine BZ! u' r';rcases q with q|⟨k,c',e,z'⟩;(.exact Q! q);.refine AO! k c' e (z'.sameBut hs ?_);rintro rfl;exact hj (Yh hN e1 (I.ok.inj _ _ _ e hc▸hi)));(.by_cases yW:c'=c;(.subst yW;exact i! rj);.obtain⟨w2,z2⟩:=I.cell y c' e;exact⟨w2,z2.sameBut hs yW⟩);.obtain⟨e,n,ne,nf,d⟩:=Fr!;refine⟨(hs.2 p.1 ?_).trans e,n,ne,nf,d⟩;intro q;rw[q,a7] at e;have q':oc=p.2:=ZO e;exact d w' (q? q' vV)
theorem Xm{M:Model}{A:Around}{E:N!}{i:Nat}{x:Str}{v:V}{u:Value}{Q:Bv!}(I:B!)(hN:X.N.Nodup)(hi:Bx!)(hx:HU!)(r:l?)(h:∀s',Inv X AA HQ! H s'->Q () s')(hf:IM!:=by first|exact AP!|exact y! rfl|assumption):BM! (storeName X.env x u) :=Nu I hN hi hx r (λs' I' _=>h s' I') hf
theorem Inv.WQ{s':Shared}{ch:J!}(I:B!)(ho:s'.os=s.os)(u:ID! X.stack ch s'.heap)(DM:I9! s'.heap)(hg:Dq!)(a_:∀b∈ch,LI! Il! (Fl!) G4!):AW!:=by obtain⟨h',g',d',t',o'⟩:=s';have e:o'=s.os:=ho;subst e;exact I.call (g':=g') (t':=t') (d':=d') u DM hg a_
universe E
abbrev XK:=Value->BS! DH!
abbrev St:=List (Option V)
abbrev VK:=K9!
abbrev TE:=St->CY!
abbrev TT:=Hv! AL!
abbrev TA:=Hv! o0
structure Ends where
 nx:NE
 rt:VK
 bk:NE:=Ex!
 ct:NE:=Ex!
abbrev TS:=Ends->NE
inductive EP(X:A!)(AA:G!)(σ:St)(Q:VK)(u:Value)(s':Shared):Prop
 | mk v H' (_:AW!) (_:l?) (_:Q v H')
inductive TP(X:A!)(AA:G!)(σ:St)(Q:AL!)(b:Bool)(s':Shared):Prop
 | mk H' (_:AW!) (_:Q b H')
inductive AP(X:A!)(AA:G!)(σ:St)(Q:o0)(us:F!)(s':Shared):Prop
 | mk vs H' (_:AW!) (_:By!) (_:Q vs H')
def SP(X:A!)(AA:G!)(D:Ends)(f:Flow)(s':Shared):Prop :=
 match f with
 | .next=>C0! (D.nx EV H')
 | .brk=>C0! (D.bk EV H')
 | .cont=>C0! (D.ct EV H')
 | .ret u=>∃v EV H',L9! s'/\l?/\D.rt v H'
def PE(X:A!)(e:Expr)(t:TE):Prop :=
 ∀(AA:G!)(s:Shared)(σ:St)(H:Hp)(Q:VK),Lv! (T0 (Os e))
def PT(X:A!)(e:Expr)(t:TT):Prop :=
 ∀(AA:G!)(s:Shared)(σ:St)(H:Hp)(Q:AL!),Lv! (Lg! (isTrue e X.env (Os e)))
def PW(X:A!)(e:Expr)(t:TT):Prop :=
 ∀(whole:Sem Value)(AA:G!)(s:Shared)(σ:St)(H:Hp)(Q:AL!),Lv! (Lg! (isTrue e X.env whole))
theorem YX(h:PW X e t):PT X e t:=h _
def PA(X:A!)(es:A1!)(t:TA):Prop :=
 ∀(pos:Pos)(AA:G!)(s:Shared)(σ:St)(H:Hp)(Q:o0),Lv! (Gq! (spliced (backTo pos (K6! es))) (AP X AA σ Q))
def PS(X:A!)(st:Stmt)(t:TS):Prop :=
 ∀(AA:G!)(s:Shared)(σ:St)(H:Hp)(D:Ends),Av! (t D σ H) (Gq! (exec st X.env) (SP X AA D))
def PM(X:A!)(st:Kw!)(t:TS):Prop :=
 ∀(AA:G!)(s:Shared)(σ:St)(H:Hp)(D:Ends),Av! (t D σ H) (Gq! (execs st X.env) (SP X AA D))
theorem DZ(h:BM! t)(hQ:∀a s,Q a s->Q' a s):wpAny M A t Q' E s:=EJ h hQ KN!
universe S
variable {X:Cx Kx}
theorem bin{a b:Expr}{ta tb:TE}(ha:Ev)(hb:sw){AA:G!}{s:Shared}{σ:St}{H:Hp}{R:V->K9!}(I:B!)(h:Gt! (Fk! (R x y H2))){α:Type}{Q:o! α}{f:Value->Value->Sem α}(hf:∀v u s2 x y H2,IR H2 s2->N? x v->R?->R x y H2->Iw! s2) : G8! a (λv EH=>Co! (Os b) (λu RO=>Iw! RO) EH):=by refine FY! ha;rintro v s1 ⟨x,H1,I1,r1,q1⟩;refine LV! hb;rintro u s2 ⟨y,H2,I2,r2,q2⟩;exact hf v u s2 x y H2 I2 r1 r2 q2
inductive Jn6(i:Nat)(σ:St)(H:Hp)(Q:VK):Prop
 | mk (v) (e0:Kv! (σ[i]?)) (e1:Q v H)
def Ca(i:Nat):TE:=λσ H Q=>Jn6 i σ H Q
def tC(v:V):TE:=λ_ H Q=>Q v H
theorem Jld(hN:Bx!)(hv:MF! tT)(hd:UF:=by decide)(XB:d? (x==("__classdict__":Str)):=by decide):g! Ff! (Ca i):=by
 intro AA s σ H Q I h;obtain⟨v,e,h⟩:=h;obtain⟨m,hn,hl⟩:=I.loc;obtain⟨u,r,l⟩:=hl i x v hN e hv;have fin:Hb! u:=⟨v,H,I,r,h⟩;rcases l with⟨hk,hm⟩|⟨hk,c,hc,LR⟩;.exact wpAny_Name (wpAny_loadName_local I.ok.kind hk hn hm fin) hd
 .rcases hk with hk|hk;(.exact wpAny_Name (wpAny_loadName_cell I.ok.kind hk hc LR fin) hd);.exact wpAny_Name (wpAny_loadName_free I.ok.kind hk hc LR fin XB) hd
theorem Ag:Iq! (E! i) (tC (E! i)):=KO! (wpAny_Constant_int ⟨z! i,H,I.tok _,AB!,h⟩)
theorem Fx:Iq! (C? b) (tC (.bl b)):=KO! (Constant_bool (KF (.bl b) H I h))
theorem uM:Iq! L! (tC .FH):=KO! (Constant_none (KF .FH H I h))
theorem A7:Iq! (u? x) (tC (u? x)):=KO! (Calls.Constant_str ⟨u? x,H,I.tok _,AB!,h⟩)
def Gl(X:A!)(x:Str):Prop:=Ix X.env.kindOf .globalImplicit
theorem Kq{E:N!}{AA:G!}{s:Shared}{σ:St}{H:Hp}{x:Str}{u:Value}{pos:Pos}{Q:N!}(I:B!)(hg:Ab!)(hm:FK! u)(h:Q u s)(hd:UF:=by decide):GX! (Os Ff!) :=Calls.Name_function_global I.ok.kind hg (Calls.loadGlobal_global (q! I.ok.glob (I.mod.glob.keeps I.bk)) hm h) hd
theorem Wd(I:B!)(hg:Ab!)(hm:W! X.mg x)(hv:Ix bootBuiltins u)(h:Q u s)(hn:E6!:=by decide)(hd:UF:=by decide):GX! (Os Ff!):=by obtain⟨mb,h1,h2⟩:=I.mod.blt;exact Calls.Name_function_global I.ok.kind hg (Calls.loadGlobal_builtin (q! I.ok.glob (I.mod.glob.keeps I.bk)) hm (q! I.ok.blt (h1.keeps I.bk)) ((h2 x hn).trans hv) h) hd
def t2I(ta tb:TE)(k:Int->BS! Int):NE:=λσ H=>Gt! (Fk! (∃i j,C1!/\E8!/\k i j H2))
variable {a b:Expr}{ta tb:TE}{pos:Pos}
def PC(X:A!)(op:CmpOp)(a b:Expr)(t:TE):Prop :=
 ∀(AA:G!)(s:Shared)(σ:St)(H:Hp)(Q:VK),E3! (t σ H Q ->
  G8! a (λv EH=>Co! (Os b) (λu RO=>Co! (compareOp op v u) (EP X AA σ Q) RO) EH))
theorem Yi(b:Expr)(h:op≠.In)(h2:op≠.NotIn):EN!:=by
 have e1:d? (op==CmpOp.In):=IS! h
 have e2:d? (op==CmpOp.NotIn):=IS! h2
 cases b<;>simp[behindInMarks,e1,e2]
def Zv(p:Er! Bool)(ta tb:TE):TE:=λσ H Q=>t2I ta tb (λi j H2=>Q (.bl (p i j)) H2) σ H
abbrev tLt:EL!:=GK! (i<j)
abbrev tLe:EL!:=GK! (i<=j)
abbrev tGt:EL!:=GK! (j<i)
abbrev tGe:EL!:=GK! (j<=i)
abbrev Jor:EL!:=GK! (i=j)
abbrev Jp6:EL!:=Zv λi j=>! R! (i=j)
theorem Jlh{op:CmpOp}{p:Er! Bool}(ha:Ev)(hb:sw)(rule:∀(i j:Int) (t u:Tok) (Q:N!) (s:Shared),Lo! p i j->Gq! (compareOp op EC! HR!) Q):PC X op a b (Zv p ta tb):=by intro AA s σ H Q I h;refine Jo! bin ?_;obtain⟨i,j,rfl,rfl,q⟩:=q;obtain⟨t,rfl⟩:=rx;obtain⟨t',rfl⟩:=ry;exact rule i j t t' _ s2 (KF (.bl _) H2 I2 q)
theorem Jli(ha:Ev)(hb:sw):PC X .Eq a b (Jor ta tb):=Jlh ha hb λ_ _ _ _ _ _ h=>eq_int (S! Bool.beq_eq_decide_eq h)
inductive ItB  (x:V) (H1:Hp) (Q:AL!):Prop
 | mk (c) (e0:x=.bl c) (e1:Q c H1)
def tB(t:TE):TT:=Ee! t (ItB  x H1 Q)
theorem Jlf(h:PC X op a b t)(h1:EN!:=by first|exact Yi _ Bn! (r?)|rfl):g! (Ez! a [op] [b] pos) t:=λAA s σ H Q I hw=>wpAny_Compare1 (h AA s σ H Q I hw) h1
theorem Ed(h:PC X op a b t)(h1:EN!:=by first|exact Yi _ Bn! (r?)|rfl):PT X (Ez! a [op] [b] pos) (tB t):=by intro AA s σ H Q I hw;refine wpAny_isTrue_Compare1 (DZ (Ii!) λv s1 h1=>DZ h1 λu s2 h2=>DZ h2 λc s3 ⟨x,H1,I1,r1,q1⟩=>?_) h1;obtain⟨d,rfl,q⟩:=q1;cases r1;exact HP ⟨H1,I1,q⟩
theorem Hg(h:g! e t)(he:∀whole,isTrue e X.env whole=(do let v <-whole;standAt e.pos;holding [v] (truthy v)):=by intro _;rfl):PT X e (tB t):=by
 intro AA s σ H Q I hw
 refine isTrue_plain (DZ (Ii!) (DR! ?_)) (he _)
 obtain⟨d,rfl,q⟩:=q1
 cases r1
 exact HP ⟨H1,I1,q⟩
variable {tA ni:TT}{rest:List Expr}
def tw(t u:TT):TT:=Ly! (Ke! (f? u Q) (Q false H1))
def tOr(t u:TT):TT:=Ly! (Ke! (Q true H1) (f? u Q))
def Jop(t:TT):TT:=Ly! (Q (!c) H1)
theorem Ki(ha:GC!):EK! .And [a] tA:=by intro wh AA s σ H Q I h;refine GY! isTrue_and ha Q (λc s1 e=>?_);cases c with | true=>exact isTrue_and_nil e | false=>exact e
theorem Qa(ha:GC!):EK! .Or [a] tA:=by intro wh AA s σ H Q I h;refine GY! isTrue_or ha Q (λc s1 e=>?_);cases c with | false=>exact isTrue_or_nil e | true=>exact e
theorem Jt(ha:GC!)(hb:EK! .And (DX!) ni):EK! .And (a::DX!) (tw tA ni):=by intro wh AA s σ H Q I h;refine F4! isTrue_and;rintro c s1 ⟨H1,I1,q1⟩;cases c with | true=>exact hb wh AA s1 σ H1 Q I1 q1 | false=>exact⟨H1,I1,q1⟩
theorem X0(ha:GC!)(hb:EK! .Or (DX!) ni):EK! .Or (a::DX!) (tOr tA ni):=by intro wh AA s σ H Q I h;refine F4! isTrue_or;rintro c s1 ⟨H1,I1,q1⟩;cases c with | true=>exact⟨H1,I1,q1⟩ | false=>exact hb wh AA s1 σ H1 Q I1 q1
theorem Z7(ha:GC!):PT X (.UnaryOp .Not a pos) (Jop tA):=KP! (GY! isTrue_not ha (λc H1=>Q (!c) H1) (λc s1 ⟨H1,I1,q1⟩=>⟨H1,I1,q1⟩))
def Jmz(ta tb:TE):TE:=Da! (∃c,x=.bl c/\Ke! (f? tb Q) (Q (.bl false) H1))
theorem Jle(h:g! a t):Rs .BoolOp op [a] t:=λAA s σ H Q I hw=>BoolOp_one (h AA s σ H Q I hw)
theorem Jlg(ha:Ev)(hb:Rs .BoolOp .And (DX!) tb):Rs .BoolOp .And (a::DX!) (Jmz ta tb):=by intro AA s σ H Q I h;refine F4! BoolOp_and;rintro v s1 ⟨x,H1,I1,r1,q1⟩;obtain⟨c,rfl,q1⟩:=q1;cases r1;refine HP ?_;cases c with | true=>exact Gl! hb Q | false=>exact KF (.bl false) H1 I1 q1
def tIf(t:TT)(ta tb:TE):TE:=Ly! (Ke! (f? ta Q) (f? tb Q))
theorem X6(hc:PT X c tA)(ha:Ev)(hb:sw):g! (.IfExp c a b pos) (tIf tA ta tb):=by intro AA s σ H Q I h;refine MB! wpAny_IfExp hc;rintro d s1 ⟨H1,I1,q1⟩;cases d with | true=>exact Gl! ha Q | false=>exact Gl! hb Q
universe E
def DW(K:W.Frag)(H:Hp)(a:Addr)(xs:D!):Prop :=
 Rd H a (.BE xs) \/
  ∃(o:Obj)(its:db)(n:Nat),z? K.lookup o/\o.cls=G? p?/\o.dict=none/\o.data=B3! its/\its.size<=sizeLine/\Vals xs its.toList
def CS(K:W.Frag)(H:Hp)(a:Addr)(xs:D!):Prop :=
 Rd H a (.A_ xs) \/
  ∃(o:Obj)(its:db)(n:Nat),z? K.lookup o/\Kj!/\o.data=B3! its/\its.size<=sizeLine/\Vals xs its.toList
def Jpx:Value->XV V
 | .none=>U! .FH
 | .bool b=>Y? .bl b
 | .int i _=>Y? E! i
 | .str x _=>Y? u? x
 | .bytes b _=>Y? .WG b
 | .float b _=>Y? .oj b
 | .ref a=>Y? .ref a
 | .type n=>Y? .ty n
 | _=>none
theorem RelV.abs(r:A8!):M! Jpx u x:=by cases x with | FH=>cases r;rfl | bl _=>cases r;rfl | int _=>obtain⟨t,rfl⟩:=r;rfl | str _=>obtain⟨t,rfl⟩:=r;rfl | WG _=>obtain⟨t,rfl⟩:=r;rfl | oj _=>obtain⟨t,rfl⟩:=r;rfl | ref _=>cases r;rfl | ty _=>cases r;rfl
theorem RelV.inj(r:A8!)(q:R?):x=y:=ZO (r.abs.symm.trans q.abs)
theorem Vals.inj{xs:D!}{us:F!}(p:TD):∀{ys:D!},EW! ys->xs=ys:=by induction p with | nil=>intro ys q;cases q;rfl | cons r t ih=>intro ys q;cases q with|cons r' t'=>rw[r.inj r',ih t']
universe S
variable {X:Cx Kx}{AA:List (Addr×Obj)}{σ:St}{H:Hp}{s:Shared}{a:Addr}{xs ys:List V}
theorem DW.of{K:W.Frag}(h:J0! a .BE):AR!:=Q! (Q! h)
theorem CS.of{K:W.Frag}(h:J0! a .A_):AS!:=Q! (Q! h)
theorem Inv.list{X:A!}(I:B!)(h:DW Kx H a xs):∃its:F!,Dw!/\PlainL s.heap a its.toArray/\SB:=by
 rcases h with h|⟨o,its,n,hk,hc,hd,hs,hz,r⟩;.obtain⟨z,its,n,r,e⟩:=h.ok I.DM;exact⟨its,r,⟨_,n,e,rfl,rfl,rfl⟩,z⟩
 .refine⟨its.toList,r,⟨o,n,I.TL a o hk,hc,hd,by simpa using hs⟩,?_⟩;have e:=r.length;simp only[Cn] at e;lia
theorem Inv.tuple{X:A!}(I:B!)(h:CS Kx H a xs):∃its:F!,Dw!/\IsTup s.heap a its.toArray/\SB:=by
 rcases h with h|⟨o,its,n,hk,hc,hs,hz,r⟩;.obtain⟨z,its,r,p⟩:=h.ok I.DM;exact⟨its,r,p,z⟩
 .refine⟨its.toList,r,⟨o,I.TL a o hk,hc,n,by simpa using hs⟩,?_⟩;have e:=r.length;simp only[Cn] at e;lia
theorem Inv.UO{X:A!}(I:B!)(h:DW Kx H a xs)(h':DW Kx H a ys):xs=ys:=by
 obtain⟨its,r,⟨o,n,e,_,_,d⟩,_⟩:=I.list h;obtain⟨its',r',⟨o',n',e',_,_,d'⟩,_⟩:=I.list h';rw[e] at e';cases e';rw[d] at d';injection d' with d1 _;have:its=its':=BR! (congrArg Array.toList d1)
 subst this;exact r.inj r'
theorem Inv.XT{X:A!}(I:B!)(h:CS Kx H a xs)(h':CS Kx H a ys):xs=ys:=by
 obtain⟨its,r,⟨o,e,_,n,d⟩,_⟩:=I.tuple h;obtain⟨its',r',⟨o',e',_,n',d'⟩,_⟩:=I.tuple h';rw[e] at e';cases e';rw[d] at d';injection d' with d1 _;have:its=its':=BR! (congrArg Array.toList d1)
 subst this;exact r.inj r'
universe E
abbrev Cx.RN(X:A!)(E:N!):A!:={ X with xe:=E }
abbrev Cx.jO(X:A!):A!:=X.RN Ex!
theorem Cx.Ok.RN{X:A!}(ok:X.Ok)(E:N!):(X.RN E).Ok :=IK!
theorem Cx.Ok.MB{X:A!}{E:N!}(ok:(X.RN E).Ok):X.Ok :=IK!
universe S
variable {X:Cx Kx}{AA:List (Addr×Obj)}{σ:St}{H:Hp}{s:Shared}{E:Value->Shared->Prop}
theorem Inv.RN(I:B!)(E:N!):JF! (X.RN E):=Ha! I.ok.RN E I.pin
theorem Inv.MB(I:JF! (X.RN E)):B!:=MM! I.ok.MB I.pin
theorem SP.MB(h:SP (X.RN E) AA D f s'):SP X AA D f s':=by cases f with | next=>obtain⟨EV,H',I,q⟩:=h;exact⟨EV,H',I.MB,q⟩ | brk=>obtain⟨EV,H',I,q⟩:=h;exact⟨EV,H',I.MB,q⟩ | cont=>obtain⟨EV,H',I,q⟩:=h;exact⟨EV,H',I.MB,q⟩ | ret u=>obtain⟨v,EV,H',I,r,q⟩:=h;exact⟨v,EV,H',I.MB,r,q⟩
theorem PM.jO{st:Kw!}{t:TS}(h:PM X.jO st t):PM X st t:=λAA s σ H D I hw =>EJ (h AA s σ H D (I.RN _) hw) (λ_ _ q=>q.MB) λ_ _ z=>False.elim z
universe E
universe S
variable {X:Cx Kx}{st:Stmt}{rest:List Stmt}{t u:TS}{e:Expr}{te:TE}{pos:Pos}
def uD:TS:=CM! KD!
def Jmt(t u:TS):TS:=CM! (t { D with nx:=u D } σ H)
theorem A3:PM X [] uD:=λ_ _ σ H _ I h=>NQ (Aw! H I h)
theorem Ad(h1:PS X st t)(h2:PM X rest u):PM X (st::rest) (Jmt t u):=by intro AA s σ H D I h;refine GY! wpAny_execs_cons h1 { D with nx:=u D } (λf s1 q=>?_);cases f with | next =>obtain⟨EV,H',I',q⟩:=q;exact h2 AA s1 EV H' D I' q | ret v=>exact q | brk=>exact q | cont=>exact q
theorem Af(h1:PS X st t):PM X [st] t:=by intro AA s σ H D I h;refine GY! wpAny_execs_cons h1 D (λf s1 q=>?_);cases f with | next=>exact NQ q | ret v=>exact q | brk=>exact q | cont=>exact q
theorem Inv.quiet(I:B!):interactive X.env=false:=by simp[interactive,I.ok.kind]
def Jmv(te:TE):TS:=C2! te (λ_ H1=>Cc! H1)
theorem A4(he:B1!)(hs:JJ! e none:=by rfl):PS X (.Expr e pos) (Jmv te):=by intro AA s σ H D I h;exact wpAny_Expr_any (G2! he (DR! (Aw! H1 I1 q1))) I.quiet hs
def Joo(te:TE):TS:=C2! te D.rt
theorem Ay(he:B1!):PS X (.Return (some e) pos) (Joo te):=by intro AA s σ H D I h;exact wpAny_Return_some (DZ (LG! he) (DR! ⟨x,σ,H1,I1,r1,q1⟩))
def Ue(c:TT)(t u:TS):TS:=C2! c (λb H1=>if b=true then t D σ H1 else u D σ H1)
theorem Bh(hc:PT X c tc)(ha:PM X a t)(hb:PM X b u):PS X (.If c a b pos) (Ue tc t u):=by intro AA s σ H D I h;refine MB! wpAny_If hc;rintro d s1 ⟨H1,I1,q1⟩;cases d with | true=>exact Gl! ha D | false=>exact Gl! hb D
def Jkw:TS:=EH!
theorem Sg:PM X G_ Jkw:=λ_ _ _ _ _ _ h=>h.elim
universe E
abbrev TG:=V->St->Eo! NE
abbrev dZ:=D!->St->Eo! NE
def PG(X:A!)(target:Expr)(t:TG):Prop :=
 ∀(AA:G!)(s:Shared)(σ:St)(H:Hp)(v:V)(u:Value)(Q:NE),Av! l? (t v σ H Q ->
  KA! (assign target X.env u) (λ_ s'=>C0! (Q EV H')))
def pC(X:A!)(ts:A1!)(t:dZ):Prop :=
 ∀(AA:G!)(s:Shared)(σ:St)(H:Hp)(vs:D!)(us:F!)(Q:NE),Av! By! (t vs σ H Q ->
  KA! (assignInOrder ((assignEach ts X.env).map GM) us) (λ_ s'=>C0! (Q EV H')))
abbrev Jp7:=V->V->V->Eo! (SL Hp)
abbrev TIp:=Fn!
universe S
variable {X:Cx Kx}{pos:Pos}
def Jkl(i:Nat):TG:=λv σ H Q=>Q HQ! H
theorem Bk{i:Nat}{x:Str}(hN:X.N.Nodup)(hi:Bx!)(hx:HU!)(hf:IM!:=by first|exact AP!|exact y! rfl|assumption):PG X Ff! (Jkl i):=by intro AA s σ H v u Q I r h;exact wpAny_assign_Name (Xm I hN hi hx r (λs' I'=>⟨_,H,I',h⟩) hf)
def Jpv:dZ:=λvs σ H Q=>vs=[]/\Q σ H
inductive Jmj(t:TG)(u:dZ)(vs:D!)(σ:St)(H:Hp)(Q:NE):Prop
 | mk (v r) (e0:vs=v::r) (e1:t v σ H λEV H'=>u r EV H' Q)
def Jnt(t:TG)(u:dZ):dZ:=λvs σ H Q=>Jmj t u vs σ H Q
theorem Ga:pC X [] Jpv:=by intro AA s σ H vs us Q I r h;obtain⟨e,h⟩:=h;subst e;cases r;exact assignInOrder_nil (Aw! H I h)
theorem By(h1:PG X e t)(h2:pC X es u)(hs:(assignEach Am! X.env).map GM=assign e X.env::(assignEach es X.env).map GM:=by rfl):pC X Am! (Jnt t u):=by intro AA s σ H vs us Q I r h;obtain⟨v,vr,e1,h⟩:=h;subst e1;cases r with | cons r rr =>rw[hs];refine assignInOrder_cons (DZ (h1 AA s σ H _ _ _ I r h) ?_);rintro _ s1 ⟨VW,H1,I1,q1⟩;exact h2 AA s1 VW H1 _ _ Q I1 rr q1
inductive Joh(K:W.Frag)(n:Nat)(t:dZ)(v:V)(σ:St)(H:Hp)(Q:NE):Prop
 | mk (a xs) (e0:v=am) (e1:AS!) (e2:xs.length=n) (e3:t xs σ H Q)
def Jpu(K:W.Frag)(n:Nat)(t:dZ):TG:=λv σ H Q=>Joh K n t v σ H Q
theorem Iu{X:A!}{es:A1!}{k:Nat}{t:dZ}{n:Nat}(hc:b?)(h:pC X es t)(hn:(assignEach es X.env).length=n:=by rfl)(rJ:W! (assignEach es X.env).findIdx? a!:=by rfl):PG X (.Tuple es k pos) (Jpu Kx n t):=by intro AA s σ H v u Q I r hw;obtain⟨a,xs,e1,hq,hl,hw⟩:=hw;subst e1;cases r;obtain⟨its,rv,ht,hz⟩:=DW!;refine assign_Tuple_tuple AZ! ht (by simp[hn,<-hl,rv.length]) rJ λh' hx=>?_;have I1:FI!:=I.kept (t':=s.toks) (T? (hx b o (D2! e) e));exact h AA _ σ H xs _ Q I1 (by simpa using rv) hw
def Jmy(te:TE)(g:TG):TS:=CM! (Ci! te (g x σ H1 D.nx))
theorem Jfn(he:B1!)(hg:PG X tg g)(hs:swapsWithSole [tg] e pos.line X.env=pure false:=by rfl)(hw:swappedStores [tg] e X.env=pure none:=by rfl)(h1:(assignEach [tg] X.env).map GM=[assign tg X.env]:=by rfl):H5! [tg] e (Jmy te g):=by intro AA s σ H D I h;refine wpAny_Assign_stores Fm! hs hw;rintro v s1 ⟨x,H1,I1,r1,q1⟩;rw[h1];exact DZ (Jm! hg x v _) λ_ s2 q=>q
theorem Av{i:Nat}{x:Str}{e:Expr}{te:TE}{pos':Pos}(hN:X.N.Nodup)(hi:Bx!)(hx:HU!)(he:B1!)(hs:JJ! e (some (y? x pos')):=by rfl)(hf:IM!:=by first|exact AP!|exact y! rfl|assumption) : H5! [y? x pos'] e (Jmy te (Jkl i)):=by intro AA s σ H D I h;refine wpAny_Assign_Name Fm! hs;rintro v s1 ⟨y,H1,I1,r1,q1⟩;exact Xm I1 hN hi hx r1 (λs2 I2=>⟨_,H1,I2,q1⟩) hf
inductive Jkv(c:TT)(tb:TS)(D:Ends)(σ:L2.St)(H:Hp):Prop
 | mk (W:Hd!) (_:(∃m,W m σ H)) (_:∀m σ H,W m σ H->c σ H λb H1=>if b=true then ∃N:NE,(∀EV H',N EV H'->∃m',m'<m/\W m' EV H')/\tb { D with nx:=N,ct:=N,bk:=D.nx } σ H1 else Cc! H1)
theorem Mg(hp:PassesOwn GU! X.A X.env X.xe)(hc:PT X c tc)(hb:PM X body tb):PS X (.While c body [] pos) (Jkv tc tb):=by intro AA s σ H D I h;obtain⟨W,⟨m0,w0⟩,turn⟩:=h;refine wpAny_While (codeAny_whileLoop (λn s'=>C0! (W n EV H')) ?_ m0 (Aw! H I w0));rintro n s1 ⟨VW,H1,I1,w1⟩;refine Hq! (hc AA s1 VW H1 _ I1 (turn n VW H1 w1));rintro b s2 ⟨H2,I2,q2⟩;cases b with | true =>obtain⟨N,hN,q2⟩:=q2;rw[BD!];refine IS hp (DZ (hb AA s2 VW H2 _ I2 q2) λf s3 q3=>?_);(cases f with | next =>obtain⟨YJ,H3,I3,n3⟩:=q3;obtain⟨m',hm,w3⟩:=hN YJ H3 n3;exact⟨m',hm,YJ,H3,I3,w3⟩ | cont =>obtain⟨YJ,H3,I3,n3⟩:=q3;obtain⟨m',hm,w3⟩:=hN YJ H3 n3;exact⟨m',hm,YJ,H3,I3,w3⟩ | brk=>exact q3 | ret v=>exact q3) | false =>rw[AB AY];exact NQ ⟨VW,H2,I2,q2⟩
universe E
structure It where
 go:BS! Nat
 TR:Nat->Hp->K9!
 stop:BS! Nat
def Lp(X:A!)(AA:G!)(H:Hp)(b:Addr):Prop :=
 LI! k! (b∉X.fs) (Il!/\(Fl!)/\G4!)
theorem Inv.UG(I:B!)(hb:s.heap.objs.size<=b)(hn:pi):Lp X AA H' b:=by
 refine⟨hn,EA (CB I.lt hb),I.u_ hb,j? (AV I.sz hb),λx c e z=>?_,λp hp z=>?_⟩;.obtain⟨v,q⟩:=GD!;exact BE! (CB q.lt (q! z hb))
 .exact BE! (CB (AR (I.pin p hp).1) (q! z hb))
structure Turn(P:Program)(w:World)(K:W.Frag)(tg:Expr)(J:It)(fp:J!)(it:Addr)(tn:DD! Nat):Prop where
 mem:it∈fp
 obj:∀i h,tn i h->wp (∃o,PP/\∀v,o.data≠L? v)
 keep:∀i h h',tn i h->Bo! (∀o,PP->EY!)->tn i h'
 item:∀(X:Cx K),X.prog=P->X.w=w->b?->∀(i:Nat)(AA:G!)(s:Shared)(σ:St)(H:Hp)(E:N!),B!->Bo! (Lp X AA H b)->tn i s.heap->J.go i H ->
  CP! P w X.A (pyNext i?) (λr s1=>∃u,r=U! u /\
   CP! P w X.A (letOwnedTupleGo tg i? u) (λ_ s2=>∃x H',Ef! s2/\A8!/\J.TR i H x H'/\tn (i+1) s2.heap/\wp pi) E s1) E s
 done:∀(X:Cx K),X.prog=P->X.w=w->b?->∀(i:Nat)(AA:G!)(s:Shared)(σ:St)(H:Hp)(E:N!),B!->Bo! (Lp X AA H b)->tn i s.heap->J.stop i H ->
  CP! P w X.A (pyNext i?) (λr s1=>r=none/\Aj! s1) E s
 self:∀(A:Around)(i:Nat)(s:Shared)(Q:N!)(E:N!),tn i s.heap->W? it s->CP! P w A (pyIter i?) Q E s
abbrev TI:=Hv! LA!
inductive PIE(X:A!)(AA:G!)(σ:St)(tg:Expr)(R:LA!)(oQ:Value)(s2:Shared):Prop
 | mk (it:Addr) (fp:J!) (tn:DD! Nat) (J:It) (H':Hp) (_:oQ=K! it) (_:Ef! s2) (_:Turn X.prog X.w Kx tg J fp it tn) (_:tn 0 s2.heap) (_:Bo! (Lp X AA H' b)) (_:R J H')
def PI(X:A!)(tg iter:Expr)(wi:TI):Prop :=
 ∀(AA:G!)(s:Shared)(σ:St)(H:Hp)(R:LA!),E3! (wi σ H R ->
  G8! iter (λv s1=>Co! (pyIter v) (PIE X AA σ tg R) s1))
theorem Y2{M:Model}{A:Around}{E:N!}{s:Shared}{tg:Expr}{it:Addr}{u:Value}{o:Obj}{n:String}{vs:db}{Q:Bv!}(ho:Ao! s.heap.get? it)(hc:o.cls=G? n)(hd:o.data=DT!)(hn:["enumerate","zip",Ae!,"dict_reverseitemiterator","odict_iterator","itertools.zip_longest","itertools.pairwise"].contains n=false)(hQ:Q () s):BM! (letOwnedTupleGo tg i? u):=by unfold letOwnedTupleGo;cases tg<;>first | exact ZS hQ | (cases u<;>first | exact ZS hQ | (refine ZR (wpAny_load ho ?_);rw[hc,hd];show BM! (Em! ((["enumerate","zip",Ae!,"dict_reverseitemiterator","odict_iterator","itertools.zip_longest","itertools.pairwise"].contains n&&vs[0]?==some (rawInt _))=true) _ _);rw[AB (by intro h;rw[hn,Bool.false_and] at h;cases h)];exact ZS hQ))
def WJ(K:W.Frag)(a:Addr):It :=
 IP! (λi H=>∃xs x,AR!/\BF!) (∀xs,AR!->BF!) (λi H=>∃xs,AR!/\xs.length<=i)
def YY(K:W.Frag)(a:Addr):It :=
 IP! (λi H=>∃xs x,AS!/\BF!) (∀xs,AS!->BF!) (λi H=>∃xs,AS!/\xs.length<=i)
def bz(lo:Int)(n:Nat):It:=IP! (λi _=>i<n) (x=E! (lo+i)) (λi _=>n<=i)
theorem Jc8{P:Program}{w:World}{K:W.Frag}{tg:Expr}(a it:Addr):Jv! (WJ K a) (h.IsListIter it a i) where
 mem:=B?
 obj:=KT! (by
  have e:b=it:=WF
  subst e
  obtain⟨o,e,c,d⟩:=st
  exact Tk (λv z=>Jz! d))
 keep:=λi h h' st k=>st.at λo e=>It! o e
 item:=by
  intro X hP hw hc i AA s σ H E I hf st hg
  subst hP hw
  obtain⟨xs,x,hq,hx⟩:=hg
  obtain⟨its,rv,p,hz⟩:=DV!
  obtain⟨u,hu,ru⟩:=rv.get hx
  obtain⟨f0,f1,f2,f3,f4,f5⟩:=BN!
  refine wpAny_pyNext_list_item st p.isList (x:=u) (by simpa using hu) λh' RJ sb=>?_
  have I1:FI!:=F9! (K4! sb.2)
  obtain⟨o,e,c,d⟩:=id RJ
  exact Bq! u (IU! Y2 e c d Bn! (Jh! x ru (v4 (λys hy=>S! (I.UO hy hq) hx))))
 done:=by
  intro X hP hw hc i AA s σ H E I hf st hg
  subst hP hw
  obtain⟨xs,hq,hx⟩:=hg
  obtain⟨its,rv,p,hz⟩:=DV!
  obtain⟨f0,f1,f2,f3,f4,f5⟩:=BN!
  have hl:=rv.length
  exact wpAny_pyNext_list_end AZ! st p.isList (by simp;lia) (Kl! (F9! (eb b o hb e)))
 self:=IV! wpAny_pyIter_listiter
theorem Zq{P:Program}{w:World}{K:W.Frag}{tg:Expr}(a it:Addr):Jv! (YY K a) (h.IsTupleIter it a i) where
 mem:=B?
 obj:=KT! (by
  have e:b=it:=WF
  subst e
  obtain⟨o,e,c,d⟩:=st
  exact Tk (λv z=>Jz! d))
 keep:=λi h h' st k=>st.at λo e=>It! o e
 item:=by
  intro X hP hw hc i AA s σ H E I hf st hg
  subst hP hw
  obtain⟨xs,x,hq,hx⟩:=hg
  obtain⟨its,rv,p,hz⟩:=DW!
  obtain⟨u,hu,ru⟩:=rv.get hx
  obtain⟨f0,f1,f2,f3,f4,f5⟩:=BN!
  refine wpAny_pyNext_tuple_item st (show s.heap.IsTuple a its.toArray from p) (x:=u) (by simpa using hu) λh' RJ sb=>?_
  have I1:FI!:=F9! (K4! sb.2)
  obtain⟨o,e,c,d⟩:=id RJ
  exact Bq! u (IU! Y2 e c d Bn! (Jh! x ru (v4 (λys hy=>S! (I.XT hy hq) hx))))
 done:=by
  intro X hP hw hc i AA s σ H E I hf st hg
  subst hP hw
  obtain⟨xs,hq,hx⟩:=hg
  obtain⟨its,rv,p,hz⟩:=DW!
  obtain⟨f0,f1,f2,f3,f4,f5⟩:=BN!
  have hl:=rv.length
  exact wpAny_pyNext_tuple_end AZ! st (show s.heap.IsTuple a its.toArray from p) (by simp;lia) (Kl! (F9! (eb b o hb e)))
 self:=IV! wpAny_pyIter_tupleiter
theorem Zr{P:Program}{w:World}{K:W.Frag}{tg:Expr}(it:Addr)(lo:Int)(n:Nat):Jv! (bz lo n) (IsRangeIter h it (lo+(i:Nat)*1) (A6!-(i:Nat)) 1) where
 mem:=B?
 obj:=KT! (by
  have e:b=it:=WF
  subst e
  exact⟨_,st,λv z=>by
   have z':Data.fields _=Data.cell v:=z
   cases z'⟩)
 keep:=λi h h' st k=>It! _ st
 item:=by
  intro X hP hw hc i AA s σ H E I hf st hg
  subst hP hw
  obtain⟨f0,f1,f2,f3,f4,f5⟩:=BN!
  have W:=Walks.range (prog:=X.prog) (w:=X.w) AZ! it lo 1 n
  refine W.item i s _ _ hg st λv h' tk hv RJ kk=>?_
  obtain⟨t,rfl⟩:=hv
  have I1:Aj! { s with heap:=h',toks:=tk }:=I.turned (Go (kk b o (WF) e)) f0 f1 f3 f4 f5
  refine m? (Y2 (s:={ s with heap:=h',toks:=tk }) (n:="range_iterator") RJ rfl rfl Bn! (Jh! (E! (lo+i)) (E? t) LY!))
  rw[Int.mul_one]
 done:=by
  intro X hP hw hc i AA s σ H E I hf st hg
  subst hP hw
  obtain⟨f0,f1,f2,f3,f4,f5⟩:=BN!
  exact wpAny_pyNext_range_end AZ! st (by have:n<=i:=hg;lia) (Kl! (F9! (eb b o hb e)))
 self:=IV! wpAny_pyIter_rangeiter
universe S
variable {X:Cx Kx}{tg:Expr}
def Jnn(K:W.Frag)(tl:TE):TI:=λσ H R=>Ci! tl (∃a,J?/\(∃xs,DW K H1 a xs)/\R (WJ K a) H1)
def Jpq(K:W.Frag)(tl:TE):TI:=λσ H R=>Ci! tl (∃a,J?/\(∃xs,CS K H1 a xs)/\R (YY K a) H1)
theorem Eh{X:A!}{l:Expr}{tl:TE}(hl:g! l tl):PI X tg l (Jnn Kx tl):=by
 intro AA s σ H R I h;refine FY! hl;rintro v s1 ⟨x,H1,I1,r1,q1⟩;obtain⟨a,e,⟨xs,hq⟩,q⟩:=q1;subst e;cases r1;obtain⟨its,rv,p,hz⟩:=I1.list hq;refine wpAny_pyIter_list p.isList ?_;refine⟨s1.heap.objs.size,[s1.heap.objs.size],_,_,H1,rfl,I1.kept (t':=s1.toks) Ay!,Jc8 a _,Ho!,Az!,q⟩;have e:b=s1.heap.objs.size:=WF
 subst e;exact I1.UG A? HE!
theorem Ir{X:A!}{l:Expr}{tl:TE}(hl:g! l tl):PI X tg l (Jpq Kx tl):=by
 intro AA s σ H R I h;refine FY! hl;rintro v s1 ⟨x,H1,I1,r1,q1⟩;obtain⟨a,e,⟨xs,hq⟩,q⟩:=q1;subst e;cases r1;obtain⟨its,rv,p,hz⟩:=I1.tuple hq;refine wpAny_pyIter_tuple (show s1.heap.IsTuple a its.toArray from p) ?_;refine⟨s1.heap.objs.size,[s1.heap.objs.size],_,_,H1,rfl,I1.kept (t':=s1.toks) Ay!,Zq a _,Ho!,Az!,q⟩;have e:b=s1.heap.objs.size:=WF
 subst e;exact I1.UG A? HE!
theorem Jfg{AA:G!}{σ:St}{H:Hp}{s:Shared}{R:LA!}{E:N!}{lo hi:Int}{t u v:Tok}{tk:Nat}(I:B!)(h1:-(Dj!)<=lo)(h2:lo<Dj!)(h3:-(Dj!)<=hi)(h4:hi<Dj!)(q:R (bz lo Gw!) H):CP! X.prog X.w X.A (pyIter (P! s.heap.objs.size)) (PIE X AA σ tg R) E { s with heap:=AD! EO!,toks:=tk }:=by
 refine wpAny_pyIter_range (IsRange.new ..) (small_one h1 h2 h3 h4) ?_;have I1:Aj! { s with heap:=AD! EO!,toks:=tk }:=I.kept Ay!;refine⟨(s.heap.push EO!).objs.size,[(s.heap.push EO!).objs.size],_,_,H,rfl,I1.kept (t':=tk) Ay!,Zr _ lo Gw!,?_,Az!,q⟩;·(have e1:lo+Lj!*1=lo:=B?);(have e2:xz Gw!-Lj!=Builtin.Range.rangeSize lo hi 1:=by rw[rangeSize_one];split<;>lia);show IsRangeIter _ _ (lo+Lj!*1) (xz Gw!-Lj!) 1;rw[e1,e2];exact s?
 ·(have e:b=(s.heap.push EO!).objs.size:=WF);subst e;exact I1.UG A? HE!
def Jnm(ta:TA):TI:=λσ H R=>ta σ H λvs H1=>∃j:Int,vs=[z! j]/\-(Dj!)<=j/\j<Dj!/\R (bz 0 j.toNat) H1
theorem Gh{a:Expr}{ta:TA}{p pos:Pos}(hg:Gl X "range")(hm:W! X.mg "range")(ha:PA X [a] ta)(hs:starEach [a] X.env=[(false,EZ! a)]:=by rfl):PI X tg (.Call (y? "range" p) [a] [] pos) (Jnm ta):=by intro AA s σ H R I h;refine Call_ (Wd I hg hm boot_range (MJ (EM! (λus s1 ⟨vs,H1,I1,r1,q1⟩=>?_)) hs rfl));obtain⟨j,e,q1,q2,q⟩:=q1;subst e;cases r1 with | cons r rr =>cases rr;obtain⟨t,rfl⟩:=r;exact call_range_1 (Jfg I1 C! C! q1 q2 (by simpa using q))
def Joq(wi:TI)(g:TG)(tb:TS):TS:=C2! wi (λJ H1=>JX! H1 (I2! ->
 Js! J.stop J.go J.TR))
def Ny(fp:J!)(h:Heap):G!:=fp.filterMap λb=>(h.get? b).map λo=>(b,o)
theorem Fq(hb:b∈fp)(e:PP):(b,o)∈Ny fp h:=IA.mpr ⟨b,hb,by rw[e];rfl⟩
theorem Jdt(hp:p∈Ny fp h):p.1∈fp/\AH! p.1 p.2:=by obtain⟨b,hb,e⟩:=IA.mp hp;cases q:h.get? b with | none=>rw[q] at e;cases e | some o =>rw[q] at e;have e':(b,o)=p:=ZO e;subst e';exact⟨hb,q⟩
theorem Inv.pinned(I:B!)(hf:wp (Lp X AA H b))(ho:wp (∃o,AC/\∀v,o.data≠L? v)):Gf! X (AA++Ny fp s.heap) :=I.WU λp hp=>(ZI hp).elim (λz=>I.pin p (ZC _ z)) λz=>by obtain⟨hb,e⟩:=Jdt z;obtain⟨f0,f1,f2,_⟩:=hf p.1 hb;obtain⟨o,e',d⟩:=ho p.1 hb;rw[e] at e';cases e';exact⟨e,f0,f1,f2,d⟩
theorem Inv.J_(I:Gf! X (AA++pl)):B!:=I.WU λp hp=>I.pin p (ZC _ (ZB _ hp))
theorem Ei(hp:PassesOwn GU! X.A X.env X.xe)(hc:b?)(hi:PI X tg iter wi)(hg:PG X tg g)(hb:PM X body tb)(hs:∀x,JP! x x:=by intro _;rfl):PS X (.For tg iter body [] pos) (Joq wi g tb):=by
 intro AA s σ H D I h;refine Cx! wpAny_For hi (λv s1 h1=>DZ h1 λoQ s2 h2=>?_) hs;obtain⟨it,fp,tn,J,H2,e,I2,T,aW,f2,W,⟨m0,w0⟩,turn⟩:=h2;subst e;have QT:∀{H':Hp},(wp pi)->Kk! H':=λhn b hb=>⟨hn b hb,(f2 b hb).2⟩;refine codeAny_forLoop_any (λn s'=>∃i EV H',L9! s'/\tn i s'.heap/\Bo! pi/\W i n EV H') ?_ m0 ⟨0,σ,H2,I2,aW,M? (f2 b hb).1,w0⟩;rintro n s3 ⟨i,YJ,H3,I3,cV,NJ,w3⟩;rcases turn i n YJ H3 w3 with⟨stop,qn⟩|⟨go,N,hN,step⟩;.refine Hq! (T.done X rfl rfl hc i AA s3 YJ H3 X.xe I3 (QT NJ) cV stop);rintro r s4 ⟨hr,I4⟩;subst hr;exact NQ ⟨YJ,H3,I4,qn⟩
 .refine Hq! (T.item X rfl rfl hc i AA s3 YJ H3 X.xe I3 (QT NJ) cV go);rintro r s4 ⟨u,hr,h4⟩;subst hr;refine IS hp (DZ h4 ?_);rintro _ s5 ⟨x,H5,I5,r5,y5,YL,VA⟩;have I5':=I5.pinned (QT VA) (T.obj _ _ YL);refine Hq! (hg _ s5 YJ H5 x u _ I5' r5 (step x H5 y5));rintro _ s6 ⟨σ6,H6,I6,q6⟩;refine IS hp (DZ (hb _ s6 σ6 H6 _ I6 q6) λf s7 q7=>?_);(have again:∀{YI:St} {H7:Hp},Inv X (AA++Ny fp s5.heap) YI H7 s7->N YI H7->∃m,m<n/\∃i EV H',L9! s7/\tn i s7.heap/\Bo! pi/\W i m EV H':=λ{YI H7} I7 n7=>by obtain⟨m',hm,w7⟩:=hN YI H7 n7;refine⟨m',hm,i+1,YI,H7,I7.J_,T.keep _ _ _ YL λb hb o e=>(I7.pin (b,o) (Gu! I5!)).1,Az!,w7⟩;obtain⟨o,e,d⟩:=T.obj _ _ YL b hb;exact(I7.pin (b,o) (Gu! I5!)).2.1);cases f with | next=>obtain⟨YI,H7,I7,n7⟩:=q7;exact again I7 n7 | cont=>obtain⟨YI,H7,I7,n7⟩:=q7;exact again I7 n7 | brk=>obtain⟨YI,H7,I7,q7⟩:=q7;exact⟨YI,H7,I7.J_,q7⟩ | ret v=>obtain⟨x7,YI,H7,I7,r7,q7⟩:=q7;exact⟨x7,YI,H7,I7.J_,r7,q7⟩
universe E
theorem M0{K:W.Frag}{a:Addr}{xs:D!}{g:TG}{tb:TS}{D:Ends}{σ:St}{H:Hp}(Pv:Hd!)(h0:Cd! 0)(hl:∀i σ H,EQ!->BJ!->AR!)(hs:∀i x σ H,BF!->BJ!->g x σ H (MK! { D with nx:=Aa!,ct:=Aa!,bk:=D.nx }))(hd:∀σ H,Cd! xs.length->KD!) : JX! H (I2! -> Js! (WJ K a).stop (WJ K a).go (WJ K a).TR):=by
 refine Gg! (λi m σ H=>m=KV!/\EQ!/\BJ!) xs.length;rintro i m σ H ⟨rfl,hi,p⟩;have q:=hl i σ H hi p;by_cases JL:KW!;.refine AO! ⟨xs,xs[i],q,by simp[JL]⟩ Aa! (λEV H' p'=>⟨xs.length-No,H!,rfl,JL,p'⟩) (λx H' y=>?_);obtain⟨e,y⟩:=y;subst e;exact hs i x σ _ (y xs q) p
 ·(have e:i=xs.length:=H!);subst e;exact Bw! ⟨xs,q,ZG _⟩ (hd σ H p)
theorem Kt{K:W.Frag}{a:Addr}{xs:D!}{g:TG}{tb:TS}{D:Ends}{σ:St}{H:Hp}(Pv:Hd!)(h0:Cd! 0)(hl:∀i σ H,EQ!->BJ!->AS!)(hs:∀i x σ H,BF!->BJ!->g x σ H (MK! { D with nx:=Aa!,ct:=Aa!,bk:=D.nx }))(hd:∀σ H,Cd! xs.length->KD!) : JX! H (I2! -> Js! (YY K a).stop (YY K a).go (YY K a).TR):=by
 refine Gg! (λi m σ H=>m=KV!/\EQ!/\BJ!) xs.length;rintro i m σ H ⟨rfl,hi,p⟩;have q:=hl i σ H hi p;by_cases JL:KW!;.refine AO! ⟨xs,xs[i],q,by simp[JL]⟩ Aa! (λEV H' p'=>⟨xs.length-No,H!,rfl,JL,p'⟩) (λx H' y=>?_);obtain⟨e,y⟩:=y;subst e;exact hs i x σ _ (y xs q) p
 ·(have e:i=xs.length:=H!);subst e;exact Bw! ⟨xs,q,ZG _⟩ (hd σ H p)
theorem Ti{lo:Int}{n:Nat}{g:TG}{tb:TS}{D:Ends}{σ:St}{H:Hp}(Pv:Hd!)(h0:Cd! 0)(hs:∀i σ H,i<n->BJ!->g (E! (lo+i)) σ H (MK! { D with nx:=Aa!,ct:=Aa!,bk:=D.nx }))(hd:∀σ H,Cd! n->KD!) : JX! H (I2! -> Js! (bz lo n).stop (bz lo n).go (bz lo n).TR):=by
 refine Gg! (λi m σ H=>m=n-i/\i<=n/\BJ!) n;rintro i m σ H ⟨rfl,hi,p⟩;by_cases JL:i<n;.refine AO! JL Aa! (λEV H' p'=>⟨n-No,H!,rfl,JL,p'⟩) (λx H' y=>?_);obtain⟨e,y⟩:=y;subst e y;exact hs i σ _ JL p
 ·(have e:i=n:=H!);subst e;exact Bw! (ZG _) (hd σ H p)
abbrev R2:=Fn!
def PN(X:A!)(f:GI!)(r:R2):Prop :=
 ∀(AA:G!)(s:Shared)(σ:St)(H:Hp)(x y:V)(v u:Value)(Q:VK),F5! R? (r x y H Q ->
  T0 (f v u))
def F8(X:A!)(f:Value)(r:D!->CY!):Prop :=
 ∀(AA:G!)(s:Shared)(σ:St)(H:Hp)(xs:D!)(us:F!)(Q:VK),Av! TD (r xs H Q ->
  T0 (call f us))
def Jpy(X:A!)(r:V->Eo! AL!):Prop :=
 ∀(AA:G!)(s:Shared)(σ:St)(H:Hp)(x:V)(v:Value)(Q:AL!),Av! (N? x v) (r x H Q ->
  Lg! (truthy v))
def NZ(r:R2)(ta tb:TE):TE:=Da! (Fk! (r x y H2 Q))
inductive IrI(C:I? Int Int)(g:G0!)(x:V)(y:V)(H:Hp)(Q:VK):Prop
 | mk (i j) (e0:C1!) (e1:E8!) (e2:C i j) (e3:Q (g i j) H)
def rI(C:I? Int Int)(g:G0!):R2:=λx y H Q=>IrI C g x y H Q
inductive Jp1(g:G0!)(x:V)(y:V)(H:Hp)(Q:VK):Prop
 | mk (i j) (e0:C1!) (e1:E8!) (e2:Q (g i j) H)
def aZ(g:G0!):R2:=λx y H Q=>Jp1 g x y H Q
universe S
variable {X:Cx Kx}{a b c:Expr}{ta tb tc:TE}{pos:Pos}
theorem tZ(ha:Ev)(hb:sw){AA:G!}{s:Shared}{σ:St}{H:Hp}{R:V->K9!}(I:B!)(h:Gt! (Fk! (R x y H2))){Q:N!}{f:GI!}(hf:∀v u s2 x y H2,IR H2 s2->N? x v->R?->R x y H2->Iw! s2) : G8! a (λv EH=>Co! (Os b) (λu RO=>Iw! RO) EH):=by refine FY! ha;rintro v s1 ⟨x,H1,I1,r1,q1⟩;refine LV! hb;rintro u s2 ⟨y,H2,I2,r2,q2⟩;exact hf v u s2 x y H2 I2 r1 r2 q2
theorem Bf{op:Operator}{r:R2}(ho:BH! op r)(ha:Ev)(hb:sw):g! (.BinOp a op b pos) (NZ r ta tb):=KP! (wpAny_BinOp (Jo! tZ (Jd! Q rx ry q)))
theorem oB{f:GI!}{C:I? Int Int}{g:Er! Int}(rule:∀(i j:Int) (t u:Tok) (s:Shared) (Q:N!) (E:N!),C i j->Q (E! (g i j) s.toks) B6!->GX! (f EC! HR!)) : PN X f (rI C λi j=>Hr!):=by intro AA s σ H x y v u Q I rx ry h;obtain⟨i,j,rfl,rfl,hc,q⟩:=h;obtain⟨t,rfl⟩:=rx;obtain⟨t',rfl⟩:=ry;exact rule i j t t' s _ _ hc (Hj! Hr!)
theorem Jng{f:GI!}{g:Er! Int}(rule:∀(i j:Int) (t u:Tok) (s:Shared) (Q:N!) (E:N!),Q (E! (g i j) s.toks) B6!->GX! (f EC! HR!)) : PN X f (aZ λi j=>Hr!):=by intro AA s σ H x y v u Q I rx ry h;obtain⟨i,j,rfl,rfl,q⟩:=h;obtain⟨t,rfl⟩:=rx;obtain⟨t',rfl⟩:=ry;exact rule i j t t' s _ _ (Hj! Hr!)
theorem pL{f:GI!}{g:Er! Bool}(rule:∀(i j:Int) (t u:Tok) (s:Shared) (Q:N!) (E:N!),Lo! g i j->GX! (f EC! HR!)) : PN X f (aZ λi j=>.bl (g i j)):=by intro AA s σ H x y v u Q I rx ry h;obtain⟨i,j,rfl,rfl,q⟩:=h;obtain⟨t,rfl⟩:=rx;obtain⟨t',rfl⟩:=ry;exact rule i j t t' s _ _ (I0! (.bl (g i j)))
def Jp5(i j:Int):Prop:=0<j/\j<1073741824
def Jp4(i j:Int):Prop:=0<=j/\j<=1000000/\i.natAbs<2 ^ 64
def gn(i j:Int):Prop:=(-(2 ^ 64)<i/\i<2 ^ 64)\/(-(2 ^ 64)<j/\j<2 ^ 64)
theorem gn.ok(h:gn i j):IntMulOk i j:=by
 rcases h with⟨h1,h2⟩|⟨h1,h2⟩;.exact .of_left (intBits_le_64 h1 h2)
 .exact .of_right (intBits_le_64 h1 h2)
theorem Fc:BH! .Add (aZ λi j=>E! (i+j)):=Jng λ_ _ _ _ _ _ _ q=>add_int q
theorem Vr:BH! .Sub (aZ λi j=>E! (i-j)):=Jng λ_ _ _ _ _ _ _ q=>sub_int q
theorem F6:BH! .Mult (rI gn λi j=>E! (i*j)):=oB λ_ _ _ _ _ _ _ hc q=>mul_int q hc.ok
theorem Gd:BH! .FloorDiv (rI Jp5 λi j=>E! (i / j)):=oB λi j _ _ _ _ _ hc q=>by have h1:c? 0<j:=hc.1;have h2:j<1073741824:=hc.2;exact floordiv_int C! (q! (Int.fdiv_eq_ediv_of_nonneg i C!) q) (Q! (PyProof.noPylong_small C!))
theorem C0:BH! .Mod (rI (λ_ j=>0<j) λi j=>E! (i % j)):=oB λi j _ _ _ _ _ hc q=>by have h1:c? 0<j:=hc;exact mod_int' (H!) (q! (Int.fmod_eq_emod_of_nonneg i C!) q)
theorem Jlj:BH! .Pow (rI Jp4 λi j=>E! (i ^ j.toNat)):=oB λ_ _ _ _ _ _ _ hc q=>pow_int_small hc.1 hc.2.1 hc.2.2 q
universe E
def Jm2:V->V->Bool
 | .FH,.FH=>true|.FH,.int _=>true|.int _,.FH=>true|.FH,.bl _=>true|.bl _,.FH=>true|.FH,.str _=>true|.str _,.FH=>true
 | .int _,.int _=>true|.bl _,.bl _=>true|.str _,.str _=>true|.WG _,.WG _=>true
 | .int _,.str _=>true|.str _,.int _=>true|.bl _,.str _=>true|.str _,.bl _=>true
 | _,_=>false
def VY:R2:=λx y H Q=>Jm2 x y=true/\Q (.bl (decide (x=y))) H
def rNe:R2:=λx y H Q=>Jm2 x y=true/\Q (.bl (! R! (x=y))) H
theorem Jcx:R! (V.int i=V.int j)=(i==j):=Ck! QK
theorem Jhg:R! (V.bl i=V.bl j)=(i==j):=Ck! QK
theorem Jcw:R! (V.str i=V.str j)=(i==j):=Ck! QK
theorem Jcy:R! (V.WG i=V.WG j)=(i.toList==j.toList):=by rw[QK];cases i;cases j;simp
universe S
variable {X:Cx Kx}{a b c:Expr}{ta tb tc:TE}{pos:Pos}
theorem Ck(I:B!)(q:Q (.bl k) H)(e:k=k'):Hb! (C? k'):=by subst e;exact I0! (.bl k)
theorem Cg:AC! .Eq VY:=by intro AA s σ H x y v u Q I rx ry h;obtain⟨hs,q⟩:=h;cases x with | FH =>cases rx;(cases y with | FH=>cases ry;exact Z! PySem.EqNone.eq_none_none | bl j=>cases ry;exact Z! PySem.EqNone.eq_none_bool | int j=>obtain⟨t',rfl⟩:=ry;exact Z! PySem.EqNone.eq_none_int | str j=>obtain⟨t',rfl⟩:=ry;exact Z! PySem.EqNone.eq_none_str | _=>exact FS) | bl i =>cases rx;(cases y with | FH=>cases ry;exact Z! PySem.EqNone.eq_bool_none | bl j=>cases ry;exact eq_bool (Ck I q Jhg) | str j=>obtain⟨t',rfl⟩:=ry;exact Z! PySem.EqMixed.eq_bool_str | _=>exact FS) | int i =>obtain⟨t,rfl⟩:=rx;(cases y with | FH=>cases ry;exact Z! PySem.EqNone.eq_int_none | int j=>obtain⟨t',rfl⟩:=ry;exact eq_int (Ck I q Jcx) | str j=>obtain⟨t',rfl⟩:=ry;exact Z! PySem.EqMixed.eq_int_str | _=>exact FS) | str i =>obtain⟨t,rfl⟩:=rx;(cases y with | FH=>cases ry;exact Z! PySem.EqNone.eq_str_none | bl j=>cases ry;exact Z! PySem.EqMixed.eq_str_bool | int j=>obtain⟨t',rfl⟩:=ry;exact Z! PySem.EqMixed.eq_str_int | str j=>obtain⟨t',rfl⟩:=ry;exact eq_str (Ck I q Jcw) | _=>exact FS) | WG i =>obtain⟨t,rfl⟩:=rx;(cases y with | WG j=>obtain⟨t',rfl⟩:=ry;exact W.eq_bytes (Ck I q Jcy) | _=>exact FS) | _=>cases y<;>exact FS
theorem t_:AC! .NotEq rNe:=by intro AA s σ H x y v u Q I rx ry h;obtain⟨hs,q⟩:=h;cases x with | FH =>cases rx;(cases y with | FH=>cases ry;exact Z! PySem.EqNone.ne_none_none | bl j=>cases ry;exact Z! PySem.EqNone.ne_none_bool | int j=>obtain⟨t',rfl⟩:=ry;exact Z! PySem.EqNone.ne_none_int | str j=>obtain⟨t',rfl⟩:=ry;exact Z! PySem.EqNone.ne_none_str | _=>exact FS) | bl i =>cases rx;(cases y with | FH=>cases ry;exact Z! PySem.EqNone.ne_bool_none | bl j=>cases ry;exact Ik! ne_bool Jhg | str j=>obtain⟨t',rfl⟩:=ry;exact Z! PySem.EqMixed.ne_bool_str | _=>exact FS) | int i =>obtain⟨t,rfl⟩:=rx;(cases y with | FH=>cases ry;exact Z! PySem.EqNone.ne_int_none | int j=>obtain⟨t',rfl⟩:=ry;exact Ik! ne_int Jcx | str j=>obtain⟨t',rfl⟩:=ry;exact Z! PySem.EqMixed.ne_int_str | _=>exact FS) | str i =>obtain⟨t,rfl⟩:=rx;(cases y with | FH=>cases ry;exact Z! PySem.EqNone.ne_str_none | bl j=>cases ry;exact Z! PySem.EqMixed.ne_str_bool | int j=>obtain⟨t',rfl⟩:=ry;exact Z! PySem.EqMixed.ne_str_int | str j=>obtain⟨t',rfl⟩:=ry;exact Ik! ne_str Jcw | _=>exact FS) | WG i =>obtain⟨t,rfl⟩:=rx;(cases y with | WG j=>obtain⟨t',rfl⟩:=ry;exact Ik! W.ne_bytes Jcy | _=>exact FS) | _=>cases y<;>exact FS
theorem Sl:JQ! .Lt (i<j):=Hl! lt_int
theorem Jkj:JQ! .LtE (i<=j):=Hl! le_int
theorem Sm:JQ! .Gt (j<i):=Hl! gt_int
theorem Jnf:JQ! .GtE (j<=i):=Hl! ge_int
theorem A5(b:Expr)(h:op≠.In:=by decide)(h2:op≠.NotIn:=by decide):EN!:=by
 have e1:d? (op==CmpOp.In):=IS! h
 have e2:d? (op==CmpOp.NotIn):=IS! h2
 cases b<;>simp[behindInMarks,e1,e2]
theorem Iv{op:CmpOp}{r:R2}(ho:AC! op r)(ha:Ev)(hb:sw)(hm:EN!):g! (Ez! a [op] [b] pos) (NZ r ta tb):=KP! (wpAny_Compare1 (Jo! tZ (Jd! Q rx ry q)) hm)
inductive Jmf  (x:V) (H':Hp) (Q:AL!):Prop
 | mk (k) (e0:x=.bl k) (e1:Q k H')
def Fu(t:TE):TT:=JK! (λx H'=>Jmf  x H' Q)
theorem Ax(ho:AC! op r)(ha:Ev)(hb:sw)(hm:EN!):PT X (Ez! a [op] [b] pos) (Fu (NZ r ta tb)):=by intro AA s σ H Q I h;refine Cx! wpAny_isTrue_Compare1 ha (DR! (FR! hb (λu s2 ⟨y,H2,I2,r2,q2⟩ =>DZ (Jd! _ r1 r2 q2) λc s3 ⟨z,H3,I3,r3,k,e,q3⟩=>?_))) hm;subst e;cases r3;exact HP ⟨H3,I3,q3⟩
def Jk4(r r':R2)(ta tb tc:TE):TE:=Da! (Fk! (r x y H2 λz H3=>∃k,z=.bl k /\
 (if k=true then tc σ H3 λw' H4=>r' y w' H4 Q else Q (.bl false) H3)))
theorem Jfl(ho:AC! op r)(YO:AC! xO r')(ha:Ev)(hb:sw)(hc:g! c tc)(hm:lastMarks [op,xO] [b,c]=false:=by with_unfolding_all rfl):PT X (Ez! a [op,xO] [b,c] pos) (Fu (Jk4 r r' ta tb tc)):=by intro AA s σ H Q I h;refine Cx! isTrue_chain ha (DR! (test_link (DZ (L1! hb q1) λu s2 ⟨y,H2,I2,r2,q2⟩ =>DZ (Jd! _ r1 r2 q2) λd s3 ⟨z,H3,I3,r3,k,e,q3⟩=>?_))) hm;subst e;cases r3;refine HP ?_;cases k with | false =>obtain⟨k',e',q'⟩:=q3;cases e';exact ite_ff ⟨H3,I3,q'⟩ | true =>refine ite_tt (test_last (DZ (hc AA s3 σ H3 _ I3 q3) λw' s4 ⟨z',H4,I4,r4,q4⟩=>DZ (YO AA s4 σ H4 y z' u w' _ I4 r2 r4 q4) λd' s5 ⟨z2,H5,I5,r5,k2,e2,q5⟩=>?_));subst e2;cases r5;exact HP ⟨H5,I5,q5⟩
def Jn1(K:W.Frag)(x:V)(H:Hp)(k:Bool):Prop :=
 match x with
 | .FH=>k=false
 | .bl b=>k=b
 | .int i=>k=(i != 0)
 | .str y=>JR! (y.length<=sizeLine) y.length
 | .WG y=>JR! (y.size<=sizeLine) y.size
 | .ref p=>Iy! (FT! DW) (Iy! (FT! CS) (∃kvs,FX! p/\k=!kvs.isEmpty))
 | _=>False
theorem Jav(r:o?):(!vs.isEmpty)=!kvs.isEmpty:=by cases r<;>rfl
theorem Q0(r:Dw!):(!its.toArray.isEmpty)=!xs.isEmpty:=by cases r<;>simp
theorem V9:(sizeLine:Nat)<2 ^ 63:=by rw[DB];decide
theorem Jku{X:A!}:Jpy X (λx H Q=>∃k,Jn1 Kx x H k/\Q k H):=by intro AA s σ H x v Q I rx h;obtain⟨k,e,q⟩:=h;have hl:=V9;have hs:sizeLine=16777216:=DB;cases x with | FH =>cases rx;have e':k=false:=e;subst e';exact truthy_none ⟨H,I,q⟩ | bl b =>cases rx;have e':k=b:=e;subst e';exact HP ⟨H,I,q⟩ | int i =>obtain⟨t,rfl⟩:=rx;have e':k=(i != 0):=e;subst e';exact PySem.P.truthy_int ⟨H,I,q⟩ | str y =>obtain⟨t,rfl⟩:=rx;obtain⟨hy,e'⟩:JR! (y.length<=sizeLine) y.length:=e;subst e';exact PySem.P.truthy_str (H!) (GN! q) | WG y =>obtain⟨t,rfl⟩:=rx;obtain⟨hy,e'⟩:JR! (y.size<=sizeLine) y.size:=e;subst e';exact W.truthy_bytes (H!) (GN! q) | ref p =>cases rx;have e':Iy! (DW Kx H p xs) (Iy! (CS Kx H p xs) (∃kvs,FX! p/\k=!kvs.isEmpty)):=e;rcases e' with⟨xs,hx,e'⟩|⟨xs,hx,e'⟩|⟨kvs,hx,e'⟩;(.subst e';obtain⟨its,r,pl,hz⟩:=I.list hx;have hlen:=r.length;exact wpAny_truthy_list pl.isList (by simp only[BG];lia) (GN! (Au! (Q0 r))));(.subst e';obtain⟨its,r,pl,hz⟩:=I.tuple hx;have hlen:=r.length;exact truthy_tuple pl (by simp only[BG];lia) (GN! (Au! (Q0 r))));.subst e';obtain⟨hz,hS,vs,r,m⟩:Eg!/\d? (p==sysModules)/\∃vs,o?/\s.heap.DictOf F8! p vs:=I.DM p _ hx;have hlen:kvs.length=vs.length:=Paired.length r;exact wpAny_truthy_dict hS m C! (GN! (Au! (Jav r))) | _=>exact(show False from e).elim
theorem X2{X:A!}(ha:Ev)(he:∀whole,isTrue a X.env whole=(do let v <-whole;standAt a.pos;holding [v] (truthy v))) :
 PT X a (LQ! ta (λx H'=>∃k,Jn1 Kx x H' k/\Q k H')):=by
 intro AA s σ H Q I h
 exact Cx! isTrue_plain ha (DR! (Jm! Jku x v Q)) (he _)
theorem vals1(r:EW! [x]):∃u,us=[u]/\A8!:=by cases r with | cons r1 r2=>cases r2;exact m? r1
universe E
structure VO(h:Heap)(x dx C:Addr)(mA:V!):Prop where
 obj:Ix h.get? (Hz! dx)
 ns:h.Ns1 dx mA
 ne:dx≠x
theorem Jdu{h:Heap}{dx:Addr}{mA:V!}(n:h.Ns1 dx mA):∃od,AH! dx od/\∀name,W.lookIn name od=some (mA name):=by
 obtain⟨o,es,ep,ho,hd,hk,_,hm⟩:=n;refine At ho (λname=>?_);have e:=hm name;unfold nsFind findBy at e;rw[<-Array.find?_toList] at e;unfold W.lookIn;rw[hd];dsimp only;split;.rename_i y q;rw[q] at e;exact congrArg some e
 .rename_i q;rw[q] at e;(have a:es.toList.any (·.refKey)=false:=by rw[List.any_eq_false];intro y hy;obtain⟨z,t,XS⟩:=hk y (Array.mem_toList_iff.mp hy);simp[DictEntry.refKey,XS]);(have a':¬es.toList.any (·.refKey)=true:=Kg! a);rw[AB a'];exact congrArg some e
theorem VO.look(I:IF! h):∃od,W.InstAt h x (Hz! dx) C (some od)/\∀name,W.lookIn name od=some (mA name) :=let⟨od,ho,hl⟩:=Jdu I.ns;⟨od,At! I.obj rfl ho,hl⟩
universe S
variable {prog:Program}{w:World}{A:Around}{E:Value->Shared->Prop}{s:Shared}{K:W.Frag}{x dx C f:Addr}{mA:Str->Option Value}{name:Str}{v:Value}
theorem Jjn{expr:Bool}{Q:N!}(X:B5!)(I:IF! s.heap)(hg:W.plainGet K C name=true)(hh:B2! W.hasDictIn)(ha:Et! name none)(hv:M! mA name v)(hv':W.handedIn v=true)(h:Q v B6!) : DZ! getAttr (P! x) name expr:=by obtain⟨od,J,hl⟩:=I.look;exact W.get_value X J (W.plainGet_of hg).1 (W.findObj_own hh ha rfl (U? hl hv)) hv' h
theorem Jgy{pl:Sem Bool}{Q:o! (Value×F!)}(X:B5!)(I:IF! s.heap)(hg:W.plainGet K C name=true)(hf:G1! name)(ht:Fj! W.isFn)(hv:W! mA name)(h:Q (K! f,[K! x]) s) : DZ! getMethod (P! x) name pl:=by obtain⟨od,J,hl⟩:=I.look;exact W.method_fn X J (W.plainGet_of hg).1 (W.plainGet_of hg).2 hf (MZ.mp ht) (by show M! (W.lookIn name od).map (·.isSome) false;rw[hl,hv];rfl) h
theorem Jh5{ns:T!}{Q:Bv!}(X:B5!)(I:IF! s.heap)(hs:Et! "__setattr__" (H2! "object.__setattr__"))(hp:B2! W.plainOver)(ht:W.takerIn K C name=some none)(hh:B2! W.hasDictIn)(hw:PySem.Within mA ns)(hsz:ns.length<=sizeLine)(h:∀h',VO h' x dx C (λy=>E4! (y=name) v (mA y))->B9! dx->Q () { s with heap:=h',toks:=s.toks+2 }) : DZ! setAttr (P! x) name v:=by obtain⟨od,J,hl⟩:=I.look;refine W.set_plain X J hs (W.osa_open (s:=B6!) (r:=none) X J hp ht λb=>?_);obtain⟨cd,hc,TN⟩:=W.any_some hh;have hx:Ix s.heap.get? ⟨K! C,U! dx,.plain,#[]⟩:=I.obj;refine La! (wpAny_loadPart hx (ZR (W.Looks.here (s:=B6!) (W.looks_clsIn X hc) ?_)));rw[TN];refine ZS (a:=U! dx) (ZR (sK ?_));refine wpAny_nsSet1 (s:=B6!) I.ns λh' cx iE=>?_;obtain⟨oD,esD,epD,hoD,hdD,hcD⟩:=cx.count (PySem.Within.cons name v hw);refine ZR (wpAny_lookBehind hoD (q! hdD (pastItsLine_dict (AV hcD (AE! BL)))) ?_);exact ZS (h _ ⟨(iE.2 _ (Ne.symm I.ne)).trans I.obj,cx,I.ne⟩ iE)
theorem Jgn{R:o! Result}{vs:F!}{kw:AI!}(X:B5!)(hm:B2! W.makesIn)(hi:G1! LP!)(hf:W.typeIn K EX!=some (G? "function"))(h:codeAny Eq! (MQ! ⟨K! C::vs,kw⟩) (Bs! .call ⟨J2! .ref::vs,kw⟩) (W.InitBack (CX!) R) (BV! ((s.heap.push W.emptyDict).push (W.instObj C s.heap.objs.size)))) : JL! (.call Ap! ⟨vs,kw⟩):=by obtain⟨hh,g,d,t,os⟩:=s;exact W.make_core (W.makes_of X hm) (W.looks_findIn X hi) (λself=>W.bind_fn X self hf) ww h
universe E
def Au(f:Str)(v:V):v?->v?
 | []=>[(f,v)]
 | (g,x)::r=>if g=f then(g,v)::r else(g,x)::Au f v r
theorem Bg(f g:Str)(v:V):∀fs:v?,(Au f v fs).lookup g=E4! (g=f) v (fs.lookup g)
 | []=>by show List.lookup g [(f,v)]=_;by_cases h:g=f;(.have hb:(g==f)=true:=MZ.mpr h;simp only[List.lookup,hb,AE h]);.have hb:d? (g==f):=DX.mpr h;simp only[List.lookup,hb,AB h]
 | (k,x)::r=>by have ih:=Bg f g v r;rw[Li! (II!=(if k=f then EQ::r else IC!))];by_cases hk:k=f;(.rw[AE hk];by_cases h:g=k;(.have hb:(g==k)=true:=MZ.mpr h;simp only[List.lookup,hb,AE (h.trans hk)]);.have hb:d? (g==k):=DX.mpr h;simp only[List.lookup,hb,AB (λe:g=f=>h (e.trans hk.symm))]);.rw[AB hk];by_cases h:g=k;(.have hb:(g==k)=true:=MZ.mpr h;simp only[List.lookup,hb,AB (λe:g=f=>hk (h.symm.trans e))]);.have hb:d? (g==k):=DX.mpr h;simp only[List.lookup,hb];exact ih
theorem N7(f:Str)(v:V):∀fs:v?,f∈h? (Au f v fs).map/\∀g,g∈h? fs.map->g∈h? (Au f v fs).map
 | []=>⟨by simp[Au],λg h=>ET!⟩
 | (k,x)::r=>by obtain⟨i1,i2⟩:=N7 f v r;rw[Li! (II!=(if k=f then EQ::r else IC!))];by_cases hk:k=f;(.rw[AE hk];subst hk;exact⟨B?,λg h=>by simpa using h⟩);.rw[AB hk];refine⟨?_,λg h=>?_⟩;(.rw[AK];exact ZD _ i1);.rw[AK] at h ⊢;rcases ZM h with e|e;(.exact BV.mpr (Q! e));.exact ZD _ (i2 g e)
theorem A6(f:Str)(v:V):∀fs:v?,(Au f v fs).length<=fs.length+1
 | []=>by simp[Au]
 | (k,x)::r=>by have ih:=A6 f v r;rw[Li! (II!=(if k=f then EQ::r else IC!))];by_cases hk:k=f;(.rw[AE hk,BL,BL];lia);.rw[AB hk,BL,BL];lia
theorem pG{v:V}{o:K5!}(r:PZ (some v) o):∃u,o=U! u/\l?:=by cases o with | none=>exact D0! | some u=>exact Bq! u r
theorem Jqa(r:PZ none o):o=none:=by cases o with | none=>rfl | some u=>exact D0!
theorem Jd6(r:l?):W.handedIn u=true:=by cases v with | FH=>cases ii (u=Value.none);rfl | bl b=>cases ii (u=Value.bool b);rfl | int i=>obtain⟨t,e⟩:=ii Df!;cases e;rfl | str x=>obtain⟨t,e⟩:=ii Lm!;cases e;rfl | WG b=>obtain⟨t,e⟩:=ii (Ln! Value.bytes);cases e;rfl | oj b=>obtain⟨t,e⟩:=ii (Ln! Value.float);cases e;rfl | ref a=>cases ii k?;rfl | ty n=>cases ii (u=Value.type n);rfl
universe S
theorem Wr(DM:n?)(e:LR!):∃mA,VO h a dx C mA/\(∀f,PZ (fs.lookup f) (mA f))/\PySem.Within mA (fs.map a!)/\fs.length<=1000/\DQ! dx a:=by obtain⟨d,z,ne,ob,mA,n,r,q⟩:=(Al! (DV P w H h a (As! fs)) (DM a _ e));exact⟨mA,⟨ob,n,ne⟩,r,q,z,d⟩
universe E
structure WK(K:W.Frag)(C:Addr):Prop where
 pg:W.plainGet K C Str.empty=true
 hd:B2! W.hasDictIn
 po:B2! W.plainOver
 sa:Et! "__setattr__" (H2! "object.__setattr__")
theorem WK.get{K:W.Frag}{C:Addr}(c:WK K C)(f:Str):W.plainGet K C f=true:=c.pg
def EI(K:W.Frag)(C:Addr)(f:Str):Prop:=Et! f none
theorem EI.mY{K:W.Frag}{C:Addr}{f:Str}(n:EI K C f):W.takerIn K C f=some none:=by unfold W.takerIn;rw[show Et! f none from n];rfl
structure kJ(K:W.Frag)(C:Addr)(m:Str)(f:Addr):Prop where
 at_:G1! m
 fn:Fj! W.isFn
 kp:Fj! W.keepIn
universe S
theorem Q3{X:A!}(I:B!)(e:LR!)(c:Fz!)(n:EI Kx C f)(l:M! fs.lookup f v)(h:∀u s',Bt!->l?->Q u s'):Bh! (getAttr w! f b):=by obtain⟨mA,O,r,_,_,_⟩:=BX! Wr;obtain⟨u,hu,ru⟩:=Jf! (mA f) (Ch! l (r f));exact Jjn I.TL O (c.get f) c.hd n hu (Jd6 ru) (h u _ In! ru)
theorem Q2{X:A!}(I:B!)(e:LR!)(c:Fz!)(k:kJ Kx C m g)(l:W! fs.lookup m)(h:Q (K! g,K?) s):Bh! (getMethod w! m pl):=by obtain⟨mA,O,r,_,_,_⟩:=BX! Wr;have hn:W! mA m:=Jqa (q? l (r m));exact Jgy I.TL O (c.get m) k.at_ k.fn hn h
theorem P1{X:A!}(I:B!)(e:LR!)(c:Fz!)(n:EI Kx C f)(hl:fs.length<1000)(ry:R?)(h:∀s',K0! (As! (Au f y fs)) s'->Q () s'):Bh! (setAttr w! f u):=by
 obtain⟨mA,O,r,wi,_,ho⟩:=BX! Wr;have hz:xL (fs.map a!).length:=by rw[ZA,DB];lia
 refine Jh5 I.TL O c.sa c.po n.mY c.hd wi hz λh' O' sb=>h _ ?_;have hd:∃o,Ao! h'.get? dx:=let⟨o,_,_,e',_⟩:=O'.ns;jp e';refine I.write (x:=a) (e:=dx) Ma! (j? ho) (λb q hb z=>(sb.2 b hb).trans z) hd ?_;refine⟨wv O.ne ho,?_,O.ne,O'.obj,_,O'.ns,λg=>?_,λg hg=>?_⟩;.have:=A6 f y fs;lia
 .show PZ ((Au f y fs).lookup g) (E4! (g=f) u (mA g));rw[Bg];by_cases q:g=f;(.rw[AE q,AE q];exact ry);.rw[AB q,AB q];exact r g
 .by_cases q:g=f;(.rw[q];exact(N7 f y fs).1);.refine(N7 f y fs).2 g (wi g λz=>hg ?_);show(E4! (g=f) u (mA g))=none;rw[AB q];exact z
theorem Inv.AO(I:B!):IR (upd (h! s.heap.objs.size (.own (CX!))) E1! (.ins C s.heap.objs.size [])) (BV! ((s.heap.push W.emptyDict).push (W.instObj C s.heap.objs.size))):=by
 have e1:M! (s.heap.push W.emptyDict).get? s.heap.objs.size W.emptyDict:=ZU s.heap rfl;have e2:M! ((s.heap.push W.emptyDict).push (W.instObj C s.heap.objs.size)).get? E1! (Hz! s.heap.objs.size):=by have:=ZU (s.heap.push W.emptyDict) (o:=W.instObj C s.heap.objs.size) rfl;rwa [Heap.size_push] at this
 have e3:(s.heap.push W.emptyDict).Ns s.heap.objs.size (CW!):=⟨W.emptyDict,#[],_,e1,rfl,(λe he=>BW! he Y!),λ_=>rfl⟩;have I1:=I.laid (a:=s.heap.objs.size) (o:=J2! .own) (h':=AD! W.emptyDict) (t':=s.toks) (λb u q=>ZT _ q) A? (i! e1);refine I1.laid (a:=CX!) (o:=.ins C s.heap.objs.size []) (t':=s.toks) (λb u q=>ZT _ q) (Nat.le_of_eq (Heap.size_push _ _)) ?_;have ne:s.heap.objs.size≠CX!:=BI (HQ _);refine⟨U? (Ab ne) Ac,AU _,ne,e2,CW!,(Heap.Ns1.of_empty e3).at λo q=>ZT _ q,λ_=>True.intro,λy hy=>Cl! hy⟩
theorem Jj3(hb:attributeBase e f env (CC! e)=eval e env)(h:EU! (CC! e) (λo EH=>Fx! (getAttr o f true) EH)):Ec! (CC! (Eb! e f pos)) :=Attribute_any_ h (U? arm_eval_Attribute hb)
universe E
inductive Jn9(K:W.Frag)(f:Str)(x:V)(H1:Hp)(Q:VK):Prop
 | mk (a C dx fs v) (e0:J?) (e1:LC! H1) (e2:WK K C) (e3:EI K C f) (e4:M! fs.lookup f v) (e5:Q v H1)
def Ug(K:W.Frag)(ta:TE)(f:Str):TE:=Da! (Jn9 K f x H1 Q)
def Jpb(K:W.Frag)(ta tv:TE)(f:Str):TS:=C2! tv (λy H1=>f? ta (λx H2=>∃a C dx fs,J?/\LC! H2/\WK K C/\EI K C f/\fs.length<1000 /\
 Cc! (upd H2 a (As! (Au f y fs)))))
def pH(X:A!)(op:Operator)(rd:Fn!):Prop :=
 ∀(AA:G!)(s:Shared)(σ:St)(H:Hp)(x y:V)(u v:Value)(Q:VK),B!->A8!->N? y v->rd x y H Q->T0 (inplaceOp op u v)
def Jid(K:W.Frag)(ta tv:TE)(rd:Fn!)(f:Str):TS:=CM! (Gt! (∃a C dx fs v,J?/\LC! H1/\WK K C/\EI K C f/\M! fs.lookup f v /\
 f? tv (λy H2=>rd v y H2 λz H3=>∃tJ bA,z? H3 (.ins C tJ bA)/\bA.length<1000/\Cc! (upd H3 a (.ins C tJ (Au f z bA))))))
universe S
theorem Ap{X:A!}(he:g! e ta)(hb:attributeBase e f X.env (Os e)=JN!):Rs Eb! e f (Ug Kx ta f):=by intro AA s σ H Q I h;refine Jj3 hb Fm!;rintro u s1 ⟨x,H1,I1,rx,a,C,dx,fs,v,ex,ea,c,n,l,q⟩;subst ex;obtain rfl:k?:=rx;exact Q3 I1 ea c n l λu' s2 I2 ru=>⟨v,H1,I2,ru,q⟩
theorem Dx{X:A!}(ha:Ld!)(hv:H3!)(hs:JJ! value (some (Eb! o f pos'))):H5! [Eb! o f pos'] value (Jpb Kx ta tv f):=by intro AA s σ H D I h;refine plainObj_wpAny_Assign_Attribute (G2! hv ?_) hs;rintro u s1 ⟨y,H1,I1,ry,q⟩;refine Op (L1! ha q);rintro ov s2 ⟨x,H2,I2,rx,a,C,dx,fs,ex,ea,c,n,l,q2⟩;subst ex;obtain rfl:ov=HZ!:=rx;exact P1 I2 ea c n l ry λs3 I3=>Aw! _ I3 q2
theorem Cy{X:A!}(ha:Ld!)(hv:H3!)(rQ:pH X op rd):PS X (.AugAssign (Eb! o f uX) op value pos) (Jid Kx ta tv rd f):=by intro AA s σ H D I h;refine F4! wpAny_AugAssign_AttributeAny;rintro ov s1 ⟨x,H1,I1,rx,a,C,dx,fs,v,ex,ea,c,n,l,q⟩;subst ex;obtain rfl:ov=HZ!:=rx;refine Q3 I1 ea c n l λu s2 I2 ru=>Op (hv AA s2 σ H1 _ I2 q);rintro w3 s3 ⟨y,H2,I3,ry,q3⟩;refine Op (rQ AA s3 σ H2 v y u w3 _ I3 ru ry q3);rintro w4 s4 ⟨z,H3,I4,rz,tJ,bA,RH,l',q4⟩;exact P1 I4 RH c n l' rz λs5 I5=>Aw! _ I5 q4
inductive Jpk(x:V)(y:V)(H:Hp)(Q:VK):Prop
 | mk i j (_:C1!) (_:E8!) (_:Q (E! (i+j)) H)
inductive Jpc(x:V)(y:V)(H:Hp)(Q:VK):Prop
 | mk i j (_:C1!) (_:E8!) (_:Q (E! (i-j)) H)
theorem Ek:pH X .Add Jpk:=by rintro AA s σ H x y u v Q I rx ry ⟨i,j,rfl,rfl,q⟩;obtain⟨t,rfl⟩:=(show Df! from rx);obtain⟨t',rfl⟩:=Jy! (∃t',v=Value.int j t');exact PyProof.Rows.iadd_int (Hj! (E! (i+j)))
theorem Jgt:pH X .Sub Jpc:=by rintro AA s σ H x y u v Q I rx ry ⟨i,j,rfl,rfl,q⟩;obtain⟨t,rfl⟩:=(show Df! from rx);obtain⟨t',rfl⟩:=Jy! (∃t',v=Value.int j t');exact PyProof.Rows.isub_int (Hj! (E! (i-j)))
universe E
universe S
universe E
structure DP(k:Nat)(A:Around):Prop where
 hd:BY!
 dp:A.depth+3*k+5<recursionLimit
 un:A.units+16*k+200<cLine
theorem DP.mono(r:Dh!)(h:j<=k):DP j A:=⟨r.hd,by have:=r.dp;lia,by have:=r.un;lia⟩
theorem DP.deeper(r:GT! A)(env:Env):GL! env :=⟨r.hd,by have:=r.dp;show A.depth+1+3*k+5<_;lia,by have:=r.un;show A.units+3+16*k+200<_;lia⟩
theorem Jao{A:Around}{C:Addr}{us:F!}{kw:AI!}:(A.under (.builtin "type.__call__" HM!)).depth=A.depth+1:=by first|rfl|simp[Around.under,Code.weight,Code.isCreation,Code.isGuard,Code.isCaller,Code.frames,Code.isFrame,guardIds]
theorem Jan{A:Around}{C:Addr}{us:F!}{kw:AI!}:(A.under (.builtin "type.__call__" HM!)).units=A.units+1:=by first|rfl|simp[Around.under,Code.cUnits,Code.frames,Code.isFrame]
theorem DP.make(r:GT! A)(C:Addr)(us:F!)(kw:AI!):DP k (A.under (BT! "type.__call__" HM!)) :=⟨r.hd,by have:=r.dp;rw[Jao];lia,by have:=r.un;rw[Jan];lia⟩
theorem DP.depth(r:Dh!):A.depth<recursionLimit:=by have:=r.dp;lia
theorem DP.units(r:Dh!):A.units+64<cLine:=by have:=r.un;lia
def Jq:TA:=λ_ H Q=>Q [] H
def D0(ta:TE)(tr:TA):TA:=Da! (f? tr (λxs H2=>Q (x::xs) H2))
universe S
theorem Ae:PA X [] Jq:=λ_ _ _ _ H Q I h=>LN ⟨[],H,I,O!,h⟩
theorem Aa(ha:B1!)(hr:PA X es t)(hs:BP!:=by rfl):PA X Am! (D0 te t):=by intro pos AA s σ H Q I h;rw[hs];show El! (spliced ((false,JN!)::backTo pos (K6! es)));refine F4! IL;rintro u s1 ⟨x,H1,I1,r1,q1⟩;exact DZ (hr pos AA s1 σ H1 _ I1 q1) λus s2 ⟨xs,H2,I2,r2,q2⟩=>⟨x::xs,H2,I2,l! r1 r2,q2⟩
inductive Jn7  (xs:D!) (H1:Hp) (Q:VK):Prop
 | mk  (e0:SB) (e1:∀p,A5! p->Ei! (upd H1 p AT!))
def pN(t:TA):TE:=JK! (λxs H1=>Jn7  xs H1 Q)
inductive Jn8  (xs:D!) (H1:Hp) (Q:VK):Prop
 | mk  (e0:SB) (e1:∀p,A5! p->Ei! (upd H1 p (.BE xs)))
def ti(t:TA):TE:=JK! (λxs H1=>Jn8  xs H1 Q)
theorem Cf(h:PA X es t):Rs .Tuple es x1 (pN t):=by intro AA s σ H Q I hq;refine wpAny_Tuple_spliced (DZ (h pos AA s σ H _ I hq) λus s1 ⟨xs,H1,I1,r,z,q⟩=>E? (Br! r.length));have hf:A5! s1.heap.objs.size:=Fg!;refine Cb! s1.heap.objs.size (upd H1 s1.heap.objs.size (.A_ xs)) (GO! I1.laid s1.toks (CR! Ar!) ?_) (q _ hf);exact⟨z,us,r,JA! s?⟩
theorem Ee(h:PA X es t):g! (.List es pos) (ti t):=by intro AA s σ H Q I hq;refine wpAny_List_spliced (DZ (h pos AA s σ H _ I hq) λus s1 ⟨xs,H1,I1,r,z,q⟩=>E? (Br! r.length));have hf:A5! s1.heap.objs.size:=Fg!;refine Cb! s1.heap.objs.size (upd H1 s1.heap.objs.size (.BE xs)) (GO! I1.laid s1.toks (CR! Ar!) ?_) (q _ hf);exact⟨z,us,0,r,s?⟩
universe E
abbrev Sp:=D!->Hp->I? VK XK
abbrev YG:=P?->Hp->Shared->XK->N!
structure VQ(P:Program)(w:World)(K:W.Frag)(mg:V!)(base:Heap)(A:Around)(outer:P?)(s:Shared)(H:Hp):Prop where
 frames:A.frames=U! outer
 mod:Mod K mg base
 bs:KB! base.get? (AC/\k!)
 XG:base.objs.size<=s.heap.objs.size
 MW:s.heap.FunFrames base outer
 YT:∀b∈MK outer,k!
 DM:MM P w H s.heap
 bare:AllBare s.gens
inductive CE(outer:P?)(P:Program)(w:World)(H:Hp)(s:Shared)(Q:VK)(u:Value)(s':Shared):Prop
 | mk v H' (_:s'.os=s.os) (_:Dq!) (_:ID! outer [] s'.heap) (_:MM P w H' s'.heap) (_:l?) (_:Q v H')
def CR(CX:YG)(outer:P?)(P:Program)(w:World)(H:Hp)(s:Shared)(Q:VK)(E:XK)(r:Result)(s':Shared):Prop :=
 match r with
 | .ok (.ret u)=>CE outer P w H s Q u s'
 | .ok _=>False
 | .error e=>CX outer H s E e s'
structure ET(P:Program)(w:World)(K:W.Frag)(mg:V!)(base:Heap)(CX:YG)(k:Nat)(f:Addr)(fd:FuncData)(ps:T!)(sp:Sp):Prop where
 len:He!
 run:∀(A:Around)(outer:P?)(s:Shared)(H:Hp)(args:Args)(us:F!)(vs:D!)(Q:VK)(E:XK),Dh!->Je! A->JC! args GQ!->By!->Cn! ->
  Hi! P A (Bs! .call args) (CR CX outer P w H s Q E) s
theorem ET.mono{P:Program}{w:World}{K:W.Frag}{mg:V!}{base:Heap}{CX:YG}{j k:Nat}{f:Addr}{fd:FuncData}{ps:T!}{sp:Sp}(F:ET P w K mg base CX j f fd ps sp)(h:j<=k) : Jq! CX:=⟨F.len,λA outer s H args us vs Q E hr=>F.run A outer s H args us vs Q E (hr.mono h)⟩
theorem VQ.make{P:Program}{w:World}{K:W.Frag}{mg:V!}{base:Heap}{A:Around}{outer:P?}{s:Shared}{H:Hp}(e:Je! A)(C:Addr)(us:F!)(kw:AI!) : Je! (MQ! HM!):=⟨by first|exact e.frames|(simpa [Around.under,Code.envs,Code.isFrame,pushEnvs] using e.frames),e.mod,e.bs,e.XG,e.MW,e.YT,e.DM,e.bare⟩
universe S
theorem Inv.gb{X:A!}(I:B!):VQ X.prog X.w Kx X.mg X.base X.A X.stack s H :=⟨I.ok.frames,I.ok.mod,I.bs,AV I.ok.XG I.sz,I.stack,I.QH,I.DM,I.bare⟩
theorem Inv.after(I:B!)(h:CE X.stack X.prog X.w H s Q u s'):EP X AA σ Q u s':=by obtain⟨v,H',os,bare,un,DM,r,q⟩:=h;obtain⟨hh,g,d,t,os'⟩:=s';obtain rfl:os'=s.os:=os;exact⟨v,H',I.call (h':=hh) (g':=g) (d':=d) (t':=t) (ch:=[]) un DM bare (λb z=>BW! z Y!),r,q⟩
universe E
def Jmx(sp:Sp)(QF:D!)(E:XK)(t:TA):TE:=Lz! (sp Bp! H1 Q E)
inductive Jmg(C:Addr)(m:Str)(sp:Sp)(QF:D!)(E:XK)(t:TA)(σ:St)(x:V)(H1:Hp)(Q:VK):Prop
 | mk (a dx fs) (e0:J?) (e1:LC! H1) (e2:W! fs.lookup m) (e3:f? t (λvs H2=>sp (x::Bp!) H2 Q E))
def Ps(C:Addr)(m:Str)(sp:Sp)(QF:D!)(E:XK)(ta:TE)(t:TA):TE:=Da! (Jmg C m sp QF E t σ x H1 Q)
def p4(C:Addr)(sp:Sp)(QF:D!)(E:XK)(t:TA):TE:=Lz! (∀x dx,A5! x->A5! dx->dx≠x ->
 sp (K! x::Bp!) (upd (upd H1 dx (.own x)) x (As! [])) (λv H2=>v=.FH/\W? x H2) E)
def Binds(K:W.Frag)(fd:FuncData)(ps:T!)(ds:F!):Prop :=
 ∀(s:Shared)(us:F!),B5!->(Bc!).length=ps.length->JC! FU! (ps.zip (Bc!))
theorem Binds.all{K:W.Frag}{fd:FuncData}{ps:T!}(h:∀us:F!,us.length=ps.length->bindArgs fd FU!=pure GQ!):Binds K fd ps []:=λs us _ hl=>by rw[AG] at hl ⊢;exact .of_eq (h us hl)
def Jf(CX:YG)(X:A!)(E:XK):Prop:=∀(AA:G!)(σ:St)(H:Hp)(s:Shared)(e:Value)(s':Shared),Av! (CX X.stack H s E e s') (X.xe e s')
universe S
theorem Z6{X:A!}{AA:G!}{σ:St}{H:Hp}{s:Shared}{Q:VK}{us:F!}{vs:D!}(F:CB!)(hr:Di!)(hb:CA!)(hd:CG!)(hx:CH!)(I:B!)(r:By!)(h:sp Bp! H Q E):T0 (Bs! call us):=by
 have r2:Vals (vs++QF) (Bc!):=r.append hd;have hl:(Bc!).length=ps.length:=q? r2.length (F.len _ _ _ _ h)
 refine wpAny_call (IJ (F.run X.A X.stack s H FU! (Bc!) Bp! Q E hr I.gb (hb s us I.TL hl) r2 h) λr s' hq=>?_);cases r with | error e=>exact hx AA σ H s e s' I hq | ok fl =>cases fl with | ret u=>exact I.after hq | next=>exact False.elim hq | brk=>exact False.elim hq | cont=>exact False.elim hq
theorem Ce{X:A!}(F:CB!)(hr:Di!)(hg:Ab!)(hm:FK! EX!)(hk:W.keepIn Kx EX!=true)(hb:CA!)(hd:CG!)(hx:CH!)(ha:B8!)(YQ:UF:=by decide)(he:BP!:=by rfl)(RL:D5!:=by rfl) : GF! (Jmx sp QF E t):=by intro AA s σ H Q I h;refine IK (Kq I hg hm ?_ YQ);refine W.callWith_K (h₀:=X.base) I.ok.mod.XZ hk (EM! (λus s1 ⟨vs,H1,I1,r,q⟩=>E? I1.TL)) he RL;exact Z6 F hr hb hd hx I1 r q
theorem As{X:A!}{pl:Sem Bool}(he:Ld!)(c:Fz!)(hm:kJ Kx C m f)(F:CB!)(hr:Di!)(hb:CA!)(hd:CG!)(hx:CH!)(ha:B8!)(rJ:BP!:=by rfl)(RL:D5!:=by rfl)(ht:eval (.Call Gv! Am! [] pos) X.env=(do
  let ov <-EZ! o
  standAt apos.atName
  let(f,first) <-holding [ov] (getMethod ov m pl)
  callWith pos f first (backTo pos (starEach Am! X.env)) (Mb! pos)):=by rfl) :
 MC! Gv! Am! (Ps C m sp QF E ta t):=by
 intro AA s σ H Q I h
 refine W.methodCall_KW (pl:=pl) Fm! ht
 rintro u s1 ⟨x,H1,I1,rx,a,dx,fs,ex,ea,l,q⟩
 subst ex
 obtain rfl:k?:=rx
 refine Q2 I1 ea c hm l ?_
 refine W.callWith_K (first:=K?) (h₀:=X.base) I.ok.mod.XZ hm.kp (DZ (ha pos AA s1 σ H1 _ I1 q) λus s2 ⟨vs,H2,I2,r,q2⟩=>E? I2.TL) rJ RL
 exact Z6 (us:=am::us) (vs:=am::vs) F hr hb hd hx I2 (l! rfl r) q2
theorem C3{X:A!}{pl:Sem Bool}(he:Ld!)(c:Fz!)(hm:kJ Kx C m f)(F:CB!)(hr:Di!)(hb:CA!)(hd:CG!)(hx:CH!)(ht:eval (.Call Gv! [] [] pos) X.env=(do
  let ov <-EZ! o
  standAt apos.atName
  let(f,first) <-holding [ov] (getMethod ov m pl)
  callWith pos f first (backTo pos (starEach [] X.env)) (Mb! pos)):=by rfl) :
 MC! Gv! [] (Ps C m sp QF E ta Jq):=by
 intro AA s σ H Q I h
 refine W.methodCall_KW (pl:=pl) Fm! ht
 rintro u s1 ⟨x,H1,I1,rx,a,dx,fs,ex,ea,l,q⟩
 subst ex
 obtain rfl:k?:=rx
 refine Q2 I1 ea c hm l ?_
 exact W.callWith_K0 (first:=K?) I1.TL hm.kp (Z6 (us:=K?) (vs:=K?) F hr hb hd hx I1 (D1! rfl) q)
structure Mk(K:W.Frag)(C f:Addr):Prop where
 makes:B2! W.makesIn
 init:G1! LP!
 fn:Fj! W.isFn
 kp:W.keepIn K Ap!=true
theorem Xw{X:A!}{AA:G!}{σ:St}{H:Hp}{s:Shared}{Q:VK}{us:F!}{vs:D!}(M:Mk Kx C f)(F:CB!)(hr:GT! X.A)(hb:CA!)(hd:CG!)(hx:CH!)(I:B!)(r:By!)(h:∀x dx,V? x->V? dx->dx≠x->sp (K! x::Bp!) (upd (h! dx (.own x)) x (As! [])) (λv H2=>v=.FH/\W? x H2) E) : T0 (call Ap! us):=by
 have hq:=h E1! s.heap.objs.size (I.DM.fresh (EN _)) HD! (BI (HQ _));have I2:=Inv.AO (C:=C) I;have r2:Vals (J2! V.ref::Bp!) (Fw!::(Bc!)):=l! rfl (r.append hd);have hl:(Fw!::us++ds).length=ps.length:=by have e:=r2.length;rw[F.len _ _ _ _ hq] at e;exact e.symm
 refine wpAny_call (Jgn (f:=f) I.TL M.makes M.init (MZ.mp M.fn) (IJ (F.run _ X.stack _ _ (Ak! (Fw!::us)) (Fw!::(Bc!)) _ _ E (hr.make C us []) (I2.gb.make C us []) (hb _ (Fw!::us) I2.TL hl) r2 hq) λr s' RK=>?_));cases r with | error e=>exact hx AA σ _ _ e s' I2 RK | ok fl =>cases fl with | ret u =>obtain⟨v,H',I3,rv,ev,q3⟩:=I2.after RK;subst ev;exact⟨rv,KF (J2! V.ref) H' I3 q3⟩ | next=>exact KX! RK | brk=>exact KX! RK | cont=>exact KX! RK
theorem Vp{X:A!}(M:Mk Kx C f)(F:CB!)(hr:GT! X.A)(hg:Ab!)(hm:FK! Ap!)(hb:CA!)(hd:CG!)(hx:CH!)(ha:B8!)(YQ:UF:=by decide)(he:BP!:=by rfl)(RL:D5!:=by rfl) : GF! (p4 C sp QF E t):=by intro AA s σ H Q I h;refine IK (Kq I hg hm ?_ YQ);refine W.callWith_K (h₀:=X.base) I.ok.mod.XZ M.kp (EM! (λus s1 ⟨vs,H1,I1,r,q⟩=>E? I1.TL)) he RL;exact Xw M F hr hb hd hx I1 r q
theorem Jft{X:A!}(M:Mk Kx C f)(F:CB!)(hr:GT! X.A)(hg:Ab!)(hm:FK! Ap!)(hb:CA!)(hd:CG!)(hx:CH!)(YQ:UF:=by decide):MC! (y? x p) [] (p4 C sp QF E Jq):=by intro AA s σ H Q I h;refine IK (Kq I hg hm ?_ YQ);exact W.callWith_K0 I.TL M.kp (Xw (us:=[]) M F hr hb hd hx I O! h)
universe E
universe S
universe E
structure Ao(N P:T!)(sc:Scope):Prop where
 kind:E9!:=by rfl
 co:sc.isCoroutine=false:=by rfl
 gen:sc.isGenerator=false:=by rfl
 nd:N.Nodup:=by decide +kernel
 pre:N.take P.length=P:=by rfl
 par:∀x∈P,Dg!\/HP!:=by decide +kernel
 gr:Kn! .free:=by decide +kernel
theorem T3{kindOf:LL!}{x:Str}:∀{binds:AI!} {m:V!},(∀v,(x,v)∉binds)->bindL kindOf binds m x=m x
 | [],_,_=>rfl
 | (n,v)::r,m,h=>by unfold bindL;rw[T3 λw hw=>h w (ZD _ hw)];split;(·(have:x≠n:=by rintro rfl;exact h v ZL);simp[this]);.rfl
theorem T5{kindOf:LL!}{x:Str}:∀{binds:AI!} {m:V!},(∀v,(x,v)∉binds)->bindC kindOf binds m x=m x
 | [],_,_=>rfl
 | (n,v)::r,m,h=>by unfold bindC;rw[T5 λw hw=>h w (ZD _ hw)];split;(.rfl);·(have:x≠n:=by rintro rfl;exact h v ZL);simp[this]
theorem T4{kindOf:LL!}{x:Str}{v:Value}:∀{P:T!} {vs:F!} {i:Nat} {m:V!},P.Nodup->P[i]?=some x->vs[i]?=some v->IO! kindOf -> bindL kindOf (P.zip vs) m x=some v
 | [],_,_,_,_,h,_,_=>ET!
 | _::_,[],_,_,_,_,h,_=>ET!
 | p::P,w::vs,0,m,nd,h1,h2,hk=>by simp at h1 h2;subst h1;subst h2;show Ju! bindL p;unfold bindL;rw[T3 λv hv=>(AN.mp nd).1 (List.of_mem_zip hv).1,AE hk];simp
 | p::P,w::vs,i+1,m,nd,h1,h2,hk=>by show Ju! bindL x;unfold bindL;exact T4 (i:=i) (AN.mp nd).2 (by simpa using h1) (JI!) hk
theorem T6{kindOf:LL!}{x:Str}{v:Value}:∀{P:T!} {vs:F!} {i:Nat} {m:V!},P.Nodup->P[i]?=some x->vs[i]?=some v->kindOf x≠U! Cq! -> bindC kindOf (P.zip vs) m x=some v
 | [],_,_,_,_,h,_,_=>ET!
 | _::_,[],_,_,_,_,h,_=>ET!
 | p::P,w::vs,0,m,nd,h1,h2,hk=>by simp at h1 h2;subst h1;subst h2;show Ju! bindC p;unfold bindC;rw[T5 λv hv=>(AN.mp nd).1 (List.of_mem_zip hv).1,AB hk];simp
 | p::P,w::vs,i+1,m,nd,h1,h2,hk=>by show Ju! bindC x;unfold bindC;exact T6 (i:=i) (AN.mp nd).2 (by simpa using h1) (JI!) hk
def start(N:T!)(vs:D!):St:=vs.map some++List.replicate (N.length-vs.length) none
def Lm(CX:YG)(P:Program)(w:World)(K:W.Frag)(mg:V!)(base:Heap)(N:T!)(qual:Str)(scope:Scope)(f:Addr)(cd:Value)(A:Around)(outer:P?)(s:Shared)(H:Hp)(E:XK):Cx K where
 prog:=P
 w:=w
 mg:=mg
 base:=base
 A:=A.deeper (Jr!)
 N:=N
 II:=s
 QW:=H
 env:=Jr!
 outer:=outer
 stack:=Jr!::outer
 ex:=[]
 calm:=true
 fn:=λ_=>true
 pn:=[]
 xe:=λe s'=>CP! P w (A.deeper MP!) (leaving MP! e) (λ_ qS=>CX outer H s E e qS) (λe' qS=>CX outer H s E e' qS) s'
theorem Zk{sc:Scope}{n:Nat}{x:Str}(h:HP!):∃c,CV! (cellsFrom n sc.names []).lookup:=by have q:=W.cellsFrom_some sc.names n [] (Q! h);exact Option.isSome_iff_exists.mp q
theorem Jd1{CX:YG}{P:Program}{w:World}{K:W.Frag}{mg:V!}{base:Heap}{N ps:T!}{qual:Str}{scope:Scope}{f:Addr}{cd:Value}{A:Around}{outer:P?}{s s1:Shared}{H:Hp}{E:XK}{us:F!}{vs:D!}(S:Ao N ps scope)(hd:BY!)(e0:Je! A)(hl:vs.length=ps.length)(r:By!)(x:InCallC s s.heap.objs.size (bindL (envOfC qual scope s.heap.objs.size f cd).kindOf GQ! CW!) (cellsFrom E1! scope.names []) (bindC (envOfC qual scope s.heap.objs.size f cd).kindOf GQ! CW!) s1) : Inv (MZ! CX) [] ML! H s1:=by
 have RL:ps.length<=N.length:=by have:=HL! S.pre;rw[CD] at this;lia
 obtain⟨h1,tk,rfl,hk⟩:=x.done;have jQ:∀b:Addr,b∉(MZ! CX).ex:=λb z=>Lc! (show b∈([]:J!) from z);refine⟨⟨e0.mod,S.kind,rfl,rfl,ZG _,λy z c h1 h2=>?_,λy hy=>?_,λy c _ h=>?_,λ_=>hd,Around.frames_deeper e0.frames,y! LY!,λb z=>absurd z (jQ b),e0.bs,e0.XG,λb _ _=>jQ b,λb z=>absurd z (jQ b),e0.MW,e0.YT⟩,rfl,e0.bare,Un.kept hk,⟨_,x.toInCall.ns,λi y v h1 h2 h3=>?_⟩,λy c h=>i! (x.cell y c h),e0.DM.fresh (ZG _),λy c h=>?_,λp hp=>Lc! (show p∈([]:G!) from hp),e0.DM.kept hk,?_⟩;.exact name_of_addr x.apart (JA h1) (JA h2)
 .have hy:M! scope.names.lookup y L?\/M! scope.names.lookup y .free:=hy;rcases hy with hy|hy;(.exact Zk hy);.exact Cl! (S.gr _ (JA hy))
 .exact DD (x.above y c (JA h))
 ·(have hi:i<vs.length:=by unfold start at h2;by_cases hi:i<vs.length;(.exact hi);.rw[NA (by simpa using hi)] at h2;rw[List.getElem?_replicate] at h2;split at h2<;>cases h2);(have ha:vs[i]?=some v:=by unfold start at h2;rw[NU (by simpa using hi),ZH] at h2;cases e:vs[i]? with | none=>rw[e] at h2;cases h2 | some a=>rw[e] at h2;cases h2;rfl);obtain⟨u,hu,rv⟩:=r.get ha;(have hp:ps[i]?=some y:=by rw[<-S.pre,List.getElem?_take_of_lt (H!)];exact h1);(have xW:ps.Nodup:=q? S.pre (S.nd.sublist (List.take_sublist _ _)));refine BZ! u rv;rcases S.par y (ZP hp) with k|k;(.exact Bw! k (T4 xW hp hu k));.obtain⟨c,e⟩:=Zk (n:=CX!) k;refine AO! (O? k) c e ?_;have q:=x.cell y c e;rw[T6 xW hp hu (by show scope.names.lookup y≠_;rw[k];decide)] at q;exact q
 .exact e0.DM.fresh (DD (x.above y c (JA h)))
 .unfold start;show _=N.length;rw[ZE,ZA,List.length_replicate];lia
theorem Jkm{CX:YG}{P:Program}{w:World}{K:W.Frag}{mg:V!}{base:Heap}{k:Nat}{f:Addr}{name qual:Str}{params:Arguments}{body:Kw!}{scope:Scope}{dV kV doc pm EB ct oc:Value}{an od:DH!}{eD:Array (Option Value)}{N ps:T!}{sp:Sp}(lk:M! K.lookup f ⟨oc,od,.func (Jw! name params body scope dV),eD⟩)(XB:W.codeIn K EB qual=true)(S:Ao N ps scope)(len:He!)(UL:∀(A:Around) (outer:P?) (s:Shared) (H:Hp) (vs:D!) (Q:VK) (E:XK),GL! (KI! scope EB)->Cn! -> Jg! (PM (L8! CX EB) body t)) : ET P w K mg base CX (k+1) f (Jw! name params body scope dV) ps sp:=by
 refine⟨len,λA outer s H args us vs Q E hr e0 hb r aw=>?_⟩;have hl:=len _ _ _ _ aw;have KX:B5!:=e0.mod.XZ.keeps (T? (E5! e0.bs));have lim:s.heap.NoLimit:=e0.mod.nolimit.keeps (T? (E5! e0.bs));have JV:∀y∈ps.zip us,H0! scope.names.lookup\/(M! scope.names.lookup y.1 L?/\((cellsFrom E1! scope.names []).lookup y.1).isSome=true):=λ⟨n,v⟩ hy=>by rcases S.par n (List.of_mem_zip hy).1 with q|q;(.exact Q! q);.exact A9! q (W.cellsFrom_some _ _ _ (Q! q))
 refine codeAny_call_function hr.depth (KX _ _ lk) rfl S.co S.gen rfl (W.codeRec_of KX XB) (hb _ _ _ _ ?_);refine wpAny_newFunctionEnv_cells S.kind JV λenv he s1 x=>?_;subst he;refine⟨lim.keeps x.toInCall.keep,codeAny_func ?_⟩;obtain⟨t,ht,hq⟩:=UL A outer s H vs Q E (hr.deeper _) aw;have I:Inv (L8! CX EB) [] ML! H s1:=Jd1 S hr.hd e0 hl r x;refine EJ (ht [] s1 ML! H _ I hq) (λfl s' hs=>?_) λe s' hs=>hs;have fin:∀{EV:St} {H':Hp} {v:V} {u:Value},Inv (L8! CX EB) [] EV H' s'->l?->Q v H'->CE outer P w H s Q u s' :=λ{EV H' v u} J rv q=>⟨v,H',J.os,J.bare,J.base,J.DM,rv,q⟩;cases fl with | ret u =>obtain⟨v,EV,H',J,rv,q⟩:=hs;exact fin J rv q | next =>obtain⟨EV,H',J,q⟩:=hs;exact fin (v:=V.FH) (u:=Value.none) J rfl q | brk =>obtain⟨_,_,_,q⟩:=hs;exact False.elim q | cont =>obtain⟨_,_,_,q⟩:=hs;exact False.elim q
universe S
variable {X:Cx Kx}{x:Str}{p pos:Pos}{e:Expr}{es:List Expr}{t:TA}{id T:String}{r:List V->Hp->VK->Prop}
def qJ(r:D!->CY!)(t:TA):TE:=Lz! (r vs H1 Q)
theorem Bi(hc:KF! id r)(hg:Ab!)(hm:W! X.mg x)(hv:Ix bootBuiltins (BT! id))(ha:B8!)(hn:E6!:=by decide)(YQ:UF:=by decide)(he:BP!:=by rfl)(RL:D5!:=by rfl):GF! (qJ r t):=by intro AA s σ H Q I h;refine IK (Wd I hg hm hv ?_ hn YQ);exact PyProof.Rows.callWith_builtin1 (EM! (λus s1 ⟨vs,H1,I1,r1,q1⟩=>Jm! hc vs us Q)) he RL
theorem D9(hc:Lx! T r)(hg:Ab!)(hm:W! X.mg x)(hv:Ix bootBuiltins (G? T))(ha:B8!)(hn:E6!:=by decide)(YQ:UF:=by decide)(he:BP!:=by rfl)(RL:D5!:=by rfl):GF! (qJ r t):=by intro AA s σ H Q I h;refine IK (Wd I hg hm hv ?_ hn YQ);exact MJ (EM! (λus s1 ⟨vs,H1,I1,r1,q1⟩=>Jm! hc vs us Q)) he RL
universe E
universe S
variable [DecidableEq κ]
def Ct(kvs:j!)(k:κ):XV V:=Fi! kvs.find? MH!
def putK(kvs:j!)(k:κ)(v:V):j! :=
 if Hy!=true then kvs.map (IW! (kv.1,v)) else kvs++[EQ]
def D7(kvs:j!)(k:κ):j!:=kvs.filter λkv=>R! (kv.1≠k)
theorem Jep:Ct ([]:j!) k=none:=rfl
theorem Gk{p:κ×V}{r:j!}{k:κ}(e:Db):Ct (p::r) k=some p.2:=by simp[Ct,BX,e]
theorem Et{p:κ×V}{r:j!}{k:κ}(e:¬Db):Ct (p::r) k=Ct r k:=by simp[Ct,BX,e]
theorem Lx(k:κ):∀kvs:j!,Hy!=(Ct kvs k).isSome
 | []=>rfl
 | p::r=>by rw[List.any_cons];by_cases e:Db;(.simp only[Gk e,decide_eq_true e,Bool.true_or,Option.isSome_some]);.rw[Et e,FJ!,Bool.false_or];exact Lx k r
theorem Fy(kvs:j!)(k:κ)(v:V):(putK kvs k v).length<=kvs.length+1:=by
 unfold putK;split;.rw[ZA];lia
 .rw[ZE,BL,CA];lia
theorem Fa{kvs:j!}{k:κ}(v:V)(h:Ct kvs k=none):putK kvs k v=kvs++[EQ]:=by unfold putK;rw[Lx,h];exact AB (r?)
theorem PZ.LB(r:PZ o u):o.isSome=u.isSome:=by cases o with | none=>(cases u with | none=>rfl | some _=>exact D0!) | some _=>cases u with | none=>exact D0! | some _=>rfl
theorem PZ.getD(r:PZ o u)(rd:N? d d'):N? (o.getD d) (u.getD d'):=by cases o with | none=>(cases u with | none=>exact rd | some _=>exact D0!) | some _=>cases u with | none=>exact D0! | some _=>exact r
theorem KV.val(r:o?)(k:κ):PZ KU! (valueAt vs k):=by unfold KV at r;induction r with | nil=>exact True.intro | @cons p q ps qs h t ih =>obtain⟨h1,h2⟩:=h;by_cases e:Db;(.have e':q.1=k:=h1.symm.trans e;(have b:valueAt (q::qs) k=some q.2:=by simp[valueAt,BX,e']);rw[Gk e,b];exact h2);.have e':¬q.1=k:=F2!;(have b:valueAt (q::qs) k=valueAt qs k:=by simp[valueAt,BX,e']);rw[Et e,b];exact ih
theorem KV.any(r:o?)(k:κ):Hy!=vs.any MH!:=by unfold KV at r;induction r with | nil=>rfl | cons h t ih=>rw[List.any_cons,List.any_cons,ih,h.1]
theorem KV.gH(r:o?)(k:κ)(ry:R?) : KV (kvs.map (IW! (kv.1,y))) (vs.map (IW! (kv.1,u))):=by unfold KV at r ⊢;induction r with | nil=>exact O! | @cons p q ps qs h t ih =>rw[AK,AK];refine sB ?_;obtain⟨h1,h2⟩:=h;by_cases e:Db;(.rw[AE e,AE (h1.symm.trans e)];exact⟨h1,ry⟩);.rw[AB e,AB (F2!)];exact⟨h1,h2⟩
theorem KV.put{kvs:j!}{vs:Ky!}(r:o?)(k:κ){y:V}{u:Value}(ry:R?):KV (KL! y) (stored vs k u):=by
 unfold putK stored;rw[r.any k];by_cases e:(vs.any MH!)=true;.rw[AE e,AE e];exact r.gH k ry
 .rw[AB e,AB e];exact Paired.snoc r (v4 ry)
theorem KV.drop{kvs:j!}{vs:Ky!}(r:o?)(k:κ):KV (D7 kvs k) (without vs k):=by unfold KV at r ⊢;unfold D7 without;induction r with | nil=>exact O! | @cons p q ps qs h t ih =>obtain⟨h1,h2⟩:=h;rw[DH,DH];by_cases e:Db;(·(have a:¬IL! p.1:=En!);(have b:¬IL! q.1:=by simp[h1.symm.trans e]);rw[AB a,AB b];exact ih);.have e':¬q.1=k:=F2!;(have a:IL! p.1:=En!);(have b:IL! q.1:=by simp[e']);rw[AE a,AE b];exact sB ⟨h1,h2⟩
theorem KV.length(r:o?):kvs.length=vs.length:=Paired.length r
theorem Jhf(kvs:j!)(k:κ):(D7 kvs k).length<=kvs.length:=AW _ _
universe E
theorem Mw(r:N? (kV k) u):(Bu P w).is k u=true:=by cases k with | inl i=>obtain⟨t,e⟩:=ii Df!;subst e;exact Yq P w i t | inr x=>obtain⟨t,e⟩:=ii Lm!;subst e;exact Yp P w x t
theorem Ta:∀{ks:ap} {us:F!},EW! (ks.map kV)->ItemsAre Cu! ks us
 | [],_,r=>by rw[FL] at r;cases r;exact O!
 | k::ks,_,r=>by rw[AK] at r;cases r with | cons h t=>exact l! (Mw h) (Ta t)
abbrev KT(H:Hp):I? FB D8!:=Paired λp q=>p.1=q.1/\WP g? (Bd! E2!)/\N? p.2 q.2.2
theorem KT.val(r:BO!)(k:ap):PZ KU! ((atKey xs k).map GM):=by induction r with | nil=>exact True.intro | @cons p q ps qs h t ih =>obtain⟨h1,_,h2⟩:=h;by_cases e:Db;(.have e':q.1=k:=h1.symm.trans e;(have b:atKey (q::qs) k=some q.2:=by simp[atKey,BX,e']);rw[Gk e,b];exact h2);.have e':¬q.1=k:=F2!;(have b:atKey (q::qs) k=atKey qs k:=by simp[atKey,BX,e']);rw[Et e,b];exact ih
theorem KT.gH(r:BO!)(k:ap)(ry:R?) : KT H (kvs.map (IW! (kv.1,y))) (xs.map (putAt k u)):=by induction r with | nil=>exact O! | @cons p q ps qs h t ih =>rw[AK,AK];refine sB ?_;obtain⟨h1,h2,h3⟩:=h;unfold putAt;by_cases e:Db;(.rw[AE e,AE (h1.symm.trans e)];exact⟨h1,h2,ry⟩);.rw[AB e,AB (F2!)];exact⟨h1,h2,h3⟩
theorem KT.put{H:Hp}{kvs:FB}{xs:D8!}(r:BO!)(k:ap){b:Addr}{y:V}{u:Value}(hb:DS!)(ry:R?) : KT H (KL! y) (storedH xs k b u):=by
 have e:Hy!=(atKey xs k).isSome:=by rw[Lx,(r.val k).LB,Option.isSome_map]
 unfold putK storedH;rw[e];by_cases q:(atKey xs k).isSome=true;.rw[AE q,AE q];exact r.gH k ry
 .rw[AB q,AB q];exact Paired.snoc r ⟨rfl,hb,ry⟩
theorem KT.keeps(r:BO!)(ht:∀b ys,Dr! FZ! FZ!):KT H' kvs xs :=Jq4 r λ_ _ z=>⟨z.1,ht _ _ z.2.1,z.2.2⟩
universe S
theorem Jkg(ok:n?)(e:Rd H a u):EJ! u:=e.ok ok
theorem Nh(ok:n?)(e:HW!):Hg! (∃vs,o?/\h.DictOf Cu! a vs) :=Al! (EJ! (.dK kvs)) (Jkg ok e)
theorem Zd(ok:n?)(e:Do!):Hg! (∃vs,o?/\h.DictOf Cu! a vs):=Nh ok (Q! e)
theorem Jy(ok:n?)(e:cr (Bd! ks.map)):(tupleKind (Bu P w)).is h ks a:=by obtain⟨_,its,r,o,h1,h2,n,h3⟩:=(Al! (DV P w H h a (Bd! ks.map)) (ok a _ e));exact⟨o,its.toArray,n,h1,h2,h3,BR! (Ta r)⟩
theorem Ng(ok:n?)(e:Rd H a (.dT kvs)):Eg!/\J9! /\ ∃xs,BO!/\h.DictOfH MO! a xs:=by
 obtain⟨z,y,xs,r,o,es,ep,h1,h2,h3,h4,h5⟩:=(Al! (DV P w H h a B7!) (Jkg ok e));refine⟨z,y,xs,r,o,es,ep,h1,h2,h3,h4,λx hx=>?_,h5⟩;have all:∀{l:FB} {m:D8!},KT H l m->∀x∈m,(tupleKind (Bu P w)).is h x.1 x.2.1:=by intro l m q;induction q with | nil=>intro x hx;exact nomatch hx | @cons p q ps qs hq t ih =>intro x hx;rcases ZM hx with e|hx;(.subst e;exact Jy ok (q? hq.1 hq.2.1));.exact ih x hx
 exact all r x hx
theorem Ra(ok:n?)(e:Dp!):Eg!/\J9! /\ ∃xs,BO!/\h.DictOfH MO! a xs:=Ng ok (Q! e)
universe E
def DQ(H:Hp)(a:Addr)(y:V)(r:XV V):Prop :=
 (∃kvs k,HW!/\y=kV k/\r=Ct kvs k)\/∃kvs k b,Rd H a (.dT kvs)/\y=AK!/\DS!/\r=Ct kvs k
def F_(H:Hp)(a:Addr)(y v:V)(H':Hp):Prop :=
 (∃kvs k,Do!/\y=kV k/\J5!/\H'=upd H a (.dK (KL! v))) \/
 ∃kvs k b,Dp!/\y=AK!/\DS!/\J5!/\H'=upd H a (.dT (KL! v))
theorem DQ.k{H:Hp}{a:Addr}{kvs:Sc}{k:Key}(e:Do!):DQ H a (kV k) KU!:=O? (KF kvs k (Q! e) rfl)
theorem DQ.t{H:Hp}{a b:Addr}{kvs:FB}{k:ap}(e:Dp!)(eb:DS!):DQ H a DA! KU!:=y! ⟨kvs,k,b,Q! e,rfl,eb,rfl⟩
theorem F_.k{H:Hp}{a:Addr}{kvs:Sc}{k:Key}{v:V}(e:Do!)(hl:J5!):F_ H a (kV k) v (h! a (.dK (putK kvs k v))):=O? ⟨kvs,k,e,rfl,hl,rfl⟩
theorem F_.t{H:Hp}{a b:Addr}{kvs:FB}{k:ap}{v:V}(e:Dp!)(eb:DS!)(hl:J5!) : F_ H a DA! v (h! a (.dT (putK kvs k v))):=y! ⟨kvs,k,b,e,rfl,eb,hl,rfl⟩
universe S
theorem Inv.big(I:B!):sysModules<s.heap.objs.size:=by have h:mainGlobals<s.heap.objs.size:=(I.mod.glob.keeps I.bk).lt;exact P' (r?) h
theorem Tu(hu:BK!)(I:B!)(g:DQ H a y (some v))(ry:R?)(h:Gd! Bt! v) : Bh! (getItem w! u):=by
 rcases g with⟨kvs,k,e,ey,l⟩|⟨kvs,k,b,e,ey,eb,l⟩;.subst ey;obtain⟨z,hd,vs,rel,dd⟩:=BG!;obtain⟨w',hw,QL⟩:=Jf! (valueAt vs k) (q! l (rel.val k));exact wpAny_getItem_of CF! dd.mapOf hw (h w' _ In! QL)
 .subst ey;cases EG!;obtain⟨z,hd,xs,rel,dd⟩:=Bz!;obtain⟨w',hw,QL⟩:=Jf! ((atKey xs k).map GM) (q! l (rel.val k));obtain⟨p,hp,GQ⟩:=Option.map_eq_some_iff.mp hw;refine wpAny_getItem_heap GR! Ge! dd hp ?_;rw[GQ];exact h w' _ In! QL
theorem Jpw(hu:BK!)(I:B!)(g:Fy!)(ry:R?)(h:∀s',Bt!->Q (C? o.isSome) s') : Bh! (compareOp .In u w!):=by
 rcases g with⟨kvs,k,e,ey,l⟩|⟨kvs,k,b,e,ey,eb,l⟩;.subst ey;obtain⟨z,hd,vs,rel,dd⟩:=BG!;refine wpAny_in_of CF! hd dd.mapOf ?_;rw[<-Kp!,<-l];exact Gz!
 .subst ey;cases EG!;obtain⟨z,hd,xs,rel,dd⟩:=Bz!;refine wpAny_in_heap GR! Ge! hd dd ?_;have q:=Kp!;rw[Option.isSome_map] at q;rw[<-q,<-l];exact Gz!
theorem Jjz(hu:BK!)(I:B!)(g:Fy!)(ry:R?)(h:∀s',Bt!->Q (C? (!o.isSome)) s') : Bh! (compareOp .NotIn u w!):=by
 rcases g with⟨kvs,k,e,ey,l⟩|⟨kvs,k,b,e,ey,eb,l⟩;.subst ey;obtain⟨z,hd,vs,rel,dd⟩:=BG!;refine wpAny_notIn_of CF! hd dd.mapOf ?_;rw[<-Kp!,<-l];exact Gz!
 .subst ey;cases EG!;obtain⟨z,hd,xs,rel,dd⟩:=Bz!;refine wpAny_notIn_heap GR! Ge! hd dd ?_;have q:=Kp!;rw[Option.isSome_map] at q;rw[<-q,<-l];exact Gz!
theorem G9(I:B!)(mu:kI (H a))(hs:B9! a)(he:∃q,A7! q)(new:F1! (h! a ob) a ob) : K0! ob Cs! :=I.write (x:=a) (e:=a) mu ww (λb q hb z=>(hs.2 b hb).trans z) he new
theorem uO(z:Eg!)(hd:J9!)(rel:o?)(dd:h'.DictOf Cu! a vs) : DV P w H' h' a (.dK kvs):=⟨z,hd,vs,rel,dd⟩
theorem Tt{H':Hp}{Q:Bv!}(hu:BK!)(I:B!)(g:F_ H a y v H')(ry:R?)(rv:N? v r)(h:∀s',AW!->Q () s') : Bh! (setItem w! u r):=by
 rcases g with⟨kvs,k,e,ey,l,eH⟩|⟨kvs,k,b,e,ey,eb,l,eH⟩;.subst ey eH;obtain⟨z,hd,vs,rel,dd⟩:=BX! Zd;(have hz:vs.length<=sizeLine:=Br! rel.length);(have hl:xL (putK kvs k v).length:=J6! (Fy kvs k v));refine wpAny_setItem_pairs (hsz:=hz) CF! dd λh' YC hs=>h _ ?_;have he:∃q,A7! q:=let⟨q,_,_,hq,_⟩:=YC;IR!;exact Iv! hs he (uO hl hd (rel.put k rv) YC)
 .subst ey eH;cases EG!;obtain⟨z,hd,xs,rel,dd⟩:=BX! Ra;(have hz:SB:=Br! Fp!);(have hl:xL (putK kvs k v).length:=J6! (Fy kvs k v));refine wpAny_setItem_heap (hsz:=hz) GR! Ge! dd λh' YC hs=>h _ ?_;obtain⟨q,es,ep,hq,h2,h3,h4,_,h5⟩:=YC;refine Iv! hs IR! ⟨hl,hd,_,(rel.put k eb rv).keeps λc ys ec=>?_,q,es,ep,hq,h2,h3,h4,h5⟩;rw[Ab (Qe ec e (λz=>nomatch z))];exact ec
universe E
universe S
theorem Jnv(I:B!)(e:Do!)(ry:N? (kV k) u)(l:FW!)(hm:more=[]\/∃x,more=[x])(h:Gd! (K0! (JO! .dK) s') v):Fo! "dict.pop" (am::u::more):=by
 obtain⟨z,hd,vs,rel,dd⟩:=BX! Zd;obtain⟨w',hw,QL⟩:=Jf! (valueAt vs k) (Ch! l (rel.val k));have hp:(keyPart u).isSome=true:=by cases k with | inl i=>obtain⟨t,q⟩:=Jy! Df!;subst q;rfl | inr x=>obtain⟨t,q⟩:=Jy! Lm!;subst q;rfl
 have ha:argsOk "dict.pop" (Ak! (am::u::more)):=by rcases hm with q|⟨x,q⟩;(.subst q;exact PySem.F.args_dict_pop_2 _ _);.subst q;exact PySem.F.args_dict_pop_3 _ _ _
 refine JP K_ dd.typeIs PySem.F.entry_dict_pop ha (meets_dict_pop_there F8! a CF! more hm hp) ⟨vs,w',dd,Br! rel.length,hw,λh' YC hs=>h w' _ ?_ QL⟩;have he:∃q,A7! q:=let⟨q,_,_,hq,_⟩:=YC;IR!;exact Iv! hs he (uO (AV (Jhf kvs k) z) hd (rel.drop k) YC)
theorem Jnw(I:B!)(e:HW!)(h:∀t s',Bt!->Q (E! kvs.length t) s'):Fo! "len" K?:=by obtain⟨z,hd,vs,rel,dd⟩:=BG!;refine call_len_dict hd dd (by rw[<-rel.length];rw[DB] at z;lia) ?_;rw[<-rel.length];exact h _ _ In!
universe E
def Jn4(i:Expr):Prop:=∀ov iv,subscripted i false ov iv=operate [ov,iv] (getItem ov iv)
theorem Jh1{prog:Program}{w:World}{A:Around}{E:N!}{s:Shared}{env:Env}{value slice:Expr}{pos:Pos}{T id:String}{Q:N!}(hl:typeLookup (G? T) "__getitem__"=pure (H2! id))(hs:Jn4 slice)(h:EU! (CC! value) (λo EH=>J4! (CC! slice) (λi RO=>RO.TypeIs o T/\Fx! (getItem o i) RO) EH)) : Ec! (CC! (Bm! value slice pos)):=by
 refine Subscript_ (EJ h (λo EH h₁=>EJ h₁ (λi RO gQ=>?_) KN!) KN!);obtain⟨hT,gQ⟩:=gQ;unfold subscriptTail;refine ZR ?_;rw[getitemInPython_of_ne hT.not_modules];refine ZR (wpAny_specialOf hT hl ?_);have fin:J4! (subscripted slice false o i) (λr kP=>Fx! (letTemporaryGo value o r >>= λ_=>pure r) kP) RO:=S! (hs o i) (wpAny_operating (EJ gQ (λr kP vO=>D? wpAny_letTemporaryGo (ZS vO)) KN!))
 first | exact ZS (ZR fin) | exact D? ZS (ZR fin) | exact ZR fin
theorem Zf(I:B!)(g:Fy!):Hu! w!:=by
 rcases g with⟨kvs,k,e,_,_⟩|⟨kvs,k,b,e,_,_,_⟩;.obtain⟨_,_,vs,_,dd⟩:=BG!;exact dd.typeIs
 .obtain⟨_,_,xs,_,dd⟩:=Bz!;exact dd.typeIs
inductive Jmh  (x:V) (y:V) (H2:Hp) (Q:VK):Prop
 | mk (a v) (e0:J?) (e1:DQ H2 a y (some v)) (e2:Q v H2)
def R4(td ty:TE):TE:=Fd! (Dl! (Jmh  x y H2 Q))
inductive Joa  (x:V) (y:V) (H2:Hp) (Q:VK):Prop
 | mk (a o) (e0:J?) (e1:DQ H2 a y o) (e2:Q (.bl o.isSome) H2)
def Jos(ty td:TE):TE:=LQ! ty (λy H1=>f? td (λx H2=>Joa  x y H2 Q))
inductive Jhu  (x:V) (y:V) (H2:Hp) (Q:VK):Prop
 | mk (a o) (e0:J?) (e1:DQ H2 a y o) (e2:Q (.bl (!o.isSome)) H2)
def Jh0(ty td:TE):TE:=LQ! ty (λy H1=>f? td (λx H2=>Jhu  x y H2 Q))
inductive Jmi  (x:V) (y:V) (v:V) (H3:Hp) (σ:St) (D:Ends):Prop
 | mk (a H4) (e0:J?) (e1:F_ H3 a y v H4) (e2:Cc! H4)
def Jm6(td ty tv:TE):TS:=C2! tv (λv H1=>f? td (λx H2=>ty σ H2 λy H3=>Jmi  x y v H3 σ D))
def Jm7(td ty tv:TE)(rd:Fn!):TS:=CM! (Ci! td (Dl! (∃a v,J?/\DQ H2 a y (some v) /\
 tv σ H2 λy2 H3=>rd v y2 H3 λz H4=>∃H5,F_ H4 a y z H5/\Cc! H5)))
universe S
theorem Bb(hu:AU!)(ho:AX!)(hi:GV!)(hs:Jn4 i:=by exact λ_ _=>rfl):Rs Bm! o i (R4 td ty):=by intro AA s σ H Q I h;refine Jh1 PySem.F.slot_dict_getitem.lookup hs (G2! ho (λu s1 ⟨x,H1,I1,rx,q1⟩=>FR! hi (λiv s2 ⟨y,H2,I2,ry,a,v,ex,g,q2⟩=>?_)));subst ex;obtain rfl:k?:=rx;exact⟨Zf I2 g,Gi! Tu (Ew! ⟨v,H2,I3,QL,q2⟩)⟩
theorem Lf(hu:AU!)(hi:GV!)(ho:AX!):PC X .In i o (Jos ty td):=by intro AA s σ H Q I h;refine DZ (LG! hi) λiv s1 ⟨y,H1,I1,ry,q1⟩=>LV! ho;rintro u s2 ⟨x,H2,I2,rx,a,ov,ex,g,q2⟩;subst ex;obtain rfl:k?:=rx;exact Gi! Jpw (λs3 I3=>KF (.bl ov.isSome) H2 I3 q2)
theorem Do(hu:AU!)(hi:GV!)(ho:AX!):PC X .NotIn i o (Jh0 ty td):=by intro AA s σ H Q I h;refine DZ (LG! hi) λiv s1 ⟨y,H1,I1,ry,q1⟩=>LV! ho;rintro u s2 ⟨x,H2,I2,rx,a,ov,ex,g,q2⟩;subst ex;obtain rfl:k?:=rx;exact Gi! Jjz (λs3 I3=>KF (.bl (!ov.isSome)) H2 I3 q2)
theorem Cd(hu:AU!)(ho:AX!)(hi:GV!)(hv:H3!)(hs:JJ! value (some (Bm! o i pos'))) : H5! [Bm! o i pos'] value (Jm6 td ty tv):=by intro AA s σ H D I h;refine Cx! wpAny_Assign_Subscript hv (λr s1 ⟨v,H1,I1,rv,q1⟩=>FR! ho (λu s2 ⟨x,H2,I2,rx,q2⟩=>LH! hi s2 I2 (λiv s3 ⟨y,H3,I3,ry,a,H4,ex,g,q3⟩=>?_))) hs;subst ex;obtain rfl:k?:=rx;exact Tt hu I3 g ry rv λs4 I4=>Aw! H4 I4 q3
theorem Mh(hu:AU!)(ho:AX!)(hi:GV!)(hv:H3!)(rQ:pH X op rd)(ha:∀ov iv new,augStore i ov iv new=(do holding [new,ov,iv] (setItem ov iv new);release [new,ov,iv] [];pure .next)):PS X (.AugAssign (Bm! o i uX) op value pos) (Jm7 td ty tv rd):=by
 intro AA s σ H D I h
 refine Cx! wpAny_AugAssign_SubscriptAny ho (λu s1 ⟨x,H1,I1,rx,q1⟩=>FR! hi (λiv s2 ⟨y,H2,I2,ry,a,v,ex,g,q2⟩=>?_)) ha
 subst ex
 obtain rfl:k?:=rx
 refine Gi! Tu (Ew! (LH! hv s3 I3 (λw2 s4 ⟨y2,H3,I4,ry2,q3⟩=>Op (rQ AA s4 σ H3 v y2 w' w2 _ I4 QL ry2 q3))))
 rintro w3 s5 ⟨z,H4,I5,rz,H5,g5,q4⟩
 exact Tt hu I5 g5 ry rz λs6 I6=>Aw! H5 I6 q4
universe E
theorem Ze(h:Heap)(hb:sysModules<h.objs.size):DV P w H (h.push (CS! "dict" (.dict #[]))) h.objs.size (.dK []) :=⟨AU _,CU! DX.mpr (BI hb),[],O!,Heap.DictOf.new h⟩
theorem Zb(h:Heap)(hb:sysModules<h.objs.size):DV P w H (h.push (CS! "dict" (.dict #[]))) h.objs.size (.dT []) :=⟨AU _,CU! DX.mpr (BI hb),[],O!,_,#[],0,s?,Bq! rfl rfl,rfl,rfl,CY⟩
def Jk1:TE:=λ_ H Q=>EI! (.dK [])
def Jk0:TE:=λ_ H Q=>EI! (.dT [])
universe S
theorem Fw:Rs .Dict [] [] Jk1:=λAA s σ H Q I h =>wpAny_Dict_empty (JV! (.dK []) Kq! (Ze s.heap I.big) (h _ HD!))
theorem Dm:Rs .Dict [] [] Jk0:=λAA s σ H Q I h =>wpAny_Dict_empty (JV! (.dT []) Kq! (Zb s.heap I.big) (h _ HD!))
universe E
def Zu:H? (TE×TE)->St->Eo! (BS! (H? (V×V)))
 | [],_,H,Q=>Q [] H
 | (tk,tv)::r,σ,H,Q=>Ci! tk (f? tv (λy H2=>Zu r σ H2 λps H3=>Q ((x,y)::ps) H3))
abbrev VV:I? (H? (V×V)) (H? (Value×Value)):=Paired λp q=>N? p.1 q.1/\N? p.2 q.2
def pB(X:A!)(pos:Pos)(keys:List (Option Expr))(values:A1!)(dw:H? (TE×TE)):Prop :=
 ∀(AA:G!)(s:Shared)(σ:St)(H:Hp)(Q:BS! (H? (V×V))),E3! (Zu dw σ H Q ->
  KA! (evalPairs (pairTrees keys values X.env pos)) (λvs s'=>∃ps H',AW!/\VV ps vs/\Q ps H'))
theorem Jij:pB X pos [] [] []:=λAA s σ H Q I h=>pairTrees_nil_walk ⟨[],H,I,O!,h⟩
theorem Qb(hk:g! k tk)(hv:g! v tv)(hr:pB X pos ks vs dw) : pB X pos (U! k::ks) (v::vs) ((tk,tv)::dw):=λAA s σ H Q I h =>pairTrees_cons_walk (DZ (LG! hk) λu s1 ⟨x,H1,I1,rx,q1⟩=>FR! hv (λw2 s2 ⟨y,H2,I2,ry,q2⟩ =>LH! hr s2 I2 (λws s3 ⟨ps,H3,I3,rel,q3⟩=>⟨(x,y)::ps,H3,I3,l! ⟨rx,ry⟩ rel,q3⟩)))
def Lh(kvs more:Sc):Sc:=more.foldl (λacc kv=>putK acc kv.1 kv.2) kvs
theorem KV.merge:∀{more:Sc} {rs:H? (Key×Value)} {kvs:Sc} {vs:H? (Key×Value)},KV more rs->o?->KV (Lh kvs more) (merged vs rs):=by intro more rs kvs vs r;unfold KV at r;induction r generalizing kvs vs with | nil=>intro q;exact q | @cons p q ps qs h t ih =>intro r0;(have e:KV (putK kvs p.1 p.2) (stored vs q.1 q.2):=by have:=r0.put p.1 h.2;rw[<-h.1];exact this);exact ih e
theorem K6:∀(more kvs:Sc),(Lh kvs more).length<=kvs.length+more.length
 | [],kvs=>by show kvs.length<=kvs.length+0;lia
 | p::r,kvs=>by have h1:=K6 r (putK kvs p.1 p.2);have h2:=Fy kvs p.1 p.2;show(Lh (putK kvs p.1 p.2) r).length<=_;rw[BL];lia
theorem Rf{P:Program}{w:World}:∀{kvs:Sc} {ws:H? (Value×Value)},VV (kvs.map λkv=>(kV kv.1,kv.2)) ws->∃rs,Carries Cu! ws rs/\KV kvs rs
 | [],_,r=>by rw[FL] at r;cases r;exact⟨[],True.intro,O!⟩
 | p::kvs,_,r=>by rw[AK] at r;cases r with | @cons a b as bs h t =>obtain⟨rs,c,q⟩:=Rf (P:=P) (w:=w) t;obtain⟨b1,b2⟩:=b;exact⟨(p.1,b2)::rs,Bq! (Mw h.1) c,l! (v4 h.2) q⟩
def Jmw(dw:H? (TE×TE)):TE:=λσ H Q=>∀p,V? p->Zu dw σ (h! p (.dK [])) λps H2=>M! H2 p (.dK [])/\∃kvs:Sc,ps=kvs.map (λkv=>(kV kv.1,kv.2))/\kvs.length<=15/\Ei! (upd H2 p (.dK (Lh [] kvs)))
theorem Jin(h:pB X pos keys values dw)(gW:keys.all (·.isSome)=true)(hl:keys.length=values.length)(h0:keys≠[])(h15:keys.length<=15):Rs .Dict keys values (Jmw dw):=by
 intro AA s σ H Q I q;have hn:=I.DM.fresh (ZG s.heap.objs.size);have I1:=I.laid (a:=s.heap.objs.size) (o:=.dK []) (h':=AD! (CS! "dict" (.dict #[]))) (t':=s.toks) (Kq!) A? (Ze s.heap I.big);refine wpAny_Dict_walk (knd:=Bu X.prog X.w) gW hl h0 h15 (DZ (h AA _ σ _ _ I1 (q _ hn)) ?_);rintro ws s2 ⟨ps,H2,I2,rel,e,kvs,ep,lk,q2⟩;subst ep;obtain⟨rs,c,rk⟩:=Rf (P:=X.prog) (w:=X.w) rel;obtain⟨z,hd,vs0,r0,dd⟩:=Zd I2.DM e;cases r0;refine⟨rs,c,dd,λh' YC hs=>KH! ?_ q2⟩;have hz:xL (Lh [] kvs).length:=by have h1:=K6 kvs [];rw[CA] at h1;rw[DB];lia
 have he:∃q,FE! s.heap.objs.size q:=let⟨q,_,_,hq,_⟩:=YC;IR!;exact G9 I2 Ma! hs he (uO hz hd (rk.merge O!) YC)
structure M1(X:A!)(o:Expr)(m:Str)(apos:Pos)(e:Expr)(HZ:Pos):Prop where
 base:Jc! m
 jw:((backTo HZ (starEach [e] X.env)).all (λx=>! x.1)&&(backToKw HZ (keywordEach [] X.env)).all (λx=>x.1.isSome)
  && R! (([e]:A1!).length+([]:C7!).length+Em! ([]:C7!).isEmpty 0 1<30))=true
 line:LS!
 trees:backTo HZ (K6! [e])=[(false,JN!)]
structure M2(X:A!)(o:Expr)(m:Str)(apos:Pos)(e f:Expr)(HZ:Pos):Prop where
 base:Jc! m
 jw:((backTo HZ (starEach [e,f] X.env)).all (λx=>! x.1)&&(backToKw HZ (keywordEach [] X.env)).all (λx=>x.1.isSome)
  && R! (([e,f]:A1!).length+([]:C7!).length+Em! ([]:C7!).isEmpty 0 1<30))=true
 line:LS!
 trees:backTo HZ (K6! [e,f])=[(false,JN!),(false,EZ! f)]
def kM(H:Hp)(a:Addr):Prop:=(∃kvs,HW!)\/∃kvs,Rd H a (.dT kvs)
theorem Wp(I:B!)(d:kM H a) : Hu! w!/\(∀b,HZ!=.ref b->∃ob,IN s.heap.get? ob/\ob.dict=none)/\J9!:=by
 rcases d with⟨kvs,e⟩|⟨kvs,e⟩;.obtain⟨_,hd,vs,_,dd⟩:=BG!;refine⟨dd.typeIs,λb q=>?_,hd⟩;cases q;obtain⟨ob,_,_,h1,h2,_⟩:=dd;exact⟨ob,h1,h2.2.1⟩
 .obtain⟨_,hd,xs,_,dd⟩:=Bz!;refine⟨dd.typeIs,λb q=>?_,hd⟩;cases q;obtain⟨ob,_,_,h1,h2,_⟩:=dd;exact⟨ob,h1,h2.2.1⟩
universe S
theorem Jl8(hu:BK!)(I:B!)(g:Fy!)(ry:R?)(h:Gd! Bt! (o.getD .FH)) : Fo! "dict.get" [am,u]:=by
 rcases g with⟨kvs,k,e,ey,l⟩|⟨kvs,k,b,e,ey,eb,l⟩;.subst ey;obtain⟨z,hd,vs,rel,dd⟩:=BG!;refine JH! (PySem.F.args_dict_get_2 _ _) (meets_dict_get F8! a CF! hd) ⟨_,dd.mapOf,I8!⟩;rw[l];exact Kr! rfl
 .subst ey;cases EG!;obtain⟨z,hd,xs,rel,dd⟩:=Bz!;refine JH! (PySem.F.args_dict_get_2 _ _) (meetsH_dict_get (tupleKind (Bu X.prog X.w)) a b hd) ⟨FA hu,k,xs,Jy I.DM eb,dd,I8!⟩;rw[l];exact Kr! rfl
theorem Jl7(hu:BK!)(I:B!)(g:Fy!)(ry:R?)(rd:N? d r)(h:Gd! Bt! (o.getD d)) : Fo! "dict.get" [am,u,r]:=by
 rcases g with⟨kvs,k,e,ey,l⟩|⟨kvs,k,b,e,ey,eb,l⟩;.subst ey;obtain⟨z,hd,vs,rel,dd⟩:=BG!;refine JH! (PySem.F.args_dict_get_3 _ _ _) (meets_dict_get_default F8! a CF! hd r) ⟨_,dd.mapOf,I8!⟩;rw[l];exact Kr! rd
 .subst ey;cases EG!;obtain⟨z,hd,xs,rel,dd⟩:=Bz!;refine JH! (PySem.F.args_dict_get_3 _ _ _) (meetsH_dict_get_default (tupleKind (Bu X.prog X.w)) a b hd r) ⟨FA hu,k,xs,Jy I.DM eb,dd,I8!⟩;rw[l];exact Kr! rd
universe E
def Jk3(td ty:TE):TE:=Fd! (∃a,J?/\kM H1 a/\Dl! (∃o,DQ H2 a y o/\Q (o.getD .FH) H2))
inductive Jkc(ty tx:TE)(x:V)(H1:Hp)(σ:St)(Q:VK):Prop
 | mk (a) (e0:J?) (e1:kM H1 a) (e2:Dl! (tx σ H2 λz H3=>∃o,DQ H3 a y o/\Q (o.getD z) H3))
def Jk2(td ty tx:TE):TE:=Fd! (Jkc ty tx x H1 σ Q)
def Jkz(td ty:TE):TE:=Fd! (∃a,J?/\kM H1 a/\Dl! (∃kvs k v,z? H2 (.dK kvs)/\y=kV k/\FW!/\Q v (upd H2 a (JO! .dK))))
universe S
theorem Jfu(hu:AU!)(ho:AX!)(he:Lp!)(m:M1 X o "get" apos e HZ):EB! "get" [e] (Jk3 td ty):=by intro AA s σ H Q I h;refine Jt! FR PySem.F.type_dict_get;rintro u s1 ⟨x,H1,I1,rx,a,ex,d,q1⟩;subst ex;obtain rfl:k?:=rx;obtain⟨t1,t2,_⟩:=Wp I1 d;refine Ip!;rw[m.trees];refine JZ! (λiv s2 ⟨y,H2,I2,ry,ov,g,q2⟩=>LN ?_);exact Gi! Jl8 (Ew! ⟨_,H2,I3,QL,q2⟩)
theorem Hx(hu:AU!)(ho:AX!)(he:Lp!)(hf:g! f tx)(m:M2 X o "get" apos e f HZ):EB! "get" [e,f] (Jk2 td ty tx):=by intro AA s σ H Q I h;refine Jt! FR PySem.F.type_dict_get;rintro u s1 ⟨x,H1,I1,rx,a,ex,d,q1⟩;subst ex;obtain rfl:k?:=rx;obtain⟨t1,t2,_⟩:=Wp I1 d;refine Ip!;rw[m.trees];refine JZ! (λiv s2 ⟨y,H2,I2,ry,q2⟩ =>IL (DZ (hf AA s2 σ H2 _ I2 q2) λfv s3 ⟨z,H3,I3,rz,ov,g,q3⟩=>LN ?_));exact Jl7 hu I3 g ry rz λw' s4 I4 QL=>⟨_,H3,I4,QL,q3⟩
theorem X7(ho:AX!)(he:Lp!)(m:M1 X o "pop" apos e HZ):EB! "pop" [e] (Jkz td ty):=by intro AA s σ H Q I h;refine Jt! K_ PySem.F.type_dict_pop;rintro u s1 ⟨x,H1,I1,rx,a,ex,d,q1⟩;subst ex;obtain rfl:k?:=rx;obtain⟨t1,t2,_⟩:=Wp I1 d;refine Ip!;rw[m.trees];refine JZ! (λiv s2 ⟨y,H2,I2,ry,kvs,k,v,ea,ey,l,q2⟩=>LN ?_);subst ey;exact Jnv I2 ea ry l ww (Ew! ⟨v,_,I3,QL,q2⟩)
universe E
universe S
variable {X:Cx Kx}{AA:List (Addr×Obj)}{σ:St}{H:Hp}{s:Shared}{a:Addr}{kvs:List (Key×V)}{A:Around}{E:Value->Shared->Prop}
universe E
universe S
variable {X:Cx Kx}{AA:List (Addr×Obj)}{σ:St}{H:Hp}{s:Shared}{a:Addr}{y:V}{u:Value}{A:Around}{E:Value->Shared->Prop}
universe E
universe E L2
universe N HT
open PySem PyProof.Rows
def lexLt:X!->X!->Bool
 | [],[]=>false
 | [],_::_=>true
 | _::_,[]=>false
 | x::xs,y::ys=>if x=y then lexLt xs ys else R! (x<y)
theorem HE(x y:Int)(xs ys:X!):lexLt (x::xs) (y::ys)=if x=y then lexLt xs ys else R! (x<y):=rfl
theorem NF:lexLt [] []=false:=rfl
theorem Qv(y:Int)(ys:X!):lexLt [] (y::ys)=true:=rfl
theorem Qw(x:Int)(xs:X!):lexLt (x::xs) []=false:=rfl
theorem Jg8(A:Around)(s:Shared)(a:Int)(t:Tok)(c:Int)(u:Tok):∃e,SeqAt.EqAt A s (E! a t) (E! c u) e/\(e=true↔a=c) :=⟨(a==c),SeqAt.EqAt.int_int a t c u,B?⟩
theorem Jff(A:Around)(s:Shared)(a:Int)(t:Tok)(c:Int)(u:Tok)(prog:Program)(w:World)(E:N!)(Q:N!)(h:Q (C? (decide (a<c))) s) : DZ! richCompare .Lt (E! a t) (E! c u) :=(PyProof.Rows.lt_int h:DZ! compareOp .Lt (E! a t) (E! c u))
universe S
open PySem.SeqAt
open PySem.AutoSeq1 (wpAny_loadPart')
open PySem.MeetsSeq PySem.MeetsSeq2 PySem.MeetsSeq3
theorem Ro(l b:Addr)(items LJ:db)(n n2:Nat)(dd tL:DH!)(sl cW:Array (Option Value))(ns ms:X!)(hi:Be! items.toList)(hj:An! LJ.toList ms) : Meets (C6! Builtin.«tuple.__lt__» [K! l,AK!]) (λ_ R s=>C8! l { cls:=MD!,dict:=dd,data:=B3! items,slots:=sl }/\IN s.heap.get? { cls:=MD!,dict:=tL,data:=.seq LJ n2,slots:=cW } /\ R (.ok (.ret (C? (lexLt ns ms)))) s) :=.of_wp λprog w A R s h=>by obtain⟨hp,g,d,tk,os⟩:=s;obtain⟨hl,hb,h⟩:=h;have f2:=AutoSeq1.sub_tuple_tuple;(have z1:items.size=ns.length:=by rw[<-hi.length];simp);(have z2:LJ.size=ms.length:=by rw[<-hj.length];simp);wp_walk using wpAny_loadPart' hl,wpAny_loadPart' hb,RS _ (λrest b s'=>b.1=none/\s'=Jn!/\∃(vs ws:F!)(U_ h_:X!),rest=vs.zip ws /\ An! vs U_/\An! ws h_/\U_.length+LJ.size=h_.length+items.size/\R (.ok (.ret (C? (lexLt U_ h_)))) Jn!) _;(case turn =>rintro⟨y,x⟩ rest b s' ⟨IM,rfl,vs,ws,U_,h_,hz,q_,oR,hlen,hR⟩;cases q_ with | nil=>rw[List.zip_nil_left] at hz;cases hz | cons a t vQ =>cases oR with | nil=>rw[List.zip_nil_right] at hz;cases hz | cons c u vP =>rw[List.zip_cons_cons] at hz;injection hz with hyx my;injection hyx with hy hx;subst hy hx;rw[HE] at hR;simp only[BL] at hlen;obtain⟨e,he,k_⟩:=Jg8 A.in1 Jn! a t c u;refine ZR (he prog w _ _ ?_);cases e with | true =>rw[AE (k_.mp rfl)] at hR;wp_walk;exact⟨rfl,rfl,_,_,_,_,my,vQ,vP,H!,hR⟩ | false =>rw[AB (λq=>BW! (k_.mpr q) AY)] at hR;have hri:=Jff A.in1 Jn! a t c u prog w;wp_walk using hri;exact m? (by simpa using hR));(case fin =>rintro⟨b1,b2⟩ s' ⟨IM,rfl,vs,ws,U_,h_,hz,q_,oR,hlen,hR⟩;simp only at IM;subst IM;(have hv:lexLt U_ h_=decide (items.size<LJ.size):=by cases q_ with | nil =>(cases oR with | nil =>simp only[CA] at hlen;rw[NF];exact(decide_eq_false C!).symm | cons c u hw =>simp only[CA,BL] at hlen;rw[Qv];exact(decide_eq_true C!).symm) | cons a t hv =>cases oR with | nil =>simp only[CA,BL] at hlen;rw[Qw];exact(decide_eq_false C!).symm | cons c u hw =>rw[List.zip_cons_cons] at hz;cases hz);rw[hv] at hR;wp_walk;exact m? (by simpa [Builtin.Tuple.tupleCompareSizes] using hR));case h =>exact⟨rfl,rfl,items.toList,LJ.toList,ns,ms,rfl,hi,hj,H!,h⟩
universe E
universe S
variable {prog:Program}{w:World}{A:Around}{E:Value->Shared->Prop}{s:Shared}
theorem VU(hl:IsTup s.heap l items)(hb:IsTup s.heap b LJ)(hi:Be! items.toList)(hj:An! LJ.toList ms)(hu:KM!)(h:Lo! lexLt ns ms):DZ! compareOp .Lt (P! l) DA!:=by obtain⟨⟨cls,dd,data,sl⟩,ho,hc,n,hd⟩:=id hl;obtain⟨⟨JOV,tL,data2,cW⟩,jf,ri,n2,hd2⟩:=id hb;simp only at hc hd ri hd2;subst hc hd ri hd2;exact richCompare_meets_room (op:=.Lt) (Bb! ho) (Bb! jf) PySem.F.slot_tuple_lt PySem.F.entry_tuple_lt (PySem.F.args_tuple_lt_2 _ _) (Ro l b items LJ n n2 dd tL sl cW ns ms hi hj) ⟨ho,jf,show Value.bool (lexLt ns ms)≠Value.notImplemented/\Lo! lexLt ns ms from⟨(λx=>nomatch x),h⟩⟩ hu
def TK(n d:Nat):Q?->Nat
 | none=>d
 | some v=>if v<0 then(v+A6!).toNat else min v.toNat n
theorem WT(n d k:Nat):TK n d (some (c? k))=min k n:=by show(if c? k<0 then(c? k+A6!).toNat else min (k:Int).toNat n)=min k n;rw[LM!,C_]
universe E
universe E HT
universe N L2
open PySem PySem.Spec PyProof.Rows
abbrev TO:=Hv! (BS! Q?)
def PO(X:A!)(e:XV Expr)(t:TO):Prop :=
 ∀(AA:G!)(s:Shared)(σ:St)(H:Hp)(Q:BS! Q?),E3! (t σ H Q ->
  KA! (evalPart e X.env) (λu s'=>∃o H',AW!/\IsPart u o/\Q o H'))
def Jmu(t:TE):TO:=Ee! t (∃i,C1!/\Q (some i) H1)
theorem intsAre_of{ns:X!}:∀{us:F!},EW! GA!->Be! us:=by induction ns with | nil=>intro us r;rw[FL] at r;cases r;exact O! | cons n ns ih =>intro us r;rw[AK] at r;cases r with | cons r1 r2 =>obtain⟨t,e⟩:=r1;subst e;exact l! n t (ih r2)
universe S
variable {X:Cx Kx}{e:Expr}{te:TE}{lo hi:Option Expr}{tl th:TO}{pos p2:Pos}
theorem Jb7(h:B1!):PO X (some e) (Jmu te):=by intro AA s σ H Q I hw;rw[evalPart_some];refine Op Ii!;rintro u s1 ⟨x,H1,I1,r1,q1⟩;obtain⟨i,rfl,q⟩:=q1;obtain⟨t,rfl⟩:=r1;exact⟨U! i,H1,I1,E! i t,q⟩
def SlR(X:A!)(r:V->Q?->Q?->CY!):Prop :=
 ∀(AA:G!)(s:Shared)(σ:St)(H:Hp)(x:V)(v vl vu:Value)(lo hi:Q?)(sl:Addr)(Q:VK),F5! (s.heap.IsSliceOf sl vl vu L!) (IsPart vl lo->IsPart vu hi->r x lo hi H Q ->
  ∃T id,typeLookup (G? T) "__getitem__"=pure (H2! id)/\s.TypeIs v T/\T0 (getItem v (P! sl)))
def tSl(r:V->Q?->Q?->CY!)(te:TE)(tl th:TO):TE:=Ee! te (f? tl (λl H2=>th σ H2 λu H3=>r x l u H3 Q))
theorem Jfs{r:V->Q?->Q?->CY!}(hr:SlR X r)(he:B1!)(hl:PO X lo tl)(hu:PO X hi th):Rs Bm! e (.Slice lo hi none p2) (tSl r te tl th):=by intro AA s σ H Q I h;refine MB! Subscript_ he;rintro v s1 ⟨x,H1,I1,r1,q1⟩;refine wpAny_Slice (DZ (L1! hl q1) λvl s2 ⟨l,H2,I2,pl,q2⟩=>LH! hu s2 I2 (λvu s3 ⟨u,H3,I3,pu,q3⟩=>?_));rw[evalPart_none];refine ZS ?_;have I4:IR H3 { s3 with heap:=KY! s3.heap.push "slice" (#[vl,vu,L!]) }:=I3.kept (t':=s3.toks) λb ob q=>ZT _ q;obtain⟨T,id,hT,ht,hg⟩:=hr AA { s3 with heap:=KY! s3.heap.push "slice" (#[vl,vu,L!]) } σ H3 x v vl vu l u s3.heap.objs.size Q I4 r1 (Heap.IsSliceOf.new ..) pl pu q3;show Co! (subscriptTail e (.Slice lo hi none p2) v (P! s3.heap.objs.size)) (EP X AA σ Q) { s3 with heap:=KY! s3.heap.push "slice" (#[vl,vu,L!]) };exact tail_any (ops:=[K! s3.heap.objs.size,v]) ht hT hg (by with_unfolding_all rfl)
def K0(xs:D!)(lo hi:Q?):D!:=(xs.drop (HT.TK xs.length 0 lo)).take (G3! xs.length hi-G3! 0 lo)
theorem Zg(xs:D!)(lo hi:Q?):(K0 xs lo hi).length<=xs.length:=by unfold K0;rw[CD,List.length_drop];lia
universe E
def iD(n:Nat)(i:Int):XV Nat:=if 0<=i then(Ey! (i<n) (U! i.toNat)) else Ey! (-A6!<=i) (U! (i+n).toNat)
def QO{α:Type}(xs:I!)(i:Int):XV α:=(iD xs.length i).bind λj=>CK!
theorem Jjk(h:iD n i=some j):seqIndex? i n=some j/\j<n/\-A6!<=i/\i<n:=by
 unfold iD at h;by_cases h0:0<=i;.rw[AE h0] at h;by_cases h1:i<n;(.rw[AE h1] at h;have e:i.toNat=j:=ZO h;exact⟨U? (seqIndex_of h0 h1) e,H!,H!,h1⟩);.rw[AB h1] at h;cases h
 .rw[AB h0] at h;by_cases h1:-A6!<=i;(.rw[AE h1] at h;have e:(i+n).toNat=j:=ZO h;exact⟨U? (seqIndex_neg (H!) h1) e,H!,h1,H!⟩);.rw[AB h1] at h;cases h
theorem Jc0(h:IB!):∃j,seqIndex? i xs.length=some j/\CK!=some v/\C9!/\-c? xs.length<=i/\KW!:=by unfold QO at h;cases e:iD xs.length i with | none=>rw[e] at h;cases h | some j =>rw[e] at h;obtain⟨h1,h2,h3,h4⟩:=Jjk e;exact⟨j,h1,h,h2,h3,h4⟩
theorem Jj4{α:Type}{xs:I!}{j:Nat}{v:α}(h:CK!=some v):QO xs (c? j)=some v:=by
 have hj:C9!:=(ZJ h).1;have e:iD xs.length (c? j)=some j:=by unfold iD;rw[AE (H!),AE (H!)];simp
 unfold QO;rw[e];exact h
def Jka(b:Expr):Prop:=∀o i,subscripted b false o i=operate [o,i] (getItem o i)
def uP(X:A!)(r:R2):Prop :=
 ∀(value slice:Expr)(AA:G!)(s:Shared)(σ:St)(H:Hp)(x y:V)(v u:Value)(Q:VK),F5! R? (r x y H Q ->
  subscripted slice false v u=operate [v,u] (getItem v u)->T0 (subscriptTail value slice v u))
def pD(X:A!)(id:String)(r:B4!):Prop :=
 ∀(AA:G!)(s:Shared)(σ:St)(H:Hp)(x:V)(xs:D!)(v:Value)(us:F!)(Q:VK),F5! TD (r x xs H Q ->
  T0 (call (BT! id) (v::us)))
universe S
variable {X:Cx Kx}{a b:Expr}{ta tb:TE}{pos:Pos}
theorem Aw{r:R2}(hr:uP X r)(ha:Ev)(hb:sw)(hs:Jka b:=by exact λ_ _=>rfl):Rs Bm! a b (NZ r ta tb):=KP! (Subscript_ (Jo! tZ (hr a b AA s2 σ H2 x y v u Q I2 rx ry q (hs _ _))))
inductive Jof(K:W.Frag)(x:V)(y:V)(H:Hp)(Q:VK):Prop
 | mk (p xs i v) (e0:x=K! p) (e1:y=z! i) (e2:FT! DW) (e3:IB!) (e4:Q v H)
def Jpg(K:W.Frag):R2:=IG! Jof
inductive Joe(K:W.Frag)(x:V)(y:V)(H:Hp)(Q:VK):Prop
 | mk (p xs i v) (e0:x=K! p) (e1:y=z! i) (e2:FT! CS) (e3:IB!) (e4:Q v H)
def P9(K:W.Frag):R2:=IG! Joe
theorem Dg{X:A!}:uP X (Jpg Kx):=by
 intro value slice AA s σ H x y v u Q I rx ry h hs;obtain⟨p,xs,i,z,rfl,rfl,hq,he,q⟩:=h;cases rx;obtain⟨t,rfl⟩:=ry;obtain⟨its,r,pl,hz⟩:=DV!;obtain⟨j,h1,h2,h3,h4,h5⟩:=Jc0 he;obtain⟨w,ew,QL⟩:=r.get h2;have hl:=r.length;have hn:=V9;have fin:Hb! w:=⟨z,H,I,QL,q⟩;by_cases h0:0<=i;·(have hj:i.toNat=j:=by rw[seqIndex_of h0 h5] at h1;exact ZO h1);exact item_listR pl.isList h0 C! (by rw[hj];simpa using ew) fin hs
 ·(have hj:(i+c? its.toArray.size).toNat=j:=by rw[seqIndex_neg (H!) h4] at h1;rw[BG,<-hl];exact ZO h1);exact subscriptTail_builtinR (x:=w) pl.isList.typeIs slot_list_getitem.lookup (wpAny_getItem_list_neg (Q:=λr s'=>r=w/\EP X AA σ Q r s') pl.isList C! (by rw[BG]<;>lia) C! (by rw[hj];simpa using ew) (v4 fin)) hs
theorem Ar{X:A!}:uP X (P9 Kx):=by intro value slice AA s σ H x y v u Q I rx ry h hs;obtain⟨p,xs,i,z,rfl,rfl,hq,he,q⟩:=h;cases rx;obtain⟨t,rfl⟩:=ry;obtain⟨its,r,pl,hz⟩:=DW!;obtain⟨j,h1,h2,h3,h4,h5⟩:=Jc0 he;obtain⟨w,ew,QL⟩:=r.get h2;have hl:=r.length;have hn:=V9;have fin:Hb! w:=⟨z,H,I,QL,q⟩;exact subscriptTail_builtinR (x:=w) pl.typeIs slot_tuple_getitem.lookup (getItem_tuple (j:=j) (Q:=λr s'=>r=w/\EP X AA σ Q r s') pl C! C! (by rw[BG,<-hl];exact h1) (by simpa using ew) (v4 fin)) hs
theorem U4(lo hi:Q?)(n:Nat):(sliceBounds lo hi none n).1=xz (HT.TK n 0 lo)/\(sliceBounds lo hi none n).2.1=xz (HT.TK n n hi)/\(sliceBounds lo hi none n).2.2=1:=by
 refine⟨?_,?_,rfl⟩;.cases lo with | none=>simp[sliceBounds,HT.TK] | some i =>simp only[sliceBounds,HT.TK,Option.getD_none,show c? 1 > 0 by decide,H_];by_cases h:i<0;(.simp only[h,H_]<;>lia);.simp only[h,EK]<;>lia
 .cases hi with | none=>simp[sliceBounds,HT.TK] | some i =>simp only[sliceBounds,HT.TK,Option.getD_none,show c? 1 > 0 by decide,H_];by_cases h:i<0;(.simp only[h,H_]<;>lia);.simp only[h,EK]<;>lia
theorem Rp(its:F!)(lo hi:Q?):slicePick its.toArray lo hi none=((its.drop (HT.TK its.length 0 lo)).take (HT.TK its.length its.length hi-HT.TK its.length 0 lo)).toArray:=by obtain⟨h1,h2,h3⟩:=U4 lo hi its.toArray.size;unfold slicePick;rw[h1,h2,h3];simp only[sliceRange_one,pick_run,BG]<;>rfl
inductive Jpd(K:W.Frag)(x:V)(lo:Q?)(hi:Q?)(H:Hp)(Q:VK):Prop
 | mk a xs (_:J?) (_:AR!) (_:EI! (.BE (K0 xs lo hi)))
theorem Jh4{X:A!}:SlR X (Jpd Kx):=by intro AA s σ H x v vl vu lo hi sl Q I rx hs pl pu h;obtain⟨a,xs,rfl,hx,q⟩:=h;cases rx;obtain⟨its,r,ht,hz⟩:=I.list hx;have hlen:=r.length;refine⟨p?,_,slot_list_getitem.lookup,ht.isList.typeIs,?_⟩;refine wpAny_getItem_list_slice ht.isList hs pl pu L! Y! ?_ (by rw[BG]<;>lia);rw[Rp,<-hlen];refine KH! (I.laid (t':=s.toks) (o:=.BE (K0 xs lo hi)) (λb ob q=>ZT _ q) A? ?_) (q _ HD!);exact⟨AV (Zg xs lo hi) hz,_,0,(r.drop (HT.TK xs.length 0 lo)).take (G3! xs.length hi-G3! 0 lo),s?⟩
inductive K8(K:W.Frag)(xs:D!)(H:Hp)(Q:VK):Prop
 | mk p ys (_:xs=[K! p]) (_:(DW K H p ys\/CS K H p ys)) (_:Q (E! ys.length) H)
theorem Bq{X:A!}:KF! "len" (K8 Kx):=by
 intro AA s σ H xs us Q I r h;obtain⟨p,ys,rfl,hq,q⟩:=h;obtain⟨u,rfl,rx⟩:=Db!;cases rx;have hn:=V9;rcases hq with hq|hq;.obtain⟨its,r',pl,hz⟩:=DV!;have hlen:=r'.length;exact Calls.call_len_list pl.isList (by simp only[BG]<;>lia) ⟨z! ys.length,H,I.tok _,⟨s.toks+1,U? BG hlen⟩,q⟩
 .obtain⟨its,r',pl,hz⟩:=DW!;have hlen:=r'.length;exact len_tuple pl (by simp only[BG]<;>lia) ⟨z! ys.length,H,I.tok _,⟨s.toks+1,U? BG hlen⟩,q⟩
inductive Rn(K:W.Frag)(xs:D!)(H:Hp)(Q:VK):Prop
 | mk p ys (_:xs=[K! p]) (_:((DW K H p ys/\∀l,FM!->W? l (h! l FZ!))\/(CS K H p ys/\Ei! H)))
theorem Eb{X:A!}:Lx! BQ! (Rn Kx):=by
 intro AA s σ H xs us Q I r h;obtain⟨p,ys,rfl,h⟩:=h;obtain⟨u,rfl,rx⟩:=Db!;cases rx;rcases h with⟨hq,q⟩|⟨hq,q⟩;.obtain⟨its,r',pl,hz⟩:=DV!;have hlen:=r'.length;refine call_tuple_list pl.isList (λh' kp=>?_) (by simp only[BG]<;>lia);have I1:FI!:=I.kept (t':=s.toks) kp;have I2:DE! h'.objs.size FZ! (BV! (h'.push (CS! BQ! (.seq its.toArray)))) :=GO! I1.laid s.toks (Ay!) (show DV X.prog X.w _ _ _ FZ! from⟨hz,its,r',IsTup.new _ _⟩);exact Cb! h'.objs.size _ I2 (q _ HE!)
 .obtain⟨its,r',pl,hz⟩:=DW!;exact call_tuple_same pl (Cb! p H I q)
def qE(K:W.Frag)(T:String)(x:V)(H:Hp):Prop:=match x with
 | .str _=>T="str"
 | .int _=>T="int"
 | .ref p=>(T=p?/\∃xs,FT! DW)\/(T=BQ!/\∃o,Ao! K.lookup p/\Kj!/\o.dict=none) \/
  (T="dict"/\((∃kvs,FX! p)\/∃kvs,WP p (.dT kvs)))\/(T="set"/\∃S n,DG! (.set S n))
 | _=>False
theorem Jes{X:A!}(I:B!)(r:N? x v)(ty:qE Kx T x H) : s.TypeIs v T/\∀a,v=am->∃ob,FP! ob/\ob.dict=none:=by cases x with | str z =>obtain⟨t,rfl⟩:=r;cases (show T="str" from ty);exact⟨typeIs_str s z t,λ_ e=>Ev!⟩ | int i =>obtain⟨t,rfl⟩:=r;cases (show T="int" from ty);exact⟨typeIs_int s i t,λ_ e=>Ev!⟩ | ref p =>cases r;rcases ty with⟨rfl,xs,hq⟩|⟨rfl,o,hk,hc,hd⟩|⟨rfl,hk⟩|⟨rfl,S,n,hk⟩;(.obtain⟨its,_,pl,_⟩:=DV!;refine⟨pl.isList.typeIs,λa e=>?_⟩;cases e;obtain⟨o,n,e,c,hd,_⟩:=pl;exact Tk hd);(.refine⟨At (I.TL p o hk) hc,λa e=>?_⟩;cases e;exact At (I.TL _ o hk) hd);(·(have z:∃o,Ao! s.heap.get? p/\o.ExactDict:=by rcases hk with⟨kvs,hk⟩|⟨kvs,hk⟩;(.obtain⟨_,_,_,_,o,_,_,e,ex,_⟩:=I.DM p _ hk;exact Tk ex);.obtain⟨_,_,_,_,o,_,_,e,ex,_⟩:=I.DM p _ hk;exact Tk ex);obtain⟨o,e,ex⟩:=z;refine⟨Tk ex.1,λa e2=>?_⟩;cases e2;exact Tk ex.2.1);.obtain⟨o,_,_,_,e,ex,_⟩:=I.DM p _ hk;refine⟨Tk ex.1,λa e2=>?_⟩;cases e2;exact Tk ex.2.1 | _=>exact KX! ty
inductive Joc(K:W.Frag)(T:String)(r:B4!)(x:V)(H1:Hp)(Q:VK):Prop
 | mk  (e0:qE K T x H1) (e1:r x [] H1 Q)
def Jot(K:W.Frag)(T:String)(r:B4!)(to:TE):TE:=Ee! to (Joc K T r x H1 Q)
inductive Jp0(K:W.Frag)(T:String)(r:B4!)(t:TA)(σ:St)(x:V)(H1:Hp)(Q:VK):Prop
 | mk  (e0:qE K T x H1) (e1:f? t (λxs H2=>r x xs H2 Q))
def tBM(K:W.Frag)(T:String)(r:B4!)(to:TE)(t:TA):TE:=Ee! to (Jp0 K T r t σ x H1 Q)
variable {o e:Expr}{es:List Expr}{to:TE}{t:TA}{name:Str}{apos HZ:Pos}{T id:String}{r:V->List V->Hp->VK->Prop}
theorem Le{X:A!}(pa:PlainAttrs T)(slot:Slot T name id)(rD:typeOf (BT! id)=pure (G? "method_descriptor"))(hm:pD X id r)(ho:g! o to)(aK:Jc! name:=by rfl)(aJ:LS!:=by rfl):EB! name [] (Jot Kx T r to):=by intro AA s σ H Q I h;refine wpAny_Call_method0_late aK aJ MY!;rintro v s1 ⟨x,H1,I1,r1,ty,q1⟩;obtain⟨h1,h2⟩:=Jes I1 r1 ty;exact⟨T,id,pa,slot,rD,h1,h2,FV rfl (PySem.evalArgs_none (hm AA s1 σ H1 x [] v [] Q I1 r1 O! q1))⟩
theorem Fk{X:A!}(pa:PlainAttrs T)(slot:Slot T name id)(rD:typeOf (BT! id)=pure (G? "method_descriptor"))(hm:pD X id r)(ho:g! o to)(ha:B8!)(aK:Jc! name:=by rfl)(vY:((backTo HZ (starEach Am! X.env)).all (λx=>! x.1)&&(backToKw HZ (keywordEach [] X.env)).all (λx=>x.1.isSome) && R! ((e::es).length+([]:C7!).length+Em! ([]:C7!).isEmpty 0 1<30))=true:=by rfl)(aJ:LS!:=by rfl)(hs:BP!:=by rfl)(VS:MS! HZ es:=by rfl) : EB! name Am! (tBM Kx T r to t):=by intro AA s σ H Q I h;refine wpAny_Call_method_late aK vY aJ rfl MY!;rintro v s1 ⟨x,H1,I1,r1,ty,q1⟩;obtain⟨h1,h2⟩:=Jes I1 r1 ty;refine⟨T,id,pa,slot,rD,h1,h2,?_⟩;have hA:=ha HZ AA s1 σ H1 _ I1 q1;rw[hs] at hA ⊢;refine FV (by show d? (false || h? (backTo HZ (starEach es X.env)).any);rw[VS]<;>rfl) (HU ?_);exact DZ hA λus s2 ⟨vs,H2,I2,r2,q2⟩=>hm AA s2 σ H2 x vs v us Q I2 r1 r2 q2
universe E
def fj(X:A!)(id:String)(r:B4!):Prop :=
 ∀(AA:G!)(s:Shared)(σ:St)(H:Hp)(x:V)(xs:D!)(v:Value)(us:F!)(Q:VK),F5! TD (r x xs H Q ->
  T0 (call (BT! id) (v::us)))
theorem Vals.one{x:V}{us:F!}(h:EW! [x]):∃u,us=[u]/\A8!:=by cases h with|cons r t=>cases t;exact m? r
theorem Vals.zero:∀{us:F!},EW! []->us=[]
 | _,.nil=>rfl
theorem Vals.dropLast(h:TD):Vals xs.dropLast us.dropLast:=by induction h with | nil=>exact O! | cons r t ih =>cases t with | nil=>exact O! | cons q t'=>exact sB r
theorem Ja0(l:I!):l.eraseIdx (l.length-1)=l.dropLast:=by grind
universe S
variable {X:Cx Kx}{AA:List (Addr×Obj)}{σ:St}{H:Hp}{s:Shared}{l b:Addr}{xs ys zs:List V}
theorem Inv.cK{its its':F!}{n:Nat}{f:db->db}{t':Nat}(I:B!)(hH:D3!)(e:C8! l (L5! (B3! its.toArray)))(hf:f its.toArray=its'.toArray)(hv:Vals ys its')(hz:ys.length<=sizeLine) : IR (h! l (.BE ys)) { s with heap:=s.heap.update l (Obj.mapSeq f),toks:=t' }:=by have q:=PySem.IsL.update e f;rw[hf] at q;refine I.write (x:=l) (e:=l) (q! hH trivial) ww (λb' u hb hu=>(DC s.heap (Obj.mapSeq f) (Ne.symm hb)).trans hu) (i! q) ?_;exact⟨hz,its',_,hv,q⟩
theorem Inv.gP(I:B!)(hv:Vals ys its)(hz:ys.length<=sizeLine) : DE! s.heap.objs.size (.BE ys) { s with heap:=AD! (MV! its.toArray),toks:=t' } :=I.laid (Kq!) A? ⟨hz,its,0,hv,s?⟩
theorem Inv.fresh(I:B!):FN!:=De!
theorem Inv.VI(I:B!)(hH:D3!):SB/\∃(its:F!)(n:Nat),Dw!/\xs.length=its.length/\C8! l (L5! (B3! its.toArray)):=by obtain⟨z,its,n,r,e⟩:=I.DM l _ hH;exact⟨z,its,n,r,r.length,e⟩
theorem Yf(h:n<=sizeLine):Builtin.List.listTooLong n=false:=by unfold Builtin.List.listTooLong;exact decide_eq_false (H!)
universe E
universe S
variable {X:Cx Kx}
inductive Jhv  (x:V) (vs:D!) (H:Hp) (Q:VK):Prop
 | mk (l xs y) (e0:E7!) (e1:vs=[y]) (e2:D3!) (e3:xs.length<sizeLine) (e4:K1! .FH (.BE (xs++[y])))
def Jii:B4!:=λx vs H Q=>Jhv  x vs H Q
theorem Ea:fj X "list.append" Jii:=by intro AA s σ H x vs v us Q I rx rv h;obtain⟨l,xs,y,rfl,rfl,hH,hz,q⟩:=h;cases rx;obtain⟨u,rfl,ru⟩:=rv.one;obtain⟨z,its,n,r,hl,e⟩:=I.VI hH;refine call_meets F.slot_list_append Lk! F.entry_list_append (F.args_list_append_2 _ _) (PySem.list_append l its.toArray n u (AE! BG)) (E? e);refine KF .FH _ (I.cK (its':=its++[u]) hH e Y! (r.append (l! ru O!)) ?_) q;rw[ZE,D_];lia
inductive Jih(x:V)(vs:D!)(H:Hp)(Q:VK):Prop
 | mk l b xs zs (_:E7!) (_:vs=[AK!]) (_:D3!) (_:e? (.BE zs)) (_:xL (xs.length+zs.length)) (_:K1! .FH (.BE (xs++zs)))
theorem Ko:fj X "list.extend" Jih:=by
 intro AA s σ H x vs v us Q I rx rv h;obtain⟨l,b,xs,zs,rfl,rfl,hH,hB,hz,q⟩:=h;cases rx;obtain⟨u,rfl,ru⟩:=rv.one;cases ru;obtain⟨z,its,n,r,hl,e⟩:=I.VI hH;obtain⟨z2,PX,n2,r2,hl2,e2⟩:=I.VI hB;have hsz:xL (its.toArray.size+PX.toArray.size):=by rw[BG,BG];lia
 have aH:¬(!its.toArray.isEmpty&&Builtin.List.listTooLong (its.toArray.size+PX.toArray.size))=true:=E0! (Yf hsz) Bool.and_false AY
 refine call_meets F.slot_list_extend Lk! F.entry_list_extend (F.args_list_extend_2 _ _) (AutoSeq1.list_extend_list_list_0 l its.toArray n b PX.toArray n2 aH (AE! BG) C!) (BZ! e e2);refine KF .FH _ (I.cK (its':=its++PX) hH e Y! (r.append r2) ?_) q;rw[ZE];lia
inductive Jpe(x:V)(vs:D!)(H:Hp)(Q:VK):Prop
 | mk l xs y (_:E7!) (_:vs=[]) (_:D3!) (_:xs[xs.length-1]?=some y) (_:K1! y (.BE xs.dropLast))
theorem uK:fj X "list.pop" Jpe:=by
 intro AA s σ H x vs v us Q I rx rv h;obtain⟨l,xs,y,rfl,rfl,hH,hy,q⟩:=h;cases rx;have oS:=rv.zero;subst oS;obtain⟨z,its,n,r,hl,e⟩:=I.VI hH;obtain⟨u,hu,ru⟩:=r.get hy;have eS:its.toArray[its.toArray.size-1]?=some u:=by show its.toArray[its.length-1]?=some u;rw[<-Array.getElem?_toList,<-hl];exact hu
 refine call_meets F.slot_list_pop Lk! F.entry_list_pop (F.args_list_pop_1 _) (MeetsSeq.list_pop_last l its.toArray n u eS (AE! BG)) (E? e);refine⟨y,_,I.cK (its':=its.dropLast) hH e ?_ r.dropLast ?_,ru,q⟩;.show its.toArray.eraseIdxIfInBounds (its.toArray.size-1)=its.dropLast.toArray;rw[BG,List.eraseIdxIfInBounds_toArray,Ja0]
 .rw[List.length_dropLast];lia
inductive Jpj(x:V)(y:V)(H:Hp)(Q:VK):Prop
 | mk l b xs zs (_:E7!) (_:y=AK!) (_:D3!) (_:e? (.BE zs)) (_:xL (xs.length+zs.length)) (_:EI! (.BE (xs++zs)))
theorem Jll:BH! .Add Jpj:=by
 intro AA s σ H x y v u Q I rx ry h;obtain⟨l,b,xs,zs,rfl,rfl,hH,hB,hz,q⟩:=h;cases rx;cases ry;obtain⟨z,its,n,r,hl,e⟩:=I.VI hH;obtain⟨z2,PX,n2,r2,hl2,e2⟩:=I.VI hB;refine PySem.P.add_list e e2 ?_ (by rw[BG,BG];lia);have ea:its.toArray++PX.toArray=(its++PX).toArray:=B?
 rw[ea];exact Cb! _ _ (I.gP (t':=s.toks) (r.append r2) (AE! ZE)) (q _ I.fresh)
universe E
universe S
universe E
universe S
variable {X:Cx Kx}
universe E
universe E L2
universe N Att
open PySem PySem.W PySem.Calls PyProof.Rows
theorem O3:∀(ns:X!)(vs:F!),WellAll P h vs (ns.map WData.int)->Dm!:=by intro ns;induction ns with | nil =>intro vs w;rw[FL] at w;cases w;exact O! | cons n ns ih =>intro vs w;rw[AK] at w;cases w with | cons a b =>cases a;exact l! _ _ (ih _ b)
theorem Jdg{l:OpenLaw}{n:Nat}(hn:l.most=U! n){P:Params}{h:Heap}{args:List WData}{vals:F!}(cL:l.row.toRowW.claim.pre args=true)(jZ:WellAll P h vals args) : ∃a vs ns,vals=[HZ!]/\args=[WData.list (ns.map WData.int)]/\ca F6!/\Dm!/\KR!:=by
 have rK:WShape.hasAll [] args [.list E!]=true:=(pre_splitW cL).1;have hc:l.pre.holds [] { args:=args }=true:=(pre_splitW cL).2;obtain⟨d,r,rfl,h1,h2⟩:=hasAllW_cons rK;obtain rfl:=hasAllW_nil h2;obtain⟨xs,rfl,h3⟩:=hasW_list h1;obtain⟨ns,rfl⟩:=items_int h3;have hlen:KR!:=by unfold OpenLaw.pre at hc;(have h4:(WTm.not (.lt (.lit (E! A6!)) (.len (.arg 0)))).holds [] { args:=[.list (ns.map E!)] }=true:=by have h4:=(holds_andW hc).1;rw[hn] at h4;exact h4);have h5:=condW_of h4 (w_not (w_lt w_lit (w_len_list (w_arg rfl))));rw[ZA] at h5;refine Nat.le_of_not_lt λq=>?_;(have q':A6!<xz ns.length:=H!);first | (rw[decide_eq_true q'] at h5;exact J8! absurd h5) | (simp at h5;lia)
 cases jZ with | cons w1 w2 =>cases w2;cases w1 with | list ho gW=>exact⟨_,_,ns,rfl,rfl,ho,O3 ns _ gW,hlen⟩
theorem Jdm(l:OpenLaw)(args:List WData):l.row.toRowW.claim.post args Fv! args=true :=postW_of (r:=l.row.toRowW) (X:=(true==true)) (show WShape.has [] Fv! C?=true by first|rfl|decide|simp[WShape.has,WShape.arms,WShape.armsAll]) (show(WTm.eq .res (.lit (C? true))).value [] { args:=args,res:=Y? C? true,after:=args }=some (C? (true==true)) from w_eq_bool (w_res rfl) w_lit) rfl
theorem UP{l:OpenLaw}{n:Nat}{q:Program}{loose:T!}{XP:DD! (V!)}{YP:DD! World}{d:DefRec}(hn:l.most=U! n)(jo:d.params.defaults=[])(call:∀(w:World) (II EH:Shared) (mg mb:V!) (fa:Addr) (o:Obj) (pm cd doc:Value) (a:Addr) (vs:F!) (ns:X!),Ground q loose [] XP w II mg mb EH.heap->YP w EH.heap -> Ao! EH.heap.get? fa->o.data=.func (docDef d.name d.params d.body d.scope pm cd doc)->EH.heap.CodeRec cd d.name->M! mg d.name FH! -> z? EH.heap.get? F6!->Dm!->KR!->EH.gens=#[] -> Hi! l.prog callerA (.call FH! (Ak! K?)) (λr s'=>r=Ib! Fv!/\OldK EH.heap s'.heap/\s'.os=EH.os/\Dq!) EH) : WalkO q loose XP YP l.row.toRowW d [] (λf vs=>PySem.call f vs):=by intro w II EH mg mb G Y fa o pm cd doc dV kV ho hd XB hD hmg hg args vals as cL JOR hrd jZ hlo;obtain rfl:dV=L!:=Dflts.none hD jo;obtain rfl:kV=L!:=Dflts.noKw hD;obtain⟨a,vs,ns,rfl,rfl,gU,hints,hlen⟩:=Jdg hn cL jZ;refine enter_call (IJ (call w II EH mg mb fa o pm cd doc a vs ns G Y ho (fd_plain hd) XB hmg gU hints hlen hg) λr s' hq=>?_);obtain⟨rfl,h2,h3,h4⟩:=hq;exact⟨O? ⟨C? true,C? true,[],rfl,λ_=>rfl,C? true,Jdm l _,λ_=>⟨List.Pairwise.nil,λ_ hm=>(nomatch hm)⟩⟩,h2,h3,h4⟩
universe S
variable {prog:Program}{w:World}{A:Around}{E:Value->Shared->Prop}{s:Shared}{K:Frag}
def ledger(h:Heap)(L d:Addr):G!:=(List.range h.objs.size).filterMap λa=>if a=L\/a=d then none else(h.get? a).map λo=>(a,o)
universe E
universe E Att
universe N L2
open PySem PySem.Spec PyProof.Rows
theorem R0{vs:F!}{ns:X!}(p:Dm!):Vals GA! vs:=by induction p with | nil=>exact O! | cons n t _ ih=>exact sB ⟨t,rfl⟩
def pI(H:Hp):Prop:=∀b,k!\/∃o xs,e? (.GV o (.BE xs))
theorem Jgo{P:Program}{w:World}{K:W.Frag}{mg mb:V!}{CX:YG}{k:Nat}{fa a:Addr}{fd:FuncData}{x:Str}{sp:Sp}{EH:Shared}{vs:F!}{ns:X!}(KX:K.In EH.heap)(yM:GM! EH.heap.Ns)(hb:EH.heap.Ns builtinsNs mb)(hbb:∀x:Str,E6!->mb x=bootBuiltins x)(vX:EH.heap.NoLimit)(hg:EH.gens=#[])(ha:z? EH.heap.get? F6!)(hi:Dm!)(hl:ns.length<=sizeLine)(hr:DP k callerA)(F:∀base:Heap,K.In base->GM! base.Ns->ET P w K mg base CX k fa fd [x] sp)(m4:∀(s:Shared) (u:Value),JC! (Ak! [u]) [(x,u)])(aw:∀H:Hp,pI H->DW K H a GA!->sp K? H (λv _=>v=.bl true) EH!)(sI:∀H e s',CX [] H EH (EH!) e s'->False) : Hi! P callerA (.call FH! (Ak! K?)) (λr s'=>r=Ib! Fv!/\OldK EH.heap s'.heap/\s'.os=EH.os/\Dq!) EH:=by
 have rv:=R0 hi;have vH:=hi.length;have core:∀H:Hp,pI H->DW K H a GA!->MM P w H EH.heap->(∀b,H b≠none->b=a)->(H a≠none->W! K.lookup a) -> Hi! P callerA (.call FH! (Ak! K?)) (λr s'=>r=Ib! Fv!/\OldK EH.heap s'.heap/\s'.os=EH.os/\Dq!) EH:=by intro H hO hS DM hA hK;have WW:∀{b:Addr} {o:Obj},x! EH.heap.get?->k!->x! (Ws EH.heap H).get?:=λe n=>Jgu e n;(have jQ:∀{b:Addr} {o:Obj} {es:AQ!} {ep:Nat},x! EH.heap.get?->CE!->k!:=λ{b o es ep} e d=>by cases q:H b with | none=>rfl | some u =>have e':b=a:=hA b (Kh!);subst e';rw[ha] at e;cases e;have d':Data.seq vs.toArray _=Data.dict es ep:=d;cases d');have oF:∀{b:Addr} {m:V!},EH.heap.Ns b m->(Ws EH.heap H).Ns b m:=λ{b m} ⟨o,es,ep,e,d,r⟩=>⟨o,es,ep,WW e (jQ e d),d,r⟩;have yd:K.In (Ws EH.heap H):=T? (WW (Z? KX) (by cases q:H b with | none=>rfl | some u =>have e':b=a:=hA b (Kh!);subst e';rw[hK (Kh!)] at e;cases e));have hM:Mod K mg (Ws EH.heap H):=⟨yd,oF yM,⟨mb,oF hb,hbb⟩,let⟨mc,h1,h2⟩:=vX;⟨mc,oF h1,h2⟩⟩;have e0:VQ P w K mg (Ws EH.heap H) callerA [] EH H:=⟨rfl,hM,T? (Ji9 e),Nat.le_of_eq (Jd2 _ _),trivial,M? (Lc! (show b∈([]:J!) from hb)),DM,.of_eq hg⟩;refine IJ ((F _ yd (oF yM)).run callerA [] EH H (Ak! K?) K? K? _ _ hr e0 (m4 EH w!) (D1! rfl) (aw H hO hS)) λr s' h=>?_;cases r with | error e=>exact(sI H e s' h).elim | ok fl =>cases fl with | next=>exact K7! | brk=>exact K7! | cont=>exact K7! | ret u =>obtain⟨v,H',os,bare,un,vU,r',q⟩:=h;have q':v=.bl true:=q;subst q';obtain rfl:u=Value.bool true:=r';refine⟨rfl,OldK.of_keep (T? ?_),os,bare⟩;cases q:H b with | none=>exact un.keep b o e q (by intro z;exact Lc! (show b∈([]:J!) from z)) Y! | some u =>rcases hO b with z|⟨ob,xs,z⟩;(.rw[q] at z;cases z);.have z2:=un.NM b ob _ z;obtain⟨e1,_⟩:=DM b _ z;obtain⟨e2,_⟩:=vU b _ z2;rw[e] at e1;cases e1;exact e2
 cases hk:K.lookup a with | some o =>have e:=KX a o hk;rw[ha] at e;cases e;refine core (CW!) (λ_=>AP!) (j? ⟨_,vs.toArray,_,hk,rfl,rfl,rfl,E0! BG vH hl,by simpa using rv⟩) (λb u z=>by have z':(none:XV HO)=some u:=z;cases z') (λb z=>Cl! z) λz=>Cl! z | none =>refine core (λb=>Ey! (b=a) (some (.GV F6! (.BE (ns.map V.int))))) (λb=>?_) (Q! (j? ⟨F6!,BD!⟩)) (λb u z=>?_) (λb z=>?_) λ_=>hk;(.by_cases hb:b=a;(.exact y! ⟨_,_,AE hb⟩);.exact Q! (AB hb));(.by_cases hb:b=a;(.have z':=(AE hb).symm.trans z;cases z';subst hb;exact⟨ha,Ax! hl,vs,_,rv,ha⟩);.have z':=(AB hb).symm.trans z;cases z');.by_cases hb:b=a;(.exact hb);.exact BW! (AB hb) z
abbrev KOf{K:W.Frag}{h:Heap}(_:K.In h):W.Frag:=K
theorem cO{l:W.OpenLaw}{n k:Nat}{q:Program}{loose:T!}{XP:DD! (V!)}{YP:DD! World}{d:DefRec}{K:Params->W.Frag}{CX:World->YG}{sp:World->Sp}{x:Str}(hn:l.most=U! n)(cx:n<=sizeLine)(jo:d.params.defaults=[])(hr:DP k callerA)(hY:∀(w:World) (h:Heap),YP w h->(K w.params).In h)(F:∀(w:World) (mg:V!) (fa:Addr) (h:Heap),(K w.params).In h->GM! h.Ns->M! mg d.name FH! -> ∃fd:FuncData,(∀(s:Shared) (u:Value),JC! (Ak! [u]) [(x,u)]) /\ ∀base:Heap,(K w.params).In base->GM! base.Ns->ET l.prog w (K w.params) mg base (CX w) k fa fd [x] (sp w))(aw:∀(w:World) (H:Hp) (a:Addr) (ns:X!),KR!->pI H->DW (K w.params) H a GA!->sp w K? H (λv _=>v=.bl true) EH!)(sI:∀(w:World) (H:Hp) (s:Shared) (e:Value) (s':Shared),CX w [] H s (EH!) e s'->False) : W.WalkO q loose XP YP l.row.toRowW d [] (λf vs=>PySem.call f vs):=by refine Att.UP hn jo λw II EH mg mb fa o pm cd doc a vs ns G Y ho hd XB hmg gU hints hlen hg=>?_;have KX:=hY w _ Y;obtain⟨fd,hb,hF⟩:=F w mg fa _ KX G.T.g hmg;exact Jgo KX G.T.g G.T.b G.T.builtins G.T.nolimit hg gU hints (AV hlen cx) hr hF hb (λH hO hS=>aw w H a ns hlen hO hS) λH e s'=>sI w H EH e s'
def inClass(s:Stmt)(j:Nat):Stmt:=match s with
 | .ClassDef _ _ _ body _ _ _ _ _ _ _=>body.getD j (.Pass ⟨0,0,0,0⟩)
 | _=>.Pass ⟨0,0,0,0⟩
def Ni(s:Stmt):Arguments:=match s with
 | .FunctionDef _ a _ _ _ _ _ _ _ _=>a
 | _=>{ posonlyargs:=[],args:=[],vararg:=none,kwonlyargs:=[],kw_defaults:=[],kwarg:=none,defaults:=[] }
def G8(s:Stmt):Kw!:=match s with
 | .FunctionDef _ _ b _ _ _ _ _ _ _=>b
 | _=>[]
def Ak(s:Stmt):Scope:=match s with
 | .FunctionDef _ _ _ _ _ _ sc _ _ _=>sc
 | _=>{ kind:=.function,names:=[],isGenerator:=false,isCoroutine:=false }
abbrev YZ:YG:=λ_ _ _ _ _ _=>False
abbrev E0:XK:=EH!
theorem Ba:Jf YZ X E0:=λ_ _ _ _ _ _ _ h=>h.elim
structure E'(K:W.Frag)(x qual:Str)(st:Stmt)(f:Addr)(fd:FuncData):Prop where
 ex:∃(oc:Value)(od:DH!)(kV doc pm:Value)(an:DH!)(EB ct:Value)(eD:Array (Option Value)),
  fd=Jw! x (Ni st) Fb! Ep! L!/\M! K.lookup f ⟨oc,od,.func fd,eD⟩/\W.codeIn K EB qual=true
 kp:Fj! W.keepIn
universe S
variable {P:Program}{w:World}{K:W.Frag}{mg:Str->Option Value}{base:Heap}
theorem E'.ok{x qual:Str}{st:Stmt}{f:Addr}{fd:FuncData}{N ps:T!}{k:Nat}{sp:Sp}(F:Gm!)(S:Jp!)(len:He!)(UL:∀(EB:Value) (A:Around) (outer:P?) (s:Shared) (H:Hp) (vs:D!) (Q:VK) (E:XK),GL! (KI! Ep! EB)->Cn! -> Jg! (PM (Is! YZ).jO Fb! t)):IJ! YZ:=by obtain⟨oc,od,kV,doc,pm,an,EB,ct,eD,rfl,lk,XB⟩:=F.ex;refine Jkm lk XB S len λA outer s H vs Q E hr aw=>?_;obtain⟨t,h,q⟩:=UL EB A outer s H vs Q E hr aw;exact⟨t,h.jO,q⟩
def Bd(P:Program)(w:World)(K:W.Frag)(mg:V!)(base:Heap)(CX:YG)(b:Bool)(N ps:T!)(qual:Str)(st:Stmt)(f:Addr)(k:Nat)(vs:D!)(H:Hp)(Q:VK)(E:XK):Prop :=
 vs.length=ps.length/\∀(EB:Value)(A:Around)(outer:P?)(s:Shared),GL! (KI! Ep! EB) ->
  Jg! (PM (bif b then(Is! CX).jO else Is! CX) Fb! t)
theorem E'.JJ{x qual:Str}{st:Stmt}{f:Addr}{fd:FuncData}{N ps:T!}{k:Nat}{sp:Sp}(F:Gm!)(S:Jp!)(h:∀vs H Q E,Cn!->Bd P w K mg base YZ true N ps qual st f k vs H Q E):IJ! YZ :=F.ok S (λvs H Q E z=>(h vs H Q E z).1) λEB A outer s H vs Q E hr z=>(h vs H Q E z).2 EB A outer s hr
theorem E'.binds{x qual:Str}{st:Stmt}{f:Addr}{fd:FuncData}{ps:T!}(F:Gm!)(h:∀(kV doc pm:Value) (an:DH!) (EB ct:Value) (us:F!),us.length=ps.length->bindArgs (Jw! x (Ni st) Fb! Ep! L!) FU!=pure GQ!):Binds K fd ps []:=by obtain⟨oc,od,kV,doc,pm,an,EB,ct,eD,rfl,lk,XB⟩:=F.ex;exact .all (h kV doc pm an EB ct)
universe E
theorem Ci(hr:Dh!):BK!:=JQ (Nat.add_le_add_left (r?:1<=64) _) hr.units
theorem Be(h:n<=1000):n<sizeLine:=J8! JQ h
universe S
variable {X:Cx Kx}
theorem pv(i:Nat)(hN:Bx!:=by rfl)(hv:MF! tT:=by first|exact Or.inl rfl|exact Or.inr (Or.inl rfl)|exact Or.inr (Or.inr rfl))(hd:UF:=by decide)(XB:d? (x==("__classdict__":Str)):=by decide):g! Ff! (Ca i):=Jld hN hv hd XB
inductive Jbb(xs:D!)(H:Hp)(Q:VK):Prop
 | mk a kvs (_:xs=[V.ref a]) (_:Do!) (_:Q (E! kvs.length) H)
theorem Oi:KF! "len" Jbb:=by intro AA s σ H xs us Q I r h;obtain⟨a,kvs,rfl,ha,q⟩:=h;obtain⟨u,rfl,ru⟩:=Db!;cases ru;exact Jnw I (Q! ha) λt s' I'=>⟨z! kvs.length,H,I',⟨t,rfl⟩,q⟩
universe E
theorem Bx{A B:Prop}(h:B):if false=true then A else B:=S! (AB AY) h
theorem Cc{A B:Prop}(h:A):if true=true then A else B:=S! BD! h
theorem Wo{c A B:Prop}[Decidable c](h1:c->A)(h2:¬c->B):if c then A else B:=by
 by_cases h:c;.rw[AE h];exact h1 h
 .rw[AB h];exact h2 h
def Bl(H H':Hp):Prop:=KB! H (x! H')
universe S
variable {κ:Type}[DecidableEq κ]
theorem Gy:∀{l:List κ} {k:κ},l.Nodup->¬k∈l->(l++[k]).Nodup
 | [],k,_,_=>B?
 | a::r,k,h,hk=>by obtain⟨h1,h2⟩:=AN.mp h;show(a::(r++[k])).Nodup;refine AN.mpr ⟨FB!,Gy h2 λm=>hk (BV.mpr (Or.inr m))⟩;rcases ZI m with q|q;(.exact h1 q);.exact hk (BV.mpr (Or.inl (ZK q).symm))
theorem Jeb{p:κ×V}{r:j!}{k:κ}(e:Db):D7 (p::r) k=D7 r k:=by unfold D7;rw[DH,AB (En!)]
theorem Ts{p:κ×V}{r:j!}{k:κ}(e:¬Db):D7 (p::r) k=p::D7 r k:=by unfold D7;rw[DH,AE (En!)]
theorem Re:∀{kvs:j!} {k:κ},¬k∈h? kvs.map->D7 kvs k=kvs
 | [],_,_=>rfl
 | p::r,k,h=>by (have h':¬k∈h? r.map:=λm=>by obtain⟨q,hq,e⟩:=ZN m;exact h (AF.mpr ⟨q,BV.mpr (Or.inr hq),e⟩));rw[Ts λe=>h (AF.mpr ⟨p,BV.mpr (Or.inl rfl),e⟩),Re h']
universe E
universe E L2
set_option maxHeartbeats 4000000
universe N FX
open PySem PySem.Spec PyProof.Rows L2
inductive KD(K:W.Frag)(H:Hp):I? V PyData
 | FH:AN! .FH L!
 | bl (b:Bool):AN! (.bl b) (C? b)
 | int (i:Int):AN! (E! i) (E! i)
 | str (x:Str):AN! (u? x) (u? x)
 | A_ {a:Addr} {xs:D!} {ds:Kx!}:AS!->xs.length=ds.length->(∀(j:Nat)(x:V)(d:PyData),G5! (ds[j]?) d (AN! x d))->AN! w! (.tuple ds)
inductive Rep(K:W.Frag)(H:Hp):I? V PyData
 | one {x:V} {d:PyData}:AN! x d->Rep K H x d
 | BE {a:Addr} {xs:D!} {ds:Kx!}:AR!->bv (KD K H) xs ds->Rep K H w! (.list ds)
theorem Az{xs:I!}{ys:SZ}(p:AY!):∀(j:Nat)(x:α)(y:β),G5! (ys[j]?) y (R x y):=by induction p with | nil=>intro j x y h;simp at h | cons r _ ih =>intro j x y h h';cases j with | zero=>cases h;cases h';exact r | succ j=>exact ih j x y h h'
theorem E8{xs:I!}{ys:SZ}(hl:xs.length=ys.length)(h:∀(j:Nat) (x:α) (y:β),G5! (ys[j]?) y (R x y)):AY!:=by induction xs generalizing ys with | nil=>(cases ys with|nil=>exact O!|cons=>cases hl) | cons x xs ih=>cases ys with | nil=>cases hl | cons y ys=>exact l! (h 0 x y rfl rfl) (ih (Nat.succ.inj hl) λj=>h (j+1))
theorem KD.tupP{K:W.Frag}{H:Hp}{a:Addr}{xs:D!}{ds:Kx!}(h:AS!)(r:bv (KD K H) xs ds):AN! w! (.tuple ds) :=.A_ h (Paired.length r) λj x d e1 e2=>Az r j x d e1 e2
structure B_(H H':Hp):Prop where
 A_:∀a xs,J0! a .A_->z? H' AT!
 GV:∀a o u,cr ut->z? H' ut
theorem B_.refl(H:Hp):B_ H H:=⟨KJ!,λ_ _ _ e=>e⟩
theorem B_.trans(a:B_ H H1)(b:B_ H1 H2):B_ H H2:=⟨λc xs e=>b.A_ c xs (a.A_ c xs e),λc o u e=>b.GV c o u (a.GV c o u e)⟩
theorem HC(s:Bl H H'):B_ H H':=⟨λa xs e=>s a _ e,λa o u e=>s a _ e⟩
theorem B_.sq{K:W.Frag}{H H':Hp}(k:B_ H H'){a:Addr}{xs:D!}(h:AS!):CS K H' a xs:=by
 rcases h with(e|⟨o,e⟩)|z;.exact Q! (Q! (k.A_ a xs e))
 .exact Q! (j? (jp (k.GV a o _ e)))
 .exact y! z
theorem PJ(h:∀o',DG! o'->(∀xs,o'≠.A_ xs)/\∀b u,o'≠.GV b u):B_ H (h! p o) :=⟨λa xs e=>by (have:a≠p:=λz=>by subst z;exact(h _ e).1 xs rfl);rw[Ab this];exact e,λa b u e=>by (have:a≠p:=λz=>by subst z;exact(h _ e).2 b u rfl);rw[Ab this];exact e⟩
universe S
theorem Oo{xs:D!}{us:F!}{ds:Kx!}(p:TD)(hl:xs.length=ds.length)(f:∀(j:Nat) (x:V) (d:PyData),G5! (ds[j]?) d (∀u,A8!->∃as,Reads h u d as)):∃as,ReadsAll h us ds as:=by induction p generalizing ds with | nil=>(cases ds with|nil=>exact⟨[],O!⟩|cons=>cases hl) | cons r t ih=>cases ds with | nil=>cases hl | cons d ds =>obtain⟨as,r1⟩:=f 0 _ d rfl rfl _ r;obtain⟨bs,r2⟩:=ih (Nat.succ.inj hl) λj=>f (j+1);exact⟨as++bs,l! r1 r2⟩
theorem KD.reads{X:A!}(I:B!)(r:KD Kx H v d):∀u,l?->∃as,Reads s.heap u d as:=by induction r with | FH=>intro u e;cases e;exact i! L! | bl b=>intro u e;cases e;exact i! (C? b) | int i=>intro u e;obtain⟨t,rfl⟩:=e;exact i! (E! i t) | str x=>intro u e;obtain⟨t,rfl⟩:=e;exact i! (u? x t) | A_ h hl _ ih =>intro u e;cases e;obtain⟨its,rv,⟨o,ho,hc,n,hd⟩,_⟩:=I.tuple h;obtain⟨as,ra⟩:=Oo rv hl λj x d e1 e2=>ih j x d e1 e2;exact⟨as,.tuple ho hc hd (by simpa using ra)⟩
theorem Rep.reads{X:A!}(I:B!)(r:Rep Kx H v d)(e:l?):∃as,Reads s.heap u d as:=by cases r with | one r=>exact r.reads I u e | BE h p =>cases e;obtain⟨its,rv,pl,_⟩:=I.list h;obtain⟨o,ho,hc,n,hd⟩:=pl.isList;obtain⟨as,ra⟩:=Oo rv (Paired.length p) λj x d e1 e2=>(Az p j x d e1 e2).reads I;exact i! (.list ho hc hd (by simpa using ra))
def YE(d:PyData):Prop:=IN! 40
inductive Jog(K:W.Frag)(x:V)(y:V)(H:Hp)(Q:VK):Prop
 | mk (d e) (e0:Rep K H x d) (e1:Rep K H y e) (e2:YE d) (e3:YE e) (e4:Q (.bl (PyData.eqv d e)) H)
def Jpi(K:W.Frag):R2:=IG! Jog
inductive Jod(K:W.Frag)(x:V)(y:V)(H:Hp)(Q:VK):Prop
 | mk (d e) (e0:Rep K H x d) (e1:Rep K H y e) (e2:YE d) (e3:YE e) (e4:Q (.bl (! PyData.eqv d e)) H)
def Jpf(K:W.Frag):R2:=IG! Jod
theorem Vs{X:A!}(hu:Dc!):AC! .Eq (Jpi Kx):=by intro AA s σ H x y v u Q I rx ry h;obtain⟨d,e,r1,r2,o1,o2,q⟩:=h;obtain⟨as,g1⟩:=r1.reads I rx;obtain⟨bs,g2⟩:=r2.reads I ry;exact PySem.SeqAt.compareEq_reads g1 g2 o1.1 o2.1 (J6! o1.2) (I0! (.bl _))
theorem Nz{X:A!}(hu:Dc!):AC! .NotEq (Jpf Kx):=by intro AA s σ H x y v u Q I rx ry h;obtain⟨d,e,r1,r2,o1,o2,q⟩:=h;obtain⟨as,g1⟩:=r1.reads I rx;obtain⟨bs,g2⟩:=r2.reads I ry;exact PySem.SeqAt.compareNe_reads g1 g2 o1.1 o2.1 (J6! o1.2) (I0! (.bl _))
theorem Jg7(h:YE d):PyData.eqv d d=true:=PySem.SeqAt.eqv_refl d h.1
theorem Jm(r:Dh!):A.units+64<cLine:=r.units
universe E
def Jh(p d:Addr):HO:=.ext λh=>h.IsValuesView p d
universe S
theorem Jjh{kvs:j!}{vs:Ky!}(p:o?):Vals (kvs.map GM) (vs.map GM):=Jnd (λ_ _ r=>r.2) p
theorem N4:pD X "dict.values" (λx xs H Q=>∃d kvs,x=t?/\xs=[]/\FX! d/\EI! (Jh p d)):=by intro AA s σ H x xs v us Q I rx rs h;obtain⟨d,kvs,rfl,rfl,hd,q⟩:=h;cases rx;cases rs;obtain⟨z,lo,vs,rel,dd⟩:=Zd I.DM hd;refine PySem.call_meetsIn JF dd.typeIs PySem.F.entry_dict_values (PySem.F.args_dict_values_1 _) (meets_dict_values F8! d lo) (E? ⟨vs,dd⟩);have hn:FN!:=De!;refine JV! (Jh s.heap.objs.size d) Ay! ?_ (q _ hn);have g:M! (s.heap.push (Fc! "dict_values")).get? s.heap.objs.size (Fc! "dict_values"):=s?;exact⟨At! _ g rfl,i! g,λh1 h2 ⟨o,e,r⟩ k=>At (k o e) r⟩
inductive Np(xs:D!)(H:Hp)(Q:VK):Prop
 | mk p d kvs (_:xs=[K! p]) (_:DG! (Jh p d)) (_:FX! d) (_:∀l,FM!->W? l (h! l (.BE (kvs.map GM))))
theorem Oh(hc:b?):Lx! p? Np:=by intro AA s σ H xs us Q I r h;obtain⟨p,d,kvs,rfl,hp,hd,q⟩:=h;obtain⟨u,rfl,rx⟩:=Db!;cases rx;obtain⟨z,lo,vs,rel,dd⟩:=Zd I.DM hd;obtain⟨ep,da⟩:=dd.dictAt;have hv:s.heap.IsValuesView p d:=(I.DM p _ hp).1;refine W.kdl_call (W.kdl_values (knd:=Bu X.prog X.w) (r:=p) (d:=d) (kvs:=vs) (ep:=ep)) AZ! ⟨hv,da⟩ (Br! rel.length) λh' tk gk c' kp e ha=>?_;have hn:FN!:=De!;have e1:gk.toList=vs.map GM:=W.kdl_vals_eq gk.toList (q! Cn ha.1) λj v hj=>ha.2 j v (q? Array.getElem?_toList hj);refine KH! (GO! I.laid tk kp (show F1! _ _ (.BE (kvs.map GM)) from⟨Ax! z,gk.toList,c',?_,CO!⟩)) (q _ hn);rw[e1];exact Jjh rel
universe E
universe S
universe E
theorem Ah(hp:V? p):Bl H (h! p o):=CR! (S! (Ab (Aj e hp)) e)
theorem Al(a:Bl H H1)(b:Bl H1 H2):Bl H H2:=λc o h=>b c o (a c o h)
theorem Bw(e:Bl H H')(h:W! H' l):FM!:=by cases q:H l with | none=>rfl | some o=>rw[e l o q] at h;cases h
theorem Gc{xs:I!}{ys:SZ}(j:Nat)(p:AY!):Paired R (xs.eraseIdx j) (ys.eraseIdx j):=Z9 p j
theorem Gx{α β:Type}{R:BL!}{x:α}{y:β}(r:R x y){xs:I!}{ys:SZ}(p:AY!):Paired R (xs++[x]) (ys++[y]):=pM p (D1! r)
theorem Aq{α β:Type}{R S:BL!}(f:I4! (S a b)):∀{xs:I!} {ys:SZ},AY!->bv S xs ys
 | _,_,.nil=>O!
 | _,_,.cons q t=>l! (f _ _ q) (Aq f t)
theorem A8(h0:0<=i)(h:xs[i.toNat]?=some v):IB!:=by have:=Jj4 h;rwa [BK h0] at this
theorem An{α:Type}{xs:I!}{j:Nat}(h:C9!):∃x,CK!=some x:=⟨xs[j],List.getElem?_eq_some_iff.mpr ⟨h,rfl⟩⟩
theorem Jkk(h:∀d∈ds,IN! 20):PyData.canLayAll0 ds=true/\PyData.depthAll ds<=20:=by induction ds with | nil=>exact⟨by simp[PyData.canLayAll0],by simp[PyData.depthAll]⟩ | cons d ds ih =>obtain⟨a,b⟩:=ih λe he=>h e (ZD _ he);obtain⟨c,g⟩:=h d (ZL ..);exact⟨by simp[PyData.canLayAll0,a,c],by simp only[PyData.depthAll];lia⟩
theorem Ju(h:∀d∈ds,IN! 20):YE (.list ds):=by obtain⟨a,b⟩:=Jkk h;exact⟨by simp only[PyData.canLay0];exact a,by simp only[PyData.depth];lia⟩
theorem Hy(h:∀d∈ds,IN! 20):YE (.tuple ds):=by obtain⟨a,b⟩:=Jkk h;exact⟨by simp only[PyData.canLay0];exact a,by simp only[PyData.depth];lia⟩
universe S
universe E
def bF(K:W.Frag)(H:Hp)(a:Addr)(xs:D!):Prop:=(∃o,cr (.GV o (.BE xs)))\/∀H':Hp,DW K H' a xs
theorem bF.sq{K:W.Frag}{H:Hp}{a:Addr}{xs:D!}(h:bF K H a xs):AR!:=h.elim (λ⟨o,e⟩=>Q! (j? (jp e))) λz=>z H
theorem bF.keep{K:W.Frag}{H H':Hp}{a:Addr}{xs:D!}(h:bF K H a xs)(kt:B_ H H'):bF K H' a xs:=h.elim (λ⟨o,e⟩=>O? (jp (kt.GV _ _ _ e))) λz=>y! z
theorem bF.of{K:W.Frag}{H:Hp}{a:Addr}{xs:D!}(hO:pI H)(h:AR!):bF K H a xs:=by
 rcases h with(e|⟨o,e⟩)|z;.rcases hO a with q|⟨o,ys,q⟩;(.rw[q] at e;cases e);.rw[q] at e;cases e
 .exact O? (jp e)
 .exact y! (λH'=>y! z)
theorem Tv{prog:Program}{w:World}{A:Around}{R:o! Result}{s:Shared}{elt target iter:Expr}{ifs:A1!}{scope:Scope}{pos:Pos}{it acc:Value}{env:Env}(J:o! Nat)(turn:∀k s0,J k s0->EF! (pyNext it) (λr s1=>match r with
  | none=>R (.ok .next) s1
  | some v=>EF! (letOwnedTupleGo target it v) (λ_ sg=>EF! (assign target env v) (λ_ s2 =>
   EF! (forIn ifs true λc r=>if r=true then do let ok <-isTrue c env (eval c env);Ia! ok else Ia! r) (λok s3 =>
    if ok=true then EF! (CC! elt) (λx s4 =>
     EF! (call (BT! "list.append") [acc,x]) (λ_ s5=>∃m,m<k/\J m s5) s4) s3
    else ∃m,m<k/\J m s3) s2) sg) s1) s0)(k:Nat)(h:J k s):JL! (.compLoop (.ListComp elt [⟨target,iter,ifs,0⟩] scope pos) 0 it acc env):=by
 refine codeAny_loop rfl J (λk s0 hI=>?_) k h
 show wpAny _ A ((compTurn (.ListComp elt [⟨target,iter,ifs,0⟩] scope pos) 0 it acc env).onRaise (λx=>do noteFrame x env;theTreesLotGoes x)) _ _ s0
 have no:∀{E:N!} (e:Value) (s':Shared),False->notedBy Eq! A env E e s':=λ_ _ z=>z.elim
 refine wpAny_noted ?_
 rw[compTurn_list]
 refine D? wpAny_standAt (ZR (EJ (turn k s0 hI) (λr s1 h1=>?_) no))
 cases r with
 | none=>exact ZS h1
 | some v =>
   refine ZR (EJ h1 (λ_ sg hg=>ZR (EJ hg (λ_ s2 h2=>ZR (EJ h2 (λok s3 h3=>?_) no)) no)) no)
   cases ok with
   | false =>
     simp only[CZ,EK] at h3 ⊢
     exact ZS (v4 h3)
   | true =>
     simp only[H_] at h3 ⊢
     exact D? ZR (EJ h3 (λx s4 h4=>ZR (EJ h4 (λ_ s5 h5=>ZS (ZS (v4 h5))) no)) no)
def NC(X:A!)(sc:Scope)(cl:A2!)(C:Addr)(N:T!)(s1:Shared)(H1:Hp)(fp:J!)(AA:G!):A! where
 prog:=X.prog
 w:=X.w
 mg:=X.mg
 base:=X.base
 A:=X.A
 N:=N
 II:=s1
 QW:=H1
 env:=compEnvC sc cl C X.env
 outer:=X.stack
 stack:=X.stack
 ex:=fp
 fn:=λ_=>false
 calm:=X.calm
 pn:=Es!
 xe:=Ex!
def IC(cells:A2!):SL A2!
 | []=>True
 | (x,c)::r=>CV! cells.lookup/\IC cells r
theorem IC.look{cells:A2!}:∀{cl:A2!} {x:Str} {c:Addr},IC cells cl->CV! cl.lookup->CV! cells.lookup
 | [],_,_,_,e=>by simp at e
 | (y,d)::r,x,c,h,e=>by rw[O_] at e;cases q:x==y with | true =>rw[q] at e;have e1:x=y:=eq_of_beq q;cases e;rw[e1];exact h.1 | false =>rw[q] at e;exact IC.look h.2 e
structure Jko(X:A!)(sc:Scope)(cl:A2!)(p:Str×Nat):Prop where
 n:X.N[p.2]?=some p.1
 k:M! X.env.scope.names.lookup p.1 L?
 l:cl.lookup p.1=X.env.cells.lookup p.1
 f:M! Ek! p.1 L?
def JZ(X:A!)(sc:Scope)(cl:A2!):SL A3!
 | []=>True
 | p::r=>Jko X sc cl p/\JZ X sc cl r
theorem JZ.at{X:A!}{sc:Scope}{cl:A2!}:∀{caps:A3!} {j:Nat} {p:Str×Nat},GE!->caps[j]?=some p->Jko X sc cl p
 | [],_,_,_,e=>by simp at e
 | q::r,0,p,h,e=>by simp at e;subst e;exact h.1
 | q::r,j+1,p,h,e=>JZ.at h.2 (CO!)
abbrev Ef(caps:A3!):T!:=caps.map λp=>p.1
def Dc(σ:L2.St)(caps:A3!):L2.St:=caps.map λp=>(σ[p.2]?).join
universe S
variable {X:Cx Kx}{sc:Scope}{cl:List (Str×Addr)}{AA:List (Addr×Obj)}{σ:L2.St}{H1:Hp}{s1:Shared}{fp:List Addr}{N:List Str}
theorem Jhn(I:EA!)(hf:Kk! H1)(ho:wp (∃o,x! s1.heap.get?))(hk:E9!)(JM:GG!)(has:∀x,(Ix Ek! L?\/K8! Ek!)->∃c,CV! cl.lookup):(NC X sc cl s1.heap.objs.size N s1 H1 fp AA).Ok where
 mod:=I.ok.mod
 kind:=hk
 glob:=I.ok.glob
 blt:=I.ok.blt
 above:=ZG _
 inj:=λx y c e1 e2=>I.ok.inj x y c (JM.look e1) (JM.look e2)
 has:=has
 bw:=λx c e _=>by cases e
 hd:=I.ok.hd
 frames:=I.ok.frames
 cU:=AP!
 XE:=M? ⟨λz=>by
  obtain⟨o,e⟩:=ho b hb
  exact BI Bj! z,λx c e=>I6! (hf b hb).2.2.2.2.1 x⟩
 bs:=T? (I.bs b o e)
 XG:=AV I.ok.XG I.sz
 SJ:=λb o e hb=>by
  rcases(hf b hb).2.2.2.1 with z|z
  .exact I.ok.SJ b o e z
  .exact BE! (CB (CB Bj! I.ok.XG) z)
 RP:=λb hb z=>by
  rcases ZM (I.QY b z) with q|q
  .exact(hf b hb).2.1 q
  .exact(hf b hb).2.2.1 q
 MW:=I.stack
 YT:=M? (I.QH b hb)
theorem Jmc{x:Str}{caps:A3!}{h':Heap}{m:V!}{t':Nat}{o:Obj}(I:EA!)(ok:(MT! s1.heap.objs.size).Ok)(JM:GG!)(OP:GE!)(hx:IO! Ek!)(hn:h'.Ns s1.heap.objs.size m)(hs:JY! s1.heap.objs.size (s1.heap.push o) h') : Inv (MT! s1.heap.objs.size) [] (none::Ce!) H1 { s1 with heap:=h',toks:=t' }:=by
 have kp:MI! s1.heap.get?:=CR! ((hs.2 b (D2! e)).trans (ZT _ e));have ND:A5! s1.heap.objs.size:=De!;refine⟨ok,rfl,I.bare,Un.kept kp,⟨m,hn,λi y v e1 e2 e3=>?_⟩,λy c e=>?_,ND,λy c e=>I6! I.I_ y,A0!,I.DM.kept kp,?_⟩;.cases i with | zero=>simp at e2 | succ j =>have SD:(x::Ea!)[j+1]?=some y:=e1;rw[PD] at SD;(have VB:Kv! ((Dc σ caps)[j]?):=by simpa using e2);rw[ZH] at SD;unfold Dc at VB;rw[ZH] at VB;cases q:caps[j]? with | none=>rw[q] at SD;cases SD | some p =>rw[q] at SD VB;have e4:p.1=y:=ZO SD;have e5:(σ[p.2]?).join=some v:=ZO VB;have hc:=OP.at q;(have e6:Kv! (σ[p.2]?):=by cases z:σ[p.2]? with | none=>rw[z] at e5;cases e5 | some w' =>rw[z] at e5;have:w'=U! v:=e5;rw[this]);obtain⟨mm,jg,hl⟩:=I.loc;obtain⟨u,r,lk⟩:=hl p.2 p.1 v hc.n e6 (j? (Q! hc.k));refine⟨u,r,y! (E? (Q! (q? e4 hc.f)))⟩;rcases lk with⟨k1,_⟩|⟨_,c,YR,ce⟩;(.have:M! X.env.scope.names.lookup p.1 Cq!:=k1;rw[hc.k] at this;cases this);.obtain⟨oc,a7,hd⟩:=ce;exact⟨c,q? e4 (hc.l.trans YR),oc,kp _ _ a7,hd⟩
 .obtain⟨v,oc,a7,hd⟩:=I6! I.cell y;exact⟨v,oc,kp _ _ a7,hd⟩
 .have W_:p∈(Es!)++[]:=hp;rw[AG] at W_;obtain⟨a1,a2,a3,a4,a5⟩:=I.pin p W_;refine⟨kp _ _ a1,a2,BI (AR a1),λz=>?_,a5⟩;rcases ZM (I.QY _ z) with q|q;(.exact a3 q);.exact a4 q
 .simp[Dc,NC]
theorem Jcz{UI:G!}{EV:L2.St}{H':Hp}{s':Shared}(I:EA!)(hf:Kk! H1)(I':Inv (NC X sc cl s1.heap.objs.size N s1 H1 fp AA) UI EV H' s'):AW! :=I.WQ (ch:=fp) I'.os I'.base I'.DM I'.bare (M? ⟨(hf b hb).2.2.2.1,(hf b hb).2.1,(hf b hb).2.2.2.2.1,(hf b hb).2.2.2.2.2⟩)
theorem W8{H':Hp}{s':Shared}{h':Heap}{OJ:L2.St}{sA:Shared}(I:EA!)(I2:Inv X AA OJ H' sA)(hn:W! H' s1.heap.objs.size)(hs:JY! s1.heap.objs.size sA.heap h'):Inv X AA OJ H' { sA with heap:=h' } :=I2.turned (it:=s1.heap.objs.size) (t':=sA.toks) (Go (K4! hs.2)) hn (EA I.lt) (j? I.sz) (λx c e z=>by obtain⟨v,q⟩:=GD!;exact absurd q.lt (S! z (DA _))) λp hp z=>by have:=AR (I.pin p hp).1;rw[z] at this;exact BE! this
universe E
def fg(X:A!)(ifs:A1!)(t:TT):Prop :=
 ∀(AA:G!)(s:Shared)(σ:L2.St)(H:Hp)(Q:AL!),E3! (t σ H Q ->
  Lg! (forIn ifs true λc r=>if r=true then do let ok <-isTrue c X.env (Os c);Ia! ok else Ia! r))
theorem Ip{X:A!}:fg X [] (λ_ H Q=>Q true H):=λAA s σ H Q I h=>wpAny_tests_nil ⟨H,I,h⟩
theorem En{X:A!}{c:Expr}{t:TT}(h:PT X c t):fg X [c] t:=λAA s σ H Q I hw=>wpAny_tests_one (h AA s σ H Q I hw)
def uC(wi:TI)(caps:A3!)(tt:TT)(te:TE):TE:=LQ! wi (λJ H1=>∀p,A5! p->MJ! o0 [] (upd H1 p (.BE [])) (∀i m ys H2,W i m ys H2->Fs! /\
 ((J.stop i H2/\Ei! H2)\/(J.go i H2/\∀x H3,J.TR i H2 x H3->HH! H3 (λb H4 =>
   if b=true then JU! (Cp! Kb! GZ!)
   else Cp! ys H4)))))
universe S
variable {X:Cx Kx}{elt iter:Expr}{x:Str}{px pos:Pos}{ifs:List Expr}{sc:Scope}{cl:List (Str×Addr)}{caps:List (Str×Nat)}{wi:TI}{tt:TT}{te:TE}
theorem Tw{AA:G!}{σ:L2.St}{H:Hp}{s:Shared}{Q:VK}{use:Option (Value->Sem Unit)}{RQ:N!}(hc:b?)(hi:PI X (y? x px) iter wi)(OC:closureFor sc X.env=pure cl)(LR:Kn! L?)(JV:E9!)(LK:∀y∈sc.names,y.2=Cq!->H0! sc.names.lookup)(hx:Dg!)(JM:GG!)(has:∀y,(Dk! L?\/Dk! .free)->∃c,M! cl.lookup y c)(OP:GE!)(hN:(x::Ea!).Nodup)(ht:D7! fg ifs tt)(he:D7! PE elt te)(I:B!)(h:uC wi caps tt te σ H Q)(fin:∀(C D:Addr) (H':Hp) (s1 s':Shared) (H1:Hp),C=s1.heap.objs.size->EA!->AW!->W! H' C->(∃m,s'.heap.Ns C m)->W? D H'->compPost GU! X.A X.xe use RQ A4! C (.ok .next) s')(hs:∀v,JP! v v) : Gq! (comprehension Gb! sc X.env (firstIterPos MW! pos) (newList []) false (Os iter) use) RQ:=by
 refine wpAny_comprehension_free rfl hs OC JV LK (G2! hi (λv s1 h1=>DZ h1 λoQ s2 h2=>?_));obtain⟨it,fp,tn,J,H2,e,I2,T,aW,f2,hW⟩:=h2;subst e;refine EC ?_;have VT:W! H2 s2.heap.objs.size:=I2.DM.fresh (ZG _);have I3:IR (upd H2 s2.heap.objs.size (.BE [])) { s2 with heap:=s2.heap.push IY! }:=I2.gP (t':=s2.toks) (its:=[]) O! (AU _);obtain⟨W,⟨m0,w0⟩,turn⟩:=hW s2.heap.objs.size VT;have sM:wp (b≠s2.heap.objs.size):=λb hb z=>by obtain⟨o,e,_⟩:=T.obj 0 _ aW b hb;exact absurd Bj! (S! z (DA _))
 have f3:Kk! (upd H2 s2.heap.objs.size (.BE [])):=M? ⟨by rw[Ab (sM b hb)];exact(f2 b hb).1,(f2 b hb).2⟩;have cV:tn 0 (s2.heap.push IY!):=T.keep 0 _ _ aW λb hb o e=>Ar!;obtain⟨D,hD⟩:∃D,D=s2.heap.objs.size:=AB!;obtain⟨H3,sE⟩:∃H3,H3=upd H2 s2.heap.objs.size (.BE []):=AB!;obtain⟨s3,eZ⟩:∃s3:Shared,s3={ s2 with heap:=s2.heap.push IY! }:=AB!;have Y_:tn 0 s3.heap:=S! eZ cV
 rw[<-sE] at I3 f3 w0;rw[<-eZ] at I3;rw[<-hD] at turn;show wpAny _ _ _ _ _ ({ s2 with heap:=s2.heap.push IY! }:Shared);rw[<-eZ,<-hD];refine wpAny_newFunctionEnv LR (by intro y hy;simp at hy) (λh1 ji jc=>?_) JV;have ok:=Jhn (N:=x::Ea!) I3 f3 (M? (let⟨o,e,_⟩:=T.obj 0 _ Y_ b hb;jp e)) JV JM has;have eX:IO! Ek!:=lookup_relabel_local hx;have J4:=Jmc (t':=s3.toks+([]:AI!).length) I3 ok JM OP eX ji jc;have jC:tn 0 h1:=T.keep 0 _ _ Y_ λb hb o e=>(jc.2 b (D2! e)).trans (ZT _ e);have QT:∀{H':Hp},(wp pi)->wp (Lp (CI!) [] H' b):=λhn b hb=>by refine⟨hn b hb,?_,λz=>ok.RP b hb z,O? hb,λy c e=>I6! (f3 b hb).2.2.2.2.1 y,A0!⟩;(.exact(ok.XE b hb).1);.have W_:p∈(Es!)++[]:=hp;rw[AG] at W_;exact(f3 b hb).2.2.2.2.2 p W_
 have loop:∀s4:Shared,s4={ s3 with heap:=h1,toks:=s3.toks+([]:AI!).length } -> codeAny GU! X.A (.compLoop Gb! 0 i? A4! (compEnvC sc cl s3.heap.objs.size X.env)) (compPost GU! X.A X.xe use RQ A4! s3.heap.objs.size) s4:=by rintro s4 rfl;refine Tv (λk s'=>∃i v0 ys H',Inv (CI!) [] (v0::Ce!) H' s'/\tn i s'.heap/\Bo! pi/\W i k ys H') ?_ m0 ⟨0,none,[],H3,J4,jC,M? (f3 b hb).1,w0⟩;rintro k s5 ⟨i,v0,ys,H5,I5,YL,VA,w5⟩;obtain⟨hD5,stop|⟨go,step⟩⟩:=turn i k ys H5 w5;(.obtain⟨stop,q⟩:=stop;refine Op (T.done (CI!) rfl rfl hc i [] s5 _ H5 L7! I5 (QT VA) YL stop);rintro r s6 ⟨hr,I6⟩;subst hr;obtain⟨mm,jg,_⟩:=I6.loc;exact fin _ D H5 s3 s6 H3 rfl I3 (Jcz I3 f3 I6) I6.free ⟨mm,jg⟩ q);.refine Op (T.item (CI!) rfl rfl hc i [] s5 _ H5 L7! I5 (QT VA) YL go);rintro r s6 ⟨u,hr,h6⟩;subst hr;refine DZ h6 ?_;rintro _ s7 ⟨y,H7,I7,r7,y7,d0,QN⟩;have uQ:=I7.pinned (QT QN) (T.obj _ _ d0);refine Op (Bk (X:=CI!) (i:=0) hN rfl (Q! eX) (j? eX) _ s7 (v0::Ce!) H7 y u (λEV H'=>EV=U! y::Ce!/\H'=H7) uQ r7 LY!);rintro _ s8 ⟨σ8,H8,I8,e8,tG⟩;subst e8;subst tG;(have back:∀{i7:L2.St} {H9:Hp} {s9:Shared},Inv (CI!) ([]++Ny fp s7.heap) i7 H9 s9->tn (i+1) s9.heap/\wp (AT H9):=λ{i7 H9 s9} I9=>by refine⟨T.keep _ _ _ d0 λb hb o e=>(I9.pin (b,o) (Gu! I5!)).1,Az!⟩;obtain⟨o,e,d⟩:=T.obj _ _ d0 b hb;exact(I9.pin (b,o) (Gu! I5!)).2.1);refine Op (ht _ _ _ _ _ _ s8 _ _ _ I8 (step y _ y7));rintro ok s9 ⟨H9,I9,q9⟩;cases ok with | false =>simp only[CZ,EK] at q9 ⊢;obtain⟨m',hm,w9⟩:=q9;exact⟨m',hm,i+1,U! y,ys,H9,I9.J_,(back I9).1,(back I9).2,w9⟩ | true =>simp only[H_] at q9 ⊢;refine Op (he _ _ _ _ _ _ s9 _ _ _ I9 q9);rintro xv aY ⟨v,bG,uR,qT,gX,JL,m',hm,cS⟩;refine Op (Ea (X:=CI!) _ aY _ bG A4! [v] A4! [xv] (λ_ H'=>H'=upd bG D (.BE Kb!)) uR rfl (D1! qT) ⟨D,ys,v,rfl,rfl,gX,JL,rfl⟩);rintro _ s11 ⟨_,i5,fy,_,j_⟩;subst j_;exact⟨m',hm,i+1,U! y,ys++[v],_,fy.J_,(back fy).1,(back fy).2,cS⟩
 exact codeAny_compStart_list (loop _ rfl) (T.self _ 0 _ _ _ jC (loop _ rfl))
theorem Eo(hc:b?)(hi:PI X (y? x px) iter wi)(OC:closureFor sc X.env=pure cl)(LR:Kn! L?)(JV:E9!)(LK:∀y∈sc.names,y.2=Cq!->H0! sc.names.lookup)(hx:Dg!)(JM:GG!)(has:∀y,(Dk! L?\/Dk! .free)->∃c,M! cl.lookup y c)(OP:GE!)(hN:(x::Ea!).Nodup)(ht:D7! fg ifs tt)(he:D7! PE elt te)(hs:∀v,JP! v v:=by intro _;rfl):g! (.ListComp elt MW! sc pos) (uC wi caps tt te):=by intro AA s σ H Q I h;rw[eval_ListComp];refine Tw (use:=none) hc hi OC LR JV LK hx JM has OP hN ht he I h (?_) hs;rintro C D H' s1 s' H1 hC I1 I' hn ⟨m,hm⟩ q;subst hC;exact⟨m,hm,λh' jd=>Cb! D H' (W8 (s':=s') I1 I' hn jd) q⟩
theorem Kk{i:Nat}{y:Str}{py Y':Pos}(bZ:X.N.Nodup)(TX:X.N[i]?=some y)(hy:M! X.env.scope.names.lookup y Cq!)(rH:swapsWith Gb! (some (y? y py)) Y'.line X.env=pure true)(hc:b?)(hi:PI X (y? x px) iter wi)(OC:closureFor sc X.env=pure cl)(LR:Kn! L?)(JV:E9!)(LK:∀y∈sc.names,y.2=Cq!->H0! sc.names.lookup)(hx:Dg!)(JM:GG!)(has:∀y,(Dk! L?\/Dk! .free)->∃c,M! cl.lookup y c)(OP:GE!)(hN:(x::Ea!).Nodup)(ht:D7! fg ifs tt)(he:D7! PE elt te)(hs:∀v,JP! v v:=by intro _;rfl) :
 PS X (.Assign [y? y py] Gb! Y') (CM! (uC wi caps tt te σ H λv H'=>D.nx HQ! H')):=by
 intro AA s σ H D I h
 rw[exec_Assign_Name_used _ _ _ _ rH]
 refine D? wpAny_standAt (ZR ?_)
 show wpAny _ X.A (do let _ <-comprehension Gb! sc X.env _ (newList []) false (Os iter) (some (assign (y? y py) X.env))) _ _ s
 refine ZR (EJ (Tw (use:=some (assign (y? y py) X.env)) (RQ:=λ_ s'=>SP X AA D .next s') hc hi OC LR JV LK hx JM has OP hN ht he I h (λC Dd H' s1 s' H1 hC I1 I' hn ⟨m,hm⟩ q=>?_) hs) (λ_ s' hq=>ZS (ZS hq)) KJ!)
 subst hC
 show GJ! (assign (y? y py) X.env (P! Dd))
 refine wpAny_assign_Name (Nu I' bZ TX (Q! hy) (Li! (N? (P! Dd) (P! Dd))) (λs2 I2 ⟨a,iE,ha⟩=>?_) (j? hy))
 have sG:s1.heap.objs.size≠a:=by
  rcases ha with z|z
  .rw[z];exact EA I1.lt
  .intro z2
   obtain⟨v,qc⟩:=I1.cell y a z
   exact absurd qc.lt (q? z2 (DA _))
 exact⟨m,hm.sameBut iE sG,λh' jd=>⟨_,H',W8 (s':=s') I1 I2 hn jd,q⟩⟩
universe E
def MX(h:Heap)(d:Addr)(es:AQ!)(ep:Nat):Prop:=∃o,re h.get?/\o.ExactDict/\CE!
theorem MX.at(x:Ca! h)(k:∀o,re h.get?->re h'.get?):Ca! h':=let⟨o,e,r⟩:=x;At (k o e) r
universe S
theorem Xz(nos:FQ!)(hm:AV!)(hQ:W? s.heap.objs.size (BV! (AD! (CS! Gp! (BU! (#[t?,BC! 0,BC! es.size,BC! ep])))))):KC! pyIter DC!:=by obtain⟨ob,g1,g2,g3⟩:=id hm;have tD:Hu! DC!:=⟨ob,g1,g2.1⟩;refine wpAny_pyIter_slot tD F.slot_dict_iter (DL F.slot_dict_iter tD F.entry_dict_iter ?_ (F.args_dict_iter_1 _));unfold Builtin.«dict.__iter__»;refine ZR ?_;unfold Builtin.Dict.dictSlotNone;refine ZR (IY tD ?_);show El! (pure (Value.ref d));refine ZS ?_;show Ft! (Builtin.Dict.showsAll d);unfold Builtin.Dict.showsAll;rw[AB (Kg! nos)];refine LZ!;refine ZR (CK g1 g3 (ZR (EX g1 g3 ?_)));refine D? EC (ZS ⟨_,rfl,Gp!,_,Ll!,F.slot_dict_keyiterator_next.lookup,by simpa [rawInt] using hQ⟩)
theorem Xy(hit:Gk! s.heap.IsKeyIter i)(hm:AV!)(hx:es[i]?=some e)(hQ:∀h',Gk! h'.IsKeyIter No->B9! it->Q (some e.key) d!):I1!:=by
 obtain⟨oi,i1,i2,i3⟩:=id hit;obtain⟨ob,g1,g2,g3⟩:=id hm;have tI:=hit.typeIs;unfold pyNext;refine If! tI IV (DL IV tI F.entry_dict_keyiterator_next ?_ (F.args_dict_keyiterator_next_1 _));refine La! ?_;first|refine HI!|refine HJ!
 refine ZR (wpAny_fieldsOf i1 i3 ?_);have VR:Builtin.Dict_items.ownsTuple Gp!=false:=r?
 simp only[VR,CZ,EK];show El! Hp!;rw[H4!];refine HA! g1 g3;rw[BB!];refine HB! g1 g3;rw[BB!];refine ZS ?_;have lt:i<es.size:=(NB.mp hx).1;have ee:es[i]=e:=(NB.mp hx).2;simp only[Al! Id! H!,EK,C_,Array.getElem?_eq_getElem lt];refine ZR ?_;first|refine HI!|refine HJ!
 refine ZR (wpAny_isOneOf_keyiter tI ?_);show Ft! (Ie! 1 rawInt (c? i+1));refine ZR (wpAny_setField i1 i3 Y! ?_);have k8:Gk! (s.heap.update it (Obj.mapFields (·.setIfInBounds 1 (rawInt ((i:Int)+1))))).IsKeyIter No :=⟨_,GO _ i1 (Obj.isFreed_of_fields (OX i3 _)),(Obj.cls_mapFields ..).trans i2,by rw[OX i3];simp[rawInt]⟩;refine DP! ?_;refine ZR (wpAny_isOneOf_keyiter (s:=BV! (s.heap.update it (Obj.mapFields (·.setIfInBounds 1 (rawInt ((i:Int)+1)))))) k8.typeIs ?_);show GJ! (pure es[i].key);rw[ee];exact ZS (ZS (m? (ZS (hQ _ k8 L0!))))
theorem Jb5(hh:BY!)(hit:Gk! s.heap.IsKeyIter i)(hm:AV!)(hx:es.size<=i)(hQ:∀h',Heap.ExtBut it s.heap h'->Q none d!):I1!:=by
 obtain⟨oi,i1,i2,i3⟩:=id hit;obtain⟨ob,g1,g2,g3⟩:=id hm;have tI:=hit.typeIs;unfold pyNext;refine If! tI IV (DL IV tI F.entry_dict_keyiterator_next ?_ (F.args_dict_keyiterator_next_1 _));refine La! ?_;first|refine HI!|refine HJ!
 refine ZR (wpAny_fieldsOf i1 i3 ?_);have VR:Builtin.Dict_items.ownsTuple Gp!=false:=r?
 simp only[VR,CZ,EK];show El! Hp!;rw[H4!];refine HA! g1 g3;rw[BB!];refine HB! g1 g3;rw[BB!];refine ZS ?_;simp only[Al! Id! H!,EK,C_,Array.getElem?_eq_none hx];refine ZR ?_;first|refine HI!|refine HJ!
 show Ft! (setField i? 0 L!);refine ZR (wpAny_setField i1 i3 Y! ?_);show GJ! (newExc (G? CT!) [] >>= _);refine ZR ?_;simp only[newExc,newTuple];refine ZR (EC ?_ Ka!);refine Ch (firstArgMember _ _) (wpAny_of_eq (a:=Value.none) (by first|rfl|(simp only[firstArgMember];rfl)) ?_);refine EC ?_ (by size_fits);simp only[raiseNew];refine D? wpAny_handled ?_;rw[show A.in1.handled=none from hh];refine D? ZS (wpAny_throw ?_);refine ZR (wpAny_isInstance (T:=CT!) (b:=true) Ll! isSubtype_stop ?_);exact ZS (hQ _ (((Heap.SameBut.update ..).extBut.push _).push _))
universe E
def pF(H:Hp)(kvs:FB)(as:J!):Prop:=Paired (λ(p:List Key×V)(a:Addr)=>cr (Bd! E2!)) kvs as
universe S
theorem Jji{kvs:FB}{xs:D8!}(p:BO!):pF H kvs (xs.map EV!):=Jkh (λ_ _ r=>r.2.1) p
theorem Wx(I:B!)(e:Rd H d (.dT kvs)):Eg!/\FQ!/\∃(es:AQ!)(ep:Nat)(as:J!),AV!/\es.size=kvs.length/\pF H kvs as/\∀j (h:j<es.size),∃a,as[j]?=some a/\es[j].key=.ref a:=by
 obtain⟨z,lo,xs,rel,o,es,ep,g1,g2,g3,g4,g5⟩:=(Al! (DV X.prog X.w H s.heap d B7!) (e.ok I.DM));have hl:es.size=xs.length:=by have:=HL! g4;simpa using this
 refine⟨z,lo,es,ep,xs.map EV!,⟨o,g1,g2,g3⟩,by rw[hl];exact(Paired.length rel).symm,Jji rel,λj h=>?_⟩;have hj:C9!:=H!
 have e1:es.toList[j]?=some es[j]:=by simp[h]
 rw[g4,ZH] at e1;have e2:CK!=some xs[j]:=by simp[hj]
 rw[e2] at e1;refine BZ! xs[j].2.1 (Ks! e2);have e3:entryOfKey (tupleKind (Bu X.prog X.w)) xs[j]=es[j]:=ZO e1;rw[<-e3];rfl
universe E
universe S
theorem Lj(I:B!)(hd:∃o,Bu! o)(nt:∀xs,H d≠Y? .A_ xs)(no:∀y,H d≠Y? .own y)(nf:∀o v,X.QW d≠some (.GV o v))(ntb:∀ps,H d≠Y? .bJ ps)(new:DV X.prog X.w (h! d u) s.heap d u):DE! d u s:=by
 obtain⟨o,hd⟩:=hd;have fr:∀b,k!->AT (h! d u):=λb n=>wv (λz=>by rw[z,hd] at n;cases n) n
 refine⟨I.ok,I.os,I.bare,⟨I.base.keep,I.base.slot,λb ob e n hx=>fr b (Jl! ob),I.base.there,λb xs e=>?_,λb ob v e=>?_,λb ps e=>?_⟩,I.loc,I.cell,fr _ I.free,λy c e=>fr _ (I.I_ y c e),A0!,λb v e=>?_,I.len⟩;.have:=I.base.PR b xs e;rw[Ab λz=>nt xs (Ki! this)];exact this
 .have:=I.base.NM b ob v e;rw[Ab λz=>nf ob v (Ki! e)];exact this
 .obtain⟨more,q⟩:=I.base.PU b ps e;exact⟨more,wv (λz=>ntb _ (Gs! q)) q⟩
 .obtain⟨a1,a2,a3⟩:=Fr!;exact⟨a1,fr _ a2,a3⟩
 .by_cases hb:b=d;(.subst hb;rw[Ac] at e;cases e;exact new);.rw[Ab hb] at e;refine(I.DM b v e).ON (H8!) (λc q=>?_) λc xs q=>?_;(.rw[Ab λz=>no _ (Gs! q)];exact q);.rw[Ab λz=>nt _ (Gs! q)];exact q
theorem Jaw(I:B!)(e:WP d (.dT kvs)):∃o,re s.heap.get?/\DE! d CJ! s:=by
 have ok:=I.DM d _ e;obtain⟨_,_,xs,_,o,es,ep,g,_⟩:=id ok;refine At g (Lj I w? (λxs z=>Ds!) (λy z=>Ds!) (λob v z=>by have:=I.base.NM d ob v z;rw[e] at this;cases this) (λps z=>Ds!) (E? g));refine ok.ON (H8!) (λc q=>?_) λc xs q=>?_;.rw[JS!];exact q
 .rw[JS!];exact q
theorem Yw(I:B!)(e:Bu! ut)(nf:∀o v,X.QW d≠some (.GV o v)):DE! d u s:=by
 obtain⟨g,ok⟩:=KQ! ut e;refine Lj I w? (λxs z=>Ds!) (λy z=>Ds!) nf (λps z=>Ds!) ?_;refine ok.ON (H8!) (λc q=>?_) λc xs q=>?_;.rw[JS!];exact q
 .rw[JS!];exact q
inductive Jn3(QW H H':Hp):Prop
 | mk d o u (_:Bu! ut) (_:(∀o v,QW d≠some (.GV o v))) (_:H'=upd H d u)
theorem PE.VH(h:g! e t):g! e (JK! (λv H1=>∃H2,Jn3 X.QW H1 H2/\Q v H2)):=λAA s σ H Q I hw =>DZ (Ii!) λu s' ⟨v,H1,I1,r,H2,⟨d,o,w',e1,e2,e3⟩,q⟩=>⟨v,H2,S! e3 (Yw I1 e1 e2),r,q⟩
theorem PM.VH(h:PM X G_ t):PM X G_ (CM! (∃H2,Jn3 X.QW H H2/\t D σ H2)):=λAA s σ H D I ⟨H2,⟨d,o,w',e1,e2,e3⟩,q⟩=>by subst e3;exact h AA s σ _ D (Yw I e1 e2) q
universe E
def b_(d:Addr)(kvs:FB)(o:Obj):It :=
 IP! (λi H=>Bu! CJ!/\i<kvs.length) (∃a k v,J?/\kvs[i]?=some EQ/\cr (Bd! k.map)) (λi H=>Bu! CJ!/\kvs.length<=i)
theorem Jda{P:Program}{w:World}{K:W.Frag}{tg:Expr}(d it:Addr)(kvs:FB)(o:Obj)(es:AQ!)(ep:Nat)(ho:o.ExactDict)(hd:CE!)(hz:es.size=kvs.length):Jv! (b_ d kvs o) (Gk! h.IsKeyIter i) where
 mem:=B?
 obj:=KT! (by
  have e:b=it:=WF
  subst e
  obtain⟨oi,e,c,q⟩:=st
  exact⟨oi,e,λv z=>Jz! q⟩)
 keep:=λi h h' ⟨oi,e,r⟩ k=>⟨oi,It! oi e,r⟩
 item:=by
  intro X hP hw hc i AA s σ H E I hf st ⟨hg,hi⟩
  subst hP hw
  obtain⟨f0,f1,f2,f3,f4,f5⟩:=BN!
  have g:re s.heap.get?:=(show DV X.prog X.w H s.heap d CJ! from I.DM d _ hg).1
  obtain⟨_,_,fO,fQ,as,⟨o',g',q1,q2⟩,z',ks,at_⟩:=Wx I (j? (jp hg))
  rw[g] at g';cases g'
  rw[hd] at q2
  injection q2 with q2 q3
  subst q2;subst q3
  have lt:i<es.size:=H!
  obtain⟨a,ha,hk⟩:=at_ i lt
  have hx:kvs[i]?=some kvs[i]:=JM!
  refine Xy st ⟨o,g,ho,hd⟩ (e:=es[i]) (by simp[lt]) λh' RJ sb=>?_
  have I1:FI!:=MX! (λb ob hb e=>K4! sb.2)
  obtain⟨oi,e,c,q⟩:=id RJ
  refine m? (IU! Y2 e c q Bn! (Jh! am hk ⟨rfl,a,kvs[i].1,kvs[i].2,rfl,hx,Az ks i kvs[i] a hx ha⟩))
 done:=by
  intro X hP hw hc i AA s σ H E I hf st ⟨hg,hi⟩
  subst hP hw
  obtain⟨f0,f1,f2,f3,f4,f5⟩:=BN!
  have g:re s.heap.get?:=(show DV X.prog X.w H s.heap d CJ! from I.DM d _ hg).1
  exact Jb5 AZ! st ⟨o,g,ho,hd⟩ C! (Kl! (MX! (λb ob hb e=>eb b ob hb e)))
 self:=IV! wpAny_pyIter_keyiter
universe S
def Jnp(td:TE):TI:=λσ H R=>Ci! td (∃d kvs,x=t?/\M! H1 d B7!/\∀o,R (b_ d kvs o) (upd H1 d CJ!))
theorem Mj{l:Expr}{td:TE}(hl:g! l td):PI X tg l (Jnp td):=by
 intro AA s σ H R I h;refine FY! hl;rintro v s1 ⟨x,H1,I1,r1,d,kvs,ex,hd,hR⟩;subst ex;cases r1;obtain⟨o,g,I2⟩:=Jaw I1 hd;obtain⟨_,lo,es,ep,as,⟨o',g',q1,q2⟩,z,ks,at_⟩:=Wx I1 (Q! hd);rw[g] at g';cases g';refine Xz lo ⟨o,g,q1,q2⟩ ?_;have fresh:=I2.DM.fresh (ZG _);have I3:IR (upd H1 d CJ!) { s1 with heap:=KY! s1.heap.push Gp! (#[t?,BC! 0,BC! es.size,BC! ep]) }:=I2.kept (t':=s1.toks) λb ob e=>Ar!;refine⟨s1.heap.objs.size,[s1.heap.objs.size],_,b_ d kvs o,_,rfl,I3,Jda d _ kvs o es ep q1 q2 z,Ho!,Az!,hR o⟩;have e:b=s1.heap.objs.size:=WF
 subst e;exact I2.UG A? fresh
universe E
universe E FX
universe N FhS
open PySem PyProof.Rows PySem.W
def MY(cmp:Nat->Nat->o! (o! Bool))(lt:Gr!)(n:Nat)(s:Shared):Prop :=
 ∀i j,i<n->j<n->∀C:o! Bool,C (lt i j) s->cmp i j C s
structure mV(lt:Gr!)(n:Nat):Prop where
 tr:∀i j k,i<n->j<n->k<n->Kd!->lt j k=true->lt i k=true
 tot:∀i j,i<n->j<n->i≠j->lt i j=false->lt j i=true
structure Pm(p:BA!)(n:Nat):Prop where
 pm:p.toList.Perm (List.range n)
theorem Pm.size(h:KB):p.size=n:=by have:=h.pm.length_eq;simpa using this
theorem Pm.lt(h:KB)(hi:i<n):p.getD i 0<n:=by
 have hs:=h.size;have TX:i<p.size:=H!
 have e:p.getD i 0=p[i]:=by simp[Array.getD,TX]
 rw[e];have:p[i]∈List.range n:=h.pm.mem_iff.mp (B?);exact BH.mp this
theorem Pm.inj(h:KB)(hi:i<n)(hj:j<n)(e:p.getD i 0=p.getD j 0):i=j:=by
 have hs:=h.size;have TX:i<p.size:=H!
 have bV:j<p.size:=H!
 have nd:p.toList.Nodup:=h.pm.nodup_iff.mpr List.nodup_range;have e1:p.getD i 0=p[i]:=by simp[Array.getD,TX]
 have e2:p.getD j 0=p[j]:=by simp[Array.getD,bV]
 rw[e1,e2] at e;have:=(EE (xs:=p.toList) (i:=i) (j:=j) (h₀:=by simpa using TX) (h₁:=by simpa using bV) nd).mp (CO!);exact this
theorem Pm.WV(h:KB)(hq:q.Perm p):Pm q n:=⟨(Array.perm_iff_toList_perm.mp hq).trans h.pm⟩
theorem Jfq(n:Nat):Pm (List.toArray (List.range n)) n:=⟨B?⟩
def Up(lt:Gr!)(p:BA!)(m:Nat):Prop:=∀i j,i<j->j<m->Lr! KG! j
def Dn(lt:Gr!)(p:BA!)(m:Nat):Prop:=∀i j,i<j->j<m->HV! j
universe S
variable (O:mV lt n)
include O
theorem other(h:KB)(hi:i<n)(hj:j<n)(V':i≠j)(e:lt KG! (p.getD j 0)=false):HV! j :=O.tot _ _ (h.lt hi) (h.lt hj) (λz=>V' (h.inj hi hj z)) e
theorem Up.snoc(h:KB)(h1:1<=a)(ha:a<n)(u:Dt! a)(e:Lr! Hm! a):Up lt p (a+1):=by
 intro i j V' hj;by_cases jk:j=a;.subst jk;by_cases hi:i=j-1;(.rw[hi];exact e);.exact Jj! Ba! (h.lt ha) (u i (j-1) C! (ci (G7! Nat.sub_lt))) e
 .exact u i j V' C!
theorem Dn.snoc(h:KB)(h1:1<=a)(ha:a<n)(u:Dn lt p a)(e:MG! a Hm!):Dn lt p (a+1):=by
 intro i j V' hj;by_cases jk:j=a;.subst jk;by_cases hi:i=j-1;(.rw[hi];exact e);.exact Jj! (h.lt ha) Ba! e (u i (j-1) C! (ci (G7! Nat.sub_lt)))
 .exact u i j V' C!
theorem uN(K:EP!)(h:KB):∀(f a:Nat)(G:o! Nat),1<=a->a+f<=n->Dt! a -> (∀m,a<=m->m<=a+f->Dt! m->(m=a+f\/MG! m (p.getD (m-1) 0))->G m s)->(kas_asc p f a).kasWp cmp G s
 | 0,a,G,_,_,u,k=>k a A? A? u ww
 | f+1,a,G,h1,hn,u,k=>by unfold kas_asc;refine Gj! Ba!;cases e:lt (p.getD a 0) Hm! with | true =>simp only[H_];exact k a A? (ci (OY _ _)) u (j? e) | false =>simp only[CZ,EK];exact uN K h f (a+1) G (ME! DY) C! (Up.snoc O h h1 C! u (other O h C! C! C! e)) λm a1 a2 a3 a4=>k m HT! C! a3 (a4.imp (λz=>H!) Cm!)
theorem Jcv(K:EP!)(h:KB):∀(f a:Nat)(G:o! (BA!×Nat×Nat)),1<=a->a+f<=n->Dn lt p a -> (∀m,a<=m->m<=a+f->Dn lt p m->G (p,m,0) s)->(kas_desc f p a 0).kasWp cmp G s
 | 0,a,G,_,_,u,k=>k a A? A? u
 | f+1,a,G,h1,hn,u,k=>by unfold kas_desc;refine Gj! Ba!;cases e:lt (p.getD a 0) Hm! with | true =>simp only[H_,DA,gt_iff_lt,EK];exact Jcv K h f (a+1) G (ME! DY) C! (Dn.snoc O h h1 C! u e) λm a1 a2 a3=>k m HT! C! a3 | false =>simp only[CZ,EK];refine Gj! Ba!;simp only[other O h C! C! C! e,H_];exact k a A? (ci (OY _ _)) u
omit O in
theorem Pi{p q:Array Nat}{i j:Nat}(e:p[i]?=q[j]?):p.getD i 0=q.getD j 0:=by
 rw[Array.getD_eq_getD_getElem?,Array.getD_eq_getD_getElem?,e]
omit O in
theorem Jlb{p:Array Nat}{m:Nat}(hm:m<=p.size)(d:Dn lt p m):Up lt (kas_rev p 0 m) m:=by
 intro i j V' hj
 have g:∀k,k<m->(kas_rev p 0 m).getD k 0=p.getD (m-1-k) 0:=λk hk=>by
  refine Pi ?_
  unfold kas_rev
  rw[getElem?_mirror_all hm,AE ⟨AU _,hk⟩]
  congr 1;lia
 rw[g i (by lia),g j hj]
 exact d _ _ (by lia) (by lia)
theorem Jhi(K:EP!)(hn:1<=n)(h:KB)(G:o! (Nat×BA!))(k:∀m q,1<=m->m<=n->Pm q n->Up lt q m->G (m,q) s):(kas_count n p).kasWp cmp G s:=by
 unfold kas_count;rw[OH];have up1:Dt! 1:=λi j h1 h2=>H!
 refine uN O K h (n-1) 1 _ A? C! up1 λa a1 a2 a3 a4=>?_;by_cases ha:(a==n)=true;.rw[AE ha];exact k a p a1 C! h a3
 .rw[AB ha];(have r8:a≠n:=by simpa using ha);by_cases h1:a > 1;(.rw[AE h1];refine Gj! (h.lt (Hx!));simp only[a3 0 (a-1) C! (ci (G7! Nat.sub_lt)),H_];exact k a p a1 C! h a3);.rw[AB h1];(have e1:a=1:=H!);subst e1;unfold kas_descPart;rw[OH];have e2:MG! 1 (p.getD 0 0):=a4.elim (λz=>H!) Cm!;(have d2:Dn lt p (1+1):=by intro i j V' hj;(have e3:i=0:=H!);(have e4:j=1:=H!);rw[e3,e4];exact e2);refine Jcv O K h (n-(1+1)) (1+1) _ (ci (EN _)) C! d2 λm q2 q3 q4=>?_;simp only[gt_iff_lt,DA,EK];unfold kas_tail3;rw[OH];have hr:Pm (kas_rev p 0 m) n:=h.WV (mirror_perm _ _ _ _);refine uN O K hr (n-m) m _ HT! C! (Jlb (LK! h.size) q4) λb b1 b2 b3 _=>?_;exact k b _ C! C! hr b3
theorem Qc(K:EP!)(h:KB)(hk:k<n)(u:Dt! k):∀(f l r:Nat)(G:o! Nat),l<=r->r<=k->r-l<=f->(∀i,i<l->Lr! KG! k)->(∀i,r<=i->i<k->HV! k) -> (∀m,m<=k->(∀i,i<m->Lr! KG! k)->(∀i,m<=i->i<k->HV! k)->G m s)->(kas_place p k f l r).kasWp cmp G s
 | 0,l,r,G,h1,h2,h3,lo,hi,g=>g l (ci (AV KM KM)) lo λi a b=>hi i C! b
 | f+1,l,r,G,h1,h2,h3,lo,hi,g=>by unfold kas_place;by_cases q:l ≥ r;(.rw[AE q];exact g l (ci (AV KM KM)) lo λi a b=>hi i (ci (AV KM KM)) b);.rw[AB q];refine Gj! (h.lt hk);cases e:lt (p.getD k 0) (p.getD (GP!) 0) with | true =>simp only[H_];refine Qc K h hk u f l (GP!) G C! C! C! lo (λi a b=>?_) g;by_cases z:i=GP!;(.rw[z];exact e);.exact Jj! (h.lt hk) Ba! e (u _ _ C! b) | false =>simp only[CZ,EK];have e':=other O h hk C! C! e;refine Qc K h hk u f (GP!+1) r G C! h2 C! (λi a=>?_) hi g;by_cases z:i=GP!;(.rw[z];exact e');.exact Jj! Ba! (h.lt hk) (u _ _ C! C!) e'
omit O in
theorem Jmb{p:Array Nat}(h:Pm p n){k l:Nat}(hk:k<n)(hl:l<=k)(u:Up lt p k)(lo:∀i,i<l->lt (p.getD i 0) (p.getD k 0)=true)(hi:∀i,l<=i->i<k->lt (p.getD k 0) (p.getD i 0)=true) :
 Up lt (bubble p k (k-l)) (k+1):=by
 have g:∀j,j<k+1->(bubble p k (k-l)).getD j 0=if j=l then p.getD k 0 else if l<j then p.getD (j-1) 0 else p.getD j 0:=λj hj=>by
  have e:=getElem?_bubble (xs:=p) (src:=k) (by rw[h.size];exact hk) (k-l) (by lia) j
  rw[show k-(k-l)=l by lia] at e
  by_cases c1:j=l
  .rw[AE c1] at e ⊢;exact Pi e
  .rw[AB c1] at e ⊢
   by_cases c2:l<j
   .rw[AE ⟨c2,by exact KI ‹_›⟩] at e;rw[AE c2];exact Pi e
   .rw[AB (by lia)] at e;rw[AB c2];exact Pi e
 intro i j V' hj
 rw[g i (by lia),g j hj]
 repeat' split
 all_goals first
  | (exfalso;lia)
  | exact lo _ (by lia)
  | exact hi _ (by lia) (by lia)
  | exact u _ _ (by lia) (by lia)
theorem Jho(K:EP!):∀(f:Nat)(p:BA!)(k:Nat)(G:o! BA!),KB->k+f=n->Dt! k->(∀q,Pm q n->Up lt q n->G q s)->(kas_bin f p k).kasWp cmp G s
 | 0,p,k,G,h,hk,u,g=>by (have e:k=n:=Hx!);subst e;exact g p h u
 | f+1,p,k,G,h,hk,u,g=>by unfold kas_bin;rw[OH];exact Qc O K h (k:=k) C! u k 0 k _ (AU _) A? (ci (ZG _)) (λi a=>by contradiction) (λi a b=>by exact absurd KM (Nat.not_lt_of_le KM)) λm c1 c2 c3 =>Jho K f _ (k+1) G (h.WV (bubble_perm _ _ _)) C! (Jmb h C! c1 u c2 c3) g
theorem cP(K:EP!)(hn:1<=n)(G:o! BA!)(g:∀q,Pm q n->Up lt q n->G q s):(kas_sort n).kasWp cmp G s:=by
 unfold kas_sort;rw[OH];refine Jhi O K hn (Jfq n) _ λm q h1 h2 h3 h4=>?_;by_cases c:m<n;.rw[AE c];(have e2:max m 1=m:=H!);show(kas_bin (n-max m 1) q (max m 1)).kasWp cmp G s;rw[e2];exact Jho O K _ q m G h3 C! h4 g
 .rw[AB c];(have e2:m=n:=H!);subst e2;exact g q h3 h4
universe E
universe E FhS
universe N FX
open PySem PySem.Spec PyProof.Rows L2
universe S
theorem Jdk(hh:BY!)(I d:Addr)(bU:d≠I)(es:AQ!)(ep:Nat):Walks prog w A I [I,d] [I] es.size (λi v=>∃e,es[i]?=some e/\v=e.key) (λi h=>h.IsKeyIter I d i es.size ep/\Ca! h) where
 sub:=M? (by simp at hb;simp[hb])
 frame:=λ_ _ _ st hk=>⟨let⟨o,e,r⟩:=st.1;At (hk I Y! o e) r,st.2.at λo e=>hk d Y! o e⟩
 item:=λi s0 Q E0 hi st hQ=>Xy st.1 st.2 (e:=es[i]) (JM!) λh' it' sb =>
  hQ _ h' s0.toks ⟨es[i],JM!,rfl⟩ ⟨it',st.2.at λo e=>(sb.2 d bU).trans e⟩ (Go ((sb.2 b λz=>hb (by simp[z])).trans e))
 done:=λs0 Q E0 st hQ=>Jb5 hh st.1 st.2 A? λh' eb=>hQ h' s0.toks (Go (eb b o (Ht! hb) e))
 self:=λ_ _ _ _ st hQ=>wpAny_pyIter_keyiter st.1 hQ
theorem Vo(lo:FQ!):W.KdlSrc prog w "dict" d d es.size (λi v=>∃e,es[i]?=some e/\v=e.key) (λh=>Ca! h) where
 type:=λ_ ⟨o,e,x,_⟩=>Tk x.1
 there:=λ_ ⟨o,e,_⟩=>⟨S?,S?⟩
 keep:=λ_ _ hm hk=>hm.at λo e=>hk d ww o e
 notList:=r?
 notTuple:=r?
 hint:=λ_ _ _ _ ⟨o,e,x,_⟩ hq=>W.kdl_hint_dict (Tk x.1) hq
 iter:=λ_ s0 hh hm=>⟨_,_,(λ_ _ hq=>Xz lo hm hq),Jdk hh _ d (let⟨o,e,_⟩:=hm;BI (AR e)) es ep,⟨Ho!,hm.at λo e=>Ar!⟩⟩
universe E
theorem Gg:∀as:J!,Vals (as.map V.ref) (as.map Value.ref)
 | []=>O!
 | _::as=>l! rfl (Gg as)
theorem Zm{es:AQ!}{acc:db}{as:J!}(ha:ItemsOf (λi v=>∃e,es[i]?=some e/\v=e.key) acc es.size)(XA:as.length=es.size)(at_:∀j (h:j<es.size),∃a,as[j]?=some a/\es[j].key=.ref a):acc.toList=Hs!:=by
 refine JB!;by_cases hj:j<es.size;·(have h1:j<acc.size:=S! ha.1 hj);obtain⟨e2,e3,e4⟩:=ha.2 j acc[j] (by simp[h1]);obtain⟨a,e5,e6⟩:=at_ j hj;(have e7:e2=es[j]:=by (have:es[j]?=some es[j]:=by simp[hj]);rw[this] at e3;exact(ZO e3).symm);rw[ZH,e5];(have:acc.toList[j]?=some acc[j]:=by simp[h1]);rw[this,e4,e7,e6];rfl
 ·(have h1:acc.toList.length<=j:=E0! Cn ha.1 B0!);(have h2:KZ!<=j:=LK! ZA);rw[CN h1,CN h2]
universe S
variable {X:Cx Kx}
inductive O6(xs:D!)(H:Hp)(Q:VK):Prop
 | mk d kvs (_:xs=[t?]) (_:Rd H d (.dT kvs)) (_:∀l as,FM!->pF H kvs as->W? l (h! l Bk!))
theorem Ri(hc:b?):Lx! p? O6:=by intro AA s σ H xs us Q I r h;obtain⟨d,kvs,rfl,hd,q⟩:=h;obtain⟨u,rfl,rx⟩:=Db!;cases rx;obtain⟨z,lo,es,ep,as,raw,hz,ks,at_⟩:=Wx I hd;refine W.kdl_call (Vo lo (es:=es) (ep:=ep)) AZ! raw (q! hz z) λh' tk acc c kp e ha=>?_;have hn:FN!:=De!;have XA:as.length=kvs.length:=(Paired.length ks).symm;have e1:acc.toList=Hs!:=Zm ha C! at_;refine KH! (GO! I.laid tk kp (show F1! _ _ Bk! from⟨LK! ZA,acc.toList,c,?_,CO!⟩)) (q _ as hn ks);rw[e1];exact Gg as
universe E
theorem Pg:∀xs:X!,HT.lexLt xs xs=false
 | []=>rfl
 | x::xs=>E0! HT.HE BD! (Pg xs)
theorem Wa:∀{xs ys zs:X!},AM! xs ys->AM! ys zs->AM! xs zs
 | [],[],_,h,_=>C3!
 | [],_::_,[],_,h=>C3!
 | [],_::_,_::_,_,_=>rfl
 | _::_,[],_,h,_=>C3!
 | _::_,_::_,[],_,h=>C3!
 | x::xs,y::ys,z::zs,h1,h2=>by rw[HT.HE] at h1 h2 ⊢;by_cases e1:x=y;(.rw[AE e1] at h1;by_cases e2:y=z;(.rw[AE e2] at h2;rw[AE (e1.trans e2)];exact Wa h1 h2);.rw[AB e2] at h2;rw[AB (S! e1 e2),e1];exact h2);.rw[AB e1] at h1;have h1:=BR h1;by_cases e2:y=z;(.rw[AB (q? e2 e1),<-e2];exact decide_eq_true h1);.rw[AB e2] at h2;have h2:=BR h2;rw[LM!];exact G6!
theorem Wb:∀{xs ys:X!},xs≠ys->HT.lexLt xs ys=false->AM! ys xs
 | [],[],h,_=>Cl! h
 | [],_::_,_,h=>C3!
 | _::_,[],_,_=>rfl
 | x::xs,y::ys,bU,h=>by rw[HT.HE] at h ⊢;by_cases e:x=y;(.rw[AE e] at h;rw[AE e.symm];exact Wb (λz=>bU (U? e z)) h);.rw[AB e] at h;have h:=of_decide_eq_false h;rw[CU! AB e];exact G6!
theorem Ik{α:Type}{lt:I? α α}(irr:∀a,¬lt a a)(mP:∀a b,lt a b->¬lt b a):∀{SK l₂:I!},SK.Perm l₂->SK.Pairwise lt->l₂.Pairwise lt->SK=l₂
 | [],l₂,p,_,_=>(List.Perm.nil_eq p)
 | a::SK,[],p,_,_=>by have:=p.length_eq;simp at this
 | a::SK,b::l₂,p,h1,h2=>by have ye:=EW.mp h1;have XC:=EW.mp h2;(have e:a=b:=by have ha:a∈b::l₂:=p.mem_iff.mp (ZL ..);have hb:b∈a::SK:=p.mem_iff.mpr (ZL ..);rcases ZM ha with e|ha;(.exact e);.rcases ZM hb with e|hb;(.exact e.symm);.exact BW! (XC.1 a ha) (mP _ _ (ye.1 b hb)));subst e;rw[Ik irr mP (List.Perm.cons_inv p) ye.2 XC.2]
universe S
theorem Ss(ho:FP! (bn vs.toArray n))(WB:vs.length<64)(O:FhS.mV lt vs.length)(K:2<=vs.length->∀h',(HF!)->∀Q:o! SortKind,(∀κ,FhS.MY (W.kas_ask prog w A κ vs) lt vs.length d!->Q κ d!)->Fx! (keyKind' vs.toArray) d!)(h:∀q:FD!,GB! vs.length->GS! Kd!->∀h' c,(HF!)->A7! (bn (Fu! (KE vs.getD L!)) c)->Kc! P (Gy! L!)) :
 EU! (C6! Builtin.«list.sort» K?) P:=by
 rw[list_sort_plain]
 have al:a<s.heap.objs.size:=AR ho
 have small:∀{k:Nat},k<=63->k<=sizeLine:=λhk=>S! DB (G7! AV)
 refine ZR (YH ho rfl (ZR (listUpdate_at ho rfl ?_ (q! BG (small (by exact KI KM))) (AU _))))
 obtain⟨e1,g1⟩:∃e1,z? (s.heap.update a (Obj.mapSeq λ_=>(#[]:db))).get? (bn (#[]) e1):=i! (JG ho λ_=>#[])
 refine ZR (seqEpoch_at g1 rfl (ZR (wpAny_newTuple (ZR (QZ (ED ?_) (AU _))) (by show vs.length<=_;exact small (by exact KI KM)))))
 have g2:z? (Ji! (seqObj p? #[] 0)).get? (bn (#[]) e1):=ZT _ (ZT _ g1)
 have kp:∀b o,b≠a->AC->x! (Ji! (seqObj p? #[] 0)).get?:=λb o hb e =>
  ZT _ (ZT _ (F0! e))
 show J4! _ P (BV! (Ji! (seqObj p? #[] 0)))
 generalize Ji! (seqObj p? #[] 0)=hh at g2 kp
 dsimp only
 have fin:∀(st:SortSt)(q:FD!),Fi! arrOf st=Fu! (KE vs.getD L!)->W! failedOf st->GB! vs.length->GS! Kd! ->
  J4! (do
   let touched:=(<-seqEpoch a) != e1
   Builtin.List.listUpdate w! λ_=>Fi! arrOf st
   if let some e:=failedOf st then rule "list.sort.comparison-raised";throw e
   if touched then rule "list.sort.modified";raiseError "ValueError" "list modified during sort"
   ret L!) P Jb!:=λst q ea ef qp qo=>by
  have hl:q.length=vs.length:=U? qp.length_eq CM
  refine ZR (seqEpoch_at g2 rfl ?_)
  rw[ea]
  refine ZR (listUpdate_at g2 rfl ?_ (AU _) (by show(q.map (KE vs.getD Value.none)).toArray.size<=sizeLine+1;rw[BG,ZA,hl];exact DY (small (ME! KI))))
  rw[ef]
  simp only[bne_self_eq_false,CZ,EK]
  refine ZS (h q qp qo _ _ (Go (F0! (Fh! hb))) (JG g2 _))
 by_cases h2:vs.toArray.size<2
 .rw[AE h2,AE h2]
  refine LZ!
  rw[StateT.run_pure]
  refine LZ!
  have XC:vs.length<2:=JI!
  refine fin (SortSt.mk' general' (vs.toArray.zip vs.toArray) #[] 7 none) (List.range vs.length) ?_ rfl (List.Perm.refl _) ?_
  .show Fi! vs.toArray.zip vs.toArray=_
   match vs,XC with
   | [],_=>simp
   | [v],_=>simp
  .match vs,XC with
   | [],_=>exact List.Pairwise.nil
   | [v],_=>exact List.pairwise_singleton _ _
 .rw[AB h2,AB h2]
  have XC:2<=vs.length:=JI!
  refine ZR (K XC hh kp _ λκ ask=>?_)
  refine ZR (EJ (W.kat_run (E:=E) (vs:=vs) (ks:=vs) (κ:=κ) (s:=Jb!) (Q:=λRJ s'=>s'=Jb!/\∃q:FD!,Fi! arrOf RJ=Fu! (KE vs.getD L!)/\W! failedOf RJ/\GB! vs.length/\GS! Kd!)
   (G:=λp s'=>s'=Jb!/\FhS.Pm p vs.length/\FhS.Up lt p vs.length) rfl XC WB (λp RJ s' hp ha hf ⟨e,pm,up⟩=>?_) (FhS.cP O ask HT! _ λq pm up=>⟨rfl,pm,up⟩)) (λr s' hr=>?_) KJ!)
  .refine⟨e,p.toList,W.kat_snds rfl ha,hf,pm.pm,?_⟩
   rw[List.pairwise_iff_getElem]
   intro i j hi hj V'
   have hs:=pm.size
   have:=up i j V' (by rw[<-hs];simpa using hj)
   have gi:p.getD i 0=p.toList[i]:=by simp[Array.getD,show i<p.size by simpa using hi]
   have gj:p.getD j 0=p.toList[j]:=by simp[Array.getD,show j<p.size by simpa using hj]
   rw[gi,gj] at this
   exact this
  .obtain⟨u,RJ⟩:=r
   obtain⟨e,q,q1,q2,q3,q4⟩:=hr
   dsimp only at e q1 q2 ⊢
   subst e
   exact fin RJ q q1 q2 q3 q4
universe E
universe S
theorem Jgq{us ws:F!}{ns ms:X!}(i:Nat)(s:Shared)(p:Be! us)(q:An! ws ms)(hf:fin=R! (ns.length<ms.length))(h:Q (HT.lexLt ns ms) s):W.KatLex prog w A b fin Q (us.zip ws) i s:=by induction p generalizing ws ms i with | nil =>rw[List.zip_nil_left];refine W.kat_nil ?_;rw[hf];cases q<;>exact h | cons n t r ih =>cases q with | nil=>rw[List.zip_nil_right];refine W.kat_nil ?_;rw[hf];exact h | cons m u q =>rw[List.zip_cons_cons];refine W.kat_cons (wpAny_eqBool_int (W.kat_go (λe=>W.kat_yes ?_) λe=>W.kat_no ?_));(·(have e:n=m:=CO!);rw[HT.HE,AE e] at h;exact ih No q (Ck! hf) h);·(have e:n≠m:=CO!);rw[HT.HE,AB e] at h;cases hb:(b&&i==0) with | true=>exact oneLt_int h | false=>exact W.kat_one _ _ (lt_int h)
def JX(h:Heap):I? J! (List (List Int)):=Paired λa ns=>ns≠[]/\∃its,IsTup h a its/\Be! its.toList
theorem Xh{as:J!}{RF:List (List Int)}(p:JX h as RF):∃fs:F!,W.KatTups h LF! fs/\fs.length=as.length/\∀v∈fs,∃n t,v=Value.int n t:=by induction p with | nil=>exact At! [] trivial (λv hv=>by simp at hv) | cons r t ih =>obtain⟨fs,a1,a2,a3⟩:=ih;obtain⟨bU,its,⟨o,ho,hc,n,hd⟩,hi⟩:=r;cases hL:its.toList with | nil=>rw[hL] at hi;cases hi;exact Cl! bU | cons f fr =>rw[hL] at hi;cases hi with | cons n0 t0 hr =>refine⟨Value.int n0 t0::fs,W.KatTups.cons ho hc hd ?_ a1,by simp[a2],Ko!⟩;(·(have:its[0]?=its.toList[0]?:=B?);rw[this,hL];rfl);.rcases ZM hv with rfl|hv;(.exact Bb! _);.exact a3 v hv
theorem JX.keep(k:L3! PP (∃ts n,o.data=B3! ts/\Kj!))(t:JX h as RF):JX h' as RF :=Aq (λa ns ⟨h1,its,⟨o,ho,hc,n,hd⟩,hi⟩=>⟨h1,its,⟨o,k a o ho ⟨_,_,hd,hc⟩,hc,n,hd⟩,hi⟩) t
theorem Jdb(hκ:∃b,κ=tuples' b)(t:JX s.heap as RF) : FhS.MY (W.kas_ask prog w A κ LF!) (λi j=>HT.lexLt (RF.getD i []) (RF.getD j [])) KZ! s:=by
 obtain⟨b,rfl⟩:=hκ;intro i j hi hj C hC;rw[ZA] at hi hj;have get:∀k,k<as.length->∃a ns its,MU! k L!=.ref a/\RF.getD k []=ns/\IsTup s.heap a its/\Be! its.toList:=λk hk=>by have hl:=Cf! t;(have h1:as[k]?=some as[k]:=by simp[hk]);(have h2:RF[k]?=some (RF[k]' C!):=FA! (k<RF.length));obtain⟨_,its,q1,q2⟩:=Az t k _ _ h1 h2;exact⟨as[k],_,its,by simp[hk],FA! (k<RF.length),q1,q2⟩
 obtain⟨a,ns,its,e1,e2,⟨o,ho,hc,n,hd⟩,yS⟩:=get i hi;obtain⟨a',U_,its',SD,VB,⟨o',YO,rj,n',TN⟩,lA⟩:=get j hj;unfold W.kas_ask;rw[e1,SD];refine W.kat_lt ho hd YO TN (Jgq 0 s yS lA ?_ (by dsimp only at hC;rw[e2,VB] at hC;exact hC));have l1:=yS.length;have l2:=lA.length;simp only[Cn] at l1 l2;rw[l1,l2]
theorem Qu(ho:FP! (bn Aq! n))(WB:as.length<64)(t:JX s.heap as RF)(nd:RF.Nodup)(h:∀q:FD!,GB! as.length->GS! (AM! (RF.getD i []) (RF.getD j []))->∀h' c,(HF!)->A7! (bn (Fu! F3!) c)->Kc! P (Gy! L!)) : EU! (C6! Builtin.«list.sort» K?) P:=by
 have hl:=Cf! t;have fF:KZ!=as.length:=ZA ..;refine Ss (lt:=λi j=>HT.lexLt (RF.getD i []) (RF.getD j [])) ho (LJ! WB) ⟨λi j k _ _ _=>Wa,λi j hi hj V' e=>Wb (λz=>V' ?_) e⟩ (λh2 h' kp Q hQ=>?_) (LJ! h);·(have TX:i<RF.length:=H!);(have bV:j<RF.length:=H!);(have e1:RF[i]=RF[j]:=by simpa [TX,bV] using z);exact(EE nd).mp e1
 .have t':JX h' as RF:=t.keep λb o e ⟨ts,k,q,qc⟩=>Fh! (λz=>by rw[z,ho] at e;cases e;have qc:Cv! p?=Value.type BQ!:=qc;injection qc with qc;exact J8! absurd qc);obtain⟨fs,f1,f2,f3⟩:=Xh t';refine W.kat_kind (s:=d!) (T:=G? "int") f1 (by rw[f2];rw[fF] at h2;exact DD KM) (Ko!) rfl (hQ _ (Jdb AB! t'));obtain⟨m,tk,rfl⟩:=f3 v hv;exact W.Looks.of_pure rfl
universe E
theorem P8(g:α->V)(f:α->Addr)(h:∀x,g x=V.ref (f x)):∀as:I!,Vals (as.map g) ((as.map f).map Value.ref)
 | []=>O!
 | a::as=>l! (S! (h a) rfl) (P8 g f h as)
universe S
variable {X:Cx Kx}
inductive Nn(xs:D!)(H:Hp)(Q:VK):Prop
 | mk d (L:H? (X!×V)) (_:xs=[t?]) (_:I7! L.map (λp=>(Iu!,p.2))) (_:L.length<64) (_:(L.map a!).Nodup) (_:(∀p∈L,p.1≠[])) (_:∀(l:Addr)(M:H? (X!×Addr)),FM!->(M.map a!).Perm (L.map a!)->M.Pairwise (λp q=>AM! p.1 q.1)->(∀p∈M,WP p.2 (.A_ (E2! V.int)))->W? l (h! l (.BE (M.map λp=>V.ref p.2))))
theorem Og(hc:b?):HC! Nn:=by
 intro AA s σ H xs us Q I r h;obtain⟨d,L,rfl,hd,WB,nd,bU,q⟩:=h;obtain⟨u,rfl,rx⟩:=Db!;cases rx;obtain⟨z,lo,es,ep,as,raw,hz,ks,at_⟩:=Wx I hd;have hlL:(L.map λp=>((Iu!:ap),p.2)).length=L.length:=ZA ..;have XA:as.length=L.length:=by rw[<-hlL];exact(Paired.length ks).symm
 have key:∀(j:Nat)(p:X!×V),L[j]?=some p->∃a,as[j]?=some a/\cr (.A_ (E2! V.int)):=λj p hp=>by have hj:J1!:=(ZJ hp).1;obtain⟨a,ha⟩:=HY! as j;have:=Az ks j ((Iu!:ap),p.2) a (Ks! hp) ha;refine BZ! a ha;rw[this,AL];rfl
 have t0:JX s.heap as (L.map a!):=E8 (U? ZA XA) λj a ns e1 e2=>by rw[ZH] at e2;cases hp:L[j]? with | none=>rw[hp] at e2;cases e2 | some p =>rw[hp] at e2;have e3:p.1=ns:=ZO e2;obtain⟨a',h1,h2⟩:=key j p hp;rw[e1] at h1;cases h1;obtain⟨its,rv,it,_⟩:=H1! h2;exact⟨q? e3 (bU p (ZP hp)),its.toArray,it,by rw[<-e3];simpa using intsAre_of rv⟩
 refine HF kind_sorted plain_sorted entry_sorted (args_sorted1 _) (by unfold Builtin.«sorted»;refine Ch (checkCount "sorted" 1 1 _) (sK (W.kdu_collect (Vo lo (es:=es) (ep:=ep)) (Al! _ (I.ok.hd hc)) raw (q! hz z) λh1 tk acc kp ha=>?_));have e1:acc.toList=Hs!:=Zm ha C! at_;rw[e1];have I1:Aj! { s with heap:=h1,toks:=tk }:=I.kept kp;refine ZR (QZ ?_ I3!);have g1:Lw! (h1.push (seqObj "list" (as.map Value.ref).toArray 0)).get? h1.objs.size Aq!:=s?;have t1:JX MN! as (L.map a!):=t0.keep λb o e _=>ZT _ (Z? kp);refine DP! (DL slot_list_sort (Bb! g1) aN (Qu g1 C! t1 nd λp pp po h2 c jU e=>m? ?_) (args_list_sort _));have hn:V? h1.objs.size:=Fg!;have inr:∀i∈p,Cr!:=λi hi=>BH.mp (pp.mem_iff.mp hi);(have eM:(p.map F3!)=(p.map ga).map Value.ref:=by rw[AL];refine BQ λi hi=>?_;have:=Dv!;simp[this]);refine ZS ⟨_,rfl,K! h1.objs.size,_,I1.laid (a:=h1.objs.size) (o:=.BE ((p.map λi=>(AA! i [],as.getD i 0)).map λq=>V.ref q.2)) (t':=tk) (λb o hb=>jU b o (D2! hb) (ZT _ hb)) A? (Ja! p.map ga ?_),rfl,q _ _ hn ?_ ?_ ?_⟩;(.rw[ZA,ZA,pp.length_eq,CM,DB];lia);(.rw[AL];exact P8 _ (ga) (λ_=>rfl) p);(.rw[<-eM];exact e);(.rw[AL];(have e2:(List.range as.length).map (KE AA! [])=L.map a!:=by refine JB!;rw[ZH];by_cases hj:J1!;(·(have h3:D6!=some j:=by simp[XA,hj]);rw[h3];simp[hj]);·(have h3:D6!=none:=by simp[XA];exact B0!);rw[h3,CN (Ax! B0!)];rfl);have e7:=pp.map (KE AA! []);rw[e2] at e7;exact e7);(.rw[EL];exact po);.intro r hr;obtain⟨i,hi,e3⟩:=ZN hr;have JL:=Dv!;obtain⟨p0,yK⟩:=HY! L i;obtain⟨a,h3,h4⟩:=key i p0 yK;rw[<-e3];(have e5:as.getD i 0=a:=Ed! IU h3);(have e6:Iz! p0.1:=by rw[IU,ZH,yK];rfl);show WP (as.getD i 0) (.A_ ((AA! i []).map V.int));rw[e5,e6];exact h4)
universe E
universe S
universe E
abbrev T2:=Int×Int
def tk(t:T2):ap:=[O? t.1,O? t.2]
def tv(t:T2):D!:=[z! t.1,z! t.2]
theorem uE(t:T2):(tk t).map kV=tv t:=rfl
theorem Zs(h:tk a=tk b):a=b:=by obtain⟨a1,a2⟩:=a;obtain⟨b1,b2⟩:=b;unfold tk at h;simp only[List.cons.injEq,Sum.inl.injEq,and_true] at h;rw[h.1,h.2]
structure BZ where
 BP:Int
 AO:Int
 BC:Int
 h:Addr
 o:Addr
 l:Addr
 r:Addr
 hand:v!
 AH:lc
 holds:D9!
 AI:lc
theorem Ia{k:Str}{v:V}{r:v?}:List.lookup k (EQ::r)=some v:=by rw[O_];have:(k==k)=true:=beq_self_eq_true k;rw[this]
theorem Bv{k j:Str}{v:V}{r:v?}(h:¬k=j):List.lookup k ((j,v)::r)=List.lookup k r:=by rw[O_];have:d? (k==j):=DX.mpr h;rw[this]
theorem E6:Au f v []=[(f,v)]:=rfl
theorem Jki:Au f v ((f,x)::r)=(f,v)::r:=by grind [Au,V]
theorem Cm(h:¬k=f):II!=IC!:=by grind [Au,V]
theorem Hi:DI! UV:=ZV
theorem Jw:DI! Uf:=ZV
theorem Ru:DI! v6:=ZV
theorem Rt:DI! wE:=ZV
theorem Ql:DI! wP:=ZV
theorem N2:DI! wS:=ZV
theorem Rv:DJ! wT:=ZV
theorem Mm:DJ! Uf:=ZV
theorem Ym:DJ! v6:=ZV
theorem Yl:DJ! wE:=ZV
theorem V2:DJ! wP:=ZV
theorem Qm:DJ! wS:=ZV
theorem Qg:DK! wT:=ZV
theorem Vy:DK! UV:=ZV
theorem Vz:DK! v6:=ZV
theorem Vx:DK! wE:=ZV
theorem Rq:DK! wP:=ZV
theorem Oy:DK! wS:=ZV
theorem Rx:DL! wT:=ZV
theorem Yo:DL! UV:=ZV
theorem V6:DL! Uf:=ZV
theorem Yn:DL! wE:=ZV
theorem V7:DL! wP:=ZV
theorem Qo:DL! wS:=ZV
theorem Rr:DM! wT:=ZV
theorem Yj:DM! UV:=ZV
theorem V0:DM! Uf:=ZV
theorem Yk:DM! v6:=ZV
theorem V1:DM! wP:=ZV
theorem Qk:DM! wS:=ZV
theorem Qn:DN! wT:=ZV
theorem V4:DN! UV:=ZV
theorem Rw:DN! Uf:=ZV
theorem V5:DN! v6:=ZV
theorem V3:DN! wE:=ZV
theorem O1:DN! wS:=ZV
theorem N1:DO! wT:=ZV
theorem Qi:DO! UV:=ZV
theorem Oz:DO! Uf:=ZV
theorem Qj:DO! v6:=ZV
theorem Qh:DO! wE:=ZV
theorem O0:DO! wP:=ZV
def Cp(G:BZ):v?:=[(wT,z! G.BP),(UV,z! G.AO),(Uf,z! G.BC),AF! v6 G.h,AF! wE G.o,AF! wP G.l,AF! wS G.r]
theorem Te(G:BZ):Ls! Cp G wT G.BP:=by unfold Cp;rw[Ia]
theorem Jco(G:BZ):Ls! Cp G UV G.AO:=by unfold Cp;rw[Bv Rv,Ia]
theorem Cw(G:BZ):Ls! Cp G Uf G.BC:=by unfold Cp;rw[Bv Qg,Bv Vy,Ia]
theorem Ge(G:BZ):Ix! v6 G.h:=by unfold Cp;rw[Bv Rx,Bv Yo,Bv V6,Ia]
theorem Dl(G:BZ):Ix! wE G.o:=by unfold Cp;rw[Bv Rr,Bv Yj,Bv V0,Bv Yk,Ia]
theorem Ey(G:BZ):Ix! wP G.l:=by unfold Cp;rw[Bv Qn,Bv V4,Bv Rw,Bv V5,Bv V3,Ia]
theorem Dj(G:BZ):Ix! wS G.r:=by unfold Cp;rw[Bv N1,Bv Qi,Bv Oz,Bv Qj,Bv Qh,Bv O0,Ia]
theorem Yy(G:BZ)(y:Int):Au UV (E! y) (Cp G)=Cp { G with AO:=y }:=by unfold Cp;rw[Cm Hi,Jki]
theorem Bo(G:BZ)(y:Int):Au Uf (E! y) (Cp G)=Cp { G with BC:=y }:=by unfold Cp;rw[Cm Jw,Cm Mm,Jki]
theorem Jl1(G:BZ):Au wS (P! G.r) (Au wP (P! G.l) (Au wE (P! G.o) (Au v6 (P! G.h) (Au Uf (E! G.BC) (Au UV (E! G.AO) (Au wT (E! G.BP) []))))))=Cp G:=by unfold Cp;rw[E6];rw[Cm Hi,E6];rw[Cm Jw,Cm Mm,E6];rw[Cm Ru,Cm Ym,Cm Vz,E6];rw[Cm Rt,Cm Yl,Cm Vx,Cm Yn,E6];rw[Cm Ql,Cm V2,Cm Rq,Cm V7,Cm V1,E6];rw[Cm N2,Cm Qm,Cm Oy,Cm Qo,Cm Qk,Cm O1,E6]
theorem Cq(G:BZ){m:Str}(h:([wT,UV,Uf,v6,wE,wP,wS]:T!).contains m=false):W! (Cp G).lookup m:=by simp only[M',Bool.or_eq_false_iff,DX] at h;obtain⟨h1,h2,h3,h4,h5,h6,h7,_⟩:=h;unfold Cp;rw[Bv h1,Bv h2,Bv h3,Bv h4,Bv h5,Bv h6,Bv h7];rfl
theorem El(G:BZ):(Cp G).length<1000:=by show 7<1000;decide
def A9(l:v!):HO:=.dT (l.map (Kt! (tk t)))
def C6(l:lc):HO:=.dT (l.map Fe!)
def Dz(l:D9!):HO:=.dT (l.map Ir!)
theorem Dw(l:I!)(k:α->T2)(f:α->V)(t:T2):Ct (l.map ED!) (tk t)=(l.find? λq=>R! (k q=t)).map f:=by
 unfold Ct;rw[M_,Option.map_map];congr 1;congr 1;funext q;show R! (tk (k q)=tk t)=decide (k q=t);by_cases e:k q=t;.rw[e];simp
 .rw[FJ!,decide_eq_false λz=>e (Zs z)]
theorem T9{α:Type}{l:I!}{k:α->T2}{f:α->V}{t:T2}(h:∀q∈l,k q≠t):Ct (l.map ED!) (tk t)=none:=Ed! Dw (BB.mpr (Ac! (BR! (h q hq))))
theorem Gv{α:Type}{l:I!}{k:α->T2}{f:α->V}{t:T2}(v:V)(h:∀q∈l,k q≠t):putK (l.map ED!) (tk t) v=(l.map ED!)++[(tk t,v)]:=Fa v (T9 h)
def BM(G:BZ):J!:=G.h::G.o::G.l::G.r::G.holds.map EV!
structure AX(C:Addr)(H:Hp)(p:Addr)(G:BZ):Prop where
 ob:∃dx,DG! (As! (Cp G))
 dh:LD! G.h G.hand
 dO:LE! G.o G.AH
 dl:WP G.l (Dz G.holds)
 dr:LE! G.r G.AI
 hl:∀q∈G.holds,LD! g? q.2.2
 nd:(BM G).Nodup
def UC(p:Addr)(G:BZ)(H H':Hp):Prop:=∀b o,x! H->b≠p->b∉F?->x! H'
universe S
variable {C p:Addr}{H H':Hp}{G:BZ}
theorem AX.keep(x:x?)(k:∀b o,(b=p\/b∈F?)->x! H->x! H'):AX C H' p G:=by
 have m0:G.h∈F?:=Ad!
 have m1:G.o∈F?:=Ad!
 have m2:G.l∈F?:=Ad!
 have m3:G.r∈F?:=Ad!
 refine⟨let⟨dx,e⟩:=x.ob;⟨dx,FM⟩,DY! m0 x.dh,DY! m1 x.dO,DY! m2 x.dl,DY! m3 x.dr,Ac! (DY! ?_ (x.hl q hq)),x.nd⟩;unfold BM;exact ZD _ (ZD _ (ZD _ (ZD _ (BJ hq))))
theorem AX.same(x:x?)(s:Bl H H'):AX C H' p G:=x.keep λb o _ e=>s b o e
theorem AX.MQ(x:x?)(hb:b∈F?):∃kvs,e? B7!:=by
 unfold BM at hb;rcases ZM hb with rfl|hb;.exact i! x.dh
 rcases ZM hb with rfl|hb;.exact i! x.dO
 rcases ZM hb with rfl|hb;.exact i! x.dl
 rcases ZM hb with rfl|hb;.exact i! x.dr
 obtain⟨q,hq,e⟩:=ZN hb;rw[<-e];exact i! Dx!
theorem AX.QU(x:x?)(hb:b∈F?):b≠p:=by obtain⟨kvs,e⟩:=x.MQ hb;obtain⟨dx,e'⟩:=x.ob;exact Im! e e'
theorem AX.tup_ne(x:x?)(hb:e? AT!):b≠p/\b∉F?:=by obtain⟨dx,e'⟩:=x.ob;refine⟨Im! hb e',FB!⟩;obtain⟨kvs,e⟩:=x.MQ m;rw[hb] at e;cases e
theorem AX.SV(x:x?)(hb:e? (.BE xs)):b≠p/\b∉F?:=by obtain⟨dx,e'⟩:=x.ob;refine⟨Im! hb e',FB!⟩;obtain⟨kvs,e⟩:=x.MQ m;rw[hb] at e;cases e
theorem AX.RV(x:x?):(G.h≠G.o/\G.h≠G.l/\G.h≠G.r)/\(G.o≠G.l/\G.o≠G.r)/\G.l≠G.r/\∀q∈G.holds,g?≠G.h/\g?≠G.o/\g?≠G.l/\g?≠G.r:=by have nd:=x.nd;unfold BM at nd;simp only[AN,BV,not_or] at nd;obtain⟨⟨a1,a2,a3,a4⟩,⟨b1,b2,b3⟩,⟨c1,c2⟩,d1,_⟩:=nd;refine⟨⟨a1,a2,a3⟩,⟨b1,b2⟩,c1,Ac! ?_⟩;have m:g?∈G.holds.map EV!:=BJ hq;exact⟨Lf! a4,Lf! b3,Lf! c2,Lf! d1⟩
theorem AX.fld(x:x?)(dx:Addr)(m t:Int):AX C (h! p (As! (Cp { G with AO:=m,BC:=t }))) p { G with AO:=m,BC:=t }:=by
 have n:∀{b},b∈F?->b≠p:=λhb=>x.QU hb;have m0:G.h∈F?:=Ad!
 have m1:G.o∈F?:=Ad!
 have m2:G.l∈F?:=Ad!
 have m3:G.r∈F?:=Ad!
 refine⟨⟨dx,Ac⟩,Hw! m0 x.dh,Hw! m1 x.dO,Hw! m2 x.dl,Hw! m3 x.dr,Ac! ?_,x.nd⟩;rw[Ab (n (by unfold BM;exact ZD _ (ZD _ (ZD _ (ZD _ (BJ hq))))))];exact Dx!
theorem AX.KS(x:x?)(l:lc):H9! G.o C6 { G with AH:=l }:=by obtain⟨⟨a1,a2,a3⟩,⟨b1,b2⟩,c1,d1⟩:=x.RV;have np:=JE! G.o;obtain⟨dx,e⟩:=x.ob;exact IE! a1 Ac (wv b1.symm x.dl) (LO! b2.symm) (Ac! (wv (d1 q hq).2.1 Dx!)) x.nd
theorem AX.OD(x:x?)(l:v!):H9! G.h A9 { G with hand:=l }:=by obtain⟨⟨a1,a2,a3⟩,⟨b1,b2⟩,c1,d1⟩:=x.RV;have np:=JE! G.h;obtain⟨dx,e⟩:=x.ob;exact⟨⟨dx,wv np.symm e⟩,Ac,LN! a1.symm,wv a2.symm x.dl,LO! a3.symm,Ac! (wv (d1 q hq).1 Dx!),x.nd⟩
theorem AX.SX(x:x?)(l:lc):H9! G.r C6 { G with AI:=l }:=by obtain⟨⟨a1,a2,a3⟩,⟨b1,b2⟩,c1,d1⟩:=x.RV;have np:=JE! G.r;obtain⟨dx,e⟩:=x.ob;exact IE! a3 (LN! b2) (wv c1 x.dl) Ac (Ac! (wv (d1 q hq).2.2.2 Dx!)) x.nd
theorem AX.cQ(x:x?)(t:T2)(ha:LD! a [])(hf:a∉F?):AX C (h! G.l (Dz (G.holds++[(t,a,[])]))) p (KE! (G.holds++[(t,a,[])])):=by
 obtain⟨⟨a1,a2,a3⟩,⟨b1,b2⟩,c1,d1⟩:=x.RV;have np:=JE! G.l;obtain⟨dx,e⟩:=x.ob;refine IE! a2 (LN! b1) Ac (LO! c1.symm) (Ac! ?_) ?_;.rcases ZI hq with hq|hq;(.rw[Ab (d1 q hq).2.2.1];exact Dx!);·(have e2:q=(t,a,[]):=by simpa using hq);subst e2;have:a≠G.l:=λz=>hf (by rw[z];simp[BM]);rw[Ab this];exact ha
 ·(have e2:BM (KE! (G.holds++[(t,a,[])]))=F?++[a]:=Ad!);rw[e2];exact Gy x.nd hf
universe E
def OL(t:T2):PyData:=.tuple [z! t.1,z! t.2]
theorem Ha(t:T2):(OL t).canLay0=true/\(OL t).depth<=2:=by
 unfold OL;constructor;.simp[PyData.canLay0,PyData.canLayAll0]
 .simp[PyData.depth,PyData.depthAll]
theorem uL{α:Type}{f:α->PyData}{n:Nat}(h:∀x,(f x).canLay0=true/\(f x).depth<=n):∀l:I!,PyData.canLayAll0 (l.map f)=true/\PyData.depthAll (l.map f)<=n
 | []=>⟨by simp[PyData.canLayAll0],by simp[PyData.depthAll]⟩
 | x::l=>by obtain⟨a,b⟩:=uL h l;obtain⟨c,d⟩:=h x;exact⟨by simp[PyData.canLayAll0,a,c],by simp only[AK,PyData.depthAll];lia⟩
theorem Jkt{α:Type}{f:α->PyData}{n:Nat}(h:∀x,(f x).canLay0=true/\(f x).depth<=n)(l:I!):(PyData.tuple (l.map f)).canLay0=true/\(PyData.tuple (l.map f)).depth<=n+1:=by obtain⟨a,b⟩:=uL h l;exact⟨by simp only[PyData.canLay0];exact a,by simp only[PyData.depth];exact GF KM⟩
theorem Ub(t:T2):YE (OL t):=⟨(Ha t).1,J8! AV (Ha t).2⟩
def AZ(H:Hp):I? J! v!:=Paired λa t=>Hh!
theorem Nt{K:W.Frag}{H:Hp}{a:Addr}{t:T2}(e:Hh!):AN! w! (OL t):=.tupP (CS.of e) (l! (E! _) (D1! (E! _)))
theorem J8{K:W.Frag}{H:Hp}{as:J!}{ts:v!}(p:D4!):Paired (KD K H) (as.map V.ref) (ts.map OL):=Jnd (λ_ _ e=>Nt e) p
def JT(a b:T2):Prop:=AM! [a.1,a.2] [b.1,b.2]
theorem E3(a b:T2):JT a b↔(a.1<b.1\/(a.1=b.1/\a.2<b.2)):=by
 unfold JT;rw[HT.HE,HT.HE];by_cases h1:a.1=b.1;.rw[AE h1];by_cases h2:a.2=b.2;(.rw[AE h2,HT.NF];constructor;(.intro z;cases z);.intro z;lia);.rw[AB h2];constructor;(.intro z;exact A9! h1 (BR z));.intro z;exact G6!
 .rw[AB h1];constructor;(.intro z;exact Q! (BR z));.intro z;exact G6!
universe S
inductive K1(xs:D!)(H:Hp)(Q:VK):Prop
 | mk d (l:H? (T2×V)) (ss:v!) (_:xs=[t?]) (_:I7! l.map Dd!) (_:l.length<64) (_:ss.Perm (l.map a!)) (_:ss.Pairwise JT) (_:∀(r:Addr)(as:J!),V? r->AZ H as ss->W? r (h! r Bk!))
theorem Da(hc:b?):HC! K1:=by
 intro AA s σ H xs us Q I rv h;obtain⟨d,l,ss,rfl,hd,WB,pm,pw,q⟩:=h;refine Og hc AA s σ H _ us Q I rv ⟨d,l.map λq=>(L6!,q.2),rfl,?_,Ax! WB,?_,?_,λr M hr mp mw ma=>?_⟩;·(have e:((l.map CD!).map λp=>((Iu!:ap),p.2))=l.map Dd!:=Cz!);rw[e];exact hd
 ·(have nd:ss.Nodup:=pw.imp λ{a b} h z=>by rw[E3,z] at h;lia);have hZ:SC l.map:=pm.nodup_iff.mp nd;(have e:h? (l.map CD!).map=(l.map a!).map C5!:=Ed! AL AL);rw[e];exact List.Pairwise.map _ (λa b h z=>h (by obtain⟨a1,a2⟩:=a;obtain⟨b1,b2⟩:=b;simp at z;rw[z.1,z.2])) hZ
 .intro p hp;obtain⟨q,_,e⟩:=ZN hp;rw[<-e];simp
 ·(have e:h? (l.map CD!).map=(l.map a!).map C5!:=Ed! AL AL);rw[e] at mp;(have e2:h? M.map=ss.map C5!:=by refine Ik (lt:=λa b=>AM! a b) (λa z=>Jz! Pg) (λa b h1 h2=>by have:=Wa h1 h2;rw[Pg] at this;cases this) (mp.trans (pm.symm.map _)) ?_ ?_;(.rw[EL];exact mw);.rw[EL];exact pw);(have hl:M.length=ss.length:=by have:=HL! e2;simpa using this);(have e3:(M.map λp=>V.ref p.2)=(M.map GM).map V.ref:=Cz!);rw[e3];refine q r _ hr (E8 (Ax! hl) λj a t e4 e5=>?_);rw[ZH] at e4;cases hm:M[j]? with | none=>rw[hm] at e4;cases e4 | some m =>rw[hm] at e4;cases e4;(have e6:(M.map a!)[j]?=some m.1:=Ks! hm);rw[e2,ZH,e5] at e6;have e7:Bf!=m.1:=ZO e6;have:=ma m (ZP hm);rw[<-e7] at this;exact this
universe E
theorem Jcq(h:LD! d l):I7! (l.map (Kt! t)).map Dd!:=by
 have e:((l.map (Kt! t)).map Dd!)=l.map (Kt! (tk t)):=Cz!
 rw[e];exact Q! h
theorem Jgs(h:LE! d l):I7! (l.map λq=>(q.1,Cg!)).map Dd!:=by
 have e:((l.map λq=>(q.1,Cg!)).map Dd!)=l.map Fe!:=Cz!
 rw[e];exact Q! h
theorem Gj{K:W.Frag}{a p:Addr}{xs:D!}{tt:TT}{te:TE}{caps:A3!}{σ:L2.St}{H:Hp}{Q:SL Hp}(Pv:Nat->o0)(h0:Pv 0 [] Lq!)(hl:∀i ys H2,EQ!->Hn!->DW K H2 a xs/\Fs!)(hs:∀i x ys H2 (N:o0),BF!->Hn!->(∀ys H,Pv (i+1) ys H->N ys H)->HH! H2 (Ku! (JU! (N (ys++[v]) GZ!)) (N ys H4)))(hd:∀ys H2,Pv xs.length ys H2->Q H2) : MJ! o0 [] Lq! (∀i m ys H2,W i m ys H2->Fs! /\ (((WJ K a).stop i H2/\Q H2)\/((WJ K a).go i H2/\∀x H3,(WJ K a).TR i H2 x H3->HH! H3 (Ku! (JU! (Cp! Kb! GZ!)) (Cp! ys H4))))):=by
 refine Gg! (λi m ys H=>m=KV!/\EQ!/\Pv i ys H) xs.length;rintro i m ys H2 ⟨rfl,hi,pv⟩;obtain⟨q1,q2⟩:=hl i ys H2 hi pv;refine E? q2;by_cases JL:KW!;.refine A9! ⟨xs,xs[i],q1,by simp[JL]⟩ (λx H3 y=>?_);obtain⟨e,y⟩:=y;subst e;exact hs i x ys _ (λzs H'=>∃m',m'<KV!/\(m'=xs.length-No/\i+1<=xs.length/\Pv (i+1) zs H')) (y xs q1) pv λzs H' pz=>⟨_,H!,rfl,JL,pz⟩
 ·(have e:i=xs.length:=H!);subst e;exact Bw! ⟨xs,q1,ZG _⟩ (hd ys H2 pv)
theorem Je{lo:Int}{n:Nat}{p:Addr}{tt:TT}{te:TE}{caps:A3!}{σ:L2.St}{H:Hp}{Q:SL Hp}(Pv:Nat->o0)(h0:Pv 0 [] Lq!)(hl:∀i ys H2,i<=n->Hn!->Fs!)(hs:∀i ys H2 (N:o0),i<n->Hn!->(∀ys H,Pv (i+1) ys H->N ys H)->tt (Y? E! (lo+i)::Ce!) H2 (Ku! (te (Y? E! (lo+i)::Ce!) H4 λv H5=>M! H5 p (.BE ys)/\ys.length<sizeLine/\N (ys++[v]) GZ!) (N ys H4)))(hd:∀ys H2,Pv n ys H2->Q H2) : MJ! o0 [] Lq! (∀i m ys H2,W i m ys H2->Fs! /\ (((bz lo n).stop i H2/\Q H2)\/((bz lo n).go i H2/\∀x H3,(bz lo n).TR i H2 x H3->HH! H3 (Ku! (JU! (Cp! Kb! GZ!)) (Cp! ys H4))))):=by
 refine Gg! (λi m ys H=>m=n-i/\i<=n/\Pv i ys H) n;rintro i m ys H2 ⟨rfl,hi,pv⟩;refine E? (hl i ys H2 hi pv);by_cases JL:i<n;.refine A9! JL (λx H3 y=>?_);obtain⟨e,y⟩:=y;subst e y;exact hs i ys _ (λzs H'=>∃m',m'<n-i/\(m'=n-No/\i+1<=n/\Pv (i+1) zs H')) JL pv λzs H' pz=>⟨_,H!,rfl,JL,pz⟩
 ·(have e:i=n:=H!);subst e;exact Bw! (ZG _) (hd ys H2 pv)
def Wn(p d:Addr):HO:=.ext λh=>h.IsItemsView p d
theorem O2(d:Addr)(hd:FQ!) : MeetsIn prog w (C6! Builtin.«dict.items» [t?]) (λ_ R s=>Hu! DC!/\LU! (P! s.heap.objs.size) (BV! (AD! (Fc! Ct!)))) :=.of_wp λA R s ⟨ht,h⟩=>by unfold Builtin.«dict.items»;refine ZR ?_;unfold Builtin.Dict.noArgs;refine ZR (IY ht ?_);show El! (pure d);refine ZS ?_;show Ft! (Builtin.Dict.showsAll d);unfold Builtin.Dict.showsAll;rw[AB (Kg! hd)];refine LZ!;exact D? EC (ZS (m? h))
universe S
theorem Jgk:pD X "dict.items" (λx xs H Q=>∃d kvs,x=t?/\xs=[]/\WP d (.dT kvs)/\EI! (Wn p d)):=by intro AA s σ H x xs v us Q I rx rs h;obtain⟨d,kvs,rfl,rfl,hd,q⟩:=h;cases rx;cases rs;obtain⟨z,lo,ys,rel,o,es,ep,g1,g2,g3,g4,g5⟩:=KQ! B7! hd;refine PySem.call_meetsIn PySem.F.slot_dict_items (At g1 g2.1) PySem.F.entry_dict_items (PySem.F.args_dict_items_1 _) (O2 d lo) (E? (At g1 g2.1));have hn:FN!:=De!;refine JV! (Wn s.heap.objs.size d) Ay! ?_ (q _ hn);have g:M! (s.heap.push (Fc! Ct!)).get? s.heap.objs.size (Fc! Ct!):=s?;exact⟨At! _ g rfl,i! g,λh1 h2 ⟨o,e,r⟩ k=>At (k o e) r⟩
universe E
def iW(h:Heap)(g:SL Addr)(e:Addr)(cls:Value):Prop:=g e/\∃oe vs a0,AH! e oe/\oe.cls=cls/\oe.data=DT!/\FC! 0 a0 /\
 (FC! 1 L!\/∃T oT ts,FC! 1 (P! T)/\g T/\T≠e/\AH! T oT/\oT.data=BU! ts/\ts[3]?=some L!)
theorem iW.mono(x:iW h g e cls)(k:∀b,g b->g' b):iW h g' e cls:=by obtain⟨g1,oe,vs,a0,h1,h2,h4,h5,h6⟩:=x;refine⟨k _ g1,oe,vs,a0,h1,h2,h4,h5,h6.imp (Cm!) ?_⟩;rintro⟨T,oT,ts,t1,t2,t3⟩;exact⟨T,oT,ts,t1,k _ t2,t3⟩
def dY(h:Heap)(g:SL Addr)(e:Addr)(cls:Value):Prop:=g e/\∃oe vs a0 T oT ts,AH! e oe/\oe.cls=cls/\oe.data=DT!/\FC! 0 a0/\FC! 1 (P! T)/\g T/\T≠e/\AH! T oT/\oT.data=BU! ts/\ts[3]?=some L!
theorem dY.at(x:Du! h):iW h g e cls:=by obtain⟨g1,oe,vs,a0,T,oT,ts,h1,h2,h3,h4,h5⟩:=x;exact⟨g1,oe,vs,a0,h1,h2,h3,h4,AO! T oT ts h5⟩
def VG(P:Program)(w:World):YG:=λouter H s E e s'=>∃ex cls H',e=K! ex/\dY s'.heap (λb=>AT s.heap.get?/\pi) ex cls/\E cls none H'/\s'.os=s.os/\Dq!/\ID! outer [] s'.heap/\MM P w H' s'.heap
theorem Oa(ok:n?)(e:FV!):∃ob,ca ob:=by have x:=ok a o e;cases o with | BE xs=>obtain⟨_,_,_,_,e⟩:=x;exact w? | A_ xs=>obtain⟨_,_,_,o,e,_⟩:=x;exact w? | dK kvs=>obtain⟨_,_,_,_,o,_,_,e,_⟩:=x;exact w? | dT kvs=>obtain⟨_,_,_,_,o,_,_,e,_⟩:=x;exact w? | set S n=>obtain⟨o,_,_,_,e,_⟩:=x;exact w? | ins C dx fs=>obtain⟨_,_,_,e,_⟩:=x;exact w? | own y=>obtain⟨_,e⟩:=x;exact w? | xd fs=>obtain⟨_,⟨_,_,_,e,_⟩,_⟩:=x;exact w? | oA lo hi=>obtain⟨_,_,_,e⟩:=x;exact w? | GV ob u=>obtain⟨e,_⟩:=x;exact w? | bJ ps=>exact i! (IQ!) | met f y=>exact i! (IQ!) | ext φ=>obtain⟨_,⟨_,e⟩,_⟩:=x;exact w?
structure L_(fr:J!)(g:SL Addr)(h h':Heap):Prop where
 keep:∀b o,PP->b∉fr->¬g b->EY!
 slot:DU! (b∈fr) GH!
theorem L_.trans(a:L_ fr g h h1)(b:L_ fr g h1 h2):L_ fr g h h2 :=⟨λc o e n1 n2=>b.keep c o (a.keep c o e n1 n2) n1 n2,λc o e m=>by obtain⟨sl,e1⟩:=a.slot c o e m;obtain⟨cW,e2⟩:=b.slot c _ e1 m;exact⟨cW,e2⟩⟩
universe S
variable {M:Model}{A:Around}{E:Value->Shared->Prop}{s:Shared}{base:Heap}{env:Env}{outer:List Env}{L e:Addr}{cls:Value}{g:Addr->Prop}
theorem Rk(hl:Ig! h.FunFrames)(hd:∀b∈Hd,Gc!)(k1:(W.hideAll h Hd).StaysIn h')(k4:DU! (∀vs,o.data≠DT!) GH!):L_ (MK (env::outer)) g h h':=by
 refine⟨λb o e n1 n2=>k1 b o (W.hideAll_get _ e FB!),λb o e m=>?_⟩;.rcases hd b m with z|z;(.exact n1 z);.exact n2 z
 .obtain⟨_,o',e',hn⟩:=hl.mem m;rw[e] at e';cases e';exact k4 b o e hn
theorem N0{h h':Heap}{Hd:J!}{T:Addr}{oT:Obj}{ts:db}(hl:Ig! h.FunFrames)(hd:∀b∈Hd,Gc!)(k4:DU! (∀vs,o.data≠DT!) GH!)(hT:W! (W.hideAll h Hd).get? T)(eT:FE! T oT)(dT:oT.data=BU! ts)(fresh:∀b,AT h.get?->g b):g T:=by cases q:h.get? T with | none=>exact fresh T q | some o =>(have m:T∈Hd:=by apply Classical.byContradiction;intro n;rw[W.hideAll_get _ q n] at hT;cases hT);rcases hd T m with z|z;(.exfalso;obtain⟨_,o',e',hn⟩:=hl.mem z;rw[q] at e';cases e';obtain⟨sl,e2⟩:=k4 T o q hn;rw[eT] at e2;cases e2;exact hn ts dT);.exact z
theorem Ob:∀en∈l,∀a,en.frame=U! a->a∈MK l:=λen he a ha=>IA.mpr ⟨en,he,ha⟩
theorem Jjg{Q:Bv!}(cz:A.frames=Ih! some)(hl:Ig! s.heap.FunFrames)(hf:env.frame=U! L)(x:iW s.heap g e cls)(fresh:∀b,AT s.heap.get?->g b)(h:∀h',Du! h'->L_ (MK (env::outer)) g s.heap h'->Q () d!):BM! (leaving env DB!):=by
 obtain⟨ge,oe,vs,a0,h1,h2,h3,h4,h5⟩:=x;subst h2;rcases h5 with h5|⟨T,oT,ts,t1,t2,t3,t4,t5,t6⟩;·(have hd:∀b∈Ih! MK++[e],Gc!:=M? (by rcases ZI hb with z|z;(.exact O? z);·(have:b=e:=KK!);rw[this];exact y! ge));refine wpAny_leaving_firstW (base:=W.hideAll s.heap (Ih! MK++[e])) (a0:=a0) cz (W.funFrames_hide hl λen he a ha=>ZB _ (Ob en he a ha)) hf h1 (λb o q=>W.of_hideAll _ q) (LM _ Y!) h3 h5 h4 λh' hL=>?_;obtain⟨k1,k2,⟨jJ,i8,T',jK,cT,b1,⟨b2,b3⟩,b4,b5,b6,b7,b8,b9,fY⟩,k4⟩:=hL;exact h h' ⟨ge,jJ,i8,a0,T',jK,cT,b1,b2,b4,b3,b5,N0 hl hd k4 b6 b8 b9 fresh,b7,b8,b9,fY⟩ (Rk hl hd k1 k4)
 ·(have hd:∀b∈Hf!,Gc!:=M? (by rcases ZI hb with z|z;(.exact O? z);·(have:b=e\/b=T:=KK!);rcases this with rfl|rfl;(.exact y! ge);.exact y! t2));refine wpAny_leaving_nextW (base:=W.hideAll s.heap (Hf!)) (cls:=oe.cls) (a0:=a0) cz (W.funFrames_hide hl λen he a ha=>ZB _ (Ob en he a ha)) hf ⟨oe,vs,T,oT,ts,h1,v4 h4,h3,t1,LM _ Y!,t3,t4,t5,t6⟩ (λb o q=>W.of_hideAll _ q) (LM _ Y!) λh' hL=>?_;obtain⟨k1,k2,⟨jJ,i8,T',jK,cT,b1,⟨b2,b3⟩,b4,b5,b6,b7,b8,b9,fY⟩,k4⟩:=hL;exact h h' ⟨ge,jJ,i8,a0,T',jK,cT,b1,b2,b4,b3,b5,N0 hl hd k4 b6 b8 b9 fresh,b7,b8,b9,fY⟩ (Rk hl hd k1 k4)
theorem Jlr{Q:Bv!}(cz:A.frames=Ih! some)(hl:Ig! s.heap.FunFrames)(hf:env.frame=U! L)(x:Du! s.heap)(fresh:∀b,AT s.heap.get?->g b)(h:∀h',Du! h'->L_ (MK (env::outer)) g s.heap h'->Q () d!):wpAny M A (noteFrame DB! env) (λ_ s2=>wpAny M A (setFlight DB! none) Q E s2) E s:=by
 obtain⟨ge,oe,vs,a0,T,oT,ts,h1,h2,h3,h4,t1,t2,t3,t4,t5,t6⟩:=x;subst h2;have hd:∀b∈Hf!,Gc!:=M? (by rcases ZI hb with z|z;(.exact O? z);·(have:b=e\/b=T:=KK!);rcases this with rfl|rfl;(.exact y! ge);.exact y! t2)
 refine wpAny_noteFrame_onW (base:=W.hideAll s.heap (Hf!)) (cls:=oe.cls) (a0:=a0) cz (W.funFrames_hide hl λen he a ha=>ZB _ (Ob en he a ha)) hf ⟨oe,vs,T,oT,ts,h1,v4 h4,h3,t1,LM _ Y!,t3,t4,t5,t6⟩ (λb o q=>W.of_hideAll _ q) (LM _ Y!) λh' hN=>?_;obtain⟨k1,k2,k3,k4⟩:=hN;refine wpAny_setFlight_noneW (s:=d!) k1 k2 k3 λh2 j1 j2 j3 j4=>?_;obtain⟨jJ,i8,T',jK,cT,b1,⟨b2,b3⟩,b4,b5,b6,b7,b8,b9,fY⟩:=j3;have kk:∀b o,AC->(∀vs,o.data≠DT!)->∃sl,IN h2.get? { o with slots:=sl }:=λb o q n=>by obtain⟨sl,q2⟩:=k4 b o q n;exact⟨sl,j4 b _ q2 n⟩
 exact h h2 ⟨ge,jJ,i8,a0,T',jK,cT,b1,b2,b4,b3,b5,N0 hl hd kk b6 b8 b9 fresh,b7,b8,b9,fY⟩ (Rk hl hd j1 kk)
theorem Jlu(x:Du! s.heap)(hg:∀b∈fr,¬g b)(h:∀h',Du! h'->L_ fr g s.heap h'->Q () d!):BM! (setFlight DB! none):=by
 obtain⟨ge,oe,vs,a0,T,oT,ts,h1,h2,h3,h4,t1,t2,t3,t4,t5,t6⟩:=x;subst h2;have hsz:3<ts.size:=(NB.mp t6).1;refine wpAny_setFlight_none h1 h3 t1 t4 t5 hsz (h _ ⟨ge,oe,vs,a0,T,_,_,(DC _ _ t3).trans h1,rfl,h3,h4,t1,t2,t3,GO _ t4 (Obj.isFreed_of_fields (OX t5 _)),OX t5 _,by simp[hsz]⟩ ⟨λb o q _ n=>?_,λb o q m=>?_⟩);.exact(DC _ _ (λz=>n (Ki! t2))).trans q
 .refine⟨o.slots,(DC _ _ (λz=>hg b m (Gs! t2))).trans q⟩
universe E
universe S
variable {X:Cx Kx}{AA:List (Addr×Obj)}{σ:L2.St}{H H1:Hp}{s s1:Shared}{h':Heap}{g:Addr->Prop}{ex:Addr}{cls:Value}
theorem Td(ok:MM P w H1 h)(a:L_ fr g h h')(hf:∀b∈fr,FS!)(hg:∀b,g b->FS!):MM P w H1 h':=λb o e =>(ok b o e).ON (λc u hc q=>a.keep c u q (λm=>by have:=hf c m;rcases hc with rfl|hc;(.rw[this] at e;cases e);.rw[this] at hc;cases hc) (λm=>by have:=hg c m;rcases hc with rfl|hc;(.rw[this] at e;cases e);.rw[this] at hc;cases hc)) (λ_ q=>q) ES!
theorem Xf(u:Un fs [] H0 H1 s0 h)(a:L_ fr g h h')(hg:KB! s0.get? (¬g b))(cz:∀b o,x! s0.get?->b∈fr->b∈fs)(hH:∀b∈fr,FS!):Un fs [] H0 H1 s0 h' where
 keep:=λb o e n1 n2 n3=>a.keep b o (u.keep b o e n1 n2 n3) (λm=>n2 (cz b o e m)) (Z? hg)
 slot:=λb o e n1 m n3=>by
  obtain⟨sl,q⟩:=u.slot b o e n1 m n3
  by_cases hm:b∈fr
  .obtain⟨cW,q2⟩:=a.slot b _ q hm
   exact⟨cW,q2⟩
  .exact⟨sl,a.keep b _ q hm (Z? hg)⟩
 free:=u.free
 there:=λb o e n=>by
  obtain⟨o',q⟩:=u.there b o e n
  by_cases hm:b∈fr
  .obtain⟨cW,q2⟩:=a.slot b _ q hm
   exact i! q2
  .exact i! (a.keep b _ q hm (Z? hg))
 PR:=u.PR
 NM:=u.NM
 PU:=u.PU
universe E
def Jhr(X:A!)(E:XK):Prop:=∀(AA:G!)(σ:L2.St)(H1:Hp)(s1:Shared)(ex:Addr)(cls:Value),EA!->iW s1.heap (λb=>AT X.II.heap.get?/\FS!) ex cls->E cls none H1->X.xe (P! ex) s1
universe S
variable {P:Program}{w:World}{K:W.Frag}{mg:Str->Option Value}{base:Heap}{N:List Str}{qual:Str}{scope:Scope}{f:Addr}{cd:Value}{A:Around}{outer:List Env}{s:Shared}{H:Hp}{E:XK}
theorem Io:Jhr (Hk!) E:=by
 intro AA σ H1 s1 ex cls I x hE;have yG:CZ! (∃o',IN s1.heap.get? o'):=T? (I.base.there b o e (by simp[Lm]));refine Jjg (base:=base) (L:=s.heap.objs.size) I.ok.frames I.stack rfl x (λb q=>?_) λh' x' as=>?_;.constructor;(.cases q2:s.heap.get? b with | none=>exact q2 | some o =>obtain⟨o',e⟩:=yG b o q2;rw[q] at e;cases e);.cases q2:H1 b with | none=>rfl | some o =>obtain⟨ob,e⟩:=Oa I.DM q2;rw[q] at e;cases e
 .have ND:∀b∈MK (Jr!::outer),FS!:=M? (I.QH b hb);refine⟨ex,cls,H1,rfl,x',hE,I.os,I.bare,Xf (fs:=MK outer) I.base as (λb o e z=>?_) (λb o e m=>?_) ND,Td I.DM as ND λb z=>z.2⟩;(.have:=z.1;have e':AC:=e;rw[show(Hk!).II.heap.get? b=s.heap.get? b from rfl,e'] at this;cases this);.rcases ZM (show b∈s.heap.objs.size::MK outer from m) with z|z;(.have:=AR (show AC from e);rw[z] at this;exact BE! this);.exact z
theorem Bs:Jf Bl! (Hk!) E:=by intro AA σ H0 s0 e s' I ⟨ex,cls,H',he,x,hE,ho,hg,u,ok⟩;subst he;have I':Inv (Hk!) AA σ H' s':=I.WQ (ch:=[]) ho u ok hg (M? (by simp at hb));refine Io AA σ H' s' ex cls I' (x.at.mono λb z=>⟨?_,z.2⟩) hE;cases q:s.heap.get? b with | none=>exact q | some o =>obtain⟨o',e⟩:=I.base.there b o q (by simp[Lm]);rw[z.1] at e;cases e
universe E
universe S
variable {P:Program}{w:World}{K:W.Frag}{mg:Str->Option Value}{base:Heap}
theorem xQ{x qual:Str}{st:Stmt}{f:Addr}{fd:FuncData}{N ps:T!}{k:Nat}{sp:Sp}(F:Gm!)(S:Jp!)(len:He!)(UL:∀(EB:Value) (A:Around) (outer:P?) (s:Shared) (H:Hp) (vs:D!) (Q:VK) (E:XK),GL! (KI! Ep! EB)->Cn! -> Jg! (PM (Is! Bl!) Fb! t)):IJ! Bl!:=by obtain⟨oc,od,kV,doc,pm,an,EB,ct,eD,rfl,lk,XB⟩:=F.ex;exact Jkm lk XB S len λA outer s H vs Q E hr aw=>UL EB A outer s H vs Q E hr aw
theorem Hz{x qual:Str}{st:Stmt}{f:Addr}{fd:FuncData}{N ps:T!}{k:Nat}{sp:Sp}(F:Gm!)(S:Jp!)(h:∀vs H Q E,Cn!->Bd P w K mg base Bl! false N ps qual st f k vs H Q E):IJ! Bl! :=xQ F S (λvs H Q E z=>(h vs H Q E z).1) λEB A outer s H vs Q E hr z=>(h vs H Q E z).2 EB A outer s hr
theorem ET.UY{k:Nat}{f:Addr}{fd:FuncData}{ps:T!}{sp:Sp}(F:Jq! YZ):Jq! Bl! :=⟨F.len,λA outer s H args us vs Q E hr he hb hv hs=>IJ (F.run A outer s H args us vs Q E hr he hb hv hs) λr s' h=>by cases r with | ok fl=>cases fl<;>exact h | error e=>exact K7!⟩
universe E
def ik:F!:=[G? "ValueError",G? "Exception",G? "BaseException",G? "object"]
structure Xa(K:W.Frag)(mg:V!)(x:Str)(C:Addr):Prop where
 mg:Ix mg Ap!
 ex:W.excIn K C ik Cw!=true
universe S
variable {X:Cx Kx}{x:Str}{C:Addr}{E:XK}{np HZ pos p1:Pos}{msg:Str}{j:Nat}
theorem Jct{K:W.Frag}{h:Heap}{C:Addr}(XK:K.In h)(q:W.excIn K C ik Cw!=true):∃nm q N bs bm hdct sn sub ab col dd k0 k1 k2 k3 k5 mN,AH! C (excClassObj nm q C N bs bm hdct sn sub ab col dd k0 k1 k2 k3 k5 Cw!)/\h.Ns N mN/\W! mN LP!/\OwnTail h ik bm:=by
 unfold W.excIn at q;split at q;.rename_i dd cd sl ho;split at q;(.rename_i C' bm k0 k1 k2 k3 n k5 hm hs;simp only[Bool.and_eq_true,MZ,Bool.not_eq_true'] at q;obtain⟨⟨⟨⟨⟨rfl,rfl⟩,lE⟩,ht⟩,DM⟩,jh⟩:=q;obtain⟨nm,bs,mro,ns,qn,hd,sn,sub,ab,col,del⟩:=cd;dsimp only at hm lE DM jh;subst hm lE;(have ax:sl=#[k0,k1,k2,k3,Y? BT! Cw!,k5]:=by obtain⟨l⟩:=sl;simp only at hs;rw[hs]);subst ax;exact⟨nm,qn,ns,bs,bm,hd,sn,sub,ab,col,dd,k0,k1,k2,k3,k5,_,XK _ _ ho,.of_isNs (W.isNs_of_in XK DM),W.nsMap_none_of_in XK DM jh,W.tail_of_in XK ht⟩);.cases q
 .cases q
theorem Jej{X:A!}{h:Heap}{mg:V!}(XK:Kx.In h)(c:Xa Kx mg x C):∃nm q N bs bm hdct sn sub ab col dd k0 k1 k2 k3 k5 mN,AH! C (excClassObj nm q C N bs bm hdct sn sub ab col dd k0 k1 k2 k3 k5 Cw!)/\h.Ns N mN/\W! mN LP!/\OwnTail h ik bm:=Jct XK c.ex
theorem Hu{X:A!}(hc:b?)(hg:Ab!)(c:Xa Kx X.mg x C)(hx:Jhr X E)(hex:X.ex=[]:=by rfl)(hd:UF:=by decide)(VS:MS! HZ Jk!:=by rfl)(hs:starEach Jk! X.env=[(false,EZ! (.Constant (u? msg) j p1))]:=by rfl) : PS X (.Raise (some (.Call (y? x np) Jk! [] HZ)) none pos) (λ_ _ H=>E Ap! none H):=by
 intro AA s σ H D I h;obtain⟨nm,q,N,bs,bm,hdct,sn,sub,ab,col,dd,k0,k1,k2,k3,k5,mN,hC,hN,jh,tl⟩:=Jej (X:=X) I.mod.XZ c;refine wpAny_Raise_call_subU (C:=C) (nm:=nm) (q:=q) (N:=N) (bs:=bs) (bm:=bm) (hdct:=hdct) (sn:=sn) (sub:=sub) (ab:=ab) (col:=col) (dd:=dd) (k0:=k0) (k1:=k1) (k2:=k2) (k3:=k3) (k5:=k5) F.excBase_ValueError (bmB:=ik) ZV F.excBase_ValueError (tl.hasType ZV) AZ! VS jh ?_;refine Kq I hg c.mg (E? rfl) hd;have ha:PA X Jk! (D0 (tC (u? msg)) Jq):=Aa A7 Ae hs;have hA:=ha HZ AA s σ H (λvs H1=>vs=[u? msg]/\H1=H) I LY!;rw[hs] at hA ⊢;refine HU (DZ hA ?_);rintro us s2 ⟨vs,H2,I2,r2,e1,e2⟩;subst e1 e2;refine⟨rfl,by show us.length<=sizeLine;rw[<-r2.length];show xL 1;decide,I2.bk _ _ hC,(let⟨o,es,ep,e,r⟩:=hN;⟨o,es,ep,I2.bk _ _ e,r⟩),tl.keeps I2.bk,λh' e hm=>?_⟩;obtain⟨t,ht,_⟩:=hm.there;have none_:∀b,AT s2.heap.get?->AT X.II.heap.get?/\AT H2:=λb q=>by constructor;(.cases q2:X.II.heap.get? b with | none=>rfl | some o =>obtain⟨o',e'⟩:=I2.base.there b o q2 (Ck! hex);rw[q] at e';cases e');.cases q2:H2 b with | none=>rfl | some o =>obtain⟨ob,e'⟩:=Oa I2.DM q2;rw[q] at e';cases e'
 have I3:IR H2 { s2 with heap:=h' }:=I2.kept (t':=s2.toks) hm.keeps;exact hx AA σ H2 _ e Ap! I3 ⟨none_ e hm.new,_,_,_,ht,rfl,rfl,rfl,AP!⟩ h
universe E
universe S
universe E
def Tc(X:A!)(AA:G!)(E:N!):A!:={ X with pn:=Es!,xe:=E }
def jX(X:A!)(ex:Addr):A!:={ X with A:=X.A.mark (some (P! ex)),calm:=false,xe:=Ex! }
universe S
theorem Cx.Ok.mX(ok:X.Ok):(Tc X AA E).Ok:=IK!
theorem Cx.Ok.mj(ok:(Tc X AA E).Ok):X.Ok:=IK!
theorem Cx.Ok.toX(ok:X.Ok):(jX X ex).Ok:=⟨ok.mod,ok.kind,ok.glob,ok.blt,ok.above,ok.inj,ok.has,ok.bw,λz=>(by cases z),ok.frames,ok.cU,ok.XE,ok.bs,ok.XG,ok.SJ,ok.RP,ok.MW,ok.YT⟩
theorem Jd0(I:B!):Gf! (Tc X AA E) []:=Ha! Cx.Ok.mX I.ok (λp hp=>I.pin p (by have W_:p∈(Es!)++[]:=hp;rwa [AG] at W_))
theorem Ic(I:Gf! (Tc X AA E) UI):B!:=Ha! Cx.Ok.mj I.ok (λp hp=>I.pin p (ZB _ hp))
theorem Jcl(I:B!):JF! (jX X ex):=Ha! Cx.Ok.toX I.ok I.pin
theorem Ph(I:JF! (jX X ex))(ok:X.Ok):B!:=MM! ok I.pin
theorem Jdz(I:B!)(hn:FL!)(h0:W! X.II.heap.get? a)(h1:a≠X.env.locals)(h2:Bg! (c≠a))(h3:J7! (p.1≠a))(ok:DV X.prog X.w BI! s.heap a o):IR BI! s:=by
 have ne:∀{b:Addr} {u:HO},e? u->b≠a:=λe=>Aj e hn;refine⟨I.ok,I.os,I.bare,⟨I.base.keep,I.base.slot,λb ob e n hx=>?_,I.base.there,λb xs e=>?_,λb ob u e=>?_,λb ps e=>?_⟩,I.loc,I.cell,S! (CU! Ab h1) I.free,λx c e=>S! (Ab (h2 x c e)) (I.I_ x c e),A0!,CR! ?_,I.len⟩;.rw[Ab (λz=>by rw[z,h0] at e;cases e)];exact I.base.free b ob e n hx
 .have:=I.base.PR b xs e;rw[Ab (ne this)];exact this
 .have:=I.base.NM b ob u e;rw[Ab (ne this)];exact this
 .obtain⟨more,q⟩:=I.base.PU b ps e;exact⟨more,Au! (Ab (ne q))⟩
 .obtain⟨a1,a2,a3⟩:=Fr!;exact⟨a1,S! (Ab (h3 p hp)) a2,a3⟩
 .by_cases hb:b=a;(.subst hb;rw[Ac] at e;cases e;exact ok);.rw[Ab hb] at e;exact(I.DM b u e).ON (H8!) (λc q=>Au! (Ab (ne q))) λc xs q=>Au! (Ab (ne q))
universe E
def Xb(X:A!)(ES:L2.St->XK):Prop:=∀(AA:G!)(σ:L2.St)(H:Hp)(s:Shared)(e:Value)(s':Shared),Av! (VG X.prog X.w X.stack H s (ES σ) e s') (X.xe e s')
universe S
theorem Jie{X:A!}(F:MR! (VG X.prog X.w))(hr:Di!)(hb:Binds Kx fd ps [])(hx:Xb X ES)(I:B!)(r:By!)(h:sp vs H Q (ES σ)):T0 (Bs! call us):=by
 have hl:us.length=ps.length:=q? r.length (F.len _ _ _ _ h)
 refine wpAny_call (IJ (F.run X.A X.stack s H FU! us vs Q (ES σ) hr I.gb (by have:=hb s us I.TL (q! AG hl);rwa [AG] at this) r h) λr s' hq=>?_);cases r with | error e=>exact hx AA σ H s e s' I hq | ok fl =>cases fl with | ret u=>exact I.after hq | next=>exact hq.elim | brk=>exact hq.elim | cont=>exact hq.elim
def Jk5(sp:Sp)(ES:L2.St->XK)(t:TA):TE:=Lz! (sp vs H1 Q (ES σ))
theorem Jfv{X:A!}(F:MR! (VG X.prog X.w))(hr:Di!)(hg:Ab!)(hm:FK! EX!)(hk:W.keepIn Kx EX!=true)(hb:Binds Kx fd ps [])(hx:Xb X ES)(ha:B8!)(YQ:UF:=by decide)(he:BP!:=by rfl)(RL:D5!:=by rfl):GF! (Jk5 sp ES t):=by intro AA s σ H Q I h;refine IK (Kq I hg hm (W.callWith_K (h₀:=X.base) I.ok.mod.XZ hk (EM! (λus s1 ⟨vs,H1,I1,r,q⟩=>⟨I1.TL,Jie F hr hb hx I1 r q⟩)) he RL) YQ)
universe E
theorem Jkp{M:Model}{A:Around}{E:N!}{s:Shared}{K:W.Frag}{C D e:Addr}{oe:Obj}{Q:o! Bool}(XK:B5!)(cD:W.excIn K D ik Cw!=true)(gR:W.mroIn K C A4!=some true)(he:C8! e oe)(ZZ:oe.cls=K! C)(hq:Q true s):BM! (excMatches DB! A4!):=by
 obtain⟨h,g,d,t,os⟩:=s
 obtain⟨nm,q,N,bs,bm,hdct,sn,sub,ab,col,dd,k0,k1,k2,k3,k5,mN,hD,hN,jh,tl⟩:=Jct XK cD
 have hB:(Value.ref D::bm).contains (G? "BaseException")=true:=by rw[M',tl.hasType (b:=true) ZV,Bool.or_true]
 have f:=tc_notTuple
 have LS:=W.looks_mroIn (M:=M) XK gR
 unfold excMatches
 repeat (first|(with_reducible refine wpAny_loadPart_at he ?_;rw[ZZ])|with_reducible refine wpAny_loadPart_at hD ?_|(with_reducible refine wpAny_isSubtype_exc hD ?_;rw[hB])|with_reducible refine LS.at ?_|wp_step)
 exact hq
def gone(D:Ends)(i:Nat):Ends:={ nx:=λσ H=>D.nx (σ.set i none) H,bk:=λσ H=>D.bk (σ.set i none) H,ct:=λσ H=>D.ct (σ.set i none) H,rt:=D.rt }
def Jmk(K:W.Frag)(D:Addr)(cls:Value)(C:Addr):Prop:=cls=K! C/\W.mroIn K C A4!=some true
universe S
universe E
universe E FX
universe N FX
open PySem PySem.Spec PySem.Calls PyProof.Rows L2 Builtin Builtin.ObjectAttr Builtin.Getset_descriptor
set_option maxHeartbeats 400000
universe S
variable {prog:Program}{w:World}{A:Around}{E:Value->Shared->Prop}{s:Shared}{K:W.Frag}{x C:Addr}
universe E
theorem J7{ds:J!}{its:F!}(h:Vals (ds.map V.ref) its):its=ds.map Value.ref:=by induction ds generalizing its with | nil=>cases h;rfl | cons d ds ih=>cases h with|cons h1 h2=>cases h1;rw[ih h2];rfl
universe S
universe E
universe E FX
universe N FX
open PySem PySem.Spec PyProof.Rows L2
theorem ET.no{P:Program}{w:World}{K:W.Frag}{mg:V!}{base:Heap}{k:Nat}{f:Addr}{fd:FuncData}{ps:T!}{sp:Sp}(F:Jq! Bl!):ET P w K mg base YZ k f fd ps (λvs H Q _=>sp vs H Q E0) :=⟨λvs H Q E q=>F.len vs H Q E0 q,λA outer s H args us vs Q E hr he hb hv hs=>IJ (F.run A outer s H args us vs Q E0 hr he hb hv hs) λr s' h=>by cases r with | ok fl=>cases fl<;>exact h | error e=>obtain⟨_,_,_,_,_,z,_⟩:=h;exact z.elim⟩
universe E FX
universe N FX
open PySem L2
universe E FX
universe N FX
open PySem PySem.Spec PyProof.Rows L2
inductive UW(h:Heap)(it d:Addr)(i n ep:Nat):Prop
 | mk (own ok ov:Value) (f:Bool) (_:(own=L!\/∃a:Nat,own=rawInt a)) (_:AH! it { cls:=G? Ae!,dict:=none,data:=BU! (#[own,C? f,t?,E! i 0,BC! n,BC! ep,ok,ov]),slots:=#[] })
def Zo(h:Heap)(a:Addr)(k v:Value):Prop:=ca (CS! BQ! (.seq #[k,v]))
universe S
variable {prog:Program}{w:World}{A:Around}{E:Value->Shared->Prop}{s:Shared}{it d:Addr}{i n ep:Nat}
theorem UW.ty(x:Dy! s.heap):s.TypeIs i? Ae!:=let⟨_,_,_,_,_,e⟩:=x;Lk!
theorem UW.to(x:Dy! h)(k:∀o,Ao! h.get? it->Ao! h'.get? it):Dy! h':=let⟨a,b,c,f,g,e⟩:=x;⟨a,b,c,f,g,k _ e⟩
theorem Jj8(h:Q (s.heap.get? a) s):KC! loadIfAlive a:=λ_ _ _=>h
theorem Jez(h:∀h' e,Shared.TypeIs d! DB! CT!->(Fq!)->W? e d!):Ec! (newExc (G? CT!) []):=by
 have first:firstArgMember (G? CT!) []=pure L!:=by unfold firstArgMember;cases (Manifest.find? CT!).elim false λt=>t.mro.contains CT! || t.mro.contains "SystemExit" <;> rfl
 unfold newExc newTuple;rw[first];refine ZR (EC (ZR (ZS (EC (h _ _ Ll! (T? (ZT _ (ZT _ e)))) Ka!))) Ka!)
theorem Jfw(hw:Dy! s.heap)(hQ:∀h',Dy! h'->Zo h' s.heap.objs.size k v->(HG!)->W? s.heap.objs.size d!) :
 Ec! (Builtin.Dict_items.pairFromOwner i? 6 k v):=by
 obtain⟨own,ok,ov,f,ho,e0⟩:=hw
 have il:it<s.heap.objs.size:=AR e0
 have vN:s.heap.objs.size≠it:=EA il
 obtain⟨h1,eh⟩:∃h1,h1=AD! (CS! BQ! (.seq ([k,v]:F!).toArray)):=AB!
 have p1:Zo h1 s.heap.objs.size k v:=S! eh s?
 have k1:CZ! K2!:=T? (S! eh Ar!)
 have e1:=k1 it _ e0
 have fin:∀h2,Dy! h2->JY! it h1 h2->W? s.heap.objs.size { s with heap:=h2 }:=λh2 x y =>
  hQ h2 x ((y.2 _ vN).trans p1) (Go ((y.2 b hb).trans (k1 b o e)))
 have free:Fx! (do
  let old:=[<-field i? 6,<-field i? (6+1)]
  setField i? 6 k;setField i? (6+1) v
  Ie! 0 rawInt s.heap.objs.size;Ie! 1 C? false
  letGo old [K! s.heap.objs.size]
  return K! s.heap.objs.size) CL!:=by
  refine ZR (IH! ok (ZR (IH! ov ?_)))
  refine EE! e1 (λg2 q2 b2=>EE! q2 (λg3 q3 b3=>EE! q3 (λg4 q4 b4=>EE! q4 (λg5 q5 b5=>?_))))
  refine D? wpAny_letGo (ZS (fin g5 ⟨_,_,_,_,A9! s.heap.objs.size rfl,q5⟩ ⟨?_,Az!⟩))
  .rw[b5.1,b4.1,b3.1,b2.1]
  .rw[b5.2 b hb,b4.2 b hb,b3.2 b hb,b2.2 b hb]
 unfold Builtin.Dict_items.pairFromOwner
 refine D? wpAny_newTuple ?_
 rw[<-eh]
 refine ZR ?_
 unfold Builtin.Dict_items.ownedTupleIsFree
 refine ZR (IH! own ?_)
 rcases ho with rfl|⟨a,rfl⟩
 .exact ZS free
 .show GJ! (loadIfAlive ((a:Int).toNat) >>= _)
  refine D? Jj8 ?_
  cases ha:h1.get? (a:Int).toNat with
  | none=>exact ZS free
  | some oa =>
    refine ZR (IH! (C? f) ?_)
    cases f with
    | true=>exact ZS (ZS (fin h1 ⟨_,_,_,_,A9! a rfl,e1⟩ (Heap.SameBut.refl _ _)))
    | false=>exact EE! e1 (λg2 q2 b2=>ZS (ZS (fin g2 ⟨_,_,_,_,A9! a rfl,q2⟩ b2)))
theorem Jat(hv:s.heap.IsItemsView v d)(hm:AV!)(hQ:∀h',UW h' s.heap.objs.size d 0 es.size ep->(Fq!)->W? s.heap.objs.size d!):KC! pyIter (P! v):=by
 obtain⟨o1,e1,c1,f1⟩:=id hv;obtain⟨o2,e2,c2,f2⟩:=hm;refine wpAny_pyIter_slot hv.typeIs F.slot_dict_items_iter (DL F.slot_dict_items_iter hv.typeIs F.entry_dict_items_iter ?_ (F.args_dict_items_iter_1 _));unfold Builtin.«dict_items.__iter__» Builtin.Dict_items.dictOf Builtin.Dict_items.newIterator;refine La! (wpAny_field (x:=t?) e1 f1 rfl (ZS (ZR (ZR (CK e2 f2 (ZR (EX e2 f2 ?_)))))));have own:Builtin.Dict_items.ownsTuple Ae!=true:=r?
 simp only[own,H_,CZ,EK];refine EC (ZS ⟨_,rfl,Ae!,_,Ll!,F.slot_dict_itemiterator_next.lookup,?_⟩) (by simp[sizeOk,Builtin.Dict_items.ownedTupleFields,DB]);exact hQ _ ⟨L!,L!,L!,false,AP!,(ZU _ rfl).trans (by simp[rawInt,Builtin.Dict_items.ownedTupleFields])⟩ Ay!
theorem Jas{es:AQ!}{Q:o! K5!}(hw:Ej! s.heap i es.size)(hm:AV!)(hi:i<es.size)(hQ:∀h',Ej! h' No es.size->Zo h' s.heap.objs.size es[i].key es[i].val->(HG!)->Q (some (P! s.heap.objs.size)) d!):I1!:=by
 have ty:=hw.ty;obtain⟨own,ok,ov,f,ho,e0⟩:=hw;obtain⟨o2,e2,c2,f2⟩:=hm;have gJ:Builtin.Dict_items.ownsTuple Ae!=true:=r?
 unfold pyNext;refine If! ty IH (DL IH ty F.entry_dict_itemiterator_next (ZR (sK ?_)) (F.args_dict_itemiterator_next_1 _));refine IA! (sK (wpAny_fieldsOf e0 rfl ?_));simp only[gJ,H_];refine LW! (Le! _ Hp! _ _);rw[H4!];refine HA! e2 f2;rw[BB!];refine HB! e2 f2;rw[BB!];refine ZS ?_;simp only[Cj! Id!,EK,C_,Array.getElem?_eq_getElem hi];refine IA! (sK (TC ty ?_));refine LW! (Le! _ (Ie! 3 rawInt (c? i+1) >>= _) _ _);refine EE! e0 (λh1 q1 b1=>?_);have w1:Ej! h1 No es.size:=⟨own,ok,ov,f,ho,by rw[show xz (i+1)=c? i+1 by rfl];simpa [rawInt] using q1⟩;have wV:Shared.TypeIs CL! i? Ae!:=UW.ty (s:=CL!) w1;refine DP! (ZR (TC wV (ZR (TC wV ?_))));refine Jfw (s:=CL!) w1 λh2 w2 p2 k2=>?_;have z1:h1.objs.size=s.heap.objs.size:=b1.1;dsimp only at p2 k2 ⊢;rw[z1] at p2 ⊢;exact ZS (m? (ZS (hQ h2 w2 p2 (Go (k2 b o hb ((b1.2 b hb).trans e))))))
theorem Jdy{es:AQ!}{Q:o! K5!}(hh:BY!)(hw:Ej! s.heap i es.size)(hm:AV!)(hi:es.size<=i)(hQ:∀h',(HG!)->Q none d!):I1!:=by
 have ty:=hw.ty;obtain⟨own,ok,ov,f,ho,e0⟩:=hw;obtain⟨o2,e2,c2,f2⟩:=hm;have gJ:Builtin.Dict_items.ownsTuple Ae!=true:=r?
 unfold pyNext;refine If! ty IH (DL IH ty F.entry_dict_itemiterator_next (ZR (sK ?_)) (F.args_dict_itemiterator_next_1 _));refine IA! (sK (wpAny_fieldsOf e0 rfl ?_));simp only[gJ,H_];refine LW! (Le! _ Hp! _ _);rw[H4!];refine HA! e2 f2;rw[BB!];refine HB! e2 f2;rw[BB!];refine ZS ?_;simp only[Cj! Id!,EK,C_,Array.getElem?_eq_none hi];refine IA! Eh!;refine ZR (GB (k:=2) e0 Y! λh1 q1 b1=>?_);refine D? Jez (λh2 x t2 k2=>wpAny_raiseNew_none hh (ZR (wpAny_isInstance t2 isSubtype_stop (ZS (hQ h2 (Go (k2 b o ((b1.2 b hb).trans e))))))))
universe E
def YD(h:Heap)(it:Addr)(es:AQ!)(as:J!):Prop:=∀(j:Nat)(a:Addr),as[j]?=some a->it<a/\∃e:DictEntry,es[j]?=some e/\Zo h a e.key e.val
theorem YD.to(x:F7! h)(k:L3! (it<b) PP):F7! h' :=λj a e=>let⟨l,d,e1,e2⟩:=x j a e;⟨l,d,e1,k a _ l e2⟩
theorem YD.more(x:F7! h)(hi:as.length<es.size)(l:it<a)(p:Zo h a es[as.length].key es[as.length].val):YD h it es (as++[a]):=λj b e=>by rcases Nat.lt_trichotomy j as.length with hj|hj|hj;(.rw[NU hj] at e;exact x j b e);(.subst hj;(have e':a=b:=CO!);subst e';exact⟨l,_,JM!,p⟩);.rw[CN (by simp;assumption)] at e;cases e
universe S
theorem Qz(hh:BY!)(l1:S<it)(n1:d≠S)(n2:d≠it)(hz:es.size<=sizeLine)(res:Value) : ∀(k:Nat)(s:Shared)(as:J!)(c:Nat),as.length+k=es.size->Ej! s.heap as.length es.size->AV!->Dn! s.heap.get? Aq! c->F7! s.heap->as.Nodup -> (∀h' JN c',JN.length=es.size->JN.Nodup->(∀b o,b≠S->b≠it->AC->EY!)->Dn! h'.get? (Gx! JN.map) c'->YD h' it es JN->LU! res d!) -> JL! (HO! "list.extend.loop" [K! S,K! it,res])
 | 0,s,as,c,hk,iw,rd,hS,ps,nd,q=>by refine KW PySem.F.entry_extend_loop ?_;rw[HV FZ _];refine(Lh! pyNext it (Jdy hh iw rd C! λh' kp=>ZS (q h' as c (Hx!) nd (λb o _ hb e=>Fh! hb) (kp S _ (BI l1) hS) (ps.to (Go (Fh! (EA hb)))))))
 | k+1,s,as,c,hk,iw,rd,hS,ps,nd,q=>by (have hi:as.length<es.size:=H!);have al:it<s.heap.objs.size:=let⟨_,_,_,_,_,e⟩:=iw;S?;refine KW PySem.F.entry_extend_loop ?_;rw[HV FZ _];refine Lh! pyNext it (Jas iw rd hi λh1 iw1 p1 k1=>?_);have c9:=k1 S _ (BI l1) hS;(have sz:(as.map Value.ref).toArray.size=as.length:=B?);refine Ch (updateSeq S (·.push (Value.ref s.heap.objs.size))) (wpAny_updateSeq c9 rfl (ZS (LT! FZ)) (AE! sz) (by rw[Array.size_push,sz];lia));have up:∀b o,b≠S->K2!->x! (h1.update S (Obj.mapSeq (·.push (Value.ref s.heap.objs.size)))).get?:=Go (F0! e);refine Qz hh l1 n1 n2 hz res k (BV! (h1.update S (Obj.mapSeq (·.push (Value.ref s.heap.objs.size))))) (as++[s.heap.objs.size]) (c+1) (by simp;lia) (q! ZE (iw1.to λo e=>up it o (EA l1) e)) (rd.at λo e=>up d o n1 (k1 d o n2 e)) ?_ ?_ ?_ λh' JN c' a1 a0 a2 a3 a4=>q h' JN c' a1 a0 (λb o hb hc e=>a2 b o hb hc (up b o hb (k1 b o hc e))) a3 a4;(.refine(JG c9 _).trans ?_;simp[seqObj]);(.exact YD.more (ps.to (Go (up b o (EA (P' l1 hb)) (k1 b o (EA hb) e)))) hi al (up _ _ (EA (P' l1 al)) p1));.refine AM.mpr ⟨nd,B?,λa ha b hb z=>?_⟩;(have e:b=s.heap.objs.size:=WF);obtain⟨j,hj⟩:=BW.mp ha;obtain⟨_,_,_,e2⟩:=ps j a hj;exact absurd (AR e2) (E0! z e (DA _))
universe E
universe S
theorem Ry(hh:BY!)(hv:s.heap.IsItemsView v d)(hm:AV!)(hz:es.size<=sizeLine)(h:∀h' as it,as.length=es.size->as.Nodup->s.heap.objs.size<=it->(Fq!)->F7! h'->R LF! d!) : EU! (collect (P! v)) R:=by
 have lv:v<s.heap.objs.size:=let⟨_,e,_⟩:=hv;S?;have ld:d<s.heap.objs.size:=let⟨_,e,_⟩:=hm;S?;unfold collect;refine D? wpAny_runValue (KW PySem.F.entry_proto_collect ?_);rw[HV PySem.F.plain_proto_collect _];refine Ch (newList []) (EC (ZS ⟨KG PySem.F.plain_list_iadd _,KW PySem.F.entry_list_iadd ?_⟩) Ka!);rw[HV PySem.F.plain_list_iadd _];generalize sC:AD! (MV! ([]:F!).toArray)=h0;have gS:Lw! h0.get? s.heap.objs.size (#[]):=q? sC s?
 have k0:CZ! (x! h0.get?):=T? (q? sC Ar!)
 have rC:h0.IsItemsView v d:=let⟨o,e,r⟩:=hv;At (k0 v o e) r;have rS:Ca! h0:=hm.at λo e=>k0 d o e;have z0:h0.objs.size=CX!:=by rw[<-sC,Heap.size_push]
 have low:CZ! (b<s.heap.objs.size):=T? S?;obtain⟨S,hS⟩:∃S:Addr,S=s.heap.objs.size:=AB!;rw[<-hS] at gS z0 lv ld low ⊢;have lS:S<h0.objs.size:=S! z0 (HQ _)
 refine LW! (CP! prog w _ (Builtin.List.listExtendWith FG! (P! v) FG!) _ _ { s with heap:=h0 });have fin:∀(R':o! Result),(∀h' JN c',JN.length=es.size->JN.Nodup->(Fq!)->Dn! h'.get? (Gx! JN.map) c'->YD h' h0.objs.size es JN->Kc! R' (.ok (.ret FG!))) -> ∀h1 c1,UW h1 h0.objs.size d 0 es.size ep->Ca! h1->Dn! h1.get? (#[]) c1->(CZ! K2!)->codeAny Eq! A (HO! "list.extend.loop" [K! S,K! h0.objs.size,K! S]) R' CL!:=λR' q h1 c1 a1 a2 a3 a4 =>Qz hh lS (BI ld) (BI (P' ld lS)) hz _ es.size CL! [] c1 Y! a1 a2 (by simpa using a3) (λj a e=>by simp at e) CY λh' JN c' q1 q0 q2 q3 q4=>q h' JN c' q1 q0 (T? (q2 b o (BI (Z? low)) (BI (P' (Z? low) lS)) (Z? a4))) q3 q4;unfold Builtin.List.listExtendWith;refine ZR (wpAny_typeOf (T:=Ct!) (Heap.IsItemsView.typeIs (s:={ s with heap:=h0 }) rC) ?_);have n1:Builtin.List.listSameRef FG! (P! v)=false:=by simp[Builtin.List.listSameRef,EA lv]
 have n2:d? (Cv! Ct! == Cv! p?):=r?
 have n3:d? (Cv! Ct! == Cv! BQ!):=r?
 simp only[n1,n2,n3,Bool.or_false,CZ,EK];refine ZR (Jat (s:={ s with heap:=h0 }) rC rS λh1 iw k1=>?_);refine DP! (W.kdx_hint (s:=CL!) (let⟨o,e,c,_⟩:=rC;At (k1 v o e) c) ?_);have oZ:=k1 _ _ gS;have loop:∀h2 c2,(∀b o,b≠S->K2!->x! h2.get?)->Dn! h2.get? (#[]) c2 -> codeAny Eq! A (HO! "list.extend.loop" [K! S,K! h0.objs.size,K! S]) (λq s'=>∃h' JN c',q=Ib! FG!/\s'=d!/\JN.length=es.size/\JN.Nodup/\(Fq!)/\Dn! h'.get? (Gx! JN.map) c'/\YD h' h0.objs.size es JN) { s with heap:=h2 }:=λh2 c2 k2 g2 =>fin _ (λh' JN c' a1 a0 a2 a3 a4=>⟨h',JN,c',rfl,rfl,a1,a0,a2,a3,a4⟩) h2 c2 (iw.to λo e=>k2 _ o (EA lS) e) (rS.at λo e=>k2 d o (BI ld) (k1 d o e)) g2 (T? (k2 b o (BI (Z? low)) (k1 b o (Z? k0))));refine wpAny_ite_split (λ_=>?_) (λ_=>ZS (LT! FZ));.refine D? wpAny_rule (Ch (updateSeq S (·.push .none) >>= λ_=>updateSeq S (·.pop)) (ZR (wpAny_updateSeq oZ rfl (wpAny_updateSeq (JG oZ _) rfl (ZS (LT! FZ)) ?_ ?_) ?_ ?_)));(.refine IJ (loop _ _ (Go (F0! (F0! e))) (JG (JG oZ _) _)) λq s' y=>?_;obtain⟨h',JN,c',rfl,rfl,a1,a0,a2,a3,a4⟩:=y;refine Ch (load S) (wpAny_load a3 Eh!);exact h h' JN _ a1 a0 (Ch! hS (DD lS)) a2 a4);all_goals (simp[seqObj,DB])
 .refine IJ (loop h1 0 (λb o _ e=>e) oZ) λq s' y=>?_;obtain⟨h',JN,c',rfl,rfl,a1,a0,a2,a3,a4⟩:=y;refine Ch (load S) (wpAny_load a3 Eh!);exact h h' JN _ a1 a0 (Ch! hS (DD lS)) a2 a4
universe E
universe S
theorem Jax{vs:F!}{ns:X!}(p:Dm!):ItemsAre (intKind prog w) ns vs:=by induction p with | nil=>exact O! | cons n t _ ih=>exact l! (intKind_is prog w n t) ih
theorem O7(x:IsTup h a its)(y:Be! its.toList):IsTupleKey (intKind prog w) h ns a :=let⟨o,ho,hc,n,hd⟩:=x;⟨o,its,n,ho,hc,hd,Jax y⟩
inductive NP(h:Heap)(a:Addr)(q:X!×Int):Prop
 | mk ka its t (_:Zo h a Kz! (E! q.2 t)) (_:IsTup h ka its) (_:An! its.toList q.1)
theorem NP.to(k:L3! PP Kj!)(x:NP h a q):NP h' a q :=let⟨ka,its,t,e1,⟨o,ho,hc,r⟩,e3⟩:=x;⟨ka,its,t,k _ _ e1 rfl,⟨o,k ka o ho hc,hc,r⟩,e3⟩
theorem Jip(hu:KM!)(x:NP s.heap a p)(y:NP s.heap b q)(same:p.1=q.1->p.2=q.2)(h:C (HT.lexLt p.1 q.1) s) : Le! A (keyLt' (tuples' false) w! DA!) C L7!:=by
 obtain⟨ka,its,t,e1,e2,e3⟩:=x;obtain⟨kb,xu,u,f1,f2,f3⟩:=y;refine W.kat_lt e1 rfl f1 rfl (W.kat_cons (wpAny_eqBool_tuple hu (O7 e2 e3) (O7 f2 f3) (W.kat_go (λe=>W.kat_yes (W.kat_cons (wpAny_eqBool_int (W.kat_go (λ_=>W.kat_yes (W.kat_nil ?_)) λz=>?_)))) λe=>W.kat_no (W.kat_one _ _ (HT.VU e2 f2 e3 f3 hu h)))));.have e:=BR e;rw[e,Pg] at h;exact h
 .rw[same (BR e)] at z;simp at z
def Ky(h:Heap):I? J! (H? (X!×Int)):=Paired (NP h)
theorem Vq{as:J!}{L:H? (X!×Int)}(p:Ky h as L):∃fs:F!,W.KatTups h LF! fs/\fs.length=as.length/\∀v∈fs,∃ka its,v=Value.ref ka/\IsTup h ka its:=by induction p with | nil=>exact At! [] trivial (λv hv=>by simp at hv) | cons r _ ih =>obtain⟨ka,its,t,e1,e2,e3⟩:=r;obtain⟨fs,a1,a2,a3⟩:=ih;refine⟨DF!::fs,W.KatTups.cons e1 rfl rfl rfl a1,by simp[a2],Ko!⟩;rcases ZM hv with rfl|hv;(.exact At! ka its e2);.exact a3 v hv
theorem Sk(x:Ky h as L)(hi:Cr!):∃a q,as[i]?=some a/\L[i]?=some q/\MU! i L!=.ref a/\Iz! q.1/\NP h a q:=by
 have hl:=Paired.length x;obtain⟨a,ha⟩:=An (xs:=as) (j:=i) hi;obtain⟨q,hq⟩:=HY! L i;refine⟨a,q,ha,hq,?_,?_,Az x i a q ha hq⟩;.rw[IU,ZH,ha];rfl
 .rw[IU,ZH,hq];rfl
theorem Yr(hu:KM!)(ho:FP! (bn Aq! n))(WB:as.length<64)(x:Ky s.heap as L)(nd:(L.map a!).Nodup)(h:∀q:FD!,GB! as.length->GS! (AM! (AA! i []) (AA! j []))->∀h' c,(HF!)->A7! (bn (Fu! F3!) c)->Kc! P (Gy! L!)) : EU! (C6! Builtin.«list.sort» K?) P:=by
 have hl:=Paired.length x;have fF:KZ!=as.length:=ZA ..;have key:∀i,Cr!->∃h:i<(L.map a!).length,Iz! ((L.map a!)[i]):=λi hi=>⟨LK! ZA,FA! (i<L.length)⟩;have one:∀i j,Cr!->j<as.length->Iz! (AA! j [])->i=j:=λi j hi hj e=>by obtain⟨l1,e1⟩:=key i hi;obtain⟨l2,e2⟩:=key j hj;rw[e1,e2] at e;exact(EE nd).mp e
 refine Ss (lt:=λi j=>HT.lexLt (AA! i []) (AA! j [])) ho (LJ! WB) ⟨λi j k _ _ _=>Wa,λi j hi hj V' e=>Wb (λz=>V' (one i j C! C! z)) e⟩ (λh2 h' kp Q hQ=>?_) (LJ! h);have x':Ky h' as L:=Aq (λb q y=>y.to λb o e c=>Fh! (λz=>by rw[z,ho] at e;cases e;exact absurd (show Cv! p?=Value.type BQ! from c) Bn!)) x;obtain⟨fs,f1,f2,f3⟩:=Vq x';refine W.kat_kind (s:=d!) (T:=MD!) f1 (AE! f2) (Ko!) rfl (hQ _ λi j hi hj C hC=>?_);.obtain⟨ka,its,rfl,o,e,c,_⟩:=f3 v hv;have z:W.Looks Eq! h' (typeOf Kz!) o.cls:=(W.Looks.ld e).andThen .now;rw[c] at z;exact z
 .rw[fF] at hi hj;obtain⟨a1,q1,g1,g2,g3,g4,g5⟩:=Sk x' hi;obtain⟨a2,q2,k1,k2,k3,k4,k5⟩:=Sk x' hj;unfold W.kas_ask;rw[g3,k3];dsimp only at hC;rw[g4,k4] at hC;refine IU! Jip hu g5 k5 (λz=>?_) hC;have e:=one i j hi hj (by rw[g4,k4,z]);subst e;rw[g2] at k2;cases k2;rfl
universe E
def lay(H:Hp):FF!->Hp
 | []=>H
 | p::r=>upd (lay H r) p.1 (.A_ p.2)
theorem We:∀{ps:FF!},b∉h? ps.map->lay H ps b=H b
 | [],_=>rfl
 | p::r,h=>by have h1:b≠p.1:=λz=>h (S! z (ZL ..));show(upd (lay H r) p.1 LX!) b=_;rw[Ab h1];exact We λz=>h (ZD _ z)
theorem Jci:∀{ps:FF!},SC ps.map->∀p∈ps,lay H ps p.1=some LX!
 | [],_,p,hp=>by cases hp
 | q::r,nd,p,hp=>by have KZ:=AN.mp nd;rcases ZM hp with rfl|hp;(.exact Ac);.have ne:p.1≠q.1:=λz=>KZ.1 (AF.mpr ⟨p,hp,z⟩);show(upd (lay H r) q.1 (.A_ q.2)) p.1=_;rw[Ab ne];exact Jci KZ.2 p hp
universe S
def Jn5(X:A!)(AA:G!)(a:Addr):Prop:=W! X.II.heap.get? a/\a≠X.env.locals/\(Bg! (c≠a))/\J7! (p.1≠a)
theorem Jqd(I:B!)(h:Eu!):Jn5 X AA a :=let x:=I.UG (H':=CW!) h rfl;⟨Heap.get?_none_of_le (AV I.sz h),x.2.1,x.2.2.2.2.1,x.2.2.2.2.2⟩
theorem Jcm:∀{ps:FF!},B!->SC ps.map->(∀p∈ps,Jn5 X AA p.1/\V? p.1/\∀H',DV X.prog X.w H' s.heap p.1 LX!)->IR (lay H ps) s
 | [],I,_,_=>I
 | p::r,I,nd,h=>by have KZ:=AN.mp nd;obtain⟨⟨a1,a2,a3,a4⟩,a5,a6⟩:=h p (ZL ..);exact Jdz (Jcm I KZ.2 (Ac! (h q (ZD _ hq)))) (q! (We KZ.1) a5) a1 a2 a3 a4 (a6 _)
universe E
inductive RecAt(H:Hp)(a:Addr)(q:T2×Int):Prop
 | mk ka (_:WP a (.A_ [DF!,z! q.2])) (_:GW!)
theorem Jlt{P:Program}{w:World}{H:Hp}{h1:Heap}{n:Nat}{as:J!}{L:lc}(p:Paired (λa q=>n<=a/\∃ka t,Zo h1 a Kz! (E! q.2 t)/\GW!) as L) : ∃ps:FF!,h? ps.map=as/\(∀p∈ps,n<=p.1/\∀H',DV P w H' h1 p.1 LX!)/\Paired (λp q=>∃ka,p.2=[DF!,z! q.2]/\GW!) ps L:=by induction p with | nil=>exact⟨[],rfl,λp hp=>by(cases hp),O!⟩ | @cons a q _ _ r _ ih =>obtain⟨la,ka,t,e1,e2⟩:=r;obtain⟨ps,b1,b2,b3⟩:=ih;refine⟨(a,[DF!,z! q.2])::ps,U? AK b1,A0!,l! (Bq! ka e2) b3⟩;rcases ZM hp with rfl|hp;(.exact⟨la,λH'=>⟨by show xL 2;rw[DB];exact Nat.le_add_left _ _,[DF!,E! q.2 t],l! rfl (D1! ⟨t,rfl⟩),JA! e1⟩⟩);.exact b2 p hp
universe S
variable {X:Cx Kx}
inductive Ln(xs:D!)(H:Hp)(Q:VK):Prop
 | mk v d (L rs:lc) (_:xs=[K! v]) (_:WP v (Wn v d)) (_:LE! d L) (_:L.length<64) (_:rs.Perm L) (_:(rs.map a!).Pairwise JT) (_:∀(r:Addr)(as:J!)(H':Hp),Bl H H'->V? r->M! H' r Bk!->bv (RecAt H') as rs->W? r H')
theorem Nj(hc:b?)(hu:Dc!):HC! Ln:=by
 intro AA s σ H xs us Q I rv h;obtain⟨v,d,L,rs,rfl,hv,hd,WB,pm,pw,q⟩:=h;obtain⟨u,rfl,rx⟩:=vals1 rv;cases rx;obtain⟨z,lo,ys,rel,o,es,ep,g1,g2,g3,g4,g5⟩:=KQ! (C6 L) hd;have vw:s.heap.IsItemsView v d:=(I.DM v _ hv).1;have hes:es.size=ys.length:=KU g4;have hyl:ys.length=L.length:=by have:=Fp!;rw[ZA] at this;exact this.symm
 have ent:∀(j:Nat)(e:DictEntry)(q:T2×Int),es[j]?=some e->L[j]?=some q->∃ka t,e.key=DF!/\e.val=E! q.2 t/\GW!:=λj e q h1 h2=>by rw[entry_at g4 j] at h1;cases hy:ys[j]? with | none=>rw[hy] at h1;cases h1 | some y =>rw[hy] at h1;cases h1;obtain⟨r1,r2,r3⟩:=Az rel j (tk q.1,Cg!) y (Ks! h2) hy;obtain⟨t,r3⟩:=r3;exact⟨y.2.1,t,rfl,r3,r2⟩
 have ndL:(L.map a!).Nodup:=(pm.map a!).nodup_iff.mp (List.Pairwise.imp (λ{a b} (h:JT a b) (z:a=b)=>by rw[E3,z] at h;lia) pw);refine HF kind_sorted plain_sorted entry_sorted (args_sorted1 _) (by unfold Builtin.«sorted»;refine Ch (checkCount "sorted" 1 1 _) (sK (Ry (Al! _ (I.ok.hd hc)) vw ⟨o,g1,g2,g3⟩ (by rw[hes,hyl,DB];lia) λh1 as it hl oK hit kp prs=>?_));have I1:Aj! { s with heap:=h1,toks:=s.toks }:=I.kept kp;(have cM:as.length=L.length:=H!);(have yi:Paired (λa q=>Eu!/\∃ka t,Zo h1 a Kz! (E! q.2 t)/\GW!) as L:=E8 cM (KS! (by obtain⟨la,e,e3,e4⟩:=prs j a e1;obtain⟨ka,t,k1,k2,k3⟩:=ent j e q e3 e2;rw[k1,k2] at e4;exact⟨DD (JQ hit la),ka,t,e4,k3⟩)));obtain⟨ps,b1,b2,b3⟩:=Jlt (P:=X.prog) (w:=X.w) yi;have TM:∀a,Eu!->FL!:=λa ha=>I.DM.fresh ha;have I2:IR (lay H ps) { s with heap:=h1,toks:=s.toks }:=Jcm I1 (q! b1 oK) λp hp=>⟨Jqd I (b2 p hp).1,TM _ (b2 p hp).1,(b2 p hp).2⟩;(have sm:Bl H (lay H ps):=λb ob e=>by rw[We (λz=>?_)];(.exact e);.obtain⟨p,hp,rfl⟩:=ZN z;rw[TM _ (b2 p hp).1] at e;cases e);(have uf:bv (RecAt (lay H ps)) as L:=by rw[<-b1];refine E8 (Ax! (Cf! b3)) (KS! ?_);rw[ZH] at e1;cases hp:ps[j]? with | none=>rw[hp] at e1;cases e1 | some p =>rw[hp] at e1;cases e1;obtain⟨ka,k1,k2⟩:=Az b3 j p q hp e2;exact⟨ka,U? (Jci (q! b1 oK) p (ZP hp)) k1,sm _ _ k2⟩);(have ui:Ky h1 as (L.map CD!):=E8 (Ax! cM) (KS! (by rw[ZH] at e2;cases hq:L[j]? with | none=>rw[hq] at e2;cases e2 | some q0 =>rw[hq] at e2;cases e2;obtain⟨_,ka,t,k1,k2⟩:=Az yi j a q0 e1 hq;obtain⟨its,rv,it2,_⟩:=I1.tuple (CS.of k2);exact⟨ka,its.toArray,t,k1,it2,BR! (IT! [q0.1.1,q0.1.2] rv)⟩)));(have eK:h? (L.map CD!).map=L.map λq=>L6!:=Cz!);(have qh:SC (L.map CD!).map:=by (have e:(L.map λq=>JW! L6!)=(L.map a!).map C5!:=Cz!);rw[eK,e];exact List.Pairwise.map _ (λa b h z=>h (by obtain⟨a1,a2⟩:=a;obtain⟨c1,c2⟩:=b;simp at z;rw[z.1,z.2])) ndL);refine ZR (QZ ?_ I3!);have g1:Lw! (h1.push (seqObj "list" (as.map Value.ref).toArray 0)).get? h1.objs.size Aq!:=s?;have uh:Ky MN! as (L.map CD!):=Aq (λa q y=>y.to λb o e _=>Ar!) ui;refine DP! (DL slot_list_sort (Bb! g1) aN (Yr (by show X.A.units+1+1<cLine;lia) g1 C! uh qh λp pp po h2 c jU e=>m? ?_) (args_list_sort _));have hn:V? h1.objs.size:=Fg!;have cx:lay H ps h1.objs.size=none:=I2.DM.fresh (ZG _);have inr:∀i∈p,Cr!:=λi hi=>BH.mp (pp.mem_iff.mp hi);(have eR:p.map (KE L.getD Lu!)=rs:=by refine Ik (lt:=λa b:T2×Int=>JT a.1 b.1) (λa z=>by rw[E3] at z;lia) (λa b h1 h2=>by rw[E3] at h1 h2;lia) ?_ ?_ (Ch! (EL (f:=λq:T2×Int=>q.1) (R:=JT)) pw);(·(have e2:(List.range as.length).map (KE L.getD Lu!)=L:=by refine JB!;rw[ZH];by_cases hj:J1!;(.rw[show D6!=some j by simp[cM,hj]];simp[hj]);.rw[show D6!=none by simp[cM];exact B0!,CN (by exact B0!)];rfl);have e7:=pp.map (KE L.getD Lu!);rw[e2] at e7;exact e7.trans pm.symm);.rw[EL];refine List.Pairwise.imp_of_mem (λ{i j} hi hj z=>?_) po;have li:=Dv!;have lj:=inr j hj;rw[eK] at z;simpa [JT,Cj! (i<L.length),Cj! J1!] using z);(have eV:(p.map F3!)=(p.map ga).map Value.ref:=by rw[AL];refine BQ λi hi=>?_;have:=Dv!;simp[this]);(have ue:bv (RecAt (upd (lay H ps) h1.objs.size (.BE ((p.map ga).map V.ref)))) HN! rs:=by rw[<-eR];refine E8 (U? ZA ZA) (KS! ?_);rw[ZH] at e1 e2;cases hp:p[j]? with | none=>rw[hp] at e1;cases e1 | some i =>rw[hp] at e1 e2;cases e1;cases e2;have li:=inr i (ZP hp);obtain⟨ka,k1,k2⟩:=Az uf i (as.getD i 0) (L.getD i Lu!) (by simp[li]) (FA! (i<L.length));exact⟨ka,Ah cx _ _ k1,Ah cx _ _ k2⟩);refine ZS ⟨_,rfl,K! h1.objs.size,_,I2.laid (a:=h1.objs.size) (o:=.BE ((p.map ga).map V.ref)) (t':=s.toks) (λb o hb=>jU b o (D2! hb) (ZT _ hb)) A? (Ja! p.map ga (Gg _)),rfl,q _ HN! _ (Al sm (Ah cx)) hn Ac ue⟩;(.rw[ZA,ZA,pp.length_eq,CM,DB];lia);.rw[<-eV];exact e)
universe E
theorem Mp(f:α->β):∀(xs:I!)(j:Nat),(xs.map f).eraseIdx j=(xs.eraseIdx j).map f
 | [],_=>rfl
 | _::_,0=>rfl
 | x::xs,j+1=>congrArg (f x :: ·) (Mp f xs j)
universe S
variable {prog:Program}{w:World}{K:Type}[DecidableEq K]{knd:HeapKind prog w K}{A:Around}{E:Value->Shared->Prop}{s:Shared}
theorem Ud{d a:Addr}{xs:H? (K×Io!)}{k:K}{p:Io!}{j:Nat}{Q:o! (XV DictEntry)}(hu:knd.room A)(XS:knd.is s.heap k a)(hm:s.heap.DictOfH knd d xs)(hz:SB)(hj:CK!=some (k,p))(hQ:∀h' o es ep,re h'.get?->o.ExactDict->CE!->es.toList=(xs.eraseIdx j).map (entryOfKey knd)->B9! d->Q (some (entryOfKey knd (k,p))) { s with heap:=h',toks:=s.toks+Fa! }) : Ec! (Builtin.Dict.takeOut d w!):=by
 obtain⟨o,es,ep,ho,hc,hd,he,yR,hn⟩:=hm;unfold Builtin.Dict.takeOut;refine ED (ZR (knd.pyHash hu XS (ZR (wpAny_dictFind_heap (s:=L4! Fa!) hu XS ho hd he yR hn (λno=>BW! hj (no j p)) λi q hi=>?_))));obtain rfl:=idxH_unique hn hi hj;rw[hj] at hi;cases hi;refine ZR (CK (s:=L4! Fa!) ho hd ?_);rw[entry_at he i,hj];refine ZR (wpAny_updateDictKeys (hz:=S! (KU he) hz) (s:=L4! Fa!) ho hd (ZS (hQ _ _ _ _ (GO _ ho (NX (HR hd _))) (hc.mapDictKeys _) (HR hd _) ?_ L0!)));have e1:(es.eraseIdxIfInBounds i).toList=es.toList.eraseIdx i:=B?
 rw[e1,he];exact Mp _ _ _
theorem Jfo{d a:Addr}{xs:H? (K×Io!)}{k:K}{p:Io!}{j:Nat}{Q:o! PySem.Fin}(hu:knd.room A)(XS:knd.is s.heap k a)(hm:s.heap.DictOfH knd d xs)(hz:SB)(hj:CK!=some (k,p))(hQ:∀h' o es ep,re h'.get?->o.ExactDict->CE!->es.toList=(xs.eraseIdx j).map (entryOfKey knd)->B9! d->Q (Gy! p.2) { s with heap:=h',toks:=s.toks+Fa! }) : KC! Builtin.«dict.pop» (Ak! [t?,am]):=by
 have ty:=hm.typeIs;obtain⟨o,es,ep,ho,hc,hd,he,yR,hn⟩:=id hm;have ne:es.isEmpty=false:=by have h1:=KU he;have h2:C9!:=HS!;cases h3:es.isEmpty with | false=>rfl | true=>rw[LD] at h3;lia
 unfold Builtin.«dict.pop» Builtin.Dict.keyAndDefault;refine D? ZR (IY ty Eh!);dsimp only;rw[AB (show ¬(keyPart (Value.ref a)).isSome=true from AY)];refine ZR (CK ho hd (ZR (ZS ?_)));rw[AB (Kg! ne)];refine ZR (Ud hu XS hm hz hj λh' o' fO fQ a1 a2 a3 a4 a5=>?_);exact D? wpAny_letGo (ZS (hQ h' o' fO fQ a1 a2 a3 a4 a5))
universe E
universe S
variable {κ:Type}[DecidableEq κ]
theorem Rb:∀{kvs:j!} {k:κ} {v:V} {j:Nat},SC kvs.map->kvs[j]?=some EQ->D7 kvs k=kvs.eraseIdx j
 | [],_,_,j,_,h=>ET!
 | p::r,k,v,0,nd,h=>by (have h:p=EQ:=by simpa using h);have KZ:=AN.mp nd;rw[Jeb (by rw[h]),Re (by rw[h] at KZ;exact KZ.1)];rfl
 | p::r,k,v,j+1,nd,h=>by (have h:r[j]?=some EQ:=by simpa using h);have KZ:=AN.mp nd;have ne:¬Db:=λz=>KZ.1 (AF.mpr ⟨EQ,ZP h,z.symm⟩);rw[Ts ne,Rb KZ.2 h];rfl
theorem Jbd:∀{kvs:j!} {k:κ} {v:V},FW!->∃j:Nat,kvs[j]?=some EQ
 | [],k,v,h=>C3!
 | p::r,k,v,h=>by by_cases e:Db;(.rw[Gk e] at h;exact⟨0,by rw[<-e,<-ZO h];rfl⟩);.rw[Et e] at h;obtain⟨j,hj⟩:=Jbd h;exact⟨j+1,by simpa using hj⟩
universe E
universe S
variable {X:Cx Kx}{AA:List (Addr×Obj)}{σ:L2.St}{H:Hp}{s:Shared}{A:Around}{E:Value->Shared->Prop}{a b:Addr}
theorem Yu{kvs:FB}{xs:D8!}(p:BO!):h? xs.map=kvs.map a!:=uA (λ_ _ r=>r.1.symm) p
theorem Jl6{kvs:FB}{k:ap}{v:V}{Q:N!}(hu:BK!)(I:B!)(e:Dp!)(eb:DS!)(l:FW!)(h:Gd! (K0! (JO! .dT) s') v):Fo! "dict.pop" [am,AK!]:=by
 obtain⟨z,hd,xs,rel,dd⟩:=BX! Ra;have hz:SB:=Br! Fp!
 obtain⟨j,hj⟩:=Jbd l;have hjx:C9!:=by rw[<-Fp!];exact HS!
 obtain⟨x,hx⟩:=An hjx;obtain⟨r1,r2,r3⟩:=Az rel j _ _ hj hx;obtain⟨k',p⟩:=x;have r1:k=k':=r1;subst r1;have nd:SC kvs.map:=by obtain⟨_,_,_,_,_,_,_,_,nd⟩:=id dd;rw[<-Yu rel];exact nd
 have cj:SC (xs.eraseIdx j).map:=by rw[<-Mp,Yu rel];exact nd.sublist (List.eraseIdx_sublist _ _)
 refine DL K_ dd.typeIs PySem.F.entry_dict_pop (Jfo GR! Ge! dd hz hx λh' o es ep a1 a2 a3 a4 a5=>m? (h _ _ ?_ r3)) (PySem.F.args_dict_pop_2 _ _);rw[Rb nd hj];refine Iv! a5 (jp a1) ⟨?_,hd,xs.eraseIdx j,KT.keeps (Gc j rel) λc ys ec=>?_,o,es,ep,a1,a2,a3,a4,cj⟩;.exact AV (by rw[List.length_eraseIdx];split<;>lia) z
 .rw[Ab (Qe ec e (λz=>nomatch z))];exact ec
def Jky(td ty:TE):TE:=Fd! (∃a,J?/\kM H1 a/\Dl! (∃kvs k v b,z? H2 B7!/\y=AK!/\IN H2 (Bd! k.map)/\FW!/\Q v (upd H2 a (JO! .dT))))
theorem Gq(hu:AU!)(ho:AX!)(he:Lp!)(m:M1 X o "pop" apos e HZ):EB! "pop" [e] (Jky td ty):=by intro AA s σ H Q I h;refine Jt! K_ PySem.F.type_dict_pop;rintro u s1 ⟨x,H1,I1,rx,a,ex,d,q1⟩;subst ex;obtain rfl:k?:=rx;obtain⟨t1,t2,_⟩:=Wp I1 d;refine Ip!;rw[m.trees];refine JZ! (λiv s2 ⟨y,H2,I2,ry,kvs,k,v,b,ea,ey,eb,l,q2⟩=>LN ?_);subst ey;obtain rfl:iv=Value.ref b:=ry;exact Jl6 hu I2 ea eb l (Ew! ⟨v,_,I3,QL,q2⟩)
universe E
def Jr(l:D9!)(a:Addr)(h:v!):D9!:=l.map λq=>CN! C4! H7!
theorem P3(l:D9!)(a:Addr)(h:v!):(Jr l a h).map EV!=l.map EV!:=by
 unfold Jr;rw[AL];refine HK!;show(CN! C4! H7!).2.1=g?;by_cases e:C4!;.rw[AE e];exact e.symm
 .rw[AB e]
theorem Je6(l:D9!)(a:Addr)(h:v!):(Jr l a h).map (Ir!)=l.map Ir!:=by
 unfold Jr;rw[AL];refine HK!;show(tk (CN! C4! H7!).1,V.ref (CN! C4! H7!).2.1)=_;by_cases e:C4!;.rw[AE e,<-e]
 .rw[AB e]
theorem Jgl(m:q∈Jr l a h):(∃q0∈l,q0.2.1=a/\q=(q0.1,a,h))\/(q∈l/\g?≠a):=by
 unfold Jr at m;obtain⟨q0,h0,e⟩:=ZN m;by_cases e1:q0.2.1=a;.rw[AE e1] at e;exact O? ⟨q0,h0,e1,e.symm⟩
 .rw[AB e1] at e;rw[<-e];exact A9! h0 e1
universe S
theorem AX.WS(x:x?)(hq:q∈G.holds)(l:v!):H9! g? A9 (KE! (Jr G.holds g? l)):=by
 obtain⟨_,_,_,d1⟩:=x.RV;obtain⟨n1,n2,n3,n4⟩:=d1 q hq;have mem:g?∈F?:=by unfold BM;exact ZD _ (ZD _ (ZD _ (ZD _ (BJ hq))))
 have np:=x.QU mem;obtain⟨dx,e⟩:=x.ob;refine IE! n1.symm (LN! n2.symm) ?_ (LO! n4.symm) (λr hr=>?_) ?_;.rw[Ab n3.symm];show WP G.l (.dT ((Jr G.holds g? l).map Ir!));rw[Je6];exact x.dl
 .rcases Jgl hr with⟨q0,_,e1,e2⟩|⟨h1,h2⟩;(.rw[e2];exact Ac);.rw[Ab h2];exact x.hl r h1
 ·(have e2:BM (KE! (Jr G.holds g? l))=BM G:=by unfold BM;rw[P3]);rw[e2];exact x.nd
universe E
def Bn(l:v!)(t:T2):v!:=if t∈l then l else l++[t]
def Ff(l:v!)(t:T2):v!:=l.filter λu=>R! (u≠t)
theorem Jd7(l:v!)(t:T2):l.find? (λq=>R! (q=t))=Ey! (t∈l) (U! t):=by
 by_cases h:t∈l;.rw[AE h];cases e:l.find? λq=>R! (q=t) with | none=>exact BW! (BB.mp e t h) Y! | some u =>have:=DE e;(have:u=t:=by simpa using this);rw[this]
 .rw[AB h];exact BB.mpr λu hu=>by have:¬u=t:=λz=>h (z▸hu);simpa using this
theorem Hk(l:v!)(t:T2):Ct (l.map λq=>(tk q,Bi!)) (tk t)=Ey! (t∈l) (Y? V.bl true):=by
 rw[Dw (k:=λq:T2=>q) (f:=λ_=>Bi!),Jd7];by_cases h:t∈l;.rw[AE h,AE h];rfl
 .rw[AB h,AB h];rfl
theorem E7(l:v!)(t:T2):putK (l.map λq=>(tk q,Bi!)) (tk t) (V.bl true)=(Bn l t).map λq=>(tk q,Bi!):=by
 unfold Bn;by_cases h:t∈l;.rw[AE h];unfold putK;rw[Lx,Hk,AE h,AE (show(some (V.bl true)).isSome=true from rfl),AL];refine HK!;show(if tk q=tk t then(tk q,Bi!) else(tk q,Bi!))=_;by_cases e:tk q=tk t;(.rw[AE e]);.rw[AB e]
 .rw[AB h,Gv (k:=λq:T2=>q) (f:=λ_=>Bi!) _ (λq hq z=>h (Ki! hq)),ZF];rfl
theorem Gu(l:I!)(k:α->T2)(f:α->V)(t:T2):D7 (l.map ED!) (tk t)=(l.filter λq=>R! (k q≠t)).map ED!:=by
 unfold D7;rw[QJ];congr 1;refine KL λq _=>?_;show R! (tk (k q)≠tk t)=decide (k q≠t);by_cases e:k q=t;.rw[e];simp
 .have e2:¬tk (k q)=tk t:=λz=>e (Zs z);simp[e,e2]
def Bj(l:lc)(t:T2)(v:Int):lc:=if t∈h? l.map then l.map λq=>CN! (q.1=t) (q.1,v) else l++[(t,v)]
theorem Ex(l:lc)(t:T2)(v:Int):putK (l.map Fe!) (tk t) (V.int v)=(Bj l t v).map Fe!:=by
 unfold Bj;by_cases h:t∈h? l.map;.rw[AE h];unfold putK;(have e1:((l.map Fe!).any λkv=>R! (kv.1=tk t))=true:=by obtain⟨q,hq,e⟩:=ZN h;exact LC.mpr ⟨(tk q.1,Cg!),BJ hq,En!⟩);rw[e1,BD!,AL,AL];refine HK!;show(if tk q.1=tk t then(tk q.1,V.int v) else(tk q.1,Cg!))=(tk (CN! (q.1=t) (q.1,v)).1,V.int (CN! (q.1=t) (q.1,v)).2);by_cases e:q.1=t;(.rw[AE e,AE (by rw[e])]);.rw[AB e,AB λz=>e (Zs z)]
 .rw[AB h,Gv (k:=λq:T2×Int=>q.1) (f:=λq=>Cg!) _ λq hq z=>h (AF.mpr ⟨q,hq,z⟩),ZF];rfl
universe S
inductive Nm(xs:D!)(H:Hp)(Q:VK):Prop
 | mk (l:Addr) (as:J!) (ts ss:v!) (_:xs=[K! l]) (_:Ic!) (_:D4!) (_:ts.length<64) (_:ss.Perm ts) (_:ss.Pairwise JT) (_:∀(r:Addr)(JN:J!),V? r->AZ H JN ss->W? r (h! r (.BE (JN.map V.ref))))
theorem Of(hc:b?):HC! Nm:=by
 intro AA s σ H xs us Q I rv h;obtain⟨l,as,ts,ss,rfl,hl,th,WB,pm,pw,q⟩:=h;obtain⟨u,rfl,rx⟩:=vals1 rv;cases rx;obtain⟨z,its,n,vl,gl⟩:=MA! l Bk! l hl;have ei:=J7 vl;subst ei;have rp:=Cf! th;have nd:ts.Nodup:=pm.nodup_iff.mp (List.Pairwise.imp (λ{a b} (h:JT a b) (z:a=b)=>by rw[E3,z] at h;lia) pw);have qh:(ts.map λt=>JW! Bf!).Nodup:=List.Pairwise.map _ (λa b h z=>h (by obtain⟨a1,a2⟩:=a;obtain⟨c1,c2⟩:=b;simp at z;rw[z.1,z.2])) nd;have t0:JX s.heap as (ts.map C5!):=E8 (Ax! rp) λj a ns e1 e2=>by rw[ZH] at e2;cases ht:ts[j]? with | none=>rw[ht] at e2;cases e2 | some t =>rw[ht] at e2;cases e2;obtain⟨its,rv,it,_⟩:=H1! (Az th j a t e1 ht);exact⟨B?,its.toArray,it,BR! (IT! Bf! rv)⟩
 refine HF kind_sorted plain_sorted entry_sorted (args_sorted1 _) (by unfold Builtin.«sorted»;refine Ch (checkCount "sorted" 1 1 _) (sK (collect_list (JA! gl) ?_ I3!));have kp:CZ! (x! ((s.heap.push (seqObj p? #[] 0)).update s.heap.objs.size (Obj.mapSeq (·++(as.map Value.ref).toArray))).get?):=λb o e =>(DC _ _ (EA (AR e))).trans (ZT _ e);generalize (s.heap.push (seqObj p? #[] 0)).update s.heap.objs.size (Obj.mapSeq (·++(as.map Value.ref).toArray))=h1 at kp;have I1:Aj! { s with heap:=h1,toks:=s.toks }:=I.kept kp;refine ZR (QZ ?_ I3!);have g1:Lw! (h1.push (seqObj "list" (as.map Value.ref).toArray 0)).get? h1.objs.size Aq!:=s?;have t1:JX MN! as (ts.map C5!):=t0.keep λb o e _=>ZT _ (Z? kp);refine DP! (DL slot_list_sort (Bb! g1) aN (Qu g1 C! t1 qh λp pp po h2 c jU e=>m? ?_) (args_list_sort _));have hn:V? h1.objs.size:=Fg!;have inr:∀i∈p,Cr!:=λi hi=>BH.mp (pp.mem_iff.mp hi);(have eR:p.map (KE ts.getD (0,0))=ss:=by refine Ik (lt:=JT) (λa z=>by rw[E3] at z;lia) (λa b h1 h2=>by rw[E3] at h1 h2;lia) ?_ ?_ pw;(·(have e2:(List.range as.length).map (KE ts.getD (0,0))=ts:=by refine JB!;rw[ZH];by_cases hj:j<ts.length;(.rw[show D6!=some j by simp[rp,hj]];simp[hj]);.rw[show D6!=none by simp[rp];exact B0!,CN (by exact B0!)];rfl);have e7:=pp.map (KE ts.getD (0,0));rw[e2] at e7;exact e7.trans pm.symm);.rw[EL];refine List.Pairwise.imp_of_mem (λ{i j} hi hj z=>?_) po;have li:=Dv!;have lj:=inr j hj;simpa [JT,Cj! (i<ts.length),Cj! (j<ts.length)] using z);(have eV:(p.map F3!)=(p.map ga).map Value.ref:=by rw[AL];refine BQ λi hi=>?_;have:=Dv!;simp[this]);(have RZ:AZ H HN! ss:=by rw[<-eR];refine E8 (U? ZA ZA) λj a t e1 e2=>?_;rw[ZH] at e1 e2;cases hp:p[j]? with | none=>rw[hp] at e1;cases e1 | some i =>rw[hp] at e1 e2;cases e1;cases e2;have li:=inr i (ZP hp);exact Az th i (as.getD i 0) (ts.getD i (0,0)) (by simp[li]) (FA! (i<ts.length)));refine ZS ⟨_,rfl,K! h1.objs.size,_,I1.laid (a:=h1.objs.size) (o:=.BE ((p.map ga).map V.ref)) (t':=s.toks) (λb o hb=>jU b o (D2! hb) (ZT _ hb)) A? (Ja! p.map ga (Gg _)),rfl,q _ HN! hn RZ⟩;(.rw[ZA,ZA,pp.length_eq,CM,DB];lia);.rw[<-eV];exact e)
universe E
noncomputable def bO (H:Hp) (tb:T2):Value->Bool
 | .ref a=>@decide (cr (.A_ (tv tb))) K3!
 | _=>false
theorem uI(h:Hh!):bO H tb w!=decide (t=tb):=by
 show @decide (cr (.A_ (tv tb))) K3!=_;by_cases e:t=tb;.rw[decide_eq_true e];exact @decide_eq_true _ K3! (U? h e)
 .rw[FJ!];refine @decide_eq_false _ K3! λz=>e ?_;rw[h] at z;have z:tv t=tv tb:=HO.A_.inj (ZO z);unfold tv at z;simp only[List.cons.injEq,V.int.injEq,and_true] at z;exact Prod.ext z.1 z.2
theorem Jj5{as:J!}{ts:v!}(p:D4!):(as.map Value.ref).any (bO H tb)=decide (tb∈ts):=by induction p with | nil=>simp | @cons a t _ _ r q ih =>rw[AK,List.any_cons,uI r,ih];by_cases e:t=tb;(.rw[e];simp);.have:¬tb=t:=λz=>e z.symm;simp[e,this]
universe S
theorem Jjs(hu:KM!)(I:B!)(ha:Hh!)(hb:Ij!):SeqAt.EqAt A s w! DA! (bO H tb w!):=by
 intro prog w E Q q;obtain⟨its,rv,it,_⟩:=H1! ha;obtain⟨xu,QL,jt,_⟩:=H1! hb;have i1:An! its Bf!:=IT! Bf! rv;have i2:An! xu IX!:=IT! IX! QL;refine wpAny_eqBool_tuple hu (O7 it (by simpa using i1)) (O7 jt (by simpa using i2)) ?_;rw[uI ha] at q;have e:R! (JW! Bf!=IX!)=decide (t=tb):=by by_cases e:t=tb;(.rw[e];simp);.have:¬JW! Bf!=IX!:=λz=>e (by simp at z;exact Prod.ext z.1 z.2);rw[FJ!,decide_eq_false this]
 rw[e];exact q
inductive Jna(neg:Bool)(x:V)(y:V)(H:Hp)(Q:VK):Prop
 | mk (b l:Addr) (tb:T2) (as:J!) (ts:v!) (_:x=AK!) (_:y=K! l) (_:Ij!) (_:Ic!) (_:D4!) (_:Q (.bl (if neg then ! R! (tb∈ts) else R! (tb∈ts))) H)
theorem R3(hu:Dc!)(I:B!)(hb:Ij!)(hl:Ic!)(th:D4!) : s.heap.IsList l Aq!/\∀y,y∈Aq!->SeqAt.EqAt X.A.in1 s y DA! (bO H tb y):=by
 obtain⟨z,its,n,vl,gl⟩:=MA! l Bk! l hl;have ei:=J7 vl;subst ei;refine⟨JA! gl,λy hy=>?_⟩;have hy:y∈Hs!:=by simpa using hy
 obtain⟨a,ha,rfl⟩:=ZN hy;obtain⟨j,hj⟩:=BW.mp ha;obtain⟨t,ht⟩:=An (xs:=ts) (j:=j) (by rw[<-Cf! th];exact HS!);exact Jjs (by show AU!;lia) I (Az th j a t hj ht) hb
theorem Ji(hu:Dc!):AC! .NotIn (Jna true):=by intro AA s σ H x y v u Q I rx ry h;obtain⟨b,l,tb,as,ts,rfl,rfl,hb,hl,th,q⟩:=h;cases rx;cases ry;obtain⟨a1,a2⟩:=R3 hu I hb hl th;refine SeqAt.notIn_listAt (bO H tb) a1 a2 (KF (.bl _) H I ?_);rw[show(as.map Value.ref).toArray.any (bO H tb)=(as.map Value.ref).any (bO H tb) by simp,Jj5 th];exact q
universe E
universe S
variable {prog:Program}{w:World}{A:Around}{R:Result->Shared->Prop}{s:Shared}{l:Addr}{items:Array Value}{n:Nat}{x:Value}
theorem P7(e:Value->Bool)(hl:M! s.heap.get? l (bn items n))(he:∀y,y∈items->SeqAt.EqAt A.in1 s y x (e y))(j:Nat)(hj:j<items.size)(hit:e items[j]=true)(TM:∀m (h:m<items.size),m<j->e items[m]=false)(hz:items.size<=sizeLine)(h:∀h' c,M! h'.get? l (bn (items.eraseIdxIfInBounds j) c)->B9! l->LU! L! d!) : ∀(k i:Nat),i+k=j->JL! (HO! "list.remove.loop" [K! l,x,rawInt i])
 | 0,i,hk=>by (have hk:i=j:=Hx!);subst hk;refine KW MeetsSeq.entry_remove_loop ?_;rw[HV GJ _];refine Lh! Builtin.List.listItems l (YH hl rfl ?_);rw[show items[((i:Nat):Int).toNat]?=some items[i] by simp[hj]];refine ZR (he _ (Array.getElem_mem hj) prog w _ _ ?_);rw[hit];refine Ch (Builtin.List.listUpdate (P! l) (·.eraseIdxIfInBounds ((i:Nat):Int).toNat)) (listUpdate_at hl rfl Eh! hz (AV (MeetsSeq.size_erased _ _) (DY hz)));exact h _ _ (JG hl _) L0!
 | k+1,i,hk=>by (have hi:i<items.size:=H!);refine KW MeetsSeq.entry_remove_loop ?_;rw[HV GJ _];refine Lh! Builtin.List.listItems l (YH hl rfl ?_);rw[show items[((i:Nat):Int).toNat]?=some items[i] by simp[hi]];refine ZR (he _ (Array.getElem_mem hi) prog w _ _ ?_);rw[TM i hi C!];refine ZS (LT! GJ);have:=P7 e hl he j hj hit TM hz h k No C!;rw[show xz (i+1)=c? i+1 by rfl] at this;exact this
universe E
theorem Sr(f:α->β)(xs:I!)(j:Nat):(xs.map f).eraseIdx j=(xs.eraseIdx j).map f:=Mp f xs j
universe S
inductive Jfh(x:V)(vs:D!)(H:Hp)(Q:VK):Prop
 | mk (l b:Addr) (tb:T2) (as:J!) (ts:v!) (j:Nat) (_:E7!) (_:vs=[AK!]) (_:Ij!) (_:Ic!) (_:D4!) (_:ts[j]?=some tb) (_:(∀m t,m<j->ts[m]?=some t->t≠tb)) (_:K1! .FH (.BE ((as.eraseIdx j).map V.ref)))
theorem Qp(hu:Dc!):fj X "list.remove" Jfh:=by
 intro AA s σ H x vs v us Q I rx rv h;obtain⟨l,b,tb,as,ts,j,rfl,rfl,hb,hl,th,hj,no,q⟩:=h;cases rx;obtain⟨u,rfl,ru⟩:=rv.one;cases ru;obtain⟨a1,a2⟩:=R3 hu I hb hl th;obtain⟨z,its,n,vl,gl⟩:=MA! l Bk! l hl;have ei:=J7 vl;subst ei;have qi:=Cf! th;have hjt:j<ts.length:=HS!;have sz:(as.map Value.ref).toArray.size=as.length:=B?
 have at_:∀m (h:m<(as.map Value.ref).toArray.size) t,ts[m]?=some t->bO H tb (as.map Value.ref).toArray[m]=decide (t=tb):=λm h t ht=>by obtain⟨a,ha⟩:=An (xs:=as) (j:=m) (Ch! sz h);(have e:(as.map Value.ref).toArray[m]=Value.ref a:=by have:=ZJ ha;simp[this.2]);rw[e];exact uI (Az th m a t ha ht)
 refine JP F.slot_list_remove (Bb! gl) F.entry_list_remove (F.args_list_remove_2 _ _) (S:=λA R s0=>A=X.A/\s0=s/\R=wants (EP X AA σ Q) X.xe) (λA R s0 hS=>?_) (Bq! rfl rfl);obtain⟨rfl,rfl,rfl⟩:=hS;refine ZS ⟨KG GJ _,P7 (bO H tb) gl a2 j (AE! sz) ?_ (λm h hm=>?_) (by rw[sz];simpa using z) (λh' c g sb=>?_) j 0 C!⟩;.rw[at_ j (AE! sz) tb hj];simp
 .obtain⟨t,ht⟩:=HY! ts m;rw[at_ m h t ht];exact decide_eq_false (no m t hm ht)
 .refine KF .FH _ (G9 (t':=s0.toks) (ob:=.BE ((as.eraseIdx j).map V.ref)) I (q! hl True.intro) sb (i! g) (Ja! as.eraseIdx j (Gg _))) q;(.rw[ZA];refine AV ?_ (KK!);rw[List.length_eraseIdx];split<;>lia);.rw[g];(have e:((as.map Value.ref).toArray.eraseIdxIfInBounds j)=Gx! (as.eraseIdx j).map:=by rw[<-Sr];simp);rw[e]
universe E
universe S
theorem Jam(ns:FQ!)(g1:re t.heap.get?)(g3:CE!) : MeetsIn prog w (C6! Builtin.«dict.__len__» [t?]) (λ_ R s=>s=t/\LU! (E! es.size t.toks) { t with toks:=t.toks+1 }):=.of_wp λA R s hS=>by obtain⟨rfl,hR⟩:=hS;change Ft! (dictEntries d >>= λes=>pure es.size);exact D? ZR (CK g1 g3 (sK (wpAny_pendingCount_other ns (wpAny_ret_mkInt (by simpa using hR)))))
universe E
universe S
inductive Jba(xs:D!)(H:Hp)(Q:VK):Prop
 | mk a kvs (_:xs=[V.ref a]) (_:Dp!) (_:Q (E! kvs.length) H)
theorem T1:KF! "len" Jba:=by
 intro AA s σ H xs us Q I rv h;obtain⟨d,kvs,rfl,hd,q⟩:=h;obtain⟨u,rfl,rx⟩:=vals1 rv;cases rx;obtain⟨z,ns,ys,rel,o,es,ep,g1,g2,g3,g4,g5⟩:=KQ! B7! hd;obtain⟨_,_,_,_,dd⟩:=Ra I.DM hd;have hz:es.size=kvs.length:=by have h1:=HL! g4;have h2:=Fp!;simp only[ZA,Cn] at h1;rw[h1,<-h2]
 rw[DB] at z;refine HF kind_len plain_len entry_len (args_len1 _) ?_;unfold Builtin.«len»;refine Ch (oneArg "len" _) (ZS (Ch (callSpecial? DC! (Str.ofString "__len__")) (IE (name:=Str.ofString "__len__") dd.typeIs PySem.F.slot_dict_len (JP PySem.F.slot_dict_len dd.typeIs PySem.F.entry_dict_len (PySem.F.args_dict_len_1 _) (Jam ns g1 g3) (E? rfl)))));rw[hz];refine ZR (s:=B6!) (ED (ZS (ZR (wpAny_letGo ?_))));change GJ! (if xz kvs.length<0 then _ else Em! (xz kvs.length ≥ 2 ^ 63) _ _);rw[LM!,LM!];exact D? wpAny_mkInt (ZS ⟨_,rfl,z! kvs.length,H,(I.tok _).tok _,AB!,q⟩)
universe E
theorem Jne:CQ! ER! Gn!:=ZV
def Fj(c:Int)(d:Addr):v?:=Au Gn! DC! (Au ER! (E! c) [])
theorem X5(c:Int)(d:Addr):Fj c d=([(ER!,V.int c),(Gn!,V.ref d)]:v?):=by grind [Au,V,Jne,Fj]
theorem Gb(c:Int)(d:Addr):M! (Fj c d).lookup (ER!:Str) (E! c):=by unfold Fj;rw[Bg,AB Jne,Bg,BD!]
theorem Ft(c:Int)(d:Addr):M! (Fj c d).lookup (Gn!:Str) DC!:=by unfold Fj;rw[Bg,BD!]
theorem D6(c:Int)(d:Addr){m:Str}(h1:¬m=Gn!)(h2:¬m=ER!):W! (Fj c d).lookup m:=by unfold Fj;rw[Bg,AB h1,Bg,AB h2];all_goals rfl
theorem Jdn(c y:Int)(d:Addr):Au ER! (E! y) (Fj c d)=Fj y d:=by grind [X5,V,Au,Fj]
def kvsOf(ls:AJ!):Sc:=ls.map λl=>(Sum.inl l.1,V.ref l.2)
structure IW(C:Addr)(H:Hp)(p d:Addr)(c:Int)(ls:AJ!):Prop where
 ob:∃dx,DG! (As! (Fj c d))
 dc:Bu! (.dK (kvsOf ls))
 le:∀l∈ls,l.1<=c
 nd:SC ls.map
theorem IW.keep(x:IW C H p d c ls)(h1:∀o,DG! o->Ao! H' p)(h2:∀o,Bu! o->re H'):IW C H' p d c ls :=⟨let⟨dx,e⟩:=x.ob;⟨dx,h1 _ e⟩,h2 _ x.dc,x.le,x.nd⟩
theorem IW.ne(x:IW C H p d c ls):p≠d:=by obtain⟨dx,e⟩:=x.ob;exact Im! e x.dc
theorem Mt(ls:AJ!):(kvsOf ls).length=ls.length:=ZA ..
theorem Kr:Ct (kvsOf ls) (Sum.inl n)=(ls.find? λl=>R! AG!).map λl=>V.ref l.2:=by
 unfold Ct kvsOf;rw[M_,Option.map_map];congr 1;congr 1;funext l;show R! ((Sum.inl l.1:Key)=Sum.inl n)=decide (AG!);by_cases e:AG!;.rw[e];simp
 .rw[FJ!,decide_eq_false λz=>e (Sum.inl.inj z)]
theorem Jlv(h:∀l∈ls,l.1≠n):Ct (kvsOf ls) (Sum.inl n)=none:=Ed! Kr (BB.mpr λl hl=>BR! (h l hl))
theorem Y8{l1 l2:AJ!}{n:Int}{t:Addr}(nd:SC (IZ!).map):M! (IZ!).find? (λl=>R! AG!) (n,t):=by
 rw[ZF,AK] at nd;have h:∀l∈l1,¬AG!:=λl hl e=>by have:=(AM.mp nd).2.2 l.1 (BJ hl) n (ZL ..);exact this e
 rw[KJ];have e1:l1.find? (λl=>R! AG!)=none:=BB.mpr λl hl=>BR! (h l hl)
 rw[e1];simp
theorem Zc(nd:SC (IZ!).map):D7 (kvsOf (IZ!)) (Sum.inl n)=kvsOf (l1++l2):=by
 rw[ZF,AK] at nd;have h1:∀l∈l1,¬AG!:=λl hl e=>(AM.mp nd).2.2 l.1 (BJ hl) n (ZL ..) e;have h2:∀l∈l2,¬AG!:=λl hl e=>(AN.mp (AM.mp nd).2.1).1 (by have m:=BJ (f:=λx:Int×Addr=>x.1) hl;rw[e] at m;exact m);have all:∀ls:AJ!,(∀l∈ls,¬AG!)->D7 (kvsOf ls) (Sum.inl n:Key)=kvsOf ls:=λls h=>by refine Re FB!;unfold kvsOf at m;rw[AL] at m;obtain⟨l,hl,e⟩:=ZN m;exact h l hl (Sum.inl.inj e)
 unfold kvsOf;rw[ZF,AK,ZF];unfold D7;rw[JR,DH];have e0:R! (((Sum.inl (n,t).1,V.ref (n,t).2):Key×V).1≠Sum.inl n)=false:=B?
 rw[e0];have a1:=all l1 h1;have a2:=all l2 h2;unfold D7 kvsOf at a1 a2;rw[a1,a2];rfl
theorem Wh(h:∀l∈ls,l.1≠n):putK (kvsOf ls) (Sum.inl n:Key) (V.ref t)=kvsOf (ls++[(n,t)]):=by rw[Fa _ (Jlv h)];unfold kvsOf;rw[ZF];rfl
structure EZ where
 share:Int
 hs:Addr
 po:Addr
 iq:Addr
 fi:Addr
 en:Addr
 pd:Addr
 c:Int
 ls:AJ!
 qs:H? (Addr×BZ)
 LV:AJ!
 IP:AJ!
 EY:AJ!
theorem Jo:CQ! Af! Ag!:=ZV
theorem Lr:CQ! Ah! Ag!:=ZV
theorem K2:CQ! Ah! Af!:=ZV
theorem Oj:CQ! Ai! Ag!:=ZV
theorem Lu:CQ! Ai! Af!:=ZV
theorem Po:CQ! Ai! Ah!:=ZV
theorem K3:LB! Ag!:=ZV
theorem Jp:LB! Af!:=ZV
theorem Lv:LB! Ah!:=ZV
theorem Ol:LB! Ai!:=ZV
theorem Om:FO! Ag!:=ZV
theorem Lw:FO! Af!:=ZV
theorem Pp:FO! Ah!:=ZV
theorem Rz:FO! Ai!:=ZV
theorem On:FO! Go!:=ZV
def Fi(W:EZ):v?:=[(Ag!,z! W.share),AF! Af! W.hs,AF! Ah! W.po,AF! Ai! W.iq,AF! Go! W.fi,AF! Km! W.en]
theorem Jn(W:EZ):Ls! Fi W Ag! W.share:=by unfold Fi;rw[Ia]
theorem D8(W:EZ):Ga! Af! W.hs:=by unfold Fi;rw[Bv Jo,Ia]
theorem E1(W:EZ):Ga! Ah! W.po:=by unfold Fi;rw[Bv Lr,Bv K2,Ia]
theorem Nr(W:EZ):Ga! Ai! W.iq:=by unfold Fi;rw[Bv Oj,Bv Lu,Bv Po,Ia]
theorem Pn(W:EZ):Ga! Go! W.fi:=by unfold Fi;rw[Bv K3,Bv Jp,Bv Lv,Bv Ol,Ia]
theorem Jen(W:EZ):Ga! Km! W.en:=by unfold Fi;rw[Bv Om,Bv Lw,Bv Pp,Bv Rz,Bv On,Ia]
theorem C4(W:EZ)(h:([Ag!,Af!,Ah!,Ai!,Go!,Km!]:T!).contains m=false):W! (Fi W).lookup m:=by simp only[M',Bool.or_eq_false_iff,DX] at h;obtain⟨h1,h2,h3,h4,h5,h6,_⟩:=h;unfold Fi;rw[Bv h1,Bv h2,Bv h3,Bv h4,Bv h5,Bv h6];rfl
theorem Jkr(W:EZ):Au Km! (P! W.en) (Au Go! (P! W.fi) (Au Ai! (P! W.iq) (Au Ah! (P! W.po) (Au Af! (P! W.hs) (Au Ag! (E! W.share) [])))))=Fi W:=by unfold Fi;rw[E6];rw[a? Jo,E6];rw[a? Lr,a? K2,E6];rw[a? Oj,a? Lu,a? Po,E6];rw[a? K3,a? Jp,a? Lv,a? Ol,E6];rw[a? Om,a? Lw,a? Pp,a? Rz,a? On,E6]
end
mutual
def Z:=#[GF!,Addr×BZ,
Dn!,by simp at h,
G!,.inl,
Y!,.inr,
Jn!,by simp[Cu],
R? a,λq hq=>a,
Cj! a,λb o hb e=>a,
jp a,(by cases a),
c? a,by rw[a];rfl,
W? a b,by rw[a,b],
H! a b,by rw[a];exact b,
A2! a,λb o e hb=>a,
F!,by lia,
SC a b,by rw[a,b];rfl,
Bk! a,λb o e=>a,
GX!,"house",
J?,.int,
BK!,"hand",
X?,.ref,
D6!,"holds",
D7!,"outs",
GY!,"records",
GZ!,"ticks",
Ga! a,∀q∈G.holds,a,
BL! a b,by rw[<-a,b],
d?,by simpa using h,
t?,by simp,
B4!,t∈ts,
Gb!,by simpa using hu,
No,(·.2.2),
B8!,(·.2.1),
T!,(·.1),
D8! a,by unfold Bp;rw[a];rfl,
Cl! a,∀t∈G.hand,a,
lc a,by show a;lia,
Mw!,by simpa using hq,
EA! a,by have:=a;lia,
Gc!,by simpa using ht,
K? a b,by rw[<-a];exact b,
Mx! a b c,by rw[<-a,<-b];exact c,
BM!,t∈G.hand,
CM!,T2×Int,
CN!,(·.2),
CO! a b c,if a then b else c,
My! a,{ G with AH:=a },
Mz!,by simpa using e,
M0!,Addr×Value,
Aj! a b c,by rw[a,b];exact c,
o0,{ s with heap:=h' },
Ge! a,by simpa using a,
pi a,a<=sizeLine,
EW!,j<QE.size,
CQ! a,by rw[a];lia,
sB,by decide,
AI! a b,show a from b,
L?,.nil,
FM,t∈R,
Gx! a,∀t∈ahead,a,
HF! a,{ G with AI:=a },
M8!,i<=kvs.length,
DY!,by simpa using c,
IR a,λt ht=>a,
BW!,"tuple",
De!,ta∈G.hand,
FB,"self",
CP!,"thing",
M5! a b,if a then b else none,
AR!,tb∈G.hand,
V?,"hold",
I2! a,{ G with hand:=a },
I3!,"weight",
I6! a,show a by decide,
Jp! a,show a from rfl,
Do!,"share",
KK! a,∀(x:Addr)(H':Hp),a,
GK!,"__init__",
D4!,"state",
Mt! a,∀(t:Addr)(H':Hp),a,
CJ! a,∀l∈ls,a,
M1! a,by unfold WC;rw[a],
EB!,"reached",
EC! a,show a from rfl,
M2!,"House.lose",
M3! a,let⟨_,_,_,fr⟩:=h;a,
AH! a,λb o e h1 h2=>a,
re,"back",
Ei!,"give_back",
Al!,"more",
Gq!,"letter",
FS,"pass",
Gy!,x≠W.hs,
NC! a b,{ W with c:=a,ls:=b },
NR!,G'.BP=G.BP,
NS! a,∀t∈G'.hand,a,
CY!,λt _ h=>h,
CZ!,l.th=t,
s?,a++b,
Ca!,l∈ls,
GD!,b∈G.hand,
Dl!,t=l.th,
GH! a,λr hr t ht=>a,
D9!,fi.length=m,
Gd!,"beginner",
CR! a,λb ob e n=>a,
L! a b c,a b=some c,
g? a,decide (a),
K! a,G! a,
h! a,a T!,
C! a b,a _ _ b,
AJ! a b,L! H a b,
D! a,Y! a,
O! a,X? a,
e? a,(a:Int),
P! a,Ai a t,
Op a,λq=>g? a,
A!,List T2,
E? a b c d,(upd a b (c d)),
x! a,V.ref a,
v? a b,(Aa (pv a) b),
S? a,⟨rfl,a⟩,
Q! a b,H! (Ab a) b,
i!,(pv 0),
Y? a,V.int a,
l!,q.2.1,
F?,q.2.2,
d!,(Ap (pv 0) rfl),
f?,W.c+1,
B!,List V,
w! a,t∈h! a,
U!,(pv 1),
BN! a b,[FB,a,b],
BO! a b c d e,DK P w K mg base a b c d e,
BP!,(q,G),
w? a,⟨_,a⟩,
M6!,(ts.take i),
V!,e? i,
m?,(G.BP,G.AO),
S! a b,(H! a b),
GM a,⟨_,a,?_⟩,
E! a b c,E' K a b c f fd,
AT a,a=some BP!,
x? a b,AX C a p b,
G? a b c,Ao a b (Ak c),
J!,List (CM!),
Os,O! p,
I!,S? (λEB A outer s hr=>?_),
n?,(Am G ts),
HL! a,(qs.set i (q,a)),
AK!,[FB,CP!],
DV! a b c d e,FN P w K mg base a b c d e,
M7!,x! l!,
Z!,q.1=t,
Am! a c,L! a b c,
H? a,some (X? a),
o?,(keepR G R),
M!,List Addr,
sK a b,Ah (o:=a) b,
CS! a b,a (Op b),
N!,Txt K mg C NHd NNr MI NW,
AL! a,(IR a),
p?,[FB],
R!,(pv 2),
a!,K! h,
Hi! a b c,a b m c sh qs ls,
y! a,J? a,
h?,P! G.AI,
BQ! a b c,E? H a b c,
DW!,Y? q.2,
M?,(s?),
An!,q.1≠t,
Z? a,λt=>g? a,
O? a b c d,upd a b (c d),
T? a,H a=none,
M9! a b c,Av (i:=a) b rfl (Or.inl rfl) c,
z!,Cq G ZV,
Go,r.2.2,
A? a,Paired.length a,
P? a b,D! ⟨a,b⟩,
X!,AT (qs[i]?),
W! a,F.JJ a λvs H Q E h=>?_,
PP,G.BC+1,
NA! a b c,(upd a b (.BE (c V.ref))),
Rs,P! G.AH,
F3!,tk q.1,
IN a,Bl H a,
Ao! a,⟨q,hq,a⟩,
BR! a,CS.of a,
g!,(F!),
SB a,a (F!),
B?,List α,
Ap! a b c,AJ! a (b c),
i? a,ZB _ a,
a?,(i+1),
BS!,found++[t],
H8!,[FB,"h"],
j!,AE c,
k!,Ci hr,
sw,⟨rfl,rfl,rfl,rfl⟩,
N? a,(a T!).Nodup,
q!,List (GF!),
o!,AB c,
v!,x? H G,
DX! a b,LG qs ls a b,
Aq! a b c,L! a b (.BE (c V.ref)),
AM!,h! G.AH.map,
F4! a b c,C! a (b _ _ c),
CT! a,(Aw Ar a Ag),
ut,(by rfl),
C?,List LT,
D? a,inClass (top 14) a,
AN! a b c d,BO! 1 a b c (d C),
BT! a b,absurd a b,
v4,λq:T2×Int=>q.1,
b? a b c d,(a b c).length<=d,
I?,Ok G n,
CU!,AJ! b o,
Ib!,(Au "houses" (X? r) (Au Do! (J? sh) [])),
DZ! a,(λ_ _ _ _ _=>a),
v6,ZL ..,
Ar!,λq:T2×Addr×List T2=>q.1,
Pj! a b,AJ! a (.A_ (tv b)),
j?,BM G,
Q? a,inClass (top 23) a,
Ii! a b c d e f g,(As (pl:=_) a b c d e f L? Bs g),
As!,BN! "b" I3!,
Ix,BN! "a" "b",
U?,(pv 3),
y? a,LY t a,
Pk! a,λq=>(a,M7!),
CV!,v? 1 Ae,
Im!,Ai G.AI b,
BU! a,a V.ref,
At!,(Am G M6!).AH.filter,
Pl! a,S! ZA a,
Iq! a b c d,DV! 1 a b c d,
F5! a,HJ p W H a,
ND! a b,DX! (HL! a) b,
F6! a,Q (X? a) H',
Da! a,vs=[Os,a],
QA!,⟨λ_ z=>(jp z),λ_ _ z=>(jp z)⟩,
It! a b c d e f g h i j k,⟨_,rfl,p,C,a,_,_,rfl,b,T.cl,c,d,e,_,f,rfl,g,h,i,j,k⟩,
Db! a b,a (Op b),
Au! a b,g? (a=b),
SL a,(Af (Ay a)),
BV!,Bn G.hand tb,
Iu!,(G_ (L.take i)),
KB,r.2.1,
wE a,⟨_,rfl,a⟩,
Av! a b c d,(Ad (M9! a b c) d),
CW! a b,L! a b (.BE ys),
Dc!,T2×Int×A!,
k? a,Hz F a λvs H Q E h=>?_,
NN! a,E (X? a) none H,
l? a,PJ λo' e=>by rw[a] at e;cases e;exact QA!,
SZ a,AF.mpr a,
CX! a,(by show a;decide),
BY! a b,⟨a,b,?_⟩,
wP a b,(a b).length,
Sc a b,K! ⟨a,b⟩,
TD,BD _,
Dd! a,Q! a e,
q?,Sd m G n,
F7! a b c d,F_.t (k:=tk a) b c (Pl! d),
Tk a,Sd m a (n+1),
r?,Fh K mg CW NH NI,
Nm! a b,v? a (v? b Ae),
F8!,w? rfl,
Iw! a b,AS CW C CP a p b,
E1! a,Cv al n a,
Nq! a,λz=>a z.symm,
z?,AS CW C CP H p W,
u?,Hi! Wl C n,
AC,Hi! Wg D n,
N1! a b,Done C p G H a b,
Nx! a b,W.qs.set a (q,b),
Ny! a,a::Dc σ caps,
AO!,G.AO+1,
Bb! a b,(a (Op b)),
At,List Int,
Df!,O! b,
Dg! a b c,L! a b (A9 c),
AP!,w! hl.map,
OA! a b,GM (Ad (a) b),
Bc! a,Cj al n a,
Ch,AS CW CH CP H p W,
Pm! a,Pj! t a,
Ix!,(Bn G.hand tb),
Iy! a b,a _ _ b h1 h2,
AQ! a,(Aa (a) Ae),
Db a,EI K C a,
EQ,hr.mono (sB),
Aw! a,UC p G H a,
Ev,DP 1 _,
Dh! a b c d,It! a b T.nT (Cw _) _ rfl c _ d (El _) ?_,
F9!,λq=>DW!,
KE,(pv 4),
KF,AB e,
Ax!,w! G.AH.map,
OL! a,AL! (K! a),
Iz! a,(.ins C dx a),
Ay! a b,sK (.A_ a) b,
GA!,CT! U!,
Pn! a b c,((a/\NN! b)\/c),
A0!,F5! H',
Az!,F6! x,
Cb!,(Cr (G_ L)),
KM,AJ! b (.A_ (tv tb)),
Bd! a b,AN! f fd a b,
NE,(Cy i! Ag Ek),
Di!,‹_›,
Cc! a,λu=>g? a,
GB!,q.1=tb,
T0,K! k,
Be!,e? j,
UF,AE rfl,
UV,w! l.map,
GC!,B8 p W,
Dj! a,Bj G.AH tb (a),
Uf,DG.mp ht,
Bf! a b,AD.mpr ⟨a,b⟩,
I0! a b,h! a=b T!,
WF,QP G t,
Po! a b c d e,Ii! i! a b c d e CV!,
WP,λq=>(tk q,V.bl true),
Cd! a,a=h?-Rs+Cz t ls,
GE! a b c,BO! a f fd b c,
Dk! a b c,An (xs:=a) (j:=b) c,
Oo!,[FB,"kind","sender","goal","about"],
I1!,(Au "inquiries" (X? iq) (Au "post" (X? po) Ib!)),
Ce! a,⟨dx,a⟩,
Pp!,pi 2,
I4! a b c,a (K? b c),
wT,List HS,
wS,List LL,
Pq!,List (Str×NameKind),
wp,ZG _,
wv,e? h,
am,[FB,"things"],
XV,AE e,
I7! a,(.A_ (a V.ref)),
bn a,mg a=none,
JC! a b c d,(Ad (Cd hu a b c rfl) d),
ap a,(Af (A4 a)),
bv,IN H',
JF!,SB Be,
ci,(Aa d! Ae),
ca,α->T2,
Dm!,Cu p W,
Bg! a b c d,DN K C a b c d f1 d1,
GG!,KA W h q G,
cr,Pm! th,
db,AZ H as ts,
ga a,N1! a (Q .FH),
Bi!,Im! / 2,
ii,TV++[(r.1,ha,Go)],
Bh!,Br G q.1,
JT! a,(Dx i! a rfl),
Cf!,⟨Al!,l.th.1,l.s,l.th,sh⟩,
Cg!,(t?),
ww a b,AZ.keep a b,
A1!,S.2.1,
xL,tb∈AM!,
O8! a,W.ls++[(f?,a)],
xz,List (Dc!),
AA! a,Ab (Aj e a),
AB! a,C! s4 a,
Ch!,O! a,
AC!,Bx ?_,
Ci! a b,⟨_,rfl,a,b⟩,
O9! a b c,F7! tb a b c,
AD!,AN.mp nd,
Js! a,Iw! H' a,
PA!,W.c+(i:Nat),
Ck! a,D! (w? (K! a)),
GI!,G! (G! ht),
PB!,(λt _=>?_),
AE!,B_ H H',
AF!,rs.Perm G.AI,
Dp!,W.EY++[(f?,e)],
Dq! a b,h! (Cj a n b).map,
GJ!,C4 W ZV,
AG!,(i.at S).ob,
PC!,(Au "made" (J? 0) (Au "number" (J? n) [])),
AS! a,Ne.symm a,
Ds!,(f?),
Dr!,(v6),
AT!,x.2.1,
Dt!,G.hand++[(G.BP,G.AO)],
AU!,I2! BV!,
AV!,List (Int×Addr),
Ak!,List (List Key×V),
AW!,Ab b3,
Gg! a,C! k.A_ a,
AX!,D! (Ao! ht),
Du! a b c,P! (Bj a b c),
Dv!,S? trivial,
Kd! a b,Q! a (Iy! b e),
Dw!,J? h,
AY!,ZI hz,
Dx! a,(AD.mp a).2,
Dy! c,Cv M? n c,
AZ! a,Cj a n u,
GL! a b c d e f g,(As (pl:=_) a b c d e f L? Ba g),
GM!,Ao! z,
Dz!,BR! e1,
Aa!,Cc ?_,
Ab! a,Y! (G! a),
D0!,some x,
Ac! a b c,A6 a (X? b) c,
PE! a b c d,CS! a b=some (c,d),
Ad!,Option V,
Kg!,(b,NameKind.local),
Kh!,(a,NameKind.local),
Ae! a,⟨r,hr,a⟩,
Kj! a b,L! (a:Pq!).lookup y b,
Af! a,Y! (Y! a),
PF! a,(λy h=>a F8! h),
PG! a b c d,Po! a b c IB d,
D2! a b c,(Ax a b c (A5 _)),
D1! a b,(.ins C a (Cp b)),
PH! a b,PQ m qs ls a n b se,
Kp! a,⟨r,a,rfl,ht⟩,
D3!,⟨sw,trivial⟩,
Pr! a b c,⟨x.step hi a (OL! b) st c,st⟩,
Kv! a c d,⟨a,V!,c,b,d⟩,
Ag!,NA! H' aa IQ.map,
Ah!,D6 _ _ ZV ZV,
GN! a b,Inv X AA σ a b,
Ai!,E? H3 fa A9 (BS!),
A3! a,decide_eq_false a,
A4! a,S.same a,
A5! a b,(Q! a b),
A6! a,⟨a,?_⟩,
Iv!,t∈F?,
GO!,t.1=G.BP,
BX!,λ(q:T2×Addr×List T2)=>(F3!,M7!),
GQ!,q.2.2.2.1.take,
GP!,(us.map T!).take,
A8!,q.1=th,
A7! a b,by rw[<-a];exact(ZJ b).1,
BZ!,List (K×M0!),
Ba! a,C! a Ac,
A9! a,AJ! d a,
GR!,.refl _,
BA!,[FB,"b"],
BB! a b c,a _ _ b (Ne.symm c),
PI! a,w? (DW.of a),
BC!,ZI hr,
GS! a b,Ap! a .A_ b,
Lb! a,Bj G.AI tb (a),
BE!,Da! (O! t),
Lf!,(AD.mp hq).1,
BD!,CX! Pp!,
BF!,x.BP hi,
GT!,Q .FH H',
GU!,(s,tick,S),
Bj!,(Bp hl t),
BG!,[FB,"h","a","b"],
PJ! a b c d e f,(x.of a rfl rfl (AL! b) (λq hq t ht=>c) d e f).tk,
GV! a,⟨_,a,λ_ z=>(jp z),λ_ _ z=>(jp z)⟩,
D5! a,(upd H a (.dK (kvsOf l))),
BH! a b,¬((a:Str)=b),
GW! a,∃z,L! cl.lookup a z,
BI! a,K! ⟨rfl,_,DW.of a⟩,
BJ! a,(E (X? a) none H),
PK! a b c d e,⟨W.po,W.pd,a,b,_,_,_,_,rfl,c,d,e⟩,
Bl! a,decide_eq_true a,
Bm!,R? ?_,
Bo!,tb.1≠G.BP,
Bn! a b c,by have:=a;rw[b,c] at this;exact this,
Bp!,q.1∈R,
Bq!,q.1∉ts,
Br!,IR ?_,
Bs!,(G_ (L.take i)).flatMap,
Bt! a b,by have:=a;rw[b] at this;exact this,
Bu!,(Am G M6!).holds.filter,
Bv! a b c d,K! ⟨a,b,c,d⟩,
MV!,h! l.map,
Pu!,Op An!,
MX!,[FB,Gq!],
Bw!,AE d.symm,
By!,S? rfl,
Bx! a,(sm _ _ a),
Mb! a b,G? a p? b,
Mc!,HL! G',
Bz! a b,absurd a (b),
B0!,H? p,
Me! a,CS! a An!,
B1!,PA!+1,
B2! a b c,upd a b (.BE (c V.ref)),
B3! a b,L! a x (.BE b),
PL! a b,Aq! a b as.map,
Mh! a b,F4! a b e,
Mi!,DZ! (pv 0),
Mj! a b c,Iq! a b AK! c,
B5! a b c,Av! 3 a b c,
Mk!,Am G M6!,
Ml! a b,Dg! a fa b,
Pv!,G.AH++[(m?,e? 0)],
Mm!,P++(Q++R),
B6!,vs=[Os],
Mn! a,BQ! a .BE [],
PM! a b c,JC! d! a b c,
PN! a b c,H! (Ab (λz=>a (b))) c,
B7!,O8! t1,
B9!,[(D6!,1)],
PO! a,(rs.filter λq=>! a),
Pw! a b c d e,Pr! a b (c hi (d) λt ht ne=>e),
Mo! a b,k _ a λb' o e h1 h2=>b,
Mp! a b c d,BO! 2 a b c (d C),
CA!,AB (Nq! d),
Mq!,(.dK (L.map (Pk! (K! q.1:Key)))),
CB!,(rs.map T!).Pairwise JT,
CC! a,O9! a hb JF!,
Mr! a b c,x.next hi a rfl b PB! (c),
CD!,G.holds++[(m?,a,[])],
CE!,(λt h=>a!),
Ms!,λy=>Y? y.1,
CF!,["starts",D6!],
CG! a b,AZ.keep (HC a) b,
CH! a b,GM (Ad (A4 a) b),
PP!,([]++[V.int (f?)]),
Mu! a,F4! kq.A_ LO.A_ a,
CI! a,OQ qs ls a,
PQ! a,DQ.t (k:=tk th) a ht,
Mv! a,(qs.set l.th.1.toNat (q,Gw G l.th sh a)),
CK!,Dh! FJ ID FJ ID,
CL!,DN K CW GX! "World.house" E2 H8! fH dH,
Cm! a,b∈Co a,
Cn!,b∉GC!,
Co!,Bk! ?_,
Px! a,Ga! (∀t∈F?,a),
Cp!,G.AI.length<=500,
Cq!,λt ht e=>?_,
Cr!,λu hu=>?_,
Cs!,λx hx=>?_,
Ct!,G.AH.length<=500,
Cu!,λl h=>i? h,
PR! a b c,(M5! (a/\b) (some c)).toList,
Cv! a,C! a e1,
Cw!,D! h,
PS! a b,Q! (Aj e a) b,
PT! a b,GM (Af (a b)),
Cx!,v? 0 Ae,
Cy! a,Cv a n u,
Cz!,AB (t?),
C0!,T? p,
C1!,(AD.mp hr).1,
C2!,(Ca 0),
PU! a c,∀b o,CU!->a->Am! c o,
C3!,G.AH++[(m?,0)],
C4!,Br n? q.1,
C5!,Br o? q.1,
C6! a,(Bj G.AH tb (a)),
C7!,K' m l,
PV! a b c,GE! a b (c CW C CP),
C8! a,k _ _ (t (Jn!)) a,
C9! a b,I4! a e b,
PW! a b c,OA! (M9! 2 a b) c,
PX!,G.AI.length+_<=_,
PY! a b d e,Js! { W with qs:=Nx! a b,c:=d,ls:=e },
DA!,Nl K mg CP NL,
DB!,i.at S,
DC! a b,sK (.BE (a V.ref)) b,
DD!,PF! NK,
DE!,λq=>(F3!,DW!),
PZ!,(Heap.SameBut.update ..),
DF!,Led L t,
DG!,BQ! G.h A9 Ix!,
DH! a,(a l hl nb),
DI!,PH! al fi,
DJ!,(.GV o (.dK kvs)),
DK!,⟨V!,0,0,h,o,l,r',[],[],[],[]⟩,
DL!,x.sd i q G hi,
DM!,BN! "h" GY!,
DN! a,Ok a (n+1),
Py!,⟨V?,l.th.1,l.x,l.th,sh⟩,
Pa! a b c,a (k:=Ar!) (f:=λq=>M7!) b c,
Pb! a b c,⟨_,rfl,p,C,dx,_,rfl,a,T.cl,b,c,?_⟩,
Pc! a b,PE! a GB! tb b,
DO!,(Jh p d),
Pd! a b c d,a _ _ b (S.tup_ne c).1 (S.tup_ne d).2,
DP!,Iq! fH dH H8! (Ew CW C CP NH),
Pe! a,DZ! (En (Ed (a hu i! U!))),
Pf! a,(ls++(Cb a rs).map (Ih V!)),
DQ!,Ep MH.fn T TW,
Pg! a,∀b u,AJ! b u->b≠p->Am! a u,
DR!,fi++[(s,tick,S)],
DS! a,(a C NHd NNr MI),
DT! a,Pn! (fk W h) NH (∃q G,GG!/\a),
Ph!,PG! TW.cl MH.mt GH MH.bd,
DU!,DN K C "is_near" "House.is_near" K5 AK! f1 bo,
Pi! a b c d e f g h,Eo (te:=a) (caps:=b) rfl c rfl ZV rfl ZV rfl d e f ZV g h,
ED!,b∈Dm!,
EE! a,λo e=>f _ _ e a,
EF! a,SC ZH a,
EG! a,SC a ZF,
EH! a,if Z! then a else q,
EI!,["states"],
EJ!,t=m?,
EK! a b,λu hu=>a u b,
EL! a,My! (Dj! a),
EM!,CQ! ZA,
EN!,(Am G M6!).AH,
EO!,by rw[z];simp[BM],
EP!,λH1 S1 LQ=>?_,
EQ!,(Am G M6!).holds,
ER!,W.ls.length<=400,
ES!,λb' o' e' IM=>?_,
ET! a,λb o e _=>a b o e,
EU!,wt / 2,
EV!,Ai G.AI l.th+l.x,
EX!,(pv 5),
EY! a b,a (AF.mpr b),
EZ! a,K! (Kp! a),
Ea!,h! G.AI.map,
Eb!,List (Str×Addr),
Ec!,O! q,
Ed!,P! l,
Ee!,x! c,
Ef! a,⟨_,a,rfl⟩,
Eg! a b c,L! a b (c []),
Eh!,decide_eq_true h,
Ej!,w? Ac,
Ek!,(CO.mpr rfl),
El! a,λq=>(q.1,a),
Em! a b,GM (Ad a b),
En! a,some (J? a),
Eo! a,x? H' a,
Ep!,AL! ?_,
M4! a,(Prod.mk.inj a).2,
Eq!,(Pv!).map,
Er!,y! n,
Es!,f?+1,
Et! a b c,a=G_ (L.take b)++c,
Eu!,A? th,
Gf! a b,NA! a b KR.map,
Ev!,BR! et,
Ew!,α->Bool,
Ex! a,BT! h a,
Ey! a,E1! a=[],
Ez! a,Bc! a=[],
E0! a b,CS! l.find? a=some b,
E2!,BU! IQ.map,
E3!,wE q,
E4! a b,f _ _ a (Ne.symm b),
E5! a,a->Shared->Prop,
E6!,Dd! hb,
E7! a b c,Kp p a (upd b p (.ins CW dx c)),
E8! a c d,∀b o,Am! a o->c->Am! d o,
E9!,(C9 _ _ _).2.2 t ht,
FA!,Pv (i+1),
FB!,Ok n? n,
FC!,T2->Prop,
FD!,rowsOf L,
FE!,rowsOf Iu!,
FF! a,Ai G.AH tb+(a),
FG! a b,(Ad a (SL b)),
FH!,(Bj G.AI tb _),
FI! a,kp _ _ (t (Jn!)) a,
FJ!,l[i]?=some q,
FK! a b,O? a b .dK [],
FL! a,Be (lc a),
FM!,List (Int×Int×HS),
FN! a b,upd a p (.ins CW dx b),
Pz! a,Kd! h1 a,
FO! a b c,DQ H a (X? t) (some (b c)),
FP!,Pv i σ H,
FQ! a b c d,a hi b (c) (GH! d) (BD _),
FR!,GF Di!,
FS! a,D! (Y! (G! a)),
FT! a,Ap! d a l,
FU! a c d,(ls++[Kv! a c d]),
FV!,Gs Cb! r.1,
FW! a b c d e,PJ! a GI! b c d e,
FX! a b,(D0 a (D0 b Jq)),
FY! a,AV (AW _ _) a,
Gh!,(Co qs++[r,p]),
FZ! a b c d e,⟨_,rfl,a,b,c,_,rfl,d,e,rfl,?_⟩,
P0! a b c d,Pw! a ht b c d,
Fa! a,Bj a tb v,
Fb!,(List.filter_sublist.map _).subset,
Fc! a b,fr _ _ a (bM b),
Fd!,(HM.mp ht).1,
Fe! a,AZ a as ts,
Ff!,Hl fi h,
Fg! a b,Aq (λ_ _ e=>C! a e) b,
Fh! a b c,⟨_,rfl,a,rfl,PI! b,c⟩,
P1! a,(Gq hu d! a sw),
Fi!,⟨_,rfl,p,dx,_,rfl,hp,GJ!,_,rfl,p,h,W,rfl,S,?_⟩,
Fj! a,(λz=>by rw[z,a] at e;cases e),
Fk!,([]:A!),
Fl!,(UQ G a),
Fm!,[(FB,0)],
Fn! a b c,DV! a f1 d1 b c,
Fo! a,PK K a hl,
Fp!,(Bp G.holds ta),
Fq! a b c,L! (upd a p (.ins CW dx b)) p (.ins CW dx c),
Fr!,(Bb hu d! U!),
P2! a b,Wg D m (n+1) sh (HL! a) b,
Fs!,f b o e ?_,
P3! a,MV (QD G.holds) a (startT G) [] R,
Ft! a b d,PK! W.c W.ls a b d,
Fu!,Str->Option Value,
P4! a b,Dk! a i (EA! (ZJ b).1),
P5!,E? H5 p .BE (ys++[v]),
Fv! a b c d e f,⟨_,rfl,p,C,a,_,_,rfl,b,T.cl,c,d,_,rfl,e,_,rfl,f,?_⟩,
Fw!,∃z,L! cl.lookup y z,
P6! a,λv H5=>CW! H5 p/\ys.length<sizeLine/\a,
Fx!,λe'=>h2 (by rw[e'];simp[BM]),
P7!,(C6 (At! Pu!)),
Fy! a b c,(putK (a b) (tk m?) c),
P8! d e,Kj! [Kh!,Kg!,(c,d)] e,
P9! a b c d,Ei PassesOwn.never rfl a (Bk (i:=b) c rfl (Or.inl rfl)) d,
Fz! a,(Hu rfl rfl a Io),
F0! a b,a b' o' b (λz=>IM (ZB _ (by rw[z];simp[Cu]))) λz=>IM (ZB _ (by rw[z];simp[Cu])),
F1!,(upd H5 d (.dK (L.map (Pk! (K! q.1:Key))))),
F2!,DN K C "need_in_hand" "House.need_in_hand" Im AK! f2 bg,
Gi! a,l.kind≠re->a,
Gj! a b,(K? a b),
Gk! a,(Op a),
Gl!,(BS!),
Gm!,λq=>x! q.1,
Gn! a b,{ W with qs:=Nx! a b },
Go!,c? ZF,
Gp!,λr hr=>?_,
Gr! a,(a i).length,
Gs!,tb.1=G.BP,
Gt!,[I3!],
Gu!,[V.int (f?)],
Gv!,[Py!],
Gw! a b,CO! a b 0,
Gz!,G.hand.length<=500,
G0!,λ_=>V.bl true,
G1! a,{ G with BC:=PP,AI:=a },
G2!,Ai G.AH tb-wt,
G3! a,NC! a (W.ls++L),
G4!,l.kind=FS,
G5!,Ai G.AH l.th-l.x,
G6! a b c,a=b (Op c),
G7! a b,a (λz=>Au! z.1 q.1)=some b,
G8!,K! ht,
G9! a,AJ! p a,
HA! a,AJ! a (.BE (as.map V.ref)),
HB!,[FB,"number"],
HC! a b c,L! a b (.A_ c),
HD!,decide_eq_false h,
HE! a,inClass (top 19) a,
HG!,v? 2 Ae,
HH! a b,(Aa a (Aa b Ae)),
HI!,(KR++bs).map,
HJ! a b c d,BO! 1 a b c (d K),
HK! a,(.dK (kvsOf a)),
HM!,DW.of S.hs,
HN!,Z? (t∉R),
HO! a,N_ t l+Cz t a,
HP!,T? b,
HQ!,(ZB _ m),
HR! a,P? a k,
HS! a,(a++[Cf!]),
HT!,Ff G.hand tb,
HU! a,ZC _ (ZD _ a),
HV! a,BT! h.symm a,
HW! a b,CS! G.holds.find? a=some b,
HX!,(Bn hl tb),
HY!,BU! as.map,
HZ! a b,L! a p (Iz! b),
Ha!,Br n? t,
Hb!,Br o? t,
Hc! a b,DV! 3 f fd a b,
Hd!,Aw! H',
He!,(g,tick,S),
Hf! a,Bd! p? a,
Hg! a b,Cd! (h?-a+Cz t b),
Hh!,hb (ZB _ (Jn!)),
Hj! a b,O? a b .dT [],
Hk! a,sK (.dT []) a,
Hl!,Nat->Bool,
Hm!,List (Int×Addr×HS),
Hn! a b,CS K H a (b V.ref),
Ho!,Gg! e2,
Hp! a,GN! H a,
Hq! a,(tC (.str a)),
Hr! a b,L! H' a (C6 b),
Hs!,(Ff hl tb),
Ht!,Lb! (O4 G.AI tb+wt),
Hu! a b c,a i q G hi t b c,
Hv! a,Dv m g n a,
Hw! a b,((List.range a).map b).sum,
Hx! a,PL! H' a,
Hy!,R_ t qs k,
Hz! a b,PM! U! a b,
H0! a b c,PN! a (K? z b) c,
H1!,PQ! hd,
H2!,(Cl! (VE t)),
H3! a b c d e,GL! i! a b c hr d e,
H4! a,g? (Y? goal=V.int a),
H5! a,(Aw Dg d! a),
H6! a,R? (a q Lf!),
H7!,C! NG.A_ hb,
NB! a b,E? a G.o C6 b,
H9!,(rowsOf L).map,
IA! a,wP keys.filter (Cc! a),
IB!,HJ.DO S HY,
IC! a b,Wl C m (n+1) sh (HL! a) b,
ID!,Jg qs r,
IE!,y? x.2+He t l,
IF!,[FB,"b",Do!,"mine"],
IG! a,(Ug K (Ca 1) a),
IH! a,Bi (Da rfl) ut T.sorted DT a,
II!,MV nx n ahead found R,
IJ!,(Px! (VE t)),
IK! a,¬D t\/SF a t,
IL! a b c,AS CW CH CP a p b/\c,
IM!,Oe G ts,
IN! a b c,(By (Bk (i:=a) b rfl (Or.inl rfl)) c),
IO! a b,Cz t a+N_ t b,
IP! a,G? AK! AK! a,
IQ! a b,Binds K a b [],
IR! a b,BB.mpr (R? (by have:a:=λz=>b (AF.mpr GM!);simpa using this)),
IS! a b c d,(a++Dq! b c++h! d).Perm (rg m),
IT!,WX G tb HD,
IU!,(Au Do! (J? sh) []),
IV!,Dw (k:=Ar!) (f:=λq=>M7!),
IW!,hb.elim h.1 h.2,
IX!,E? H4 x .BE PP!,
IY! a,x.IX (b:=a) (Jn!) hq,
IZ! a,Fm (G1:=a) (by simp[BM]) rfl rfl S1 k,
Ia! a,⟨z,a,e,c⟩,
Ic! a,λz=>absurd (k.symm.trans z) a,
Id! a,GM (Af (Ay (a))),
Ie! a b c,f _ _ a (Ne.symm b) (Ne.symm c),
If!,(upd H3 W.en (.dK (kvsOf (Dp!)))),
Ig! a b,⟨_,rfl,p,CW,dx,_,rfl,a,TW.cl,b,(by simp only[CA] at l1;lia),?_⟩,
Ih!,(Au "post" (X? po) Ib!),
Ij!,hs h hh bh,
Ik!,⟨V?,V!,g,b,sh⟩,
Il!,(s2 _ _ (HY b' o' e' IM)),
In! a b,Mh hu d! U! a b (λ_ _ _=>rfl),
Io!,(s?++[.J' g s n' u tick S]),
Ip!,DN K CP "put" "Post.put" Ma Oo! f3 d3,
Ir! b c d e f g,b (K:=K) (a:=c) (xs:=d) (e) f (g) ?_ ?_,
Is! a b c d e f g,⟨_,rfl,_,rfl,p,C,a,_,_,rfl,b,T.cl,c,d,e,f,rfl,g,_,rfl,?_⟩,
NE!,(λ_ _ _ _ _=>Ip),
NF! a,(Pg! a),
NG! a b,Me! a=b,
NH! a b,a Mc! b,
NI! a b,⟨DW.of a,b⟩,
NJ! a,(l.map a).Nodup,
NK! a b c,P2! a b/\c,
NL! a b,Wg D m (n+1) sh (HL! a) ls/\b,
NM! a b,a/\(b key).Pairwise JT,
NO!,c? AQ,
NP!,λb hb=>?_,
NQ! a,H! z a,
NT! a,Bb! a Iv!=true,
NU!,t∈Dt!,
NV!,t∈r0.2.2,
NW! a,∀t∈Go,a,
NX!,t.1≠G.BP,
NY!,b.1≠G.BP,
NZ!,u∈h! hl.map,
Na!,lc PX!,
Nb! a,K? e a,
Nc! a b,CO! a b [],
Nd!,x! a=x,
Ne! a b,Aj! IT a b,
Nf!,CQ! CD,
Ng!,ts.length<=900,
Nh!,q.2.2.2.2.take,
Ni! a,∀{n:Nat} {ahead found R:A!},a,
Nj!,a.length+1,
Nk! a,λt=>by unfold N_;rw[a],
Nl!,u∉BS!,
Nn! a,λr=>! Au! KB a,
No!,t∉ts.take i,
Np!,t∉MV!,
Nr!,v.1.toNat,
Ns!,v.2.toNat,
Nt! a b,{ G with BC:=PP,hand:=a,AH:=b },
Nu! a,{ G with BC:=PP,AH:=a },
Nv!,hl.length<64,
Nw!,{ G with AO:=AO! },
Nz! a,show e? 0<a by decide,
N0!,ls=a++l::b,
N2!,(Am G M6!).AH.map,
N3! a,∀q∈a,An!,
N4!,λa ha=>?_,
N5!,l.th∈AM!,
N6! a,∀(j:Nat)(q:Addr)(G:BZ),AT (qs[j]?)->a,
N7! a,(by rw[a] at z;cases z),
N8!,λh hh bh=>?_,
N9! a,s∉h! a,
OB! a,decide_eq_true (a),
OC! a,kvs[i]?=some a,
OD! a b c,a->b->A0!->Gy!->Xc p W H x->c->Az!,
OE!,g? FM,
OF! a,g? (r.1∉a),
OG! a,K! (w? a),
OH!,h! us.map,
OI!,List (Key×V),
OJ!,e? W.qs.length,
OK! a,P! (G.AI.filter λq=>a),
OM!,[FB,"n"],
ON! a b,v? a (Aa b Ae),
OO! a,[("kept",a)],
OP! a,Q! hb a,
OQ!,(Ap (pv 1) rfl),
OR! a,inClass (top 21) a,
OS! a b c d,x? (BQ! a b c) d,
OT! a b,G? a MX! b,
OU!,H? d,
OV!,H? hd,
OW! a c d e f,DN K C a c d As! e f,
OX! a,CS! l.find? a,
OY! a b c d e,(Ad (P9! a b c d) e),
OZ!,AB (sB),
Oa!,(ZB _ hu),
Ob!,SB BN.mp,
Oc! a b,Ap! a A9 b,
Od!,N? rs.map,
Oe! a b,Aq! a b bs.map,
Of! a b,F4! a s2 b,
Og!,BN! "b" Do!,
Oh!,CT! GA!,
Oi!,GP! i,
Oj!,ZC _ Cg!,
Ok!,hs.Pairwise JT,
Ol! a,(Sum.inl (a):Key),
Om!,h! (Bj l t v).map,
On!,Pk! F3!,
Op! a,ND! G' a,
Oq! a b,ND! a (Pf! b),
Or!,Da! Dw!,
Os! a,Db! a Z!,
Ot! a b c d,a b m (n+1) sh (Mv! c) d,
Ou! a b c,SZ ⟨q,Bf! a b,c⟩,
Ov!,GQ! j,
Ow! a b,Sc (DW.of a) b,
Ox!,Dd! h,
Oy! a,Nm! a 5,
Oz!,E1! u,
O0!,Nq! c,
O1!,q.1∉ts.take i,
O2! a b,DV! 2 f fd a b,
O3! a b,DV! 4 f fd a b,
O4!,0<Rs,
O5!,P++(Q++s::R),
O6! a b,Pn! a NHd b,
O7! a b,DQ H d (X? a) b,
I5! a,hb (ZC _ (DF.mpr a)),
I8!,I7! KR.map,
I9! a,sK (.BE []) a,
JA! a b c,Bg! a b c p?,
JB! a b c,OA! (M9! 1 a b) c,
JD!,JT! Dm,
JE!,JT! Fw,
JG! a b,Ci! (H! eG a) b,
JH!,Nl K mg C NL,
JI!,ts[i]?=some t,
JJ!,C! s6 TZ,
JK!,Dy! 1,
JL!,(th,a,hl),
JM! a b,D2! Cg a b,
JN!,mem_mid hz,
JO!,(Mm!++T),
JP!,(G.AH.map T!).filter,
JQ! b,GS! a b,
JR! a,ND! (a G tb) ls,
JS! a,ND! (a G ta tb) ls,
JU!,GV! e,
JV!,GW! c,
JW!,keepR G R,
JX!,(s1 _ _ es),
JY! a,Mb! p? a,
JZ! a,Mh! a s4,
Ja! a,Ml! a found,
Jb! a b c d e,As (pl:=_) a T.cl b c hr d L? Ba e,
Jc!,IZ (HW n?),
Jd!,IZ (HW o?),
Je! a,Mu! (s3 _ _ a),
Jf! a b,⟨_,rfl,_,rfl,a,_,rfl,b,?_⟩,
Jg! a b,(D! a,O! b),
Jh! a,PU! a H',
Ji! a b,PV! 3 a b,
Jj! a b,PW! a GA! b,
Jk! a b,Du! a l.th (b),
Jl! a,(Aa A7 (v? 2 a)),
Jm! a b,Pb! a b ?_,
Jo!,Pe! Lf,
Jq!,GO!->Ax!,
Jr! a,hashInt (e? a),
Jt! a,congrArg List.length a,
Ju! a b,∀{l:B?},a->b,
Jv! a,⟨a,GR!,t?⟩,
Jw! a b c,knd.keeps a b c PZ!,
Jx!,H! es (ZC _ Dr!),
Jy!,t.1≠Be!,
Jz! a,λz hz=>a z (ZD _ hz),
J0!,W.c+e? (0:Nat),
J1!,S! br (i? hu),
J2! a,AV a (sB),
J3! a,Q (J? a) H',
J4! a,Aq! a aa IQ.map,
J5!,(l.find? (Op Z!)).map,
J6!,Nm! 1 2,
J7!,RU t qs h,
J8! a b c d,putK (a b) c (V.ref d),
J9! a b c d e,Mr! (a b ib c) d e,
KA! a,h'.DictOfH knd d a,
KB!,P1! R!,
KC! a b c d,BY! a ⟨b,c,_,d,λo v z=>?_,rfl⟩,
KD!,P3! k,
KE! a b c,Mo! (a b G.AO (PP)) (Pz! c),
KF!,S.step i.2 S1 LQ λb hb=>K! hb,
KG! d,P8! k d,
KH!,W1.same s2,
KI!,Sum.inl n,
KJ! a,Am G (ts.take (i+1))=a,
KL!,(FB,0),
KM! a,(s.ok.new t a).1,
KN!,by have:=Dx! ht;simpa using this,
KO!,[x! b,DW!],
KP! a,AJ! a (I7! as.map),
KQ! a,D! ⟨r,a,h⟩,
KR!,P? sB sB,
KS!,BT! k np,
KT!,Pj! a ta,
KU!,HJ.DO W3 RI,
KV! a b c d,(Af (Bh (Ed (a hu b c)) d A3)),
KW!,L! H' d (.GV o Mq!),
KX!,I0! G.holds.map G.AH.map,
KY! a,{ G with holds:=C7 G.holds ta a },
KZ!,(upd H p (Iz! (Fj (c+1) d))),
Ka! a,Ay! [x! b,Y? W.share] a,
Kb! a c,JY p b ts H a ys c,
Kc!,vs=[Os,Df!,y! wt],
PD!,(Lb m b S1),
Ke!,(F7 kvs more),
Kf!,(λ_ H'=>GT!),
Ki!,λq=>! Bh!,
Kk! a c,Bk! (PS! a (C! c e)),
Kl!,q.1≠m?,
Km! a,Aj! ha hb a,
Kn!,show QE.size-j=(QE.size-(j+1))+1 by lia,
Ko! a b c,{ cls:=.type a,data:=b c },
Kq! a b c d,CW! H2 p /\ ((a i H2/\b)\/(c/\d)),
Kr! a,IR (by rw[e] at ht;exact a),
Ks!,λ(q:T2×Int)=>(F3!,DW!),
Kt!,λ(q:T2)=>(tk q,V.bl true),
Ku!,λ_ H Q=>Q true H,
Kw!,{ Mk! with AH:=Db! At! An! },
Kx! a b,∀(j:Nat) q G,AT (qs[j]?)->a->b,
Ky! a,Ab (Ne.symm a),
Kz! a,AJ! a (.GV o v),
K0! a b,L! mg a (X? b),
K1!,(qs.set l.g.toNat (q,G')),
K2! a,G? H8! H8! a,
K3! a,G? As! As! a,
K4! c,G? Ix Ix c,
K5! a b c d e f,As (pl:=_) a b c d IB e L? Bs f,
Ps! a,NA! a r2 UA.map,
K6! a b d e f g h i j k l,PY! a b d e->JO H' f Ds! g h i tb j->k->l,
K7! a b,b? Cb a rs b,
K8! a,EW.mpr ⟨λz hz=>?_,a⟩,
K9!,D.nx σ H,
LA! a b c,BY! a ⟨b,t?,AU _,c⟩,
LB! a,DD (a (by rw[ZA,ZA];lia)),
LC!,Nm! 2 3,
LD!,Ml M2.fn T,
Pt! a,(M5! a (some (V.bl true))),
LE! a b,I0! (G.holds.filter (Op a)).map (G.AH.filter (Op b)).map,
LF! a,DU.mpr (R? (Ge! (a q hq))),
LG! a b c,a (k:=v4) (f:=F9!) b c,
LH!,vs=[Os,Ch!,Df!],
LI! a c,DQ H a (X? b) (some (V.int c)),
LJ! a,{ G with holds:=Jr G.holds ad a },
LK!,(tC (J? 0)),
LL!,WC G tb wt,
LM!,Dw (k:=v4) (f:=F9!),
LN!,fw G b (Ai G.AH b+sh),
LO!,Nc G b (Im!-Bi!),
LP! a b,Mp! f fd a b,
LQ!,A6 "made" (J? 0) (Au "number" (J? n) []),
LR!,A6 GZ! (J? 0) PC!,
LS! a,Em G.AI (λt=>a) t,
LT! a,PT! A4 (Ii! Ph! T.cl M1.mt G1 hr M1.bd a),
LU! a,(upd H9 p (D1! VC a)),
LV! a,AZ H2 bs (a b),
LW!,Pc! G.AH.find? o,
LX! a,Du (v4) G.AH (Z? a),
LY! a b,(a o ne.symm).trans b,
LZ!,Km M3.fn TP,
La!,λq=>(tk (key q),val q),
Lc!,NA! H5 sl (as++KR).map,
Ld! a,Tk (a G tb v),
Le! a,L! H' a (.BE (L.map Ms!)),
Lg!,P4! ts ea,
Lh!,P6! (∃m',m'<m/\W a? m' (ys++[v]) P5!),
Li!,(s?++Dv m g2 n 2),
Lj!,Mj! f2 bg (L3 C NHd),
Lk!,t∈Dh G.hand G.holds,
Ll! a b,(D9 a ut T.tuple EG (AQ! b)),
Lm! a c d f g h i j,⟨⟨let⟨dx,e⟩:=x.ob;Ce! a,c,R? ((x.ho q hq).keep (Cj! d)),f,g,h,i,x.nd⟩,A2! j⟩,
Ln!,A6 "number" (J? n) [],
Lo! a b c d,(Bh (Ed (a hu b c)) (Af d) A3),
Lp! a,wpAny (model prog w) A a Q E s,
Lq! b c d e f g h i j,⟨_,rfl,p,C,b,_,_,rfl,c,T.cl,d,e,f,rfl,Ck! g,_,rfl,_,tk t,_,a,h,rfl,i,j,?_⟩,
Lr!,(q.1::BM q.2),
Ls! a,A2! (a b o (HY b o e hb) (sub b hb)),
Lt!,q=(m?,a,[]),
Lu!,[Y? G.BC,x! xs],
Lv! a,∀i m ys H2,W i m ys H2->a,
Lw! a,HF! (Db! G.AI.filter (q.1∉a)),
Lx! a,λOJ H2=>tb a OJ H2,
Ly!,(upd H2 G.o P7!),
Lz! a,Lk (λp hp hk=>a) h,
L0!,(Au GZ! (J? 0) PC!),
L1! a,F.ok a (λvs H Q E h=>?_) (λEB A outer s H vs Q E hr h=>?_),
L2! a b,(Bi Bq ut a CC b),
L3!,(Au "finds" (X? fi) I1!),
L4! a,tt (Ny! D0!) H3 λb H4 =>CO! (b=true) a (∃m',m'<m/\W a? m' ys H4),
L5! a,MV (QD hl) n (a (Z? AP!)) [] R,
L6! a b c,ZR (a (s:=b) c RR ?_),
L7!,⟨_,rfl,_,rfl,l,o,rfl,g,?_⟩,
L8!,Heap.SameBut d s.heap h',
L9! a,Pa! N8 (G! a) ha,
MA! a,Pd! a ha ha ha,
MB!,∀b o,CU!->∃o',Am! H' o',
MC! a,Bk! ⟨o,Ah a b o e⟩,
MD! a,∃W:Nat->Nat->B!->Hp->Prop,(∃m,W 0 m [] (Mn! p))/\a,
ME! a b,Ca 0 (Ny! a) H4 b,
MF! a b c,C3 (pl:=_) a T.cl M1.mt G1 b M1.bd L? c,
MG!,[V.int (wt-Ig wt),V.int (Ig wt)],
MH! a,_++(PR! (n=n) a GU!++_)=_,
MI! a c d,Bk! (by by_cases hb:a;(.subst hb;rw[c] at e;rw[Ac];exact e);.rw[Ab hb];exact d),
MJ! a b,step (o:=.dT []) Ac a b,
MK! a b,As (pl:=_) a TP.cl M3.mt G3 hr M3.bd L? Ba b,
ML! b,Az th i a t ea b,
MM! a b c d,Pi! (Ca 0) a b Dv! c D3! d Mi!,
MN!,BO! 1 f3 d3 Oo! (Hf CP),
MO!,∀b o,CU!->b≠p->b∉j?->b≠x,
MP! a b c d f,⟨a,by rw[e],by rw[e],by rw[e],by rw[e],λt=>b,c,d,f⟩,
MQ! c,∀(H2:Hp) (a:Addr) (t:T2) (Q':Bool->Hp->Prop),IN H2->L! H2 a (.A_ (tv t))->c->Q' (b t) H2->tt (Ny! (H? a)) H2 Q',
MR! a b c,Hj (l:=a) (k:=λq=>q.1) (f:=b) c,
MS!,∀b ob,AJ! b ob->b≠d->Am! H' ob,
MT!,(Au "enclosed" (X? en) (Au "finds" (X? fi) I1!)),
MU!,DN K C "need_near" "House.need_near" Ld AK! f3 jx,
MW! a c d e f,⟨_,rfl,a,c,_,rfl,d,Cq _ ZV,_,rfl,e,b,_,tb,rfl,S1,f,_,rfl,?_⟩,
MY! a b c d e f g h i j k l m n o,⟨_,rfl,a,b,c,d,e,f,g,h,i,j,k,l,m,_,rfl,n,_,_,rfl,rfl,_,rfl,o⟩,
MZ! a,P0! (x.wl.same hi a rfl rfl rfl) x.rc.less (λl h=>h) ⟨?_,TD⟩,
Ma! a c d e f g h i j k,⟨_,rfl,a,c,_,rfl,d,e,_,rfl,_,rfl,f,b,g,tb,wt,rfl,h,i,j,k⟩,
Md! a b c,⟨_,rfl,p,dx,_,rfl,hp,z!,_,rfl,p,a,G,b,rfl,S,c,?_⟩,
Mf!,⟨_,rfl,t,_,_,_,rfl,rfl,Dz!,rfl,a,_,_,_,rfl,rfl,BR! e2,rfl,?_⟩,
Mg! a b c d e,K! ⟨a,_,rfl,p,dx,_,rfl,hp,z!,_,rfl,p,b,G,c,rfl,S,d,e⟩]
def Co:q!->M!
 | []=>[]
 | q::l=>Lr!++Co l
theorem Ie:∀(l m:q!),Co (l++m)=Co l++Co m
 | [],m=>rfl
 | q::l,m=>by show Lr!++Co (l++m)=(Lr!++Co l)++Co m;rw[Ie l m,AQ]
theorem DF:∀{l:q!},Cm! l↔∃q∈l,b=q.1\/b∈BM q.2
 | []=>⟨λh=>by simp[Co] at h,λ⟨q,h,_⟩=>Dn!⟩
 | q::l=>by show b∈Lr!++Co l↔_;rw[LW,BV,DF];constructor;(.rintro(h|⟨r,hr,h⟩);(.exact⟨q,v6,h⟩);.exact⟨r,ZD _ hr,h⟩);.rintro⟨r,hr,h⟩;rcases ZM hr with rfl|hr;(.exact a!);.exact D! (Ae! h)
def Cu(p:Addr)(W:EZ):M!:=[p,W.hs,W.po,W.pd,W.iq,W.fi,W.en]
def B8(p:Addr)(W:EZ):M!:=Dm!++Co W.qs
structure AS(CW CH CP:Addr)(H:Hp)(p:Addr)(W:EZ):Prop where
 ob:∃dx,G9! (.ins CW dx (Fi W))
 hs:AJ! W.hs (.BE (W.qs.map Gm!))
 ho:∀q∈W.qs,AX CH H q.1 q.2
 po:IW CP H W.po W.pd W.c W.ls
 iq:AJ! W.iq (HK! W.LV)
 fi:AJ! W.fi (HK! W.IP)
 en:AJ! W.en (HK! W.EY)
 nd:(B8 p W).Nodup
def HJ(p:Addr)(W:EZ)(H H':Hp):Prop:=Jh! Cn!
universe S
variable {CW CH CP p:Addr}{H H':Hp}{W:EZ}
theorem AS.keep(x:Ch)(k:∀b o,b∈GC!->CU!->Am! H' o):AS CW CH CP H' p W:=by have t:∀{b},ED!->b∈GC!:=λh=>i? h;refine⟨let⟨dx,e⟩:=x.ob;Ce! (C8! e),C8! x.hs,R? ((x.ho q hq).keep (Cj! (k _ _ (ZC _ (DF.mpr (Ao! hb))) e))),x.po.keep (λo e=>C8! e) (λo e=>C8! e),C8! x.iq,C8! x.fi,C8! x.en,x.nd⟩
theorem AS.same(x:Ch)(s:bv):AS CW CH CP H' p W:=x.keep λb o _ e=>s b o e
theorem AS.some_at(x:Ch)(hb:b∈GC!):∃o,CU!/\(∀xs,o≠.A_ xs)/\∀ob u,o≠.GV ob u:=by
 rcases ZI hb with hb|hb;.simp only[Cu,BV,CL,HK] at hb;rcases hb with rfl|rfl|rfl|rfl|rfl|rfl|rfl;(.obtain⟨dx,e⟩:=x.ob;exact JU!);(.exact GV! x.hs);(.obtain⟨dx,e⟩:=x.po.ob;exact JU!);(.exact GV! x.po.dc);(.exact GV! x.iq);(.exact GV! x.fi);.exact GV! x.en
 .obtain⟨q,hq,hb⟩:=DF.mp hb;rcases hb with rfl|hb;(.obtain⟨dx,e⟩:=(x.ho q hq).ob;exact JU!);.obtain⟨kvs,e⟩:=(x.ho q hq).MQ hb;exact JU!
theorem AS.aO(x:Ch)(e:AJ! b (.A_ xs)):Cn!:=λm=>by obtain⟨o,e',h,_⟩:=x.some_at m;rw[e] at e';cases e';exact h _ rfl
theorem AS.OF(x:Ch)(e:HP!):Cn!:=λm=>by obtain⟨o,e',_⟩:=x.some_at m;rw[e] at e';cases e'
theorem HJ.DO(x:Ch)(f:A0!):AE! :=⟨λa xs e=>f a _ e (x.aO e),λa ob u e=>f a _ e λm=>by obtain⟨o,e',_,h⟩:=x.some_at m;rw[e] at e';cases e';exact C! h rfl⟩
theorem Jln{A X X' B:M!}(h:(A++(X++B)).Nodup)(hx:X'.Nodup)(k:∀b∈X',b∈X\/(b∉A/\b∉B)):(A++(X'++B)).Nodup:=by
 obtain⟨a1,a2,a3⟩:=AM.mp h;obtain⟨b1,b2,b3⟩:=AM.mp a2;refine AM.mpr ⟨a1,AM.mpr ⟨hx,b2,λy hy z hz e=>?_⟩,λy hy z hz e=>?_⟩;.rcases k y hy with h|h;(.exact b3 y h z hz e);.exact h.2 (e▸hz)
 .rcases AY! with hz|hz;(.rcases k z hz with h|h;(.exact a3 y hy z (ZB _ h) e);.exact h.1 (e▸hy));.exact a3 y hy z (ZC _ hz) e
theorem AS.step(x:Ch){i:Nat}{q:Addr}{G G':BZ}(hi:AT (W.qs[i]?))(S:AX CH H' q G')(f:UC q G H H')(nw:∀b∈BM G',b∈j?\/HP!) : IL! H' (Gn! i G') A0!:=by
 obtain⟨JL,_⟩:=ZJ hi;have e1:W.qs=W.qs.take i++BP!::W.qs.drop (i+1):=by have:=EU i W.qs;rw[<-this];congr 1;(.rw[EU]);.rw[EU];exact(List.drop_eq_getElem?_toList_append (l:=W.qs) (i:=i)).trans (c? hi)
 have e2:Nx! i G'=W.qs.take i++(q,G')::W.qs.drop (i+1):=W? List.set_eq_take_append_cons_drop (AE JL)
 generalize W.qs.take i=l1 at e1 e2;generalize W.qs.drop (i+1)=l2 at e1 e2;have hm:BP!∈W.qs:=ZP hi;have nd:=x.nd;unfold B8 at nd;rw[e1,Ie] at nd;have eA:Dm!++(Co l1++Co (BP!::l2))=(Dm!++Co l1)++((q::j?)++Co l2):=NO!
 rw[eA] at nd;obtain⟨a1,a2,a3⟩:=AM.mp nd;obtain⟨b1,b2,b3⟩:=AM.mp a2;have apart:∀b,(ED!\/Cm! l1\/Cm! l2)->b≠q/\b∉j?:=λb hb=>by (have no:b∉q::j?:=λm=>by rcases hb with hb|hb|hb;(.exact a3 b (ZB _ hb) b HQ! rfl);(.exact a3 b (ZC _ hb) b HQ! rfl);.exact b3 b m b hb rfl);exact⟨λz=>no (NQ! v6),λz=>no (ZD _ z)⟩
 have kp:∀b o,(ED!\/Cm! l1\/Cm! l2)->CU!->Am! H' o:=Cj! (f b o e (apart b hb).1 (apart b hb).2);have t:∀{b},ED!->ED!\/Cm! l1\/Cm! l2:=λh=>a!;have hsm:W.qs.map (Gm!)=(W.qs.set i (q,G')).map Gm!:=by rw[e2,e1,ZF,ZF];rfl
 refine⟨⟨let⟨dx,e⟩:=x.ob;Ce! (FI! e),?_,Gp!,x.po.keep (λo e=>FI! e) (λo e=>FI! e),FI! x.iq,FI! x.fi,FI! x.en,?_⟩,A2! ?_⟩;.have:=kp _ _ (t (b:=W.hs) (Jn!)) x.hs;rw[hsm] at this;exact this
 .have hr:r∈Nx! i G':=hr;rw[e2] at hr;(have xN:r∈l1\/r∈l2->AX CH H' r.1 r.2:=λh=>by (have hW:r∈W.qs:=H! e1 (h.elim (λz=>i? z) λz=>HU! z));exact(x.ho r hW).keep (Cj! (kp b o (h.elim (λz=>D! (G! (DF.mpr ⟨r,z,hb⟩))) λz=>D! (Y! (DF.mpr ⟨r,z,hb⟩))) e)));rcases BC! with hr|hr;(.exact xN (G! hr));.rcases ZM hr with rfl|hr;(.exact S);.exact xN (Y! hr)
 .show(Dm!++Co (W.qs.set i (q,G'))).Nodup;rw[e2,Ie];(have eB:Dm!++(Co l1++Co ((q,G')::l2))=(Dm!++Co l1)++((q::BM G')++Co l2):=NO!);rw[eB];refine Jln nd (AN.mpr ⟨λm=>S.QU m rfl,S.nd⟩) NP!;rcases ZM hb with rfl|hb;(.exact G! (v6));.rcases nw b hb with h|h;(.exact K! (ZD _ h));.have no:=x.OF h;unfold B8 at no;rw[e1,Ie] at no;refine P? (λm=>no ?_) (λm=>no ?_);(.rcases ZI m with m|m;(.exact i? m);.exact ZC _ HQ!);.exact ZC _ (ZC _ (ZC (q::j?) m))
 .have IM:b∉Co W.qs:=λm=>hb (ZC _ m);exact f b o e (λz=>IM (DF.mpr ⟨_,hm,K! z⟩)) λz=>IM (DF.mpr ⟨_,hm,D! z⟩)
theorem AS.cF(x:Ch):(W.po≠W.pd/\W.po≠p/\W.po≠W.hs/\W.po≠W.iq/\W.po≠W.fi/\W.po≠W.en)/\(W.pd≠p/\W.pd≠W.hs/\W.pd≠W.iq/\W.pd≠W.fi/\W.pd≠W.en)/\(W.iq≠p/\W.iq≠W.hs/\W.iq≠W.fi/\W.iq≠W.en)/\(W.fi≠p/\W.fi≠W.hs/\W.fi≠W.en)/\(W.en≠p/\W.en≠W.hs):=by have nd:=(AM.mp x.nd).1;simp only[Cu,AN,BV,CL,HK,not_or,CY,and_true,not_false_eq_true] at nd;obtain⟨⟨a1,a2,a3,a4,a5,a6⟩,⟨b1,b2,b3,b4,b5⟩,⟨c1,c2,c3,c4⟩,⟨d1,d2,d3⟩,⟨e1,e2⟩,f1⟩:=nd;exact⟨⟨c1,AS! a2,AS! b1,c2,c3,c4⟩,⟨AS! a3,AS! b2,d1,d2,d3⟩,⟨AS! a4,AS! b3,e1,e2⟩,⟨AS! a5,AS! b4,f1⟩,⟨AS! a6,AS! b5⟩⟩
theorem AS.IX(x:Ch)(hb:ED!)(hq:q∈W.qs):b≠q.1/\b∉BM q.2:=by have h:=(AM.mp x.nd).2.2 b hb;exact⟨λz=>h _ (DF.mpr (Ao! (K! rfl))) z,λz=>h _ (DF.mpr (Ao! (D! z))) rfl⟩
theorem AS.JW(x:Ch)(S:IW CP H' W.po W.pd c ls)(f:∀b o,CU!->b≠W.po->b≠W.pd->Am! H' o) : IL! H' { W with c:=c,ls:=ls } A0!:=by
 obtain⟨⟨a1,a2,a3,a4,a5,a6⟩,⟨b1,b2,b3,b4,b5⟩,_⟩:=x.cF;refine Lm! (Ie! e a2 b1) (Ie! x.hs a3 b2) (f b o e ?_ ?_) S (Ie! x.iq a4 b3) (Ie! x.fi a5 b4) (Ie! x.en a6 b5) (f b o e ?_ ?_);.rintro rfl;have h:=IY! W.po;exact IW!
 .rintro rfl;have h:=IY! W.pd;exact IW!
 .rintro rfl;exact Hh!
 .rintro rfl;exact Hh!
theorem AS.vM(x:Ch):IL! (D5! W.iq) { W with LV:=l } (F5! (D5! W.iq)):=by
 obtain⟨⟨a1,a2,a3,a4,a5,a6⟩,⟨b1,b2,b3,b4,b5⟩,⟨c1,c2,c3,c4⟩,_⟩:=x.cF;have f:PU! (b≠W.iq) (D5! W.iq):=λb o e h=>Ox!
 refine Lm! (f _ _ e (Ne.symm c1)) (E4! x.hs c2) Fs! (x.po.keep (EE! a4) (EE! b3)) Ac (E4! x.fi c3) (E4! x.en c4) Fs!;.rintro rfl;have h:=IY! W.iq;exact IW!
 .rintro rfl;exact Hh!
universe E
def fk(W:EZ)(h:Int):Prop:=h<0\/OJ!<=h
def KA(W:EZ)(h:Int)(q:Addr)(G:BZ):Prop:=0<=h/\AT (W.qs[h.toNat]?)
theorem KA.at(i:GG!)(x:Ch):AX CH H q G:=x.ho BP! (ZP i.2)
theorem KA.lt(i:GG!):0<=h/\h<W.qs.length:=by obtain⟨z,_⟩:=ZJ i.2;have:=i.1;exact⟨i.1,F!⟩
theorem KA.QO(i:GG!):L2.QO (W.qs.map Gm!) h=some (V.ref q):=A8 i.1 (EF! i.2)
theorem lookup_mem:∀{l:Pq!},L! l.lookup y k->(y,k)∈l
 | [],h=>Dn!
 | (a,b)::l,h=>by rw[O_] at h;by_cases e:y=a;(·(have q1:(y==a)=true:=H! e (beq_self_eq_true a));rw[q1] at h;have h:b=k:=ZO h;rw[e,h];exact v6);.have q1:(y==a)=false:=DX.mpr e;rw[q1] at h;exact ZD _ (lookup_mem h)
theorem Lk{l:Pq!}{cl:Eb!}{y:Str}(hc:∀p∈l,p.2=.cell\/p.2=.free->GW! p.1)(h:L! l.lookup y .cell\/L! l.lookup y .free):Fw!:=by
 rcases h with h|h;.exact hc _ (lookup_mem h) (G! rfl)
 .exact hc _ (lookup_mem h) (Y! rfl)
theorem Jpr{a b c:Str}{cl:Eb!}{y:Str}(h:P8! NameKind.globalImplicit .cell\/P8! NameKind.globalImplicit .free):Fw! :=Lz! (by simp only[BV,CL,HK] at hp;rcases hp with rfl|rfl|rfl<;>rcases hk with hk|hk<;>cases hk)
theorem Jps{a b c d e f:Str}{k1 k2 k3 k4:NameKind}{cl:Eb!}{y:Str}(hc:JV!)(hd:GW! d)(he:GW! e)(hf:GW! f)(h:Kj! [Kh!,Kg!,(c,k1),(d,k2),(e,k3),(f,k4)] .cell\/Kj! [Kh!,Kg!,(c,k1),(d,k2),(e,k3),(f,k4)] .free):Fw! :=Lz! (by simp only[BV,CL,HK] at hp;rcases hp with rfl|rfl|rfl|rfl|rfl|rfl;(.rcases hk with hk|hk<;>cases hk);(.rcases hk with hk|hk<;>cases hk);(.exact hc);(.exact hd);(.exact he);.exact hf)
universe S
universe E
structure Lies(H:Hp)(L:M!):Prop where
 nd:L.Nodup
 all:∀b∈L,∃o,CU!
theorem Lies.keep(x:Lies H L)(k:MB!):Lies H' L:=⟨x.nd,λb hb=>let⟨o,e⟩:=x.all b hb;k b o e⟩
theorem Lies.new(x:Lies H L)(h:HP!)(h':∃o,Am! H' o)(k:MB!):Lies H' (b::L) :=⟨AN.mpr ⟨λm=>(by obtain⟨o,e⟩:=x.all b m;rw[h] at e;cases e),x.nd⟩,λc hc=>by rcases ZM hc with rfl|hc;(.exact h');.obtain⟨o,e⟩:=x.all c hc;exact k c o e⟩
universe S
universe E
theorem Lies.add(x:Lies H L)(nd:X.Nodup)(h:∀b∈X,HP!)(h':∀b∈X,∃o,Am! H' o)(k:MB!):Lies H' (X++L) :=⟨AM.mpr ⟨nd,x.nd,λb hb c hc e=>by obtain⟨o,z⟩:=x.all c hc;rw[<-e,h b hb] at z;cases z⟩,λc hc=>by rcases ZI hc with hc|hc;(.exact h' c hc);.obtain⟨o,e⟩:=x.all c hc;exact k c o e⟩
theorem Lies.perm(x:Lies H L)(p:L.Perm L'):Lies H L':=⟨p.nodup_iff.mp x.nd,λb hb=>x.all b (p.mem_iff.mpr hb)⟩
def Kp(p:Addr)(H H':Hp):Prop:=Jh! (b≠p)
theorem Kp.trans(a:Kp p H H1)(b:Kp p H1 H2):Kp p H H2:=λc o e h=>b c o (a c o e h) h
theorem iZ:Kp p H (upd H p o):=λb o' e h=>Ox!
theorem Kp.ex(k:Kp p H H')(hp:∃o,L! H' p o):MB!:=Bk! (by by_cases z:b=p;(.rw[z];exact hp);.exact⟨o,k b o e z⟩)
theorem Jm5(h:¬x=y):g? (V.str x=V.str y)=false:=A3! (λz=>h (V.str.inj z))
theorem JK(k:tb D σ H)(hv:σ[i]?=some (some (.str wd)):=by rfl)(ne:¬wd=c:=by decide +kernel):Ue (Fu (NZ VY (Ca i) (Hq! c))) ta tb D σ H:=⟨_,hv,rfl,_,rfl,H! (Jm5 ne) (Bx k)⟩
theorem Lq(k:ta D σ H)(hv:σ[i]?=some (some (.str c)):=by rfl):Ue (Fu (NZ VY (Ca i) (Hq! c))) ta tb D σ H:=⟨_,hv,rfl,_,rfl,H! (Bl! rfl) (Cc k)⟩
theorem AS.SU(x:Ch)(e:AJ! b (.BE xs))(h:b≠W.hs):Cn!:=λhb=>by rcases ZI hb with hb|hb;(.simp only[Cu,BV,CL,HK] at hb;rcases hb with rfl|rfl|rfl|rfl|rfl|rfl|rfl;(.obtain⟨dx,e'⟩:=x.ob;rw[e] at e';cases e');(.exact h rfl);(.obtain⟨dx,e'⟩:=x.po.ob;rw[e] at e';cases e');(.have e':=x.po.dc;rw[e] at e';cases e');(.have e':=x.iq;rw[e] at e';cases e');(.have e':=x.fi;rw[e] at e';cases e');.have e':=x.en;rw[e] at e';cases e');.obtain⟨q,hq,hb⟩:=DF.mp hb;have ne:=(x.ho q hq).SV e;exact hb.elim ne.1 ne.2
theorem iC(h:¬a=b):¬((Sum.inr a:Key)=Sum.inr b):=λz=>h (Sum.inr.inj z)
def Jnj(G:BZ):OI!:=[(D! GX!,y! G.BP),Jg! BK! G.h,Jg! D6! G.l,Jg! D7! G.o,Jg! GY! G.r,(D! "made",y! G.AO),(D! GZ!,y! G.BC)]
inductive LstAt(H:Hp)(b:Addr)(ts:A!):Prop
 | mk (as:M!) (_:AJ! b (.BE (as.map V.ref))) (_:db)
theorem AZ.keep(k:AE!)(x:db):Fe! H':=Fg! k.A_ x
structure qB(H:Hp)(p:Addr)(G:BZ):Prop where
 ob:G9! (.dK (Jnj G))
 dh:LstAt H G.h G.hand
 dO:Ap! G.o C6 G.AH
 dl:Ap! G.l Dz G.holds
 dr:Ap! G.r C6 G.AI
 hl:Ga! (LstAt H l! F?)
 nd:(p::j?).Nodup
universe S
variable {p:Addr}{H H':Hp}{G:BZ}
theorem Gr{α β:Type}{f:α->β}:Ju! (NJ! f) (∀{a b:α},a∈l->b∈l->f a=f b->a=b)
 | [],_,_,_,ha,_,_=>jp ha
 | x::l,nd,a,b,ha,hb,e=>by have nd:=AD!;rcases ZM ha with ha|ha<;>rcases ZM hb with hb|hb;(.rw[ha,hb]);(.exact absurd (AF.mpr ⟨b,hb,BL! e ha⟩) nd.1);(.exact absurd (AF.mpr ⟨a,ha,W? e hb⟩) nd.1);.exact Gr nd.2 ha hb e
universe E
theorem Tr(nd:ts.Nodup)(h:ts[j]?=some t):ts.eraseIdx j=Ff ts t:=by induction ts generalizing j with | nil=>simp at h | cons x ts ih =>have KZ:=AD!;cases j with | zero =>(have e:x=t:=d?);subst e;show ts=Ff (x::ts) x;unfold Ff;rw[DH,Cz!];exact(DU.mpr λy hy=>by simp;exact λz=>KZ.1 (z▸hy)).symm | succ j =>(have h:ts[j]?=some t:=d?);have ne:x≠t:=λz=>KZ.1 (z▸ZP h);show x::ts.eraseIdx j=Ff (x::ts) t;rw[ih KZ.2 h];unfold Ff;rw[DH,AE (by simpa using ne)]
theorem X4{ts:A!}(nd:ts.Nodup){t:T2}(h:B4!):∃j:Nat,ts[j]?=some t/\∀(m:Nat)(u:T2),m<j->ts[m]?=some u->u≠t:=by induction ts with | nil=>cases h | cons x ts ih =>by_cases e:x=t;(.exact⟨0,by simp[e],λm u hm=>by contradiction⟩);.have KZ:=AD!;(have h:B4!:=by rcases ZM h with h|h;(.exact HV! e);.exact h);obtain⟨j,h1,h2⟩:=ih KZ.2 h;refine⟨j+1,by simpa using h1,λm u hm hu=>?_⟩;cases m with | zero =>(have:x=u:=Gb!);rw[<-this];exact e | succ m=>exact h2 m u (by exact KI Di!) (Gb!)
theorem R1{as:M!}{ts:A!}(p:db)(j:Nat):AZ H (as.eraseIdx j) (ts.eraseIdx j):=Z9 p j
abbrev HL:=List (T2×Addr×A!)
def yG(l:HL):List (T2×A!):=l.map (El! F?)
def C7(l:HL)(t:T2)(h:A!):HL:=l.map λq=>EH! (q.1,l!,h)
def Bp(l:HL)(t:T2):A!:=(J5! No).getD []
theorem L6(l:HL)(t:T2)(h:A!):(C7 l t h).map B8!=l.map B8!:=by
 unfold C7;rw[AL];refine BQ λq _=>?_;show(EH! (q.1,l!,h)).2.1=l!;by_cases e:Z!;.rw[XV]
 .rw[KF]
theorem Je7(l:HL)(t:T2)(h:A!):h! (C7 l t h).map=l.map T!:=by
 unfold C7;rw[AL];refine BQ λq _=>?_;show(EH! (q.1,l!,h)).1=q.1;by_cases e:Z!;.rw[XV]
 .rw[KF]
theorem Mn(m:q∈C7 l t h):(Z!/\F?=h)\/q∈l:=by
 obtain⟨q0,h0,e⟩:=ZN m;by_cases c:q0.1=t;.rw[j!] at e;subst e;exact Sc c rfl
 .rw[o!] at e;subst e;exact D! h0
theorem Jjo(f:E0! Z! (t,a,hl)):Bp l t=hl:=D8! f
theorem Pj(h:UV):∃a,E0! Z! (t,a,Bp l t):=by cases e:Os! l.find? with | none =>obtain⟨q,hq,e2⟩:=ZN h;have:=BB.mp e q hq;exact Bz! e2 (by simpa using this) | some q =>(have h1:Z!:=by have:=DE e;simpa using this);refine A6! l!;(have:Bp l t=F?:=D8! e);rw[this,<-h1]
theorem R9(ka:NJ! B8!)(kt:N? l.map)(f:E0! Z! (t,a,hl))(h:A!):Jr l a h=C7 l t h:=by
 have m:=AJ f;unfold Jr C7;refine BQ (R? ?_);by_cases e:Z!;.have:=Gr kt hq m e;rw[this,UF,UF]
 .have:¬l!=a:=λz=>e (by rw[Gr ka hq m z]);rw[AB this,KF]
structure Ok(G:BZ)(n:Nat):Prop where
 hn:G.hand.Nodup
 hz:G.hand.length<=n
 on:N? G.AH.map
 oz:G.AH.length<=n
 ke:KX!
 rn:N? G.AI.map
 rz:G.AI.length<=n
 ln:Ga! (q.2.2.Nodup/\q.2.2.length<=n)
 new:∀t∈AM!,GO!/\t.2<G.AO
 hk:Cl! Jq!
 lk:Px! Jq!
 rk:∀t∈Ea!,NX!
theorem Ok.mono(x:I?)(h:n<=m):Ok G m :=⟨x.hn,AV x.hz h,x.on,AV x.oz h,x.ke,x.rn,AV x.rz h,R? ⟨(x.ln q hq).1,AV (x.ln q hq).2 h⟩,x.new,x.hk,x.lk,x.rk⟩
def IZ(G:BZ):BZ:={ G with BC:=PP }
def UQ(G:BZ)(a:Addr):BZ:={ G with AO:=AO!,hand:=Dt!,AH:=C3!,holds:=CD! }
theorem DG:u∈Bn l t↔u∈l\/u=t:=by
 unfold Bn;by_cases h:t∈l;.rw[AE h];exact⟨G!,λz=>z.elim id λz=>NQ! h⟩
 .rw[AB h];simp
theorem HM:u∈Ff l t↔u∈l/\u≠t:=by unfold Ff;rw[AD];simp
theorem Qf(t:T2)(h:l.Nodup):(Bn l t).Nodup:=by
 unfold Bn;by_cases e:t∈l;.rw[XV];exact h
 .rw[KF];exact Gy h e
theorem Ib(l:A!)(t:T2):b? Bn l t (l.length+1):=by
 unfold Bn;by_cases e:t∈l;.rw[XV];exact EN _
 .rw[KF];simp
universe S
theorem Ok.IZ(x:I?):Ok (IZ G) n:=⟨x.hn,x.hz,x.on,x.oz,x.ke,x.rn,x.rz,x.ln,x.new,x.hk,x.lk,x.rk⟩
theorem Ok.hand(x:I?)(h1:l.Nodup)(h2:l.length<=n)(h3:∀t∈l,Jq!):Ok { G with hand:=l } n:=⟨h1,h2,x.on,x.oz,x.ke,x.rn,x.rz,x.ln,x.new,h3,x.lk,x.rk⟩
theorem Ok.holds(x:I?)(h1:l.Nodup)(h2:l.length<=n)(h3:∀t∈l,Jq!):Ok { G with holds:=C7 G.holds t l } n:=by
 refine⟨x.hn,x.hz,x.on,x.oz,(Je7 ..).trans x.ke,x.rn,x.rz,Bm!,x.new,x.hk,Bm!,x.rk⟩;.rcases Mn hq with⟨_,e⟩|hq;(.rw[e];exact⟨h1,h2⟩);.exact x.ln q hq
 .rcases Mn hq with⟨_,e⟩|hq;(.rw[e];exact h3);.exact x.lk q hq
theorem Ok.UQ(x:I?)(a:Addr):DN! Fl!:=by
 have nw:m?∉AM!:=λm=>by have:=(x.new _ m).2;exact Bz! this (lc (¬G.AO<G.AO))
 have eo:h! Eq!=AM!++[(G.BP,G.AO)]:=Go!
 refine⟨?_,?_,?_,?_,?_,x.rn,by have:=x.rz;show G.AI.length<=n+1;exact DY Di!,Bm!,?_,?_,?_,x.rk⟩;.exact Gy x.hn λm=>nw (x.hk _ m rfl)
 .show(Dt!).length<=n+1;rw[ZE];have:=x.hz;show G.hand.length+1<=n+1;exact FR!
 .show N? Eq!;rw[eo];exact Gy x.on nw
 .show(Pv!).length<=n+1;rw[ZE];have:=x.oz;show G.AH.length+1<=n+1;exact FR!
 .show(G.holds++[(m?,a,Fk!)]).map (λ(q:T2×Addr×List T2)=>q.1)=Eq! T!;rw[eo,ZF,x.ke];rfl
 .rcases ZI hq with hq|hq;(.exact⟨(x.ln q hq).1,DY (x.ln q hq).2⟩);·(have:Lt!:=Mw!);rw[this];exact⟨CY,AU _⟩
 .intro t ht;have ht:w! Eq!:=ht;show GO!/\t.2<AO!;rw[eo] at ht;rcases ZI ht with ht|ht;(.have:=x.new t ht;exact⟨this.1,EA! this.2⟩);·(have:EJ!:=Gc!);rw[this];exact S? (by show G.AO<AO!;exact TD)
 .intro t ht e;show w! Eq!;rw[eo];rcases ZI ht with ht|ht;(.exact i? (x.hk t ht e));.exact ZC _ ht
 .intro q hq t ht e;show w! Eq!;rw[eo];rcases ZI hq with hq|hq;(.exact i? (x.lk q hq t ht e));·(have:Lt!:=Mw!);rw[this] at ht;cases ht
theorem Ok.fresh(x:I?):(Cl! (t≠m?))/\(∀q∈G.AH,Kl!)/\Ga! Kl!:=by
 have nw:m?∉AM!:=λm=>by have:=(x.new _ m).2;exact Bz! this (lc (¬G.AO<G.AO))
 refine⟨λt ht e=>C9! nw (x.hk t ht (by rw[e])),λq hq e=>C9! nw (BJ hq),λq hq e=>nw (Mx! e x.ke (BJ hq))⟩
theorem Ok.PV(x:I?):G.holds.length<=n:=by have:=Jt! x.ke;rw[ZA,ZA] at this;rw[this];exact x.oz
theorem Ok.get(x:I?)(t:T2):(Bp G.holds t).Nodup/\(Bp G.holds t).length<=n/\∀u∈Bp G.holds t,u.1=G.BP->u∈AM!:=by unfold Bp;cases e:Os! G.holds.find? with | none=>exact⟨CY,AU _,λu hu=>jp hu⟩ | some q =>have m:=AJ e;exact⟨(x.ln q m).1,(x.ln q m).2,x.lk q m⟩
theorem Ok.find(x:I?)(h1:BM!)(h2:GO!):∃a,HW! Z! (t,a,Bp G.holds t):=Pj (H! x.ke (x.hk t h1 h2))
universe E
def Ai(l:J!)(t:T2):Int:=(J5! CN!).getD 0
theorem Hs(l:J!)(t:T2)(v:Int):Om!=CO! UV MV! (MV!++[t]):=by
 unfold Bj;by_cases h:UV;.rw[AE h,AE h,AL];refine BQ λq _=>?_;show(EH! (q.1,v)).1=q.1;by_cases e:Z!;(.rw[XV]);.rw[KF]
 .rw[AB h,AB h,ZF];rfl
theorem Ok.mK(x:I?)(hf:Bo!)(v:Int):DN! { G with hand:=BV!,AI:=Fa! G.AI }:=by
 have x1:=x.mono (EN n);refine⟨Qf _ x.hn,by have:=Ib G.hand tb;have:=x.hz;show(Bn G.hand tb).length<=n+1;lia,x1.on,x1.oz,x1.ke,?_,?_,x1.ln,x1.new,Cq!,x1.lk,?_⟩;.show N? (Bj G.AI tb v).map;rw[Hs];by_cases h:tb∈Ea!;(.rw[AE h];exact x.rn);.rw[AB h];exact Gy x.rn h
 .have h0:=Jt! (Hs G.AI tb v);have:=x.rz;show(Bj G.AI tb v).length<=n+1;rw[ZA] at h0;rw[h0];by_cases h:tb∈Ea!;(.rw[AE h,ZA];exact DY Di!);.rw[AB h,ZE,ZA];show G.AI.length+1<=n+1;exact FR!
 .rcases Uf with ht|ht;(.exact x.hk t ht e);.exact absurd (K? ht e) hf
 .show ∀t∈h! (Bj G.AI tb v).map,NX!;rw[Hs];intro t ht;by_cases h:tb∈Ea!;(.rw[AE h] at ht;exact x.rk t ht);.rw[AB h] at ht;rcases ZI ht with ht|ht;(.exact x.rk t ht);·(have:t=tb:=Gc!);rw[this];exact hf
universe S
theorem Jg1(G:BZ)(a:Addr):BM (IZ Fl!)=j?++[a]:=by unfold BM UQ IZ;simp
universe E
theorem M8(h:UV):PE! l.find? Z! t Ed!:=by cases e:Os! l.find? with | none =>obtain⟨q,hq,e2⟩:=ZN h;have:=BB.mp e q hq;exact Bz! e2 (by simpa using this) | some q =>(have h1:Z!:=by have:=DE e;simpa using this);(have:P! l=q.2:=by unfold Ai;rw[e];rfl);rw[this,<-h1]
theorem Jb6(h:UV)(v:Int):Om!=l.map T!:=W? Hs (AE h)
theorem X1(h:UV)(v:Int):(Bj l t v).length=l.length:=Bn! (congrArg List.length (Jb6 h v)) ZA ZA
universe S
theorem Ok.AH(x:I?)(h:xL)(v:Int):Ok (My! (Fa! G.AH)) n:=by
 have e:=Jb6 h v;refine⟨x.hn,x.hz,by show N? (Bj G.AH tb v).map;rw[e];exact x.on,by show(Bj G.AH tb v).length<=n;rw[X1 h];exact x.oz,by show I0! G.holds.map (Bj G.AH tb v).map;rw[e];exact x.ke,x.rn,x.rz,x.ln,?_,?_,?_,x.rk⟩;.show ∀t∈h! (Bj G.AH tb v).map,_;rw[e];exact x.new
 .show Cl! (GO!->w! (Bj G.AH tb v).map);rw[e];exact x.hk
 .show Px! (GO!->w! (Bj G.AH tb v).map);rw[e];exact x.lk
universe E
theorem Q9(f:α->Int):∀{l:B?} (x:Int),NJ! f->(l.filter λe=>f e==x).length<=1
 | [],_,_=>AU _
 | a::l,x,nd=>by have nd:=AD!;rw[DH];by_cases e:f a=x;(.have no:(l.filter λe=>f e==x)=[]:=List.filter_eq_nil_iff.mpr λb hb z=>EY! nd.1 ⟨b,hb,by rw[e];simpa using z⟩;rw[AE (Mz!),no];exact wp);.rw[AB (Mz!)];exact Q9 f x nd.2
universe S
variable {prog:Program}{w:World}{K:Type}[DecidableEq K]{knd:HeapKind prog w K}{A:Around}{E:Value->Shared->Prop}{s:Shared}
def Tame(knd:HeapKind prog w K):Prop:=∀{A:Around} {E:E5! Value} {s:Shared} {k:K} {a:Addr} {Q:E5! Bool},knd.is s.heap k a->(∀b,Q b s)->Lp! (Builtin.Dict.quietEq (X? a))
theorem Ja1{id:String}{d:Addr}{ob:Obj}{es:Array DictEntry}{ep:Nat}{xs:BZ!}{Q:E5! (Array DictEntry)}(tm:Tame knd)(g:L! s.heap.get? d ob)(dat:ob.data=.dict es ep)(ent:es.toList=xs.map (entryOfKey knd))(keys:∀x∈xs,knd.is s.heap x.1 AT!)(hh:(xs.map λx=>knd.hash x.1).Nodup)(q:Q es s):Lp! (Builtin.Dict.entriesForEmpty id d):=by
 have hn:(es.toList.map λe=>e.hash).Nodup:=Aj! ent AL hh
 unfold Builtin.Dict.entriesForEmpty;refine ZR (CK g dat (ZR ?_));rw[<-Array.forIn_toList];refine RS _ (λrest _ s'=>s'=s/\∀e∈rest,e∈es.toList) _ ?_ ?_ _ _ (S? (λe he=>he));.rintro e rest b s' ⟨rfl,sub⟩;have me:=sub e (v6);rw[ent] at me;obtain⟨x,hx,ex⟩:=ZN me;(have ek:e.key=O! AT!:=by rw[<-ex];rfl);rw[ek];refine ZR (tm (keys x hx) λbq=>?_);(have small:¬(es.filter λz=>z.hash==e.hash).size > 1:=by have h1:=Q9 (λz:DictEntry=>z.hash) e.hash hn;(have h2:(es.filter λz=>z.hash==e.hash).size=wP es.toList.filter (λz=>z.hash==e.hash):=BL! Cn Array.toList_filter);rw[h2];exact GX.mpr h1);cases bq with | true =>simp only[Bool.not_true,CZ,EK];exact ZS (S? (λe he=>sub e (ZD _ he))) | false =>simp only[Bool.not_false,H_];rw[AB small];exact ZS (S? (λe he=>sub e (ZD _ he)))
 .rintro b s' ⟨rfl,_⟩;exact ZS q
theorem P2{d a:Addr}{xs:BZ!}{k:K}{v:Value}{Q:E5! Unit}(room:knd.room A)(key:knd.is s.heap k a)(m:s.heap.DictOfH knd d xs)(z:xs.length<=sizeLine)(q:∀h',KA! (storedH xs k a v)->L8!->Q () o0):Lp! (dictSetHashed d (X? a) (knd.hash k) v):=by
 obtain⟨ob,es,ep,g,ex,dat,ent,keys,nd⟩:=m;have sz:=KU ent;unfold dictSetHashed;refine ED (ZR (wpAny_dictFind_heap room key g dat ent keys nd (λno=>?_) λj p hj=>?_));.refine ZR (wpAny_rule (wpAny_updateDictKeys (hz:=H! sz z) g dat (q _ ⟨_,_,ep+1,GO _ g (NX (HR dat _)),ex.mapDictKeys _,HR dat _,?_,Cs!,?_⟩ PZ!)));(.rw[storedH_new (atKey_none_of_get no),ZF,<-ent];simp[entryOfKey]);(.rw[storedH_new (atKey_none_of_get no)] at hx;rcases ZI hx with hx|hx;(.exact Jw! (keys x hx) g dat);·(have e:x=(k,a,v):=by simpa using hx);rw[e];exact Jw! key g dat);.rw[storedH_new (atKey_none_of_get no),ZF];exact Gy nd (not_mem_keys_of_get no)
 .refine ZR (wpAny_rule (ZR (wpAny_updateDict g dat (wpAny_point (q _ ⟨_,_,ep,GO _ g (NX (Obj.data_mapDict dat _)),ex.mapDict _,Obj.data_mapDict dat _,?_,Cs!,?_⟩ PZ!)))));(.rw[storedH_old (atKey_of_get nd hj)];have e:=modify_map_putAt (entryOfKey knd) (λe:DictEntry=>{ e with val:=v }) k v (λ_ _=>rfl) nd hj;rw[<-ent] at e;rw[<-e];simp);(.rw[storedH_old (atKey_of_get nd hj)] at hx;obtain⟨y,hy,e⟩:=ZN hx;(have e1:x.1=y.1/\AT!=y.2.1:=by rw[<-e];unfold putAt;by_cases c:y.1=k;(.rw[j!];exact By!);.rw[o!];exact By!);rw[e1.1,e1.2];exact Jw! (keys y hy) g dat);.rw[storedH_old (atKey_of_get nd hj),keys_map_putAt];exact nd
def Es(xs more:BZ!):BZ!:=more.foldl (λacc x=>storedH acc x.1 AT! x.2.2) xs
theorem Ot(xs more:BZ!){i:Nat}{x:K×M0!}(h:more[i]?=some x):Es xs (more.take (i+1))=storedH (Es xs (more.take i)) x.1 AT! x.2.2:=by unfold Es;rw[List.take_succ,h,NY];rfl
theorem Xl(xs:BZ!)(k:K)(a:Addr)(v:Value):(storedH xs k a v).length<=xs.length+1:=by cases e:atKey xs k with | none=>rw[storedH_new e,ZE];exact wp | some p=>rw[storedH_old e,ZA];exact EN _
theorem Li:∀(more xs:BZ!),b? Es xs more (xs.length+more.length)
 | [],xs=>wp
 | x::r,xs=>by have h1:b? Es (storedH xs x.1 AT! x.2.2) r _:=Li r _;have h2:=Xl xs x.1 AT! x.2.2;show b? Es (storedH xs x.1 AT! x.2.2) r (xs.length+(r.length+1));lia
theorem Qs:∀(more xs:BZ!),N? (xs++more).map->Es xs more=xs++more
 | [],xs,_=>(AG xs).symm
 | x::r,xs,nd=>by (have e:atKey xs x.1=none:=by cases c:atKey xs x.1 with | none=>rfl | some p =>exfalso;unfold atKey at c;cases f:xs.find? (λy=>Au! y.1 x.1) with | none=>rw[f] at c;cases c | some y =>(have h1:y.1=x.1:=Ge! (DE f));have h2:=AJ f;rw[ZF,AM] at nd;exact nd.2.2 _ (BJ h2) _ (BJ (v6)) h1);show Es (storedH xs x.1 AT! x.2.2) r=xs++x::r;rw[storedH_new e];(have e2:xs++[(x.1,AT!,x.2.2)]++r=xs++x::r:=NO!);rw[Qs r _ (H! e2 nd),e2]
theorem Jal{id:String}{d o:Addr}{xs more:BZ!}{Q:E5! Unit}(tm:Tame knd)(room:knd.room A)(ne:d≠o)(lo:(o==sysModules)=false)(hd:s.heap.DictOfH knd d xs)(ho:s.heap.DictOfH knd o more)(z:pi (xs.length+more.length))(hh:xs=[]->(more.map λx=>knd.hash x.1).Nodup)(q:∀h',KA! (Es xs more)->L8!->Q () o0):Lp! (Builtin.Dict.mergeDict id d o):=by
 obtain⟨od,esd,epd,gd,exd,VN,vt,JCa,ndd⟩:=_root_.id hd;obtain⟨oo,QE,epo,go,exo,RR,Z_,WN,jS⟩:=_root_.id ho;have so:=KU Z_;unfold Builtin.Dict.mergeDict Builtin.Dict.showsAll;rw[AB (by simpa using ne),AB (H! lo AY)];refine ZR (ZS (ZR (CK go RR ?_)));dsimp only;split;.refine ZR (CK gd VN ?_);split;(.rename_i em;(have ex:xs=[]:=by have h1:=KU vt;rw[LD.mp em] at h1;exact BN.mp h1.symm);subst ex;have em':Es [] more=more:=Qs more [] jS;rw[em'] at q;refine ZR (Ja1 tm go RR Z_ WN (hh rfl) ?_);split;(·(have zz:QE.size<=sizeLine+1:=by rw[so];have:pi (0+more.length):=z;lia);refine ZR (wpAny_updateDictKeysTo gd VN (ZS (q _ ⟨_,_,epd+1,GO _ gd (NX (HR VN _)),exd.mapDictKeys _,HR VN _,Z_,Cs!,jS⟩ PZ!)) zz);exact Jw! (WN x hx) gd VN);.rename_i nz;(have e0:more=[]:=by have:QE.size=0:=LD.mp (by simpa using nz);rw[so] at this;exact BN.mp this);subst e0;exact ZS (q _ hd (Heap.SameBut.refl _ _)));.refine ZR (EX go RR (ZR (CK go RR (ZR ?_))));rw[RT];simp only[Std.Legacy.Range.size,Nat.sub_zero,Nat.add_sub_cancel,Nat.div_one];refine RS _ (λrest _ s'=>∃h' j,s'=o0/\rest=List.range' j (QE.size-j)/\j<=QE.size/\KA! (Es xs (more.take j))/\L8!) _ ?_ ?_ _ _ ⟨s.heap,0,rfl,t?,AU _,hd,Heap.SameBut.refl _ _⟩;(.rintro i rest b s' ⟨h',j,rfl,hr,hj,TN,sb⟩;(have lt:EW!:=by by_cases c:EW!;(.exact c);.rw[Nat.sub_eq_zero_of_le (GX.mp c)] at hr;cases hr);(have er:i=j/\rest=List.range' (j+1) (QE.size-(j+1)):=by rw[Kn!,OZ] at hr;exact List.cons.inj hr);obtain⟨rfl,er⟩:=er;have go':L! h'.get? o oo:=LY! sb.2 go;obtain⟨x,hx⟩:=Dk! more i g!;refine L6! CK o0 go';rw[entry_at Z_ i,hx];have kx:=knd.keeps (WN x (ZP hx)) gd VN sb;(have zl:pi (Es xs (more.take i)).length:=by have h1:=Li (more.take i) xs;(have h2:Gr! more.take<=more.length:=Nf!);lia);refine ZR (ED (P2 (s:=o0) room kx TN zl λh2 hd2 jF=>?_));have go2:L! h2.get? o oo:=LY! jF.2 go';refine L6! EX { s with heap:=h2 } go2;rw[Cz!];exact ZS ⟨h2,i+1,rfl,er,lt,H! (Ot xs more hx) hd2,sb.trans jF⟩);.rintro b s' ⟨h',j,rfl,hr,hj,TN,sb⟩;(have ej:j=QE.size:=by by_cases c:EW!;(.rw[Kn!,OZ] at hr;cases hr);.lia);rw[ej,so,BS] at TN;exact ZS (q h' TN sb)
 .refine ZR (EX go RR (ZR (CK go RR (ZR ?_))));rw[RT];simp only[Std.Legacy.Range.size,Nat.sub_zero,Nat.add_sub_cancel,Nat.div_one];refine RS _ (λrest _ s'=>∃h' j,s'=o0/\rest=List.range' j (QE.size-j)/\j<=QE.size/\KA! (Es xs (more.take j))/\L8!) _ ?_ ?_ _ _ ⟨s.heap,0,rfl,t?,AU _,hd,Heap.SameBut.refl _ _⟩;(.rintro i rest b s' ⟨h',j,rfl,hr,hj,TN,sb⟩;(have lt:EW!:=by by_cases c:EW!;(.exact c);.rw[Nat.sub_eq_zero_of_le (GX.mp c)] at hr;cases hr);(have er:i=j/\rest=List.range' (j+1) (QE.size-(j+1)):=by rw[Kn!,OZ] at hr;exact List.cons.inj hr);obtain⟨rfl,er⟩:=er;have go':L! h'.get? o oo:=LY! sb.2 go;obtain⟨x,hx⟩:=Dk! more i g!;refine L6! CK o0 go';rw[entry_at Z_ i,hx];have kx:=knd.keeps (WN x (ZP hx)) gd VN sb;(have zl:pi (Es xs (more.take i)).length:=by have h1:=Li (more.take i) xs;(have h2:Gr! more.take<=more.length:=Nf!);lia);refine ZR (ED (P2 (s:=o0) room kx TN zl λh2 hd2 jF=>?_));have go2:L! h2.get? o oo:=LY! jF.2 go';refine L6! EX { s with heap:=h2 } go2;rw[Cz!];exact ZS ⟨h2,i+1,rfl,er,lt,H! (Ot xs more hx) hd2,sb.trans jF⟩);.rintro b s' ⟨h',j,rfl,hr,hj,TN,sb⟩;(have ej:j=QE.size:=by by_cases c:EW!;(.rw[Kn!,OZ] at hr;cases hr);.lia);rw[ej,so,BS] at TN;exact ZS (q h' TN sb)
universe E
theorem Zt{prog:Program}{w:World}{K:Type}[DecidableEq K](knd:KeyKind prog w K):Tame (tupleKind knd):=λhk q=>by unfold Builtin.Dict.quietEq;exact ZR (wpAny_specialOf (IsTupleKey.typeIs hk) F.slot_tuple_eq.lookup (ZS (q _)))
def My(w:World)(k:List Key):Int:=reduceHash (Builtin.Tuple.tupleHashOf (k.map (Jnk w)))
def F7(kvs more:Ak!):Ak!:=more.foldl (λacc kv=>putK acc kv.1 kv.2) kvs
theorem Jgp{more:Ak!}{ms:List (List Key×M0!)}(p:KT H more ms):∀{kvs:Ak!} {xs:List (List Key×M0!)},KT H kvs xs->KT H Ke! (Es xs ms):=by induction p with | nil=>exact id | @cons p q _ _ h t ih =>intro kvs xs r;have e:q.1=p.1:=h.1.symm;have r1:=KT.put r p.1 h.2.1 h.2.2;show KT H (F7 (putK kvs p.1 p.2) _) (Es (storedH xs q.1 l! F?) _);rw[e];exact ih r1
theorem Jjj{kvs:Ak!}{xs:List (List Key×M0!)}(p:KT H kvs xs):(xs.map λx=>(tupleKind (Bu P w)).hash x.1)=kvs.map λq=>My w q.1:=uA (λ_ _ r=>c? r.1) p
theorem Qr:∀(more kvs:Ak!),b? F7 kvs more (kvs.length+more.length)
 | [],_=>wp
 | q::r,kvs=>by have h1:b? F7 (putK kvs q.1 q.2) r _:=Qr r _;have h2:=Fy kvs q.1 q.2;show b? F7 (putK kvs q.1 q.2) r (kvs.length+(r.length+1));lia
universe S
variable {X:Cx Kx}{AA:List (Addr×Obj)}{σ:L2.St}{H:Hp}{s:Shared}{A:Around}{E:Value->Shared->Prop}
theorem Th{id:String}{d o:Addr}{kvs more:Ak!}{Q:E5! PySem.Fin}(hu:A.units<cLine)(I:Hp! s)(ed:Ap! d .dT kvs)(eo:Rd H o (.dT more))(ne:d≠o)(z:pi (kvs.length+more.length))(hh:kvs=[]->(more.map λq=>My X.w q.1).Nodup)(q:∀s',GN! (BQ! d .dT Ke!) s'->Q (.done (.ret .none)) s'):wpAny (model X.prog X.w) A (Builtin.Dict.updateFrom id d (X? o) [] .none) Q E s:=by
 obtain⟨zd,ld,xs,rd,dd⟩:=Ra I.DM ed;obtain⟨zo,lo,ms,ro,dO⟩:=Ng I.DM eo;have l1:=A? rd;have l2:=A? ro;unfold Builtin.Dict.updateFrom;refine ZR (wpAny_typeOf dO.typeIs ?_);rw[OZ!];refine ZR ?_;unfold Builtin.Dict.merge Builtin.Dict.readDirectly;refine ZR (ZR (wpAny_isInstance dO.typeIs isSubtype_dict_dict ?_));simp only[Bool.not_true,CZ,EK];refine ZR (wpAny_specialOf dO.typeIs F.slot_dict_iter.lookup (ZS ?_));simp only[beq_self_eq_true,H_];refine ZR (ZS (Jal (Zt _) hu ne lo dd dO g! (λe=>?_) λh' YC sb=>?_));.rw[Jjj ro];refine hh ?_;rw[e] at l1;exact BN.mp l1
 .obtain⟨ob,es,ep,g,h2,h3,h4,_,h5⟩:=YC;(have I':GN! (BQ! d .dT Ke!) o0:=by refine G9 (t':=s.toks) I (S! ed True.intro) sb ⟨ob,g⟩ ⟨?_,ld,_,(Jgp ro rd).keeps λc ys ec=>?_,ob,es,ep,g,h2,h3,h4,h5⟩;(.have:=Qr more kvs;exact AV Di! Di!);.rw[Ab (Qe ec ed (λz=>nomatch z))];exact ec);show wpAny _ _ (Builtin.Dict.addKeywords d [] >>= _) _ _ _;exact ZR (ZS (ZS (q _ I')))
universe E
universe S
variable {X:Cx Kx}
inductive Jm9(w:World)(x:V)(vs:B!)(H:Hp)(Q:VK):Prop
 | mk (d o:Addr) (kvs more:Ak!) (_:x=O! d) (_:vs=[O! o]) (_:Ap! d .dT kvs) (_:Rd H o (.dT more)) (_:d≠o) (_:pi (kvs.length+more.length)) (_:(kvs=[]->(more.map λq=>My w q.1).Nodup)) (_:Q .FH (BQ! d .dT Ke!))
theorem Jjb(hu:X.A.units+1<cLine):fj X "dict.update" (Jm9 X.w):=by intro AA s σ H x vs v us Q I rx rv h;obtain⟨d,o,kvs,more,rfl,rfl,ed,eo,ne,z,hh,q⟩:=h;cases rx;obtain⟨u,rfl,ru⟩:=rv.one;cases ru;obtain⟨_,_,xs,rd,dd⟩:=Ra I.DM ed;refine DL PySem.F.slot_dict_update dd.typeIs PySem.F.entry_dict_update ?_ (PySem.F.args_dict_update_2 _ _);unfold Builtin.«dict.update» Builtin.Dict.selfAndRest;refine ZR (ZR (IY dd.typeIs (ZS ?_)));exact Th (id:="dict.update") (AI! (X.A.in1.units<cLine) (FA (knd:=Bu X.prog X.w) hu)) I ed eo ne z hh λs' I'=>⟨_,rfl,.FH,_,I',rfl,q⟩
inductive Zn(w:World)(xs:B!)(H:Hp)(Q:VK):Prop
 | mk (o:Addr) (more:Ak!) (_:xs=[O! o]) (_:Ap! o .dT more) (_:(more.map λq=>My w q.1).Nodup) (_:∀p,C0!->Q (X? p) (BQ! p .dT (F7 [] more)))
theorem Ja6(hu:X.A.units+64<cLine):F8 X (.type "dict") (Zn X.w):=by
 intro AA s σ H xs us Q I r h;obtain⟨o,more,rfl,eo,hh,q⟩:=h;obtain⟨u,rfl,rx⟩:=vals1 r;cases rx;refine callType_codes (Q₁:=λobj EH=>obj=O! s.heap.objs.size/\EH={ s with heap:=s.heap.push (Ko! "dict" .dict (#[])) }) F.kt_called_dict (F.kt_typeCall_dict_1 _) F.entry_dict_init (kt_code_dict_new _ By!) ?_;rintro obj EH ⟨rfl,rfl⟩;have hn:T? s.heap.objs.size:=I.DM.fresh (ZG _);have I1:=I.laid (a:=s.heap.objs.size) (o:=.dT []) (t':=s.toks) (λ_ _ z=>ZT _ z) (ZG _) (Zb s.heap I.big);have e1:Eg! (BQ! s.heap.objs.size .dT []) s.heap.objs.size .dT:=Ac;obtain⟨_,_,xs,rd,dd⟩:=Ra I1.DM e1;refine BY! dd.typeIs (F.args_dict_init_2 _ _);unfold Builtin.«dict.__init__» Builtin.Dict.selfAndRest;refine ZR (ZR (IY dd.typeIs (ZS ?_)));have ne:s.heap.objs.size≠o:=λz=>by rw[<-z,hn] at eo;cases eo
 have eo1:L! (BQ! s.heap.objs.size .dT []) o (.dT more):=Q! ne.symm eo
 obtain⟨zo,_⟩:=Ra I.DM eo;have ja:X.A.in1.in1.units<cLine:=by (have h1:X.A.in1.in1.units=X.A.units+1+1:=by first|rfl|simp[units_in1]);lia
 exact Th (id:="dict.__init__") ja I1 e1 (G! eo1) ne (CQ! CA) (λ_=>hh) λs' I'=>⟨rfl,O! s.heap.objs.size,_,by rw[Ua] at I';exact I',rfl,q _ hn⟩
universe E
def hN(a b:Nat):Int:=reduceHash (Builtin.Tuple.tupleHashOf [Jr! a,Jr! b])
theorem Df{as:B?}{bs:List β}(p:Paired R as bs){a:α}{b:β}(r:R a b):Paired R (as++[a]) (bs++[b]):=pM p (.cons r L?)
theorem Ox{α:Type}(b:Ew!){ts:B?}{i:Nat}{t:α}(h:JI!):(ts.take (i+1)).filter b=(ts.take i).filter b++(Nc! (b t=true) [t]):=by rw[List.take_succ,h,JR];cases e:b t<;>simp[e]
theorem Jj(b:Ew!)(ts:B?)(i:Nat):wP (ts.take i).filter b<=ts.length:=by grind
inductive JY(p:Addr)(b:T2->Bool)(ts:A!)(H:Hp)(i:Nat)(ys:B!)(H2:Hp):Prop
 | mk (bs:M!) (_:ys=BU! bs.map) (_:IN H2) (_:CW! H2 p) (_:LV! (ts.take i).filter)
universe S
variable {p:Addr}{b:T2->Bool}{ts:List T2}{H:Hp}{tt:TT}{caps:List (Str×Nat)}{σ:L2.St}{Q:Hp->Prop}
theorem JY.start(hp:C0!):JY p b ts H 0 [] (Mn! p):=⟨[],rfl,Ah hp,Ac,L?⟩
theorem tY(hp:C0!)(hz:Ng!)(ht:MQ! B4!){i:Nat}{ys:B!}{H2:Hp}{a:Addr}{t:T2}{N:B!->Hp->Prop}(pv:Kb! i H2)(hi:JI!)(ha:L! H2 a (.A_ (tv t)))(n:∀ys H',Kb! a? H'->N ys H') : tt (Ny! (H? a)) H2 λc H4=>CO! (c=true) (ME! (H? a) (P6! (N (ys++[v]) P5!))) (N ys H4):=by
 obtain⟨bs,ey,sm,GQ,th⟩:=pv;have e1:=Ox b hi;have ln:ys.length<=ts.length:=by rw[ey,ZA,Eu!];exact Jj b ts i
 refine ht H2 a t _ sm ha (ZP hi) ?_;cases c:b t with | false =>rw[c] at e1;rw[OZ!];exact n ys H2 ⟨bs,ey,sm,GQ,by rw[e1];simpa using th⟩ | true =>rw[c,UF] at e1;rw[UF];(have s2:IN (E? H2 p .BE (ys++[x! a])):=λd o e=>PS! hp (sm d o e));(have kt:B_ H2 (E? H2 p .BE (ys++[x! a])):=l? GQ);refine⟨_,rfl,GQ,JF!,C! n ⟨bs++[a],EG! ey,s2,Ac,?_⟩⟩;rw[e1];exact Df (AZ.keep kt th) (kt.A_ _ _ ha)
theorem Kv{K:W.Frag}{l:Addr}{as:M!}(hp:C0!)(hz:Ng!)(hl:HA! l)(th:db)(ht:MQ! B4!)(k:∀(H2:Hp) (bs:M!),IN H2->Oe! H2 p->LV! ts.filter->Q H2) : MD! (Lv! (Kq! (WJ K l).stop (Q H2) ((WJ K l).go i H2) (∀x H3,(WJ K l).TR i H2 x H3->L4! (ME! D0! Lh!)))):=by
 have lt:=Eu!;refine Gj (K:=K) (a:=l) (p:=p) (xs:=HY!) (caps:=caps) (λi ys H2=>Kb! i H2) (JY.start hp) (λi ys H2 _ pv=>?_) (λi x ys H2 N hx pv n=>?_) λys H2 pv=>?_;.obtain⟨bs,_,sm,GQ,_⟩:=pv;exact NI! (Bx! hl) GQ
 .rw[ZH] at hx;cases ea:as[i]? with | none=>rw[ea] at hx;cases hx | some a =>rw[ea] at hx;have hx:Nd!:=ZO hx;subst hx;obtain⟨t,et⟩:=Lg!;have ha:=ML! et;obtain⟨bs,e0,sm,GQ,RZ⟩:=id pv;exact tY hp hz ht pv et (Bx! ha) n
 .obtain⟨bs,ey,sm,GQ,RZ⟩:=pv;rw[ZA,lt,BS] at RZ;exact k H2 bs sm (K? ey GQ) RZ
theorem Od{α:Type}{d:Addr}{l:B?}{key:ca}{val:α->V}{ob:Obj}(hp:C0!)(hz:l.length<=900)(hd:A9! (.GV ob (.dT (l.map La!))))(ht:MQ! (t∈l.map key))(k:∀(H2:Hp) (bs:M!),IN H2->Oe! H2 p->LV! (l.map key).filter->Q H2) : MD! (Lv! (Kq! (b_ d (l.map La!) ob).stop (Q H2) ((b_ d (l.map La!) ob).go i H2) (∀x H3,(b_ d (l.map La!) ob).TR i H2 x H3->L4! (ME! D0! Lh!)))):=by
 have hz':(l.map key).length<=900:=H! ZA hz
 refine LA! (λi m ys H2=>m=l.length-i/\i<=l.length/\JY p b (l.map key) H i ys H2) l.length (JY.start hp);rintro i m ys H2 ⟨rfl,hi,pv⟩;obtain⟨bs,ey,sm,GQ,RZ⟩:=id pv;have hd2:=C! sm hd;refine A6! GQ;by_cases JL:i<l.length;.refine P? ⟨hd2,H! ZA JL⟩ (λx H3 y=>?_);obtain⟨e,a,kk,v,ex,ek,ha⟩:=y;subst e ex;rw[ZH] at ek;obtain⟨q,hq⟩:=An JL;rw[hq] at ek;have ek:(tk (key q),val q)=(kk,v):=ZO ek;have e1:kk=tk (key q):=(Prod.mk.inj ek).1.symm;rw[e1,uE] at ha;exact tY (N:=λzs H'=>∃m',m'<l.length-i/\(m'=l.length-a?/\i+1<=l.length/\JY p b (l.map key) H a? zs H')) hp hz' ht pv (EF! hq) ha λzs H' pz=>⟨_,F!,rfl,JL,pz⟩
 ·(have e:i=l.length:=F!);subst e;refine Sc ⟨hd2,H! ZA wp⟩ ?_;(have e2:(l.map key).take l.length=l.map key:=BL! (ZA (f:=key)) BS);rw[e2] at RZ;exact k H2 bs sm (K? ey GQ) RZ
universe E
def MV(nx:T2->A!):Nat->A!->A!->A!->Prop
 | 0,ahead,found,R=>ahead=[]/\R=found
 | n+1,ahead,found,R=>∃a t,ahead=a++[t]/\((t∈found/\MV nx n a found R)\/(t∉found/\MV nx n (a++nx t) (BS!) R))
theorem MV.len:Ni! (II!->ahead.length<=n)
 | 0,_,_,_,h=>H! h.1 wp
 | n+1,_,_,_,⟨a,t,e,h⟩=>by rw[e,ZE];rcases h with⟨_,h⟩|⟨_,h⟩;(.have:=h.len;show Nj!<=n+1;exact FR!);.have:=h.len;rw[ZE] at this;show Nj!<=n+1;lia
theorem MV.sub:Ni! (II!->(∀t∈found,FM)/\Gx! FM)
 | 0,_,_,_,h=>by rw[h.1,h.2];exact⟨λ_ z=>z,λ_ z=>jp z⟩
 | n+1,_,_,_,⟨a,t,e,h⟩=>by rw[e];rcases h with⟨ht,h⟩|⟨_,h⟩;(.refine⟨h.sub.1,Cr!⟩;rcases ZI hu with hu|hu;(.exact h.sub.2 u hu);·(have:u=t:=Gb!);rw[this];exact h.sub.1 t ht);.refine⟨EK! h.sub.1 Oa!,Cr!⟩;rcases ZI hu with hu|hu;(.exact h.sub.2 u Oa!);.exact h.sub.1 u (ZC _ hu)
theorem MV.closed:Ni! (II!->(∀t∈found,∀u∈nx t,u∈found\/u∈ahead)->∀t∈R,∀u∈nx t,u∈R)
 | 0,_,_,_,h,c=>by rw[h.2];rw[h.1] at c;exact λt ht u hu=>(c t ht u hu).elim id λz=>jp z
 | n+1,_,found,_,⟨a,t,e,h⟩,c=>by rw[e] at c;rcases h with⟨ht,h⟩|⟨_,h⟩;(.refine h.closed λs hs u hu=>?_;rcases c s hs u hu with z|z;(.exact K! z);.rcases ZI z with z|z;(.exact D! z);·(have:u=t:=by simpa using z);rw[this];exact G8!);.refine h.closed λs hs u hu=>?_;rcases ZI hs with hs|hs;(.rcases c s hs u hu with z|z;(.exact K! (ZB _ z));.rcases ZI z with z|z;(.exact D! (ZB _ z));.exact K! (ZC _ z));·(have:s=t:=by simpa using hs);rw[this] at hu;exact D! (ZC _ hu)
theorem MV.least{nx:T2->A!}{S:FC!}(cl:∀t,S t->∀u∈nx t,S u):Ni! (II!->(∀t∈found,S t)->(Gx! (S t))->∀t∈R,S t)
 | 0,_,_,_,h,f,_=>H! h.2 f
 | n+1,_,_,_,⟨a,t,e,h⟩,f,g=>by rw[e] at g;have gt:=g t (ZC _ Cg!);rcases h with⟨ht,h⟩|⟨_,h⟩;(.exact h.least cl f (EK! g Oa!));.refine h.least cl (Cr!) Cr!;(.rcases ZI hu with hu|hu;(.exact f u hu);·(have:u=t:=Gb!);rw[this];exact gt);.rcases ZI hu with hu|hu;(.exact g u Oa!);.exact cl t gt u hu
theorem Lc:Ju! (l≠[]) (∃a t,l=a++[t])
 | [],h=>absurd rfl h
 | [x],_=>⟨[],x,rfl⟩
 | x::y::l,_=>by obtain⟨a,t,e⟩:=Lc (l:=y::l) Cg!;exact⟨x::a,t,c? e⟩
theorem MV.ex{nx:T2->A!}{keys:A!}{B:Nat}(sub:∀t,∀u∈nx t,u∈keys)(sz:∀t,wP nx t<=B):∀(m:Nat)(ahead found:A!),(Gx! (t∈keys))->wP keys.filter (Z? (t∉found))*(B+1)+ahead.length<=m->∃n R,n<=m/\II!
 | m,ahead,found,ha,hm=>by by_cases e:ahead=[];(.exact⟨0,found,AU _,e,rfl⟩);obtain⟨a,t,ea⟩:=Lc e;(have l1:ahead.length=Nj!:=SC ea ZE);have r8:∀u∈a,u∈keys:=EK! ha (S! ea (i? hu));have ht:t∈keys:=ha t (S! ea Oj!);match m,hm with | 0,hm=>exact Bz! hm F! | m+1,hm =>by_cases hf:t∈found;(.obtain⟨n,R,h1,h2⟩:=MV.ex sub sz m a found r8 g!;exact⟨n+1,R,by exact FR!,a,t,ea,Sc hf h2⟩);·(have lt:IA! Nl!<IA! (u∉found):=by (have e1:(keys.filter (Cc! Nl!))=(keys.filter (Cc! (u∉found))).filter (Cc! (u≠t)):=by rw[List.filter_filter];refine KL λu _=>?_;by_cases c1:u∈found<;>by_cases c2:u=t<;>simp[c1,c2]);rw[e1];refine List.length_filter_lt_length_iff_exists.mpr ⟨t,Bf! ht (by simpa using hf),t?⟩);have l2:=sz t;(have key:IA! Nl!*(B+1)+(a++nx t).length<=m:=by rw[ZE];have:(IA! Nl!+1)*(B+1)<=IA! (u∉found)*(B+1):=E_ _ lt;rw[Nat.add_mul,Nat.one_mul] at this;lia);obtain⟨n,R,h1,h2⟩:=MV.ex sub sz m (a++nx t) Gl! (λu hu=>(ZI hu).elim (r8 u) (sub t u)) key;exact⟨n+1,R,by exact FR!,a,t,ea,P? hf h2⟩
def QD(hl:HL)(t:T2):A!:=(Bp hl t).filter (Cc! NZ!)
def Ms(G:BZ):A!:=JP! (Z? O4!)
def startT(G:BZ):A!:=(G.hand++Ms G).filter (Z? (w! G.holds.map))
def keepR(G:BZ)(R:A!):BZ:={ G with AH:=CS! G.AH.filter Bp!,holds:=CS! G.holds.filter Bp! }
def Br(G:BZ)(t:T2):Bool:=g? BM! || Db! G.holds.any Iv!
def HW(G:BZ):BZ:=HF! (G.AI.filter λq=>Bh!)
universe S
theorem Q6(s:hl.Sublist G.holds):(BM { G with holds:=hl }).Sublist (BM G):=by unfold BM;exact((((s.map _).cons₂ _).cons₂ _).cons₂ _).cons₂ _
theorem AX.UM(x:v!){hl:HL}(s:hl.Sublist G.holds):OS! G.l Dz hl { G with holds:=hl }:=by obtain⟨⟨a1,a2,a3⟩,⟨b1,b2⟩,c1,d1⟩:=x.RV;have np:=x.QU (b:=G.l) (by simp[BM]);obtain⟨dx,e⟩:=x.ob;exact⟨Ce! (Dd! np.symm),Q! a2 x.dh,Q! b1 x.dO,Ac,Q! c1.symm x.dr,R? (Q! (d1 q (s.subset hq)).2.2.1 (x.hl q (s.subset hq))),x.nd.sublist (Q6 s)⟩
universe E
theorem Y6{d:Addr}{kvs:Ak!}{ob:Obj}{g:TG}{tb:TS}{D:Ends}{σ:L2.St}{H:Hp}(Pv:Nat->L2.St->Hp->Prop)(h0:Pv 0 σ H)(hf:∀i σ H,M8!->FP!->A9! (.GV ob (.dT kvs)))(hs:∀i a k v σ H,OC! (k,v)->AJ! a (.A_ (k.map kV))->FP!->g (X? a) σ H (Lx! { D with nx:=FA!,ct:=FA!,bk:=D.nx }))(hd:∀σ H,Pv kvs.length σ H->K9!) : ∃W:Nat->Nat->L2.St->Hp->Prop,(∃m,W 0 m σ H)/\∀i m σ H,W i m σ H -> ((b_ d kvs ob).stop i H/\K9!)\/((b_ d kvs ob).go i H/\∃N:L2.St->Hp->Prop,(∀EV H',N EV H'->∃m',m'<m/\W a? m' EV H')/\∀x H',(b_ d kvs ob).TR i H x H'->g x σ H' (Lx! { D with nx:=N,ct:=N,bk:=D.nx })):=by
 refine LA! (λi m σ H=>m=kvs.length-i/\M8!/\FP!) kvs.length h0;rintro i m σ H ⟨rfl,hi,pv⟩;have fz:=hf i σ H hi pv;by_cases JL:i<kvs.length;.refine D! ⟨⟨fz,JL⟩,FA!,λEV H' p'=>⟨kvs.length-a?,F!,rfl,JL,p'⟩,λx H' y=>?_⟩;obtain⟨e,a,k,v,ex,ek,ha⟩:=y;subst e ex;exact hs i a k v σ _ ek ha pv
 ·(have e:i=kvs.length:=F!);subst e;exact Sc ⟨fz,wp⟩ (hd σ H pv)
def Fg(l m:A!):A!:=m.foldl Bn l
theorem Qt:∀{m l:A!} {t:T2},t∈Fg l m↔t∈l\/t∈m
 | [],l,t=>by simp[Fg]
 | u::m,l,t=>by show t∈Fg (Bn l u) m↔_;rw[Qt,DG,BV,or_assoc]
theorem Rm:∀(m l:A!),b? Fg l m (l.length+m.length)
 | [],l=>wp
 | u::m,l=>by have h1:b? Fg (Bn l u) m _:=Rm m (Bn l u);have h2:=Ib l u;show b? Fg (Bn l u) m (l.length+(m.length+1));lia
theorem Rl:∀(m l:A!),(l++m).Nodup->Fg l m=l++m
 | [],l,_=>(AG l).symm
 | u::m,l,nd=>by (have nu:u∉l:=λz=>by rw[AM] at nd;exact nd.2.2 u z u (v6) rfl);(have e2:l++[u]++m=l++u::m:=NO!);show Fg (Bn l u) m=_;(have e3:Bn l u=l++[u]:=by unfold Bn;rw[AB nu]);rw[e3,Rl m _ (H! e2 nd),e2]
theorem Jx:∀(m l:A!),F7 (l.map WP) (m.map WP)=(Fg l m).map WP
 | [],l=>rfl
 | u::m,l=>by show F7 (putK (l.map WP) (tk u) (V.bl true)) (m.map WP)=_;rw[E7];exact Jx m (Bn l u)
theorem Ov{α:Type}{l:B?}{k:ca}{f:α->V}{t:T2}:((l.find? (Op (k q=t))).map f).isSome=g? (t∈l.map k):=by grind
theorem N8{H:Hp}{d a:Addr}{α:Type}{l:B?}{k:ca}{f:α->V}{t:T2}(hd:Rd H d (.dT (l.map λq=>(tk (k q),f q))))(ha:Pj! a t):∃o,O7! a o/\o.isSome=g? (t∈l.map k) :=⟨_,D! ⟨_,tk t,a,hd,rfl,ha,rfl⟩,H! Dw Ov⟩
theorem Wf(a:B?)(t:α):(a++[t])[(a++[t]).length-1]?=some t:=by rw[ZE];simp
theorem Pq(th:AZ H as (a++[t])):∃(bs:M!)(c:Addr),as=bs++[c]/\AZ H bs a/\Pj! c t:=by
 have hl:=Eu!;have ne:as≠[]:=λz=>by rw[z] at hl;simp at hl
 obtain⟨bs,c,e⟩:=Lc ne;subst e;have l2:bs.length=a.length:=by rw[ZE,ZE] at hl;simpa using hl
 refine⟨bs,c,rfl,?_,?_⟩;·(have go:∀{xs:M!} {ys:A!} {x:Addr} {y:T2},xs.length=ys.length->AZ H (xs++[x]) (ys++[y])->AZ H xs ys:=by intro xs;induction xs with | nil=>intro ys x y h _;(cases ys with | nil=>exact L? | cons _ _=>simp at h) | cons x0 xs ih=>intro ys x y h q;cases ys with | nil=>simp at h | cons y0 ys =>cases q with | cons h1 q=>exact .cons h1 (ih (d?) q));exact go l2 th
 .exact Az th bs.length c t Cg! (by rw[l2];simp)
theorem J9{as:M!}{ts:A!}{bs:M!}{us:A!}(p:db)(q:AZ H bs us):AZ H (as++bs) (ts++us):=pM p q
theorem F0{α:Type}(k:ca)(l:B?){ts:A!}{i:Nat}{t:T2}(h:JI!):G6! (Bb! l.filter (k q∉ts.take (i+1))) (l.filter λq=>decide (k q∉ts.take i)).filter (k q≠t):=by rw[List.filter_filter,List.take_succ,h];refine KL λq _=>?_;by_cases c1:k q∈ts.take i<;>by_cases c2:k q=t<;>simp[c1,c2]
theorem Du(k:ca)(l:B?)(f:T2->Bool):(l.filter λq=>f (k q)).map k=(l.map k).filter f:=c? QJ
theorem Hj{α:Type}{l:B?}{k:ca}{f:α->V}{t:T2}(h:t∈l.map k):∃v,Ct (l.map λq=>(tk (k q),f q)) (tk t)=some v:=by rw[Dw];have:=Ov (l:=l) (k:=k) (f:=f) (t:=t);rw[Eh!] at this;exact Option.isSome_iff_exists.mp this
def Am(G:BZ)(ts:A!):BZ:={ G with AH:=CS! G.AH.filter Bq!,holds:=CS! G.holds.filter Bq! }
theorem Rc(G:BZ):Am G []=G:=by
 have a1:CS! G.AH.filter (q.1∉Fk!)=G.AH:=DU.mpr λq _=>t?
 have a2:CS! G.holds.filter (q.1∉Fk!)=G.holds:=DU.mpr λq _=>t?
 unfold Am;rw[a1,a2]
theorem HN{α:Type}{k:ca}{l:B?}(nd:NJ! k){q:α}(hq:q∈l):l.find? (λr=>g? (k r=k q))=some q:=by cases e:l.find? λr=>g? (k r=k q) with | none=>have:=BB.mp e q hq;simp at this | some r =>(have h1:k r=k q:=Ge! (DE e));rw[Gr nd (AJ e) hq h1]
def Dh(hand:A!)(qs:HL):A!:=qs.foldl (λl q=>Fg l F?) hand
theorem KY:∀{qs:HL} {hand:A!} {t:T2},t∈Dh hand qs↔t∈hand\/∃q∈qs,Iv!
 | [],hand,t=>by simp[Dh]
 | q::qs,hand,t=>by show t∈Dh (Fg hand F?) qs↔_;rw[KY,Qt,or_assoc];simp
theorem Ow:∀{qs:HL} {hand:A!},(∀q∈qs,q.2.2.length<=B)->b? Dh hand qs (hand.length+qs.length*B)
 | [],hand,_=>by simp[Dh]
 | q::qs,hand,h=>by have h1:b? Dh (Fg hand F?) qs _:=Ow λr hr=>h r (ZD _ hr);have h2:=Rm F? hand;have h3:=h q (v6);show b? Dh (Fg hand F?) qs (hand.length+(qs.length+1)*B);rw[Nat.add_mul,Nat.one_mul];lia
theorem Wu(hand:A!){qs:HL}{i:Nat}{q:T2×Addr×A!}(h:qs[i]?=some q):Dh hand (qs.take (i+1))=Fg (Dh hand (qs.take i)) F?:=by unfold Dh;rw[List.take_succ,h,NY];rfl
theorem Jd3(G:BZ)(t:T2):(decide (Lk!))=Br G t:=by
 unfold Br;by_cases h:Lk!;.rw[Eh!];rcases KY.mp h with h|⟨q,hq,h⟩;(.simp[h]);.have:NT! G.holds.any:=LC.mpr (Ao! d?);rw[this];simp
 .rw[HD!];have h1:t∉G.hand:=λz=>h (KY.mpr (G! z));(have h2:Bb! G.holds.any Iv!=false:=by rw[List.any_eq_false];intro q hq z;exact h (KY.mpr (Y! (Ao! (by simpa using z)))));simp[h1,h2]
theorem Ww{α:Type}{b:Ew!}{ts:B?}{i:Nat}{t:α}(h:JI!):(ts.take (i+1)).filter b=(ts.take i).filter b++(Nc! (b t=true) [t]):=Ox b h
theorem N6(b:Ew!)(ts:B?)(i:Nat):wP (ts.take i).filter b<=ts.length:=Jj b ts i
theorem Oq:∀{l:B?} {i:Nat} {t:α},l.Nodup->l[i]?=some t->t∉l.take i
 | [],_,_,_,h=>Dn!
 | x::l,0,t,_,_=>t?
 | x::l,i+1,t,nd,h=>by have nd:=AD!;(have h:l[i]?=some t:=d?);rw[List.take_succ_cons];intro z;rcases ZM z with z|z;(.exact I4! nd.1 z (ZP h));.exact Oq nd.2 h z
def JC(H:Hp):M!->J!->Prop:=Paired λa q=>∃c,JQ! [O! c,y! q.2]/\Pj! c q.1
theorem JC.keep(k:AE!)(x:JC H as bs):JC H' as bs:=Aq (λ_ _ h9=>by obtain⟨c,e1,e2⟩:=h9;exact⟨c,Gg! e1,Ho!⟩) x
theorem Jcj{H:Hp}{val:T2->V}:∀{l:A!} {as:M!},pF H (l.map λq=>(tk q,val q)) as->AZ H as l
 | [],as,h=>by cases h;exact L?
 | t::l,as,h=>by cases h with | cons h1 h2=>exact .cons (K? uE h1) (Jcj h2)
theorem Tq{α:Type}(k:ca){l:B?}{ks R:A!}(h:∀q∈l,k q∈ks):G6! (Bb! l.filter (k q∉ks.filter HN!)) l.filter (k q∈R):=KL (R? (by by_cases c:k q∈R;(·(have:k q∉ks.filter HN!:=λz=>by have:=Dx! z;simp[c] at this);simp[c]);.have:k q∈ks.filter HN!:=Bf! (h q hq) DY!;simp[c,h q hq]))
theorem Wy{G:BZ}{R:A!}(ke:KX!):Am G (JP! (Z? (t∉R)))=JW!:=by
 have h1:=Tq (v4) (l:=G.AH) (ks:=AM!) (R:=R) (R? (BJ hq));have h2:=Tq (Ar!) (l:=G.holds) (ks:=AM!) (R:=R) (R? (K? ke (BJ hq)))
 unfold Am keepR;rw[h1,h2]
theorem Jv:YE (.list []):=Ju λ_ h=>jp h
theorem Jp9(ts:A!)(h:b∈BM n?):b∈j?:=by have:(BM n?).Sublist (BM G):=Q6 (G:=My! (Am G ts).AH) FK;exact this.subset h
universe S
theorem Jfk(h:Np!)(v:Int):Bj l t v=l++[(t,v)]:=by unfold Bj;rw[AB h]
theorem E4(h:Np!):P! l=0:=by unfold Ai;rw[IR! (¬Z!) h];rfl
universe E
theorem Jc3(h:(BM G).Nodup):(G.holds.map B8!).Nodup:=by unfold BM at h;simp only[AN] at h;exact h.2.2.2.2
universe S
variable {p:Addr}{H H':Hp}{G:BZ}
universe E
universe S
variable {G M:BZ}{n:Nat}{R:List T2}
theorem Jlo(ok:I?){q:T2×Addr×A!}(hq:q∈G.holds){t:T2}(ht:Iv!)(e:w! G.holds.map):t∈QD G.holds q.1:=by
 have nd:N? G.holds.map:=H! ok.ke ok.on
 have f:=HN (k:=Ar!) nd hq;have:Bp G.holds q.1=F?:=D8! f
 unfold QD;rw[this];exact Bf! ht Mz!
theorem Ok.keepR(ok:I?)(st:∀t∈startT G,FM)(cl:∀t∈R,∀u∈QD G.holds t,u∈R):Ok (FX.keepR G R) n:=by
 have mem:∀t,Ax!->FM->w! (G.AH.filter (Op Bp!)).map:=λt h1 h2=>H! (LX! FM) (Bf! h1 (by simpa using h2))
 have sub:∀t,w! (G.AH.filter (Op Bp!)).map->Ax!:=λt h=>Fb! h;refine⟨ok.hn,ok.hz,ok.on.sublist (List.filter_sublist.map _),FY! ok.oz,?_,ok.rn,ok.rz,H6! ok.ln,IR (ok.new t (sub t ht)),Cq!,λq hq t ht e=>?_,ok.rk⟩;.show LE! Bp! Bp!;rw[Du (Ar!) G.holds (Z? FM),LX! FM,ok.ke]
 .have h1:=ok.hk t ht e;refine mem t h1 (st t ?_);unfold startT;exact Bf! (i? ht) (by rw[ok.ke];simpa using h1)
 .obtain⟨cv,X_⟩:=AD.mp hq;have h1:=ok.lk q cv t ht e;exact mem t h1 (cl q.1 (by simpa using X_) t (Jlo ok cv ht (S! ok.ke h1)))
theorem Ok.HW(ok:I?):Ok (FX.HW G) n :=⟨ok.hn,ok.hz,ok.on,ok.oz,ok.ke,ok.rn.sublist (List.filter_sublist.map _),FY! ok.rz,ok.ln,ok.new,ok.hk,ok.lk,IR (ok.rk t (Fb! ht))⟩
theorem Jdc(G:BZ):∀t∈startT G,w! G.holds.map:=IR KN!
theorem Jgj(hl:HL)(t:T2):∀u∈QD hl t,NZ!:=λu hu=>by have:=Dx! hu;simpa using this
universe E
universe S
universe E
universe S
universe E
theorem Ec(h:n<=100000):n<sizeLine:=JQ h (sB)
def gz:At->Bool
 | []=>true
 | [_]=>true
 | x::y::l=>g? (x<y)&&gz (y::l)
theorem Jer:∀{l:At} {x:Int},gz (x::l)=true->∀y∈l,x<y
 | [],_,_,y,hy=>by simp at hy
 | z::l,x,h,y,hy=>by unfold gz at h;rw[Bool.and_eq_true] at h;have h1:=BR h.1;rcases ZM hy with rfl|hy;(.exact h1);.exact Int.lt_trans h1 (Jer h.2 y hy)
theorem Jeq:∀{l:At},gz l=true->l.Nodup
 | [],_=>CY
 | [x],_=>t?
 | x::y::l,h=>by have h':=h;unfold gz at h';rw[Bool.and_eq_true] at h';exact AN.mpr ⟨λm=>Int.lt_irrefl _ (Jer h x m),Jeq h'.2⟩
def dj:List (Nat×Nat):=(List.range 12).flatMap λn=>(List.range 60).map λj=>(n,j)
def aL:At:=dj.map λp=>hN p.1 p.2
def pJ(x:Int):At->At
 | []=>[x]
 | y::l=>CO! (x<y) (x::y::l) (y::pJ x l)
theorem Tb(x:Int):∀l:At,(pJ x l).Perm (x::l)
 | []=>GR!
 | y::l=>by unfold pJ;split;(.exact GR!);.exact((Tb x l).cons y).trans (List.Perm.swap x y l)
def pO:At->At
 | []=>[]
 | x::l=>pJ x (pO l)
theorem R7:∀l:At,(pO l).Perm l
 | []=>GR!
 | x::l=>(Tb x (pO l)).trans ((R7 l).cons x)
theorem Jik:gz (pO aL)=true:=ZV
theorem Jil:aL.Nodup:=(R7 aL).nodup_iff.mp (Jeq Jik)
def VE(t:T2):Prop:=0<=t.1/\t.1<12/\0<=t.2/\t.2<60
theorem Jd4(ht:VE t)(hu:VE u)(e:My w (tk t)=My w (tk u)):t=u:=by
 have bZ:∀v:T2,0<=v.1->0<=v.2->My w (tk v)=hN Nr! Ns!:=λv h1 h2=>by show reduceHash (Builtin.Tuple.tupleHashOf [hashInt v.1,hashInt v.2])=reduceHash (Builtin.Tuple.tupleHashOf [Jr! Nr!,Jr! Ns!]);rw[BK h1,BK h2]
 obtain⟨a0,a1,a2,a3⟩:=ht;obtain⟨b0,b1,b2,b3⟩:=hu;rw[bZ t a0 a2,bZ u b0 b2] at e;have m:∀v:T2,0<=v.1->v.1<12->0<=v.2->v.2<60->(Nr!,Ns!)∈dj:=λv h0 h1 h2 h3 =>CU.mpr ⟨Nr!,SB BH.mpr,SZ ⟨Ns!,SB BH.mpr,rfl⟩⟩;have:=Gr (f:=λp:Nat×Nat=>hN p.1 p.2) Jil (m t a0 a1 a2 a3) (m u b0 b1 b2 b3) e;have e1:=congrArg Prod.fst this;have e2:=congrArg Prod.snd this;simp only at e1 e2;exact Prod.ext (F!) g!
theorem Yz:∀{ts:A!},ts.Nodup->(∀t∈ts,VE t)->(ts.map λt=>My w (tk t)).Nodup
 | [],_,_=>CY
 | t::ts,nd,hr=>by have nd:=AD!;refine AN.mpr ⟨λm=>?_,Yz nd.2 (EK! hr (ZD _ hu))⟩;obtain⟨u,hu,e⟩:=ZN m;exact nd.1 ((Jd4 (hr t Dr!) (hr u (ZD _ hu)) e.symm)▸hu)
theorem Q1{w:World}{l:A!}(nd:l.Nodup)(hr:∀t∈l,VE t):((l.map WP).map λq=>My w q.1).Nodup:=H! AL (Yz nd hr)
def Jhs(o:Obj):Prop:=o.cls=.type BW!/\o.dict=none/\∃xs k,o.data=.seq xs k
universe S
inductive O5(K:W.Frag)(xs:B!)(H:Hp)(Q:VK):Prop
 | mk p ys (_:xs=[Os]) (_:DW K H p ys) (_:∀l o,T? l->Jhs o->Q (X? l) (upd H l (.GV o (.A_ ys))))
theorem Rg{X:Cx Kx}:F8 X (.type BW!) (O5 Kx):=by intro AA s σ H xs us Q I r h;obtain⟨p,ys,rfl,hq,q⟩:=h;obtain⟨u,rfl,rx⟩:=vals1 r;cases rx;obtain⟨its,r',pl,hz⟩:=I.list hq;have hlen:=r'.length;refine call_tuple_list pl.isList (λh' kp=>?_) (by simp only[BG]<;>lia);have I1:Hp! o0:=I.kept (t':=s.toks) kp;have I2:GN! (upd H h'.objs.size (.GV (Ko! BW! .seq its.toArray) (.A_ ys))) { s with heap:=h'.push (Ko! BW! .seq its.toArray) } :=I1.laid (t':=s.toks) (Bk! (ZT _ e)) (ZG _) (show DV X.prog X.w _ _ _ (.GV _ (.A_ ys)) from⟨ZU _ rfl,hz,its,r',IsTup.new _ _⟩);exact⟨O! h'.objs.size,_,I2,rfl,q _ _ (I1.DM.fresh (ZG _)) ⟨rfl,rfl,_,_,rfl⟩⟩
universe E
universe S
universe E
universe S
universe E
universe S
variable {X:Cx Kx}
universe E
universe E FX
universe N K63
open PySem L2 FX
abbrev DK(P : Program)(w : World)(K : W.Frag)(mg : Str -> Option Value)(base : Heap) := ET P w K mg base YZ
abbrev FN(P : Program)(w : World)(K : W.Frag)(mg : Str -> Option Value)(base : Heap) := ET P w K mg base (VG P w)
def top(i:Nat):Stmt:=PySem.Challenge.pw_farhold_k63_whole_calm.main.body.getD i (.Pass ⟨0,0,0,0⟩)
abbrev pU:Stmt:=D? 0
abbrev pW:Stmt:=D? 1
abbrev pT:Stmt:=D? 2
abbrev p6:Stmt:=D? 3
abbrev pZ:Stmt:=D? 4
abbrev pS:Stmt:=D? 5
abbrev pX:Stmt:=D? 6
abbrev p5:Stmt:=D? 7
abbrev Vm:Stmt:=D? 8
abbrev Vk:Stmt:=D? 9
abbrev Pc:Stmt:=D? 10
abbrev pj:Stmt:=D? 13
abbrev P6:Stmt:=D? 14
abbrev pk:Stmt:=D? 15
abbrev K5:Stmt:=D? 16
abbrev Im:Stmt:=D? 18
abbrev Ld:Stmt:=D? 19
abbrev Mb:Stmt:=D? 20
abbrev Vf:Stmt:=D? 21
abbrev Xv:Stmt:=D? 22
abbrev Se:Stmt:=top 25
abbrev L9:Stmt:=top 12
abbrev Gp:Stmt:=top 10
abbrev Il:Stmt:=top 16
abbrev Kf:Stmt:=top 17
abbrev Vi:Stmt:=HE! 0
abbrev Pf:Stmt:=HE! 1
abbrev Mc:Stmt:=HE! 2
abbrev Pe:Stmt:=HE! 3
abbrev Md:Stmt:=HE! 4
abbrev pV:Stmt:=D? 12
abbrev Xq:Stmt:=Q? 8
abbrev Ke:Stmt:=Q? 17
abbrev F9:Stmt:=Q? 18
abbrev Kb:Stmt:=Q? 19
abbrev Js:Stmt:=Q? 20
abbrev L8:Stmt:=Q? 21
abbrev pY:Stmt:=top 26
abbrev Me:Stmt:=top 27
abbrev Xu:Stmt:=top 28
abbrev n9:Stmt:=top 29
abbrev Vd:Stmt:=top 30
abbrev p7:Stmt:=top 31
abbrev Vj:Stmt:=top 32
abbrev Vh:Stmt:=top 33
abbrev Kg:Stmt:=top 34
abbrev Xr:Stmt:=top 35
abbrev Mf:Stmt:=top 36
abbrev Ve:Stmt:=top 37
abbrev ix:Stmt:=top 38
structure Txt(K:W.Frag)(mg:Fu!)(C NHd NNr MI NW:Addr):Prop where
 cl:WK K C
 nN:Db "number"
 nM:Db "made"
 nT:Db GZ!
 nH:Db BK!
 nO:Db D7!
 nL:Db D6!
 nR:Db GY!
 eP:K0! "House" C
 wA:Xa K mg "NotHeld" NHd
 v_:Xa K mg "NotNear" NNr
 cMI:Xa K mg "Missing" MI
 cNW:Xa K mg "NoWeight" NW
 len:bn "len"
 range:bn "range"
 tuple:bn BW!
 sorted:bn "sorted"
 isi:bn "isinstance"
inductive Uw(C:Addr)(vs:B!)(H:Hp)(Q:VK)(E:XK):Prop
 | mk (p t:Addr) (G:BZ) (th:T2) (_:BE!) (_:v!) (_:cr) (_:Q (.bl (decide (th.1=G.BP))) H)
inductive L3(C NHd:Addr)(vs:B!)(H:Hp)(Q:VK)(E:XK):Prop
 | mk (p t:Addr) (G:BZ) (th:T2) (_:BE!) (_:v!) (_:cr) (_:((th∈G.hand/\Q .FH H)\/(th∉G.hand/\NN! NHd)))
inductive Uv(C NNr:Addr)(vs:B!)(H:Hp)(Q:VK)(E:XK):Prop
 | mk (p t:Addr) (G:BZ) (th:T2) (_:BE!) (_:v!) (_:cr) (_:((th.1=G.BP/\Q .FH H)\/(th.1≠G.BP/\NN! NNr)))
def Xd(G:BZ)(ta tb:T2)(good:Addr->A!->Prop)(nh nn mi:Prop):Prop :=
 (ta∉G.hand/\nh)\/(De!/\ta.1≠G.BP/\nn)\/(De!/\ta.1=G.BP/\∃(a:Addr)(hl:A!),HW! (q.1=ta) (ta,a,hl)/\((tb∉hl/\mi)\/(tb∈hl/\good a hl)))
inductive P0(C NHd NNr MI:Addr)(vs:B!)(H:Hp)(Q:VK)(E:XK):Prop
 | mk (p a b:Addr) (G:BZ) (ta tb:T2) (_:LH!) (_:v!) (_:KT!) (_:KM) (_:Xd G ta tb (λ_ _=>Q .FH H) (BJ! NHd) (BJ! NNr) (BJ! MI))
universe S
theorem scN:IP! K5:={}
theorem Vt(F:E! "is_near" "House.is_near" K5)(T:N!):Bd! AK! Uw:=by refine W! scN;obtain⟨p,t,G,th,rfl,S,ht,k⟩:=h;refine I!;obtain⟨dx,hp⟩:=S.ob;refine GM (Af (Ay (Jlf (Jli GA! d!))));exact wE ⟨t,_,0,_,rfl,rfl,BR! ht,rfl,_,rfl,p,C,dx,_,_,rfl,hp,T.cl,T.nN,Te G,_,_,rfl,rfl,k⟩
theorem Gf(hd:FT! A9)(ht:cr):O7! t (Pt! (th∈l)):=Bt! H1! Hk
theorem Jo3:IP! Im:={}
theorem Ml(F:E! "need_in_hand" "House.need_in_hand" Im)(T:N!):Mj! f fd (L3 C NHd):=by
 refine k? Jo3;obtain⟨p,t,G,th,rfl,S,ht,k⟩:=h;refine I!;have hu:=k!;obtain⟨dx,hp⟩:=S.ob;refine GM (Af (Lo! Do U! d! (Fz! T.wA)));refine Is! dx hp T.nH (Ge G) G.h _ (Gf S.dh ht);rcases k with⟨h,k⟩|⟨h,k⟩;.rw[AE h];exact Bx k
 .rw[AB h];exact Cc k
universe E
structure DN(K:W.Frag)(C:Addr)(x qual:Str)(st:Stmt)(ps:List Str)(f:Addr)(fd:FuncData):Prop where
 fn:E! x qual st
 bd:IQ! fd ps
 mt:kJ K C x f
universe S
theorem Jo2:IP! Ld:={}
theorem Ye(F:E! "need_near" "House.need_near" Ld)(T:N!)(M1:DU!):O2! AK! (Uv C NNr):=by
 have G1:Mj! f1 bo (Uw C):=FX.ET.UY (Vt M1.fn T);refine k? Jo2;obtain⟨p,t,G,th,rfl,S,ht,k⟩:=h;refine I!;have hu:=k!;obtain⟨dx,hp⟩:=S.ob;refine GM (Af (Bh (Z7 (Hg (Po! T.cl M1.mt G1 hr M1.bd))) (Af (Fz! T.v_)) A3));refine⟨_,rfl,p,dx,_,rfl,hp,z!,_,rfl,p,t,G,th,rfl,S,ht,_,rfl,?_⟩;rcases k with⟨h,k⟩|⟨h,k⟩;.rw[Eh!];exact Bx k
 .rw[HD!];exact Cc k
theorem Jm3:K4! Mb:={}
theorem N9(S:v!)(ht:cr)(f:HW! A8! JL!):FO! G.l V.ref a/\Oc! a hl/\JL!∈G.holds:=by have:=PQ! S.dl;rw[IV!,f] at this;exact⟨this,S.hl _ (AJ f),AJ f⟩
theorem Sn(F:E! "need_holding" "House.need_holding" Mb)(T:N!)(M1:DU!)(M2:F2!)(M3:MU!):Hc! Ix (DS! P0):=by
 have G2:Lj!:=LD!;have G3:DV! 2 f3 jx AK! (Uv C NNr):=Ye M3.fn T M1;refine k? Jm3;obtain⟨p,a,b,G,ta,tb,rfl,S,ha,hb,k⟩:=h;refine I!;have hu:=k!;have IB:Ev:=EQ;obtain⟨dx,hp⟩:=S.ob;refine CH! (PG! T.cl M2.mt G2 M2.bd) (Ad (A4 (As (pl:=_) i! T.cl M3.mt G3 hr M3.bd L? Bs CV!)) (Af (Lo! Do R! Fr! (Fz! T.cMI))));refine Md! a ta ha;rcases k with⟨h,k⟩|⟨h,h2,k⟩|⟨h,h2,ad,hl,US,k⟩;.exact HR! h
 .refine Mg! h a ta ha (HR! h2)
 .obtain⟨g1,g2,g3⟩:=N9 S ha US;refine Mg! h a ta ha (Sc h2 ?_);refine⟨_,rfl,_,rfl,p,C,dx,_,_,rfl,hp,T.cl,T.nL,Ey G,_,rfl,G.l,_,rfl,g1,ad,_,rfl,Gf g2 hb,_,rfl,?_⟩;rcases k with⟨h3,k⟩|⟨h3,k⟩;(.rw[AB h3];exact Cc k);.rw[AE h3];exact Bx k
universe E
universe S
def Done(C:Addr)(p:Addr)(G:BZ)(H:Hp)(G':BZ)(k:Hp->Prop):Prop:=∀H',Eo! G'->Hd!->k H'
inductive Uy(C NHd NNr:Addr)(vs:B!)(H:Hp)(Q:VK)(E:XK):Prop
 | mk (p a b:Addr) (G:BZ) (ta tb:T2) (_:LH!) (_:v!) (_:KT!) (_:KM) (_:O6! (¬(De!/\AR!)) ((De!/\AR!/\ta.1≠G.BP/\NN! NNr)\/(De!/\AR!/\ta.1=G.BP/\∃(ad:Addr)(hl:A!),HW! (q.1=ta) (ta,ad,hl)/\hl.length<=500/\ga { G with BC:=PP,holds:=Jr G.holds ad HX! })))
inductive U0(C NHd NNr MI:Addr)(vs:B!)(H:Hp)(Q:VK)(E:XK):Prop
 | mk (p a b:Addr) (G:BZ) (ta tb:T2) (_:LH!) (_:v!) (_:KT!) (_:KM) (_:Xd G ta tb (λad hl=>ga { G with BC:=PP,holds:=Jr G.holds ad Hs! }) (BJ! NHd) (BJ! NNr) (BJ! MI))
inductive Ur(C NHd NNr MI:Addr)(vs:B!)(H:Hp)(Q:VK)(E:XK):Prop
 | mk (p a b:Addr) (G:BZ) (ta tb:T2) (_:LH!) (_:v!) (_:KT!) (_:KM) (_:Gz!) (_:Xd G ta tb (λ_ _=>ga { G with BC:=PP,hand:=BV! }) (BJ! NHd) (BJ! NNr) (BJ! MI))
inductive Uz(C NHd:Addr)(vs:B!)(H:Hp)(Q:VK)(E:XK):Prop
 | mk (p b:Addr) (G:BZ) (tb:T2) (_:Da! Df!) (_:v!) (_:KM) (_:O6! (tb∉G.hand) (AR!/\ga { G with BC:=PP,hand:=HT! }))
theorem Fm(hd:d∈j?)(hf:BM G1=BM G)(e:H1=upd H d o)(S1:x? H1 G1)(D:N1! { G1 with BC:=G1.BC+1 } k) : k (upd H1 p (Iz! (Cp { G1 with BC:=G1.BC+1 }))):=by refine D _ (S1.fld dx G1.AO (G1.BC+1)) λb o' e1 h1 h2=>?_;rw[Ab h1,e,Ab (λz=>h2 (NQ! hd))];exact e1
theorem scH:K4! pT:={}
theorem Tl(h:q∈G.holds):l!∈j?:=by unfold BM;exact ZD _ (ZD _ (ZD _ (ZD _ (BJ h))))
theorem Ji3(F:E! V? "House.hold" pT)(T:N!)(M1:DU!)(M2:F2!)(M3:MU!):Hc! Ix (Uy C NHd NNr):=by
 have G2:Lj!:=LD!;have G3:DV! 2 f3 jx AK! (Uv C NNr):=Ye M3.fn T M1;refine k? scH;obtain⟨p,a,b,G,ta,tb,rfl,S,ha,hb,k⟩:=h;refine I!;have hu:=k!;have IB:Ev:=EQ;obtain⟨dx,hp⟩:=S.ob;refine CH! (PG! T.cl M2.mt G2 M2.bd) (Ad (A4 (K5! i! T.cl M2.mt G2 M2.bd HG!)) (Ad (A4 (As (pl:=_) i! T.cl M3.mt G3 hr M3.bd L? Bs CV!)) (JC! Fr! R! Fx (Af NE))));refine Md! a ta ha;by_cases h1:De!;.refine Mg! h1 b tb hb ?_;by_cases h2:AR!;(.refine Mg! h2 a ta ha ?_;rcases k with⟨h,k⟩|⟨_,_,h,k⟩|⟨_,_,h,ad,hl,US,z,k⟩;(.exact absurd ⟨h1,h2⟩ h);(.exact HR! h);.obtain⟨g1,g2,g3⟩:=N9 S ha US;refine K! ⟨h,_,rfl,p,C,dx,_,_,rfl,hp,T.cl,T.nL,Ey G,_,rfl,G.l,_,rfl,g1,_,rfl,ad,_,rfl,CC! g2,?_⟩;rw[E7];have S1:x? (BQ! ad A9 HX!) (LJ! HX!):=S.WS g3 HX!;obtain⟨FJ,ID⟩:=S1.ob;refine CK!;rw[Bo];exact Fm (G1:=LJ! HX!) (Tl g3) (by unfold BM;rw[P3]) rfl S1 k);.rcases k with⟨h,k⟩|⟨_,h,_⟩|⟨_,h,_⟩;(.exact HR! h2);(.exact Ex! h2);.exact Ex! h2
 .rcases k with⟨h,k⟩|⟨h,_⟩|⟨h,_⟩;(.exact HR! h1);(.exact Ex! h1);.exact Ex! h1
theorem scD:K4! p6:={}
theorem Ji6(F:E! "drop" "House.drop" p6)(T:N!)(M1:DU!)(M2:F2!)(M3:MU!)(M4:DN K C "need_holding" "House.need_holding" Mb Ix f4 sR) : O3! Ix (DS! U0):=by
 have G4:DV! 3 f4 sR Ix (DS! P0):=Sn M4.fn T M1 M2 M3;refine k? scD;obtain⟨p,a,b,G,ta,tb,rfl,S,ha,hb,k⟩:=h;refine I!;have hu:=k!;obtain⟨dx,hp⟩:=S.ob;refine CH! (Ii! i! T.cl M4.mt G4 hr M4.bd J6!) (Ad (A4 (Gq hu Fr! R! sw)) (Af NE));refine⟨_,rfl,p,dx,_,rfl,hp,z!,_,rfl,_,rfl,p,a,b,G,ta,tb,rfl,S,ha,hb,?_⟩;rcases k with k|k|⟨h1,h2,ad,hl,US,k⟩;.exact T0
 .exact Ab! k
 .refine Af! ⟨h1,h2,ad,hl,US,?_⟩;rcases k with k|⟨h3,k⟩;(.exact T0);.obtain⟨g1,g2,g3⟩:=N9 S ha US;refine D! ⟨h3,_,rfl,p,C,dx,_,_,rfl,hp,T.cl,T.nL,Ey G,_,rfl,G.l,_,rfl,g1,ad,rfl,Ck! g2,_,rfl,_,tk tb,_,b,g2,rfl,hb,(W? Hk (AE h3)),?_⟩;rw[Gu (k:=λq:T2=>q) (f:=G0!)];have S1:x? (BQ! ad A9 Hs!) (LJ! Hs!):=S.WS g3 Hs!;obtain⟨FJ,ID⟩:=S1.ob;refine CK!;rw[Bo];exact Fm (G1:=LJ! Hs!) (Tl g3) (by unfold BM;rw[P3]) rfl S1 k
theorem Jov:K4! pZ:={}
theorem Jiw(F:E! "take" "House.take" pZ)(T:N!)(M1:DU!)(M2:F2!)(M3:MU!)(M4:DN K C "need_holding" "House.need_holding" Mb Ix f4 sR) : O3! Ix (DS! Ur):=by
 have G4:DV! 3 f4 sR Ix (DS! P0):=Sn M4.fn T M1 M2 M3;refine k? Jov;obtain⟨p,a,b,G,ta,tb,rfl,S,ha,hb,z,k⟩:=h;refine I!;have hu:=k!;obtain⟨dx,hp⟩:=S.ob;refine CH! (Ii! i! T.cl M4.mt G4 hr M4.bd J6!) (PM! R! Fx (Af NE));refine⟨_,rfl,p,dx,_,rfl,hp,z!,_,rfl,_,rfl,p,a,b,G,ta,tb,rfl,S,ha,hb,?_⟩;rcases k with k|k|⟨h1,h2,ad,hl,US,k⟩;.exact T0
 .exact Ab! k
 .refine Af! ⟨h1,h2,ad,hl,US,?_⟩;rcases k with k|⟨h3,k⟩;(.exact T0);.refine D! ⟨h3,_,rfl,p,C,dx,_,_,rfl,hp,T.cl,T.nH,Ge G,_,rfl,G.h,_,rfl,CC! S.dh,?_⟩;rw[E7];have S1:x? DG! AU!:=S.OD Ix!;obtain⟨FJ,ID⟩:=S1.ob;refine CK!;rw[Bo];exact IZ! AU!
theorem qN:G? BA! BA! pS:={}
theorem Ji4(F:E! "free" "House.free" pS)(T:N!)(M2:F2!) : O2! BA! (Uz C NHd):=by
 have G2:Lj!:=LD!;refine k? qN;obtain⟨p,b,G,tb,rfl,S,hb,k⟩:=h;refine I!;have hu:=k!;obtain⟨dx,hp⟩:=S.ob;refine CH! (Po! T.cl M2.mt G2 hr M2.bd) (Ad (A4 (P1! U!)) (Af NE));refine Md! b tb hb;rcases k with k|⟨h,k⟩;.exact D! k
 .refine K! ⟨h,_,rfl,p,C,dx,_,_,rfl,hp,T.cl,T.nH,Ge G,G.h,rfl,Ck! S.dh,_,rfl,_,tk tb,_,b,S.dh,rfl,hb,(W? Hk (AE h)),?_⟩;rw[Gu (k:=λq:T2=>q) (f:=G0!)];have S1:x? (BQ! G.h A9 (Ff G.hand tb)) (I2! HT!):=S.OD (Ff G.hand tb);obtain⟨FJ,ID⟩:=S1.ob;refine CK!;rw[Bo];exact IZ! (I2! HT!)
universe E
universe S
def Ig(n:Int):Int:=CO! (n=1) 1 (n / 2)
inductive Xo(vs:B!)(H:Hp)(Q:VK)(E:XK):Prop
 | mk (n:Int) (_:vs=[Er!]) (_:∀p,C0!->Q (X? p) (BQ! p .A_ [J? (n-Ig n),J? (Ig n)]))
theorem wx:G? [I3!,"goes"] Gt! L9:={}
theorem Jds(F:E! "parted" "parted" L9):GE! 1 Gt! Xo:=by
 refine W! wx;obtain⟨n,rfl,k⟩:=h;refine I!;refine Em! (Bh (JM! i! Ag) (Af (Ay (Cf (HH! Ag Ag)))) A3) (Av! 1 wx.nd (Bf Gd i! Ag) (Af (Ay (Cf (Aa (Bf Vr i! U!) CV!)))));refine⟨_,rfl,rfl,_,rfl,?_⟩;refine Wo (λc1=>?_) (λc1=>?_);.have c1:n=1:=V.int.inj (BR c1);subst c1;exact⟨I6! Pp!,λp hp=>k p hp⟩
 ·(have c1:¬n=1:=λz=>by rw[z] at c1;simp at c1);refine⟨_,rfl,_,_,rfl,rfl,⟨sB,sB⟩,?_⟩;refine⟨_,rfl,_,rfl,_,_,rfl,rfl,_,rfl,(I6! Pp!),λp hp=>?_⟩;have:=k p hp;unfold Ig at this;rw[AB c1] at this;exact this
structure QQ(K:W.Frag)(mg:Fu!)(x:Str)(st:Stmt)(ps:List Str)(f:Addr)(fd:FuncData):Prop where
 fn:E! x x st
 bd:IQ! fd ps
 mg:K0! x f
def O4(l:J!)(t:T2):Int:=(J5! CN!).getD 0
inductive Jbk(C NW:Addr)(vs:B!)(H:Hp)(Q:VK)(E:XK):Prop
 | mk (p b:Addr) (G:BZ) (tb:T2) (wt:Int) (_:Da! Df!) (_:v!) (_:KM) (_:Pc! G.AI.find? wt) (_:Cp!) (_:Pn! (wt=0) NW (wt≠0/\N1! (HF! (Lb! (wt-Ig wt))) (Q (J? (Ig wt)))))
theorem Jb(hd:FT! C6)(ht:cr):O7! t ((l.find? (Op A8!)).map λq=>DW!):=Bt! H1! LM!
theorem gE:G? [FB,"b",I3!,"halves"] BA! Vf:={}
theorem Jgc(F:E! "part_record" "House.part_record" Vf)(T:N!)(MP:QQ K mg "parted" L9 Gt! fP yh):O2! BA! (Jbk C NW):=by
 have GP:Iq! fP yh Gt! Xo:=FX.ET.UY (Jds MP.fn);refine k? gE;obtain⟨p,b,G,tb,wt,rfl,S,hb,US,z,k⟩:=h;refine I!;have hu:=k!;obtain⟨dx,hp⟩:=S.ob;have g1:LI! G.r wt:=Bt! (Jb S.dr hb) US
 refine PW! gE.nd Fr! (Ad (Bh (JM! R! Ag) (Af (Fz! T.cNW)) A3) (B5! gE.nd (Ce GP hr ut MP.mg MP.fn.kp MP.bd L? Bs HG!) (Hz! (CT! U?) (SL (CT! U?)))));refine Fv! dx hp T.nR (Dj G) G.r g1;refine⟨_,rfl,rfl,_,rfl,?_⟩;rcases k with⟨h,k⟩|⟨h,k⟩;.rw[AI! (g? (Y? wt=V.int 0)=true) (OB! (by rw[h]))];exact Cc k
 .rw[AI! (g? (Y? wt=V.int 0)=false) (A3! (λe=>h (V.int.inj e)))];refine AC!;refine⟨_,rfl,wt,rfl,Br!⟩;have s1:=Ay! MG! ht;have S1:=A4! s1;have t1:HC! (BQ! t .A_ MG!) t MG!:=Ac;have b1:=C! s1 hb;generalize O? H t .A_ MG!=H1 at s1 S1 t1 b1;obtain⟨FJ,ID⟩:=S1.ob;refine⟨_,rfl,t,_,0,_,rfl,rfl,BR! t1,rfl,_,rfl,p,C,FJ,_,_,rfl,ID,T.cl,T.nR,Dj G,_,rfl,G.r,_,rfl,O9! S1.dr b1 JF!,?_⟩;rw[Ex];have S2:x? (E? H1 G.r C6 (Bj G.AI tb (wt-Ig wt))) (HF! (Lb! (wt-Ig wt))):=S1.SX _;have tr:t≠G.r:=λe=>(S1.tup_ne t1).2 (by rw[e];simp[BM]);refine FZ! t _ 1 rfl (CS.of (Q! tr t1));refine Mo! S2 ?_;rw[Ab Fx!];exact C! s1 e
universe E
universe S
inductive Z3(C:Addr)(vs:B!)(H:Hp)(Q:VK)(E:XK):Prop
 | mk (p b:Addr) (G:BZ) (tb:T2) (wt:Int) (_:Kc!) (_:v!) (_:KM) (_:Cp!) (_:ga (HF! Ht!))
theorem Jo9:K3! Xv:={}
theorem Jca(F:E! "add_to_record" "House.add_to_record" Xv)(T:N!):Bd! As! Z3:=by
 refine W! Jo9;obtain⟨p,b,G,tb,wt,rfl,S,hb,z,k⟩:=h;refine I!;have hu:=k!;obtain⟨dx,hp⟩:=S.ob;refine GM (Af (Cd hu d! U! (Bf Fc (Hx hu d! U! Ag sw) R!) rfl));have ei:((G.AI.find? (Op GB!)).map λq=>DW!).getD (V.int 0)=V.int (O4 G.AI tb):=by unfold O4;cases Db! G.AI.find? GB!<;>rfl
 refine⟨_,rfl,p,C,dx,_,_,rfl,hp,T.cl,T.nR,Dj G,G.r,rfl,Ck! S.dr,_,rfl,_,Jb S.dr hb,?_⟩;rw[ei];refine⟨_,rfl,_,_,rfl,rfl,_,rfl,p,C,dx,_,_,rfl,hp,T.cl,T.nR,Dj G,_,rfl,G.r,_,rfl,CC! S.dr,?_⟩;rw[Ex];refine Mo! (S.SX _) ?_;rw[Ab Fx!];exact e
inductive U3(C:Addr)(vs:B!)(H:Hp)(Q:VK)(E:XK):Prop
 | mk (p b:Addr) (G:BZ) (tb:T2) (wt:Int) (_:Kc!) (_:v!) (_:KM) (_:Cp!) (_:ga (G1! Ht!))
theorem Jo8:K3! Vm:={}
theorem Jgi(F:E! "added" "House.added" Vm)(T:N!)(M5:OW! "add_to_record" "House.add_to_record" Xv f5 sQ):LP! As! U3:=by have G5:AN! f5 sQ As! Z3:=Jca M5.fn T;refine W! Jo8;obtain⟨p,b,G,tb,wt,rfl,S,hb,z,k⟩:=h;refine I!;obtain⟨dx,hp⟩:=S.ob;refine CH! (H3! T.cl M5.mt G5 M5.bd J6!) (Af NE);refine Ma! p dx hp z! p G S hb z EP!;obtain⟨FJ,ID⟩:=S1.ob;refine CK!;rw[Bo];exact KE! S1.fld FJ LQ
inductive Z2(C:Addr)(vs:B!)(H:Hp)(Q:VK)(E:XK):Prop
 | mk (p b:Addr) (G:BZ) (tb:T2) (wt:Int) (_:Kc!) (_:v!) (_:KM) (_:Gz!) (_:Ct!) (_:Cp!) (_:((Gs!/\∃o,LW!/\ga (Nt! BV! (Dj! (o-wt))))\/(Bo!/\ga { G with BC:=PP,hand:=BV!,AI:=Ht! })))
theorem scC:K3! p5:={}
theorem Ji8(F:E! "came" "House.came" p5)(T:N!)(M1:DU!)(M5:OW! "add_to_record" "House.add_to_record" Xv f5 sQ) : LP! As! Z2:=by
 have G1:AN! f1 bo AK! Uw:=Vt M1.fn T;have G5:AN! f5 sQ As! Z3:=Jca M5.fn T;refine W! scC;obtain⟨p,b,G,tb,wt,rfl,S,hb,z1,z2,z3,k⟩:=h;refine I!;have hu:=k!;obtain⟨dx,hp⟩:=S.ob;refine OA! (Cd hu d! U! Fx rfl) (Ad (Bh (Hg (Jb! i! M1.mt G1 M1.bd CV!)) (Af (In! R! Jgt)) (ap (H3! T.cl M5.mt G5 M5.bd J6!))) (Af NE));refine Fv! dx hp T.nH (Ge G) G.h (CC! S.dh);rw[E7];have S1:x? DG! AU!:=S.OD Ix!;have LQ:Aw! DG!:=λb' o e h1 h2=>Dd! Fx!
 have b1:=Pd! LQ hb hb hb;rw[Jp! ((HO.dT ((Bn G.hand tb).map WP))=A9 Ix!)];generalize DG!=H1 at S1 LQ b1;obtain⟨FJ,ID⟩:=S1.ob;refine MW! p FJ ID p b1;rcases k with⟨h,o,US,k⟩|⟨h,k⟩;.rw[AI! (Au! tb.1 (AU!:BZ).BP=true) Eh!];refine Aa!;(have g1:DQ H1 G.o (X? b) (some (V.int o)):=Bn! (Jb S1.dO b1) (Jp! ((AU!:BZ).AH=G.AH)) US);refine⟨_,rfl,p,C,FJ,_,_,rfl,ID,T.cl,T.nO,Dl _,_,rfl,G.o,_,rfl,g1,_,rfl,_,_,rfl,rfl,_,O9! S1.dO b1 (FL! (G.AH.length<=1000)),?_⟩;rw[Ex];have S2:=S1.KS (C6! (o-wt));(have JU:Aw! (NB! H1 (C6! (o-wt))):=λb' o' e h1 h2=>Kd! Fx! LQ);obtain⟨JB,GQ⟩:=S2.ob;refine Dh! JB GQ JB GQ;rw[Bo];exact KE! S2.fld JB JU
 .rw[AI! (Au! tb.1 (AU!:BZ).BP=false) HD!];refine AC!;refine Ma! p FJ ID (Cq _ ZV) p _ S1 b1 z3 (λH2 S2 JU=>?_);obtain⟨JB,GQ⟩:=S2.ob;refine Dh! JB GQ JB GQ;rw[Bo];exact Mo! (S2.fld JB G.AO (PP)) (Q! h1 (Iy! JU (LQ _ _ e h1 h2)))
inductive Zy(C NHd NW:Addr)(vs:B!)(H:Hp)(Q:VK)(E:XK):Prop
 | mk (p b:Addr) (G:BZ) (tb:T2) (sh:Int) (_:vs=[Os,Df!,y! sh]) (_:v!) (_:KM) (_:Ct!) (_:Cp!) (_:O6! (tb∉G.hand) ((AR!/\Gs!/\∃o,LW!/\N1! (Nu! (Dj! (o+sh))) (Q (J? sh)))\/(AR!/\Bo!/\∃wt,Pc! G.AI.find? wt/\Pn! (wt=0) NW (wt≠0/\N1! (G1! (Lb! (wt-Ig wt))) (Q (J? (Ig wt)))))))
theorem gD:G? [FB,"b",Do!,"goes"] Og! pX:={}
theorem Jiz(F:E! "part" "House.part" pX)(T:N!)(M1:DU!)(M2:F2!)(M6:DN K C "part_record" "House.part_record" Vf BA! f6 fd6)(MP:QQ K mg "parted" L9 Gt! fP yh) : Hc! Og! (Zy C NHd NW):=by
 have G1:Mj! f1 bo (Uw C):=FX.ET.UY (Vt M1.fn T);have G2:Lj!:=LD!;have G6:DV! 2 f6 fd6 BA! (Jbk C NW):=Jgc M6.fn T MP;refine k? gD;obtain⟨p,b,G,tb,sh,rfl,S,hb,z1,z2,k⟩:=h;refine I!;have hu:=k!;have IB:Ev:=EQ;obtain⟨dx,hp⟩:=S.ob;refine CH! (PG! T.cl M2.mt G2 M2.bd) (Ad (Bh (Hg (K5! i! T.cl M1.mt G1 M1.bd CV!)) (Ad (In! R! Ek) (Af (M9! 3 gD.nd R!))) (Af (M9! 3 gD.nd (Po! T.cl M6.mt G6 hr M6.bd)))) (Ad NE (SL U?)));refine Md! b tb hb;rcases k with k|⟨h1,h2,o,US,k⟩|⟨h1,h2,wt,US,k⟩;.exact D! k
 .refine K! ⟨h1,_,rfl,p,dx,_,rfl,hp,z!,_,rfl,p,b,G,tb,rfl,S,hb,_,rfl,?_⟩;rw[Bl! h2];refine Aa!;(have g1:LI! G.o o:=Bt! (Jb S.dO hb) US);refine⟨_,rfl,p,C,dx,_,_,rfl,hp,T.cl,T.nO,Dl _,_,rfl,G.o,_,rfl,g1,_,rfl,_,_,rfl,rfl,_,CC! S.dO,?_⟩;rw[Ex];have S1:OS! G.o C6 (C6! (o+sh)) (EL! (o+sh)):=S.KS _;obtain⟨FJ,ID⟩:=S1.ob;refine⟨_,rfl,_,rfl,p,C,FJ,_,_,rfl,ID,T.cl,T.nT,Cw _,_,_,rfl,rfl,FJ,_,ID,El _,?_⟩;rw[Bo];refine GM rfl;exact IZ! (EL! (o+sh))
 .refine K! ⟨h1,_,rfl,p,dx,_,rfl,hp,z!,_,rfl,p,b,G,tb,rfl,S,hb,_,rfl,?_⟩;rw[A3! h2];refine AC!;refine⟨_,rfl,p,dx,_,rfl,hp,z!,_,rfl,p,b,G,tb,wt,rfl,S,hb,US,z2,?_⟩;rcases k with k|⟨h3,k⟩;(.exact T0);.refine P? h3 EP!;obtain⟨FJ,ID⟩:=S1.ob;refine CK!;rw[Bo];exact wE (KE! S1.fld FJ LQ)
universe E
inductive NN(C:Addr)(vs:B!)(H:Hp)(Q:VK)(E:XK):Prop
 | mk (p dx:Addr) (n:Int) (_:Da! Er!) (_:G9! (Iz! [])) (_:∀(h o l r:Addr)(H':Hp),H h=none->T? o->T? l->T? r->Eo! ⟨n,0,0,h,o,l,r,[],[],[],[]⟩->NF! H'->GT!)
inductive Ux(C:Addr)(vs:B!)(H:Hp)(Q:VK)(E:XK):Prop
 | mk (p:Addr) (G:BZ) (_:B6!) (_:v!) (_:Gz!) (_:Ct!) (_:G.holds.length<=500) (_:(Cl! (t≠m?))) (_:(∀q∈G.AH,Kl!)) (_:(Ga! Kl!)) (_:∀(t a:Addr)(H':Hp),H t=none->T? a->L! H' t (.A_ (tv m?))->Eo! { G with AO:=AO!,BC:=PP,hand:=Dt!,AH:=C3!,holds:=CD! }->Hd!->F6! t)
inductive Zx(C:Addr)(vs:B!)(H:Hp)(Q:VK)(E:XK):Prop
 | mk (p:Addr) (G:BZ) (_:B6!) (_:v!) (_:Q (J? G.BC) H)
inductive PY(H:Hp)(v:V)(r:Dc!):Prop
 | mk (a t hd:Addr) (cs:M!) (_:v=Ch!) (_:JQ! [O! t,y! KB,O! hd]) (_:Pm! r.1) (_:AJ! hd (I7! cs.map)) (_:AZ H cs Go)
theorem PY.keep(x:PY H v r)(k:AE!):PY H' v r:=by obtain⟨a,t,hd,cs,e,e1,e2,e3,e4⟩:=x;exact⟨a,t,hd,cs,e,Gg! e1,Ho!,Gg! e3,ww k e4⟩
inductive mU(H:Hp)(x:Addr)(hs:A!)(os:xz)(rs:J!):Prop
 | mk (y1 y2 y3:Addr) (as:M!) (bs:B!) (ds:M!) (_:GS! x [O! y1,O! y2,O! y3]) (_:KP! y1) (_:AZ H as hs) (_:GS! y2 bs) (_:Paired (PY H) bs os) (_:(∃ob,AJ! y3 (.GV ob (I7! ds.map))/\Jhs ob)) (_:Paired (RecAt H) ds rs)
inductive Zw(C:Addr)(K:W.Frag)(vs:B!)(H:Hp)(Q:VK)(E:XK):Prop
 | mk (p t:Addr) (G:BZ) (th:T2) (w:Int) (a:Addr) (hl hs:A!) (_:BE!) (_:v!) (_:cr) (_:PE! G.AH.find? A8! th w) (_:HW! A8! JL!) (_:Nv!) (_:hs.Perm hl) (_:Ok!) (_:KK! (bv->PY H' (X? x) (th,w,hs)->Az!))
structure Rows(G:BZ)(os:xz):Prop where
 pm:(os.map T!).Perm (G.AH.map T!)
 pw:(os.map T!).Pairwise JT
 at_:∀q∈os,G7! G.AH.find? (q.1,l!)/\∃a hl,G7! G.holds.find? (q.1,a,hl)/\Nv!/\q.2.2.Perm hl/\q.2.2.Pairwise JT
inductive L1(C:Addr)(K:W.Frag)(vs:B!)(H:Hp)(Q:VK)(E:XK):Prop
 | mk (p:Addr) (G:BZ) (hs:A!) (os:xz) (rs:J!) (_:B6!) (_:v!) (_:G.hand.length<64) (_:G.AH.length<64) (_:G.AI.length<64) (_:hs.Perm G.hand) (_:Ok!) (_:Rows G os) (_:AF!) (_:CB!) (_:KK! (bv->mU H' x hs os rs->Az!))
universe S
theorem scI:G? HB! HB! pU:={}
theorem TB(F:E! GK! "House.__init__" pU)(T:N!):Bd! HB! NN:=by
 refine W! scI;obtain⟨p,dx,n,rfl,hp,k⟩:=h;refine I!;refine Em! (JT! U!) (Ad (Dx i! Ag rfl) (Ad (Dx i! Ag rfl) (Ad JD! (Ad JD! (Ad JD! (Af JD!))))));refine⟨_,rfl,_,rfl,p,C,dx,[],rfl,hp,T.cl,T.nN,CX! (0<1000),?_⟩;refine Pb! Ac T.nM (CX! (1<1000));rw[Ua];refine Pb! Ac T.nT (by rw[E6,Cm Hi,E6];show 2<1000;decide);rw[Ua];have step:∀{H1:Hp} {d:Addr} {fs:List (Str×V)} {o:HO},HZ! H1 fs->NF! H1->H1 d=none->HZ! (upd H1 d o) fs/\NF! (upd H1 d o)/\d≠p/\T? d:=λ{H1 d fs o} e1 e2 e3=>by have qe:p≠d:=Aj e1 e3;refine⟨Q! qe e1,λb u e hb=>Q! (Aj (e2 b u e hb) e3) (e2 b u e hb),qe.symm,?_⟩;cases q:H d with | none=>rfl | some u=>rw[e2 d u q qe.symm] at e3;cases e3
 have a0:Pg! (upd H p (Iz! L0!)):=λb u e hb=>E6!
 intro d1 h1;obtain⟨b1,b2,b3,b4⟩:=MJ! a0 h1;refine Jm! b1 T.nH;.have:=LR!;have:=LQ!;have:=Ln!;simp only[CA] at *;lia
 have c0:∀{H1:Hp} {fs:List (Str×V)},(Pg! H1)->Pg! (upd H1 p (Iz! fs)):=λe b u e1 hb=>OP! (e b u e1 hb)
 intro d2 h2;obtain⟨b5,b6,b7,b8⟩:=MJ! (c0 b2) h2;refine Jm! b5 T.nO;.have:=Ac! BK! d1 L0!;have:=LR!;have:=LQ!;have:=Ln!;simp only[CA] at *;lia
 intro d3 h3;obtain⟨b9,fY,tO,b12⟩:=MJ! (c0 b6) h3;refine Jm! b9 T.nL;.have:=Ac! D7! d2 (Au BK! (X? d1) (Au GZ! (J? 0) PC!));have:=Ac! BK! d1 L0!;have:=LR!;have:=LQ!;have:=Ln!;simp only[CA] at *;lia
 intro d4 h4;obtain⟨b13,b14,b15,b16⟩:=MJ! (c0 fY) h4;refine Jm! b13 T.nR;.have:=Ac! D6! d3 (Au D7! (X? d2) (Au BK! (X? d1) (Au GZ! (J? 0) PC!)));have:=Ac! D7! d2 (Au BK! (X? d1) (Au GZ! (J? 0) PC!));have:=Ac! BK! d1 L0!;have:=LR!;have:=LQ!;have:=Ln!;simp only[CA] at *;lia
 have bN:d1≠d2:=λz=>by rw[<-z,AW!,Ac] at h2;cases h2
 have eO:d1≠d3:=λz=>by rw[<-z,AW!,Ab bN,AW!,Ac] at h3;cases h3
 have eJ:d2≠d3:=λz=>by rw[<-z,Ab b7,Ac] at h3;cases h3
 have xb:d1≠d4:=λz=>by rw[<-z,AW!,Ab eO,AW!,Ab bN,AW!,Ac] at h4;cases h4
 have xa:d2≠d4:=λz=>by rw[<-z,Ab b7,Ab eJ,Ab b7,Ac] at h4;cases h4
 have xY:d3≠d4:=λz=>by rw[<-z,Ab tO,Ac] at h4;cases h4
 refine k d1 d2 d3 d4 _ b4 b8 b12 b16 ⟨Ce! ?_,?_,?_,?_,?_,R? (by simp at hq),?_⟩ (c0 b14);.rw[Ac,<-Jl1]
 .rw[AW!,Ab xb,AW!,Ab eO,AW!,Ab bN,AW!,Ac];rfl
 .rw[Ab b7,Ab xa,Ab b7,Ab eJ,Ab b7,Ac];rfl
 .rw[Ab tO,Ab xY,Ab tO,Ac];rfl
 .rw[Ab b15,Ac];rfl
 .simp[BM,bN,eO,xb,eJ,xa,xY]
theorem wy:Mb! AK! pW:={}
theorem Ji0(F:E! "make" "House.make" pW)(T:N!):Hf! Ux:=by
 refine W! wy;obtain⟨p,G,rfl,S,z1,z2,z3,f1,f2,f3,k⟩:=h;refine I!;have hu:=k!;refine JB! wy.nd (Cf (Aa d! ci)) (Ad NE (Hz! Ag (Hz! Dm (Hz! Fx (FG! NE U!)))));obtain⟨dx,hp⟩:=S.ob;refine⟨_,rfl,p,C,dx,_,_,rfl,hp,T.cl,T.nN,Te G,_,rfl,p,C,dx,_,_,rfl,hp,T.cl,T.nM,Jco G,BD!,Br!⟩;have s1:=Ay! [Y? G.BP,Y? G.AO] ht;have S1:=A4! s1;have t1:L! (BQ! t .A_ [Y? G.BP,Y? G.AO]) t (.A_ (tv m?)):=Ac;generalize O? H t .A_ [Y? G.BP,Y? G.AO]=H1 at s1 S1 t1;obtain⟨FJ,ID⟩:=S1.ob;refine It! FJ ID T.nM (Jco G) _ rfl FJ _ ID (El G) ?_;rw[Yy];have S2:=S1.fld FJ (AO!) G.BC;have JU:E8! H1 (b≠p) (upd H1 p (D1! FJ Nw!)):=A2! E6!
 have tp:=S1.tup_ne t1;have t2:=JU _ _ t1 tp.1;have S2:x? (upd H1 p (D1! FJ Nw!)) Nw!:=S2;generalize upd H1 p (D1! FJ Nw!)=H2 at S2 JU t2;obtain⟨JB,GQ⟩:=S2.ob;refine Fv! JB GQ T.nO (Dl _) G.o (F7! m? S2.dO t2 (FL! (G.AH.length<=1000)));have e3:putK (G.AH.map Ks!) (tk m?) (V.int 0)=(C3!).map Ks!:=EG! (LG! Gv _ f2)
 have S3:=S2.KS (C3!);unfold C6 at S3;rw[<-e3] at S3;have qF:=S2.tup_ne t2;have NJ:E8! H2 (b∉j?) (E? H2 G.o .dT (Fy! G.AH.map Ks! (V.int 0))):=A2! (PN! hb EO! e)
 have t3:=NJ _ _ t2 qF.2;generalize E? H2 G.o .dT (Fy! G.AH.map Ks! (V.int 0))=H3 at S3 NJ t3;intro a ha;have s4:=Hk! ha;have S4:=S3.same s4;have a4:Dg! (E? H3 a .dT []) a []:=Ac;have t4:=AB! t3;have af:a∉j?:=λm=>by obtain⟨kvs,e⟩:=S3.MQ (b:=a) (by have:BM { G with AO:=AO!,AH:=Pv! }=BM G:=rfl;rw[this];exact m);rw[ha] at e;cases e
 generalize Hj! H3 a=H4 at s4 S4 a4 t4;obtain⟨VD,bS⟩:=S4.ob;refine Fv! VD bS T.nL (Ey _) G.l (F7! m? S4.dl t4 (FL! (G.holds.length<=1000)));have e5:J8! G.holds.map BX! (tk m?) a=(CD!).map BX!:=EG! (Pa! Gv _ f3)
 have S5:=S4.cQ m? a4 af;unfold Dz at S5;rw[<-e5] at S5;have VA:E8! H4 (b∉j?) (E? H4 G.l .dT (Fy! G.holds.map BX! (V.ref a))):=A2! (PN! hb EO! e)
 have t5:=VA _ _ t4 qF.2;generalize E? H4 G.l .dT (Fy! G.holds.map BX! (V.ref a))=H5 at S5 VA t5;obtain⟨bu,az⟩:=S5.ob;refine Fv! bu az T.nH (Ge _) G.h (F7! m? S5.dh t5 (FL! (G.hand.length<=1000)));have e6:putK (G.hand.map Kt!) (tk m?) (V.bl true)=(Dt!).map Kt!:=EG! (Gv (k:=λq:T2=>q) (f:=G0!) _ f1)
 have S6:=S5.OD (Dt!);unfold A9 at S6;rw[<-e6] at S6;have bc:E8! H5 (b∉j?) (E? H5 G.h .dT (Fy! G.hand.map Kt! (V.bl true))):=A2! (PN! hb EO! e)
 have t6:=bc _ _ t5 qF.2;generalize E? H5 G.h .dT (Fy! G.hand.map Kt! (V.bl true))=H6 at S6 bc t6;obtain⟨TQ,V_⟩:=S6.ob;refine Dh! TQ V_ TQ V_;rw[Bo];have S7:=S6.fld TQ (AO!) (PP);have ND:∀{b:Addr},H1 b=none->HP!:=λ{b} e=>Bw s1 e;have QN:Aw! (upd H6 p (D1! TQ { G with AO:=AO!,BC:=PP,AH:=C3!,holds:=CD!,hand:=Dt! })):=λb o e hb hf=>OP! (bc _ _ (VA _ _ (s4 _ _ (NJ _ _ (JU _ _ (s1 _ _ e) hb) hf)) hf) hf)
 refine wE (k t a _ ht ?_ (A5! tp.1 t6) S7 QN);cases q:H a with | none=>rfl | some u =>exfalso;(have nap:a≠p:=λz=>by rw[z,S3.ob.choose_spec] at ha;cases ha);have:L! H3 a u:=NJ _ _ (JU _ _ (s1 _ _ q) nap) af;rw[ha] at this;cases this
theorem scT:JY! pj:={}
theorem Jb8(F:E! "tick" "House.tick" pj)(T:N!):Hf! Zx:=by refine W! scT;obtain⟨p,G,rfl,S,k⟩:=h;refine I!;obtain⟨dx,hp⟩:=S.ob;exact⟨_,Af (Ay d!),⟨_,rfl,p,C,dx,_,_,rfl,hp,T.cl,T.nT,Cw G,k⟩⟩
universe E
theorem NK{a b c:Str}{k:NameKind}{cl:Eb!}{y:Str}(hc:JV!)(h:KG! .cell\/KG! .free):Fw!:=by grind
theorem Jdj(s:bv)(x:Paired (RecAt H) as rs):Paired (RecAt H') as rs:=Aq (λ_ _ h9=>by obtain⟨ka,e1,e2⟩:=h9;exact⟨ka,Cv! s,C! s e2⟩) x
universe S
theorem Jou:IP! pk:={}
theorem Mo(f:α->β)(l:B?):h! (l.map λt=>(t,f t)).map=l:=H! AL (KH l)
theorem Jiv(F:E! "told" "House.told" pk)(T:N!):GE! 1 AK! (Zw C K):=by
 refine W! Jou;obtain⟨p,t,G,th,wt,a,hl,hs,rfl,S,ht,f1,f2,WB,pm,pw,k⟩:=h;refine I!;have hu:=k!;obtain⟨dx,hp⟩:=S.ob;have g1:FO! G.o V.int wt:=Bn! (PQ! S.dO) LM! f1
 have g2:FO! G.l V.ref a:=Bn! (PQ! S.dl) IV! f2
 have g3:Oc! a hl:=S.hl _ (AJ f2);refine GM (Af (Ay (Cf (v? 1 (Aa Fr! (AQ! (D9 Eb ut T.tuple EG (AQ! (IH! (Aa Fr! Ae))))))))));refine⟨_,rfl,_,rfl,p,C,dx,_,_,rfl,hp,T.cl,T.nO,Dl G,_,rfl,G.o,_,rfl,g1,_,rfl,p,C,dx,_,_,rfl,hp,T.cl,T.nL,Ey G,_,rfl,G.l,_,rfl,g2,a,_,hs,rfl,Jcq g3,Pl! WB,S! Mo pm,pw,λr as hr ha=>?_⟩;refine⟨r,_,rfl,Ow! Ac (λx2 qx=>⟨CX! (pi 3),Cs!⟩)⟩;have s1:=DC! as.map hr;have s2:=sK (.A_ (as.map V.ref)) qx;have s3:=Ay! [x! t,Y? wt,x! x2] hx;have ss:=Al s1 (Al s2 s3);exact k x _ ss ⟨x,t,x2,as,rfl,Ac,C! ss ht,Ba! s3,Fg! ss ha⟩
theorem g7:Mb! [FB,BK!,"things",GY!] P6:={}
theorem Jf7{f fT:Addr}{fd sP:FuncData}(F:E! D4! "House.state" P6)(T:N!)(FT:E' K "told" "House.told" pk fT sP)(bT:IQ! sP AK!)(mT:kJ K C "told" fT) : GE! 2 p? (L1 C K):=by
 have GT:BO! 1 fT sP AK! (Zw C K):=Jiv FT T;refine W! g7;obtain⟨p,G,hs,os,rs,rfl,S,z1,z2,z3,pm,pw,R,pmr,pwr,k⟩:=h;refine I!;have IB:Ev:=EQ;obtain⟨dx,hp⟩:=S.ob;refine JB! g7.nd (Ll! Eb (IH! ci)) (Av! 2 g7.nd (Ll! Eb (Eo (caps:=Fm!) rfl (Eh (IH! ci)) rfl ZV rfl ZV rfl Dv! DD! D3! ZV NE! (DZ! (As U! T.cl mT GT IB bT L? Ba Cx!)))) (B5! g7.nd (Ll! Rg (Bi (Nj rfl (Jm hr)) ut T.sorted DT (AQ! (Le DI PySem.F.slot_dict_items PySem.F.type_dict_items Jgk d!)))) (Af (Ay (Cf (v? 1 LC!))))));refine It! dx hp T.nH (Ge G) G.h hs (Jcq S.dh) (Pl! z1) (S! Mo pm) pw (λr1 KR vT ha1=>⟨r1,_,rfl,Ow! Ac (λx1 qz=>?_)⟩);have s1:=DC! KR.map vT;have s2:=sK (.A_ (KR.map V.ref)) qz;have nv:=Al s1 s2;have S1:=A4! nv;have q1:L! (upd (Gf! H r1) x1 I8!) x1 I8!:=Ac;have lI:AZ (upd (Gf! H r1) x1 I8!) KR hs:=Fg! nv ha1;generalize upd (Gf! H r1) x1 I8!=H1 at nv S1 q1 lI;obtain⟨FJ,ID⟩:=S1.ob;have e0:((G.AH.map (El! DW!)).map T!)=G.AH.map T!:=c? AL
 refine It! FJ ID T.nO (Dl G) G.o (h! os.map) (Jgs S1.dO) (Pl! z2) (S! e0 R.pm) R.pw (λr2 UA LP YA=>⟨r2,rfl,PI! Ac,Bm!⟩);have s3:=DC! UA.map LP;have iO:Aq! (Ps! H1) r2 UA.map:=Ac;have S2:=S1.same s3;have wk:=Al nv s3;have lF:AZ (Ps! H1) UA (os.map T!):=Fg! s3 YA;have lH:AZ (Ps! H1) KR hs:=Fg! s3 lI;have xG:=C! s3 q1;generalize B2! H1 r2 UA.map=H2 at s3 iO S2 wk lF lH xG hq;have hlen:UA.length=os.length:=Bt! (A? YA) ZA
 have hos:os.length<64:=by have h1:=R.pm.length_eq;rw[ZA,ZA] at h1;lia
 refine Gj (K:=K) (a:=r2) (xs:=BU! UA.map) (tt:=Ku!) (te:=Ps C "told" (Zw C K) [] E0 (Ca 1) (D0 C2! Jq)) (caps:=Fm!) (σ:=[B0!,H? x1,none,none]) (λi ys H3=>CW! H3 q/\Bl H2 H3/\Paired (PY H3) ys (os.take i)) ⟨Ac,Ah hq,H! IT L?⟩ (λi ys H3 _ h=>NI! (h.2.1 _ _ iO) h.1) ?_ ?_;.rintro i x ys H3 N hx ⟨e3,s4,pr⟩ hN;refine Aa!;rw[ZH] at hx;cases bY:UA[i]? with | none=>rw[bY] at hx;cases hx | some ai =>rw[bY] at hx;cases hx;(have iF:i<os.length:=A7! hlen bY);obtain⟨qo,rO⟩:=An iF;have eth:=Az lF i ai qo.1 bY (EF! rO);obtain⟨f1,a,hl,f2,f3,f4,f5⟩:=R.at_ qo (ZP rO);have S3:=S2.same s4;obtain⟨PH,QM⟩:=S3.ob;refine⟨_,rfl,p,PH,_,rfl,QM,z!,_,rfl,p,ai,G,qo.1,qo.2.1,a,hl,qo.2.2,rfl,S3,AB! eth,f1,f2,f3,f4,f5,λx2 H5 s5 rep=>⟨C! s5 e3,?_,C! hN (BY! Ac Co!)⟩⟩;(.have:=A? pr;rw[this];exact Be (AV (List.length_take_le _ _) g!));(.have nb:b≠q:=Aj e hq;rw[Ab nb];exact JZ! s5);·(have kq:B_ H5 (E? H5 q .BE (ys++[x! x2])):=l? (C! s5 e3));(have et:os.take (i+1)=os.take i++[qo]:=SC DJ rO);rw[et];exact Gx (rep.keep kq) (Aq (λ_ _ r=>(r.keep (HC s5)).keep kq) pr)
 .rintro ys H3 ⟨e3,s4,pr⟩;rw[ZA,hlen,BS] at pr;refine⟨q,_,rfl,Ow! e3 (λx2 qx=>?_)⟩;have s5:=Ay! ys qx;have wj:=Al wk (Al s4 s5);have S4:=(S2.same s4).same s5;have q2:HC! (E? H3 x2 .A_ ys) x2 ys:=Ac;have xF:=F4! s5 s4 xG;have lG:AZ (E? H3 x2 .A_ ys) KR hs:=Aq (λ_ _ e=>JZ! s5) lH;have xK:Paired (PY (E? H3 x2 .A_ ys)) ys os:=Aq (λ_ _ r=>r.keep (HC s5)) pr;generalize O? H3 x2 .A_ ys=H4 at s5 wj S4 q2 xF lG xK;obtain⟨VD,bS⟩:=S4.ob;have tK:=S4.dr;refine⟨_,rfl,p,C,VD,_,_,rfl,bS,T.cl,T.nR,Dj G,(Y! (Y! (G! (S? (D! (w? tK)))))),G.r,_,rfl,rfl,tK,λv hv=>?_⟩;have s6:=sK (Wn v G.r) hv;refine⟨v,G.r,G.AI,rs,rfl,Ac,C! s6 tK,z3,pmr,pwr,λr3 as3 H7 s7 WZ e7 pr7=>⟨r3,_,rfl,DW.of e7,λx3 xR hx3 pl3=>?_⟩⟩;have s8:=sK (.GV xR (I7! as3.map)) hx3;refine⟨_,rfl,_,rfl,_,rfl,CX! (pi 3),Cs!⟩;have s9:=Ay! [x! x1,x! x2,x! x3] hx;have jD:=Al s6 (Al s7 (Al s8 s9));exact k x _ (Al wj jD) ⟨x1,x2,x3,KR,ys,as3,Ac,C! jD xF,Fg! jD lG,C! jD q2,Aq (λ_ _ r=>r.keep (HC jD)) xK,⟨xR,Ba! s9,pl3⟩,Jdj (Al s8 s9) pr7⟩
universe E
universe S
theorem gG:G? ["_law_script","_law_k","_law_number"] ["_law_script","_law_k"] Se:={}
inductive U2(K:W.Frag)(vs:B!)(H:Hp)(Q:VK)(E:XK):Prop
 | mk (a:Addr) (ns:At) (k:Int) (_:vs=[Ch!,y! k]) (_:DW K H a (ns.map V.int)) (_:ns.length<=63) (_:0<=k) (_:k<=1000) (_:∀v:Int,Q (J? v) H)
theorem Vu(F:E! "_law_cell" "_law_cell" Se)(hn:bn "len"):HJ! f fd ["_law_script","_law_k"] U2:=by
 refine W! gG;obtain⟨a,ns,k,rfl,hS,hl,h0,JOT,kk⟩:=h;refine I!;have hlen:wP ns.map V.int=ns.length:=ZA ..;have item:∀i:Int,0<=i->i<ns.length->∃v,QO (ns.map V.int) i=some (J? v):=λi a b=>by obtain⟨x,hx⟩:=Dk! ns i.toNat g!;exact⟨x,A8 a (EF! hx)⟩
 refine Em! (Bh (D2! Sl U! (L2! hn Cx!)) (SL (Aw Dg i! U!)) A3) (Av! 2 gG.nd (Bf Fc (Bf F6 U! Ag) Ag) (FG! (Bh (D2! Sm (L2! hn Cx!) Ag) (Af (M9! 2 gG.nd (Bf C0 (Bf Fc (Bf F6 (Aw Dg i! (Bf C0 (Bf F6 U! Ag) (L2! hn Cx!))) Ag) (Bf F6 U! Ag)) Ag))) A3) (Bf C0 (Bf F6 R! R!) Ag)));refine⟨_,rfl,_,rfl,a,_,rfl,K! hS,_,_,rfl,rfl,_,rfl,?_⟩;refine Wo (λc1=>?_) (λ_=>?_);.have c1:=BR c1;obtain⟨v,hv⟩:=item k h0 (by rw[hlen] at c1;exact c1);exact⟨_,rfl,_,rfl,a,_,_,_,rfl,rfl,hS,hv,kk v⟩
 .refine⟨_,rfl,_,_,rfl,rfl,KR!,_,_,rfl,rfl,?_⟩;refine⟨_,rfl,a,_,rfl,K! hS,_,_,rfl,rfl,_,rfl,?_⟩;refine Wo (λc2=>?_) (λ_=>?_);(.have c2:=BR c2;(have ZY:e? 0<e? ns.length:=by rw[hlen] at c2;exact c2);obtain⟨v,hv⟩:=item (k*7 % e? ns.length) (CV _ g!) (CJ _ ZY);refine⟨_,rfl,_,rfl,_,_,rfl,rfl,KR!,_,rfl,a,_,rfl,K! hS,_,_,rfl,rfl,S! hlen ZY,a,_,_,_,rfl,rfl,hS,S! hlen hv,_,_,rfl,rfl,KR!,_,rfl,_,_,rfl,rfl,KR!,_,_,rfl,rfl,_,_,rfl,rfl,(Nz! 2147483647),?_⟩;refine⟨_,rfl,_,rfl,_,_,rfl,rfl,Sc ?_ ?_,_,_,rfl,rfl,(Nz! 2147483629),kk _⟩;(.have:=CV (v*48271+k*7919) (show e? 2147483647≠0 by decide);lia);.have:=CJ (v*48271+k*7919) (Nz! 2147483647);lia);.exact⟨_,rfl,_,rfl,_,_,rfl,rfl,Sc F! F!,_,_,rfl,rfl,(Nz! 2147483629),kk _⟩
universe E
theorem uJ(h1:JT a b)(h2:JT b c):JT a c:=by rw[E3] at *;lia
theorem V8(h:a≠b)(h1:¬JT a b):JT b a:=by rw[E3] at *;have:¬(a.1=b.1/\a.2=b.2):=λz=>h (Prod.ext z.1 z.2);lia
theorem L4(key:ca)(x:α):∀{s:B?},(s.map key).Pairwise JT->(∀y∈s,key x≠key y)->∃s':B?,NM! (s'.Perm (x::s)) s'.map
 | [],_,_=>Jv! [x]
 | y::s,h,ne=>by have h':=EW.mp h;by_cases e:JT (key x) (key y);(.refine⟨x::y::s,GR!,K8! h⟩;rcases ZM hz with rfl|hz;(.exact e);.exact uJ e (h'.1 z hz));.obtain⟨s',p,q⟩:=L4 key x h'.2 (Jz! ne);refine⟨y::s',(p.cons y).trans (List.Perm.swap x y s),K8! q⟩;obtain⟨u,hu,rfl⟩:=ZN hz;rcases ZM (p.mem_iff.mp hu) with rfl|hu;(.exact V8 (ne y Dr!) e);.exact h'.1 _ (BJ hu)
theorem sorts(key:ca):Ju! (l.map key).Nodup (∃s:B?,NM! (s.Perm l) s.map)
 | [],_=>Jv! []
 | x::l,nd=>by have KZ:=AD!;obtain⟨s,p,q⟩:=sorts key KZ.2;obtain⟨s',p',q'⟩:=L4 key x q λy hy e=>EY! KZ.1 ⟨y,p.mem_iff.mp hy,e.symm⟩;exact⟨s',p'.trans (p.cons x),q'⟩
structure Good(G:BZ):Prop where
 h1:G.hand.Nodup
 h2:G.hand.length<64
 o1:N? G.AH.map
 o2:G.AH.length<64
 r1:N? G.AI.map
 r2:G.AI.length<64
 at_:∀q∈G.AH,∃a hl,G7! G.holds.find? (q.1,a,hl)/\hl.Nodup/\Nv!
structure Told(G:BZ)(hs:A!)(os:xz)(rs:J!):Prop where
 pm:hs.Perm G.hand
 pw:Ok!
 PL:Rows G os
 pr:AF!
 wr:CB!
theorem HN{l:J!}(nd:N? l.map){q:CM!}(hq:q∈l):l.find? (λz=>Au! z.1 q.1)=some q:=by induction l with | nil=>cases hq | cons x l ih =>have KZ:=AD!;rcases ZM hq with rfl|hq;(.simp);.have ne:¬x.1=q.1:=λz=>KZ.1 (AF.mpr (Ao! z.symm));rw[BX,A3! ne];exact ih KZ.2 hq
theorem Jb3(g:Good G):∀{s:J!},(∀q∈s,q∈G.AH)->∃os:xz,os.map (El! l!)=s/\∀q∈os,G7! G.AH.find? (q.1,l!)/\∃a hl,G7! G.holds.find? (q.1,a,hl)/\Nv!/\q.2.2.Perm hl/\q.2.2.Pairwise JT
 | [],_=>⟨[],rfl,R? (jp hq)⟩
 | x::s,h=>by obtain⟨os,e,k⟩:=Jb3 g (R? (h q (ZD _ hq)));have hx:=h x (v6);obtain⟨a,hl,f,nd,z⟩:=g.at_ x hx;obtain⟨hs,p,q⟩:=sorts (λt:T2=>t) (l:=hl) (S! KH nd);rw[KH] at q;refine⟨(x.1,x.2,hs)::os,W? AK e,λy hy=>?_⟩;rcases ZM hy with rfl|hy;(.exact⟨HN g.o1 hx,a,hl,f,z,p,q⟩);.exact k y hy
theorem Good.told(g:Good G):∃hs os rs,Told G hs os rs:=by
 obtain⟨hs,p1,q1⟩:=sorts (λt:T2=>t) (l:=G.hand) (S! KH g.h1);obtain⟨so,p2,q2⟩:=sorts (v4) g.o1;obtain⟨rs,p3,q3⟩:=sorts (v4) g.r1;obtain⟨os,e,k⟩:=Jb3 g (R? (p2.mem_iff.mp hq));have e1:I0! os.map so.map:=by rw[<-e,AL];rfl
 rw[KH] at q1;exact⟨hs,os,rs,p1,q1,⟨H! e1 (p2.map _),H! e1 q2,k⟩,p3,q3⟩
abbrev Vc:Stmt:=D? 17
abbrev Vl:Stmt:=D? 11
abbrev Sa:Stmt:=D? 23
abbrev Xt:Stmt:=D? 24
abbrev Vg:Stmt:=OR! 0
abbrev Ma:Stmt:=OR! 1
abbrev Kh:Stmt:=OR! 2
abbrev Pd:Stmt:=OR! 3
abbrev Z5:Stmt:=Q? 0
abbrev U8:Stmt:=Q? 1
abbrev U9:Stmt:=Q? 2
abbrev Vb:Stmt:=Q? 3
abbrev U5:Stmt:=Q? 4
abbrev Va:Stmt:=Q? 5
abbrev Jpa:Stmt:=Q? 11
abbrev U6:Stmt:=Q? 6
abbrev Pb:Stmt:=Q? 7
abbrev Kd:Stmt:=Q? 9
abbrev Ka:Stmt:=Q? 10
abbrev Fo:Stmt:=Q? 12
abbrev E2:Stmt:=Q? 14
abbrev L7:Stmt:=Q? 15
abbrev U7:Stmt:=Q? 16
abbrev P5:Stmt:=Q? 22
structure Nl(K:W.Frag)(mg:Fu!)(C NL:Addr):Prop where
 cl:WK K C
 nL:Db "latest"
 nW:Db "waiting"
 eP:K0! "Post" C
 cNL:Xa K mg "NoLetter" NL
 list:bn "list"
inductive Jbl(C:Addr)(vs:B!)(H:Hp)(Q:VK)(E:XK):Prop
 | mk (p dx:Addr) (_:B6!) (_:G9! (Iz! [])) (_:∀(d:Addr)(H':Hp),T? d->IW C H' p d 0 []->(Jh! (b≠p))->GT!)
inductive Hf(C:Addr)(vs:B!)(H:Hp)(Q:VK)(E:XK):Prop
 | mk (p d:Addr) (c:Int) (ls:AV!) (k s g a:V) (_:vs=[Os,k,s,g,a]) (_:IW C H p d c ls) (_:ls.length<=500) (_:Mt! (H t=none->L! H' t (.A_ [J? (c+1),k,s,g,a])->IW C H' p d (c+1) (ls++[(c+1,t)])->(∀b o,CU!->b≠p->b≠d->Am! H' o)->J3! (c+1)))
inductive Pz(C:Addr)(vs:B!)(H:Hp)(Q:VK)(E:XK):Prop
 | mk (p d:Addr) (c:Int) (ls:AV!) (_:B6!) (_:IW C H p d c ls) (_:∀(l:Addr)(H':Hp),T? l->L! H' l (.BE (ls.map λx=>x! x.2))->bv->F6! l)
inductive Xp(C NL:Addr)(vs:B!)(H:Hp)(Q:VK)(E:XK):Prop
 | mk (p d:Addr) (c:Int) (ls:AV!) (n:Int) (_:Da! Er!) (_:IW C H p d c ls) (_:((∃(l1 l2:AV!)(t:Addr),ls=l1++(n,t)::l2/\∀(H':Hp),IW C H' p d c (l1++l2)->(Jh! (b≠d))->F6! t)\/((CJ! (l.1≠n))/\NN! NL)))
universe S
theorem Jo1:JY! Vg:={}
theorem Jgb(F:E! GK! "Post.__init__" Vg)(T:JH!):Hf! Jbl:=by
 refine W! Jo1;obtain⟨p,dx,rfl,hp,k⟩:=h;refine I!;refine GM (Ad (Dx i! Ag rfl) (Af JE!));refine⟨_,rfl,p,C,dx,[],rfl,hp,T.cl,T.nL,CX! (0<1000),?_⟩;intro d hd;have je:p≠d:=λz=>by rw[<-z,Ac] at hd;cases hd
 have TN:T? d:=by rw[Ky! je] at hd;exact hd
 refine Pb! (A5! je Ac) T.nW (CX! (1<1000));refine k d _ TN ⟨Ce! Ac,SC (Ky! je) Ac,λl hl=>by simp at hl,CY⟩ (A2! ?_);rw[Ab hb,AA! TN,Ab hb];exact e
theorem Joz:G? Oo! Oo! Ma:={}
theorem Km(F:E! "put" "Post.put" Ma)(T:JH!):Bd! Oo! Hf:=by
 refine W! Joz;obtain⟨p,d,c,ls,kk,ss,gg,aa,rfl,S,hl,k⟩:=h;refine I!;have hu:=k!;obtain⟨⟨dx,h1⟩,hd,le,nd⟩:=id S;have jM:p≠d:=S.ne;refine Em! NE (PM! d! (Cf (Aa d! (v? 1 (v? 2 (Nm! 3 4))))) (SL d!));refine It! dx h1 T.nL (Gb _ _) _ rfl dx _ h1 (by rw[X5];show 2<1000;decide) ?_;rw[Jdn];have h2:HZ! KZ! (Fj (c+1) d):=Ac;have d2:L! KZ! d (HK! ls):=Q! jM.symm hd
 refine⟨_,rfl,p,C,dx,_,_,rfl,h2,T.cl,T.nL,Gb _ _,_,rfl,_,rfl,_,rfl,_,rfl,CX! (pi 5),?_⟩;intro t ht;have xS:p≠t:=Aj h2 ht;have xV:d≠t:=Aj d2 ht;have yF:H t=none:=by rw[Ab xS.symm] at ht;exact ht
 have h3:∀o,HZ! (upd KZ! t o) (Fj (c+1) d):=λo=>Q! xS h2
 have d3:∀o,L! (upd KZ! t o) d (HK! ls):=λo=>Q! xV d2
 refine⟨_,rfl,p,C,dx,_,_,rfl,h3 _,T.cl,T.nW,Ft _ _,_,rfl,p,C,dx,_,_,rfl,h3 _,T.cl,T.nL,Gb _ _,d,_,rfl,F_.k (k:=Sum.inl (c+1)) (d3 _) (S! Mt JF!),?_⟩;have vW:Ct (kvsOf ls) (Ol! (c+1))=none:=SC Kr (BB.mpr λl hl=>by have:=le l hl;simp;lia)
 have vq:J8! kvsOf ls (Ol! (c+1)) t=kvsOf (ls++[(c+1,t)]):=by rw[Fa _ vW];unfold kvsOf;rw[ZF];rfl
 rw[vq];refine⟨_,rfl,p,C,dx,_,_,rfl,A5! jM (h3 _),T.cl,T.nL,Gb _ _,?_⟩;refine k t _ yF (W? (Ab xV.symm) Ac) ⟨Ce! (Q! jM (h3 _)),Ac,λl hl=>?_,?_⟩ λb o e hp hb=>?_;.rcases ZI hl with hl|hl;(.have:=le l hl;lia);·(have e:l=(c+1,t):=by simpa using hl);rw[e];exact TD
 .rw[ZF];refine Gy nd λm=>?_;obtain⟨l,hl,e⟩:=ZN m;have:=le l hl;have e':l.1=c+1:=e;lia
 .rw[Ab hb,AA! yF,Ab hp];exact e
theorem Jo0:JY! Kh:={}
theorem Yd(F:E! "letters" "Post.letters" Kh)(T:JH!):Hf! Pz:=by
 refine W! Jo0;obtain⟨p,d,c,ls,rfl,S,k⟩:=h;refine I!;obtain⟨⟨dx,h1⟩,hd,le,nd⟩:=id S;refine PT! Ay (D9 (Oh rfl) ut T.list PyProof.Rows.boot_list (AQ! (Le DI JF OI N4 d!)));refine⟨_,rfl,p,C,dx,_,_,rfl,h1,T.cl,T.nW,Ft _ _,(Y! (Y! (G! (S? (OG! hd))))),d,_,rfl,rfl,hd,λv hv=>?_⟩;have ndv:d≠v:=Aj hd hv;refine⟨v,d,_,rfl,Ac,Q! ndv hd,λl hl=>?_⟩;have nvl:l≠v:=λz=>by rw[z,Ac] at hl;cases hl
 have cy:T? l:=by rw[Ab nvl] at hl;exact hl
 refine k l _ cy (by rw[Ac];unfold kvsOf;rw[AL];rfl) Co!;rw[AA! cy,AA! hv];exact e
theorem Joy:G? OM! OM! Pd:={}
theorem Jdq(F:E! "taken" "Post.taken" Pd)(T:JH!):Iq! f fd OM! (Xp C NL):=by
 refine k? Joy;obtain⟨p,d,c,ls,n,rfl,S,k⟩:=h;refine I!;have hu:=k!;obtain⟨⟨dx,h1⟩,hd,le,nd⟩:=id S;have jM:p≠d:=S.ne;refine Em! (Lo! Do U! d! (Fz! T.cNL)) (SL (X7 d! U! sw));refine Is! dx h1 T.nW (Ft _ _) d _ (DQ.k (k:=KI!) hd);rcases k with⟨l1,l2,t,rfl,k⟩|⟨TM,k⟩;·(have ev:Ct (kvsOf (l1++(n,t)::l2)) (KI!:Key)=some (X? t):=SC Kr (Y8 nd));rw[ev];refine AC!;refine⟨_,rfl,p,C,dx,_,_,rfl,h1,T.cl,T.nW,Ft _ _,d,rfl,OG! (K! hd),_,rfl,_,KI!,_,hd,rfl,ev,?_⟩;rw[Zc nd];(refine k _ ⟨Ce! (Q! jM h1),Ac,λl hl=>le l ?_,?_⟩ (A2! E6!));(.rcases ZI hl with hl|hl;(.exact i? hl);.exact HU! hl);.rw[ZF,AK] at nd;rw[ZF];refine AM.mpr ⟨(AM.mp nd).1,(AN.mp (AM.mp nd).2.1).2,λa ha b hb=>(AM.mp nd).2.2 a ha b (ZD _ hb)⟩
 ·(have ev:Ct (kvsOf ls) (KI!:Key)=none:=SC Kr (BB.mpr λl hl=>Ge! (TM l hl)));rw[ev];exact Cc k
universe E
universe S
inductive Jbi(C:Addr)(vs:B!)(H:Hp)(Q:VK)(E:XK):Prop
 | mk (p t:Addr) (G:BZ) (th:T2) (_:BE!) (_:v!) (_:cr) (_:Q (.bl (decide (L! (G.AI.find? (Gk! A8!)).map CN! 0))) H)
theorem Jow:IP! Vc:={}
theorem Jf8(F:E! "is_spent" "House.is_spent" Vc)(T:N!):Bd! AK! Jbi:=by refine W! Jow;obtain⟨p,t,G,th,rfl,S,ht,k⟩:=h;refine I!;have hu:=k!;obtain⟨dx,hp⟩:=S.ob;refine PT! Ay (Iv Cg (Jfu hu d! U! sw) Ag (A5 _));refine⟨_,rfl,p,C,dx,_,_,rfl,hp,T.cl,T.nR,Dj G,G.r,rfl,Ck! S.dr,_,rfl,_,Jb S.dr ht,?_⟩;cases e:Bb! G.AI.find? A8! with | none =>rw[e] at k;exact S? k | some q =>rw[e] at k;refine S? ?_;(have e2:g? (DW!=V.int 0)=g? (L! (some q).map CN! (e? 0)):=t?);show Q (V.bl (decide (DW!=V.int 0))) H;rw[e2];exact k
universe E
structure Fh(K:W.Frag)(mg:Fu!)(C NH NI:Addr):Prop where
 cl:WK K C
 nS:Db Do!
 nH:Db "houses"
 nP:Db "post"
 nI:Db "inquiries"
 nF:Db "finds"
 nE:Db "enclosed"
 eP:K0! "World" C
 cNH:Xa K mg "NoHouse" NH
universe S
inductive Ew(CW C CP NH:Addr)(vs:B!)(H:Hp)(Q:VK)(E:XK):Prop
 | mk (p:Addr) (h:Int) (W:EZ) (_:Or!) (_:z?) (_:DT! (Q (X? q) H))
theorem Jfa:K2! E2:={}
theorem Ep(F:E! GX! "World.house" E2)(T:N!)(TW:r?):Iq! f fd H8! (Ew CW C CP NH):=by
 refine k? Jfa;obtain⟨p,h,W,rfl,S,k⟩:=h;refine I!;obtain⟨dx,hp⟩:=S.ob;refine Em! (Bh (YX (X0 (D2! Sl U! Ag) (Qa (D2! Jnf U! (L2! T.len ci))))) (Af (Fz! TW.cNH)) A3) (SL (H5! U!));have e0:e? (W.qs.map λq=>x! q.1).length=W.qs.length:=t?
 refine⟨_,rfl,_,_,rfl,rfl,_,rfl,?_⟩;rcases k with⟨o,k⟩|⟨q,G,i,k⟩;.refine Wo (λ_=>Cc k) (λc=>?_);have c:¬h<0:=λz=>c (decide_eq_true z);refine MY! _ rfl p CW dx _ _ rfl hp TW.cl TW.nH (D8 W) W.hs (G! (DW.of S.hs)) ?_;rw[e0,OB! (show OJ!<=h from o.resolve_left c)];exact Cc k
 .obtain⟨i1,i2⟩:=i.lt;rw[decide_eq_false (show ¬h<0 by lia)];refine AC!;refine MY! _ rfl p CW dx _ _ rfl hp TW.cl TW.nH (D8 W) W.hs (G! (DW.of S.hs)) ?_;rw[e0,decide_eq_false (show ¬OJ!<=h by lia)];refine AC!;exact⟨_,rfl,p,CW,dx,_,_,rfl,hp,TW.cl,TW.nH,D8 W,_,rfl,W.hs,_,_,_,rfl,rfl,HM!,i.QO,k⟩
inductive Uk(CW C CP NH:Addr)(vs:B!)(H:Hp)(Q:VK)(E:XK):Prop
 | mk (p:Addr) (h:Int) (W:EZ) (_:Or!) (_:z?) (_:DT! (Ux C [Ec!] H Q E))
theorem Jh7:K2! U8:={}
theorem Jf1(F:E! "make" "World.make" U8)(T:N!)(TW:r?)(MH:CL!)(M1:JA! "make" "House.make" pW)(G1:Iq! f1 d1 p? (Ux C)):O2! H8! (Uk CW C CP NH):=by
 have GH:DP!:=DQ!;refine k? Jh7;obtain⟨p,h,W,rfl,S,k⟩:=h;refine I!;have IB:Ev:=EQ;obtain⟨dx,hp⟩:=S.ob;refine Id! (MF! Ph! hr Bs);refine Fi!;rcases k with k|⟨q,G,i,k⟩;.exact T0
 .obtain⟨FJ,hq⟩:=AG!;exact D! ⟨q,G,i,q,FJ,_,rfl,hq,z!,k⟩
inductive Ul(CW C CP NH NHd NNr:Addr)(vs:B!)(H:Hp)(Q:VK)(E:XK):Prop
 | mk (p:Addr) (h:Int) (va vb:V) (W:EZ) (_:vs=[Os,Dw!,va,vb]) (_:z?) (_:DT! (Uy C NHd NNr [Ec!,va,vb] H Kf! E))
theorem Jh9:G? BG! BG! U9:={}
theorem Jf3(F:E! V? "World.hold" U9)(T:N!)(TW:r?)(MH:CL!)(M1:Bg! V? "House.hold" pT Ix)(G1:Fn! 3 Ix (Uy C NHd NNr)):O3! BG! (Ul CW C CP NH NHd NNr):=by
 have GH:DP!:=DQ!;refine k? Jh9;obtain⟨p,h,va,vb,W,rfl,S,k⟩:=h;refine I!;have IB:Ev:=EQ;obtain⟨dx,hp⟩:=S.ob;refine LT! LC!;refine Fi!;rcases k with k|⟨q,G,i,k⟩;.exact T0
 .obtain⟨FJ,hq⟩:=AG!;exact D! ⟨q,G,i,q,FJ,_,rfl,hq,z!,_,rfl,_,rfl,k⟩
inductive Uo(CW C CP NH NHd NNr MI:Addr)(vs:B!)(H:Hp)(Q:VK)(E:XK):Prop
 | mk (p:Addr) (h:Int) (va vb:V) (W:EZ) (_:vs=[Os,Dw!,va,vb]) (_:z?) (_:DT! (U0 C NHd NNr MI [Ec!,va,vb] H Kf! E))
theorem Jic:G? BG! BG! Vb:={}
theorem Jf6(F:E! "drop" "World.drop" Vb)(T:N!)(TW:r?)(MH:CL!)(M1:Bg! "drop" "House.drop" p6 Ix)(G1:Fn! 4 Ix (DS! U0)):DV! 5 f fd BG! (Uo CW C CP NH NHd NNr MI):=by
 have GH:DP!:=DQ!;refine k? Jic;obtain⟨p,h,va,vb,W,rfl,S,k⟩:=h;refine I!;have IB:Ev:=EQ;obtain⟨dx,hp⟩:=S.ob;refine LT! LC!;refine Fi!;rcases k with k|⟨q,G,i,k⟩;.exact T0
 .obtain⟨FJ,hq⟩:=AG!;exact D! ⟨q,G,i,q,FJ,_,rfl,hq,z!,_,rfl,_,rfl,k⟩
inductive Uj(CW C CP NH NHd NNr MI:Addr)(vs:B!)(H:Hp)(Q:VK)(E:XK):Prop
 | mk (p:Addr) (h:Int) (va vb:V) (W:EZ) (_:vs=[Os,Dw!,va,vb]) (_:z?) (_:DT! (Ur C NHd NNr MI [Ec!,va,vb] H Kf! E))
theorem Jh6:G? BG! BG! U5:={}
theorem Jfy(F:E! "take" "World.take" U5)(T:N!)(TW:r?)(MH:CL!)(M1:Bg! "take" "House.take" pZ Ix)(G1:Fn! 4 Ix (DS! Ur)):DV! 5 f fd BG! (Uj CW C CP NH NHd NNr MI):=by
 have GH:DP!:=DQ!;refine k? Jh6;obtain⟨p,h,va,vb,W,rfl,S,k⟩:=h;refine I!;have IB:Ev:=EQ;obtain⟨dx,hp⟩:=S.ob;refine LT! LC!;refine Fi!;rcases k with k|⟨q,G,i,k⟩;.exact T0
 .obtain⟨FJ,hq⟩:=AG!;exact D! ⟨q,G,i,q,FJ,_,rfl,hq,z!,_,rfl,_,rfl,k⟩
inductive Um(CW C CP NH NHd:Addr)(vs:B!)(H:Hp)(Q:VK)(E:XK):Prop
 | mk (p:Addr) (h:Int) (vb:V) (W:EZ) (_:vs=[Os,Dw!,vb]) (_:z?) (_:DT! (Uz C NHd [Ec!,vb] H Kf! E))
theorem Jib:G? (BN! "h" "b") (BN! "h" "b") Va:={}
theorem Jf5(F:E! "free" "World.free" Va)(T:N!)(TW:r?)(MH:CL!)(M1:Bg! "free" "House.free" pS BA!)(G1:Fn! 2 BA! (Uz C NHd)):Hc! (BN! "h" "b") (Um CW C CP NH NHd):=by
 have GH:DP!:=DQ!;refine k? Jib;obtain⟨p,h,vb,W,rfl,S,k⟩:=h;refine I!;have IB:Ev:=EQ;obtain⟨dx,hp⟩:=S.ob;refine LT! HG!;refine Fi!;rcases k with k|⟨q,G,i,k⟩;.exact T0
 .obtain⟨FJ,hq⟩:=AG!;exact D! ⟨q,G,i,q,FJ,_,rfl,hq,z!,_,rfl,k⟩
inductive Eu(CW C CP NH:Addr)(K:W.Frag)(vs:B!)(H:Hp)(Q:VK)(E:XK):Prop
 | mk (p:Addr) (h:Int) (W:EZ) (_:Or!) (_:z?) (_:DT! (L1 C K [Ec!] H Q E))
theorem Je9:K2! Ka:={}
theorem Jdo(F:E! D4! "World.state" Ka)(T:N!)(TW:r?)(MH:CL!)(M1:JA! D4! "House.state" P6)(G1:Fn! 2 p? (L1 C K)):Hc! H8! (Eu CW C CP NH K):=by
 have GH:DP!:=DQ!;refine k? Je9;obtain⟨p,h,W,rfl,S,k⟩:=h;refine I!;have IB:Ev:=EQ;obtain⟨dx,hp⟩:=S.ob;refine Id! (MF! Ph! hr Bs);refine Fi!;rcases k with k|⟨q,G,i,k⟩;.exact T0
 .obtain⟨FJ,hq⟩:=AG!;exact D! ⟨q,G,i,q,FJ,_,rfl,hq,z!,k⟩
universe E
def WC(G:BZ)(tb:T2)(wt:Int):J!:=if xL then Dj! G2! else G.AH
theorem Jjr{l:J!}{t:T2}(h:Np!):OX! Z!=none:=IR! (¬Z!) h
theorem Mx(hd:FT! C6)(ht:cr)(f:E0! A8! (th,v)):FO! d V.int v:=Bt! (Jb hd ht) f
universe S
inductive Jbp(C:Addr)(vs:B!)(H:Hp)(Q:VK)(E:XK):Prop
 | mk (p b:Addr) (G:BZ) (tb:T2) (wt:Int) (_:Kc!) (_:v!) (_:KM) (_:Ct!) (_:ga (Nu! LL!))
theorem Jo6:K3! Vk:={}
theorem Jgg{f:Addr}{fd:FuncData}(F:E! "given" "House.given" Vk)(T:N!):Bd! As! Jbp:=by
 refine W! Jo6;obtain⟨p,b,G,tb,wt,rfl,S,hb,z,k⟩:=h;refine I!;have hu:=k!;obtain⟨dx,hp⟩:=S.ob;refine GM (Ad (Lo! Lf U! d! (In! R! Jgt)) (Af NE));refine Is! dx hp T.nO (Dl G) G.o _ (Jb S.dO hb);by_cases h:xL;.have fo:=M8 h;rw[fo];refine Aa!;have g1:LI! G.o (Ai G.AH tb):=Mx S.dO hb fo;refine⟨_,rfl,p,C,dx,_,_,rfl,hp,T.cl,T.nO,Dl _,_,rfl,G.o,_,rfl,g1,_,rfl,_,_,rfl,rfl,_,CC! S.dO,?_⟩;rw[Ex];have S1:OS! G.o C6 (C6! G2!) (EL! G2!):=S.KS _;obtain⟨FJ,ID⟩:=S1.ob;refine CK!;rw[Bo];(have e:LL!=Dj! G2!:=M1! (AE h));rw[e] at k;exact IZ! (EL! G2!)
 .rw[Jjr h];refine AC!;(have e:LL!=G.AH:=M1! (AB h));rw[e] at k;refine Dh! dx hp dx hp;rw[Bo];exact Mo! (S.fld dx G.AO (PP)) (Dd! h1)
def WX(G:BZ)(tb:T2)(HD:Bool):A!:=if HD=true then BV! else G.hand
def cY(G:BZ)(tb:T2)(sh:Int)(HD:Bool):J!:=Dj! (FF! (CO! (HD=true) (sh-1) (2*sh-1)))
inductive Xn(C:Addr)(vs:B!)(H:Hp)(Q:VK)(E:XK):Prop
 | mk (p b:Addr) (G:BZ) (tb:T2) (sh:Int) (HD:Bool) (_:vs=[Os,Df!,y! sh,.bl HD]) (_:v!) (_:KM) (_:Ct!) (_:Gz!) (_:xL) (_:ga (Nt! IT! (cY G tb sh HD)))
theorem Jox:G? IF! IF! Pc:={}
theorem Jdr(F:E! "passed" "House.passed" Pc)(T:N!):Bd! IF! Xn:=by refine W! Jox;obtain⟨p,b,G,tb,sh,HD,rfl,S,hb,z1,z2,h,k⟩:=h;refine I!;have hu:=k!;obtain⟨dx,hp⟩:=S.ob;refine GM (Ad (Bh (Hg U?) (Hz! Fx (Af (In! (Bf Vr R! Ag) Ek))) (Af (In! (Bf Vr (Bf F6 Ag R!) Ag) Ek))) (Af NE));have fo:=M8 h;refine⟨_,rfl,HD,rfl,?_⟩;cases HD with | true =>refine Aa!;refine Fv! dx hp T.nH (Ge G) G.h (CC! S.dh);rw[E7];have S1:x? DG! AU!:=S.OD Ix!;(have LQ:Aw! DG!:=λb' o e h1 h2=>Dd! Fx!);have b1:=Pd! LQ hb hb hb;rw[Jp! ((HO.dT ((Bn G.hand tb).map WP))=A9 Ix!)];generalize DG!=H1 at S1 LQ b1;obtain⟨FJ,ID⟩:=S1.ob;have g1:DQ H1 G.o (X? b) (some (V.int (Ai G.AH tb))):=Mx S1.dO b1 fo;refine⟨_,rfl,p,C,FJ,_,_,rfl,ID,T.cl,T.nO,Dl _,_,rfl,G.o,_,rfl,g1,_,rfl,_,_,rfl,rfl,_,_,rfl,rfl,_,O9! S1.dO b1 (FL! (G.AH.length<=1000)),?_⟩;rw[Ex];have S2:=S1.KS (C6! (FF! (sh-1)));(have JU:Aw! (NB! H1 (C6! (FF! (sh-1)))):=λb' o' e h1 h2=>Kd! Fx! LQ);obtain⟨JB,GQ⟩:=S2.ob;refine Dh! JB GQ JB GQ;rw[Bo];exact KE! S2.fld JB JU | false =>refine AC!;have g1:LI! G.o (Ai G.AH tb):=Mx S.dO hb fo;refine⟨_,rfl,p,C,dx,_,_,rfl,hp,T.cl,T.nO,Dl _,_,rfl,G.o,_,rfl,g1,_,rfl,_,_,rfl,rfl,Sc sB sB,_,_,rfl,rfl,_,_,rfl,rfl,_,CC! S.dO,?_⟩;rw[Ex];have S1:OS! G.o C6 (C6! (FF! (2*sh-1))) (EL! (FF! (2*sh-1))):=S.KS _;obtain⟨FJ,ID⟩:=S1.ob;refine CK!;rw[Bo];exact IZ! (EL! (FF! (2*sh-1)))
universe E
theorem Vn(hd:FT! Dz)(ht:cr)(f:E0! A8! JL!):FO! d V.ref a:=Bn! H1! IV! f
structure pK(mg:Fu!):Prop where
 dict:bn "dict"
 list:bn "list"
 max:bn "max"
universe S
inductive Hr(vs:B!)(H:Hp)(Q:VK)(E:XK):Prop
 | mk (sa l:Addr) (as:M!) (ts:A!) (hl:HL) (n:Nat) (R:A!) (_:vs=[O! sa,O! l]) (_:HA! sa) (_:db) (_:ts.length<=400) (_:Ap! l Dz hl) (_:hl.length<=400) (_:(∀q∈hl,Oc! l! F?/\q.2.2.length<=400/\l!≠l)) (_:L5! ts.filter) (_:n<=5000) (_:KK! (T? x->bv->Dg! H' x R->Az!))
theorem bK:G? ["starts",D6!,"found",CP!,"ahead"] CF! Gp:={}
theorem Lg(F:E! EB! EB! Gp):GE! 1 CF! Hr:=by
 refine W! bK;obtain⟨sa,l,as,ts,hl,n,R,rfl,es,th,zt,el,zl,hq,eC,zn,k⟩:=h;refine I!;have hu:=k!;refine PW! bK.nd Dm (Ad (Kk (te:=Ca 0) (i:=4) (caps:=B9!) bK.nd rfl rfl rfl rfl (Eh i!) rfl ZV rfl ZV rfl Dv! DD! D3! ZV Jo! Mi!) (FG! (Mg PassesOwn.never (X2 (pv 4) (λ_=>rfl)) (B5! bK.nd (Le BF RD RC uK KE) (KV! Do U? R! (JC! R! U? Fx (ap (Fk BF GZ GY Ko KE (Aa (PE.VH (MM! B9! (Mj (Bb hu U! U?)) DD! Jo!)) Ae))))))) R!));intro fa WA;have s1:=Hk! WA;have e1:Ml! (BQ! fa .dT []) []:=Ac;generalize Hj! H fa=H1 at s1 e1;have jB:Fe! H1:=CG! s1 th;refine Fh! sa JX! (λaa YS=>?_);refine Kv (b:=Z? AP!) (caps:=B9!) YS g! JX! jB (λH2 a t Q' sm ha ht q=>?_) λH2 bs sm ea tb=>?_;.obtain⟨o,g,eo⟩:=L9! (Bx! (s1 _ _ el));refine L7!;rw[eo];exact E3!
 have eI:T? aa:=by cases c:H aa with | none=>rfl | some o=>rw[C! s1 c] at YS;cases YS
 have eF:fa≠aa:=λz=>by rw[<-z,e1] at YS;cases YS
 refine BY! (λm σ H'=>∃(ahead found:A!)(JN:M!)(u3:Ad!),σ=[H? sa,H? l,H? fa,u3,H? aa]/\bv/\Ja! H'/\Aq! H' aa JN.map/\AZ H' JN ahead/\MV (QD hl) m ahead found R/\found.length+m<=5000/\Gx! AP!) ⟨n,_,[],bs,_,rfl,Al s1 sm,Cv! sm,ea,tb,eC,by simpa using zn,IR KN!⟩;rintro m σ H' ⟨ahead,found,JN,u3,rfl,sh,ef,RH,TU,rc,zm,hk⟩;refine⟨_,rfl,_,K! (Ef! (DW.of RH)),?_⟩;cases m with | zero =>obtain⟨e0,eR⟩:=rc;rw[e0] at TU;have e2:JN=[]:=BN.mp (Paired.length TU);rw[e2];refine Bx (wE (k fa H' WA sh ?_));rw[eR];exact ef | succ m =>have nV:=rc.len;obtain⟨a,t,br,rc⟩:=rc;rw[br] at TU nV;obtain⟨IQ,c,e2,i',ec⟩:=Pq TU;subst e2;(have em:BU! (IQ++[c]).map=E2!++[Ee!]:=Go!);rw[em] at RH ⊢;rw[show(!(E2!++[Ee!]).isEmpty)=true by cases IQ<;>rfl];refine Cc (GM (λEV H' h=>⟨m,HQ m,h⟩));refine⟨_,rfl,BI! RH,aa,_,_,rfl,rfl,RH,Wf _ _,?_⟩;rw[show(E2!++[Ee!]).dropLast=IQ.map V.ref by simp];(have s3:IN Ag!:=Kk! eI sh);(have RG:B_ H' Ag!:=l? RH);(have RM:Ja! Ag!:=Q! eF ef);have XF:J4! Ag!:=Ac;have QS:AZ Ag! IQ a:=ww RG i';have WE:=C! RG.A_ ec;generalize B2! H' aa IQ.map=H3 at s3 RG RM XF QS WE;refine FZ! _ rfl fa (Gf RM WE) _;rcases rc with⟨hf,rc⟩|⟨hf,rc⟩;(.rw[AE hf];exact Bx ⟨a,found,IQ,_,rfl,s3,RM,XF,QS,rc,F!,EK! hk J1!⟩);.rw[AB hf];refine Cc (Jf! fa (F7! t RM WE (SB Ec)));rw[E7,show Bn found t=BS! by unfold Bn;rw[AB hf]];(have s4:IN Ai!:=Kk! WA s3);(have LO:B_ H3 Ai!:=l? RM);have UU:Ml! Ai! Gl!:=Ac;(have TZ:J4! Ai!:=Q! eF.symm XF);have QR:AZ Ai! IQ a:=ww LO QS;have dJ:=C! LO.A_ WE;rw[EC! (HO.dT ((BS!).map WP)=A9 (BS!))];generalize O? H3 fa A9 Gl!=H4 at s4 LO UU TZ QR dJ;have qH:AP!:=hk t (S! br Oj!);obtain⟨ad,bC⟩:=Pj qH;have mq:=AJ bC;obtain⟨q1,q2,q3⟩:=hq _ mq;have q1:Oc! ad Bj!:=q1;have q2:b? Bp hl t 400:=q2;have q3:ad≠l:=q3;refine⟨_,rfl,BI! TZ,_,rfl,_,rfl,l,_,rfl,Vn (s4 _ _ el) dJ bC,ad,_,rfl,AB! q1,λob pl RL=>?_⟩;(have JOP:aa≠ad:=λz=>by rw[z,q1] at eI;cases eI);(have JON:fa≠ad:=λz=>by rw[z,q1] at WA;cases WA);refine Od (b:=Cc! NZ!) (caps:=B9!) (l:=Bp hl t) (key:=λq=>q) (val:=G0!) (ob:=ob) RL g! Ac (λH2 a' u Q' qK ha hu' q=>?_) λH5 bx wo ep5 aV=>?_;(.obtain⟨o,g,eo⟩:=L9! (qK l (Dz hl) (A5! q3.symm (AB! el)));refine L7!;rw[eo];exact E3!);.have f5:L! H5 ad (.GV ob (A9 Bj!)):=Ba! wo;refine KC! (O? H5 ad A9 Bj!) ad ob f5;(.have z:Kz! ad:=z;rw[q1] at z;cases z);(have qW:pl≠ad:=λz=>by rw[z,Ac] at RL;cases RL);(have s6:Bl H4 (E? H5 ad A9 Bj!):=MI! (b=ad) (AB! q1) (C! wo (E6!)));(have ow:Aq! (E? H5 ad A9 Bj!) pl bx.map:=Q! qW ep5);(have UZ:AZ (E? H5 ad A9 Bj!) bx (QD hl t):=by (have aV:AZ H5 bx (QD hl t):=by rw[KH] at aV;exact aV);refine Aq (λb u e=>?_) aV;rw[Ab (Fj! f5)];exact e);generalize O? H5 ad A9 Bj!=H6 at s6 ow UZ;have zz:=rc.len;rw[ZE] at zz;have l1:=A? QR;have l2:=A? UZ;refine⟨aa,pl,_,_,rfl,rfl,JJ!,ow,LB! Ec,?_⟩;rw[<-ZF];(have WY:B_ H6 (NA! H6 aa (IQ++bx).map):=l? JJ!);refine⟨a++QD hl t,BS!,IQ++bx,_,rfl,Co!,?_,Ac,AZ.keep WY (J9 (AZ.keep (HC s6) QR) UZ),rc,?_,Cr!⟩;(.rw[AA! eI];exact JZ! s6);(.rw[Ab eF];exact C! s6 UU);(.rw[ZE];show found.length+1+m<=5000;lia);.rcases ZI hu with hu|hu;(.exact hk u J1!);.have:=Dx! hu;simpa using this
universe E
universe S
inductive Je4(C:Addr)(vs:B!)(H:Hp)(Q:VK)(E:XK):Prop
 | mk (p ta:Addr) (G:BZ) (as:M!) (ts:A!) (_:Da! (O! ta)) (_:v!) (_:KX!) (_:HA! ta) (_:db) (_:ga n?)
theorem cH:G? (BN! "things" CP!) am Sa:={}
theorem Ji1(F:E! "lose" M2! Sa)(T:N!):Bd! am Je4:=by
 refine W! cH;obtain⟨p,ta,G,as,ts,rfl,S,ke,et,th,k⟩:=h;refine I!;have hu:=k!;have lt:=Eu!;refine GM (Af (P9! (Eh U!) 2 cH.nd (KV! Lf R! d! (Ad (A4 KB!) (ap KB!)))));refine Fh! ta et ?_;refine Ir! M0 ta HY! (λi σ H2=>∃u2:Ad!,σ=[B0!,H? ta,u2]/\x? H2 (Am G M6!)/\Aw! H2) (Ci! (Ne! Rc S) (λb o e _ _=>e)) (λi σ H2 _ h=>M3! (DW.of (fr _ _ et (S.SV et).1 (S.SV et).2)));.rintro i x σ H2 hx ⟨u2,rfl,S2,JU⟩;rw[ZH] at hx;cases ea:as[i]? with | none=>rw[ea] at hx;cases hx | some a =>rw[ea] at hx;have hx:Nd!:=ZO hx;subst hx;obtain⟨t,ht⟩:=Lg!;have ha:=ML! ht;have YA:=MA! JU;obtain⟨JB,GQ⟩:=S2.ob;obtain⟨o,g,eo⟩:=LG! N8 (G! S2.dO) YA;have f1:=F0 (v4) G.AH ht;have f2:=F0 (Ar!) G.holds ht;refine Is! JB GQ T.nO (Dl _) G.o o g;rw[eo];(have ks:I0! (Am G M6!).holds.map N2!:=by show LE! O1! O1!;rw[Du (Ar!) G.holds (Z? No!),LX! No!,ke]);by_cases h:w! N2!;(.rw[Eh!];obtain⟨v1,rB⟩:=MR! EN! F9! h;obtain⟨v2,rA⟩:=MR! EQ! (λq=>M7!) (S! ks h);refine Cc (Lq! JB GQ T.nO (Dl _) G.o S2.dO S2.dO YA rB);rw[Gu (k:=v4) (f:=F9!)];have S3:=S2.KS (At! Pu!);(have NJ:Aw! Ly!:=AH! (Kd! (λz=>h2 (EO!)) JU));have jv:=MA! NJ;rw[EC! (HO.dT ((At! (Op An!)).map DE!)=C6 (Bb! At! An!))];have S3:x? Ly! Kw!:=S3;generalize upd H2 G.o P7!=H3 at S3 NJ jv;obtain⟨PH,QM⟩:=S3.ob;refine Lq! PH QM T.nL (Ey _) G.l S3.dl S3.dl jv rA;have e3:D7 ((Kw!:BZ).holds.map BX!) (tk t)=(Bu! (Op An!)).map BX! :=Pa! Gu _ t;rw[e3];have S4:=S3.UM (hl:=Db! Bu! An!) FK;(have eG:KJ! { Mk! with AH:=Me! At!,holds:=Me! Bu! }:=by unfold Am;rw[f1,f2]);refine JG! S4 (AH! ?_);rw[Ab λz=>h2 (by rw[z];show G.l∈j?;simp[BM])];exact Iy! NJ e);.rw[HD!];have qY:N3! EN!:=λq hq z=>EY! h GM!;have qX:N3! EQ!:=λq hq z=>I4! h ks (SZ GM!);(have eG:KJ! Mk!:=by (have a1:NG! At! EN!:=LF! qY);(have a2:NG! Bu! EQ!:=LF! qX);unfold Am at a1 a2 ⊢;rw[f1,f2,a1,a2]);exact Bx (JG! S2 JU)
 .rintro σ H2 ⟨u2,rfl,S2,JU⟩;rw[ZA,lt,BS] at S2;exact k H2 S2 JU
universe E
universe S
def Cb(G:BZ)(rs:J!):J!:=Db! (rs.filter λq=>! Bh!).filter (0<q.2)
inductive Z0(C:Addr)(vs:B!)(H:Hp)(Q:VK)(E:XK):Prop
 | mk (p:Addr) (G:BZ) (n:Nat) (rs:J!) (_:B6!) (_:v!) (_:I?) (_:n<=62) (_:H2!) (_:IJ!) (_:AF!) (_:CB!) (_:∀(x:Addr)(as:M!)(H':Hp),T? x->Hx! x->JC H' as (Cb G rs)->Eo! (HW G)->Hd!->Az!)
theorem XJ:Mb! [FB,"held","holder",CP!,"unheld",re] Xt:={}
def Jms(K:W.Frag):TE:=pN (FX! C2! (R4 (IG! GY!) (Ca 0)))
def Jmp(K:W.Frag):TT:=Fu (NZ (aZ λi j=>.bl (decide (j<i))) (R4 (IG! GY!) (Ca 0)) LK!)
theorem Jb9(F:E! Ei! "House.give_back" Xt)(T:N!)(Tx:pK mg):Hf! Z0:=by
 refine W! XJ;obtain⟨p,G,n,rs,rfl,S,ok,zn,bR,bQ,pm,pw,k⟩:=h;refine I!;have hu:=k!;obtain⟨dx,hp⟩:=S.ob;refine OA! (Av (i:=1) XJ.nd rfl (by first|exact Or.inl rfl|exact Or.inr rfl) (D9 (Ja6 (Jm hr)) ut Tx.dict PyProof.Rows.boot_dict ci)) (OY! (Mj d!) 2 XJ.nd (ap (Fk DI PySem.F.slot_dict_update PySem.F.type_dict_update (Jjb hu) U! (Aa (Bb hu d! R!) Ae))) (PM.VH (Ad (Kk (te:=Ca 0) (i:=4) (caps:=[("held",1)]) XJ.nd rfl rfl rfl rfl (Eh (IH! ci)) rfl ZV rfl ZV rfl Dv! DD! D3! ZV (Pe! Do) Mi!) (Ad (Kk (te:=Jms K) (tt:=Jmp K) (i:=5) (caps:=Fm!) XJ.nd rfl rfl rfl rfl (Eh KE) rfl ZV rfl ZV rfl Dv! DD! D3! ZV (DZ! (En (Ax Sm (Bb hu OQ! i!) Ag (A5 _)))) (DZ! (Cf (ON! 0 (Bb hu OQ! i!))))) (OY! (Eh KE) 3 XJ.nd (ap (P1! U?)) (SL EX!))))));have z1:=ok.hz;have z2:=ok.PV;have z3:=ok.rz;refine⟨_,rfl,p,C,dx,_,_,rfl,hp,T.cl,T.nH,Ge G,G.h,_,rfl,S.dh,Q1 ok.hn bR,λhd bX=>?_⟩;have e0:F7 [] (G.hand.map WP)=G.hand.map WP:=by have:=Jx G.hand [];rw[C! Rl (by simpa using ok.hn)] at this;simpa using this
 rw[e0];have s1:=sK (A9 G.hand) bX;have e1:Dg! (BQ! hd A9 G.hand) hd G.hand:=Ac;rw[EC! (HO.dT (G.hand.map WP)=A9 G.hand)];generalize O? H hd A9 G.hand=H1 at s1 e1;have S1:=A4! s1;obtain⟨FJ,ID⟩:=S1.ob;have hX:N? G.holds.map:=H! ok.ke ok.on
 have bM:∀{b:Addr} {o:HO},CU!->b≠hd:=λe=>Aj e bX;have qW:p≠G.l:=λz=>S.QU (b:=G.l) (by simp[BM]) z.symm;refine⟨_,rfl,p,C,FJ,_,_,rfl,ID,T.cl,T.nL,Ey G,G.l,_,rfl,S1.dl,λob=>?_⟩;refine Y6 (d:=G.l) (ob:=ob) (λi σ H2=>∃u2:Ad!,σ=[B0!,OV!,u2,none,none,none]/\Dg! H2 hd (Dh G.hand (G.holds.take i))/\E8! (upd H1 G.l (.GV ob (Dz G.holds))) (b≠hd) H2) (Ci! (SC (Ab (bM S.dl).symm) e1) (λb o e _=>e)) (λi σ H2 _ h=>M3! (Fc! Ac S.dl)) ?_ ?_;.rintro i a kk v σ H2 hx ha ⟨u2,rfl,eh,fr⟩;rw[ZH] at hx;cases eq:G.holds[i]? with | none=>rw[eq] at hx;cases hx | some q =>rw[eq] at hx;have hx:(F3!,M7!)=(kk,v):=ZO hx;have mq:=ZP eq;have e2:kk=F3!:=(Prod.mk.inj hx).1.symm;rw[e2,uE] at ha;have hpp:L! H2 p (.ins C FJ (Cp G)):=Fc! (A5! qW ID) hp;have fJ:L! H2 G.l (.GV ob (Dz G.holds)):=Fc! Ac S.dl;(have hqq:Dg! H2 l! F?:=by have h0:=S.hl q mq;refine Fc! ?_ h0;rw[Ab (S.RV.2.2.2 q mq).2.2.1];exact S1.hl q mq);(have gv:Ct (G.holds.map BX!) (tk q.1)=some (V.ref l!):=SC IV! (FX.HN (k:=Ar!) hX mq));have l0:=ok.ln q mq;(have l1:b? Dh G.hand (G.holds.take i) (62+62*62):=by have h1:=Ow (B:=62) (qs:=G.holds.take i) (hand:=G.hand) (λr hr=>EA! (ok.ln r (List.mem_of_mem_take hr)).2);(have h2:Gr! G.holds.take<=G.holds.length:=Nf!);have h3:Gr! G.holds.take*62<=62*62:=E_ _ g!;lia);refine⟨_,rfl,FS! (S? (D! (w? eh))),_,rfl,p,C,FJ,_,_,rfl,hpp,T.cl,T.nL,Ey G,_,rfl,G.l,_,rfl,D! ⟨_,F3!,a,P? ob fJ,rfl,ha,gv.symm⟩,hd,l!,_,_,rfl,rfl,eh,K! hqq,(bM (S.hl q mq)).symm,?_,λ_=>Q1 l0.1 (bQ q mq),?_⟩;(.rw[ZA,ZA];exact DD (Ec g!));.rw[Jx,<-Wu G.hand eq];exact Ci! Ac (A2! (OP! (fr b o e hb)))
 .rintro σ H2 ⟨u2,rfl,eh,fr⟩;rw[ZA,BS] at eh;have fJ:L! H2 G.l (.GV ob (Dz G.holds)):=Fc! Ac S.dl;refine KC! (O? H2 G.l Dz G.holds) G.l ob fJ;(.have z:Kz! G.l:=z;rw[S.dl] at z;cases z);(have s3:IN (E? H2 G.l Dz G.holds):=MI! (b=G.l) S.dl (Fc! (A5! hb (C! s1 e)) e));(have e3:Dg! (E? H2 G.l Dz G.holds) hd (Dh G.hand G.holds):=Q! (bM S.dl).symm eh);generalize O? H2 G.l Dz G.holds=H3 at s3 e3;have S3:=A4! s3;obtain⟨PH,QM⟩:=S3.ob;refine It! PH QM T.nR (Dj G) G.r (h! rs.map) (Jgs S3.dr) (EM!) ?_ pw (λsl iV ax tsl=>⟨sl,rfl,PI! Ac,λul yA=>?_⟩);(·(have e4:((G.AI.map (El! DW!)).map T!)=G.AI.map T!:=c? AL);rw[e4];exact pm.map _);have s4:=DC! iV.map ax;have bD:Aq! (NA! H3 sl iV.map) sl iV.map:=Ac;have t4:AZ (NA! H3 sl iV.map) iV (rs.map T!):=CG! s4 tsl;generalize B2! H3 sl iV.map=H4 at s4 bD t4 yA;(have lrs:rs.length<=62:=by have:=pm.length_eq;lia);refine Kv (b:=λt=>! Br G t) (caps:=[("held",1)]) yA (EM!) bD t4 (λH5 a t Q' sm ha ht q=>?_) λH5 bs sm eu tu=>?_;(.refine Jf! hd (Gf (Bx! (s4 _ _ e3)) ha);(have e5:(!(if Lk! then some (V.bl true) else none).isSome)=! Br G t:=by rw[<-Jd3];by_cases c:Lk!;(.rw[j!,Bl! c];rfl);.rw[o!,A3! c];rfl);rw[e5];exact E3!);have eU:(rs.map T!).filter (λt=>! Br G t)=(rs.filter Ki!).map T!:=(Du (v4) rs λt=>! Br G t).symm;rw[eU] at tu;have s5:IN H5:=Al s3 (Al s4 sm);have gA:∀q∈rs.filter (Ki!),q∈rs:=R? Lf!;(have usz:(rs.filter λq=>! Bh!).length<=62:=EA! (AW (Ki!) rs));have yY:G6! (Cb G rs) (rs.filter λq=>! Bh!).filter (0<q.2):=rfl;(have wU:N? (rs.filter Ki!).map:=by have h1:Od!:=(pm.map _).nodup_iff.mpr ok.rn;exact h1.sublist (List.filter_sublist.map _));generalize oS:PO! Bh!=us at tu gA usz yY wU;have S5:=A4! s5;have qj:=A? tu;rw[ZA] at qj;have val:∀q∈us,G.AI.find? (λr=>Au! r.1 q.1)=some q:=R? (FX.HN (k:=v4) ok.rn (pm.subset (gA q hq)));refine Fh! ul eu (λbl iH=>?_);refine Gj (K:=K) (a:=ul) (p:=bl) (xs:=BU! bs.map) (tt:=Jmp K) (te:=Jms K) (caps:=Fm!) (λi ys H6=>∃cs:M!,ys=BU! cs.map/\CW! H6 bl/\Bl H5 H6/\JC H6 cs ((us.take i).filter (Op (0<q.2)))) ⟨[],rfl,Ac,Ah iH,L?⟩ (λi ys H6 _ h=>let⟨_,_,e,sm,_⟩:=h;NI! (Bx! eu) e) ?_ ?_;(.rintro i x ys H6 N hx ⟨cs,ey,e6,s6,ba⟩ hN;rw[ZH] at hx;cases eb:bs[i]? with | none=>rw[eb] at hx;cases hx | some b =>rw[eb] at hx;have hx:x! b=x:=ZO hx;subst hx;obtain⟨q,hq⟩:=P4! us eb;have hb:=Az tu i b q.1 eb (EF! hq);have yZ:=C! s6 hb;have S6:=S5.same s6;obtain⟨TQ,V_⟩:=S6.ob;have gv:DQ H6 G.r (X? b) (some (V.int q.2)):=Mx S6.dr yZ (val q (ZP hq));have ft:=Ww (b:=λq:T2×Int=>g? (0<q.2)) hq;refine MY! p C TQ _ _ rfl V_ T.cl T.nR (Dj G) _ rfl G.r gv ?_;by_cases c:0<q.2;(.rw[Bl! c] at ft ⊢;refine Cc ⟨_,rfl,_,rfl,p,C,TQ,_,_,rfl,V_,T.cl,T.nR,Dj G,_,rfl,G.r,_,rfl,gv,BD!,λx1 qz=>?_⟩;have s7:=Ay! KO! qz;have x7:HC! (E? H6 x1 .A_ KO!) x1 KO!:=Ac;have e7:=C! s7 e6;generalize O? H6 x1 .A_ KO!=H7 at s7 x7 e7;(have RW:B_ H7 (E? H7 bl .BE (ys++[x! x1])):=l? e7);(have lcs:cs.length<=us.length:=H! (A? ba) (N6 _ us i));refine⟨e7,Aj! ey ZA (SB Ec),C! hN ⟨cs++[x1],EG! ey,Ac,λd o e=>?_,?_⟩⟩;(.rw[AA! iH];exact Mh! s7 s6);.rw[ft,UF];exact Df (JC.keep RW (JC.keep (HC s7) ba)) ⟨b,C! RW.A_ x7,F4! RW.A_ s7 yZ⟩);.rw[A3! c] at ft ⊢;refine Bx (hN _ _ ⟨cs,ey,e6,s6,?_⟩);rw[ft,OZ!,AG];exact ba);.rintro ys H6 ⟨cs,ey,e6,s6,ba⟩;rw[ZA,qj,BS,<-yY] at ba;rw[ey] at e6;have S6:=S5.same s6;have oq:=C! s6 eu;have tu6:AZ H6 bs (us.map T!):=CG! s6 tu;(have vC:bl≠G.r:=λz=>by rw[z,S5.dr] at iH;cases iH);(have ve:T? bl:=by cases c:H bl with | none=>rfl | some o=>rw[C! s5 c] at iH;cases iH);refine Fh! ul oq ?_;have JCb:∀j,G6! (Lw! (GP! j):BZ).AI G.AI.filter (q.1∉GP! j):=λ_=>rfl;refine Ir! M0 ul (BU! bs.map) (λi σ H7=>∃u3:Ad!,σ=[B0!,OV!,u2,u3,H? ul,H? bl]/\x? H7 (Lw! Oi!)/\E8! H6 (b≠G.r) H7) (Ci! ?_ (λb o e _=>e)) (λi σ H7 _ h=>M3! (DW.of (fr _ _ oq λz=>by rw[z,S6.dr] at oq;cases oq)));(·(have e8:Bb! G.AI.filter (q.1∉GP! 0)=G.AI:=DU.mpr λq _=>t?);rw[e8];exact S6);(.rintro i x σ H7 hx ⟨u3,rfl,S7,QN⟩;rw[ZH] at hx;cases eb:bs[i]? with | none=>rw[eb] at hx;cases hx | some b =>rw[eb] at hx;have hx:x! b=x:=ZO hx;subst hx;obtain⟨q,hq⟩:=P4! us eb;(have rP:(us.map T!)[i]?=some q.1:=EF! hq);have hb:=Az tu6 i b q.1 eb rP;(have hb7:=QN _ _ hb λz=>by rw[z,S6.dr] at hb;cases hb);obtain⟨kA,fB⟩:=S7.ob;(have qin:q.1∈h! (G.AI.filter λr=>OF! Oi!).map:=by refine Ou! (pm.subset (gA q (ZP hq))) ?_ rfl;have:q.1∉Oi!:=λz=>Oq wU rP z;simpa using this);obtain⟨v,hv⟩:=Hj (l:=G.AI.filter λ(r:T2×Int)=>OF! ((us.map λ(z:T2×Int)=>z.1).take i)) (k:=λ(q:T2×Int)=>q.1) (f:=λ(q:T2×Int)=>DW!) (t:=q.1) qin;refine⟨_,rfl,p,C,kA,_,_,rfl,fB,T.cl,T.nR,Dj _,G.r,rfl,Ck! S7.dr,_,rfl,_,F3!,_,b,S7.dr,rfl,hb7,hv,?_⟩;(have e9:D7 (((Lw! Oi!:BZ).AI).map DE!) (tk q.1)=(G.AI.filter λr=>OF! (GP! (i+1))).map DE!:=H! (F0 (v4) G.AI rP) (LG! Gu _ _));rw[e9];have S8:=S7.SX (G.AI.filter λr=>OF! (GP! (i+1)));exact Ci! S8 (A2! (OP! (QN _ _ e hb))));.rintro σ H7 ⟨u3,rfl,S7,QN⟩;rw[ZA,qj,<-ZA (f:=v4),BS] at S7;have WY:B_ H6 H7:=⟨λb xs e=>QN _ _ e (Fj! S6.dr),λb o v e=>QN _ _ e (Fj! S6.dr)⟩;refine wE (k bl cs H7 ve (QN _ _ e6 vC) (JC.keep WY ba) ?_ (AH! (QN _ _ (s6 _ _ (s5 _ _ e)) λz=>h2 (EO!))));(have eK:HW G=Lw! OH!:=by unfold HW;(have:G6! (G.AI.filter λq=>Bh!) G.AI.filter (q.1∉OH!):=KL (R? (by by_cases c:Bh!=true;(·(have nm:q.1∉OH!:=λz=>by obtain⟨r,hr,er⟩:=ZN z;rw[<-oS] at hr;have:=Dx! hr;rw[er,c] at this;cases this);rw[c,Bl! nm]);·(have c:Bh!=false:=DY!);(have im:q.1∈OH!:=K? oS (Ou! (pm.symm.subset hq) (c? c) rfl));rw[c];simp only[im,not_true_eq_false,P_])));rw[this]);rw[eK];exact S7
universe E
universe S
inductive U1(C:Addr)(vs:B!)(H:Hp)(Q:VK)(E:XK):Prop
 | mk (p:Addr) (G:BZ) (n m:Nat) (rs:J!) (R:A!) (_:B6!) (_:v!) (_:I?) (_:n<=62) (_:H2!) (_:IJ!) (_:AF!) (_:CB!) (_:P3! m) (_:m<=5000) (_:Ok o? n) (_:∀(x:Addr)(as:M!)(H':Hp),(MO!)->Hx! x->JC H' as (Cb o? rs)->Eo! (IZ (HW o?))->Hd!->Az!)
theorem gF:Mb! (BN! "lent" "kept") Vl:={}
def Jol(K:W.Frag):TT:=Fu (NZ (aZ λi j=>.bl (decide (j<i))) (R4 (IG! D7!) (Ca 0)) LK!)
theorem Jgh(F:E! "clean" "House.clean" Vl)(T:N!)(Tx:pK mg)(MR:QQ K mg EB! Gp CF! fR dR)(ML:DN K C "lose" M2! Sa am fL dL)(MG:DN K C Ei! "House.give_back" Xt p? fG dG) : LP! p? U1:=by
 have GR:BO! 1 fR dR CF! Hr:=Lg MR.fn;have GL:AN! fL dL am Je4:=Ji1 ML.fn T;have GG:AN! fG dG p? Z0:=Jb9 MG.fn T Tx;refine W! gF;obtain⟨p,G,n,m,rs,R,rfl,S,ok,zn,bR,bQ,pm,pw,rc,zm,YM,k⟩:=h;refine I!;have hu:=k!;obtain⟨dx,hp⟩:=S.ob;refine OA! (Kk (te:=Ca 0) (tt:=Jol K) (i:=1) (caps:=Fm!) gF.nd rfl rfl rfl rfl (Mj d!) rfl ZV rfl ZV rfl Dv! DD! D3! ZV (DZ! (En (Ax Sm (Bb hu OQ! i!) Ag (A5 _)))) Mi!) (PM.VH (Ad (Av (i:=2) gF.nd rfl (by first|exact Or.inl rfl|exact Or.inr rfl) (Ce GR hr ut MR.mg MR.fn.kp MR.bd L? Ba (Aa (Bf Jll (D9 (Ri rfl) ut Tx.list PyProof.Rows.boot_list ci) U!) ci))) (Ad (A4 (Jb! i! ML.mt GL ML.bd (Aa (PE.VH (MM! (OO! 2) (Mj d!) DD! (Pe! Do))) Ae))) (Ad NE (SL (C3 i! T.cl MG.mt GG hr MG.bd L? Ba))))));have z0:=ok.oz;have z1:=ok.hz;have z2:=ok.PV;have jL:p≠G.o:=λz=>S.QU (b:=G.o) (by simp[BM]) z.symm;refine⟨_,rfl,p,C,dx,_,_,rfl,hp,T.cl,T.nO,Dl G,G.o,_,rfl,S.dO,λob ll fJ=>?_⟩;refine Od (b:=Z? O4!) (caps:=Fm!) (l:=G.AH) (key:=λq=>q.1) (val:=F9!) (ob:=ob) fJ g! Ac (λH2 a t Q' sm ha ht q=>?_) λH2 bs sm el tl=>?_;.have GQ:HZ! H2 (Cp G):=C! sm (A5! jL hp);(have gv:Ct (G.AH.map DE!) (tk t)=some (V.int (Ai G.AH t)):=SC LM! (M8 ht));exact MY! p C dx _ _ rfl GQ T.cl T.nO (Dl G) _ rfl G.o (D! ⟨_,tk t,a,P? ob (Ba! sm),rfl,ha,gv.symm⟩) q
 have jf:L! H2 G.o (.GV ob (C6 G.AH)):=Ba! sm;refine KC! (O? H2 G.o C6 G.AH) G.o ob jf;.have z:Kz! G.o:=z;rw[S.dO] at z;cases z
 have nll:ll≠G.o:=λz=>by rw[z,Ac] at fJ;cases fJ
 have s3:IN (E? H2 G.o C6 G.AH):=MI! (b=G.o) S.dO (C! sm (E6!))
 have YV:Oe! (E? H2 G.o C6 G.AH) ll:=Q! nll el
 have wW:AZ (E? H2 G.o C6 G.AH) bs (Ms G):=by refine Aq (λb u e=>?_) tl;rw[Ab (Fj! jf)];exact e
 generalize O? H2 G.o C6 G.AH=H3 at s3 YV wW;have S3:=A4! s3;obtain⟨PH,QM⟩:=S3.ob;refine⟨_,rfl,p,C,PH,_,_,rfl,QM,T.cl,T.nH,Ge G,G.h,_,rfl,K! S3.dh,λl1 KR hl1 ky1=>?_⟩;have t1:AZ H3 KR G.hand:=Jcj (val:=G0!) ky1;have s4:=DC! KR.map hl1;have e4:Aq! (Gf! H3 l1) l1 KR.map:=Ac;have t4:AZ (Gf! H3 l1) KR G.hand:=CG! s4 t1;have bD:=AB! YV;have qG:AZ (Gf! H3 l1) bs (Ms G):=CG! s4 wW;generalize B2! H3 l1 KR.map=H4 at s4 e4 t4 bD qG;have n1:=A? t4;have n2:=A? qG;have n3:(Ms G).length<=62:=by have:(Ms G).length<=(G.AH.map T!).length:=AW _ _;rw[ZA] at this;lia
 refine⟨_,rfl,l1,ll,_,_,rfl,rfl,e4,bD,LB! Ec,λcl YR=>?_⟩;rw[<-ZF];have s5:=DC! HI! YR;have e5:Aq! (NA! H4 cl HI!) cl HI!:=Ac;have t5:AZ (NA! H4 cl HI!) (KR++bs) (G.hand++Ms G):=CG! s5 (J9 t4 qG);generalize B2! H4 cl HI!=H5 at s5 e5 t5;have S5:=S3.same (Al s4 s5);obtain⟨bu,az⟩:=S5.ob;refine⟨_,rfl,p,C,bu,_,_,rfl,az,T.cl,T.nL,Ey G,cl,G.l,KR++bs,G.hand++Ms G,G.holds,m,R,rfl,e5,t5,CQ! ZE,S5.dl,F!,R? ⟨S5.hl q hq,EA! (ok.ln q hq).2,(S.RV.2.2.2 q hq).2.2.1⟩,rc,zm,λkp H6 yO s6 ek=>?_⟩;have S6:=S5.same s6;obtain⟨TQ,V_⟩:=S6.ob;refine⟨_,rfl,p,TQ,_,rfl,V_,z!,_,rfl,p,C,TQ,_,_,rfl,V_,T.cl,T.nO,Dl G,G.o,_,rfl,S6.dO,λqV gl rW=>?_⟩;have nkp:kp≠G.o:=λz=>by rw[z,S5.dO] at yO;cases yO
 refine Od (b:=HN!) (caps:=OO! 2) (l:=G.AH) (key:=λq=>q.1) (val:=F9!) (ob:=qV) rW g! Ac (λH7 a t Q' n8 ha ht q=>?_) λH7 gs n8 eg tg=>?_;.refine Jf! kp (Gf (n8 kp (A9 R) (A5! nkp ek)) ha);(have e8:(!(if FM then some (V.bl true) else none).isSome)=g? (t∉R):=by by_cases c:FM;(.rw[j!];simp[c]);.rw[o!];simp[c]);rw[e8];exact E3!
 have yL:L! H7 G.o (.GV qV (C6 G.AH)):=Ba! n8;refine KC! (O? H7 G.o C6 G.AH) G.o qV yL;.have z:Kz! G.o:=z;rw[S.dO] at z;cases z
 have ngl:gl≠G.o:=λz=>by rw[z,Ac] at rW;cases rW
 have s8:Bl H6 (NB! H7 G.AH):=MI! (b=G.o) S6.dO (C! n8 (E6!))
 have zU:Aq! (NB! H7 G.AH) gl gs.map:=Q! ngl eg
 have wZ:AZ (NB! H7 G.AH) gs (JP! HN!):=by refine Aq (λb u e=>?_) tg;rw[Ab (Fj! yL)];exact e
 generalize O? H7 G.o C6 G.AH=H8 at s8 zU wZ;have S8:=S6.same s8;refine⟨p,gl,G,gs,_,rfl,S8,ok.ke,zU,wZ,λH9 S9 sL=>?_⟩;rw[Wy ok.ke] at S9;obtain⟨VC,YN⟩:=S9.ob;refine Dh! VC YN VC YN;rw[Bo];have YW:=S9.fld VC (keepR G R).AO ((keepR G R).BC+1);have VM:UC p G H8 (LU! { JW! with BC:=(keepR G R).BC+1 }):=AH! (Pz! sL)
 have YW:x? (LU! { JW! with BC:=(keepR G R).BC+1 }) (IZ o?):=YW;generalize upd H9 p (D1! VC { JW! with BC:=(keepR G R).BC+1 })=bG at YW VM;obtain⟨gh,gT⟩:=YW.ob;have xA:IN H8:=Al s3 (Al s4 (Al s5 (Al s6 s8)));refine⟨_,rfl,p,gh,_,rfl,gT,Cq _ ZV,p,IZ o?,n,rs,rfl,YW,YM.IZ,zn,bR,H6! bQ,pm,pw,λx as i5 hx ex ba tU gY=>?_⟩;have q8:MO!:=AH! (Aj (Iy! VM (xA _ _ e)) hx);refine k x as i5 q8 ex ba tU (AH! (gY _ _ (VM _ _ (xA _ _ e) h1 h2) h1 λz=>h2 (List.Sublist.subset (Q6 (G:=My! (keepR G R).AH) FK) z)))
universe E
universe E K63
universe N FX
open PySem PySem.Spec PyProof.Rows L2
theorem Jpt{a b c d:Str}{k1 k2:NameKind}{cl:Eb!}{y:Str}(hc:JV!)(hd:GW! d)(h:Kj! [Kh!,Kg!,(c,k1),(d,k2)] .cell\/Kj! [Kh!,Kg!,(c,k1),(d,k2)] .free):Fw! :=Lz! (by simp only[BV,CL,HK] at hp;rcases hp with rfl|rfl|rfl|rfl;(.rcases hk with hk|hk<;>cases hk);(.rcases hk with hk|hk<;>cases hk);(.exact hc);.exact hd)
inductive JO(H:Hp)(t:Addr)(n:Int)(kind:Str)(s g:Int)(tb:T2)(x:Int):Prop
 | mk a b (_:GS! t [Er!,.str kind,y! s,y! g,Ch!]) (_:JQ! [Df!,y! x]) (_:KM)
theorem JO.keep(h:JO H t n kind s g tb x)(k:AE!):JO H' t n kind s g tb x:=let⟨a,b,e1,e2,e3⟩:=h;⟨a,b,Gg! e1,Ho!,Gg! e3⟩
universe E FX
universe N K63
open PySem L2 FX
def Jp3(G:BZ)(tb:T2)(wt:Int)(G':BZ):Prop:=(Gs!/\∃o,LW!/\G'=Nt! BV! (Dj! (o-wt)))\/(Bo!/\G'={ G with BC:=PP,hand:=BV!,AI:=Ht! })
def Wt(kind:Str)(G:BZ)(tb:T2)(wt:Int)(G':BZ):Prop:=(kind=V?/\Jp3 G tb wt G')\/(kind=Al!/\G'=G1! Ht!)\/(kind=re/\G'=Nu! LL!)
theorem Wt.BM(h:Wt kind G tb wt G'):BM G'=BM G:=by rcases h with⟨_,⟨_,o,_,rfl⟩|⟨_,rfl⟩⟩|⟨_,rfl⟩|⟨_,rfl⟩<;>rfl
universe S
def Sz(G:BZ):Prop:=Gz!/\Ct!/\Cp!
inductive Ho(CW C CP:Addr)(vs:B!)(H:Hp)(Q:VK)(E:XK):Prop
 | mk (p t:Addr) (W:EZ) (n s g:Int) (kind:Str) (tb:T2) (wt:Int) (q:Addr) (G G':BZ) (_:BE!) (_:z?) (_:JO H t n kind s g tb wt) (_:KA W g q G) (_:Wt kind G tb wt G') (_:Sz G) (_:∀H',Js! (Gn! g.toNat G')->A0!->GT!)
theorem LA:OT! [FB,Gq!,"kind",GX!,CP!,I3!] L7:={}
theorem Jac(F:E! "weight_came" "World.weight_came" L7)(T:N!)(TW:r?)(M1:Bg! "came" "House.came" p5 As!)(G1:Mp! f1 d1 As! Z2)(M2:OW! "added" "House.added" Vm f2 d2)(G2:Mp! f2 d2 As! U3)(M3:OW! "given" "House.given" Vk f3 d3):Ji! MX! Ho:=by
 have G3:AN! f3 d3 As! Jbp:=Jgg M3.fn T;refine L1! LA;.obtain⟨p,t,W,n,s,g,kind,tb,wt,q,G,G',rfl,_⟩:=h;rfl
 .obtain⟨p,t,W,n,s,g,kind,tb,wt,q,G,G',rfl,S,⟨a,b,e1,e2,e3⟩,i,cm,⟨z1,z2,z3⟩,k⟩:=h;have IB:Ev:=EQ;obtain⟨dx,hp⟩:=S.ob;refine Jj! LA.nd (B5! LA.nd (H5! GA!) (Av! 4 LA.nd Oh! (Av! 5 LA.nd Oh! (Af (Bh (JM! R! A7) (ap (GL! U? T.cl M1.mt G1 hr M1.bd (Oy! 4))) (Af (Bh (JM! R! A7) (ap (GL! U? T.cl M2.mt G2 hr M2.bd (Oy! 4))) (ap (GL! U? T.cl M3.mt G3 IB M3.bd (Oy! 4))))))))));refine FZ! t _ _ rfl Dz!;refine⟨_,rfl,p,CW,dx,_,_,rfl,hp,TW.cl,TW.nH,D8 W,_,rfl,t,_,_,_,rfl,rfl,Dz!,rfl,W.hs,_,_,_,rfl,rfl,HM!,i.QO,?_⟩;refine Mf!;refine Mf!;obtain⟨FJ,hq⟩:=AG!;(have dn:Done C q G H G' λH'=>GT!:=λH' S' fr=>by obtain⟨x1,x2⟩:=S.step i.2 S' fr λb hb=>G! (by rw[cm.BM] at hb;exact hb);exact k H' x1 x2);rcases cm with⟨rfl,cm⟩|⟨rfl,rfl⟩|⟨rfl,rfl⟩;(.refine Lq ⟨_,rfl,q,FJ,_,rfl,hq,z!,_,rfl,_,rfl,q,b,G,tb,wt,rfl,DB!,e3,z1,z2,z3,?_⟩;rcases cm with⟨h1,o,h2,rfl⟩|⟨h1,rfl⟩;(.exact Bv! h1 o h2 dn);.exact P? h1 dn);(.exact JK (Lq (Ma! q FJ hq z! q G DB! e3 z3 dn)));.exact JK (JK (Ma! q FJ hq z! q G DB! e3 z2 dn))
def Gw(G:BZ)(tb:T2)(sh:Int)(HD:Bool):BZ:=Nt! IT! (cY G tb sh HD)
def Xc(p:Addr)(W:EZ)(H:Hp)(x:Addr):Prop:=∀b o,CU!->Cn!->b≠x
inductive Lz(CW C CP:Addr)(vs:B!)(H:Hp)(Q:VK)(E:XK):Prop
 | mk (p t:Addr) (W:EZ) (n s LZ goal:Int) (tb:T2) (q:Addr) (G:BZ) (_:BE!) (_:z?) (_:JO H t n FS s LZ tb goal) (_:KA W LZ q G) (_:Sz G) (_:xL) (_:ER!) (_:((goal=LZ/\∀(x t1:Addr)(H':Hp),OD! (PY! LZ.toNat (Gw G tb W.share true) f? B7!) (JO H' t1 Ds! Al! LZ s tb W.share) (B3! H' [J? (f?)]))\/(goal≠LZ/\∀(x t1 t2:Addr)(H':Hp),K6! LZ.toNat (Gw G tb W.share false) Es! (B7!++[(Es!,t2)]) t1 V? LZ goal W.share (JO H' t2 (Es!) Al! LZ s tb W.share) (A0!->Gy!->Xc p W H x->B3! H' [J? (f?),J? (Es!)]->Az!))))
theorem OE:OT! [FB,Gq!,"home",CP!,"goal","went"] U7:={}
theorem Jf0(F:E! "pass_came" "World.pass_came" U7)(T:N!)(TW:r?)(TP:DA!)(M1:Bg! "passed" "House.passed" Pc IF!)(M3:Ip!) : PV! 2 MX! Lz:=by
 have G1:AN! f1 d1 IF! Xn:=Jdr M1.fn T;have G3:MN!:=LZ!;refine L1! OE;.obtain⟨p,t,W,n,s,LZ,goal,tb,q,G,rfl,_⟩:=h;rfl
 .obtain⟨p,t,W,n,s,LZ,goal,tb,q,G,rfl,S,⟨a,b,e1,e2,e3⟩,i,⟨z1,z2,z3⟩,ho,zl,k⟩:=h;obtain⟨dx,hp⟩:=S.ob;refine Jj! OE.nd (B5! OE.nd Oh! (Av! 4 OE.nd Oh! (Ad (A4 (Jb! (H5! R!) M1.mt G1 M1.bd (v? 3 (HH! d! (Iv Cg KE R! (A5 _)))))) (Av! 5 OE.nd (Ee Ae) (Ad (Bh (D2! t_ KE R!) (ap (Fk BF DS DR Ea EX! (AQ! (MK! d! (Jl! (ON! 4 (Cf (v? 3 ci)))))))) A3) (Ad (A4 (Fk BF DS DR Ea EX! (AQ! (MK! d! (Jl! (HH! GA! (Cf (v? 3 ci)))))))) (SL EX!)))))));refine FZ! t _ _ rfl Dz!;refine Mf!;refine Mf!;obtain⟨FJ,hq⟩:=AG!;refine⟨_,rfl,p,CW,dx,_,_,rfl,hp,TW.cl,TW.nH,D8 W,_,rfl,W.hs,_,_,_,rfl,rfl,HM!,i.QO,q,FJ,_,rfl,hq,z!,_,rfl,_,rfl,p,CW,dx,_,_,rfl,hp,TW.cl,TW.nS,Jn W,_,rfl,_,rfl,rfl,q,b,G,tb,W.share,H4! LZ,rfl,DB!,e3,z2,z1,ho,EP!⟩;obtain⟨W1,HY⟩:=KF!;have NG:=IB!;refine⟨AU _,Cs!⟩;have s2:=I9! hx;have ex:B3! (E? H1 x .BE []) []:=Ac;have W2:=KH!;have UR:=NG.trans (HC s2);(have dv:Gy!:=λz=>by rw[z] at hx;rw[W1.hs] at hx;cases hx);(have wL:Xc p W H x:=λb o e hb z=>by rw[<-z,HY b o e hb] at hx;cases hx);have iS:=Cv! UR.A_;have RM:=C! UR.A_ e3;obtain⟨JB,GQ⟩:=W2.ob;obtain⟨PH,X_⟩:=W2.po.ob;have gw:x∉B8 p (Gn! LZ.toNat (Gw G tb W.share (decide (Y? goal=V.int LZ)))):=W2.SU ex dv;refine⟨_,rfl,_,rfl,rfl,_,rfl,?_⟩;rcases k with⟨rfl,k⟩|⟨ne,k⟩;(.rw[show(! H4! goal)=false by simp];refine AC!;refine⟨_,rfl,BI! ex,_,rfl,p,CW,JB,_,_,rfl,GQ,TW.cl,TW.nP,E1 _,W.po,PH,_,rfl,X_,Ah!,_,rfl,_,rfl,t,_,_,_,rfl,rfl,BR! iS,rfl,_,rfl,_,rfl,p,CW,JB,_,_,rfl,GQ,TW.cl,TW.nS,Jn _,BD!,λa2 YA=>?_⟩;have s3:=Ka! YA;have W3:=W2.same s3;refine Ft! W3.po (J2! zl) (λt1 H4 ht et S4 XD=>?_);obtain⟨W4,RI⟩:=W3.JW S4 XD;have LO:=KU!;have j5:B3! H4 []:=RI _ _ (s3 _ _ ex) gw;refine⟨x,_,_,rfl,rfl,j5,Be (by show 0<=1000;decide),?_⟩;(have kq:B_ H4 IX!:=l? j5);refine wE (k x t1 _ ?_ ⟨a2,b,C! kq.A_ et,Mu! Ac,Je! RM⟩ (ES!) dv wL Ac);(·(have:=W4.keep (H':=O? H4 x .BE PP!) λb' o' IM e'=>H0! gw IM e');rw[show H4! goal=true by simp] at this;exact this);·(have jr:b'≠x:=λz=>by rw[z] at e' IM;rw[HY x o' e' IM] at hx;cases hx);rw[Ab jr];exact F0! XD (s3 _ _ Il!));.rw[show(! H4! LZ)=true by simp[ne]];refine Aa!;refine⟨_,rfl,BI! ex,_,rfl,p,CW,JB,_,_,rfl,GQ,TW.cl,TW.nP,E1 _,W.po,PH,_,rfl,X_,Ah!,_,rfl,_,rfl,_,rfl,_,rfl,p,CW,JB,_,_,rfl,GQ,TW.cl,TW.nS,Jn _,BD!,λa2 YA=>?_⟩;have s3:=Ka! YA;have W3:=W2.same s3;refine Ft! W3.po (J2! zl) (λt1 H4 ht et S4 XD=>?_);obtain⟨W4,RI⟩:=W3.JW S4 XD;have LO:=KU!;have j5:B3! H4 []:=RI _ _ (s3 _ _ ex) gw;refine⟨x,_,_,rfl,rfl,j5,Be (by show 0<=1000;decide),?_⟩;(have kq:B_ H4 IX!:=l? j5);have l1:JO IX! t1 Ds! V? LZ goal tb W.share:=⟨a2,b,C! kq.A_ et,Mu! Ac,Je! RM⟩;(have W5:=W4.keep (H':=O? H4 x .BE PP!) λb' o' IM e'=>H0! gw IM e');have sT:B3! IX! Gu!:=Ac;have lr:=Je! iS;have lq:=Je! RM;(have wO:∀b' o',AJ! b' o'->b'∉GC!->L! IX! b' o':=λb' o' e' IM=>by (have jr:b'≠x:=λz=>by rw[z] at e' IM;rw[HY x o' e' IM] at hx;cases hx);rw[Ab jr];exact F0! XD (s3 _ _ Il!));generalize O? H4 x .BE PP!=H5 at l1 W5 sT lr lq wO;obtain⟨bu,az⟩:=W5.ob;obtain⟨TQ,oU⟩:=W5.po.ob;refine⟨_,rfl,BI! sT,_,rfl,p,CW,bu,_,_,rfl,az,TW.cl,TW.nP,E1 _,W.po,TQ,_,rfl,oU,Ah!,_,rfl,_,rfl,t,_,_,_,rfl,rfl,BR! lr,rfl,_,rfl,_,rfl,p,CW,bu,_,_,rfl,az,TW.cl,TW.nS,Jn _,BD!,λa6 ha6=>?_⟩;have s6:=Ka! ha6;have W6:=W5.same s6;refine PK! f? B7! W6.po (by rw[ZE];show _+1<=500;lia) (λt2 H7 ht7 iM S7 QN=>?_);obtain⟨W7,gy⟩:=W6.JW S7 QN;have WY:=HJ.DO W6 gy;have zH:B3! H7 Gu!:=gy _ _ (s6 _ _ sT) gw;refine⟨x,_,_,rfl,rfl,zH,Be (by show 1<=1000;decide),?_⟩;(have kr:B_ H7 (E? H7 x .BE (Gu!++[V.int (Es!)])):=l? zH);refine wE (k x t1 t2 _ ?_ (l1.keep (((HC s6).trans WY).trans kr)) ⟨a6,b,C! kr.A_ iM,F4! kr.A_ WY.A_ Ac,F4! kr.A_ WY.A_ (s6 _ _ lq)⟩ (ES!) dv wL Ac);(·(have:=W7.keep (H':=O? H7 x .BE (Gu!++[V.int (Es!)])) λb' o' IM e'=>H0! gw IM e');rw[show H4! LZ=false by simp[ne]] at this;exact this);·(have jr:b'≠x:=λz=>by rw[z] at e' IM;rw[HY x o' e' IM] at hx;cases hx);rw[Ab jr];exact F0! QN (s6 _ _ (wO b' o' e' IM))
universe E
universe S
inductive Fn(CW C CP:Addr)(vs:B!)(H:Hp)(Q:VK)(E:XK):Prop
 | mk (p:Addr) (W:EZ) (_:B6!) (_:z?) (_:∀(l:Addr)(H':Hp),T? l->L! H' l (.BE (W.ls.map λx=>x! x.2))->bv->F6! l)
theorem Z4:JY! Fo:={}
theorem X8(F:E! "letters" "World.letters" Fo)(TW:r?)(TP:DA!)(M1:DN K CP "letters" "Post.letters" Kh p? f1 d1):PV! 2 p? Fn:=by have G1:BO! 1 f1 d1 p? (Pz CP):=Yd M1.fn TP;refine W! Z4;obtain⟨p,W,rfl,S,k⟩:=h;refine I!;obtain⟨dx,hp⟩:=S.ob;obtain⟨FJ,hq⟩:=S.po.ob;refine Id! (C3 (pl:=_) d! TP.cl M1.mt G1 hr M1.bd L? Ba);exact⟨_,rfl,p,CW,dx,_,_,rfl,hp,TW.cl,TW.nP,E1 W,W.po,FJ,_,rfl,hq,Ah!,W.po,W.pd,W.c,W.ls,rfl,S.po,k⟩
structure pR(G:BZ)(i:Nat):Prop where
 eq:∃h o l r,G=⟨V!,0,0,h,o,l,r,[],[],[],[]⟩
inductive Jbh(CW C CP:Addr)(vs:B!)(H:Hp)(Q:VK)(E:XK):Prop
 | mk (p dx:Addr) (m sh:Int) (_:vs=[Os,y! m,y! sh]) (_:G9! (.ins CW dx [])) (_:0<=m) (_:m<=12) (_:∀(W:EZ)(H':Hp),AS CW C CP H' p W->W.share=sh->W.c=0->W.ls=[]->W.LV=[]->W.IP=[]->W.EY=[]->W.qs.length=m.toNat->(∀i q G,AT (W.qs[i]?)->pR G i)->NF! H'->GT!)
theorem Jh8:G? (BN! "many" Do!) (BN! "many" Do!) Z5:={}
theorem Jf2(F:E! GK! "World.__init__" Z5)(T:N!)(TW:r?)(TP:DA!)(MmH:Mk K C fI)(FI:E' K GK! "House.__init__" pU fI dI)(bI:IQ! dI HB!)(MmP:Mk K CP fP)(FP:E' K GK! "Post.__init__" Vg fP dP)(bP:IQ! dP p?):Ji! (BN! "many" Do!) Jbh:=by
 have GI:AN! fI dI HB! NN:=TB FI T;have GP:BO! 1 fP dP p? (Jbl CP):=Jgb FP TP;refine W! Jh8;obtain⟨p,dx,m,sh,rfl,hp,m0,m1,k⟩:=h;refine I!;refine GM (Ad (JT! R!) (Ad (JT! (Pi! (p4 C (NN C) [] E0 (D0 C2! Jq)) [] (Gh rfl T.range CV!) trivial (λy h=>Jpr h) trivial NE! (DZ! (Vp MmH GI hr ut T.eP bI L? Ba Cx!)))) (Ad (JT! (Jft MmP GP hr ut TP.eP bP L? Ba)) (Ad JE! (Ad JE! (Af JE!))))));refine⟨_,rfl,_,rfl,p,CW,dx,[],rfl,hp,TW.cl,TW.nS,CX! (0<1000),?_⟩;have h1:Fq! H IU! IU!:=Ac;have k1:E7! H H IU!:=iZ;generalize FN! H IU!=H1 at h1 k1;have mm:e? m.toNat=m:=BK m0;refine⟨_,rfl,m,rfl,F!,F!,λr GK=>?_⟩;have li0:Lies (E? H1 r .BE []) [r,p]:=(Lies.mk (L:=[p]) Cg! (λb hb=>by rw[ZK hb];exact w? h1)).new GK Ej! (MC! GK);refine Je (lo:=0) (n:=m.toNat) (tt:=Ku!) (te:=p4 C (NN C) [] E0 (D0 C2! Jq)) (caps:=[]) (σ:=[B0!,En! m,En! sh]) (λi ys H2=>CW! H2 r/\Bl H1 H2/\∃qs:q!,ys=qs.map (Gm!)/\qs.length=i/\(∀j q G,AT (qs[j]?)->pR G j)/\(∀q∈qs,AX C H2 q.1 q.2)/\Lies H2 Gh!) ⟨Ac,Ah GK,[],rfl,rfl,λj q G e=>by simp at e,R? (by simp at hq),li0⟩ (λi ys H2 _ h=>h.1) ?_ ?_;.rintro i ys H2 N hi ⟨er,s2,qs,rfl,ql,em,ho,li⟩ hN;refine Aa!;refine wE (λx tH nx cj qd=>⟨x,tH,_,rfl,Ac,λh o l r' H3 fh fo fl fr S3 kp3=>S? ?_⟩);(have d_:Bl H2 (upd (E? H2 tH .own x) x (.ins C tH [])):=Bk! (Aj! (AA! nx) (AA! cj) e));have s3:Bl H2 H3:=Bk! (kp3 b o (d_ b o e) (Aj e nx));have zQ:=C! s3 er;(have e0:e? 0+V!=V!:=F!);rw[e0] at S3;refine⟨zQ,Be (EM!),C! hN ⟨Ac,Co!,qs++[(x,DK!)],Go!,SC ZE ql,λj q G e=>?_,Bm!,?_⟩⟩;(.rw[Ab (Fj! GK)];exact Mh! s3 s2);(.by_cases z:j<qs.length;(.rw[NU z] at e;exact em j q G e);.rw[SB NA] at e;(have zj:j-qs.length=0:=by rcases Nat.eq_zero_or_pos (j-qs.length) with h|h;(.exact h);.rw[CN (by simp;lia)] at e;cases e);rw[zj] at e;(have e:(x,(DK!:BZ))=BP!:=Mz!);(have ej:j=i:=F!);rw[ej,<-M4! e];exact⟨_,_,_,_,rfl⟩);(·(have all:∀q∈qs++[(x,(DK!:BZ))],AX C H3 q.1 q.2:=R? (by rcases ZI hq with hq|hq;(.exact(ho q hq).same s3);.rw[ZK hq];exact S3));have yI:=all q hq;have ne:=yI.SV zQ;exact yI.keep (Cj! (H! (Ab (λz=>by rw[z] at hb;exact hb.elim ne.1 ne.2)) e)));·(have a1:Lies H3 ((x::BM DK!)++Gh!):=by refine li.add (AN.mpr ⟨λm=>S3.QU m rfl,S3.nd⟩) (NP!) (NP!) (Bk! ⟨o,s3 b o e⟩);(.rcases ZM hb with rfl|hb;(.exact nx);.simp only[BM,FL,BV,CL,HK] at hb;rcases hb with rfl|rfl|rfl|rfl;(.exact Bw d_ fh);(.exact Bw d_ fo);(.exact Bw d_ fl);.exact Bw d_ fr);.rcases ZM hb with rfl|hb;(.obtain⟨d,e⟩:=S3.ob;exact w? e);.obtain⟨kv,e⟩:=S3.MQ hb;exact w? e);(have a2:Co (qs++[(x,(DK!:BZ))])++[r,p]=(Co qs++(x::BM DK!))++[r,p]:=by rw[Ie];show(Co qs++((x::BM DK!)++[]))++[r,p]=_;rw[AG]);rw[a2];refine((a1.perm ?_).keep Co!);(.rw[<-AQ];exact QC _ FU);.by_cases z:b=r;(.rw[z];exact Ej!);.exact⟨o,Dd! z⟩
 .rintro ys H2 ⟨er,s2,qs,rfl,ql,em,ho,li⟩;have GQ:=C! s2 h1;have l1:=A6 Do! (J? sh) [];refine Ig! GQ TW.nH;have l2:=Ac! "houses" r IU!;have k3:E7! H2 H2 Ib!:=iZ;have QM:Fq! H2 Ib! Ib!:=Ac;generalize FN! H2 Ib!=H3 at k3 QM;have li3:=li.keep (k3.ex (w? QM));intro po j' jL vB JOO;refine⟨po,j',rfl,Ac,λpd H4 je P4 xo=>S? ?_⟩;(have wz:Bl H3 (upd (E? H3 j' .own po) po (.ins CP j' [])):=Bk! (Aj! (AA! jL) (AA! vB) e));have s4:Bl H3 H4:=Bk! (xo b o (wz b o e) (Aj e jL));have bS:=AB! QM;(have li4:Lies H4 (pd::po::Gh!):=by have a:=li3.new (b:=po) (H':=upd (E? H3 j' .own po) po (.ins CP j' [])) jL Ej! (Bk! ⟨o,wz b o e⟩);refine a.new je (w? P4.dc) Co!;by_cases z:b=po;(.rw[z];obtain⟨d,e2⟩:=P4.ob;exact w? e2);.exact⟨o,xo b o e z⟩);refine Ig! bS TW.nP;have l3:=Ac! "post" po Ib!;have k5:E7! H4 H4 Ih!:=iZ;have az:Fq! H4 Ih! Ih!:=Ac;generalize FN! H4 Ih!=H5 at k5 az;have li5:=li4.keep (k5.ex (w? az));intro iq rT;have xj:=li5.new (H':=FK! H5 iq) rT Ej! (MC! rT);have iQ:Eg! (E? H5 iq .dK []) iq .dK:=Ac;have s6:=sK (.dK []) rT;generalize FK! H5 iq=H6 at xj iQ s6;refine Ig! (C! s6 az) TW.nI;have l4:=Ac! "inquiries" iq Ih!;have k7:E7! H6 H6 I1!:=iZ;have fB:Fq! H6 I1! I1!:=Ac;generalize FN! H6 I1!=H7 at k7 fB;have li7:=xj.keep (k7.ex (w? fB));intro fi rZ;have xi:=li7.new (H':=FK! H7 fi) rZ Ej! (MC! rZ);have zW:Eg! (E? H7 fi .dK []) fi .dK:=Ac;have s8:=sK (.dK []) rZ;generalize FK! H7 fi=H8 at xi zW s8;refine Ig! (C! s8 fB) TW.nF;have l5:=Ac! "finds" fi I1!;have k9:E7! H8 H8 L3!:=iZ;have YN:Fq! H8 L3! L3!:=Ac;generalize FN! H8 L3!=H9 at k9 YN;have li9:=xi.keep (k9.ex (w? YN));intro en jn;have kj:=li9.new (H':=FK! H9 en) jn Ej! (MC! jn);have zZ:Eg! (E? H9 en .dK []) en .dK:=Ac;have aY:=sK (.dK []) jn;generalize FK! H9 en=HA at kj zZ aY;refine Ig! (C! aY YN) TW.nE;have kB:E7! HA HA MT!:=iZ;have yJ:Fq! HA MT! MT!:=Ac;generalize FN! HA MT!=HB at kB yJ;have nd:=kj.nd;(have pm:(en::fi::iq::pd::po::Gh!).Perm ([p,r,po,pd,iq,fi,en]++Co qs):=by have a:(Co qs++[r,p]).Perm ([r,p]++Co qs):=FU;have b:(en::fi::iq::pd::po::Gh!).Perm ([en,fi,iq,pd,po,r,p]++Co qs):=((((a.cons po).cons pd).cons iq).cons fi).cons en;refine b.trans (QC _ ?_);exact(List.reverse_perm [p,r,po,pd,iq,fi,en]));have KZ:=pm.nodup_iff.mp nd;have xp:Kp p H9 HB:=Kp.trans (ET! aY) kB;have xq:Kp p H7 HB:=Kp.trans (Kp.trans (ET! s8) k9) xp;have kA5:Kp p H5 HB:=Kp.trans (Kp.trans (ET! s6) k7) xq;have qk:Kp p H4 HB:=k5.trans kA5;have qm:Kp p H2 HB:=(k3.trans (ET! s4)).trans qk;have tn:=(AM.mp KZ).1;simp only[AN,BV,CL,HK,not_or,CY,and_true,not_false_eq_true] at tn;obtain⟨⟨a1,a2,a3,a4,a5,a6⟩,_⟩:=tn;have TM:∀b∈Co qs,b≠p:=λb hb z=>(AM.mp KZ).2.2 p Cg! b hb z.symm;refine k ⟨sh,r,po,iq,fi,en,pd,0,[],qs,[],[],[]⟩ HB ⟨Ce! (by rw[yJ,<-Jkr]),BB! qm er a1,R? ((ho q hq).keep (Cj! (qm b o e (TM b (DF.mpr (Ao! hb)))))),P4.keep (λo e=>BB! qk e a2) (λo e=>BB! qk e a3),BB! (k7.trans xq) iQ a4,BB! (k9.trans xp) zW a5,BB! kB zZ a6,KZ⟩ rfl rfl rfl rfl rfl rfl ql em λb u e hb=>qm b u (s2 b u (k1 b u e hb)) hb
theorem NR:G? [FB,"n",Gq!,"kind"] OM! Kd:={}
inductive O9(CW C CP NHd NW:Addr)(vs:B!)(H:Hp)(Q:VK)(E:XK):Prop
 | mk (p b:Addr) (h g:Int) (W:EZ) (tb:T2) (q:Addr) (G:BZ) (_:vs=[Os,Dw!,y! g,Df!]) (_:z?) (_:KM) (_:GG!) (_:(∃q2 G2,KA W g q2 G2)) (_:Ct!) (_:Cp!) (_:W.ls.length<=500) (_:O6! (tb∉G.hand) ((AR!/\Gs!/\∃o,LW!/\CS! G.AI.find? GB!=none/\Mt! (K6! h.toNat (Nu! (Dj! (o+W.share))) f? (O8! t) t V? h g W.share A0! (J3! Ds!)))\/(AR!/\Bo!/\∃wt,Pc! G.AI.find? wt/\Pn! (wt=0) NW ((wt=1/\Mt! (K6! h.toNat (G1! (Bj G.AI tb 0)) f? (O8! t) t FS h tb.1 g A0! (J3! Ds!)))\/(2<=wt/\Mt! (K6! h.toNat (G1! (Lb! (wt-EU!))) f? (O8! t) t V? h g (EU!) A0! (J3! Ds!)))))))
theorem S_:G? [FB,"h","g","b",GX!,I3!] [FB,"h","g","b"] U6:={}
theorem To(h:PE! l.find? Z! t w):CS! (Bj l t v).find? Z!=some (t,v):=by have m:UV:=SZ (Ef! (AJ h));unfold Bj;rw[AE m];clear m;induction l with | nil=>simp at h | cons q l ih =>rw[AK];by_cases e:Z!;(.rw[XV,BX];simp[e]);.rw[KF,BX];rw[BX] at h;simp only[e,P_] at h ⊢;exact ih h
theorem Jfz(F:E! "send" "World.send" U6)(T:N!)(TW:r?)(TP:DA!)(MH:CL!)(M1:Bg! "part" "House.part" pX Og!)(G1:Fn! 3 Og! (Zy C NHd NW))(M2:DN K C "is_spent" "House.is_spent" Vc AK! f2 d2)(M3:Ip!) : O3! [FB,"h","g","b"] (O9 CW C CP NHd NW):=by
 have GH:DP!:=DQ!;have G2:Mj! f2 d2 (Jbi C):=FX.ET.UY (Jf8 M2.fn T);have G3:Iq! f3 d3 Oo! (Hf CP):=FX.ET.UY (Km M3.fn TP);refine k? S_;obtain⟨p,b,h,g,W,tb,q,G,rfl,S,hb,i,⟨q2,uT,i2⟩,z1,z2,z3,k⟩:=h;refine I!;have IB:Ev:=EQ;obtain⟨dx,hp⟩:=S.ob;refine OA! (M9! 4 S_.nd Ph!) (Ad (A4 (K5! i! TW.cl MH.mt GH MH.bd HG!)) (Av! 5 S_.nd (Ii! KE T.cl M1.mt G1 hr M1.bd (v? 3 ci)) (FG! (Bh (Hg (K5! KE T.cl M2.mt G2 M2.bd (v? 3 Ae))) (SL (Ii! d! TP.cl M3.mt G3 IB M3.bd (Aa A7 (v? 1 (HH! (CT! U?) (Cf (Nm! 3 2))))))) A3) (Ii! d! TP.cl M3.mt G3 IB M3.bd (Aa A7 (v? 1 (ON! 2 (Cf (Oy! 3)))))))));obtain⟨FJ,hq⟩:=AG!;refine⟨_,rfl,p,dx,_,rfl,hp,GJ!,_,rfl,p,h,W,rfl,S,D! ⟨q,G,i,_,rfl,p,dx,_,rfl,hp,GJ!,_,rfl,p,g,W,rfl,S,D! ⟨q2,uT,i2,?_⟩⟩⟩;refine⟨_,rfl,q,FJ,_,rfl,hq,z!,_,rfl,_,rfl,p,CW,dx,_,_,rfl,hp,TW.cl,TW.nS,Jn W,q,b,G,tb,W.share,rfl,DB!,hb,z1,z2,?_⟩;rcases k with k|⟨h1,h2,o,h3,h4,k⟩|⟨h1,h2,wt,h3,k⟩;.exact T0
 .refine Ab! ⟨h1,h2,o,h3,EP!⟩;obtain⟨W1,HY⟩:=KF!;have NG:=IB!;obtain⟨JB,cv⟩:=S1.ob;refine MW! q JB cv q H7!;(have e4:g? (((G.AI.find? (Gk! GB!)).map CN!)=some 0)=false:=c? h4);rw[e4];refine AC!;obtain⟨PH,QM⟩:=W1.ob;obtain⟨VD,e_⟩:=W1.po.ob;refine⟨_,rfl,p,CW,PH,_,_,rfl,QM,TW.cl,TW.nP,E1 _,W.po,VD,_,rfl,e_,Ah!,_,rfl,_,rfl,_,rfl,_,rfl,BD!,N4!⟩;have s2:=Ka! ha;have W2:=KH!;refine Ft! W2.po z3 (λt H3 ht et S3 NJ=>?_);obtain⟨W3,VX⟩:=W2.JW S3 NJ;have RG:=HJ.DO W2 VX;refine k t H3 W3 ⟨a,b,et,Ba! RG.A_,Of! RG.A_ (NG.A_ _ _ hb)⟩ ES!;exact F0! NJ Il!
 .refine Af! ⟨h1,h2,wt,h3,?_⟩;rcases k with k|⟨rfl,k⟩|⟨h4,k⟩;(.exact T0);(.refine P? sB EP!;(have eg:e? 1-Ig 1=0:=sB);rw[eg] at S1;obtain⟨W1,HY⟩:=KF!;have NG:=IB!;obtain⟨JB,cv⟩:=S1.ob;refine MW! q JB cv q H7!;(have e4:g? ((((Bj G.AI tb 0).find? (Gk! GB!)).map CN!)=some 0)=true:=c? (To h3));rw[e4];refine Aa!;obtain⟨PH,QM⟩:=W1.ob;obtain⟨VD,e_⟩:=W1.po.ob;have oX:=H7!;refine⟨_,rfl,p,CW,PH,_,_,rfl,QM,TW.cl,TW.nP,E1 _,W.po,VD,_,rfl,e_,Ah!,_,rfl,_,rfl,b,_,_,_,rfl,rfl,BR! oX,rfl,_,rfl,_,rfl,BD!,N4!⟩;have s2:=Ay! [x! b,Y? g] ha;have W2:=KH!;refine Ft! W2.po z3 (λt H3 ht et S3 NJ=>?_);obtain⟨W3,VX⟩:=W2.JW S3 NJ;have RG:=HJ.DO W2 VX;refine k t H3 W3 ⟨a,b,et,Ba! RG.A_,Of! RG.A_ oX⟩ ES!;exact F0! NJ Il!);.refine P? F! EP!;(have eg:Ig wt=EU!:=by unfold Ig;rw[AB (F!)]);rw[eg] at S1;obtain⟨W1,HY⟩:=KF!;have NG:=IB!;obtain⟨JB,cv⟩:=S1.ob;refine MW! q JB cv q H7!;(have e4:g? ((((Bj G.AI tb (wt-EU!)).find? (Gk! GB!)).map CN!)=some 0)=false:=by rw[To h3];refine A3! (λz=>?_);have:wt-EU!=0:=ZO z;lia);rw[e4];refine AC!;obtain⟨PH,QM⟩:=W1.ob;obtain⟨VD,e_⟩:=W1.po.ob;have oX:=H7!;refine⟨_,rfl,p,CW,PH,_,_,rfl,QM,TW.cl,TW.nP,E1 _,W.po,VD,_,rfl,e_,Ah!,_,rfl,_,rfl,_,rfl,_,rfl,BD!,N4!⟩;rw[eg] at *;have s2:=Ay! [x! b,V.int (EU!)] ha;have W2:=KH!;refine Ft! W2.po z3 (λt H3 ht et S3 NJ=>?_);obtain⟨W3,VX⟩:=W2.JW S3 NJ;have RG:=HJ.DO W2 VX;refine k t H3 W3 ⟨a,b,et,Ba! RG.A_,Of! RG.A_ oX⟩ ES!;exact F0! NJ Il!
universe E
structure pQ(H:Hp)(c h:Int)(L:AV!)(bs:J!):Prop where
 BP:h! L.map=(List.range bs.length).map λ(i:Nat)=>c+1+V!
 OO:Paired (λ(y:Int×Addr)(q:T2×Int)=>JO H y.2 y.1 re h q.1.1 q.1 q.2) L bs
universe S
inductive Pa(CW C CP:Addr)(vs:B!)(H:Hp)(Q:VK)(E:XK):Prop
 | mk (p l:Addr) (h:Int) (W:EZ) (as:M!) (bs:J!) (_:vs=[Os,Dw!,O! l]) (_:z?) (_:HA! l) (_:l∉GC!) (_:JC H as bs) (_:bs.length<=60) (_:ER!) (_:∀(x:Addr)(L:AV!)(H':Hp),OD! (Js! (G3! (W.c+(bs.length:Nat)))) (pQ H' W.c h L bs) (Le! x))
theorem Jia:G? DM! DM! P5:={}
def Jmr(CP:Addr)(K:W.Frag):TE:=Ps CP "put" (Hf CP) [] E0 (Ug K (Ca 2) "post") (D0 (Hq! re) (D0 (Ca 1) (FX! (NZ (P9 K) (NZ (P9 K) (Ca 0) LK!) LK!) C2!)))
theorem Jf4(F:E! Ei! "World.give_back" P5)(TW:r?)(TP:DA!)(M3:Ip!):PV! 2 DM! Pa:=by
 have G3:MN!:=LZ!;refine W! Jia;obtain⟨p,l,h,W,as,bs,rfl,S,el,lno,bk,zb,zl,k⟩:=h;refine I!;have xn:=A? bk;refine Id! (Pi! (Jmr CP K) [("h",1),KL!] (Eh R!) ⟨rfl,rfl,trivial⟩ (λy h=>Jpt F8! F8! h) ⟨sw,sw,trivial⟩ NE! (DZ! (MK! (Ap (pv 2) rfl) (Aa A7 (v? 1 (Aa (CT! (CT! i!)) Cx!))))));refine Fh! l el (λr GK=>?_);have s0:=I9! GK;have hJ:l≠r:=Aj el GK;have g_:r∉GC!:=S.OF GK;have S0:Iw! (Mn! r) (NC! J0! (W.ls++[])):=Aj! (show J0!=W.c by simp) AG (A4! s0)
 refine Gj (K:=K) (a:=l) (xs:=HY!) (tt:=Ku!) (te:=Jmr CP K) (caps:=[("h",1),KL!]) (σ:=[B0!,En! h,H? l]) (λi ys H2=>CW! H2 r/\PL! H2 l/\∃L,ys=L.map (Ms!)/\Iw! H2 (G3! PA!)/\pQ H2 W.c h L (bs.take i)/\JC H2 as bs/\F5! H2) ⟨Ac,C! s0 el,[],rfl,S0,S? L?,bk.keep (HC s0),ET! s0⟩ (λi ys H2 _ h=>NI! h.2.1 h.1) ?_ ?_;.rintro i v ys H2 N hi ⟨er,dB,L,rfl,W2,b2,tN,OK⟩ hN;refine Aa!;rw[ZH] at hi;cases bY:as[i]? with | none=>rw[bY] at hi;cases hi | some ai =>rw[bY] at hi;cases hi;(have rU:i<bs.length:=A7! xn bY);obtain⟨q,hq⟩:=An rU;obtain⟨cc,ea,ec⟩:=Az tN i ai q bY hq;(have lL:L.length=i:=by have:=A? b2.OO;rw[CD] at this;lia);obtain⟨JB,GQ⟩:=W2.ob;obtain⟨PH,X_⟩:=W2.po.ob;refine⟨_,rfl,p,CW,JB,_,_,rfl,GQ,TW.cl,TW.nP,E1 _,W.po,PH,_,rfl,X_,Ah!,_,rfl,_,rfl,ai,_,_,_,rfl,rfl,BR! ea,rfl,cc,_,_,_,rfl,rfl,BR! ec,rfl,_,rfl,?_⟩;refine PK! _ _ W2.po (by rw[ZE,lL];lia) (λt H4 ht et S4 XD=>?_);obtain⟨W4,RI⟩:=W2.JW S4 XD;have LO:=HJ.DO W2 RI;have UT:L! H4 r (.BE (L.map Ms!)):=RI _ _ er g_;have bD:PL! H4 l:=RI _ _ dB lno;(have kq:B_ H4 (E? H4 r .BE (L.map (Ms!)++[V.int (B1!)])):=l? UT);refine⟨UT,Be (EM!),C! hN ⟨Ac,Q! hJ bD,L++[(B1!,t)],Go!,?_,?_,tN.keep (LO.trans kq),ES!⟩⟩;(·(have e1:W.c+e? (i+1:Nat)=B1!:=F!);rw[e1,<-AQ];exact W4.keep (Cj! (H0! g_ hb e)));(.rw[DJ,hq];refine⟨?_,Gx ?_ (Aq (λ_ _ rr=>rr.keep (LO.trans kq)) b2.OO)⟩;(.have n1:=b2.BP;(have n2:Gr! bs.take=i:=Nf!);rw[n2] at n1;rw[ZF,n1,ZE,n2];show _=(List.range a?).map _;rw[EO,ZF];congr 1;show [B1!]=[f?+V!];congr 1;lia);.exact⟨ai,cc,C! kq.A_ et,Mu! ea,Mu! ec⟩);·(have ju:b'≠r:=λz=>by rw[z] at e';rw[GK] at e';cases e');rw[Ab ju];exact RI b' o' (OK b' o' e' IM) IM
 .rintro ys H2 ⟨er,dB,L,rfl,W2,b2,tN,OK⟩;rw[ZA,xn] at W2 b2;rw[BS] at b2;exact k r L H2 W2 b2 OK (λz=>g_ (NQ! (i? (Jn!)))) (λb o e _ z=>by rw[<-z,e] at GK;cases GK) er
theorem Ll:∀b∈BM (IZ (HW o?)),b∈j?:=λb hb=>by unfold BM at hb ⊢;have hb:b∈G.h::G.o::G.l::G.r::(G.holds.filter (Gk! Bp!)).map B8!:=hb;simp only[BV] at hb ⊢;rcases hb with h|h|h|h|h;(.exact a!);(.exact Ab! h);(.exact FS! h);(.exact Af! (Y! (G! h)));.obtain⟨q,hq,e⟩:=ZN h;exact D! (Y! (Y! (Y! (AF.mpr ⟨q,Lf!,e⟩))))
inductive L0(CW C CP:Addr)(vs:B!)(H:Hp)(Q:VK)(E:XK):Prop
 | mk (p:Addr) (h:Int) (W:EZ) (q:Addr) (G:BZ) (n m:Nat) (rs:J!) (R:A!) (_:Or!) (_:z?) (_:GG!) (_:I?) (_:n<=62) (_:H2!) (_:IJ!) (_:AF!) (_:CB!) (_:P3! m) (_:m<=5000) (_:Ok o? n) (_:K7! o? 60) (_:ER!) (_:∀(x:Addr)(L:AV!)(H':Hp),OD! (PY! h.toNat Jd! (W.c+((Cb o? rs).length:Nat)) (W.ls++L)) (pQ H' W.c h L (Cb o? rs)) (Le! x))
theorem Jfb:K2! Pb:={}
theorem Jdp(F:E! "clean" "World.clean" Pb)(T:N!)(TW:r?)(MH:CL!)(M1:JA! "clean" "House.clean" Vl)(G1:Mp! f1 d1 p? U1)(M2:DN K CW Ei! "World.give_back" P5 DM! f2 d2)(G2:BO! 2 f2 d2 DM! (Pa CW C CP)):Ji! H8! L0:=by
 have GH:BO! 1 fH dH H8! (λvs H Q _=>Ew CW C CP NH vs H Q E0):=FX.ET.no (Ep MH.fn T TW);refine W! Jfb;obtain⟨p,h,W,q,G,n,m,rs,R,rfl,S,i,ok,zn,bR,bQ,pm,pw,rc,zm,YM,zb,zl,k⟩:=h;refine I!;have IB:Ev:=EQ;obtain⟨dx,hp⟩:=S.ob;obtain⟨FJ,hq⟩:=AG!;refine PT! Ay (H3! TW.cl M2.mt G2 M2.bd (v? 1 (AQ! (MF! (GL! i! TW.cl MH.mt GH IB MH.bd CV!) hr Ba))));refine⟨_,rfl,p,dx,_,rfl,hp,GJ!,_,rfl,_,rfl,p,dx,_,rfl,hp,GJ!,_,rfl,p,h,W,rfl,S,D! ⟨q,G,i,q,FJ,_,rfl,hq,z!,q,G,n,m,rs,R,rfl,DB!,ok,zn,bR,bQ,pm,pw,rc,zm,YM,λx as H1 nx ex bk S1 LQ=>?_⟩⟩;obtain⟨W1,HY⟩:=S.step i.2 S1 LQ λb hb=>K! (Ll b hb);have eY:=S.IX (b:=W.hs) (Jn!) (ZP i.2);have dv:Gy!:=λz=>nx _ _ S.hs eY.1 eY.2 z.symm;have sub:∀b,Cn!->b∉B8 p (Gn! h.toNat Jd!):=λb hb m=>by rcases ZI m with m|m;(.exact hb HQ!);.obtain⟨z,hz,hm⟩:=DF.mp m;have hz:z∈Nx! h.toNat Jd!:=hz;rcases NT hz with hz|rfl;(.exact I5! ⟨z,hz,hm⟩);.refine I5! (BY! BP! (ZP i.2));exact hm.imp id λz=>Ll b z
 refine⟨p,x,h,_,as,_,rfl,W1,ex,W1.SU ex dv,bk,zb,zl,λy L H2 W2 b2 OK du dt ey=>?_⟩;exact k y L H2 W2 b2 (Ls! OK) du (Ls! dt) ey
universe E
universe E K63
universe N FX
open PySem PySem.Spec PyProof.Rows L2
def QP(G:BZ)(t:T2):Prop:=BM!\/∃q∈G.holds,Iv!
theorem G7(h:t∈Bp G.holds ta):WF:=by unfold Bp at h;cases e:Db! G.holds.find? (q.1=ta) with | none=>rw[e] at h;cases h | some q=>rw[e] at h;exact D! ⟨q,AJ e,h⟩
def cE(m:Nat)(t:T2):Prop:=VE t/\t.1<m
structure Sd(m:Nat)(G:BZ)(n:Nat):Prop where
 ok:I?
 nn:∀q∈G.AI,0<=q.2
 ip:∀t,WF->cE m t
 rk:∀t,WF->NX!->w! G.AI.map
 ir:∀t∈Ea!,cE m t
 n0:0<=G.BP
 n1:G.BP<m
 m0:0<=G.AO
 m1:G.AO<=n
theorem Sq(h:q∈Bj l t v):q=(t,v)\/q∈l:=by
 unfold Bj at h;by_cases c:UV;.rw[j!] at h;obtain⟨r,hr,e⟩:=ZN h;by_cases d:r.1=t;(.rw[AE d] at e;exact G! (BL! e d));.rw[AB d] at e;exact C9! Y! hr
 .rw[o!] at h;rcases ZI h with h|h;(.exact Cw!);.exact G! (d?)
theorem C9(l:J!)(t:T2)(v:Int):w! (Bj l t v).map/\(∀u∈MV!,u∈Om!)/\∀u∈Om!,u=t\/u∈MV!:=by
 rw[Hs];by_cases c:UV;.rw[j!];exact⟨c,λu hu=>hu,λu hu=>D! hu⟩
 .rw[o!];refine⟨Oj!,λu hu=>i? hu,Cr!⟩;rcases ZI hu with hu|hu;(.exact D! hu);.exact G! (Gb!)
theorem Di:∀(l:J!)(t u:T2)(v:Int),Ai (Bj l t v) u=if u=t then v else Ai l u:=by
 have app:∀(l:J!)(t u:T2)(v:Int),Np!->Ai (l++[(t,v)]) u=if u=t then v else Ai l u:=λl t u v h=>by unfold Ai;rw[KJ];by_cases e:u=t;(.rw[XV,e];(have:OX! Z!=none:=IR! (¬Z!) h);rw[this];simp);.rw[KF];have:¬t=u:=Nq! e;cases OX! (q.1=u)<;>simp[this]
 have mp:∀(l:J!)(t u:T2)(v:Int),UV->Ai (l.map λq=>EH! (q.1,v)) u=if u=t then v else Ai l u:=λl t u v h=>by induction l with | nil=>simp at h | cons q l ih =>unfold Ai;rw[AK,BX,BX];by_cases e:Z!;(.rw[XV];by_cases e2:u=t;(.rw[AE e2,e2,e];simp);.rw[AB e2];have n1:¬q.1=u:=λz=>e2 (z▸e);rw[A3! n1];by_cases hl:UV;(.have:=ih hl;rw[AB e2] at this;exact this);·(have:(l.map λq=>EH! (q.1,v))=l:=by refine(BQ Gp!).trans (List.map_id l);have:¬r.1=t:=λz=>hl (AF.mpr (Ae! z));rw[AB this];rfl);rw[this]);.rw[KF];(have hl:UV:=by rcases ZM h with h|h;(.exact HV! e);.exact h);by_cases e2:q.1=u;(.rw[Bl! e2];have:¬u=t:=λz=>e (e2.trans z);rw[AB this]);.rw[A3! e2];exact ih hl
 intro l t u v;unfold Bj;by_cases c:UV;.rw[j!];exact mp l t u v c
 .rw[o!];exact app l t u v c
theorem Em(l:J!)(P:T2->Bool)(t:T2):P! (l.filter λq=>P q.1)=Gw! (P t=true) Ed!:=by induction l with | nil=>by_cases c:P t=true<;>simp[c,Ai] | cons q l ih =>rw[DH];by_cases e:Z!;(.by_cases c:P q.1=true;(.rw[j!,C9! AE c];unfold Ai;rw[BX,BX,decide_eq_true e]);.rw[o!,ih,AB (Nb! c),AB (Nb! c)]);·(have e1:P! (q::l)=Ed!:=by unfold Ai;rw[BX,decide_eq_false e]);rw[e1];by_cases c:P q.1=true;(.rw[j!];(have:P! (q::l.filter λq=>P q.1)=P! (l.filter λq=>P q.1):=by unfold Ai;rw[BX,decide_eq_false e]);rw[this,ih]);.rw[o!,ih]
theorem Jz(h:∀q∈l,0<=q.2)(t:T2):0<=Ed!:=by unfold Ai;cases e:OX! Z! with | none=>exact TD | some q=>exact h q (AJ e)
universe S
theorem Sd.of(x:q?)(eE:DN! G')(nu:NR!)(md:G'.AO=G.AO)(hd:NS! (WF\/(cE m t/\(NX!->w! G'.AI.map))))(hl:∀q∈G'.holds,∀t∈F?,WF)(nn:∀q∈G'.AI,0<=q.2)(ir:∀t∈h! G'.AI.map,w! G.AI.map\/cE m t)(ks:∀t,QP G' t->w! G.AI.map->w! G'.AI.map):Tk G':=by
 refine⟨eE,nn,Br!,Cq!,IR ((ir t ht).elim (x.ir t) id),H! nu x.n0,H! nu x.n1,H! md x.m0,by rw[md];have:=x.m1;lia⟩;.rcases ht with ht|⟨q,hq,ht⟩;(.rcases hd t ht with h|h;(.exact x.ip t h);.exact h.1);.exact x.ip t (hl q hq t ht)
 .rw[nu] at e;rcases id ht with h|⟨q,hq,h⟩;(.rcases hd t h with h|h;(.exact ks t ht (x.rk t h e));.exact h.2 e);.exact ks t ht (x.rk t (hl q hq t h) e)
theorem Sd.up(x:q?):Tk G:=x.of (x.ok.mono (EN n)) rfl rfl (AL! GI!) (λq hq t ht=>AX!) x.nn CE! CY!
theorem Sd.tk(x:q?):Sd m (IZ G) n:=⟨x.ok.IZ,x.nn,x.ip,x.rk,x.ir,x.n0,x.n1,x.m0,x.m1⟩
theorem Sd.make(x:q?)(hm:m<=12)(hn:n<60)(a:Addr):Tk (IZ Fl!):=by
 refine Sd.tk ⟨x.ok.UQ a,x.nn,Br!,Cq!,x.ir,x.n0,x.n1,by show 0<=AO!;have:=x.m0;lia,by show AO!<=e? (n+1:Nat);have:=x.m1;lia⟩;.have h1:=x.m1;have h2:=x.n1;rcases ht with ht|⟨q,hq,ht⟩;(.have ht:NU!:=ht;rcases ZI ht with ht|ht;(.exact x.ip t (G! ht));·(have:EJ!:=Gc!);rw[this];exact⟨⟨x.n0,lc (G.BP<12),x.m0,lc (G.AO<60)⟩,x.n1⟩);.have hq:q∈CD!:=hq;rcases ZI hq with hq|hq;(.exact x.ip t (Y! (Ao! ht)));·(have:Lt!:=Mw!);rw[this] at ht;cases ht
 .rcases ht with ht|⟨q,hq,ht⟩;(.have ht:NU!:=ht;rcases ZI ht with ht|ht;(.exact x.rk t (G! ht) e);·(have:EJ!:=Gc!);exact absurd (c? this) e);.have hq:q∈CD!:=hq;rcases ZI hq with hq|hq;(.exact x.rk t (Y! (Ao! ht)) e);·(have:Lt!:=Mw!);rw[this] at ht;cases ht
theorem Ok.aM(ok:I?)(h:Gs!->xL):DN! AU!:=by
 refine(ok.mono (EN n)).hand (Qf _ ok.hn) (by have:=Ib G.hand tb;have:=ok.hz;lia) Cq!;rcases Uf with ht|ht;.exact ok.hk t ht e
 .rw[ht];exact I4! h ht e
def Nd(G:BZ)(ta tb:T2):BZ:=IZ (KY! (Bn Fp! tb))
def K7(G:BZ)(ta tb:T2):BZ:=IZ (KY! (Ff Fp! tb))
def Na(G:BZ)(tb:T2):BZ:=IZ AU!
def Nf(G:BZ)(tb:T2):BZ:=IZ (I2! HT!)
theorem Sd.hold(x:q?)(hb:AR!):Tk (Nd G ta tb):=by
 have eE:DN! (KY! (Bn Fp! tb)):=by obtain⟨g1,g2,g3⟩:=x.ok.get ta;refine(x.ok.mono (EN n)).holds (Qf _ g1) (EA! (Ib Fp! tb)) Cq!;rcases Uf with ht|ht;(.exact g3 t ht e);.rw[ht];exact x.ok.hk tb hb (K? ht e)
 refine FW! eE ?_ x.nn CE! CY!;rcases Mn hq with⟨_,e⟩|hq;.rw[e] at ht;rcases Uf with ht|ht;(.exact G7 ht);.rw[ht];exact K! hb
 .exact AX!
theorem Sd.drop(x:q?)(ta tb:T2):Tk (K7 G ta tb):=by
 have eE:DN! (KY! (Ff Fp! tb)):=by obtain⟨g1,g2,g3⟩:=x.ok.get ta;refine(x.ok.mono (EN n)).holds (g1.sublist FK) (by have:=AW (Cc! (u≠tb)) Fp!;unfold Ff;lia) λt ht e=>g3 t Fd! e
 refine FW! eE ?_ x.nn CE! CY!;rcases Mn hq with⟨_,e⟩|hq;.rw[e] at ht;exact G7 Fd!
 .exact AX!
theorem Sd.take(x:q?)(hb:tb∈Bp G.holds ta):Tk (Na G tb):=by
 refine(x.of (x.ok.aM λe=>(x.ok.get ta).2.2 tb hb e) rfl rfl (OL! ?_) (λq hq t ht=>AX!) x.nn CE! CY!).tk;rcases Uf with ht|ht;.exact G8!
 .rw[ht];exact G7 hb
theorem Sd.free(x:q?)(tb:T2):Tk (Nf G tb):=by refine PJ! ((x.ok.mono (EN n)).hand (l:=HT!) (x.ok.hn.sublist FK) (by have:=AW (Cc! (u≠tb)) G.hand;have:=x.ok.hz;unfold Ff;lia) λt ht e=>x.ok.hk t Fd! e) (G! (G! Fd!)) AX! x.nn CE! CY!
def fw(G:BZ)(tb:T2)(v:Int):BZ:=IZ (My! (Fa! G.AH))
def Nc(G:BZ)(tb:T2)(v:Int):BZ:=IZ (HF! (Fa! G.AI))
theorem Sd.out(x:q?)(h:xL)(v:Int):Ld! fw :=FW! ((x.ok.AH h v).mono (EN n)) AX! x.nn CE! CY!
theorem Sd.gI(x:q?)(hf:Bo!)(hi:cE m tb)(hv:0<=v):Ld! Nc:=by
 have okc:=(x.ok.mK hf v).hand (l:=G.hand) x.ok.hn (DY x.ok.hz) x.ok.hk;refine FW! okc AX! (Bm!) Ep! (λt _ h=>(C9 _ _ _).2.1 t h);.rcases Sq hq with e|hq;(.rw[e];exact hv);.exact x.nn q hq
 .rcases E9! with e|h;(.rw[e];exact D! hi);.exact a!
def Jd(G:BZ)(R:A!):BZ:=Jd!
theorem Sd.clean(x:q?)(YM:Ok o? n):Tk (Jd G R):=by
 refine FW! (YM.HW.mono (EN n)) (D! ⟨q,Lf!,ht⟩) (H6! x.nn) (AL! (G! (Fb! ht))) (λt ht hk=>?_);obtain⟨q,hq,e⟩:=ZN hk;refine Ou! hq ?_ e;rw[e];unfold Br;rcases ht with ht|⟨r,hr,ht⟩;.have ht:t∈(keepR G R).hand:=ht;rw[decide_eq_true ht];rfl
 .have:NT! (keepR G R).holds.any:=LC.mpr (Ae! Gc!);rw[this,Bool.or_true]
theorem MV.ofN(ok:I?)(hn:n<=60):∃k R,k<=5000/\KD!:=by
 have l1:(G.holds.map T!).length<=60:=by rw[ok.ke,ZA];have:=ok.oz;lia
 have l2:(startT G).length<=200:=by unfold startT Ms;refine FY! ?_;rw[ZE];have h1:=ok.hz;have h2:=AW (Z? O4!) (G.AH.map T!);rw[ZA] at h2;have h3:=ok.oz;lia
 have l3:((G.holds.map T!).filter (Z? (t∉Fk!))).length<=60:=FY! l1;obtain⟨k,R,h1,h2⟩:=MV.ex (nx:=QD G.holds) (keys:=h! G.holds.map) (B:=60) (Jgj G.holds) (λt=>AV (AW _ _) (AV (ok.get t).2.1 hn)) 5000 (startT G) [] (Jdc G) (by have:wP (G.holds.map T!).filter (Z? (t∉Fk!))*(60+1)<=60*(60+1):=E_ _ l3;lia);exact⟨k,R,h1,h2⟩
theorem Ok.clean(ok:I?)(rc:KD!):Ok (FX.keepR G R) n:=ok.keepR rc.sub.2 (rc.closed (IR (jp ht)))
universe E
universe S
def Jha(G:BZ)(tb:T2)(v:Int):BZ:=IZ { G with hand:=BV!,AH:=Fa! G.AH }
def Jhb(G:BZ)(tb:T2)(v:Int):BZ:=IZ { G with hand:=BV!,AI:=Fa! G.AI }
theorem Sd.nK(x:q?)(JM:xL)(hi:cE m tb)(v:Int):Ld! Jha:=by
 refine PJ! (FX.Ok.AH (G:=AU!) (Ok.aM x.ok λ_=>JM) JM v) ?_ AX! x.nn CE! CY!;rcases Uf with ht|ht;.exact GI!
 .rw[ht];exact P? hi (λe=>BT! (x.ok.new tb JM).1 e)
theorem Sd.nQ(x:q?)(hf:Bo!)(hi:cE m tb)(hv:0<=v):Ld! Jhb:=by
 refine PJ! (x.ok.mK hf v) ?_ AX! (Bm!) Ep! (λt _ h=>(C9 _ _ _).2.1 t h);.rcases Uf with ht|ht;(.exact GI!);.rw[ht];exact P? hi (λ_=>(C9 _ _ _).1)
 .rcases Sq hq with e|hq;(.rw[e];exact hv);.exact x.nn q hq
 .rcases E9! with e|h;(.rw[e];exact D! hi);.exact a!
theorem Kj(l:J!)(t:T2)(v:Int):(Bj l t v).length<=l.length+1:=by
 unfold Bj;split;.rw[ZA];lia
 .rw[ZE];exact wp
universe E
universe E FX
universe N K63
open PySem L2 FX
structure LT where
 kind:Str
 s:Int
 g:Int
 th:T2
 x:Int
def N_(t:T2)(l:LT):Int:=if CZ! then(if G4! then 1 else l.x) else 0
def Cz(t:T2):C?->Int
 | []=>0
 | l::r=>HO! r
theorem Hn(t:T2):∀(a b:C?),Cz t M?=Cz t a+Cz t b
 | [],b=>by simp[Cz]
 | l::a,b=>by show HO! M?=(HO! a)+Cz t b;rw[Hn t a b];lia
theorem Fv(t:T2)(a b:C?)(l:LT):Cz t (a++l::b)=IO! M? l:=by rw[Hn,Hn];show Cz t a+(HO! b)=_;lia
theorem Hm(t:T2)(a:C?)(l:LT):Cz t (a++[l])=IO! a l:=by rw[Hn];show Cz t a+(N_ t l+0)=_;lia
def LY(t:T2)(G:BZ):Int:=h?-Rs
def He(t:T2):q!->Int
 | []=>0
 | q::r=>y? q.2+He t r
def E5:q!->Nat
 | []=>0
 | q::r=>q.2.AI.length+E5 r
theorem Xj:∀{l:q!} {i:Nat} {q r:GF!},FJ!->He t (l.set i r)=He t l-y? q.2+LY t r.2
 | [],i,q,r,h=>Dn!
 | x::l,0,q,r,h=>by (have h:x=q:=d?);subst h;show y? r.2+He t l=(IE!)-y? x.2+LY t r.2;lia
 | x::l,i+1,q,r,h=>by (have h:FJ!:=d?);show y? x.2+He t (l.set i r)=(IE!)-y? q.2+LY t r.2;rw[Xj h];lia
theorem Xx:∀{l:q!} {i:Nat} {q r:GF!},FJ!->E5 (l.set i r)+q.2.AI.length=E5 l+r.2.AI.length
 | [],i,q,r,h=>Dn!
 | x::l,0,q,r,h=>by (have h:x=q:=d?);subst h;show r.2.AI.length+E5 l+x.2.AI.length=x.2.AI.length+E5 l+r.2.AI.length;lia
 | x::l,i+1,q,r,h=>by (have h:FJ!:=d?);have:=Xx (r:=r) h;show x.2.AI.length+E5 (l.set i r)+q.2.AI.length=x.2.AI.length+E5 l+r.2.AI.length;lia
theorem O8:∀{l:q!},(∀(j:Nat) r,l[j]?=some r->0<=y? r.2)->0<=He t l
 | [],_=>TD
 | x::l,k=>by have h1:=k 0 x rfl;have h2:=O8 (t:=t) λj r h=>k (j+1) r (d?);show 0<=IE!;lia
theorem Ui:∀{l:q!} {i:Nat} {q:GF!},FJ!->(∀(j:Nat) r,l[j]?=some r->j≠i->0<=y? r.2)->y? q.2<=He t l
 | [],i,q,h,_=>Dn!
 | x::l,0,q,h,k=>by (have h:x=q:=d?);subst h;have h2:=O8 (t:=t) λj r h=>k (j+1) r (d?) g!;show y? x.2<=IE!;lia
 | x::l,i+1,q,h,k=>by (have h:FJ!:=d?);have h1:=k 0 x rfl g!;have h2:=Ui h λj r h ne=>k (j+1) r (d?) g!;show y? q.2<=IE!;lia
def K'(m:Nat)(l:LT):Prop:=0<=l.g/\l.g<m/\cE m l.th /\
 ((l.kind=V?/\1<=l.x)\/(l.kind=Al!/\1<=l.x/\l.g≠l.th.1)\/(l.kind=re/\1<=l.x/\l.g=l.th.1)\/(G4!/\l.g=l.th.1/\0<=l.x/\l.x<m/\0<=l.s/\l.s<m/\l.s≠l.th.1))
theorem Fd:BH! Al! FS:=ZV
theorem Dq:BH! V? FS:=ZV
theorem Fe:BH! re FS:=ZV
theorem K'.w(h:C7!):1<=N_ l.th l:=by grind [N_,Dq,Fd,Fe,LT,K']
theorem K'.nn(h:C7!)(t:T2):0<=N_ t l:=by
 by_cases e:CZ!;.rw[<-e];have:=h.w;lia
 .unfold N_;rw[KF];exact TD
theorem Ly:∀{ls:C?},(CJ! C7!)->0<=Cz t ls
 | [],_=>TD
 | l::ls,h=>by have h1:=(h l Dr!).nn t;have h2:=Ly (t:=t) (Jz! h);show 0<=HO! ls;lia
theorem Pt(h:CJ! C7!)(hl:Ca!):1<=Cz l.th ls:=by obtain⟨a,b,e⟩:=JS hl;rw[e,Fv];have h1:=(h l hl).w;have h2:=Ly (t:=l.th) (ls:=s?) λz hz=>h z (by rw[e];rcases AY! with hz|hz;(.exact i? hz);.exact HU! hz);lia
structure Wl(C:FC!)(m n:Nat)(sh:Int)(qs:q!)(ls:C?):Prop where
 len:qs.length=m
 ck:m<=12
 sd:∀(i:Nat)(q:Addr)(G:BZ),X!->q?/\G.BP=V!
 ok:CJ! C7!
 sum:∀t,C t->He t qs+Cz t ls=0
 sh:2<=sh
universe S
variable {C:T2->Prop}{m n:Nat}{sh:Int}{qs:List (Addr×BZ)}{ls:List LT}
theorem Jj6{P:BZ->Nat->Prop}{l:q!}{i:Nat}{q:Addr}{G':BZ}(h:∀j q G,AT (l[j]?)->j≠i->P G j)(hi:P G' i):∀j q' G,(l.set i (q,G'))[j]?=some (q',G)->P G j:=by
 intro j q' G e;rw[FD] at e;by_cases z:i=j;.rw[AE z] at e;by_cases z2:i<l.length;(.rw[AE z2] at e;have:(q,G')=(q',G):=ZO e;rw[<-M4! this,<-z];exact hi);.rw[AB z2] at e;cases e
 .rw[AB z] at e;exact h j q' G e λz'=>z z'.symm
theorem Wl.next(x:u?){i:Nat}{q:Addr}{G G':BZ}{LF:C?}(hi:X!)(qM:Tk G')(nu:NR!)(eE:∀l∈LF,C7!)(uZ:∀t,C t->y? G'+Cz t LF=y? G+Cz t ls)(JOU:G'.AI.length+LF.length<=G.AI.length+ls.length+1):IC! G' LF:=by refine⟨H! List.length_set x.len,x.ck,Jj6 (P:=λG j=>Tk G/\G.BP=Be!) (λj q G e _=>⟨(x.sd j q G e).1.up,(x.sd j q G e).2⟩) ⟨qM,by rw[nu];exact(x.sd i q G hi).2⟩,eE,λt hC=>?_,x.sh⟩;have h1:=x.sum t hC;have h2:=uZ t hC;rw[Xj hi];show He t qs-y? G+LY t G'+Cz t LF=0;lia
theorem Wl.up(x:u?):Hi! Wl C (n+1):=⟨x.len,x.ck,λi q G e=>⟨(x.sd i q G e).1.up,(x.sd i q G e).2⟩,x.ok,x.sum,x.sh⟩
theorem Wl.gK(x:u?){t:T2}{j:Nat}{r:GF!}(e:qs[j]?=some r)(ne:Jy!):P! r.2.AH=0:=by obtain⟨s,nu⟩:=x.sd j r.1 r.2 e;exact E4 λz=>ne (W? (KM! z) nu)
theorem Wl.mO(x:u?){t:T2}{j:Nat}{r:GF!}(e:qs[j]?=some r)(ne:Jy!):0<=y? r.2:=by have h1:=x.gK e ne;have h2:=Jz (x.sd j r.1 r.2 e).1.nn t;unfold LY;lia
theorem Wl.there(x:u?){l:LT}(hl:Ca!)(hC:C l.th){i:Nat}{q:Addr}{G:BZ}(hi:X!)(e:l.th.1=V!):N5!:=by
 refine Classical.byContradiction λno=>?_;have h1:=Pt x.ok hl;have h2:=O8 (t:=l.th) (l:=qs) λj r ej=>by by_cases c:l.th.1=Be!;(·(have:i=j:=F!);subst this;have er:BP!=r:=ZO (hi.symm.trans ej);have h3:=Jz (x.sd i r.1 r.2 ej).1.nn l.th;unfold LY;rw[<-er] at h3 ⊢;have h4:Ai G.AH l.th=0:=E4 no;show 0<=Ai G.AI l.th-Ai G.AH l.th;have h3:0<=Ai G.AI l.th:=h3;lia);.exact x.mO ej c
 have h3:=x.sum l.th hC;lia
theorem Wl.gp(x:u?){i:Nat}{q:Addr}{G:BZ}(hi:X!)(t:T2)(hC:Ax!->C t):0<=Rs:=by
 by_cases c:Ax!;.obtain⟨s,nu⟩:=DL!;(have e1:t.1=V!:=W? (KM! c) nu);have h1:=Ui (t:=t) hi λj r ej ne=>x.mO ej (F!);have h2:=Ly (t:=t) x.ok;have h3:=x.sum t (hC c);have h4:h?=0:=E4 λz=>s.ok.rk t z (KM! c);have h1:h?-Rs<=He t qs:=h1;lia
 .rw[E4 c];exact TD
universe E
universe S
variable {C:T2->Prop}{m n:Nat}{sh:Int}{qs:List (Addr×BZ)}{ls:List LT}{i:Nat}{q:Addr}{G:BZ}
theorem mem_mid(hz:z∈s?):z∈a++l::b:=by grind
theorem Wl.same(x:u?)(hi:X!){G':BZ}(qM:Tk G')(nu:NR!)(hr:G'.AI=G.AI)(ho:G'.AH=G.AH):Wl C m (n+1) sh Mc! ls :=x.next hi qM nu x.ok (λt _=>by unfold LY;rw[hr,ho]) (CQ! hr)
theorem Wl.make(x:u?)(hi:X!)(hn:n<60)(a:Addr):Wl C m (n+1) sh (HL! (IZ Fl!)) ls:=by
 obtain⟨s,nu⟩:=DL!;refine Mr! (s.make x.ck hn a) x.ok Na!;have fr:m?∉AM!:=λz=>by obtain⟨r,hr,e⟩:=ZN z;exact s.ok.fresh.2.1 r hr e
 have e:P! (C3!)=Rs:=by rw[<-Jfk fr,Di];by_cases c:EJ!;(.rw[j!,c,E4 fr]);.rw[o!]
 show Hg! (P! (C3!)) ls;rw[e]
theorem Kl(h:∀z∈ls,K' m z)(hl:C7!):∀z∈ls++[l],K' m z:=λz hz=>by rcases AY! with hz|hz;(.exact h z hz);.rw[ZK hz];exact hl
theorem Wl.RB(x:u?)(hi:X!){b:T2}(hb:GD!)(hn:b.1=G.BP){g:Int}(g0:0<=g)(g1:g<m):IC! LN! (ls++[Ik!]):=by
 obtain⟨s,nu⟩:=DL!;have hs:=x.sh;refine Mr! (s.out (s.ok.hk b hb hn) _) (Kl x.ok ⟨g0,g1,s.ip b (G! hb),K! (S? (lc (1<=sh)))⟩) (by rw[ZE,D_];show PX!;lia);rw[Hm];show Cd! (h?-Du! G.AH b (Ai G.AH b+sh)+(IO! ls Ik!));rw[Di];unfold N_;by_cases c:t=b;.rw[j!,AE (show b=t from c.symm),AB Dq,c];show _+(_+sh)=_;lia
 .rw[o!,AB (AI! (¬b=t) O0!)];lia
theorem Nb(h:b∈Ea!)(v:Int):(Nc G b v).AI.length=G.AI.length:=X1 h v
theorem Wl.SY(x:u?)(hi:X!){b:T2}(hb:GD!)(hf:NY!){g:Int}(g0:0<=g)(g1:g<m)(w2:2<=Im!) : IC! LO! (FU! V? g Bi!):=by
 obtain⟨s,nu⟩:=DL!;refine Mr! (s.gI hf (s.ip b (G! hb)) g!) (Kl x.ok ⟨g0,g1,s.ip b (G! hb),K! (S? (lc (1<=Bi!)))⟩) (by rw[ZE,D_,Nb (s.rk b (G! hb) hf)];lia);rw[Hm];show Cd! (Du! G.AI b (Im!-Bi!)-Rs+(IO! ls (Kv! V? g Bi!)));rw[Di];unfold N_;by_cases c:t=b;.rw[j!,AE (show b=t from c.symm),AB Dq,c];show _+(_+Bi!)=_;lia
 .rw[o!,AB (AI! (¬b=t) O0!)];lia
theorem Wl.RA(x:u?)(hi:X!){b:T2}(hb:GD!)(hf:NY!){g:Int}(g0:0<=g)(g1:g<m)(w1:Im!=1) : IC! (Nc G b 0) (FU! FS b.1 g):=by
 obtain⟨s,nu⟩:=DL!;have ib:=s.ip b (G! hb);have hil:i<m:=A7! x.len hi
 refine J9! s.gI hf (BD _) (Kl x.ok ⟨ib.1.1,ib.2,ib,D! (Y! (Y! ⟨rfl,rfl,g0,g1,lc (0<=V!),by show V!<m;lia,by rw[nu] at hf;exact Nq! hf⟩))⟩) (by rw[ZE,D_,Nb (s.rk b (G! hb) hf)];lia);rw[Hm];show Cd! (Du! G.AI b 0-Rs+(IO! ls (Kv! FS b.1 g)));rw[Di];unfold N_;by_cases c:t=b;.rw[j!,AE (show b=t from c.symm),UF,c,w1];lia
 .rw[o!,AB (AI! (¬b=t) O0!)];lia
theorem Wl.wt(x:u?){a b:C?}{l:LT}(es:N0!)(np:l.kind≠FS)(hC:Gi! (C l.th))(hi:AT (qs[l.g.toNat]?)) : ∃G',Wt l.kind G l.th l.x G'/\Wl C m (n+1) sh K1! M?:=by
 have hl:Ca!:=Jx!
 obtain⟨g0,g1,ib,kk⟩:=x.ok l hl;obtain⟨s,nu⟩:=x.sd _ q G hi;rw[BK g0] at nu;have cZ:∀z∈s?,K' m z:=λz hz=>x.ok z (S! es JN!);have len:(a++b).length+1=ls.length:=by rw[es];simp only[ZE,BL];lia
 have lw:∀t,N_ t l=if CZ! then l.x else 0:=Nk! (AB np)
 rcases kk with⟨k,x1⟩|⟨k,x1,ne⟩|⟨k,x1,eg⟩|⟨k,_⟩;· by_cases c:l.th.1=G.BP;(.have JM:=x.there hl (hC (by rw[k];decide +kernel)) hi (by rw[BK g0,c,nu]);refine⟨Jha G l.th (G5!),Sc k (Bv! c _ (M8 JM) rfl),J9! s.nK JM _ cZ Na!⟩;show Hg! (Jk! G.AH G5!) M?;rw[es,Fv,Di,lw];by_cases d:Dl!;(.rw[AE d,Bw!,d];lia);.rw[AB d,CA!];lia);.have r0:=Jz s.nn l.th;refine⟨Jhb G l.th (EV!),Sc k (P? c rfl),J9! s.nQ c g! cZ (by have:=Kj G.AI l.th (EV!);show(Bj G.AI l.th _).length+_<=_;lia)⟩;show Cd! (Jk! G.AI EV!-Rs+Cz t M?);rw[es,Fv,Di,lw];by_cases d:Dl!;(.rw[AE d,Bw!,d];lia);.rw[AB d,CA!];lia
 · (have c:l.th.1≠G.BP:=H! nu (Nq! ne));have r0:=Jz s.nn l.th;refine⟨Nc G l.th (EV!),Ab! ⟨k,rfl⟩,J9! s.gI c g! cZ (by have:=Kj G.AI l.th (EV!);show(Bj G.AI l.th _).length+_<=_;lia)⟩;show Cd! (Jk! G.AI EV!-Rs+Cz t M?);rw[es,Fv,Di,lw];by_cases d:Dl!;(.rw[AE d,Bw!,d];lia);.rw[AB d,CA!];lia
 · by_cases JM:N5!;(·(have e1:WC G l.th l.x=Bj G.AH l.th (G5!):=M1! (AE JM));refine⟨fw G l.th (G5!),Af! ⟨k,c? e1⟩,Mr! (s.out JM _) cZ Na!⟩;show Hg! (Jk! G.AH G5!) M?;rw[es,Fv,Di,lw];by_cases d:Dl!;(.rw[AE d,Bw!,d];lia);.rw[AB d,CA!];lia);·(have e1:WC G l.th l.x=G.AH:=M1! (AB JM));refine⟨IZ G,Af! ⟨k,c? e1⟩,x.next hi s.up.tk rfl cZ Ep! (Na!)⟩;show Cd! (h?-Rs+Cz t M?);rw[es,Fv,lw];by_cases d:CZ!;(.exact BT! (x.there hl (S! d ht) hi (W? (BK g0) eg)) JM);.rw[AB d];lia
 .exact KS!
theorem Sd.pass(s:q?)(JM:xL)(hi:cE m tb)(sh:Int)(HD:Bool):Tk (Gw G tb sh HD):=by
 have okh:DN! (I2! IT!):=by cases HD;(.exact s.ok.mono (EN n));.exact FX.Ok.aM s.ok λ_=>JM
 refine(s.of (FX.Ok.AH (G:=I2! IT!) okh JM _) rfl rfl Ep! (λq hq t ht=>AX!) s.nn CE! CY!).tk;have ht:t∈IT!:=ht;unfold WX at ht;cases HD;.exact GI!
 .rcases Uf with ht|ht;(.exact GI!);.rw[ht];exact P? hi (λe=>BT! (s.ok.new tb JM).1 e)
theorem Wl.pass(x:u?){a b:C?}{l:LT}(es:N0!)(hp:G4!)(hC:C l.th)(hi:AT (qs[l.th.1.toNat]?)):N5! /\ (l.x=l.th.1->Ot! Wl C true (s?++[Cf!])) /\ (l.x≠l.th.1->Ot! Wl C false (HS! (s?++Gv!))):=by
 have hl:Ca!:=Jx!
 obtain⟨g0,g1,ib,kk⟩:=x.ok l hl;obtain⟨s,nu⟩:=x.sd _ q G hi;have hs:=x.sh;have JM:=x.there hl hC hi (BK ib.1.1).symm;have cZ:∀z∈s?,K' m z:=λz hz=>x.ok z (S! es JN!);have len:(a++b).length+1=ls.length:=by rw[es];simp only[ZE,BL];lia
 have fin:l.g=l.th.1/\0<=l.x/\l.x<m/\0<=l.s/\l.s<m/\l.s≠l.th.1:=by rcases kk with⟨h,_⟩|⟨h,_⟩|⟨h,_⟩|⟨_,h⟩;(.rw[hp] at h;exact HV! Dq);(.rw[hp] at h;exact HV! Fd);(.rw[hp] at h;exact HV! Fe);.exact h
 obtain⟨eg,x0,x1,s0,s1,sne⟩:=fin;have xP:K' m Cf!:=⟨s0,s1,ib,Ab! ⟨rfl,lc (1<=sh),sne⟩⟩;have okH:K' m Py!:=⟨x0,x1,ib,K! (S? (lc (1<=sh)))⟩;have xc:∀t,N_ t l=Gw! CZ! 1:=Nk! (AE hp)
 have xg:∀t,N_ t Cf!=if CZ! then sh else 0:=Nk! (AB Fd)
 have lwH:∀t,N_ t Py!=if CZ! then sh else 0:=Nk! (AB Dq)
 refine⟨JM,λ_=>x.next hi (Sd.pass s JM ib sh true) rfl (Kl cZ xP) PB! ?_,λ_=>x.next hi (Sd.pass s JM ib sh false) rfl (Kl (Kl cZ okH) xP) PB! ?_⟩;.show Hg! (P! (cY G l.th sh true)) _;unfold cY;rw[Hm,es,Fv,Di,xc,xg,UF];by_cases d:Dl!;(.rw[AE d,Bw!,Bw!,d];lia);.rw[AB d,CA!,CA!];try lia
 .rw[ZE,D_];show PX!;lia
 .show Hg! (P! (cY G l.th sh false)) _;unfold cY;rw[Hm,Hm,es,Fv,Di,xc,xg,lwH,AB AY];by_cases d:Dl!;(.rw[AE d,Bw!,Bw!,d];lia);.rw[AB d,CA!,CA!];try lia
 .rw[ZE,ZE,D_,D_];show PX!;lia
universe E
def Ih(i:Int)(y:CM!):LT:=⟨re,i,y.1.1,y.1,y.2⟩
theorem Y3(q:CM!)(l:J!)(t:T2):P! (q::l)=CO! Z! q.2 Ed!:=by
 unfold Ai;rw[BX];by_cases e:Z!;.rw[decide_eq_true e,XV];rfl
 .rw[decide_eq_false e,KF]
theorem Rj(i:Int)(t:T2):∀{l:J!},N? l.map->(∀q∈l,0<=q.2)->Cz t ((l.filter (Op (0<q.2))).map (Ih i))=Ed!
 | [],_,_=>rfl
 | q::l,nd,nn=>by have KZ:=AD!;have ih:=Rj i t KZ.2 λr hr=>nn r (ZD _ hr);have q0:=nn q (v6);rw[Y3,DH];(have lw:N_ t (Ih i q)=Gw! Z! q.2:=by unfold N_;rw[AB (show ¬(Ih i q).kind=FS from Fe)];rfl);by_cases c:0<q.2;(.rw[AE (decide_eq_true c)];show N_ t (Ih i q)+Cz t _=_;rw[lw,ih];by_cases e:Z!;(.rw[XV,XV,C9! E4 KZ.1];lia);.rw[KF,KF];lia);.rw[AB (DY!),ih];by_cases e:Z!;(.rw[XV,C9! E4 KZ.1];lia);.rw[KF]
theorem Q4(p:a.Perm b)(nd:N? b.map)(t:T2):P! a=P! b:=by
 have oK:N? a.map:=(p.map _).nodup_iff.mpr nd;by_cases c:w! b.map;.obtain⟨q,hq,e⟩:=ZN c;have h1:=HN nd hq;have h2:=HN oK (p.mem_iff.mpr hq);rw[e] at h1 h2;unfold Ai;rw[h1,h2]
 .rw[E4 c,E4 λz=>c ((p.map _).mem_iff.mp z)]
theorem M9(P:Ew!):∀l:B?,wP l.filter P+wP l.filter (λx=>! P x)=l.length
 | []=>rfl
 | x::l=>by have:=M9 P l;rw[DH,DH];cases e:P x<;>simp<;>lia
universe S
variable {C:T2->Prop}{m n:Nat}{sh:Int}{qs:List (Addr×BZ)}{ls:List LT}{i:Nat}{q:Addr}{G M:BZ}
theorem Wl.clean(x:u?)(hi:X!)(hC:∀t∈AM!,C t){k:Nat}{R:A!}(rc:KD!){rs:J!}(pm:AF!) : IC! (Jd G R) (Pf! o?):=by
 obtain⟨s,nu⟩:=DL!;refine x.next hi (s.clean (s.ok.clean rc)) rfl (λz hz=>?_) PB! ?_;.rcases AY! with hz|hz;(.exact x.ok z hz);.obtain⟨y,hy,rfl⟩:=ZN hz;obtain⟨jY,qw⟩:=AD.mp hy;have qv:=pm.mem_iff.mp (AD.mp jY).1;have im:=s.ir y.1 (AF.mpr ⟨y,qv,rfl⟩);exact⟨im.1.1,im.2,im,FS! ⟨rfl,by have:=BR qw;show 1<=y.2;lia,rfl⟩⟩
 .rw[Hn];have aq:Od!:=(pm.map _).nodup_iff.mpr s.ok.rn;have e1:Cz t ((Cb o? rs).map (Ih V!))=P! (PO! C5!) :=Rj V! t (aq.sublist (List.filter_sublist.map _)) λr hr=>s.nn r (pm.mem_iff.mp C1!);rw[e1,Em rs (λt=>! Hb!) t,Q4 pm s.ok.rn];show Cd! (OK! C5!-P! (Bb! G.AH.filter Bp!)+_);rw[LS! Hb!,Em G.AH (Z? FM) t];(have e2:(Gw! (OE!=true) Rs)=Rs:=by by_cases c:FM;(.rw[AE (decide_eq_true c)]);.rw[AB (DY!)];have h1:=x.gp hi t (hC t);by_cases d:Ax!;(.have h2:¬O4!:=λz=>c (rc.sub.2 t (by unfold startT Ms;refine Bf! (ZC _ (AD.mpr ⟨d,Bl! z⟩)) ?_;rw[s.ok.ke];exact Bl! d));lia);.rw[E4 d]);rw[e2];cases Hb!;(.rw[Cz!,AE (by rfl)];lia);.rw[UF,Cz!];lia
 .rw[ZE,ZA];have h1:K7! o? (rs.filter λq=>! C5!).length:=AW _ _;have h2:=(pm.filter λq=>! C5!).length_eq;have h3:=M9 (λq:T2×Int=>C5!) G.AI;show(G.AI.filter λq=>C5!).length+_<=_;lia
theorem Wl.good(x:u?)(hn:n<=60)(hi:X!):Good G:=by obtain⟨s,nu⟩:=DL!;have h1:=s.ok.hz;have h2:=s.ok.oz;have h3:=s.ok.rz;refine⟨s.ok.hn,F!,s.ok.on,F!,s.ok.rn,F!,Gp!⟩;obtain⟨a,fd⟩:=Pj (l:=G.holds) (t:=r.1) (S! s.ok.ke (SZ (Ae! rfl)));obtain⟨g1,g2,_⟩:=s.ok.get r.1;exact⟨a,_,fd,g1,F!⟩
universe E
inductive SF(qs:q!)(t:T2):Prop
 | mk (j:Nat) (q:Addr) (G:BZ) (_:AT (qs[j]?)) (_:Ax!)
structure OQ(qs:q!)(ls:C?)(X:FC!):Prop where
 hand:N6! (Cl! (¬X t))
 SN:CJ! (Gi! (¬X l.th))
 hold:N6! (∀r∈G.holds,NW! (X t->X r.1))
 old:N6! (∀t,X t->t.1=Be!->t.2<G.AO)
def LG(qs:q!)(ls:C?)(xE:q!)(LF:C?):Prop:=∀X,CI! X->OQ xE LF X
theorem LG.refl(qs:q!)(ls:C?):DX! qs ls:=λ_ h=>h
def SR(ls:C?)(j:Int)(t:T2):Prop:=∃l∈ls,CZ!/\((G4!/\l.s=j)\/(l.kind=Al!/\l.g=j))
def SQ(qs:q!)(ls:C?):Prop:=N6! (∀t,WF->Jy!->1<=h?\/SR ls Be! t)
universe S
variable {qs:List (Addr×BZ)}{ls LF:List LT}{i:Nat}{q:Addr}{G G':BZ}{X:T2->Prop}
theorem Eg{l:q!}{j:Nat}{q':Addr}{G2:BZ}(e:(l.set i (q,G'))[j]?=some (q',G2)):(j=i/\G2=G'/\q'=q)\/(j≠i/\l[j]?=some (q',G2)):=by
 rw[FD] at e;by_cases z:i=j;.rw[AE z] at e;by_cases z2:i<l.length;(.rw[AE z2] at e;have:(q,G')=(q',G2):=ZO e;exact K! ⟨z.symm,(Prod.mk.inj this).2.symm,(Prod.mk.inj this).1.symm⟩);.rw[AB z2] at e;cases e
 .rw[AB z] at e;exact P? (λy=>z y.symm) e
theorem OQ.next(x:CI! X)(hi:X!)(h1:NS! (BM!\/¬X t))(h2:∀l∈LF,Gi! (Ca!\/¬X l.th))(h3:∀r∈G'.holds,NW! ((∃r0∈G.holds,r0.1=r.1/\NV!)\/¬X t))(h4:G.AO<=G'.AO):OQ Mc! LF X:=by
 refine⟨λj q' G2 e t ht=>?_,λl hl nb=>?_,λj q' G2 e r hr t ht xt=>?_,λj q' G2 e t xt et=>?_⟩;.rcases Eg e with⟨_,e2,_⟩|⟨_,e⟩;(.rw[e2] at ht;rcases h1 t ht with h|h;(.exact x.hand i q G hi t h);.exact h);.exact x.hand j q' G2 e t ht
 .rcases h2 l hl nb with h|h;(.exact x.SN l h nb);.exact h
 .rcases Eg e with⟨_,e2,_⟩|⟨_,e⟩;(.rw[e2] at hr;rcases h3 r hr t ht with⟨r0,m0,e0,t0⟩|h;(.rw[<-e0];exact x.hold i q G hi r0 m0 t t0 xt);.exact absurd xt h);.exact x.hold j q' G2 e r hr t ht xt
 .rcases Eg e with⟨ej,e2,_⟩|⟨_,e⟩;(.rw[e2];have:=Hu! x.old xt (W? et ej);lia);.exact x.old j q' G2 e t xt et
theorem LG.less(hi:X!)(h1:NS! BM!)(h2:∀l∈LF,Gi! Ca!)(h3:∀r∈G'.holds,∀t∈Go,∃r0∈G.holds,r0.1=r.1/\NV!)(h4:G.AO<=G'.AO):Op! LF :=λX x=>x.next hi (OL! (h1 t ht)) (λl hl nb=>K! (DH! h2)) (GH! (G! (h3 r hr t ht))) h4
theorem SQ.next(x:SQ qs ls)(hi:X!)(hp:∀(j:Nat) t,j≠i->SR ls Be! t->SR LF Be! t)(h':∀t,QP G' t->t.1≠V!->1<=P! G'.AI\/SR LF V! t):NH! SQ LF:=by
 intro j q' G2 e t ht ne;rcases Eg e with⟨ej,e2,_⟩|⟨ne2,e⟩;.subst ej;rw[e2] at ht ⊢;exact h' t ht ne
 .rcases x j q' G2 e t ht ne with h|h;(.exact a!);.exact Y! (hp j t ne2 h)
theorem SR.mono(h:CJ! (l∈LF))(p:SR ls j t):SR LF j t:=let⟨l,hl,r⟩:=p;⟨l,h l hl,r⟩
theorem SQ.less(x:SQ qs ls)(hi:X!)(hl:CJ! (l∈LF))(h':∀t,QP G' t->t.1≠V!->WF/\h?<=P! G'.AI):NH! SQ LF :=x.next hi (λj t _ p=>p.mono hl) λt ht ne=>by obtain⟨h1,h2⟩:=h' t ht ne;rcases Hu! x h1 ne with h|h;(.exact SB G!);.exact Y! (h.mono hl)
universe E
structure Wg(D:FC!)(m n:Nat)(sh:Int)(qs:q!)(ls:C?):Prop where
 wl:Hi! Wl (λt=>IK! qs) n
 sD:CI! D
 rc:SQ qs ls
theorem Wl.mono{C C':FC!}{m n:Nat}{sh:Int}{qs:q!}{ls:C?}(x:u?)(h:∀t,C' t->C t):Hi! Wl C' n:=⟨x.len,x.ck,x.sd,x.ok,λt c=>x.sum t (h t c),x.sh⟩
universe S
variable {D:T2->Prop}{m n:Nat}{sh:Int}{qs:List (Addr×BZ)}{ls LF:List LT}{i:Nat}{q:Addr}{G G':BZ}
theorem SF.set(hi:X!){t:T2}(h:SF Mc! t):SF qs t\/w! G'.AH.map:=by
 obtain⟨j,q',G2,e,m⟩:=h;rcases Eg e with⟨_,e2,_⟩|⟨_,e⟩;.rw[e2] at m;exact D! m
 .exact K! ⟨j,q',G2,e,m⟩
theorem Wg.step(x:AC)(hi:X!)(w:Wl (λt=>IK! qs) m (n+1) sh (HL! G') LF)(ho:∀t∈h! G'.AH.map,Ax!\/¬D t)(st:Op! LF)(rc:NH! SQ LF):P2! G' LF :=⟨w.mono λt h=>by rcases h with h|h;(.exact a!);.rcases h.set hi with h|h;(.exact Cw!);.rcases ho t h with h|h;(.exact D! ⟨i,q,G,hi,h⟩);.exact a!,st D x.sD,rc⟩
theorem Wg.BP(x:AC)(hi:X!):q?/\G.BP=V!:=x.wl.sd i q G hi
theorem Xk(hi:X!)(nu:G.BP=V!)(a:Addr):ND! (IZ Fl!) ls:=λX x=>by (have nx:¬X m?:=λz=>by have:=x.old i q G hi _ z nu;simp at this);refine x.next hi Ep! (λl hl _=>K! hl) (GH! ?_) (lc (G.AO<=AO!));(.have ht:NU!:=ht;rcases ZI ht with h|h;(.exact a!);.rw[ZK h];exact D! nx);.have hr:r∈CD!:=hr;rcases BC! with h|h;(.exact EZ! h);.rw[ZK h] at ht;cases ht
theorem Wg.make(x:AC)(hi:X!)(hn:n<60)(a:Addr):Wg D m (n+1) sh (HL! (IZ Fl!)) ls:=by
 obtain⟨s,nu⟩:=BF!;refine x.step hi (x.wl.make hi hn a) Ep! (Xk hi nu a) (x.rc.less hi (λl h=>h) λt ht ne=>?_);.have ht:t∈(G.AH++[((m?,0):CM!)]).map (v4):=ht;rw[ZF] at ht;rcases ZI ht with h|h;(.exact a!);·(have e:EJ!:=d?);refine D! (λz=>?_);rw[e] at z;have:=x.sD.old i q G hi _ z nu;simp at this
 .refine⟨?_,TD⟩;rcases ht with h|⟨r,hr,h⟩;(.have h:NU!:=h;rcases ZI h with h|h;(.exact a!);·(have e:EJ!:=d?);exact absurd (H! e nu) ne);.have hr:r∈CD!:=hr;rcases BC! with hr|hr;(.exact D! (Ae! h));.rw[ZK hr] at h;cases h
theorem Mz(h:t∈Bp l ta):∃r0∈l,r0.1=ta/\NV!:=by unfold Bp at h;cases e:Db! l.find? (q.1=ta) with | none=>rw[e] at h;cases h | some r =>rw[e] at h;exact⟨r,AJ e,Ge! (DE e),h⟩
theorem Gi(hr:r∈C7 l ta h):(r.1=ta/\Go=h)\/r∈l:=by
 unfold C7 at hr;obtain⟨r0,m0,e⟩:=ZN hr;by_cases c:r0.1=ta;.rw[j!] at e;exact Sc (Nb! c) (by rw[<-e])
 .rw[o!] at e;exact C9! Y! m0
theorem Wg.hold(x:AC)(hi:X!){ta tb:T2}(hb:AR!):NL! (Nd G ta tb) (JS! Nd):=by
 obtain⟨s,nu⟩:=BF!;have st:JS! Nd:=λX y=>FQ! y.next (OL! ht) (λl hl _=>K! hl) (by rcases Gi hr with⟨e1,e2⟩|h;(.rw[e2] at ht;rcases Uf with h|h;(.obtain⟨r0,m0,e0,t0⟩:=Mz h;exact Bv! r0 m0 (W? e0 e1) t0);.rw[h];exact Y! (y.hand i q G hi tb hb));.exact EZ! h);refine MZ! (s.hold hb);rcases ht with h|⟨r,hr,h⟩;.exact a!
 .rcases Gi hr with⟨e1,e2⟩|h2;(.rw[e2] at h;rcases DG.mp h with h|h;(.exact G7 h);.rw[h];exact K! hb);.exact KQ! h2
theorem Wg.drop(x:AC)(hi:X!)(ta tb:T2):NL! (K7 G ta tb) (JS! K7):=by
 obtain⟨s,nu⟩:=BF!;have key:∀r∈(K7 G ta tb).holds,∀t∈Go,∃r0∈G.holds,r0.1=r.1/\NV!:=GH! (by rcases Gi hr with⟨e1,e2⟩|h;(.rw[e2] at ht;obtain⟨r0,m0,e0,t0⟩:=Mz Fd!;exact⟨r0,m0,W? e0 e1,t0⟩);.exact Kp! h)
 have st:JS! K7:=LG.less hi (λt ht=>ht) (λl hl _=>hl) key (BD _);refine MZ! (s.drop ta tb);rcases ht with h|⟨r,hr,h⟩;.exact a!
 .obtain⟨r0,m0,_,t0⟩:=key r hr t h;exact D! ⟨r0,m0,t0⟩
theorem Wg.take(x:AC)(hi:X!){ta tb:T2}(ha:De!)(hb:tb∈Bp G.holds ta):NL! (Na G tb) (JR! Na):=by
 obtain⟨s,nu⟩:=BF!;have st:JR! Na:=λX y=>FQ! y.next (AL! (by rcases Uf with h|h;(.exact a!);.refine D! (λz=>?_);rw[h] at z;obtain⟨r0,m0,e0,t0⟩:=Mz hb;exact y.hand i q G hi ta ha (Gj! e0 (y.hold i q G hi r0 m0 tb t0 z)))) (λl hl _=>K! hl) (EZ! hr);refine MZ! (s.take hb);rcases ht with h|h;.rcases DG.mp h with h|h;(.exact a!);.rw[h];exact G7 hb
 .exact Cw!
theorem Wg.free(x:AC)(hi:X!)(tb:T2):NL! (Nf G tb) (JR! Nf):=by
 obtain⟨s,nu⟩:=BF!;have st:JR! Nf:=FQ! LG.less (AL! Fd!) (λl hl _=>hl) (Kp! hr);refine MZ! (s.free tb);rcases ht with h|h;.exact K! (HM.mp h).1
 .exact Cw!
theorem Pu(hi:X!){l:LT}(hb:l.th∈G.hand)(h1:G'.hand=G.hand)(h2:G'.holds=G.holds)(h3:G'.AO=G.AO):Op! (ls++[l]):=λX y=>y.next hi (AL! (G! (K? h1 ht))) (λl' hl _=>by rcases ZI hl with h|h;(.exact a!);.rw[ZK h];exact Y! (y.hand i q G hi _ hb)) (GH! (EZ! (K? h2 hr))) (S! h3 TD)
theorem uH(h1:G'.hand=G.hand)(h2:G'.holds=G.holds)(h:QP G' t):WF:=by unfold QP at *;rw[h1,h2] at h;exact h
theorem Wg.RB(x:AC)(hi:X!){b:T2}(hb:GD!)(hn:b.1=G.BP){g:Int}(g0:0<=g)(g1:g<m):NK! LN! (ls++[Ik!]) (ND! LN! (ls++[Ik!])):=by
 obtain⟨s,nu⟩:=BF!;have st:=Pu (ls:=ls) (G':=LN!) (l:=Ik!) hi hb rfl rfl rfl;refine Pw! (x.wl.RB hi hb hn g0 g1) ?_ x.rc.less Cu! ⟨uH (G:=G) rfl rfl ht,TD⟩;have ht:w! (Bj G.AH b (Ai G.AH b+sh)).map:=ht;rcases E9! with h|h;.rw[h];exact s.ok.hk b hb hn
 .exact h
theorem Wg.SY(x:AC)(hi:X!){b:T2}(hb:GD!)(hf:NY!){g:Int}(g0:0<=g)(g1:g<m)(w2:2<=Im!) : NK! LO! (FU! V? g Bi!) (ND! LO! (FU! V? g Bi!)):=by
 have st:=Pu (ls:=ls) (G':=LO!) (l:=Kv! V? g Bi!) hi hb rfl rfl rfl;refine P0! (x.wl.SY hi hb hf g0 g1 w2) x.rc.next (λj t _ p=>p.mono Cu!) ?_;show 1<=Du! G.AI b _\/_;rw[Di];by_cases c:t=b;.rw[j!];exact SB G!
 .rw[o!];rcases Hu! x.rc (uH (G:=G) rfl rfl ht) ne with h|h;(.exact a!);.exact Y! (h.mono Cu!)
theorem Wg.RA(x:AC)(hi:X!){b:T2}(hb:GD!)(hf:NY!){g:Int}(g0:0<=g)(g1:g<m)(w1:Im!=1) : NK! (Nc G b 0) (FU! FS b.1 g) (ND! (Nc G b 0) (FU! FS b.1 g)):=by
 have st:=Pu (ls:=ls) (G':=Nc G b 0) (l:=Kv! FS b.1 g) hi hb rfl rfl rfl;refine P0! (x.wl.RA hi hb hf g0 g1 w1) x.rc.next (λj t _ p=>p.mono Cu!) ?_;show 1<=Du! G.AI b 0\/_;rw[Di];by_cases c:t=b;.exact D! ⟨_,ZC _ Ek!,c.symm,K! By!⟩
 .rw[o!];rcases Hu! x.rc (uH (G:=G) rfl rfl ht) ne with h|h;(.exact a!);.exact Y! (h.mono Cu!)
universe E
universe S
theorem Wj:BH! V? re:=ZV
theorem Iz:BH! FS re:=ZV
theorem Mu:BH! V? Al!:=ZV
theorem Mv:BH! re Al!:=ZV
theorem Ja:BH! re V?:=ZV
theorem Wi:BH! Al! V?:=ZV
theorem Wt.f'(h:Wt kind G tb x G'):(NS! (BM!\/(kind=V?/\t=tb)))/\G'.holds=G.holds/\G'.AO=G.AO/\NR!/\G'.BC=PP/\(∀t,h?=P! G'.AI\/(t=tb/\P! G'.AI=h?+x))/\(∀t∈h! G'.AH.map,Ax!) /\ (kind=Al!->Ai G'.AI tb=Ai G.AI tb+x)/\(kind=V?->Bo!->Ai G'.AI tb=Ai G.AI tb+x):=by
 have put:∀t,P! (Bj G.AI tb (O4 G.AI tb+x))=CO! (t=tb) (Ai G.AI tb+x) h?:=λt=>c? Di
 rcases h with⟨k,⟨c,o,f,e⟩|⟨c,e⟩⟩|⟨k,e⟩|⟨k,e⟩;.refine MP! Br! (G! (by rw[e])) Br! (Ic! Mu) (λ_ z=>BT! c z);(.rw[e] at ht;rcases Uf with h|h;(.exact a!);.exact P? k h);.rw[e] at ht;rcases E9! with h|h;(.rw[h];exact SZ (Ef! (AJ f)));.exact h
 .refine MP! Br! ?_ (Kr! ht) (Ic! Mu) (λ_ _=>by rw[e];show Ai FH! tb=_;rw[put,UF]);(.rw[e] at ht;rcases Uf with h|h;(.exact a!);.exact P? k h);.rw[e];show h?=P! FH!\/_;by_cases d:t=tb;(.exact P? d (by show P! FH!=_;rw[put,AE d,d]));.exact G! (W? put (AB d))
 .refine MP! (Kr! G8!) ?_ (Kr! ht) (λ_=>by rw[e];show Ai FH! tb=_;rw[put,UF]) (Ic! Wi);rw[e];show h?=P! FH!\/_;by_cases d:t=tb;(.exact P? d (by show P! FH!=_;rw[put,AE d,d]));.exact G! (W? put (AB d))
 .refine MP! (Kr! G8!) (G! (by rw[e])) Br! (Ic! Mv) (Ic! Ja);rw[e] at ht;have ht:w! (WC G tb x).map:=ht;unfold WC at ht;by_cases c:xL;(.rw[j!] at ht;rcases E9! with h|h;(.rw[h];exact c);.exact h);.rw[o!] at ht;exact ht
theorem Wg.wt(x:AC){a b:C?}{l:LT}(es:N0!)(np:l.kind≠FS)(hi:AT (qs[l.g.toNat]?)) : ∃G',Wt l.kind G l.th l.x G'/\Wg D m (n+1) sh K1! M?/\DX! K1! M?:=by
 have hl:Ca!:=Jx!
 have hC:Gi! (¬D l.th\/SF qs l.th):=λnb=>K! (DH! x.sD.SN);obtain⟨G',wt,w⟩:=x.wl.wt es np hC hi;obtain⟨h1,h2,h3,h4,_,h5,h6,h7,h8⟩:=wt.f';obtain⟨s,nu⟩:=BF!;obtain⟨g0,g1,ib,kk⟩:=x.wl.ok l hl;rw[BK g0] at nu;have sub:∀z∈s?,z∈ls:=λz hz=>H! es JN!
 have st:DX! K1! M?:=λX y=>y.next hi (AL! (by rcases h1 t ht with h|⟨k,e⟩;(.exact a!);.rw[e];exact D! (y.SN l hl (S! k Wj)))) (λz hz _=>K! (sub z hz)) (GH! (EZ! (K? h2 hr))) (S! h3 TD);have x1:1<=l.x:=by rcases kk with⟨_,h⟩|⟨_,h,_⟩|⟨_,h,_⟩|⟨k,_⟩;(.exact h);(.exact h);(.exact h);.exact KS!
 refine⟨G',wt,x.step hi w (OL! (h6 t ht)) st (x.rc.next hi (λj t ne p=>?_) λt ht ne=>?_),st⟩;.obtain⟨z,hz,e,c⟩:=p;rw[es] at hz;rcases AY! with hz|hz;(.exact Ia! (i? hz));.rcases ZM hz with hz|hz;(.rw[hz] at c;rcases c with⟨k,_⟩|⟨_,g⟩;(.exact KS!);.exact absurd (c? g) ne);.exact Ia! (ZC _ hz)
 .rw[BK g0] at ne;have r0:=Jz s.nn t;by_cases d:Dl!;(.subst d;rcases kk with⟨k,_⟩|⟨k,_⟩|⟨k,_,eg⟩|⟨k,_⟩;(.exact G! (CQ! (h8 k (S! nu ne))));(.exact G! (CQ! (h7 k)));(.exact BT! eg.symm ne);.exact KS!);·(have hd:WF:=by rcases ht with h|⟨r,hr,h⟩;(.rcases h1 t h with h|⟨_,h⟩;(.exact a!);.exact Ex! d);.exact KQ! (K? h2 hr));(have er:P! G'.AI=h?:=by rcases h5 t with h|⟨h,_⟩;(.exact h.symm);.exact Ex! d);rcases x.rc _ q G hi t hd (S! (BK g0) ne) with h|⟨z,hz,e,c⟩;(.exact G! (H! er h));.refine D! (Ia! ?_);rw[es] at hz;rcases AY! with hz|hz;(.exact i? hz);.rcases ZM hz with hz|hz;(.exact absurd (BL! e hz) d);.exact ZC _ hz
theorem Hv(JM:xL):∀t∈h! (cY G tb sh HD).map,Ax!:=IR (by unfold cY at ht;rcases E9! with h|h;(.rw[h];exact JM);.exact h)
theorem Wg.pass(x:AC){a b:C?}{l:LT}(es:N0!)(hp:G4!)(hi:AT (qs[l.th.1.toNat]?)):N5! /\ (l.x=l.th.1->Ot! Wg D true (s?++[Cf!])/\DX! (Mv! true) (s?++[Cf!])) /\ (l.x≠l.th.1->Ot! Wg D false (HS! (s?++Gv!))/\DX! (Mv! false) (HS! (s?++Gv!))):=by
 have hl:Ca!:=Jx!
 have nb:l.kind≠re:=H! hp Iz
 obtain⟨JM,p1,p2⟩:=x.wl.pass es hp (G! (DH! x.sD.SN)) hi;obtain⟨s,nu⟩:=BF!;obtain⟨g0,g1,ib,kk⟩:=x.wl.ok l hl;have sub:∀z∈s?,z∈ls:=λz hz=>H! es JN!
 have wc:∀(HD:Bool)(more:C?),(∀z∈more,z.th=l.th)->DX! (Mv! HD) (s?++more):=λHD more hm X y=>FQ! y.next (AL! (by have ht:t∈WX G l.th HD:=ht;unfold WX at ht;cases HD;(.exact G8!);.rcases Uf with h|h;(.exact a!);.rw[h];exact D! (DH! y.SN))) (λz hz _=>by rcases AY! with hz|hz;(.exact K! (sub z hz));.rw[hm z hz];exact D! (DH! y.SN)) (EZ! hr);have xD:∀(HD:Bool)(more:C?),(Cf!:LT)∈more->SQ (Mv! HD) (s?++more):=λHD more hm=>by (have pn:∀(j:Int) t,SR ls j t->SR (s?++more) j t:=λj t ⟨z,hz,e,c⟩=>by rw[es] at hz;rcases AY! with hz|hz;(.exact Ia! (i? (ZB _ hz)));.rcases ZM hz with hz|hz;(.rw[hz] at c e;rcases c with⟨_,c⟩|⟨k,_⟩;(.exact⟨_,ZC _ hm,e,D! (S? c)⟩);.rw[hp] at k;exact BT! k ZV);.exact Ia! (i? (ZC _ hz)));refine x.rc.next hi (λj t _ p=>pn _ t p) λt ht ne=>?_;(have hd:WF:=by rcases ht with h|h;(.have h:t∈WX G l.th HD:=h;unfold WX at h;cases HD;(.exact a!);.rcases DG.mp h with h|h;(.exact a!);.refine BT! ?_ ne;rw[h,BK ib.1.1]);.exact Cw!);rcases x.rc _ q G hi t hd ne with h|h;(.exact a!);.exact D! (pn _ t h)
 refine⟨JM,λe=>?_,λe=>?_⟩;·(have st:=wc true [Cf!] λz hz=>by rw[ZK hz]);exact Pr! (p1 e) (Hv JM t ht) (xD true _ Ek!)
 ·(have st:=wc false (HS! Gv!) λz hz=>by rcases AY! with hz|hz<;>rw[ZK hz]);have rn:=xD false (HS! Gv!) (ZC _ Ek!);rw[<-AQ] at st rn;exact Pr! (p2 e) (Hv JM t ht) rn
theorem Yv(h:QP (Jd G R) t):WF/\Hb!=true:=by
 rcases h with h|⟨r,hr,h⟩;.have h:BM!:=h;exact⟨a!,by unfold Br;rw[OB! (show t∈(keepR G R).hand from h)];rfl⟩
 .have hr:r∈(keepR G R).holds:=hr;refine A6! (KQ! C1!);unfold Br;have:NT! (keepR G R).holds.any:=LC.mpr (Ae! d?);rw[this,Bool.or_true]
theorem Wg.clean(x:AC)(hi:X!)(rc:KD!)(pm:AF!) : NK! (Jd G R) (Pf! o?) (Oq! (Jd G R) o?):=by
 have st:Oq! (Jd G R) o?:=FQ! LG.less (λt ht=>ht) (λl hl nb=>by rcases ZI hl with h|h;(.exact h);.obtain⟨y,_,rfl⟩:=ZN h;exact BT! rfl nb) (Kp! C1!);refine Pw! (x.wl.clean hi (AL! (D! ⟨i,q,G,hi,ht⟩)) rc pm) ?_ x.rc.less Cu! ?_;.exact Fb! ht
 .obtain⟨h1,h2⟩:=Yv ht;refine A6! h1;show h?<=OK! C5!;rw[LS! Hb!,AE h2];exact TD
universe E
universe E K63
universe N FX
open PySem PySem.Spec PyProof.Rows L2
universe S
theorem Yx(I:Hp! s)(e:Ap! d .dK kvs):∃o,L! s.heap.get? d o/\GN! (upd H d DJ!) s:=by
 have ok:=I.DM d _ e;obtain⟨_,_,vs,_,o,es,ep,g,_⟩:=id ok;refine⟨o,g,Lj I (w? e) (λxs z=>N7! e) (λy z=>N7! e) (λob v z=>by have:=I.base.NM d ob v z;rw[e] at this;cases this) (λps z=>N7! e) (A6! g)⟩;refine ok.ON (λc w' _ q=>q) (λc q=>?_) λc xs q=>?_;.rw[Ab λz=>by rw[z,e] at q;cases q];exact q
 .rw[Ab λz=>by rw[z,e] at q;cases q];exact q
theorem Jkn(I:Hp! s)(hg:A9! DJ!)(hd:o.data=.dict es ep):∃vs,KV kvs vs/\(d==sysModules)=false/\s.heap.DictAt (Bu X.prog X.w) d vs ep:=by obtain⟨g,z,lo,vs,rel,o',fO,fQ,g',c',q',k',p',n'⟩:=(AI! (DV X.prog X.w H s.heap d DJ!) (I.DM d _ hg));rw[g] at g';cases g';rw[hd] at q';injection q' with q1 q2;subst q1;subst q2;exact⟨vs,rel,lo,o,es,g,c',hd,k',p',n'⟩
universe E
def i4(d:Addr)(kvs:OI!)(o:Obj):It :=
 ⟨λi H=>A9! DJ!/\i<kvs.length,λi H x H'=>H'=H/\∃k,OC! (k,x),λi H=>A9! DJ!/\kvs.length<=i⟩
theorem Xg{P:Program}{w:World}{K:W.Frag}{tg:Expr}(d it:Addr)(kvs:OI!)(o:Obj)(es:Array DictEntry)(ep:Nat)(hd:o.data=.dict es ep):Turn P w K tg (i4 d kvs o) [it] it (λi h=>h.IsValIter it d i kvs.length ep) where
 mem:=t?
 obj:=λi h st b hb=>by
  have e:b=it:=by simpa using hb
  subst e
  obtain⟨oi,e,c,q⟩:=st
  exact⟨oi,e,λv z=>N7! q⟩
 keep:=λi h h' ⟨oi,e,r⟩ k=>⟨oi,k it Cg! oi e,r⟩
 item:=by
  intro X hP hw hc i AA s σ H E I hf st ⟨hg,hi⟩
  subst hP hw
  obtain⟨f0,f1,f2,f3,f4,f5⟩:=hf it (t?)
  obtain⟨vs,rel,lo,da⟩:=Jkn I hg hd
  have hl:kvs.length=vs.length:=A? rel
  have hx:OC! (kvs[i]):=by simp[hi]
  have hy:vs[i]?=some (vs[i]' g!):=by simp[show i<vs.length by lia]
  obtain⟨ek,rv⟩:=Az rel i _ _ hx hy
  have RJ:s.heap.IsValIter it d i vs.length ep:=K? hl st
  refine wpAny_pyNext_values_item RJ da (k:=(vs[i]' g!).1) (v:=(vs[i]' g!).2) hy λh' aW sb=>?_
  have I1:Hp! o0:=I.turned (t':=s.toks) (λb ob hb e=>(sb.2 b hb).trans e) f0 f1 f3 f4 f5
  obtain⟨oi,e,c,q⟩:=id aW
  exact wE (Y2 (s:=o0) e c q (sB) ⟨kvs[i].2,H,I1,rv,⟨rfl,kvs[i].1,hx⟩,S! hl aW,λb hb=>(hf b hb).1⟩)
 done:=by
  intro X hP hw hc i AA s σ H E I hf st ⟨hg,hi⟩
  subst hP hw
  obtain⟨f0,f1,f2,f3,f4,f5⟩:=hf it (t?)
  obtain⟨vs,rel,lo,da⟩:=Jkn I hg hd
  have hl:kvs.length=vs.length:=A? rel
  have RJ:s.heap.IsValIter it d i vs.length ep:=K? hl st
  exact wpAny_pyNext_values_end (I.ok.hd hc) RJ da (CQ! List.getElem?_eq_none_iff) λh' eb=>S? (I.turned (t':=s.toks) (λb ob hb e=>eb b ob hb e) f0 f1 f3 f4 f5)
 self:=λ_ _ _ _ _ st h=>wpAny_pyIter_valiter st h
universe S
def Jnl(td:TE):TI:=λσ H R=>td σ H λx H1=>∃p d kvs,x=Os/\L! H1 p DO!/\L! H1 d (.dK kvs)/\∀o,R (i4 d kvs o) (upd H1 d DJ!)
theorem Si{l:Expr}{td:TE}(hl:PE X l td):PI X tg l (Jnl td):=by
 intro AA s σ H R I h;refine DZ (hl AA s σ H _ I h) ?_;rintro v s1 ⟨x,H1,I1,r1,p,d,kvs,ex,hp,hd,hR⟩;subst ex;cases r1;obtain⟨o,g,I2⟩:=Yx I1 hd;obtain⟨z,lo,vs,rel,o',es,ep,g',c',q',k',p',n'⟩:=(AI! (DV X.prog X.w H1 s1.heap d (.dK kvs)) (I1.DM d _ hd));rw[g] at g';cases g';have hlen:kvs.length=vs.length:=A? rel;have da:s1.heap.DictAt (Bu X.prog X.w) d vs ep:=⟨o,es,g,c',q',k',p',n'⟩;have hv:s1.heap.IsValuesView p d:=(I1.DM p _ hp).1;refine wpAny_pyIter_values hv da ?_;have fresh:=I2.DM.fresh (ZG _);have I3:GN! (upd H1 d DJ!) { s1 with heap:=s1.heap.push (Ko! "dict_valueiterator" .fields (#[O! d,J? 0 0,J? vs.length 0,J? ep 0])) }:=I2.kept (t':=s1.toks) λb ob e=>ZT _ e;refine⟨s1.heap.objs.size,[s1.heap.objs.size],_,i4 d kvs o,_,rfl,I3,Xg d _ kvs o es ep q',(by rw[hlen];exact⟨_,ZU _ rfl,rfl,rfl⟩),NP!,hR o⟩;have e:b=s1.heap.objs.size:=by simpa using hb
 subst e;exact I2.UG (ZG _) fresh
universe E
theorem Q5{d:Addr}{kvs:OI!}{ob:Obj}{g:TG}{tb:TS}{D:Ends}{σ:L2.St}{H:Hp}(Pv:Nat->L2.St->Hp->Prop)(h0:Pv 0 σ H)(hf:∀i σ H,M8!->FP!->A9! (.GV ob (.dK kvs)))(hs:∀i k v σ H,OC! (k,v)->FP!->g v σ H (Lx! { D with nx:=FA!,ct:=FA!,bk:=D.nx }))(hd:∀σ H,Pv kvs.length σ H->K9!) : ∃W:Nat->Nat->L2.St->Hp->Prop,(∃m,W 0 m σ H)/\∀i m σ H,W i m σ H -> ((i4 d kvs ob).stop i H/\K9!)\/((i4 d kvs ob).go i H/\∃N:L2.St->Hp->Prop,(∀EV H',N EV H'->∃m',m'<m/\W a? m' EV H')/\∀x H',(i4 d kvs ob).TR i H x H'->g x σ H' (Lx! { D with nx:=N,ct:=N,bk:=D.nx })):=by
 refine LA! (λi m σ H=>m=kvs.length-i/\M8!/\FP!) kvs.length h0;rintro i m σ H ⟨rfl,hi,pv⟩;have fz:=hf i σ H hi pv;by_cases JL:i<kvs.length;.refine D! ⟨⟨fz,JL⟩,FA!,λEV H' p'=>⟨kvs.length-a?,F!,rfl,JL,p'⟩,λx H' y=>?_⟩;obtain⟨e,k,ek⟩:=y;subst e;exact hs i k x σ _ ek pv
 ·(have e:i=kvs.length:=F!);subst e;exact Sc ⟨fz,wp⟩ (hd σ H pv)
universe S
universe E
theorem uJ(h1:JT a b)(h2:JT b c):JT a c:=by rw[E3] at *;lia
theorem V8(h:a≠b)(h1:¬JT a b):JT b a:=by rw[E3] at *;have:¬(a.1=b.1/\a.2=b.2):=λz=>h (Prod.ext z.1 z.2);lia
theorem L4(key:ca)(x:α):∀{s:B?},(s.map key).Pairwise JT->(∀y∈s,key x≠key y)->∃s':B?,NM! (s'.Perm (x::s)) s'.map
 | [],_,_=>Jv! [x]
 | y::s,h,ne=>by have h':=EW.mp h;by_cases e:JT (key x) (key y);(.refine⟨x::y::s,GR!,K8! h⟩;rcases ZM hz with rfl|hz;(.exact e);.exact uJ e (h'.1 z hz));.obtain⟨s',p,q⟩:=L4 key x h'.2 (Jz! ne);refine⟨y::s',(p.cons y).trans (List.Perm.swap x y s),K8! q⟩;obtain⟨u,hu,rfl⟩:=ZN hz;rcases ZM (p.mem_iff.mp hu) with rfl|hu;(.exact V8 (ne y Dr!) e);.exact h'.1 _ (BJ hu)
theorem sorts(key:ca):Ju! (l.map key).Nodup (∃s:B?,NM! (s.Perm l) s.map)
 | [],_=>Jv! []
 | x::l,nd=>by have KZ:=AD!;obtain⟨s,p,q⟩:=sorts key KZ.2;obtain⟨s',p',q'⟩:=L4 key x q λy hy e=>EY! KZ.1 ⟨y,p.mem_iff.mp hy,e.symm⟩;exact⟨s',p'.trans (p.cons x),q'⟩
theorem NK{a b c:Str}{k:NameKind}{cl:Eb!}{y:Str}(hc:JV!)(h:KG! .cell\/KG! .free):Fw! :=Lz! (by simp only[BV,CL,HK] at hp;rcases hp with rfl|rfl|rfl;(.rcases hk with hk|hk<;>cases hk);(.rcases hk with hk|hk<;>cases hk);.exact hc)
theorem Zh{K:W.Frag}{a p:Addr}{xs:B!}{tt:TT}{te:TE}{caps:List (Str×Nat)}{σ:L2.St}{H:Hp}{Q:Hp->Prop}(Pv:Nat->B!->Hp->Prop)(h0:Pv 0 [] (Mn! p))(hl:∀i ys H2,i<=xs.length->Pv i ys H2->CS K H2 a xs/\CW! H2 p)(hs:∀i x ys H2 (N:B!->Hp->Prop),xs[i]?=some x->Pv i ys H2->(∀ys H,Pv a? ys H->N ys H)->tt (Ny! D0!) H2 λb H4 =>CO! (b=true) (te (Ny! D0!) H4 (P6! (N (ys++[v]) P5!))) (N ys H4))(hd:∀ys H2,Pv xs.length ys H2->Q H2) : MD! (Lv! (Kq! (YY K a).stop (Q H2) ((YY K a).go i H2) (∀x H3,(YY K a).TR i H2 x H3->L4! (te (Ny! D0!) H4 Lh!)))):=by
 refine LA! (λi m ys H=>m=xs.length-i/\i<=xs.length/\Pv i ys H) xs.length h0;rintro i m ys H2 ⟨rfl,hi,pv⟩;obtain⟨q1,q2⟩:=hl i ys H2 hi pv;refine A6! q2;by_cases JL:i<xs.length;.refine P? ⟨xs,xs[i],q1,by simp[JL]⟩ (λx H3 y=>?_);obtain⟨e,y⟩:=y;subst e;exact hs i x ys _ (λzs H'=>∃m',m'<xs.length-i/\(m'=xs.length-a?/\i+1<=xs.length/\Pv a? zs H')) (y xs q1) pv λzs H' pz=>⟨_,F!,rfl,JL,pz⟩
 ·(have e:i=xs.length:=F!);subst e;exact Sc ⟨xs,q1,wp⟩ (hd ys H2 pv)
theorem Jn0:∀{ds:List PyData},(∀d∈ds,d.canLay0=true/\d.depth<=n)->PyData.canLayAll0 ds=true/\PyData.depthAll ds<=n
 | [],_=>⟨by simp[PyData.canLayAll0],by simp[PyData.depthAll]⟩
 | d::ds,h=>by obtain⟨h1,h2⟩:=Jn0 (Jz! h);obtain⟨h3,h4⟩:=h d (v6);exact⟨by simp[PyData.canLayAll0,h1,h3],by simp only[PyData.depthAll];lia⟩
theorem F3(ds:List PyData):PyData.eqv (.list ds) (.list [])=ds.isEmpty:=by cases ds<;>simp[PyData.eqv,PyData.eqvAll]
theorem Za(ds:List PyData):PyData.eqv (.tuple ds) (.tuple [])=ds.isEmpty:=by cases ds<;>simp[PyData.eqv,PyData.eqvAll]
theorem Uc:PyData.eqv (OL t) (OL u)=g? (t=u):=by obtain⟨a,b⟩:=t;obtain⟨c,d⟩:=u;unfold OL;simp only[PyData.eqv,PyData.eqvAll,Prod.mk.injEq];by_cases h1:a=c<;>by_cases h2:b=d<;>simp[h1,h2,PyData.eqv]
abbrev HS:=A!×xz×J!
inductive aA(K:W.Frag)(H:Hp)(v:V)(r:Dc!):Prop
 | mk (a t hd:Addr) (cs:M!) (_:v=Ch!) (_:CS K H a [O! t,y! KB,O! hd]) (_:Pm! r.1) (_:Hn! hd cs.map) (_:AZ H cs Go)
inductive aB(K:W.Frag)(H:Hp)(v:V)(q:CM!):Prop
 | mk (a t:Addr) (_:v=Ch!) (_:CS K H a [O! t,y! q.2]) (_:Pm! q.1)
inductive SE(K:W.Frag)(H:Hp)(x:Addr)(S:HS):Prop
 | mk (y1 y2 y3:Addr) (as:M!) (bs ds:B!) (_:CS K H x [O! y1,O! y2,O! y3]) (_:Hn! y1 as.map) (_:AZ H as S.1) (_:CS K H y2 bs) (_:Paired (aA K H) bs A1!) (_:CS K H y3 ds) (_:Paired (aB K H) ds S.2.2)
universe S
variable {K:W.Frag}{H H':Hp}
theorem aA.keep(k:AE!){v:V}{r:Dc!}(h:aA K H v r):aA K H' v r:=by obtain⟨a,t,hd,cs,e,e1,e2,e3,th⟩:=h;exact⟨a,t,hd,cs,e,k.sq e1,Ho!,k.sq e3,ww k th⟩
theorem aB.keep(k:AE!){v:V}{q:CM!}(h:aB K H v q):aB K H' v q:=by obtain⟨a,t,e,e1,e2⟩:=h;exact⟨a,t,e,k.sq e1,Ho!⟩
theorem SE.keep(k:AE!){x:Addr}{S:HS}(h:SE K H x S):SE K H' x S:=by obtain⟨y1,y2,y3,as,bs,ds,e,e1,t1,e2,t2,e3,t3⟩:=h;exact⟨y1,y2,y3,as,bs,ds,k.sq e,k.sq e1,ww k t1,k.sq e2,Aq (λ_ _ r=>r.keep k) t2,k.sq e3,Aq (λ_ _ r=>r.keep k) t3⟩
universe E
universe S
variable {p:Addr}{b:T2->Bool}{ts:List T2}{H:Hp}{tt:TT}{caps:List (Str×Nat)}{σ:L2.St}{Q:Hp->Prop}
theorem Y9{K:W.Frag}{l:Addr}{as:M!}(hp:C0!)(hz:Ng!)(hl:Hn! l as.map)(th:db)(ht:MQ! B4!)(k:∀(H2:Hp) (bs:M!),IN H2->Oe! H2 p->LV! ts.filter->Q H2) : MD! (Lv! (Kq! (YY K l).stop (Q H2) ((YY K l).go i H2) (∀x H3,(YY K l).TR i H2 x H3->L4! (ME! D0! Lh!)))):=by
 have lt:=Eu!;refine Zh (K:=K) (a:=l) (p:=p) (xs:=HY!) (caps:=caps) (λi ys H2=>Kb! i H2) (JY.start hp) (λi ys H2 _ pv=>?_) (λi x ys H2 N hx pv n=>?_) λys H2 pv=>?_;.obtain⟨bs,_,sm,GQ,_⟩:=pv;exact⟨(HC sm).sq hl,GQ⟩
 .rw[ZH] at hx;cases ea:as[i]? with | none=>rw[ea] at hx;cases hx | some a =>rw[ea] at hx;have hx:Nd!:=ZO hx;subst hx;obtain⟨t,et⟩:=Lg!;have ha:=ML! et;obtain⟨bs,e0,sm,GQ,RZ⟩:=id pv;exact tY hp hz ht pv et (Bx! ha) n
 .obtain⟨bs,ey,sm,GQ,RZ⟩:=pv;rw[ZA,lt,BS] at RZ;exact k H2 bs sm (K? ey GQ) RZ
universe E
inductive Jfj(K:W.Frag)(x:V)(vs:B!)(H:Hp)(Q:VK):Prop
 | mk l b xs zs (_:x=O! l) (_:vs=[Df!]) (_:Ap! l .BE xs) (_:CS K H b zs) (_:pi (xs.length+zs.length)) (_:Q .FH (BQ! l .BE (xs++zs)))
theorem Jak{X:Cx Kx}:fj X "list.extend" (Jfj Kx):=by
 intro AA s σ H x vs v us Q I rx rv h;obtain⟨l,b,xs,zs,rfl,rfl,hH,hB,hz,q⟩:=h;cases rx;obtain⟨u,rfl,ru⟩:=rv.one;cases ru;obtain⟨z,its,n,r,hl,e⟩:=I.VI hH;obtain⟨PX,r2,⟨o2,e2,c2,n2,q2⟩,z2⟩:=I.tuple hB;have l1:=r.length;have l2:=r2.length;have hsz:pi (its.toArray.size+PX.toArray.size):=by rw[BG,BG];lia
 have aH:¬(!its.toArray.isEmpty&&Builtin.List.listTooLong (its.toArray.size+PX.toArray.size))=true:=Aj! (Yf hsz) Bool.and_false AY
 refine DL F.slot_list_extend (Ef! e) F.entry_list_extend ?_ (F.args_list_extend_2 _ _);show wpAny _ _ (Builtin.List.listExtendWith (X? l) (X? b) .none) _ _ s;unfold Builtin.List.listExtendWith;refine ZR (wpAny_typeOf (T:=BW!) ⟨o2,e2,c2⟩ ?_);have ht:(Value.type BW! == Value.type BW!)=true:=by rfl
 rw[AE (by rw[ht];simp)];refine ZR (YH e2 q2 (ZR (YH e rfl ?_)));rw[AB aH];refine ZR (listUpdate_at e rfl ?_ (CQ! BG) (show(its.toArray++PX.toArray).size<=sizeLine+1 by rw[Array.size_append];exact J2! Di!));refine ZS (wE ⟨.FH,_,I.cK (its':=its++PX) hH e Cg! (r.append r2) ?_,rfl,q⟩);rw[ZE];assumption
def rowsOf(L:wT):xz:=L.flatMap B8!
def Gs(l:J!)(t:T2):Int:=(J5! CN!).getD 0
def addW(a:J!)(q:CM!):J!:=Bj a q.1 (Gs a q.1+q.2)
def Cr(L:wT):J!:=(L.flatMap No).foldl addW []
inductive Led(L:wT):FC!
 | hand {S:HS} {t:T2} (h:S∈L) (m:t∈S.1):DF!
 | out {r:Dc!} (h:r∈FD!) (m:KB≠Gs (Cr L) r.1):Led L r.1
 | step {r:Dc!} {u:T2} (h:r∈FD!) (m:u∈Go) (l:Led L r.1):Led L u
structure Found(L:wT)(ts:A!):Prop where
 pw:ts.Pairwise JT
 mem:∀t,B4!↔(w! H9!/\¬DF!)
universe E FX
universe N K63
open PySem L2 FX
def Jl(t:T2)(rs:J!):Int:=(rs.map λq=>Gw! Z! q.2).sum
theorem Tg(t:T2):∀(rs a:J!),Gs (rs.foldl addW a) t=Gs a t+Jl t rs
 | [],a=>by simp[Jl]
 | q::rs,a=>by rw[List.foldl_cons,Tg t rs];have e:Gs (addW a q) t=Du! a q.1 (Gs a q.1+q.2):=rfl;rw[e,Di];unfold Jl;rw[AK,CF];by_cases c:t=q.1;(.rw[j!,AE c.symm,c];lia);.rw[o!,AB (Nq! c)];show Gs a t+_=_;lia
theorem Jey(t:T2)(a b:J!):Jl t M?=Jl t a+Jl t b:=by unfold Jl;rw[ZF,JH]
theorem R6(t:T2):∀(L:wT),Jl t (L.flatMap No)=(L.map λS=>Jl t S.2.2).sum
 | []=>rfl
 | S::L=>by rw[BY,Jey,R6 t L,AK,CF]
theorem Tf(t:T2)(L:wT):Gs (Cr L) t=(L.map λS=>Jl t S.2.2).sum:=by unfold Cr;rw[Tg,R6];show 0+_=_;lia
theorem Xi{t:T2}:∀{rs:J!},Od!->Jl t rs=P! rs
 | [],_=>rfl
 | q::rs,nd=>by have KZ:=AD!;have ih:=Xi (t:=t) KZ.2;rw[Y3];unfold Jl at *;rw[AK,CF,ih];by_cases c:Z!;(.rw[j!,j!,I4! E4 c KZ.1];lia);.rw[o!,o!];lia
theorem K4{α:Type}{f:α->Int}{b:Ew!}:∀{l:B?},(∀x∈l,0<=f x)->((l.filter b).map f).sum<=(l.map f).sum/\∀j∈l,b j=false->((l.filter b).map f).sum+f j<=(l.map f).sum
 | [],_=>⟨t?,λj hj=>jp hj⟩
 | a::l,h=>by obtain⟨i1,i2⟩:=K4 (f:=f) (b:=b) (l:=l) λx hx=>h x (ZD _ hx);have h0:=h a (v6);rw[DH];cases c:b a with | true =>rw[UF,AK,CF,AK,CF];refine⟨F!,λj hj bj=>?_⟩;rcases ZM hj with e|hj;(.rw[e,c] at bj;cases bj);.have:=i2 j hj bj;lia | false =>rw[AB AY,AK,CF];refine⟨F!,λj hj bj=>?_⟩;rcases ZM hj with e|hj;(.rw[e];lia);.have:=i2 j hj bj;lia
def R_(t:T2)(qs:q!)(h:Nat):Int:=(qs[h]?.map λp=>P! p.2.AI).getD 0
def RU(t:T2)(qs:q!)(h:Nat):Int:=(qs[h]?.map λp=>P! p.2.AH).getD 0
theorem La(t:T2):∀(qs:q!),He t qs=Hw! qs.length (λh=>R_ t qs h)-Hw! qs.length (λh=>J7!)
 | []=>by simp[He]
 | p::qs=>by have ih:=La t qs;rw[BL,List.range_succ_eq_map];simp only[AK,AL,CF];(have e1:((λh=>R_ t (p::qs) h) ∘ Nat.succ)=λh=>R_ t qs h:=by funext h;simp[R_]);(have e2:((λh=>RU t (p::qs) h) ∘ Nat.succ)=λh=>J7!:=by funext h;simp[RU]);rw[e1,e2];show y? p.2+He t qs=_;rw[ih];unfold LY;(have e3:R_ t (p::qs) 0=P! p.2.AI:=by simp[R_]);(have e4:RU t (p::qs) 0=P! p.2.AH:=by simp[RU]);rw[e3,e4];lia
theorem Uh{f:Nat->Int}{h0:Nat}:∀{m:Nat},h0<m->(∀h,h≠h0->f h=0)->Hw! m f=f h0
 | 0,hl,_=>F!
 | m+1,hl,h=>by rw[EO,ZF,JH];simp only[AK,FL,CF,List.sum_nil];by_cases c:h0=m;(.subst c;(have:∀k,k<=h0->Hw! k f=0:=λk=>by induction k with | zero=>intro _;simp | succ k ih =>intro hk;rw[EO,ZF,JH,SB ih];simp only[AK,FL,CF,List.sum_nil];rw[h k (F!)];lia);rw[this h0 (ZG _)];lia);.rw[Uh (m:=m) g! h,h m (O0!)];lia
structure Jk(G:BZ)(S:HS):Prop where
 hand:Cl! (t∈S.1)
 row:∀t∈AM!,∃r∈A1!,r.1=t
 XQ:∀r∈A1!,r.1∈AM!/\KB=Ai G.AH r.1
 kU:∀r∈A1!,Ga! (q.1=r.1->∀t∈F?,t∈Go)
 AI:∀t,Jl t S.2.2=h?
 m6:∀t∈S.1,BM!
 mf:∀r∈A1!,NW! (t∈Bp G.holds r.1)
def Lb(m:Nat)(b:Hl!)(S1:Nat->HS):wT:=((List.range m).filter b).map S1
def GS(m:Nat)(b:Hl!)(S1:Nat->HS)(t:T2):Prop:=w! (rowsOf PD!).map/\¬Led PD! t
theorem NO{m:Nat}{b:Hl!}{S1:Nat->HS}{S:HS}:S∈Lb m b S1↔∃h,h<m/\b h=true/\S1 h=S:=by
 unfold Lb;rw[AF];constructor;.rintro⟨h,hh,e⟩;obtain⟨h1,h2⟩:=AD.mp hh;exact⟨h,BH.mp h1,h2,e⟩
 .rintro⟨h,h1,h2,e⟩;exact⟨h,Bf! (BH.mpr h1) h2,e⟩
theorem FY{L:wT}{r:Dc!}:r∈FD!↔∃S∈L,r∈A1!:=by unfold rowsOf;exact CU
universe S
variable {D:T2->Prop}{m n:Nat}{sh:Int}{qs:List (Addr×BZ)}{ls:List LT}
theorem Wg.snap(x:AC){b:Hl!}{S1:Nat->HS}(hs:∀(h:Nat) q G,AT (qs[h]?)->b h=true->Jk G (S1 h)):CI! (GS m b S1):=by
 have lm:=x.wl.len;have key:∀t,GS m b S1 t->(∃(h:Nat)(q:Addr)(G:BZ),AT (qs[h]?)/\b h=true/\t.1=wv/\Ax!)/\Cz t ls=0/\Kx! (b j=false) (h?=0):=λt ⟨ht,nl⟩=>by obtain⟨r,hr,e⟩:=ZN ht;obtain⟨S,hS,LP⟩:=FY.mp hr;obtain⟨h,hm,bh,e2⟩:=NO.mp hS;subst e2;obtain⟨⟨q,G⟩,eq⟩:=Dk! qs h g!;have T:=hs h q G eq bh;obtain⟨o1,o2⟩:=T.XQ r LP;obtain⟨s,nu⟩:=x.BP eq;rw[e] at o1 o2;(have t1:t.1=wv:=W? (KM! o1) nu);have ew:KB=Gs (Cr PD!) r.1:=Classical.byContradiction λz=>nl (Nb! (.out hr z));rw[e,Tf] at ew;(have eR:∀k,k<m->∃q G,AT (qs[k]?)/\Hy!=h?/\RU t qs k=Rs:=λk hk=>by obtain⟨⟨q,G⟩,eq⟩:=Dk! qs k g!;exact⟨q,G,eq,by unfold R_;rw[eq];rfl,by unfold RU;rw[eq];rfl⟩);(have eA:((Lb m b S1).map λS=>Jl t S.2.2).sum=(((List.range m).filter b).map λk=>Hy!).sum:=by unfold Lb;rw[AL];congr 1;refine BQ λk hk=>?_;obtain⟨h1,h2⟩:=AD.mp hk;obtain⟨q',G',OM,e3,_⟩:=eR k (BH.mp h1);show Jl t (S1 k).2.2=Hy!;rw[e3,(hs k q' G' OM h2).AI t]);rw[eA] at ew;(have xT:∀k∈List.range m,0<=Hy!:=λk hk=>by obtain⟨q',G',OM,e3,_⟩:=eR k (BH.mp hk);rw[e3];exact Jz (x.BP OM).1.nn t);(have sO:Hw! m (λk=>RU t qs k)=J7!:=Uh hm λk nk=>by by_cases hk:k<m;(.obtain⟨q',G',OM,_,e4⟩:=eR k hk;rw[e4];exact x.wl.gK (r:=(q',G')) OM (CQ! t1));.unfold RU;rw[SB CN];rfl);(have oh:J7!=Rs:=by unfold RU;rw[eq];rfl);have sm:=x.wl.sum t (Y! ⟨h,q,G,eq,o1⟩);rw[La,lm,sO,oh,<-o2] at sm;have l0:=Ly (t:=t) x.wl.ok;obtain⟨f1,f2⟩:=K4 (f:=λk=>Hy!) (b:=b) xT;refine⟨⟨h,q,G,eq,bh,t1,o1⟩,F!,λj q' G' OM bj=>?_⟩;(have hj:j<m:=A7! lm OM);have f3:=f2 j (BH.mpr hj) bj;(have e5:R_ t qs j=P! G'.AI:=by unfold R_;rw[OM];rfl);have nn5:=xT j (BH.mpr hj);rw[e5] at f3 nn5;lia
 have jP:∀t,GS m b S1 t->CJ! (l.th≠t):=λt ht l hl e=>by have:=Pt x.wl.ok hl;rw[e,(key t ht).2.1] at this;lia
 have yj:∀t,GS m b S1 t->Kx! (b j=false) (¬WF):=λt ht j q G eq bj hd=>by obtain⟨⟨h,q',G',OM,bh,t1,_⟩,_,z⟩:=key t ht;(have nj:Jy!:=λy=>by (have:h=j:=F!);rw[this,bj] at bh;cases bh);rcases x.rc j q G eq t hd nj with r|⟨l,hl,e,_⟩;(.have:=z j q G eq bj;lia);.exact jP t ht l hl e
 refine⟨λj q G eq t ht gs=>?_,λl hl _ gs=>jP _ gs l hl rfl,λj q G eq r0 U' t ht gs=>?_,λj q G eq t gs tj=>?_⟩;.cases bj:b j with | false=>exact yj t gs j q G eq bj (G! ht) | true =>(have hj:j<m:=A7! lm eq);exact gs.2 (.hand (NO.mpr ⟨j,hj,bj,rfl⟩) ((hs j q G eq bj).hand t ht))
 .cases bj:b j with | false=>exact absurd (Y! ⟨r0,U',ht⟩) (yj t gs j q G eq bj) | true =>(have hj:j<m:=A7! lm eq);have T:=hs j q G eq bj;obtain⟨s,nu⟩:=x.BP eq;obtain⟨r,hr,e⟩:=T.row r0.1 (K? s.ok.ke (SZ ⟨r0,U',rfl⟩));have mr:r∈rowsOf (Lb m b S1):=FY.mpr ⟨_,NO.mpr ⟨j,hj,bj,rfl⟩,hr⟩;refine⟨SZ ⟨r,mr,e⟩,λld=>gs.2 ?_⟩;exact .step mr (T.kU r hr r0 U' e.symm t ht) (H! e ld)
 .obtain⟨⟨h,q',G',OM,bh,t1,o1⟩,_⟩:=key t gs;(have:h=j:=F!);subst this;have e:(q',G')=BP!:=ZO (OM.symm.trans eq);obtain⟨s,nu⟩:=x.BP eq;exact(s.ok.new t (Gj! (M4! e) o1)).2
universe E
def Oe(G:BZ)(ts:A!):BZ:=Jc!
universe S
variable {D F:T2->Prop}{m n:Nat}{sh:Int}{qs:List (Addr×BZ)}{ls:List LT}{i:Nat}{q:Addr}{G:BZ}{ts:List T2}
theorem Wc{t:T2}(h:QP (Oe G ts) t):WF/\Ha!=true:=by
 rcases h with h|⟨r,hr,h⟩;.have h:BM!:=h;exact⟨a!,by unfold Br;rw[OB! (show t∈(Am G ts).hand from h)];rfl⟩
 .have hr:r∈(Am G ts).holds:=hr;refine A6! (KQ! C1!);unfold Br;have:NT! (Am G ts).holds.any:=LC.mpr (Ae! d?);rw[this,Bool.or_true]
theorem Jni(ok:I?)(h1:Cl! (t∉ts))(h2:∀r∈G.holds,r.1∉ts->NW! (t∉ts)):FB!:=by
 have sub:(G.AH.filter λq=>decide (Bq!)).Sublist G.AH:=FK;refine⟨ok.hn,ok.hz,ok.on.sublist (sub.map _),AV sub.length_le ok.oz,?_,ok.rn,ok.rz,λr hr=>ok.ln r C1!,IR (ok.new t ((sub.map _).subset ht)),Cq!,λr hr t ht e=>?_,ok.rk⟩;.show LE! Bq! Bq!;(have e1:h! (G.holds.filter (Op Bq!)).map=(G.holds.map T!).filter (Z? (t∉ts)):=c? QJ);(have e2:h! (G.AH.filter (Op Bq!)).map=JP! (Z? (t∉ts)):=c? QJ);rw[e1,e2,ok.ke]
 .have m:=ok.hk t ht e;obtain⟨o,ho,eo⟩:=ZN m;exact SZ ⟨o,Bf! ho (by rw[eo];simpa using h1 t ht),eo⟩
 .obtain⟨IB,LP⟩:=AD.mp hr;have m:=ok.lk r IB t ht e;obtain⟨o,ho,eo⟩:=ZN m;exact SZ ⟨o,Bf! ho (by rw[eo];simpa using h2 r IB (by simpa using LP) t ht),eo⟩
theorem Jm1(x:q?)(YM:FB!):Tk (Oe G ts):=by refine FW! (YM.HW.mono (EN n)) (D! ⟨q,Lf!,ht⟩) (H6! x.nn) (AL! (G! (Fb! ht))) (λt ht hk=>?_);obtain⟨q,hq,e⟩:=ZN hk;refine Ou! hq ?_ e;rw[e];exact(Wc (G:=G) (ts:=ts) ht).2
theorem Wg.vG(x:AC)(hi:X!)(sF:CI! F)(fD:∀t,F t->D t)(ht:∀t,B4!↔(F t/\t.1=V!)){rs:J!}(pm:AF!) : P2! IM! (Pf! n?)/\Oq! IM! n?/\FB!:=by
 obtain⟨s,nu⟩:=BF!;have oC:FB!:=Jni s.ok (λt m z=>Hu! sF.hand m ((ht t).mp z).1) λr hr nr t m z=>nr ((ht r.1).mpr ⟨sF.hold i q G hi r hr t m ((ht t).mp z).1,W? (s.ok.new r.1 (Gj! s.ok.ke (SZ (Ae! rfl)))).1 nu⟩);have st:Oq! IM! n?:=FQ! LG.less (λt ht=>ht) (λl hl nb=>by rcases ZI hl with h|h;(.exact h);.obtain⟨y,_,rfl⟩:=ZN h;exact BT! rfl nb) (Kp! C1!);have gone:∀t∈ts,¬(IK! (HL! IM!)):=λt m z=>by obtain⟨f,t1⟩:=(ht t).mp m;rcases z with z|⟨j,q',G2,e,o⟩;(.exact z (fD t f));.rcases Eg e with⟨_,e2,_⟩|⟨nj,e⟩;(.rw[e2] at o;obtain⟨y,hy,ey⟩:=ZN o;have:=Dx! hy;rw[ey] at this;exact(BR this) m);.obtain⟨s2,nu2⟩:=x.BP e;have:=(s2.ok.new t o).1;lia
 have C':∀t,(IK! (HL! IM!))->(IK! qs):=λt h=>by rcases h with h|h;(.exact a!);.rcases h.set hi with h|h;(.exact Cw!);.exact D! ⟨i,q,G,hi,Fb! h⟩
 refine⟨⟨(x.wl.mono C').next hi (Jm1 s oC) rfl (λz hz=>?_) (λt ct=>?_) ?_,st D x.sD,x.rc.less hi (Cu!) λt ht ne=>?_⟩,st,oC⟩;.rcases AY! with hz|hz;(.exact x.wl.ok z hz);.obtain⟨y,hy,rfl⟩:=ZN hz;obtain⟨jY,qw⟩:=AD.mp hy;have qv:=pm.mem_iff.mp (AD.mp jY).1;have im:=s.ir y.1 (AF.mpr ⟨y,qv,rfl⟩);exact⟨im.1.1,im.2,im,FS! ⟨rfl,by have:=BR qw;show 1<=y.2;lia,rfl⟩⟩
 .rw[Hn];have aq:Od!:=(pm.map _).nodup_iff.mpr s.ok.rn;have e1:Cz t ((Cb n? rs).map (Ih V!))=P! (PO! C4!) :=Rj V! t (aq.sublist (List.filter_sublist.map _)) λr hr=>s.nn r (pm.mem_iff.mp C1!);rw[e1,Em rs (λt=>! Ha!) t,Q4 pm s.ok.rn];show Cd! (OK! C4!-P! (Bb! G.AH.filter Bq!)+_);rw[LS! Ha!,Em G.AH (Z? (t∉ts)) t];rw[AE (decide_eq_true (AI! (¬B4!) (λz=>gone t z ct)))];cases Ha!;(.rw[Cz!,AE (by rfl)];lia);.rw[UF,Cz!];lia
 .rw[ZE,ZA];have h1:K7! n? (rs.filter λq=>! C4!).length:=AW _ _;have h2:=(pm.filter λq=>! C4!).length_eq;have h3:=M9 (λq:T2×Int=>C4!) G.AI;show(G.AI.filter λq=>C4!).length+_<=_;lia
 .obtain⟨h1,h2⟩:=Wc ht;refine A6! h1;show h?<=OK! C4!;rw[LS! Ha!,AE h2];exact TD
theorem Wg.more(x:AC)(sF:CI! F):Hi! Wg (λt=>D t\/F t) n :=⟨x.wl.mono λt h=>by rcases h with h|h;(.exact K! (λz=>h (G! z)));.exact Cw!,⟨λj q G e t ht z=>z.elim (x.sD.hand j q G e t ht) (sF.hand j q G e t ht),λl hl nb z=>z.elim (DH! x.sD.SN) (DH! sF.SN),λj q G e r hr t ht z=>z.elim (λz=>G! (x.sD.hold j q G e r hr t ht z)) λz=>Y! (sF.hold j q G e r hr t ht z),λj q G e t z tj=>z.elim (λz=>x.sD.old j q G e t z tj) λz=>sF.old j q G e t z tj⟩,x.rc⟩
universe E
universe E K63
universe N FX
open PySem PySem.Spec PyProof.Rows L2
def rg(n:Nat):At:=(List.range n).map λk:Nat=>e? k
theorem F5(n:Nat):wP rg n=n:=by unfold rg;rw[ZA,CM]
theorem OT:x∈rg n↔(0<=x/\x<n):=by
 unfold rg;rw[AF];constructor;.rintro⟨k,hk,rfl⟩;have:=BH.mp hk;lia
 .rintro⟨h1,h2⟩;exact⟨x.toNat,SB BH.mpr,by exact BK Di!⟩
universe S
universe E
universe E FX
universe N K63
open PySem L2 FX
inductive LL where
 | w (l:LT)
 | ask (s g n u:Int)
 | J' (s g n u tick:Int) (S:HS)
 | lt (s g:Int) (ts:A!)
def nX:LL->Option LT
 | .w l=>some l
 | _=>none
def fq(n u:Int):LL->Option Int
 | .ask _ g n' u'=>M5! (n'=n/\u'=u) (some g)
 | _=>none
def ij(n u:Int):LL->Option (Int×Int×HS)
 | .J' s _ n' u' tick S=>M5! (n'=n/\u'=u) (some GU!)
 | _=>none
def Cv(al:wS)(n u:Int):At:=al.filterMap (fq n u)
def Cj(al:wS)(n u:Int):FM!:=al.filterMap (ij n u)
def EM(al:wS):C?:=al.filterMap nX
theorem Bz(a b:wS)(n u:Int):Dy! u=Cy! a++Cy! b:=RE ..
theorem Bm(a b:wS)(n u:Int):AZ! M?=AZ! a++AZ! b:=RE ..
theorem Cs(a b:wS):EM (s?)=EM a++EM b:=RE ..
theorem Fs(z:LL)(b:wS)(n u:Int):Cy! (z::b)=(fq n u z).toList++Cy! b:=by unfold Cv;rw[HI];cases fq n u z<;>rfl
theorem Ds(z:LL)(b:wS)(n u:Int):AZ! (z::b)=(ij n u z).toList++AZ! b:=by unfold Cj;rw[HI];cases ij n u z<;>rfl
def Jpz(al:wS):Prop:=∀n u,Ey! u/\Ez! u
theorem N3:∀ls:C?,Jpz (ls.map .w)
 | []=>λn u=>By!
 | l::ls=>λn u=>⟨by rw[AK,Fs];exact(N3 ls n u).1,by rw[AK,Ds];exact(N3 ls n u).2⟩
theorem uF:∀ls:C?,EM (ls.map .w)=ls
 | []=>rfl
 | l::ls=>by show l::EM (ls.map .w)=_;rw[uF ls]
structure kH(h:Int)(S:HS):Prop where
 nd:N? S.2.1.map
 hz:S.1.length<=60
 rz:S.2.2.length<=60
 oz:∀w∈A1!,w.1.1=h/\0<=w.1.2/\w.2.2.length<=60
structure Jg(qs:q!)(r:Int×Int×HS):Prop where
 tk:Kx! (r.1=Be!) (KB<=G.BC/\(KB=G.BC->Jk G Go))
 so:kH r.1 Go
 nw:Kx! (r.1=Be!) (∀w∈r.2.2.2.1,w.1.2<G.AO)
def Hl(fi:FM!)(h:Nat):Int:=((fi.find? λr=>Au! r.1 wv).map B8!).getD 0
def Kz(fi:FM!)(h:Nat):HS:=((fi.find? λr=>Au! r.1 wv).map No).getD ([],[],[])
def Still(qs:q!)(al:wS)(n:Int)(fi:FM!)(se:List (Int×Int))(h:Nat):Prop :=
 (∃r∈se,r.1=wv/\r.2=Ff!)\/(∃r∈Bc! 2,r.1=wv/\KB=Ff!)\/(wv∈E1! 2/\∃q G,AT (qs[h]?)/\G.BC=Ff!)
structure PQ(m:Nat)(qs:q!)(ls:C?)(al:wS)(n:Int)(fi:FM!)(se:List (Int×Int)):Prop where
 t1:IS! (E1! 1) al 1 fi.map
 t2:(fi.length<m/\Ey! 2/\Ez! 2/\se=[])\/(D9!/\IS! (E1! 2) al 2 se.map)
 f1:∀r∈fi,ID!
 f2:∀r∈Bc! 1,ID!
 s2:D9!->∀b:Hl!,(∀h:Nat,h<m->b h=true->Still qs al n fi se h)->CI! (GS m b (Kz fi))
theorem t9{m:Nat}{fi:FM!}(pm:(fi.map T!).Perm (rg m)){h:Nat}(hh:h<m):∃r∈fi,r.1=wv/\Ff!=KB/\Kz fi h=Go:=by have m1:wv∈h! fi.map:=pm.mem_iff.mpr (OT.mpr ⟨F!,F!⟩);obtain⟨r0,U',e0⟩:=ZN m1;cases e:fi.find? λr=>Au! r.1 wv with | none =>have:=BB.mp e r0 U';simp[e0] at this | some r =>refine⟨r,AJ e,Ge! (DE e),?_,?_⟩;(.unfold Hl;rw[e];rfl);.unfold Kz;rw[e];rfl
universe S
variable {m:Nat}{qs xE:List (Addr×BZ)}{ls LF:List LT}{al al':List LL}{n:Int}{fi:List (Int×Int×HS)}{se:List (Int×Int)}{i:Nat}{q:Addr}{G G':BZ}
theorem PQ.whole(x:DI!)(e:D9!):Ey! 1/\Ez! 1/\(fi.map T!).Perm (rg m):=by have l:=x.t1.length_eq;rw[ZE,ZE,ZA,ZA,F5] at l;have e1:Ey! 1:=Ob!;have e2:Ez! 1:=Ob!;refine BY! e1 e2;have t:=x.t1;rw[e1,e2] at t;exact t
theorem PQ.gN(x:DI!)(ha:∀u,Cy! al'=Oz!)(hb:∀u,AZ! al'=Bc! u)(st:DX! qs LF):PQ m qs LF al' n fi se:=by refine⟨Km! x.t1,Km! x.t2,x.f1,H! hb x.f2,λe b hs=>st _ (x.s2 e b N8!)⟩;have:=Ij!;unfold Still at *;rw[ha,hb] at this;exact this
theorem PQ.Z'(x:DI!)(hi:X!)(tk:G.BC<G'.BC)(md:G.AO<=G'.AO)(ha:∀u,Cy! al'=Oz!)(hb:∀u,AZ! al'=Bc! u)(st:Op! LF):PQ m Mc! LF al' n fi se:=by
 have fo:∀r,ID!->NH! Jg r:=λr h=>⟨λj q2 G2 e ej=>by rcases Eg e with⟨e1,e2,_⟩|⟨_,e⟩;(.have:=h.tk i q G hi (W? ej e1);rw[e2];exact⟨F!,λz=>F!⟩);.exact h.tk j q2 G2 e ej,h.so,λj q2 G2 e ej w hw=>by rcases Eg e with⟨e1,e2,_⟩|⟨_,e⟩;(.have:=h.nw i q G hi (W? ej e1) w hw;rw[e2];lia);.exact h.nw j q2 G2 e ej w hw⟩;refine⟨Km! x.t1,Km! x.t2,λr hr=>fo r (x.f1 r hr),λr hr=>fo r (x.f2 r (Gj! hb hr)),λe b hs=>st _ (x.s2 e b N8!)⟩;have:=Ij!;unfold Still at *;rw[ha,hb] at this;rcases this with h1|h1|⟨h1,q2,G2,e2,e3⟩;.exact K! h1
 .exact Ab! h1
 .rcases Eg e2 with⟨e4,e5,_⟩|⟨_,e4⟩;(.exfalso;obtain⟨r,hr,er,et,_⟩:=t9 (x.whole e).2.2 hh;have:=((x.f1 r hr).tk i q G hi (W? er e4)).1;rw[e5] at e3;lia);.exact Af! ⟨h1,q2,G2,e4,e3⟩
theorem PQ.asked(x:DI!)(es:al=a++.ask s g n' u::b)(g0:0<=g)(hi:AT (qs[g.toNat]?))(et:tick=G.BC)(tl:Jk G S)(so:kH g S)(nw:∀w∈A1!,w.1.2<G.AO):PH! Io! fi:=by
 have A:∀n u2,Cv Io! n u2=Dy! u2:=λn u2=>by rw[Bz];show _++[]=_;rw[AG]
 have A0:∀u2,E1! u2=Cv a n u2++(PR! (n'=n) (u=u2) g++Cv b n u2):=λu2=>by rw[es,Bz,Fs];rfl
 have B:∀u2,Cj Io! n u2=Bc! u2++PR! (n'=n) (u=u2) He!:=λu2=>by rw[Bm,Bm,es,Bm,Ds,Ds];show _++(PR! (n'=n) (u=u2) He!++[])=_;rw[AG];rfl
 have eG:∀(j:Nat) q2 G2,qs[j]?=some (q2,G2)->g=Be!->G=G2:=λj q2 G2 e ej=>by (have:j=g.toNat:=F!);rw[this,hi] at e;exact(Prod.mk.inj (ZO e)).2
 have fo:Jg qs He!:=⟨λj q2 G2 e ej=>by rw[<-eG j q2 G2 e ej];exact⟨lc (tick<=G.BC),λ_=>tl⟩,so,λj q2 G2 e ej w hw=>K? (eG j q2 G2 e ej) (nw w hw)⟩;have pmv:∀(P Q R T:At)(y:Int),(P++([y]++Q)++R++T).Perm (P++Q++(R++[y])++T):=λP Q R T y=>by refine QC T ?_;have h1:(P++([y]++Q)).Perm (y::(P++Q)):=List.perm_middle;(have h2:(P++Q++(R++[y])).Perm (y::(P++Q++R)):=K? AQ (FU (l₂:=[y])));exact(h1.append_right R).trans h2.symm
 have tok:∀u2 (T:At),(E1! u2++Dq! al u2++T).Perm (rg m)->(Cv Io! n u2++Dq! Io! u2++T).Perm (rg m):=λu2 T h=>by rw[A,B,Bz,ZF];rw[A0] at h;by_cases c:n'=n/\u=u2;(.rw[j!] at h ⊢;exact(pmv _ _ _ _ g).symm.trans h);.rw[o!] at h ⊢;simpa using h
 refine⟨tok 1 _ x.t1,?_,x.f1,Gp!,λe bb hs=>x.s2 e bb N8!⟩;.rcases x.t2 with⟨z1,z2,z3,z4⟩|⟨z1,z2⟩;(.rw[A0] at z2;(have nc:¬(n'=n/\u=2):=λc=>by rw[j!] at z2;simp at z2);rw[AB nc] at z2;refine Bv! z1 ?_ ?_ z4;(.rw[A,Bz];simpa using z2);.rw[B,AB nc,z3];rfl);.exact P? z1 (tok 2 _ z2)
 .rw[B] at hr;rcases BC! with hr|hr;(.exact x.f2 r hr);.by_cases c:n'=n/\u=1;(.rw[j!] at hr;(have:r=He!:=by simpa using hr);rw[this];exact fo);.rw[o!] at hr;cases hr
 .have:=Ij!;unfold Still at *;rcases this with h1|⟨r,hr,e1,e2⟩|⟨h1,h2⟩;(.exact K! h1);(.rw[B] at hr;rcases BC! with hr|hr;(.exact Ab! ⟨r,hr,e1,e2⟩);.by_cases c:n'=n/\u=2;(.rw[j!] at hr;(have er:r=He!:=by simpa using hr);rw[er] at e1 e2;have e1:g=wv:=e1;have e2:tick=Ff!:=e2;(have eh:h=g.toNat:=F!);refine Af! ⟨?_,q,G,H! eh hi,BL! e2 et⟩;rw[A0,j!,<-e1];exact ZC _ (ZB _ Ek!));.rw[o!] at hr;cases hr);.rw[A,Bz] at h1;refine Af! ⟨?_,h2⟩;rw[A0];rcases ZI h1 with h1|h1;(.exact i? h1);.exact ZC _ (ZC _ h1)
universe E
universe S
def Dv(m:Nat)(g n u:Int):wS:=(List.range m).map λi:Nat=>.ask g V! n u
theorem Ii:Cv (Dv m g n u) n2 u2=Nc! (n=n2/\u=u2) (rg m):=by
 unfold Cv Dv;rw[List.filterMap_map];by_cases c:n=n2/\u=u2;.rw[j!];(have:(fq n2 u2 ∘ λi:Nat=>LL.ask g V! n u)=λi:Nat=>some V!:=by funext i;show(M5! (n=n2/\u=u2) (some V!))=_;rw[j!]);rw[this];unfold rg;exact congrFun List.filterMap_eq_map' _
 .rw[o!];(have:(fq n2 u2 ∘ λi:Nat=>LL.ask g V! n u)=λ_:Nat=>none:=by funext i;show(M5! (n=n2/\u=u2) (some V!))=_;rw[o!]);rw[this];simp
theorem Kw:Cj (Dv m g n u) n2 u2=[]:=by simp_all [Cj,Dv,ij]
theorem W9:EM (Hv! u)=[]:=by simp_all [EM,Dv,nX]
theorem Jkf(m:Nat):(rg m).Nodup:=by unfold rg List.Nodup;rw[EL];exact List.Pairwise.imp (λ{a b} (h:a<b)=>F!) QA
theorem Jqb(m1:1<=m)(h1:∀u,Ey! u)(h2:∀u,Ez! u)(g:Int):PQ m qs ls (al++Hv! 1) n [] []:=by
 have A:∀u,Cy! (al++Hv! 1)=Nc! (u=1) (rg m):=λu=>by rw[Bz,h1,Ii];by_cases c:u=1;(.rw[AE (S? c.symm),j!];rfl);.rw[AB (λz=>c z.2.symm),o!];rfl
 have B:∀u,AZ! (al++Hv! 1)=[]:=λu=>by rw[Bm,h2,Kw];rfl
 refine⟨?_,Bv! (lc (0<m)) ?_ (B 2) rfl,λr hr=>(jp hr),Gp!,λe=>?_⟩;.rw[A,B,UF];simp
 .rw[A,OZ!]
 .rw[B] at hr;cases hr
 .have:0=m:=e;lia
theorem PQ.first(x:DI!)(es:al=a++.J' s g n 1 tick S::b) : fi.length<m/\N9! fi.map/\(fi.length+1≠m->PH! M? (DR!))/\(fi.length+1=m->Hi! Wg D N->∀g,PH! (s?++Hv! 2) (DR!)):=by
 have A:∀u,Oz!=Dy! u:=λu=>by rw[es,Bz,Fs,Bz];rfl
 have B1:Bc! 1=Cj a n 1++GU!::Cj b n 1:=by rw[es,Bm,Ds];show MH! (e? 1=1);rw[AE By!];rfl
 have B2:Bc! 2=Cj M? n 2:=by rw[es,Bm,Ds,Bm];show MH! (e? 1=2);rw[AB (λz=>Bz! z.2 sB)];rfl
 have pm:IS! JK! M? 1 (DR!).map:=by refine List.Perm.trans ?_ x.t1;rw[A,B1,Bm];simp only[ZF,AK,FL];generalize JK!=P;generalize Dq! a 1=Q;generalize Dq! b 1=R;generalize h! fi.map=T;(have h1:(Mm!++(T++[s])).Perm (s::JO!):=K? AQ (FU (l₂:=[s])));(have h2:(O5!++T).Perm (s::JO!):=by (have:(O5!).Perm (s::(Mm!)):=Mx! AQ AQ List.perm_middle);exact this.append_right T);exact h1.trans h2.symm
 have nd:N? (DR!).map:=by have h1:=(pm.nodup_iff).mpr (Jkf m);exact(AM.mp h1).2.1
 have sn:N9! fi.map:=λz=>by rw[ZF] at nd;exact(AM.mp nd).2.2 s z s Ek! rfl
 have lt:fi.length<m:=by have:=pm.length_eq;rw[ZE,ZE,ZA,ZA,F5,ZE] at this;have e:[(GU!:Int×Int×HS)].length=1:=rfl;lia
 have z2:Ey! 2/\Ez! 2/\se=[]:=by rcases x.t2 with⟨_,h⟩|⟨h,_⟩;(.exact h);.lia
 obtain⟨wK,wJ,qD⟩:=z2;have f1:∀r∈DR!,ID!:=λr hr=>by rcases BC! with h|h;(.exact x.f1 r h);.rw[ZK h];exact x.f2 _ (S! B1 (ZC _ Dr!))
 have f2:∀r∈Cj M? n 1,ID!:=λr hr=>x.f2 r (by rw[B1];rw[Bm] at hr;rcases BC! with h|h;(.exact i? h);.exact HU! h);have ln:(DR!).length=fi.length+1:=c? ZE
 refine⟨lt,sn,λne=>⟨pm,Bv! F! (K? A wK) (K? B2 wJ) qD,f1,f2,λe=>F!⟩,λee wg g2=>?_⟩;have A1:Cv Li! n 1=JK!:=by rw[Bz,Ii,AB (λz=>EA! z.2),AG]
 have A2:Cv Li! n 2=rg m:=by rw[Bz,Ii,AE By!,<-A,wK];rfl
 have C:∀u,AZ! Li!=AZ! M?:=λu=>by rw[Bm,Kw,AG]
 have C2:Cj Li! n 2=[]:=by rw[C,<-B2,wJ]
 have pf:((DR!).map T!).Perm (rg m):=by have l:=pm.length_eq;rw[ZE,ZE,ZA,ZA,F5,ln] at l;have e1:JK!=[]:=Ob!;have e2:Cj M? n 1=[]:=Ob!;have t:=pm;rw[e1,e2] at t;exact t
 refine⟨Aj! A1 C pm,P? F! (by rw[A2,C2,qD];simp),f1,H! C f2,λ_ bb hs=>wg.snap λh q G eq bh=>?_⟩;have hh:h<m:=A7! wg.wl.len eq
 rcases Ij! with⟨r,hr,_⟩|⟨r,hr,_⟩|⟨_,q2,G2,e2,e3⟩;.rw[qD] at hr;cases hr
 .rw[C2] at hr;cases hr
 .rw[eq] at e2;have eG:G=G2:=(Prod.mk.inj (ZO e2)).2;obtain⟨r,hr,er,et,e4⟩:=t9 pf hh;rw[e4];exact((f1 r hr).tk h q G eq er).2 (by rw[<-et,<-e3,eG])
theorem PQ.second(x:DI!)(es:al=a++.J' s g n 2 tick S::b) : D9!/\se.length<m/\N9! se.map/\PQ m qs ls M? n fi (se++[(s,tick)]):=by
 have A:∀u,Oz!=Dy! u:=λu=>by rw[es,Bz,Fs,Bz];rfl
 have B2:Bc! 2=Cj a n 2++GU!::Cj b n 2:=by rw[es,Bm,Ds];show MH! (e? 2=2);rw[AE By!];rfl
 have B1:Bc! 1=Cj M? n 1:=by rw[es,Bm,Ds,Bm];show MH! (e? 2=1);rw[AB (λz=>Bz! z.2 sB)];rfl
 have t2:D9!/\IS! (E1! 2) al 2 se.map:=by rcases x.t2 with⟨_,_,h,_⟩|h;(.rw[B2] at h;simp at h);.exact h
 have pm:IS! (Dy! 2) M? 2 (se++[(s,tick)]).map:=by refine List.Perm.trans ?_ t2.2;rw[A,B2,Bm];simp only[ZF,AK,FL];generalize Dy! 2=P;generalize Dq! a 2=Q;generalize Dq! b 2=R;generalize h! se.map=T;(have h1:(Mm!++(T++[s])).Perm (s::JO!):=K? AQ (FU (l₂:=[s])));(have h2:(O5!++T).Perm (s::JO!):=by (have:(O5!).Perm (s::(Mm!)):=Mx! AQ AQ List.perm_middle);exact this.append_right T);exact h1.trans h2.symm
 have nd:N? (se++[(s,tick)]).map:=by have h1:=(pm.nodup_iff).mpr (Jkf m);exact(AM.mp h1).2.1
 have sn:N9! se.map:=λz=>by rw[ZF] at nd;exact(AM.mp nd).2.2 s z s Ek! rfl
 have lt:se.length<m:=by have:=pm.length_eq;rw[ZE,ZE,ZA,ZA,F5,ZE] at this;have e:[((s,tick):Int×Int)].length=1:=rfl;lia
 refine⟨t2.1,lt,sn,⟨Mx! A B1 x.t1,P? t2.1 pm,x.f1,K? B1 x.f2,λe bb hs=>x.s2 e bb N8!⟩⟩;rcases Ij! with⟨r,hr,e1,e2⟩|⟨r,hr,e1,e2⟩|⟨h1,h2⟩;.rcases BC! with hr|hr;(.exact Bv! r hr e1 e2);.have er:=ZK hr;rw[er] at e1 e2;exact Ab! ⟨GU!,H! B2 (ZC _ Dr!),e1,e2⟩
 .refine Ab! ⟨r,?_,e1,e2⟩;rw[B2];rw[Bm] at hr;rcases BC! with h|h;(.exact i? h);.exact HU! h
 .exact Af! ⟨H! A h1,h2⟩
theorem PQ.done(x:DI!)(e:D9!){c:Nat->Int}(hc:∀h,h<m->∃r∈se,r.1=wv/\r.2=c h):CI! (GS m (λh=>g? (Ff!=c h)) (Kz fi)) :=x.s2 e _ λh hh bh=>by obtain⟨r,hr,e1,e2⟩:=hc h hh;exact Bv! r hr e1 (by rw[e2];exact(BR bh).symm)
universe E
universe S
inductive Jbm(C:Addr)(vs:B!)(H:Hp)(Q:VK)(E:XK):Prop
 | mk (p ta:Addr) (G:BZ) (as:M!) (ts:A!) (_:Da! (O! ta)) (_:v!) (_:KX!) (_:KP! ta) (_:db) (_:ga n?)
theorem Jge(F:E! "lose" M2! Sa)(T:N!):Bd! am Jbm:=by
 refine W! cH;obtain⟨p,ta,G,as,ts,rfl,S,ke,et,th,k⟩:=h;refine I!;have hu:=k!;have lt:=Eu!;refine GM (Af (P9! (Ir U!) 2 cH.nd (KV! Lf R! d! (Ad (A4 KB!) (ap KB!)))));refine⟨_,rfl,ta,rfl,w? Ev!,?_⟩;refine Ir! Kt ta HY! (λi σ H2=>∃u2:Ad!,σ=[B0!,H? ta,u2]/\x? H2 (Am G M6!)/\Aw! H2) (Ci! (Ne! Rc S) (λb o e _ _=>e)) (λi σ H2 _ h=>M3! (CS.of (Pd! fr et et et)));.rintro i x σ H2 hx ⟨u2,rfl,S2,JU⟩;rw[ZH] at hx;cases ea:as[i]? with | none=>rw[ea] at hx;cases hx | some a =>rw[ea] at hx;have hx:Nd!:=ZO hx;subst hx;obtain⟨t,ht⟩:=Lg!;have ha:=ML! ht;have YA:=MA! JU;obtain⟨JB,GQ⟩:=S2.ob;obtain⟨o,g,eo⟩:=LG! N8 (G! S2.dO) YA;have f1:=F0 (v4) G.AH ht;have f2:=F0 (Ar!) G.holds ht;refine Is! JB GQ T.nO (Dl _) G.o o g;rw[eo];(have ks:I0! (Am G M6!).holds.map N2!:=by show LE! O1! O1!;rw[Du (Ar!) G.holds (Z? No!),LX! No!,ke]);by_cases h:w! N2!;(.rw[Eh!];obtain⟨v1,rB⟩:=MR! EN! F9! h;obtain⟨v2,rA⟩:=MR! EQ! (λq=>M7!) (S! ks h);refine Cc (Lq! JB GQ T.nO (Dl _) G.o S2.dO S2.dO YA rB);rw[Gu (k:=v4) (f:=F9!)];have S3:=S2.KS (At! Pu!);(have NJ:Aw! Ly!:=AH! (Kd! (λz=>h2 (EO!)) JU));have jv:=MA! NJ;rw[EC! (HO.dT ((At! (Op An!)).map DE!)=C6 (Bb! At! An!))];have S3:x? Ly! Kw!:=S3;generalize upd H2 G.o P7!=H3 at S3 NJ jv;obtain⟨PH,QM⟩:=S3.ob;refine Lq! PH QM T.nL (Ey _) G.l S3.dl S3.dl jv rA;have e3:D7 ((Kw!:BZ).holds.map BX!) (tk t)=(Bu! (Op An!)).map BX! :=Pa! Gu _ t;rw[e3];have S4:=S3.UM (hl:=Db! Bu! An!) FK;(have eG:KJ! { Mk! with AH:=Me! At!,holds:=Me! Bu! }:=by unfold Am;rw[f1,f2]);refine JG! S4 (AH! ?_);rw[Ab λz=>h2 (by rw[z];show G.l∈j?;simp[BM])];exact Iy! NJ e);.rw[HD!];have qY:N3! EN!:=λq hq z=>EY! h GM!;have qX:N3! EQ!:=λq hq z=>I4! h ks (SZ GM!);(have eG:KJ! Mk!:=by (have a1:NG! At! EN!:=LF! qY);(have a2:NG! Bu! EQ!:=LF! qX);unfold Am at a1 a2 ⊢;rw[f1,f2,a1,a2]);exact Bx (JG! S2 JU)
 .rintro σ H2 ⟨u2,rfl,S2,JU⟩;rw[ZA,lt,BS] at S2;exact k H2 S2 JU
inductive Zz(C:Addr)(vs:B!)(H:Hp)(Q:VK)(E:XK):Prop
 | mk (p ta:Addr) (G:BZ) (n:Nat) (rs:J!) (ts:A!) (as:M!) (_:Da! (O! ta)) (_:v!) (_:I?) (_:n<=62) (_:H2!) (_:IJ!) (_:AF!) (_:CB!) (_:KP! ta) (_:db) (_:FB!) (_:∀(x:Addr)(as:M!)(H':Hp),(MO!)->Hx! x->JC H' as (Cb n? rs)->Eo! (IZ (HW n?))->Hd!->Az!)
theorem Jm4:G? am am pV:={}
theorem Ji2(F:E! "let" "House.let" pV)(T:N!)(Tx:pK mg)(ML:DN K C "lose" M2! Sa am fL dL)(MG:DN K C Ei! "House.give_back" Xt p? fG dG) : LP! am Zz:=by
 have GL:AN! fL dL am Jbm:=Jge ML.fn T;have GG:AN! fG dG p? Z0:=Jb9 MG.fn T Tx;refine W! Jm4;obtain⟨p,ta,G,n,rs,ts,as,rfl,S,ok,zn,bR,bQ,pm,pw,et,th,YM,k⟩:=h;refine I!;have hu:=k!;obtain⟨dx,hp⟩:=S.ob;refine CH! (H3! T.cl ML.mt GL ML.bd CV!) (FG! NE (C3 i! T.cl MG.mt GG hr MG.bd L? Ba));refine⟨_,rfl,p,dx,_,rfl,hp,z!,_,rfl,p,ta,G,as,ts,rfl,S,ok.ke,et,th,λH9 S9 sL=>?_⟩;obtain⟨VC,YN⟩:=S9.ob;refine Dh! VC YN VC YN;rw[Bo];have YW:=S9.fld VC (Am G ts).AO ((Am G ts).BC+1);have VM:Aw! (LU! { Am G ts with BC:=(Am G ts).BC+1 }):=AH! (Pz! sL)
 have YW:x? (LU! { Am G ts with BC:=(Am G ts).BC+1 }) (IZ n?):=YW;generalize upd H9 p (D1! VC { Am G ts with BC:=(Am G ts).BC+1 })=bG at YW VM;obtain⟨gh,gT⟩:=YW.ob;refine⟨_,rfl,p,gh,_,rfl,gT,Cq _ ZV,p,IZ n?,n,rs,rfl,YW,YM.IZ,zn,bR,H6! bQ,pm,pw,λx as i5 hx ex ba tU gY=>?_⟩;have q8:MO!:=AH! (Aj (Iy! VM e) hx);exact k x as i5 q8 ex ba tU (AH! (gY _ _ (VM _ _ e h1 h2) h1 λz=>h2 (Jp9 ts z)))
universe E
inductive OS(H:Hp)(t:Addr)(k:Int)(kind:Str)(s g n u:Int):Prop
 | mk a (_:GS! t [y! k,.str kind,y! s,y! g,Ch!]) (_:JQ! [Er!,y! u])
inductive SS(H:Hp)(t:Addr)(k s g:Int)(ts:A!):Prop
 | mk (a:Addr) (as:M!) (_:GS! t [y! k,.str "let",y! s,y! g,Ch!]) (_:KP! a) (_:db)
theorem OS.keep(h:OS H t k kind s g n u)(kt:AE!):OS H' t k kind s g n u:=let⟨a,e1,e2⟩:=h;⟨a,Cv! kt.A_,C! kt.A_ e2⟩
theorem SS.keep(h:SS H t k s g ts)(kt:AE!):SS H' t k s g ts:=let⟨a,as,e1,e2,th⟩:=h;⟨a,as,Cv! kt.A_,C! kt.A_ e2,ww kt th⟩
structure MY(H:Hp)(c b n turn:Int)(L:AV!)(m:Nat):Prop where
 BP:h! L.map=(List.range m).map λ(i:Nat)=>c+1+V!
 OO:Paired (λ(y:Int×Addr)(i:Nat)=>OS H y.2 y.1 "ask" b V! n turn) L (List.range m)
theorem MY.len(x:MY H c b n turn L m):L.length=m:=Bt! (A? x.OO) CM
universe S
theorem Jq3(x:Ch):IL! (D5! W.en) { W with EY:=l } (F5! (D5! W.en)):=by
 obtain⟨⟨a1,a2,a3,a4,a5,a6⟩,⟨b1,b2,b3,b4,b5⟩,⟨c1,c2,c3,c4⟩,⟨d1,d2,d3⟩,⟨g1,g2⟩⟩:=x.cF;have f:PU! (b≠W.en) (D5! W.en):=λb o e h=>Ox!
 refine Lm! (f _ _ e (Ne.symm g1)) (E4! x.hs g2) Fs! (x.po.keep (EE! a6) (EE! b5)) (f _ _ x.iq c4) (f _ _ x.fi d3) Ac Fs!;.rintro rfl;have h:=IY! W.en;exact IW!
 .rintro rfl;exact Hh!
theorem Jq8(x:Ch):IL! (D5! W.fi) { W with IP:=l } (F5! (D5! W.fi)):=by
 obtain⟨⟨a1,a2,a3,a4,a5,a6⟩,⟨b1,b2,b3,b4,b5⟩,⟨c1,c2,c3,c4⟩,⟨d1,d2,d3⟩,⟨g1,g2⟩⟩:=x.cF;have f:PU! (b≠W.fi) (D5! W.fi):=λb o e h=>Ox!
 refine Lm! (f _ _ e (Ne.symm d1)) (E4! x.hs d2) Fs! (x.po.keep (EE! a5) (EE! b4)) (f _ _ x.iq c3) Ac (E4! x.en d3) Fs!;.rintro rfl;have h:=IY! W.fi;exact IW!
 .rintro rfl;exact Hh!
universe E
universe S
inductive Hq(CW C CP:Addr)(K:W.Frag)(vs:B!)(H:Hp)(Q:VK)(E:XK):Prop
 | mk (p:Addr) (b n turn:Int) (W:EZ) (_:vs=[Os,y! b,Er!,y! turn]) (_:z?) (_:W.qs.length<=12) (_:ER!) (_:∀(l:Addr)(L:AV!)(H':Hp),Js! (G3! (W.c+(W.qs.length:Nat)))->MY H' W.c b n turn L W.qs.length->A0!->Le! l->l≠W.hs->Xc p W H l->F6! l)
theorem Jdh:G? [FB,Gd!,"n","turn"] [FB,Gd!,"n","turn"] Js:={}
theorem Jae(F:E! "ask_all" "World.ask_all" Js)(T:N!)(TW:r?)(TP:DA!)(M3:Ip!) : GE! 2 [FB,Gd!,"n","turn"] (Hq CW C CP K):=by
 have G3:MN!:=LZ!;refine W! Jdh;obtain⟨p,b,n,turn,W,rfl,S,z1,z2,k⟩:=h;refine I!;obtain⟨dx,hp⟩:=S.ob;refine Id! (Pi! (Ps CP "put" (Hf CP) [] E0 (IG! "post") (D0 (Hq! "ask") (D0 (Ca 2) (FX! C2! (pN (FX! (Ca 3) (Ca 4))))))) [KL!,(Gd!,1),("n",2),("turn",3)] (Gh rfl T.range (AQ! (Bi Bq ut T.len CC ci))) ⟨rfl,rfl,rfl,rfl,trivial⟩ (λy h=>Jps F8! F8! F8! F8! h) ⟨sw,sw,sw,sw,trivial⟩ NE! (DZ! (MK! OQ! (Jl! (ON! 0 (Cf (Nm! 3 4)))))));have e0:e? (W.qs.map λq=>x! q.1).length=W.qs.length:=t?
 refine⟨_,rfl,p,CW,dx,_,_,rfl,hp,TW.cl,TW.nH,D8 W,W.hs,_,rfl,G! (DW.of S.hs),OJ!,(by rw[e0]),F!,F!,λr GK=>?_⟩;rw[C_];have s0:=I9! GK;have S0:=A4! s0;have S0':Iw! (Mn! r) (NC! J0! (W.ls++[])):=Aj! (show J0!=W.c by simp) AG S0
 refine Je (lo:=0) (n:=W.qs.length) (tt:=Ku!) (te:=Ps CP "put" (Hf CP) [] E0 (IG! "post") (D0 (Hq! "ask") (D0 (Ca 2) (FX! C2! (pN (FX! (Ca 3) (Ca 4))))))) (caps:=[KL!,(Gd!,1),("n",2),("turn",3)]) (σ:=[B0!,En! b,En! n,En! turn]) (λi ys H2=>CW! H2 r/\ys.length=i/\∃L,ys=L.map (Ms!)/\Iw! H2 (G3! PA!)/\MY H2 W.c b n turn L i/\F5! H2) ⟨Ac,rfl,[],rfl,S0',S? L?,ET! s0⟩ (λi ys H2 _ h=>h.1) ?_ ?_;.rintro i ys H2 N hi ⟨er,ly,L,sS,W2,l2,OK⟩ hN;refine Aa!;have g_:r∉B8 p (G3! PA!):=λm=>S.OF GK m;obtain⟨JB,GQ⟩:=W2.ob;obtain⟨PH,X_⟩:=W2.po.ob;refine⟨_,rfl,p,CW,JB,_,_,rfl,GQ,TW.cl,TW.nP,E1 _,W.po,PH,_,rfl,X_,Ah!,_,rfl,_,rfl,_,rfl,_,rfl,BD!,N4!⟩;have s3:=Ay! [Y? n,Y? turn] ha;have W3:=W2.same s3;refine PK! _ _ W3.po (by rw[ZE,l2.len];lia) (λt H4 ht et S4 XD=>?_);obtain⟨W4,RI⟩:=W3.JW S4 XD;have RG:=HC s3;have LO:=KU!;have UT:CW! H4 r:=RI _ _ (s3 _ _ er) g_;refine⟨UT,JF!,C! hN ⟨Ac,SC ZE ly,L++[(B1!,t)],EG! sS,?_,?_,?_⟩⟩;(·(have e1:W.c+e? (i+1:Nat)=B1!:=F!);rw[e1,<-AQ];exact W4.keep (Cj! (H0! g_ hb e)));(·(have kq:B_ H4 (E? H4 r .BE (ys++[V.int (B1!)])):=l? UT);have kk:=(RG.trans LO).trans kq;refine A6! (by rw[ZF,l2.BP,EO,ZF];congr 1;show [B1!]=[f?+V!];congr 1;lia);rw[EO];refine Gx ?_ (Aq (λ_ _ rr=>rr.keep kk) l2.OO);have ea:=C! LO.A_ (show HC! (E? H2 a .A_ [Y? n,Y? turn]) a [Y? n,Y? turn] from Ac);(have e2:e? 0+V!=V!:=F!);rw[e2] at et;exact⟨a,C! kq.A_ et,C! kq.A_ ea⟩);.intro b' o' e' IM;(have ju:b'≠r:=λz=>by rw[z] at e';rw[GK] at e';cases e');rw[Ab ju];exact RI b' o' (s3 _ _ (OK b' o' e' IM)) IM
 .rintro ys H2 ⟨er,ly,L,sS,W2,l2,OK⟩;exact k r L H2 W2 l2 OK (Gj! sS er) (λz=>by rw[z,S.hs] at GK;cases GK) λb o e _=>Aj e GK
universe E
structure Tells(G:BZ)(hs:A!)(os:xz)(rs:J!):Prop where
 z1:G.hand.length<64
 z2:G.AH.length<64
 z3:G.AI.length<64
 pm:hs.Perm G.hand
 pw:Ok!
 PL:Rows G os
 pr:AF!
 wr:CB!
theorem tX{K:W.Frag}{H:Hp}{x:Addr}{hs:A!}{os:xz}{rs:J!}(h:mU H x hs os rs):SE K H x (hs,os,rs):=by obtain⟨y1,y2,y3,as,bs,ds,e,e1,t1,e2,t2,⟨ob,e3,_⟩,t3⟩:=h;refine⟨y1,y2,y3,as,bs,BU! ds.map,CS.of e,Dz!,t1,BR! e2,Aq (λv r h9=>by obtain⟨a,t,hd,cs,e,e1,e2,e3,th⟩:=h9;exact⟨a,t,hd,cs,e,Dz!,e2,BR! e3,th⟩) t2,G! (Y! ⟨ob,e3⟩),?_⟩;clear e e1 t1 e2 t2 e3;induction t3 with | nil=>exact L? | cons r _ ih =>obtain⟨ka,e1,e2⟩:=r;exact .cons ⟨_,ka,rfl,Dz!,e2⟩ ih
universe S
inductive Gn(CW C CP:Addr)(K:W.Frag)(vs:B!)(H:Hp)(Q:VK)(E:XK):Prop
 | mk (p t:Addr) (W:EZ) (k s g n u:Int) (q:Addr) (G:BZ) (hs:A!) (os:xz) (rs:J!) (_:BE!) (_:z?) (_:OS H t k "ask" s g n u) (_:KA W g q G) (_:Tells G hs os rs) (_:ER!) (_:W.EY.length<=900) (_:(∀e∈W.EY,e.1≠f?)) (_:∀(x t1 e xs:Addr)(H':Hp),Js! { W with c:=f?,ls:=B7!,EY:=Dp! }->OS H' t1 Ds! "answer" g s n u->L! H' e (.A_ [y! G.BC,O! xs])->SE K H' xs (hs,os,rs)->A0!->B3! H' [J? (f?)]->Gy!->Xc p W H x->Az!)
theorem WL:OT! [FB,Gq!,"asked",GX!,"number"] Ke:={}
theorem Ya(F:E! "ask_came" "World.ask_came" Ke)(T:N!)(TW:r?)(TP:DA!)(M1:JA! "tick" "House.tick" pj)(M2:DN K C D4! "House.state" P6 p? f2 d2)(G2:BO! 2 f2 d2 p? (L1 C K))(M3:Ip!):GE! 3 MX! (Gn CW C CP K):=by
 have G1:AN! f1 d1 p? Zx:=Jb8 M1.fn T;have G3:MN!:=LZ!;refine L1! WL;.obtain⟨p,t,W,k,s,g,n,u,q,G,hs,os,rs,rfl,_⟩:=h;rfl
 .obtain⟨p,t,W,k,s,g,n,u,q,G,hs,os,rs,rfl,S,⟨a,et,ea⟩,i,tl,z1,z2,ne,kk⟩:=h;have hu:=k!;have IB:Ev:=EQ;obtain⟨dx,hp⟩:=S.ob;refine Jj! WL.nd (B5! WL.nd (H5! R!) (Av! 4 WL.nd (GL! d! TP.cl M3.mt G3 IB M3.bd (Jl! (HH! GA! GA!))) (PM! KE (Cf (Aa (MF! U? IB Ba) (AQ! (C3 (pl:=_) U? T.cl M2.mt G2 hr M2.bd L? Ba)))) (Af (Ay (Ee (v? 4 Ae)))))));refine⟨_,rfl,t,_,3,Y? g,rfl,rfl,Ev!,rfl,?_⟩;refine⟨_,rfl,p,CW,dx,_,_,rfl,hp,TW.cl,TW.nH,D8 W,_,rfl,W.hs,_,_,x! q,rfl,rfl,HM!,i.QO,?_⟩;obtain⟨VD,e_⟩:=S.po.ob;refine⟨_,rfl,p,CW,dx,_,_,rfl,hp,TW.cl,TW.nP,E1 _,W.po,VD,_,rfl,e_,Ah!,_,rfl,_,rfl,t,_,2,Y? s,rfl,rfl,Ev!,rfl,_,rfl,t,_,4,x! a,rfl,rfl,Ev!,rfl,?_⟩;refine Ft! S.po F! (λt1 H1 ht1 sV S1 LQ=>?_);obtain⟨W1,HY⟩:=S.JW S1 LQ;have NG:=IB!;have HA:=i.at (W:=NC! f? B7!) W1;obtain⟨bu,oU⟩:=HA.ob;refine⟨_,rfl,q,bu,_,rfl,oU,z!,q,G,rfl,HA,?_⟩;refine⟨_,rfl,q,bu,_,rfl,oU,z!,q,G,hs,os,rs,rfl,HA,tl.z1,tl.z2,tl.z3,tl.pm,tl.pw,tl.PL,tl.pr,tl.wr,λxs H2 s2 sx=>?_⟩;refine⟨(I6! Pp!),λe he=>?_⟩;have s3:=Ay! Lu! he;have ee:HC! (E? H2 e .A_ Lu!) e Lu!:=Ac;generalize O? H2 e .A_ Lu!=H3 at s3 ee;have qP:=Al s2 s3;have W3:=W1.same qP;obtain⟨TQ,V_⟩:=W3.ob;refine⟨_,rfl,p,CW,TQ,_,_,rfl,V_,TW.cl,TW.nE,Jen _,_,rfl,W.en,_,rfl,F_.k (k:=Sum.inl (f?)) W3.en (S! Mt (FL! (W.EY.length<=_))),?_⟩;have ek:J8! kvsOf W.EY (Ol! f?) e=kvsOf (Dp!):=Wh ne;show _;rw[show J8! kvsOf (NC! f? B7!:EZ).EY (Ol! f?) e=kvsOf (Dp!) from ek];obtain⟨W4,RI⟩:=Jq3 W3 (l:=Dp!);have LO:=KU!;have YB:F5! If!:=λb o eb hb=>RI b o (qP _ _ (HY b o eb hb)) hb;have ka:B_ H If!:=HJ.DO S YB;have zT:B_ H1 If!:=(HC qP).trans LO;have W4:Iw! If! { W with c:=f?,ls:=B7!,EY:=Dp! }:=W4;show _;generalize If!=H4 at W4 LO YB ka zT;refine Ci! (I6! (pi 1)) Cs!;have s5:=sK (.BE Gu!) hx;have k5:=HC s5;refine kk x t1 e xs _ (W4.same s5) ⟨a,F4! k5.A_ zT.A_ sV,F4! k5.A_ ka.A_ ea⟩ (k5.A_ _ _ (LO.A_ _ _ ee)) (((((tX sx:SE K H2 xs (hs,os,rs)).keep (HC s3)).keep LO).keep k5)) (λb o eb hb=>C! s5 (YB b o eb hb)) Ac (λz=>?_) λb o eb hb=>Aj (YB b o eb hb) hx;have:=W4.hs;rw[Jp! (({ W with c:=f?,ls:=B7!,EY:=Dp! }:EZ).hs=W.hs),<-z,hx] at this;cases this
theorem Q7:∀b∈BM (IZ (HW n?)),b∈j?:=λb hb=>Jp9 ts hb
inductive Gm(CW C CP:Addr)(vs:B!)(H:Hp)(Q:VK)(E:XK):Prop
 | mk (p t:Addr) (W:EZ) (k s g:Int) (ts:A!) (q:Addr) (G:BZ) (n:Nat) (rs:J!) (_:BE!) (_:z?) (_:SS H t k s g ts) (_:KA W g q G) (_:I?) (_:n<=62) (_:H2!) (_:IJ!) (_:AF!) (_:CB!) (_:FB!) (_:K7! n? 60) (_:ER!) (_:∀(x:Addr)(L:AV!)(H':Hp),OD! (PY! g.toNat Jc! (W.c+((Cb n? rs).length:Nat)) (W.ls++L)) (pQ H' W.c g L (Cb n? rs)) (Le! x))
theorem di:OT! (BN! Gq! "h") Kb:={}
theorem X9(F:E! "let_came" "World.let_came" Kb)(T:N!)(TW:r?)(M1:Bg! "let" "House.let" pV am)(G1:Mp! f1 d1 am Zz)(M2:DN K CW Ei! "World.give_back" P5 DM! f2 d2)(G2:BO! 2 f2 d2 DM! (Pa CW C CP)):Ji! MX! Gm:=by
 refine L1! di;.obtain⟨p,t,W,k,s,g,ts,q,G,n,rs,rfl,_⟩:=h;rfl
 .obtain⟨p,t,W,k,s,g,ts,q,G,n,rs,rfl,S,⟨a,fZ,et,ea,th⟩,i,ok,zn,bR,bQ,pm,pw,YM,zb,zl,kk⟩:=h;obtain⟨dx,hp⟩:=S.ob;obtain⟨FJ,hq⟩:=AG!;refine Jj! di.nd (SL (H3! TW.cl M2.mt G2 M2.bd (v? 2 (AQ! (Jb! (H5! R!) M1.mt G1 M1.bd (Aa GA! Ae))))));refine⟨_,rfl,t,_,3,Y? g,rfl,rfl,Ev!,rfl,?_⟩;refine⟨_,rfl,p,dx,_,rfl,hp,GJ!,_,rfl,_,rfl,p,CW,dx,_,_,rfl,hp,TW.cl,TW.nH,D8 W,_,rfl,W.hs,_,_,x! q,rfl,rfl,HM!,i.QO,q,FJ,_,rfl,hq,z!,_,rfl,t,_,4,x! a,rfl,rfl,Ev!,rfl,q,a,G,n,rs,ts,fZ,rfl,DB!,ok,zn,bR,bQ,pm,pw,ea,th,YM,λx as H1 nx ex bk S1 LQ=>?_⟩;obtain⟨W1,HY⟩:=S.step i.2 S1 LQ λb hb=>K! (Q7 b hb);have eY:=S.IX (b:=W.hs) (Jn!) (ZP i.2);have dv:Gy!:=λz=>nx _ _ S.hs eY.1 eY.2 z.symm;(have sub:∀b,Cn!->b∉B8 p (Gn! g.toNat Jc!):=λb hb m=>by rcases ZI m with m|m;(.exact hb HQ!);.obtain⟨z,hz,hm⟩:=DF.mp m;have hz:z∈Nx! g.toNat Jc!:=hz;rcases NT hz with hz|rfl;(.exact I5! ⟨z,hz,hm⟩);.refine I5! (BY! BP! (ZP i.2));exact hm.imp id λz=>Q7 b z);refine⟨p,x,g,_,as,_,rfl,W1,ex,W1.SU ex dv,bk,zb,zl,λy L H2 W2 b2 OK du dt ey=>?_⟩;exact kk y L H2 W2 b2 (Ls! OK) du (Ls! dt) ey
universe E
universe E K63
universe N K63F
open PySem L2 FX K63
theorem E9(h:n<=20000):n<sizeLine:=JQ h (sB)
structure mS(mg:Fu!):Prop where
 tuple:bn BW!
 sorted:bn "sorted"
structure dq(K:W.Frag)(H:Hp)(d:Addr)(L:Hm!):Prop where
 ob:A9! (.dK (L.map λq=>(K! q.1,O! l!)))
 st:∀q∈L,SE K H l! F?
universe S
theorem Gf(hd:FT! A9)(ht:cr):O7! t (Pt! (th∈l)):=Bt! H1! Hk
theorem Vn(hd:FT! Dz)(ht:cr)(f:E0! A8! q):FO! d X? l!:=Bn! H1! IV! f
def PK(K:W.Frag)(H:Hp)(hl:HL):Prop:=∀q∈hl,∃cs:M!,Hn! l! cs.map/\AZ H cs F?
theorem PK.keep(k:AE!)(h:Fo! H):Fo! H':=R? (let⟨cs,e,th⟩:=h q hq;⟨cs,k.sq e,ww k th⟩)
inductive Hr(K:W.Frag)(vs:B!)(H:Hp)(Q:VK)(E:XK):Prop
 | mk (sa l:Addr) (as:M!) (ts:A!) (hl:HL) (n:Nat) (R:A!) (_:vs=[O! sa,O! l]) (_:HA! sa) (_:db) (_:Ng!) (_:Ap! l Dz hl) (_:hl.length<=900) (_:Fo! H) (_:(∀q∈hl,q.2.2.length<=900)) (_:L5! ts.filter) (_:n<=6000) (_:KK! (T? x->bv->Dg! H' x R->Az!))
theorem bK:G? ["starts",D6!,"found",CP!,"ahead"] CF! Gp:={}
theorem Lg(F:E! EB! EB! Gp):HJ! f fd CF! Hr:=by
 refine W! bK;obtain⟨sa,l,as,ts,hl,n,R,rfl,es,th,zt,el,zl,hq,hz,eC,zn,k⟩:=h;refine I!;have hu:=k!;refine PW! bK.nd Dm (Ad (Kk (te:=Ca 0) (i:=4) (caps:=B9!) bK.nd rfl rfl rfl rfl (Eh i!) rfl ZV rfl ZV rfl Dv! (PF! FX.NK) D3! ZV Jo! Mi!) (FG! (Mg PassesOwn.never (X2 (pv 4) (λ_=>rfl)) (B5! bK.nd (Le BF RD RC uK KE) (KV! Do U? R! (JC! R! U? Fx (ap (Fk BF GZ GY Ko KE (AQ! (MM! B9! (Ir (Bb hu U! U?)) (PF! FX.NK) Jo!)))))))) R!));intro fa WA;have s1:=Hk! WA;have e1:Ml! (BQ! fa .dT []) []:=Ac;generalize Hj! H fa=H1 at s1 e1;have jB:Fe! H1:=CG! s1 th;refine Fh! sa JX! (λaa YS=>?_);refine Kv (b:=Z? AP!) (caps:=B9!) YS g! JX! jB (λH2 a t Q' sm ha ht q=>?_) λH2 bs sm ea tb=>?_;.obtain⟨o,g,eo⟩:=L9! (Bx! (s1 _ _ el));refine L7!;rw[eo];exact E3!
 have eI:T? aa:=by cases c:H aa with | none=>rfl | some o=>rw[C! s1 c] at YS;cases YS
 have eF:fa≠aa:=λz=>by rw[<-z,e1] at YS;cases YS
 refine BY! (λm σ H'=>∃(ahead found:A!)(JN:M!)(u3:Ad!),σ=[H? sa,H? l,H? fa,u3,H? aa]/\bv/\Ja! H'/\Aq! H' aa JN.map/\AZ H' JN ahead/\MV (QD hl) m ahead found R/\found.length+m<=6000/\Gx! AP!) ⟨n,_,[],bs,_,rfl,Al s1 sm,Cv! sm,ea,tb,eC,by simpa using zn,IR KN!⟩;rintro m σ H' ⟨ahead,found,JN,u3,rfl,sh,ef,RH,TU,rc,zm,hk⟩;refine⟨_,rfl,_,K! (Ef! (DW.of RH)),?_⟩;cases m with | zero =>obtain⟨e0,eR⟩:=rc;rw[e0] at TU;have e2:JN=[]:=BN.mp (Paired.length TU);rw[e2];refine Bx (wE (k fa H' WA sh ?_));rw[eR];exact ef | succ m =>have nV:=rc.len;obtain⟨a,t,br,rc⟩:=rc;rw[br] at TU nV;obtain⟨IQ,c,e2,i',ec⟩:=Pq TU;subst e2;(have em:BU! (IQ++[c]).map=E2!++[Ee!]:=Go!);rw[em] at RH ⊢;rw[show(!(E2!++[Ee!]).isEmpty)=true by cases IQ<;>rfl];refine Cc (GM (λEV H' h=>⟨m,HQ m,h⟩));refine⟨_,rfl,BI! RH,aa,_,_,rfl,rfl,RH,Wf _ _,?_⟩;rw[show(E2!++[Ee!]).dropLast=IQ.map V.ref by simp];(have s3:IN Ag!:=Kk! eI sh);(have RG:B_ H' Ag!:=l? RH);(have RM:Ja! Ag!:=Q! eF ef);have XF:J4! Ag!:=Ac;have QS:AZ Ag! IQ a:=ww RG i';have WE:=C! RG.A_ ec;generalize B2! H' aa IQ.map=H3 at s3 RG RM XF QS WE;refine FZ! _ rfl fa (Gf RM WE) _;rcases rc with⟨hf,rc⟩|⟨hf,rc⟩;(.rw[AE hf];exact Bx ⟨a,found,IQ,_,rfl,s3,RM,XF,QS,rc,F!,EK! hk J1!⟩);.rw[AB hf];refine Cc (Jf! fa (F7! t RM WE (SB E9)));rw[E7,show Bn found t=BS! by unfold Bn;rw[AB hf]];(have s4:IN Ai!:=Kk! WA s3);(have LO:B_ H3 Ai!:=l? RM);have UU:Ml! Ai! Gl!:=Ac;(have TZ:J4! Ai!:=Q! eF.symm XF);have QR:AZ Ai! IQ a:=ww LO QS;have dJ:=C! LO.A_ WE;rw[EC! (HO.dT ((BS!).map WP)=A9 (BS!))];generalize O? H3 fa A9 Gl!=H4 at s4 LO UU TZ QR dJ;have qH:AP!:=hk t (S! br Oj!);obtain⟨ad,bC⟩:=Pj qH;have mq:=AJ bC;obtain⟨cs,q1,q2⟩:=hq _ mq;have q1:Hn! ad cs.map:=q1;have q2:AZ H cs Bj!:=q2;have q3:b? Bp hl t 900:=hz _ mq;refine⟨_,rfl,BI! TZ,_,rfl,_,rfl,l,_,rfl,Vn (s4 _ _ el) dJ bC,ad,rfl,w? ((HC s4).sq q1),λpl RL=>?_⟩;refine Y9 (K:=K) (b:=Cc! NZ!) (caps:=B9!) RL g! ((HC s4).sq q1) (AZ.keep (HC s4) q2) (λH2 a' u Q' qK ha hu' q=>?_) λH6 bx s6 ow UZ=>?_;(.obtain⟨o,g,eo⟩:=L9! (qK l (Dz hl) (s4 _ _ el));refine L7!;rw[eo];exact E3!);.have UZ:AZ H6 bx (QD hl t):=UZ;have zz:=rc.len;rw[ZE] at zz;have l1:=A? QR;have l2:=A? UZ;refine⟨aa,pl,_,_,rfl,rfl,JJ!,ow,LB! E9,?_⟩;rw[<-ZF];(have WY:B_ H6 (NA! H6 aa (IQ++bx).map):=l? JJ!);refine⟨a++QD hl t,BS!,IQ++bx,_,rfl,Co!,?_,Ac,AZ.keep WY (J9 (AZ.keep (HC s6) QR) UZ),rc,?_,Cr!⟩;(.rw[AA! eI];exact JZ! s6);(.rw[Ab eF];exact C! s6 UU);(.rw[ZE];show found.length+1+m<=6000;lia);.rcases ZI hu with hu|hu;(.exact hk u J1!);.have:=Dx! hu;simpa using this
universe E
theorem OG(a:J!)(t:T2):((Ct (a.map DE!) (tk t)).getD (J? 0))=J? (Gs a t):=by rw[LM!];unfold Gs;cases Os! a.find? with | none=>rfl | some r=>rfl
theorem Jhp(a:J!)(q:CM!):b? addW a q Nj!:=by have lp:=Fy (a.map DE!) (tk q.1) (J? (Gs a q.1+q.2));rw[Ex,ZA,ZA] at lp;exact lp
theorem OW:∀(l a:J!),b? l.foldl addW a (a.length+l.length)
 | [],a=>wp
 | q::l,a=>by have h1:=OW l (addW a q);have h2:=Jhp a q;show(l.foldl addW (addW a q)).length<=_;simp only[BL];lia
abbrev G_(L:Hm!):wT:=L.map No
theorem Jq9{K:W.Frag}{H:Hp}{d:Addr}{L:Hm!}{i:Nat}{k:Key}{v:V}(h:(L.map (Pk! (K! q.1:Key)))[i]?=some (k,v)):∃q,L[i]?=some q/\v=O! l!:=by rw[ZH] at h;cases e:L[i]? with | none=>rw[e] at h;cases h | some q =>rw[e] at h;have h:((K! q.1:Key),M7!)=(k,v):=ZO h;exact⟨q,rfl,(Prod.mk.inj h).2.symm⟩
universe S
theorem ZQ:G? ["states","weights",D4!,CP!,I3!] EI! Kf:={}
inductive Px(K:W.Frag)(vs:B!)(H:Hp)(Q:VK)(E:XK):Prop
 | mk (d:Addr) (L:Hm!) (_:vs=[O! d]) (_:dq K H d L) (_:((G_ L).flatMap No).length<=1200) (_:∀(r:Addr)(H':Hp),T? r->bv->Hr! r Cb!->F6! r)
theorem Yb{f:Addr}{fd:FuncData}(F:E! "recorded" "recorded" Kf):HJ! f fd EI! Px:=by
 refine W! ZQ;obtain⟨d,L,rfl,S,zl,k⟩:=h;refine I!;have hu:=k!;refine JB! ZQ.nd Dm (OY! (Si (Le DI JF OI N4 i!)) 2 ZQ.nd (Af (Ei PassesOwn.never rfl (Ir (CT! R!)) (Iu rfl (IN! 3 ZQ.nd (IN! 4 ZQ.nd Ga))) (Af (Cd hu U! U? (Bf Fc (Hx hu U! U? Ag sw) KE) rfl)))) (PM.VH (SL U!)));intro r U';have s1:=Hk! U';have e1:Eg! (BQ! r .dT []) r C6:=Ac;generalize Hj! H r=H1 at s1 e1;have tE:=C! s1 S.ob;refine⟨_,rfl,FS! (S? (OG! tE)),d,_,rfl,rfl,tE,λp hp=>?_⟩;have s2:=sK (Jh p d) hp;have e2:L! (upd H1 p DO!) p DO!:=Ac;generalize upd H1 p DO!=H2 at s2 e2;have zg:=C! s2 tE;have iO:=Cv! s2;have aq:r≠d:=λz=>by rw[z,S.ob] at U';cases U'
 refine⟨p,d,_,rfl,e2,zg,λo=>?_⟩;have kd:∀{H':Hp} {u:HO},L! H' d Mq!->B_ H' (upd H' d u):=λ{H'} {u} e=>PJ λo' e'=>by rw[e] at e';cases e';exact QA!
 refine Q5 (d:=d) (ob:=o) (λi σ H'=>∃(u2 u3 u4:Ad!),σ=[OU!,H? r,u2,u3,u4]/\KW!/\Hr! r ((Bs! No).foldl addW [])/\B_ H2 H'/\MS!) ⟨_,_,_,rfl,Ac,Q! aq iO,kd zg,CR! (Q! n (Mh! s2 s1))⟩ (λi σ H' _ h9=>by obtain⟨_,_,_,_,e,_⟩:=h9;exact e) ?_ ?_;.rintro i kk v σ H3 hi ⟨u2,u3,u4,rfl,ef,er,kt,fr⟩;obtain⟨q,eq,rfl⟩:=Jq9 (K:=K) (H:=H) (d:=d) hi;have mq:=ZP eq;have TX:=(ZJ eq).1;have cV:=((S.st q mq).keep ((HC s1).trans (HC s2))).keep kt;obtain⟨y1,y2,y3,as,bs,ds,f0,f1,t1,f2,t2,f3,t3⟩:=cV;refine⟨_,rfl,l!,_,2,x! y3,rfl,rfl,f0,rfl,y3,rfl,w? f3,?_⟩;(have IZ:L.take (i+1)=L.take i++[q]:=SC DJ eq);(have lT:wP Bs! No+q.2.2.2.2.length<=1200:=by (have e5:Et! (G_ L) a? (G_ (L.drop a?)):=BL! ZF EU);rw[e5,BU,ZE,IZ] at zl;rw[show Et! (G_ (L.take i++[q])) i [F?] by unfold G_;rw[ZF];rfl,BU,ZE] at zl;simp only[BY,EF,AG] at zl;lia);refine Ir! Kt y3 ds (λj σ H'=>∃(w3 w4:Ad!),σ=[OU!,H? r,H? l!,w3,w4]/\KW!/\Hr! r (((Bs! No)++Nh! j).foldl addW [])/\B_ H2 H'/\B_ H3 H'/\MS!) ⟨_,_,rfl,ef,Ne! AG er,kt,B_.refl _,fr⟩ (λj σ H' _ h9=>by obtain⟨_,_,_,_,_,_,k3,_⟩:=h9;exact k3.sq f3);(.rintro j v σ H4 hj ⟨w3,w4,rfl,UU,UT,LO,qr,XD⟩;obtain⟨x,ex⟩:=Dk! q.2.2.2.2 j (A7! (A? t3) hj);obtain⟨a,t,rfl,g1,g2⟩:=(Az t3 j v x hj ex).keep qr;have bV:=(ZJ ex).1;refine⟨a,_,rfl,g1,rfl,_,_,rfl,_,_,rfl,rfl,?_⟩;refine⟨_,rfl,r,rfl,Ck! UT,_,rfl,_,DQ.t (k:=tk x.1) UT g2,_,rfl,_,x.2,OG _ _,rfl,_,rfl,_,rfl,r,_,rfl,F_.t (k:=tk x.1) UT g2 (by rw[ZA];have:=OW ((Bs! No)++Nh! j) [];rw[ZE,CD] at this;simp only[CA] at this;exact SB E9),?_⟩;rw[Ex];(have iB:∀u:HO,B_ H4 (upd H4 r u):=λu=>l? UT);refine⟨_,_,rfl,H! (Ky! aq) UU,?_,LO.trans (iB _),qr.trans (iB _),CR! (PS! U' (XD _ _ e n))⟩;(have e7:∀l:J!,(l++[x]).foldl addW []=addW (l.foldl addW []) x:=λl=>c? NY);(have e8:Bs! No++Nh! (j+1)=(Bs! No++Nh! j)++[x]:=by rw[DJ,ex,<-AQ];rfl);rw[e8,e7];exact Ac);.rintro σ H4 ⟨w3,w4,rfl,UU,UT,LO,qr,XD⟩;rw[A? t3,BS] at UT;refine⟨_,_,_,rfl,UU,?_,LO,XD⟩;rw[IZ,show Et! (G_ (L.take i++[q])) i [F?] by unfold G_;rw[ZF];rfl,BU];simp only[BY,EF,AG];exact UT
 .rintro σ H3 ⟨u2,u3,u4,rfl,ef,er,kt,fr⟩;rw[ZA,BS] at er;refine BY! (upd H3 d Mq!) ⟨d,o,_,ef,λob v z=>?_,rfl⟩;(.have z:A9! (.GV ob v):=z;rw[S.ob] at z;cases z);refine wE (k r _ U' (λb ob e=>?_) (A5! aq er));by_cases hb:b=d;(.rw[hb,Ac];rw[hb,S.ob] at e;exact e);.rw[Ab hb];exact fr b ob e hb
universe E
structure VP(L:wT):Prop where
 nd:N? H9!
 rz:(rowsOf L).length<=60
 hz:(L.flatMap T!).length<=800
 oz:∀r∈FD!,r.2.2.length<=60
 tz:(L.flatMap No).length<=1200
def De(ws:J!)(L:wT):A!:=L.flatMap λS=>S.1++((S.2.1.filter (Nn! (Gs ws r.1))).map T!)
theorem Ij(ws:J!):∀L:wT,b? De ws L ((L.flatMap T!).length+wP rowsOf L)
 | []=>by simp[De]
 | S::L=>by have ih:=Ij ws L;have h:=AW (λr:T2×Int×List T2=>! Au! KB (Gs ws r.1)) A1!;unfold De rowsOf at *;simp only[BY,ZE,ZA] at *;lia
theorem NS:t∈De ws L↔(∃S∈L,t∈S.1)\/∃r∈FD!,r.1=t/\KB≠Gs ws r.1:=by
 unfold De rowsOf;simp only[CU,LW,AF,AD];constructor;.rintro⟨S,hS,(h|⟨r,⟨hr,c⟩,e⟩)⟩;(.exact K! ⟨S,hS,h⟩);.exact D! ⟨r,⟨S,hS,hr⟩,e,DY!⟩
 .rintro(⟨S,hS,h⟩|⟨r,⟨S,hS,hr⟩,e,c⟩);(.exact⟨S,hS,a!⟩);.exact⟨S,hS,D! ⟨r,⟨hr,DY!⟩,e⟩⟩
def OR(hl:HL)(rows:xz):Prop:=hl.map (El! F?)=rows.map λr=>(r.1,Go)
theorem OR.keys(h:OR hl rows):I0! hl.map rows.map:=Bn! (congrArg (List.map Prod.fst) h) AL AL
theorem OR.get(h:OR hl rows)(nd:N? rows.map)(hr:r∈rows):Bp hl r.1=Go:=by
 have m:(r.1,Go)∈hl.map (El! F?):=H! h (SZ (Ae! rfl))
 obtain⟨q,hq,e⟩:=ZN m;have e1:=(Prod.mk.inj e).1;have e2:=M4! e;unfold Bp;rw[<-e1,FX.HN (k:=Ar!) (S! h.keys nd) hq];exact e2
theorem Jjf(nd:N? H9!)(h:OR hl (rowsOf L))(rc:L5! (De (Cr L) L).filter) : ∀t,w! H9!->(FM↔DF!):=by
 have start:∀t,t∈De (Cr L) L->DF!:=IR (by rcases NS.mp ht with⟨S,hS,m⟩|⟨r,hr,e,c⟩;(.exact .hand hS m);.rw[<-e];exact .out hr c)
 have row:∀t,AP!->∃r∈FD!,r.1=t:=IR (by rw[h.keys] at ht;obtain⟨r,hr,e⟩:=ZN ht;exact Ae! e)
 have cl:∀t∈R,DF!:=MV.least (S:=λt=>DF!) (λt lt u hu=>by have ja:=AD.mp hu;by_cases c:AP!;(.obtain⟨r,hr,e⟩:=row t c;subst e;have yB:=ja.1;rw[h.get nd hr] at yB;exact .step hr yB lt);.exfalso;(have:Bp hl t=[]:=D8! (IR! An! c));rw[this] at ja;exact Bz! ja.1 CL) rc (AL! (jp ht)) (IR (start t (AD.mp ht).1));have closed:=MV.closed rc (IR (jp ht));have sub:=(MV.sub rc).2;have back:∀t,DF!->w! H9!->FM:=λt lt=>by induction lt with | hand hS m=>intro ht;exact sub _ (AD.mpr ⟨NS.mpr (G! ⟨_,hS,m⟩),by rw[h.keys];simpa using ht⟩) | out hr c=>intro ht;exact sub _ (AD.mpr ⟨NS.mpr (Y! ⟨_,hr,rfl,c⟩),by rw[h.keys];simpa using ht⟩) | @step r u hr m _ ih =>intro ht;refine closed _ (ih (AF.mpr (Ef! hr))) u (AD.mpr ⟨H! (h.get nd hr) m,by rw[h.keys];simpa using ht⟩)
 exact IR ⟨λm=>cl t m,λl=>back t l ht⟩
theorem Jfe(F:VP L)(h:OR hl (rowsOf L)):∃n R,n<=6000/\L5! (De (Cr L) L).filter:=by
 have lk:(hl.map T!).length<=60:=Aj! h.keys ZA F.rz
 have ls:=Ij (Cr L) L;have l2:=AW (Z? AP!) (De (Cr L) L);have sz:∀t,b? QD hl t 60:=λt=>by refine FY! ?_;by_cases c:AP!;(.rw[h.keys] at c;obtain⟨r,hr,e⟩:=ZN c;rw[<-e,h.get F.nd hr];exact F.oz r hr);·(have:Bp hl t=[]:=D8! (IR! An! c));rw[this];simp
 have:=F.rz;have:=F.hz;obtain⟨n,R,h1,h2⟩:=MV.ex (nx:=QD hl) (keys:=h! hl.map) (B:=60) (Jgj hl) sz 6000 ((De (Cr L) L).filter (Z? AP!)) [] (AL! KN!) (by have:((hl.map T!).filter (Z? (t∉Fk!))).length<=60:=FY! lk;have:=E_ (60+1) this;lia);exact⟨n,R,F!,h2⟩
universe S
theorem SG:G? ["states","weights",D6!,"starts",D4!,CP!,"out","held","kept"] EI! Il:={}
inductive MF(K:W.Frag)(vs:B!)(H:Hp)(Q:VK)(E:XK):Prop
 | mk (d:Addr) (L:Hm!) (_:vs=[O! d]) (_:dq K H d L) (_:VP (G_ L)) (_:∀(x:Addr)(as:M!)(ts:A!)(H':Hp),bv->L! H' x (I7! as.map)->Fe! H'->Found (G_ L) ts->Az!)
theorem OR.snoc(h:OR hl rows)(r:Dc!)(a:Addr):OR (hl++[(r.1,a,Go)]) (rows++[r]):=by unfold OR at *;rw[ZF,ZF,h];rfl
theorem TJ(F:E! "unreached" "unreached" Il)(T:mS mg)(MR:QQ K mg EB! Gp CF! fR dR)(MD:QQ K mg "recorded" Kf EI! fD dD):BO! 2 f fd EI! (MF K):=by
 have GR:HJ! fR dR CF! Hr:=Lg MR.fn;have GD:HJ! fD dD EI! Px:=Yb MD.fn;refine W! SG;obtain⟨d,L,rfl,S,fi,k⟩:=h;refine I!;have hu:=k!;have IB:Ev:=EQ;refine JB! SG.nd (Ce GD IB ut MD.mg MD.fn.kp MD.bd L? Ba Cx!) (Av! 2 SG.nd Dm (B5! SG.nd (Ee Ae) (OY! (Si (Le DI JF OI N4 i!)) 4 SG.nd (Ad (A4 (Fk BF GZ GY Jak U? (Aa (CT! KE) Ae))) (Af (Ei PassesOwn.never rfl (Ir (CT! KE)) (Iu rfl (IN! 5 SG.nd (IN! 6 SG.nd (IN! 7 SG.nd Ga)))) (JC! R! EX! (pv 7) (Af (Bh (D2! t_ (pv 6) (Hx hu U! EX! Ag sw)) (ap (Fk BF DS DR Ea U? (v? 5 Ae))) A3)))))) (PM.VH (Ad (Av (i:=8) SG.nd rfl (Or.inr rfl) (Ce GR IB ut MR.mg MR.fn.kp MR.bd L? Ba (Nm! 3 2))) (SL (Ll! Eb (MM! (OO! 8) (Eh (IH! HG!)) (PF! FX.NK) (Pe! Do)))))))));refine⟨_,rfl,d,L,rfl,S,fi.tz,λws H1 x9 s1 ew=>?_⟩;intro hd bX;have s2:=Hk! bX;have e2:Eg! (E? H1 hd .dT []) hd Dz:=Ac;generalize Hj! H1 hd=H2 at s2 e2;refine⟨sB,λsl ax=>?_⟩;have s3:=I9! ax;have e3:L! (E? H2 sl .BE []) sl (.BE []):=Ac;generalize O? H2 sl .BE []=H3 at s3 e3;have qR:=Al s1 (Al s2 s3);have ew3:=Of! s3 ew;have eh3:=C! s3 e2;have oH:T? hd:=Bw s1 bX;have oG:T? sl:=Bw s1 (Bw s2 ax);have nwh:ws≠hd:=Aj ew bX;have oE:ws≠sl:=Aj (s2 _ _ ew) ax;have qb:hd≠sl:=Aj e2 ax;have dF:=C! qR S.ob;have qg:hd≠d:=λz=>by rw[z,S.ob] at oH;cases oH
 have RV:sl≠d:=λz=>by rw[z,S.ob] at oG;cases oG
 have ndw:ws≠d:=λz=>by rw[z,S.ob] at x9;cases x9
 refine⟨_,rfl,FS! (S? (OG! dF)),d,_,rfl,rfl,dF,λp hp=>?_⟩;have s4:=sK (Jh p d) hp;have e4:L! (upd H3 p DO!) p DO!:=Ac;generalize upd H3 p DO!=H4 at s4 e4;have ze:=AB! dF;refine⟨p,d,_,rfl,e4,ze,λo=>?_⟩;have JCZ:∀i,FE!=Bs! B8!:=λi=>rfl;have nq:∀{i:Nat} {q:Int×Addr×HS},L[i]?=some q->Et! (G_ (L.take a?)) i [F?]:=λ{i q} eq=>by rw[DJ,eq];show List.map _ (L.take i++[q])=_;rw[ZF];rfl
 refine Q5 (d:=d) (ob:=o) (λi σ H'=>∃(u4 u5 u6 u7:Ad!)(hl:HL)(as:M!),σ=[OU!,H? ws,OV!,H? sl,u4,u5,u6,u7,none]/\KW!/\Hr! ws Cb!/\L! H' hd (Dz hl)/\OR hl (rowsOf Iu!)/\Fo! H'/\Hx! sl/\AZ H' as (De Cb! Iu!)/\B_ H4 H'/\MS!) ⟨_,_,_,_,[],[],rfl,Ac,Q! ndw (AB! ew3),Q! qg (AB! eh3),rfl,(R? (jp hq)),Q! RV (AB! e3),L?,PJ (λo' e'=>by rw[ze] at e';cases e';exact QA!),CR! (Q! n (Mh! s4 qR))⟩ (λi σ H' _ h9=>by obtain⟨_,_,_,_,_,_,_,e,_⟩:=h9;exact e) ?_ ?_;.rintro i kk v σ H5 hi ⟨u4,u5,u6,u7,hl,as,rfl,ef,zK,sv,a8,rV,c_,aV,iB,VA⟩;obtain⟨q,eq,rfl⟩:=Jq9 (K:=K) (H:=H) (d:=d) hi;have mq:=ZP eq;have YL:=((S.st q mq).keep ((HC qR).trans (HC s4))).keep iB;obtain⟨y1,y2,y3,KR,bs,ds,f0,f1,t1,f2,t2,f3,t3⟩:=YL;(have jE:rowsOf (G_ L)=FE!++(q.2.2.2.1++rowsOf (G_ (L.drop a?))):=by (have e5:Et! (G_ L) a? (G_ (L.drop a?)):=BL! ZF EU);rw[e5,nq eq];unfold rowsOf;simp only[BU,BY,EF,AG,AQ]);(have ua:h! (G_ L).flatMap=h! Bs!++(q.2.2.1++h! (G_ (L.drop a?)).flatMap):=by (have e5:Et! (G_ L) a? (G_ (L.drop a?)):=BL! ZF EU);rw[e5,nq eq];simp only[BU,BY,EF,AG,AQ]);have zr:=fi.rz;have zh:=fi.hz;have ls:=Ij Cb! Iu!;have qi:=A? aV;have l1:=A? t1;rw[jE,ZE,ZE] at zr;rw[ua,ZE,ZE] at zh;have nd:=fi.nd;rw[jE] at nd;refine⟨_,rfl,BI! c_,_,rfl,l!,_,0,x! y1,rfl,rfl,f0,rfl,sl,y1,_,_,rfl,rfl,c_,f1,LB! E9,?_⟩;rw[<-ZF];(have XY:B_ H5 Lc!:=l? c_);(have bc:∀b ob,Am! H5 ob->b≠sl->Am! Lc! ob:=CR! (Dd! n));have bp:Aq! Lc! sl (as++KR).map:=Ac;have UZ:AZ Lc! (as++KR) (De Cb! Iu!++q.2.2.1):=AZ.keep XY (J9 aV t1);generalize B2! H5 sl (as++KR).map=H6 at XY bc bp UZ;refine⟨_,rfl,l!,_,1,x! y2,rfl,rfl,XY.sq f0,rfl,y2,rfl,w? (XY.sq f2),?_⟩;refine Ir! Kt y2 bs (λj σ H'=>∃(w5 w6 w7:Ad!)(hl:HL)(as:M!),σ=[OU!,H? ws,OV!,H? sl,H? l!,w5,w6,w7,none]/\KW!/\Hr! ws Cb!/\L! H' hd (Dz hl)/\OR hl (FE!++Ov!)/\Fo! H'/\Hx! sl/\AZ H' as ((De Cb! Iu!++q.2.2.1)++h! ((GQ! j).filter (Nn! FV!)).map)/\B_ H6 H'/\MS!) ⟨_,_,_,hl,as++KR,rfl,BB! bc ef RV,bc _ _ zK oE,bc _ _ sv qb,Ne! AG a8,rV.keep XY,bp,by rw[IT];simpa using UZ,B_.refl _,CR! (bc _ _ (VA _ _ e n) (Aj e oG))⟩ (λj σ H' _ h9=>by obtain⟨_,_,_,_,_,_,_,_,_,_,_,_,_,k3,_⟩:=h9;exact(XY.trans k3).sq f2);(.rintro j v σ H7 hj ⟨w5,w6,w7,TV,kG,rfl,sy,sU,iR,VL,gV,YU,dy,jV,QN⟩;obtain⟨r,er⟩:=Dk! q.2.2.2.1 j (A7! (A? t2) hj);obtain⟨a,t,ha,cs,rfl,g1,g2,g3,g4⟩:=(Az t2 j v r hj er).keep (XY.trans jV);have bV:=(ZJ er).1;(have IZ:GQ! (j+1)=Ov!++[r]:=SC DJ er);(have ao:r.1∉h! TV.map:=by rw[VL.keys];intro z;have e9:q.2.2.2.1=GQ! (j+1)++q.2.2.2.1.drop (j+1):=(EU _ _).symm;rw[e9,IZ,<-AQ,<-AQ,<-AQ,AQ (FE!++Ov!++[r])] at nd;(have hZ:N? (FE!++Ov!++[r]).map:=by rw[ZF] at nd;exact(AM.mp nd).1);rw[ZF] at hZ;exact(AM.mp hZ).2.2 r.1 z r.1 (t?) rfl);(have lh:TV.length<=60:=by have:=Jt! VL.keys;rw[ZA,ZA,ZE,CD] at this;lia);have lf:=AW (λr:T2×Int×List T2=>! Au! KB FV!) (GQ! j);rw[CD] at lf;have la7:=A? dy;rw[ZE,ZE,ZA] at la7;refine⟨a,_,rfl,g1,rfl,_,_,rfl,_,_,rfl,_,_,rfl,rfl,?_⟩;refine⟨_,rfl,_,rfl,_,rfl,hd,_,rfl,F7! r.1 iR g2 (SB E9),?_⟩;rw[Gv (V.ref ha) (λq hq z=>EY! ao GM!)];rw[show(TV.map On!)++[(tk r.1,x! ha)]=(ii).map On! by rw[ZF];rfl];(have RW:B_ H7 (E? H7 hd Dz (ii)):=l? iR);(have iJ:∀b ob,Am! H7 ob->b≠hd->Am! (E? H7 hd Dz (ii)) ob:=CR! (Dd! n));have sk:L! (E? H7 hd Dz (ii)) hd (Dz (ii)):=Ac;rw[EC! (HO.dT ((ii).map On!)=Dz (ii))];generalize O? H7 hd Dz (ii)=H8 at RW iJ sk;(have lB:PK K H8 (ii):=λq' RK=>by rcases ZI RK with RK|RK;(.exact(gV.keep RW) q' RK);.rw[ZK RK];exact⟨cs,RW.sq g3,ww RW g4⟩);(have lD:OR (ii) (FE!++GQ! (j+1)):=by rw[IZ,<-AQ];exact VL.snoc r ha);have om:=iJ _ _ sU nwh;have ot:=BB! iJ YU qb;have zY:=BB! iJ sy qg;have yf:=C! RW.A_ g2;have jA:=ww RW dy;refine⟨_,rfl,_,rfl,ws,rfl,Ck! om,_,rfl,_,DQ.t (k:=tk r.1) om yf,?_⟩;rw[OG];refine⟨rfl,_,rfl,?_⟩;refine Wo (λc=>?_) (λc=>?_);(·(have c:¬KB=FV!:=λz=>by rw[z] at c;simp at c);refine⟨_,rfl,BI! ot,_,rfl,sl,_,_,rfl,rfl,ot,E9 (EM!),?_⟩;(have oN:B_ H8 (E? H8 sl .BE (BU! kG.map++[x! t])):=l? ot);refine⟨_,_,_,ii,kG++[t],rfl,H! (Ky! RV) zY,Q! oE om,Q! qb sk,lD,lB.keep oN,H! ZF Ac,?_,(jV.trans RW).trans oN,CR! (PS! oG (iJ _ _ (QN _ _ e n) (Aj e oH)))⟩;rw[IZ,JR,ZF,<-AQ];(have iS:([r].filter (Nn! FV!))=[r]:=by simp[c]);rw[iS];exact Df (AZ.keep oN jA) (oN.A_ _ _ yf));·(have c:KB=FV!:=DY!);refine⟨_,_,_,ii,kG,rfl,zY,om,sk,lD,lB,ot,?_,jV.trans RW,CR! (iJ _ _ (QN _ _ e n) (Aj e oH))⟩;rw[IZ,JR];(have iS:([r].filter (Nn! FV!))=[]:=by simp[c]);rw[iS,AG];exact jA);.rintro σ H7 ⟨w5,w6,w7,TV,kG,rfl,sy,sU,iR,VL,gV,YU,dy,jV,QN⟩;rw[A? t2,BS] at VL dy;refine⟨_,_,_,_,TV,kG,rfl,sy,sU,iR,?_,gV,YU,?_,(iB.trans XY).trans jV,QN⟩;(.rw[nq eq];unfold rowsOf at VL ⊢;simp only[BU,BY,EF,AG];exact VL);.rw[nq eq];unfold De at dy ⊢;simp only[BU,BY,EF,AG];rw[AQ] at dy;exact dy
 .rintro σ H5 ⟨u4,u5,u6,u7,hl,as,rfl,ef,zK,sv,a8,rV,c_,aV,iB,VA⟩;rw[ZA,BS] at a8 aV;refine BY! (upd H5 d Mq!) ⟨d,o,_,ef,λob v z=>?_,rfl⟩;(.have z:A9! (.GV ob v):=z;rw[S.ob] at z;cases z);(have s6:IN F1!:=λb ob e=>by by_cases hb:b=d;(.rw[hb,Ac];rw[hb,S.ob] at e;exact e);.rw[Ab hb];exact VA b ob e hb);(have wm:∀{b:Addr} {xs:B!},CS K H5 b xs->CS K F1! b xs:=λ{b xs} z=>by rcases z with(z|⟨ob,z⟩)|z;(.exact G! (G! (S! (Ab (λy=>by rw[y,ef] at z;cases z)) z)));(.exact G! (Y! ⟨ob,H! (Ab (λy=>by rw[y,ef] at z;cases z)) z⟩));.exact D! z);have UZ:∀{as:M!} {ts:A!},Fe! H5->Fe! F1!:=λ{as ts} z=>Aq (λb t e=>H! (Ab (λy=>by rw[y,ef] at e;cases e)) e) z;(have lC:Fo! F1!:=R? (by obtain⟨cs,e,t⟩:=rV q hq;exact⟨cs,wm e,UZ t⟩));have kO:=UZ aV;(have bp:PL! F1! sl:=Q! RV c_);(have sr:L! F1! hd (Dz hl):=Q! qg sv);clear wm UZ;generalize upd H5 d Mq!=H6 at s6 lC kO bp sr;obtain⟨n,R,zn,rc⟩:=Jfe fi a8;have ls:=Ij Cb! (G_ L);have zr:=fi.rz;have zh:=fi.hz;(have lh:hl.length=(rowsOf (G_ L)).length:=Bn! (Jt! a8.keys) ZA ZA);refine⟨_,rfl,_,rfl,sl,hd,as,_,hl,n,R,rfl,bp,kO,F!,sr,F!,lC,Bm!,rc,zn,λx H7 hx s7 ex=>?_⟩;(·(have m:q.1∈h! (rowsOf (G_ L)).map:=K? a8.keys (SZ (Ao! rfl)));(have e8:Bp hl q.1=F?:=D8! (FX.HN (k:=Ar!) (S! a8.keys fi.nd) hq));obtain⟨r,GK,e⟩:=ZN m;rw[<-e,a8.get fi.nd GK] at e8;rw[<-e8];exact J2! (fi.oz r GK));have iR:=C! s7 sr;obtain⟨so,pm,pw⟩:=FX.sorts (λt:T2=>t) (l:=h! (rowsOf (G_ L)).map) (S! KH fi.nd);(have pw:so.Pairwise JT:=by simpa using pw);(have dr:Rd H7 hd (.dT ((hl.map (Pk! q.1)).map λq=>(F3!,q.2))):=by (have e:((hl.map (Pk! q.1)).map λq=>(F3!,q.2))=hl.map On!:=c? AL);rw[e];exact K! iR);refine⟨_,rfl,hd,_,so,rfl,dr,EM!,?_,pw,λr2 UA LP RZ=>?_⟩;(.rw[AL];show so.Perm (hl.map T!);rw[a8.keys];exact pm);have s8:=DC! UA.map LP;have e8:Aq! (Ps! H7) r2 UA.map:=Ac;have jA:=CG! s8 RZ;generalize B2! H7 r2 UA.map=H8 at s8 e8 jA;have ex8:=C! s8 ex;refine⟨r2,rfl,PI! e8,λp2 GQ=>?_⟩;(have lso:so.length<=60:=Aj! pm.length_eq ZA zr);refine Kv (b:=λt=>! OE!) (caps:=OO! 8) GQ g! e8 jA (λH9 a t Q' sm ha ht q=>?_) λH9 bs sm ea tb=>?_;(.refine FZ! _ rfl x (Gf (Bx! ex8) ha) _;by_cases c:FM;(.rw[j!];rw[show(! OE!)=false by simp[c]] at q;exact q);.rw[o!];rw[show(! OE!)=true by simp[c]] at q;exact q);.refine⟨p2,_,rfl,Ow! ea (λtt rE=>?_)⟩;have s9:=sK (.A_ (bs.map V.ref)) rE;refine k tt bs _ _ (Al s6 (Al s7 (Al s8 (Al sm s9)))) Ac (AZ.keep (HC s9) tb) ⟨pw.filter _,λt=>?_⟩;have li:=Jjf fi.nd a8 rc;rw[AD];constructor;(.rintro⟨h1,h2⟩;have m:=pm.mem_iff.mp h1;exact⟨m,λz=>by rw[(li t m).mpr z |> decide_eq_true] at h2;simp at h2⟩);.rintro⟨h1,h2⟩;exact⟨pm.mem_iff.mpr h1,by have:t∉R:=λz=>h2 ((li t h1).mp z);simp[this]⟩
end
mutual
def Z:=#[v?,(·.1),
Bz!,(·.key),
d!,.nil,
re,.cons,
E! a b,by rw[a];exact b,
R? a b c,by rw[a,b];exact c,
i!,.ref,
IF!,X.calm=true,
I? a b,by rw[a,b],
B0! a b,by rw[a,b];lia,
BG! a,λk:Nat=>a,
v!,.inl,
w?,"many",
AU!,"second_ticks",
sB,"first_ticks",
WF,"states",
N!,.int,
A! a b,⟨a,b⟩,
M?,.inr,
i?,"self",
Gc!,"state",
B!,by lia,
BI! a,λb o e n=>a,
WP a b,by rw[a,b];rfl,
NE a,λl hl=>a,
sK a b c,if a then b else c,
IG! a,by rw[a];simp,
P!,by decide,
b? a,λq hq=>a,
o! a,λt ht=>a,
n? a b,by rw[<-a];exact b,
Hj!,Int×Addr,
BM!,W.ls++L,
CA! a,λb o eb hb=>a,
Af!,by simp,
wS a,show a by lia,
db a,(by cases a),
CE! a,λb o hb e=>a,
ER! a,show a from rfl,
Rs,e1++e2,
ww,"answer",
Y?,"ask",
LW!,"World.ask",
Db a,λb hb=>a,
A?,.str,
Eb!,l1++l2,
Ec!,"pass",
CL!,"deliver",
Ap!,by simpa using h,
a! a,λz hz=>a,
CM!,G.AO<=G'.AO,
Ei! a b,by rw[a];exact b,
X!,a++b,
BE! a,a+G.AI.length,
IB! a,a+G'.AI.length,
BF!,(·.n),
pi a,λy hy=>a,
IC!,W.qs[i]?,
CV!,y∈ys,
NG!,G.BC<G'.BC,
El!,z∈al,
AM! a,by show a;lia,
Em! a,λs g ts hz=>a,
Co!,"make",
Cp!,"free",
En!,"send",
Cs!,"clean",
KB,"hold",
AO!,"drop",
AP!,"take",
AQ!,"_law_world",
IE!,"_law_deed_here",
NI!,"_law_do",
UF,Int×T2,
Bx!,(·.2.1),
By!,tb∈G.hand,
FG! a,λq:T2×Int=>a,
KF,A'<=A,
AR!,B<=B',
FJ!,ta∈G.hand,
AT! a,λu hu=>a,
UV,G'.hand=G.hand,
Uf,"more",
ED! a b c,by rw[a,b,c];rfl,
BH!,W'.qs=W.qs,
Gz!,W.qs.length=m,
IH! a b,if a then b else none,
B4! a,by simpa using a,
IT!,(·.toNat),
BN! a,by rw[a];rfl,
c?,(·.2),
EJ! a,by have:=a;lia,
wP,"_law_cell_here",
BR!,"_law_free",
BS!,"_law_things",
CC!,"_law_a",
Hp!,"_law_holds",
J2!,"_law_many",
Hq!,"_law_hand",
Hr!,"_law_records",
J3!,"_law_letters",
Ah!,.tuple,
KZ!,"_law_hand_here",
Ba!,"hands",
Bb!,"holds",
BZ!,"coming",
Hy! a,∀q∈F.BO,a,
Hz! a,∀q∈F.holds,a,
Eg!,"_law_flat_here",
Ma! a,by unfold Bn;rw[a],
Mo! a,{ F with CG:=a },
Mz!,"_law_noted",
IA!,λ_ _ e _=>e,
M8! a,λH' S' fr=>a,
NE! a,∀y∈sc.names,a,
CR! a,∀b∈fp,a,
NJ!,i<=xs.length,
NK!,λ_ _ e=>e,
NL!,"_law_reached",
EE!,X.env::X.outer,
G8!,"_law_step",
II!,"_law_flat",
Ek!,"_law_script",
IP!,"_law_share",
IQ!,"_law_cell",
IY!,"_law_emptied",
Hu!,"enumerate",
LS!,"_law_right",
DB! a,us.length=a,
x? a b,some (a b),
Q! a,(a:Int),
KM a b c d,a b=x? c d,
D! a b,a _ _ b,
k! a,List (a),
C! a,v! a,
w! a,(v! a),
g! a,i! a,
S? a,CS.of a,
B1! a,[i?,a],
T! a,decide (a),
x! a,a v?,
O! a,N! a,
y! a,(i! a),
B?,(pv 0),
G! a,M? a,
G? a,V.int a,
T? a,x? i! a,
HR! a,(Aw Ar (pv a) Ag),
B2! a,(db a),
j? a b c,Paired a b c,
F!,List LL,
U! a b,(E! a b),
y? a,A! rfl a,
Z? a,(Aa a Ae),
AV! a b,KM H a .A_ b,
H!,A8 (P!) rfl,
M!,List T2,
U?,S? ex,
C? a,V.ref a,
R! a,(M? a),
sw a b c d e f,DN K CW a b c d e f,
AW! a,a b=some o,
NN! a b c d e f,WI CW C CP CI K a p W D m b c d e f ys,
S! a b,E! (Ab a) b,
BJ! a,a=some (q,G),
I!,Q! i,
NO! a b,NN! a n d A B b,
NP! a,NO! H a,
D? a,some a,
h!,(B!),
FM a b,⟨a,b,rfl⟩,
l!,HR! 1,
B3!,(by rfl),
Y!,(pv 2),
BK! a b c,KM a b .BE c,
J!,NP! al,
L!,List V,
K!,List Qy,
No a b c d e,FN P w K mg base a b c d e,
BL! a b,(Aa a (Aa b Ae)),
AX!,q.1=t,
EF!,w! h,
AY! a,(AM! a),
XV a,DW.of a,
AZ! a,a (B!),
V!,(pv 1),
EG! a b c,(Ax a b c (A5 _)),
am a,(o! a),
N?,[i?],
ut a,a b=none,
k? a,(Af (Ay a)),
a?,q.2.1,
v4 a,(ZJ a).1,
IU! a b c,AV! a (b c),
B5!,λ_ z=>B2! z,
l?,g! p,
W!,k! (Addr×BZ),
Hh!,B1! "h",
ap,B1! "letter",
FS,AU _,
m? a,⟨_,a,?_⟩,
Hi! a b,IU! a tv b,
v6 a b c,(Av (i:=a) b rfl (Or.inl rfl) c),
Z!,k! Hj!,
z! a,M? (M? a),
NQ!,λq=>T! AX!,
wE,(ZL ..),
EH! a,a (P!),
E?,(pv 3),
H?,(pv 4),
B6! a b,(a CW C CP b K),
z? a,Paired.length a,
V? a,(some a),
Aa!,N! h,
j! a b c,E' K a b c f fd,
o?,(G.BP,G.AO),
B7! a b c d,j? (KC K a b) c d,
B8!,Q! 0,
Ab! a b c d,DK P w K mg base 1 a b c d,
Hk!,x! G.AH.map,
bn,AW! H,
EI! a,EG! Cg a A7,
O?,(Ap B? rfl),
q! a b c,Ao a b (Ak c),
Hl! a b c d e f g h i j,Bt CW C CP CI K a p b c m d e f g h i fl j,
Hm!,λvs H Q E h=>?_,
B9! a b c d,DK P w K mg base 2 a b c d,
BO! a,Dr (EM a),
F?,CT H fl F,
bv a b,(a b).sum,
Ac!,List Value,
p? a,Q! (a:Nat),
J? a,(a v?).Nodup,
K?,y? (λEB A outer s hr=>?_),
AC a,H a=none,
L?,EH! hr.mono,
NR! a b c d e f,(As (pl:=_) B? TW.cl a b c d d! e f),
BP! a,(a CW C CP),
BQ! a b c d e f,(Ce a b B3! c d e d! Ba f),
Op a,A! a ?_,
GM,W.c+1,
P?,B<=400,
EK! a,D! kt.A_ a,
Ad! a,v! (v! a),
Q?,KA W h q G,
Os a,(Db a),
W?,n<60,
X?,Q! m,
Ae!,(BD _),
ca a,M? (v! a),
PP,Q! ys.length+1,
EL! a,QG W W' h.toNat G a,
NS! a b,B7! H W.EY a b,
CB! a b,(Bk (i:=a) b rfl (Or.inl rfl)),
EM! a,(putK a EF! (N! t)),
Hn! a,putK a (w! s) (N! tick),
Ag! a,AF.mpr a,
Jb!,(x::y0::Ef caps),
EN! a c,∀b∈a,c\/ut H,
NV! a,show B8!<a by decide,
ci,R++[t],
Ho! a b c,KM a b .A_ c,
d?,v! h,
e?,T2->Prop,
f?,Bl H H',
g? a b c d e,QQ K mg a b c d e,
cr a,Ah (o:=.BE []) a,
Ji! a b c d e,NR! a b c d Bs e,
NX! a,Wg D m n sh qs a,
h?,KT CW C CP CI p K W m n d A' B' ys H Q R,
q?,a! ?_,
s?,List Int,
r?,List LT,
BT!,(N! _),
Jy!,ZC _ wE,
t?,NV G t,
Jx! a b,a=x? some (y! b),
u?,Hi! b tb,
CD!,(s,tick,S),
wT a b,BJ! a->b,
EO! a b,F.BO.set a b,
AT a b,⟨a,b,?_⟩,
EP!,(S1 i).2.1,
EQ! a b,A! a (λ_=>b),
KJ! a b,by rw[<-a];exact v4 b,
wp,Q! k,
EQ a,D! s3 a,
Ev,S? et,
AN!,B1! "n",
NH! a b c d,DK P w K mg base 3 a b c d,
At,ZG _,
wv,T? fl,
Ai!,HR! 2,
ES!,AW! H',
Hs! a,FM q a,
Ch,B_ H H',
Aj! a b c d e,(Ad a (Ad b (Ad c (Ad d e)))),
KX! a b c,An (xs:=a) (j:=b) (c),
NZ! a b c d e f g,Hl! H W a b c d e f g F,
ET!,(Bb hu (pv 0) A7),
xL,y.se++[(s,tick)],
xz a,VF CW C CP CI NH NHd NNr MI NW K p H Q E a,
Go a,(NV! a),
KE,λz=>?_,
Kh!,λ_ _ z=>B2! z,
IN,M? h,
FB a b,G! (A! a b),
DI! a b c,(upd a b (.BE c)),
AS!,T? p,
Ak! a,⟨_,rfl,a⟩,
Ht!,AY! (G.AO<=G.AO+1),
Al! a,am (C! a),
IR,Ci hr,
Am! a b c,upd a b (c []),
Na! a b,a (NQ!)=some b,
An!,(EM al),
Ix,NX! ls,
Nb! a,W.qs.set a (q,G'),
EU! a,HJ p W H a,
EV!,(ns.map V.int),
SC,List Addr,
EW! a b c,KM a b .dK c,
CF!,i! b,
SB,k! (Key×V),
CG!,g! a,
BU! a b c,(Aa a (BL! b c)),
SL a b c d e,sw a b c Hh! d e,
SZ,BJ! (qs[j]?),
BV!,A! _ rfl,
EX! a,[i?,"h",a],
LI!,AY! (G.BC<G.BC+1),
Sc a b,(Bf a b Ag),
TD a,FG X G a,
CH! a b c d e,DK P w K mg base a b c d (B6! e CI),
BW! a,Q (i! a) H',
LM! a b c d,m? (Ad (Av (i:=a) b rfl (Or.inl rfl) c) d),
Tk,Nq G G',
LO! a b c,(upd a b (.BE (c V.ref))),
Hv! a b c d,(Bi a B3! b c (Z? d)),
Hw! a b,hR _ _ _ _ _ a b,
BX! a,(a (Jm hr)),
T0 a,W.nsIn K mainGlobals a=some none,
EY!,[G? g,V.ref b],
BY! a,C! ⟨rfl,_,XV a⟩,
Hx! a,XI fl F H a,
EZ! a,E! a Jy!,
CI! a,WP ZH a,
LZ! a b,by have:=a;rw[b] at this;exact this,
ga a,t∈x! a,
CJ! a b,a (AF.mpr b),
ii a b,KM H a .BE b,
Nc! a,U! eN a,
Lc! a b,BK! a b ys,
H0! a b c d,No 3 a b c d,
jp,Nat->Int,
Ea!,(List.range m).map,
lc a,MO X G a,
CK! a,(Sum.inl a:Key),
Lq! a b c,(re a (re b c)),
o0 a b,Jx! (W.nsIn K mainGlobals a) b,
N7! a,NZ! D n d A B a ys,
L3! a,(by show a;decide),
AA!,r.2.1,
L9!,db z,
AB!,List α,
Ed!,Q! j,
H1!,Q! c,
AC! a,D! s1 a,
Ee!,O! g,
AD! a,AV! x a,
AG!,ZN hz,
AF! a b c d e,sw a b c ap d e,
AE!,AE rfl,
MK! a b,a b=some .local,
H2!,Q! W.LV.length+1,
Nd! a b c,λz=>a (n? b c),
Ef! a b,An (xs:=a) (j:=b) h!,
AI! a,F.JJ a Hm!,
AH! a,CB! a OA.nd,
AJ!,W.c+(W.qs.length:Nat),
H3! b c,Na! b (t,a,c),
MR!,(Dk n f c),
AK!,W.IP++[(n,xf)],
MU! a,EN! (BM a) (b∈BM G),
AL!,Fh K mg CW NH NI,
Eh! a b,Ab! f fd a b,
H4! a b,BA x q st a b,
Ao! a,(λ_ _ _ _ _=>a),
Aq!,[Ek!],
Ne! a b,sK (u=1) a b,
Ar! a b,(a b).Nodup,
Mq!,(S1 i).2.2,
As!,b∉B8 p W,
H5!,t∈Hk!,
At! a,∀t∈Hk!,a,
Au!,i1++y'::i2,
H6! a,decide_eq_false (a),
Av!,List Nat,
Ax!,List Str,
Aw! a,x? N! a,
Ay! a b,j? R a b,
H7!,y? rfl,
H8! a b,BK! H' a b,
Az! a b c d,No 5 a b c d,
A0!,AZ! AB,
A1! a,AS CW C CP H2 p a,
A2!,Cc ?_,
H9!,BO! al',
M0!,(M? (v! rfl)),
A3!,ZB _ h,
A4!,EM al,
A5!,decide_eq_true rfl,
M3! a b c d e,(Af (A4 (Fk BF a b c d (Z? e)))),
M4!,Hs! hq,
Nf!,[i?,"h","a","b"],
A6!,N7! al,
A7!,x.wg.BP i.2,
A8! a b,¬((a:Str)=b),
A9! a c,λb o e=>S! (Aj e a) c,
BA! a b,if a then(q.1,a?,b) else q,
BB! a,⟨_,rfl,x,_,_,_,rfl,rfl,U?,rfl,a⟩,
BD!,(hs,os,rs),
BC!,FO F qs ls,
Ej!,(Rs),
Bc!,(X!),
Bd!,(i+1),
Be! a,¬kind=a,
Bf!,Eb!++L,
Bg!,y.se.length+1,
M9!,y.fi++[CD!],
Bh! a,D! k.A_ a,
Ng! a,S! a e,
Bi!,AB ZV,
Bj!,ZI hw,
Bk!,AZ! AE,
Bl! a b c,(Bh (a b) c A3),
Bm!,Bx ?_,
Bn!,B8 p W',
Bo!,DP 1 _,
Bp!,Option V,
Nh! a,EO! h.toNat a,
Bq!,S.same s1,
Br! c,al=a++c::b,
Bs!,Dt W.qs,
NA! a b c d,Ct (a b) c=x? i! d,
NB! a,Q! (putK a (w! s) (N! tick)).length,
Bt!,AS CW C CP H p W,
NC!,⟨rfl,rfl,rfl,rfl⟩,
Bu! a,h a (ZL ..),
Ni!,r.1=Q! h,
Nj!,λx=>C? x.2,
ND! a b c d,(Bh (EI! Y!) (k? (Ji! a b cu c d)) A3),
Bv!,[AQ!,Eg!,IE!],
NF! a b c,(Ei PassesOwn.never rfl a b c),
Nk!,[.Name x px,.Name y0 bL],
Bw!,Txt K mg C NHd NNr MI NW,
CN! a,E! ew a,
CO! a,A! FS a,
Nl! a,(λz=>by rw[z,a] at e;cases e),
CP!,l.kind="back",
CQ!,y.fi.length+1,
CS!,(pv 8),
CT! a,D! sm a,
CU!,g! t,
CW! a,(AD.mp a).1,
CX!,A! _ e,
CY!,Ac!->Prop,
Nm!,AZ! Ec,
CZ!,v4 hj,
Ca! a b,Ah (o:=.A_ a) b,
Cb! a,AS CW C CP H' p a,
Cc!,Nat->Addr,
Nn!,(List.range i).map,
Cd!,Ab (Ne.symm cg),
No! a b c d,B9! a b c (BP! d),
Ce!,(as.map V.ref),
Np! a,⟨rfl,rfl,a,λ_ _=>rfl⟩,
Cf! a,W.findIn K (y! C) a=some none,
Cg! a b c d e,BQ! a hr b c d e,
Ch!,EK! eb,
Ci! a,F'.JJ a Hm!,
Cj!,EL! G',
Ck! a b,Ag! (FM a b),
Cl!,A! FS B!,
Cm! a b c d,(Ad (v6 a b c) d),
Cn! a b,Ho! H' a b,
Cq!,(W.qs.set h.toNat (q,G')),
Cr!,EU! H1,
Nq! a,Hw! a rfl,
Ct!,Hx! H',
Nr! a b c,LZ! (DQ.k (k:=a) b) c,
Cu! a,Lc! H2 a,
Cv!,W.ls=l1++(BP,t)::l2,
Ns! a,∀t∈x! G'.AH.map,a,
Cw! a b,Nd! a z b,
Cx!,ls.map .w,
Nt! a b,Hv! a T.len CC b,
Cy! a b c,a b q G hi t c,
Cz!,x.PV hB,
C0!,[Ek!,"_law_k"],
C1!,Ok G n,
C2!,ZC _ (ZD _ h),
C3!,Hi! a ta,
Nu! a,Lq! BT! a d!,
ID!,(K0 EV! (V? 2) (some 42)),
C4!,B<=B'+1,
C5!,A'<=A-1,
Nv!,T! (Hl y.fi h=cf h),
C6! a,k b o a e,
Nw! a,putK a (w! s) (i! xs),
C7!,NS! l2 b,
C8!,NS! l1 a,
C9! a,⟨_,rfl,x,_,0,_,rfl,rfl,U?,H!,a⟩,
Nx! a b,D? a::D? b::Dc σ caps,
Ny!,(relabel sc X.env).names.lookup,
Nz!,(model X.prog X.w),
DA!,[i?,"beginner","n","turn"],
N8!,(putK I.ss EF! v),
N0! a,Inv X AA σ H a,
Eo! a,FX.ET.UY a,
Ep! a,a Bx!,
Eq!,(Af!),
Er!,(λ_ _=>rfl),
Es!,[J2!],
Et!,b? ?_,
Eu!,Db (C! hb),
Ev!,kind=KB,
Ew!,λr hr=>?_,
Ex!,l.kind=Ec!,
Ey!,λe he=>?_,
Ez! a b,by rw[a,b,AG],
E0!,λw hw=>?_,
E1!,X!++new,
E2!,q.1=ta,
E3! a b c,KM H' a b c,
E4! a b c,KM a b i! c,
E5!,B1! w?,
E6! a b,KM H a .dK b,
E7! a b c d,a b (E! c d),
E8! a,⟨_,a,rfl⟩,
E9! a,a b=some u,
FA!,Z? V!,
FB! c d e f g,sw c d e Nf! f g,
FC! a b c d,(Aa a (Aa b (BL! c d))),
FD!,Q! bH.length+1,
FE! a,mg a=none,
FF!,Dd->Prop,
DC!,ut H',
DD!,Nat->HS,
DE! a b c d e,DN K C a b c N? d e,
DF!,z? th,
DG! a,QG W W' a G G',
DH!,DP 2 _,
DJ! a,W.findIn K (y! CW) a=some none,
DK!,Op ?_,
DL! a b c d e,DK P w K mg base a b c d (B6! e CQ),
DM!,ca h,
N1!,Hn! y.I.fs,
N2!,Hn! y.I.cs,
DN!,A! B! B!,
DO!,Bp G.holds t,
DP!,x.at hi,
DQ!,(a,NameKind.local),
N3! a b c,NH! a b ap c,
N4! a b c d,KX! a b (KJ! c d),
DR!,(b,NameKind.local),
FH!,(W.qs.set j (q,G')),
N5!,Nb! h.toNat,
DS!,[AQ!,IE!],
DT!,[AQ!,Eg!],
DU! a b c d,EW! (upd H a (.dK (EM! b))) c d,
DV!,EX! "tick",
DW! a b,(λq=>a (FC.mpr b)),
DX! a b c,H0! a b Hh! c,
FI!,(Am G ts),
DY!,L3! (2<=sizeLine),
DZ! a,[A? a,Aa!],
Da! a,MK! sc.names.lookup a,
Db!,MU! G',
Dc!,A! P! P!,
Dd! a,(Bf C0 (pv a) Ag),
De!,FQ C H p I,
Df!,v! (M? h),
FK!,(keepR G R),
Dg!,F.holds++[(tm,a,[])],
Dh!,[l?,g! t],
Di! a,Aq (λ_ _ h=>a) pc,
Dj! a,.BE (DW.of a) d!,
Dk!,(g,th),
Dl! a,{ F with holds:=C7 F.holds ta a },
Dm! a b,Fl (o:=.BE (a V.ref)) b,
Dn! a,(a r hr).1,
Do!,(UQ G a),
Dp! a,LL.lt s a ts,
Dq!,b∉ys.flatMap C8,
Dr!,EM al'=EM al,
Ds!,Str->Option Value,
Dt!,b? (B2! hq),
Du!,(List.filter_sublist.map _).subset,
Dv! a b,(Cf (BL! a b)),
Dw! a,Et (iC a),
Dx!,[i?,"beginner","n"],
Dy! a,F.holds++[(a:T2×Addr×M!)],
Dz!,[i?,"h","tick",Gc!],
D0!,t.1=Q! j,
D1! a b,(a:k! (Str×NameKind)).lookup y=some b,
D2!,Ne! 5 3,
D3! a b,(By a (By b Ga)),
D4! a,K63F.FQ CI a io I,
D5!,(upd H c (.A_ EY!)),
D6!,[Eg!,"_law_h","_law_thing"],
N6!,Q! 10 ^ (59:Int).toNat,
D7! a,Bd x q st a,
D8! a,(ne e (λ_ z=>L9!) a),
D9!,[Eg!,IE!,"_law_letter","_law_made"],
EA!,[Ek!,AQ!,Eg!,"_law_at"],
EB!,[AQ!,J2!,wP,"_law_asks",BR!],
EC! a,W.excIn K a [.type "ValueError",.type "Exception",.type "BaseException",.type "object"] "ValueError.__new__"=true,
FL! a b,(n? a b),
FM! a,(Hy! a),
FN!,(λ_=>False),
FO! a,E! e a,
FP! a,E! AG a,
FQ! a b,E! a (b k),
FR!,[WF],
FS!,[Eg!],
FT! a b,A! (XV a) b,
FU!,λb o e=>?_,
FV!,db h,
FW!,b∈B8 p W,
FX!,b∈Er fl F,
FY!,{ W with EY:=Rs },
FZ!,Db ?_,
Fa!,λH1 S1 LQ=>?_,
Fb! a,λh=>(SA a h).toNat,
Fc! a,∀b∈Er fl F,a,
Fd!,pi ?_,
Fe!,ta.1=G.BP,
Ff! a,{ F with BO:=Nh! a },
Fg! a,decide_eq_true (a),
Fh! a,a (NQ!),
Fi!,List β,
Fj!,k! (T2×Int),
Fk!,C! ?_,
Fl!,g! fl,
Fm!,S? ea,
Fn! a b,S? (a _ _ b),
Fo! a,Ab (Aj e a),
Fp! a,[(a,l.th)],
Fq!,y! t,
Fr!,y! b,
Fs!,y! D,
Ft!,y? ?_,
Fu!,R! h,
Fv!,BJ! (qs[i]?),
Fw! a,A! _ (XV a),
Fx! a b,BK! a b [],
Fy!,ZC _ (CO.mpr rfl),
Fz!,k? Fx,
F0! a,AS CW C CP H1 p a,
F1! a b c d e,(Ad (v6 a b c) (Ad d e)),
F2! a b,(Cb a rs).length<=b,
F3! a b,λz=>a (E! z b),
F4!,Ab (Ne.symm hU),
F5!,Sum.inl n,
F6!,(C9 _ _ _).2.2,
F7! a,bv Ea! a,
F8!,AC a,
F9!,Er fl F',
GA!,EK! ea,
GB!,Ad! EF!,
GC! a,(Bh (EI! H?) a A3),
GD!,Os (C! hb),
GE! a,cl.lookup y=some a,
GF!,cr GK,
GG!,g.BP hi,
GH!,W.c+(i:Nat),
GI!,0<=q.2.AO,
GJ!,(q.1,l),
GK!,(o?,a,[]),
GL!,al=a++z::b,
GM!,F.CG.eraseIdx j,
GN!,EM (X!),
GO! a,a->Hp->Prop,
GP!,(s1 _ _ e),
GQ! a b c d,CH! 4 a b c d,
GR! a,(Bb hu O? a),
GS!,EZ! es,
GT!,C4 W ZV,
GU!,AN.mp nd,
GV!,h.keep kt,
GW! a b,x! a=b v?,
GX!,F.BO[h.toNat]?=some q,
GY!,SF qs t,
GZ!,(cs.eraseIdx j).map,
Ga!,x.iv y hy,
Gb!,(Aw Ar Ai! Ag),
Gd!,λr=>T! Ni!,
Ge! a b,v! (n? a b),
Gf! a b c d e,DN K C a b c (B1! "thing") d e,
Gg!,Ai G.AI tb,
Gh!,R v W' al' ys H',
Gi! a,(FF.mpr (M? (M? (v! a)))),
Gj!,⟨_,_,_,rfl⟩,
Gk! a,QV CI K a m y,
Gl!,(AF.mpr M4!),
Gm! a,(re a d!),
Gn!,(qs.set i (q,G')),
Go! a b,au a (λo e=>Ng! b) kt,
Gp! c,[c,Aa!,CG!,CF!],
Gq! a b,Inv X AA σ a b,
Gr!,l.find? NQ!,
Gs! a b,(a al N b).length,
Gt! a,∀t,t∈ts↔a,
Gu! a,(some (V.ref a)),
Gv!,[A? CL!,O! BP],
Gw!,(upd H a (.BE [])),
Gx! a b c d,upd a b (c (d V.ref)),
Gy! a b,AM.mpr ⟨a,Af!,λu hu v hv z=>b⟩,
G0! a,(NZ (P9 K) (Ca a) (tC (N! 0))),
G1! a,∃m',m'<m/\a,
G2!,H3! F.holds.find? l,
G3! a b,⟨a,q,G,eq,b⟩,
G4!,W.LV++[(H2!,io)],
G5! b c d e f g,b (K:=K) (a:=c) (xs:=d) (e) f (g) ?_ ?_,
G6!,i.at x.wa,
G7! a,a mainGlobals mg,
G9!,(y.n,y.io),
HA!,ys=i1++y::i2,
HB! a,sK a 0 q.2.2.length,
HC! a,λb hb o eb=>a b o eb (off b hb),
HD!,W.EY++[(GM,e)],
HE!,(FF.mpr M0!),
HF!,(hN a).1,
HG!,FM r hr,
HH!,b∈WD F,
HI! a,⟨_,rfl,_,rfl,a⟩,
HJ!,SO K mg C,
HK!,(L.map λy=>G? y.1),
NM!,(iN (List.range n)),
HL!,(tk a?,C? q.1),
HM! a,(KQ (KQ (PF (PF a)))),
HN!,(H1! % 5+1),
HO! a,V.str a=V.str c,
HP! a b,a w (sub w b),
HQ!,p? (W1.ls.map Nj!).length,
HS!,(NC X sc cl s3.heap.objs.size Jb! s3 H3 fp AA),
HT! a b,M3! DS DR Ea a b,
HU! a,PJ λo' e=>by rw[a] at e;cases e;exact A! B5! Kh!,
HV!,(upd H1 I.sd (.dK N8!)),
HW! a b c d e f g h,a x hn hB b c d e f g cs.1 cs.2 k h,
HX!,al++Dv m h (PP) 1,
HY!,hV (go B5!) ex,
HZ! b,j8 h λa _ h=>b (P:=λv=>P (a::v)) h (k a),
Ha!,(upd H3 ra (A9 (ci))),
Hb!,(.ListComp elt [⟨.Tuple Nk! kt pt,iter,ifs,0⟩] sc pos),
Hc!,(Gz m sd fd cd).lookup,
Hd! a b c d e f,⟨_,rfl,p,a,_,rfl,b,c,p,d,rfl,e,f⟩,
He! a,x.wa.step i.2 (G':=a) S1 LQ VZ,
Hf! a,E! eW (x.UJ g hi le eh (U! T_ a)),
Hg! a b,λ_ _ _ _ _ _ us hl=>a (P:=λus=>H4! b us) (us:=us) hl h _ _ _ _ _ _,
IJ! a,decide_eq_false a,
IK! a,(by rw[a];lia),
IL! a,(λb o eb hb n1 n2 n3=>a),
IM! a,(λb o e hb=>a),
IN! a,(λi ys H2 _ h=>a),
IO!,(ys++[v]),
IR! a b,E! (Ab (Ne.symm a)) b,
IS! a b c,by have:=a;rw[b,c] at this;exact this,
IV! a b,⟨a,H!,b⟩,
IW!,(S1 i).2.1.map,
IX! a b c,A! a (E! b c),
IZ! a c d,∀b o,bn->a->c->d,
Ia!,by rw[ZA];lia,
Ib!,(S1 i).2.2.take,
Ic! a,z.2.AI.length+a,
Id!,W.qs.length<=12,
Ie!,W.ls.length<=400,
If!,db hz,
Ig! a,NB! a=I.m,
Ih!,λx hx=>?_,
Ii!,kind=Ec!,
Ij!,kind="back",
Ik!,t.2.toNat,
Il! a,λr=>G? a,
Im!,l.kind=KB,
In! a,{ W with qs:=Nb! a,c:=c,ls:=Ls },
Io!,G'.AO<=G.AO+1,
Ip! a,AM! (W.IP.length<=a),
Iq!,t=o?,
Ir! a,{ W with qs:=N5!,c:=c,ls:=a },
Is!,BN! ZF,
It!,λk hk=>?_,
Iu! a,λ_ _ _ c=>Nq! a,
Iv! a,λh1=>Ak! a,
Iw!,λc hc=>?_,
Ix!,λa=>(a,[]),
Iy! a,a (λ_=>rfl),
Iz!,k! UF,
I0!,k! (Addr×T2×Int×M!),
I1! a,C! (ZC _ a),
I2!,(Classical.propDecidable _),
I3!,w! wp,
I4! a,Ab (Nl! a),
I5!,x! F.holds.map,
I6! a,G! (A! _ a),
I7!,B_.refl _,
I8!,T? a,
I9!,T? sa,
JA!,T? da,
JB! a,U! e a,
JC! a,U! AG a,
JD!,y? trivial,
JE!,Z? l!,
JF! a,R! (M? (M? a)),
JG! a b c d e,sw a b c AN! d e,
JH!,BJ! (W.qs[j]?),
JI!,AE H7!,
JJ! a,[i?,a,"share"],
JK! a,v! (DW.of a),
JL! a b c,BK! a b (c V.ref),
JM! a b c d,No 1 a b c d,
JN! a,am (v! (a ht)),
JO! a b,v6 4 a b,
JP! a b c d e f g,(As (pl:=_) a b c d IB e d! f g),
JQ! a b c d e,Ab! a b c (d e),
JR!,Ab (Ne.symm jN),
JS! a b c,a (λq=>T! b)=some c,
JT! a b c d,B9! a b c (d K),
JU! a b c d,B9! a b c (d C),
JV!,(ZD _ hz),
JW! a,Ah (o:=.dT []) a,
JX!,(M? (v! q)),
JY!,F.holds++[(t,a,[])],
NT!,(cs.map V.ref),
JZ! a,W.findIn K (y! CQ) a=some none,
Ja!,Ad! hb,
NU!,EM! I.fs,
Jc! a,∀t,NV G' t->a,
Jd! a b c d,(Ad (Cd hu a b c rfl) d),
Je! a b c d e,Ho! (upd a b (.A_ c)) d e,
Jf! a,Ny! y=some a,
NW! a,(a λq=>C? q.1),
Jg! a b c,NH! a b Hh! c,
Jh!,[i?,"h","g","b"],
Jj! a,(Nw CW C CP a),
Jk!,Rh W.qs t,
Jl! a b c,LM! 1 a b c,
Jm! a b c,LM! 2 a b c,
Jn! a b,LO! H a b,
Jo! a,(Bb hu ET! a),
Jp!,BY! el,
Jq!,CI! hj,
Jr! a b,CJ! a ⟨z,hz,b⟩,
Js!,as.map V.ref,
Jt!,[l?,Aa!],
Ju!,SF W.qs t,
Jv!,Bn q.2 tb,
Jw! a,Ef! W.qs a,
Jz! a b,Eh! a (b C),
J0! a,ER.mpr (a! a),
J1!,(λh=>Nv!),
J4! a b,H6! (show ¬a from b),
J5! a,K63F.SO K mg a,
J6!,Jk G (S1 h),
J7!,R v W' al' HG H',
J8! a,(FF.mpr (M? (M? (M? a)))),
J9! a,a (λq=>q.1),
KA! a b,upd H a (.A_ b),
KB! a,∀b o,bn->a->ES!,
KC! a,∀b o,a->bn->ES!,
KD! a b,(k 0 _ (R! nm) (Nc! a) b),
KE! a b,(k 0 _ (R! B5!) (Nc! a) b),
KF!,(Nd G ta tb),
KG!,(K7 G ta tb),
KH! a b c,NF! a b (Af c),
KI!,λt=>T! (t.1=I!),
KK!,(Eb!).length<=400,
KL!,bv ls.map UX,
KM!,Np! (λ_ h=>h),
NY! a,DI! H2 a [],
KN! a,Am! a r .BE,
KO!,(Hq CW C CP K),
KP!,HJ.DO x.wa HY,
KQ! a b c,Nr! (C! a) b c,
KR!,Cv al n u,
KS!,CT H' fl F,
KT! a,Nt! Bq a,
KU!,N0! s,
KV!,p2.keep NG,
KW! a,(λy h=>a BV! h),
KY!,k! (Int×Int×HS),
Ka!,BL! B? Ag,
Kb! a b c,N3! a b (BP! c),
Kc! a b c d,N4! a b (z? c) d,
Kd! a b c,EQ! (λ_=>a) (A! b (R? eW fV c)),
Ke!,⟨r,hr,ht⟩,
Kf!,OK b o (HY b o e hb) hb,
Kg!,R_ t qs k,
Ki! a b c,⟨_,rfl,a,rfl,A! _ b,c⟩,
Kj!,x.lt s g ts h,
Kk! a b,BE! a+1<=BE! (1*b),
Kl!,⟨q,hq,e.symm⟩,
Km!,(Bp G.holds ta),
Kn! a b c,a (Nx! u v') b c,
Ko!,ie p W ys H H',
Kp! a,j? (HX a) cs F.CG,
Kq! a,go _ rfl rfl rfl a rfl,
Kr! a b,Ue (Fu a) ta b D σ H,
Ks! a,G.AH.filter λq=>T! a,
Kt!,E! ZA Nm!,
Ku! a,[.J' g s n' u G.BC a],
Kv! a,show Q! a≠0 by decide,
Kw! a,∀(h:Nat) q G,wT (qs[h]?) a,
Kx! a b,(Iv Cg a b (A5 _)),
Ky! a b c d e,MeI K a "__init__" b c d e,
Kz! a b,Wg D m (n+1) W.share a b,
K0!,KJ! lm eq,
K1!,λz=>ne (V.str.inj z),
K2! a c d e f,DN K C a c d [i?,"b","weight"] e f,
K3!,[O! z.2.1,g! hd],
K4! a b c,NA! kvsOf a (w! b) c,
K5!,(pP ht).elim,
K6! a b,Nu! (.tupP (CS.of a) b),
K7! a,EG! (BX! Nz) a (Ee Ae),
K8!,KC K H EY y z,
K9! a,F.ha::F.co::(x! F.BO.map++a),
LA! a,[O! n,A? kind,O! s,Ee!,a],
LB! a b c d e f g h i j,⟨_,rfl,_,rfl,p,a,dx,_,_,rfl,hp,b,c,d,e,f,g,h,i,j,?_⟩,
LC! a b c,(⟨KB,a,b,th,c⟩:LT),
LD!,e1++(k,e)::e2,
LE! a,(Aw Dg ET! a),
LF! a b c d e f g,k a b D c ys d e f g (HJ.wi wf) rfl,
LG! a b,a+Fz m y'+1=b+Fz m y,
LH! a b c d e f,Hl! a W' D' b c d e al' HG f,
LJ! a,Fp p W ys W' a H,
LK!,⟨_,rfl,p,JB,_,rfl,GQ,C4 _ ZV,_,rfl,k⟩,
LL!,.deliver BP,
LN!,H9!=BO! al,
LP!,A! x.up.a x.up.b,
LQ!,A! NC! trivial,
LR!,tb∈Bp G.holds ta,
LT!,O4 G.AI tb+x,
LU!,{ y with I:={ y.I with ss:=Nw! y.I.ss,fs:=N1! },fi:=M9! },
LV!,{ y with I:={ y.I with cs:=N2! },se:=xL },
LX! a b,∀d∈a,d.canLay0=true/\d.depth<=b,
LY! a b c,∀C s1 H1 fp AA,a (NC X sc cl C Jb! s1 H1 fp AA) b c,
La!,xs[i]?=some x,
Lb!,(as.map λa=>((a,[]):Addr×M!)).map,
Ld! a b c,a b (re c d!),
Le! a b c,(upd a b (.dK (kvsOf c))),
Lf!,[l?,O! n],
Lg!,(.Name y py),
Lh!,[G? r1.2.2.1,C? tp],
Li!,D.nx σ H,
Lj!,xz (.deliver BP),
Lk! a b c d,(Bh (EI! E?) (k? (Ji! a b c d (Z? Y!))) A3),
Ll!,(λq=>hb (by simp[q])),
Lm!,UB p W y.I H H2,
Ln! a,KC K H W.EY (BP,t) a,
Lo!,(G! Ba!,g! F.ha),
Lp!,(G! Bb!,g! F.hd),
Lr! c d e f g,DN K C c d e [i?,"a","b"] f g,
Ls! a,λr=>(CK! r.1,G? a),
Lt!,λr=>((Sum.inl (k r):Key),f r),
Lu! a b c,ND! a b c (BU! l! l! l!),
Lv! a b,No! a b N? Fn,
Lw!,Ns! (H5!\/0<=t.2),
Lx! a b c,OS H t a b s g c u,
Ly!,KX! W.qs g.toNat (by rw[x.wg.wl.len];lia),
Lz! a,(EE a).mp (g1.trans g2.symm),
L0!,(K63F.LI m f c a S),
L1!,(Nn! S1).flatMap (·.2.2),
L2! a b c d,(C3 (pl:=_) a TW.cl b c LP d d! Ba),
L4! a,(Gh rfl T.range a),
L5! a,σ[4]?=x? some (A? a),
L6!,[O! Ed!,O! c],
L7!,⟨_,_,_,_,e⟩,
L8! a,(a v?).Perm (rg m),
MA! a b c d e f,EQ! (λ_=>F) (A! ⟨t',rfl,z! ⟨a,b,⟨_,_,_,c⟩,d,e,rfl⟩⟩ f),
MB!,C1 m LX N W al ys,
MC!,Wt kind G tb x G',
MD! b c,Zp H F lv mv a b c,
ME! a b,Mq a (am b) m0,
MF!,Ph J5 J2.ok,
MG! a b,LG W.qs An! a b,
MH! a,b? (AV (a q hq) (B!)),
MI!,pi (h y (ZD _ hy)),
MJ! a,∀v W' H',EL! a->R v W' al ys H',
ML!,{ cls:=.type "list",dict:=none,data:=.seq ([]:Ac!).toArray },
MM! a,(.Tuple a kt pt),
MN! a,.tupP (CS.of e1) a,
MO! a,⟨_,a,B5!,B5!,Kh!⟩,
MP!,LO! H4 la IQ.map,
MQ! a b,JK (JK (JK (a b))),
MS!,(Ou m g ts),
MT!,Wv ey rfl rfl,
MV! a,⟨a,io,I,[],[]⟩,
MW! a c,∀b,(a\/b=I.sd\/b=I.fd\/b=I.cd)->c,
MX! a,⟨_,hv,rfl,_,rfl,a⟩,
MY!,(.ask s g n' u),
MZ!,∃a,kv=(Sum.inl r.1,C? a)/\SE K H a r.2.2,
Mb! a b c,wpAny Nz! X.A a b X.xe c,
Mc! a,a ZV ZV ZV ZV,
Md!,[G? 2,G? 2,G? 3,V.int (2+v / 4 % N6!)],
Me!,by rw[el,ZE,BL] at z3;rw[ZE];lia,
Mf! a,[AS!,wv,T? x,D? a,none,none],
Mg! a b c d,(MeI.mth (ps:=a) ⟨b,c,d⟩).bd,
Mh! a b c e f,WI CW C CP CI K a p b c m (n+1) (d+1) A' B' e f,
Mi! a b,sw "letters" "World.letters" Fo N? a b,
Mj!,Val W m H dd,
Mk! a,(JK (JK (JK (a ?_)))),
Ml!,(NZ VY (Ca 4) (tC (A? c))),
Mm! a b c d,(Ej (f:=a) (R:=KC K b c) d),
Mn! a,BQ! GC IB MC.mg MC.fn.kp MC.bd a,
Mp! a,a p=some (.ins C dx (Gz I.m I.sd I.fd I.cd)),
Mr!,λvs H Q _=>Eu CW C CP NH K vs H Q E0,
Ms! a b c,a->K63F.FQ CI H' io b->UB p W I H H'->H8! x c->BW! x,
Mt!,(.GV ob (.dT (R.map λt=>(tk t,V.bl true)))),
Mu! a b c,JO a b c l.kind l.s l.g l.th l.x,
Mv!,i6 m W al W' al' ys HG,
Mw! a,x.UK i W1 HY VZ LI! Ae! Ht! (Al! ht) g1 a rfl cA cB g2 k _ λ_ c=>hR _ _ _ c,
Mx!,(iL b o eb hb n1 n2 n3),
My! a b c,hR _ _ _ _ _ rfl a ⟨y,_,i1,i2,b,ey,rfl,rfl,rfl,rfl,c⟩,
M1!,⟨_,rfl,p,dx,_,rfl,hp,fl _ ZV,_,rfl,x,_,_,_,rfl,rfl,U?,rfl,k⟩,
M2! a b,⟨p,BP,W,l1,l2,t,BP,a,g,b,_,rfl,x.wa,el,et,λH1 W1 HY=>?_⟩,
M5! a b d f g h j l m,x.cG (G':=a) i W1 HY b LI! Ae! Ht! d wg st (f) g cA h h! j k _ λ_ _ c e=>hR _ _ _ _ _ c rfl l m,
M6! a b c d e f g h i j k l m n o p q,x.answer (new:=a) (D':=b) (y':=c) el es p1 p3 ey ee fe fr rfl rfl rfl (kF fr at2) d e (f) g (λw=>h) cA cB i (j) (k) l (m) n (o) p q,
M7!,⟨_,rfl,p,dx,_,rfl,hp,fl _ ZV,_,rfl,x,_,_,_,rfl,rfl,U?,rfl,_,rfl,x,_,_,_,rfl,rfl,U?,rfl,_,rfl,x,_,_,_,rfl,rfl,U?,rfl,k⟩]
universe E
universe E K63F
universe N FX
open PySem PySem.Spec PyProof.Rows L2
theorem Qd:∀{es:List DictEntry} {vs:k! (Key×Value)} {ns:s?},Pairs (Bu P w) es vs->x! vs.map=ns.map Sum.inl->IntsAre (es.map Bz!) ns
 | _,_,ns,.nil,e=>by cases ns with | nil=>exact d! | cons n ns=>cases e
 | _,_,ns,.cons (e:=d) (kv:=kv) h _ t,e=>by cases ns with | nil=>cases e | cons n ns =>have e:kv.1::_=F5!::ns.map Sum.inl:=e;obtain⟨e1,e2⟩:=List.cons.inj e;have ih:=Qd t e2;rcases C5 (k:=kv.1) (v:=d.key) h with⟨i,tk,e3,e4⟩|⟨x,tk,e3,e4⟩;(.rw[e1] at e3;have:n=i:=Sum.inl.inj e3;rw[AK,e4,<-this];exact re n tk ih);.rw[e1] at e3;cases e3
theorem Jhq{es:Array DictEntry}{acc:Array Value}(ha:ItemsOf (λi v=>∃e,es[i]?=some e/\v=e.key) acc es.size):acc.toList=es.toList.map Bz!:=by
 refine FE λj=>?_;by_cases hj:j<es.size;·(have h1:j<acc.size:=E! ha.1 hj);obtain⟨e2,e3,e4⟩:=ha.2 j acc[j] (by simp[h1]);(have e5:es[j]?=some es[j]:=by simp[hj]);rw[e5] at e3;cases e3;(have h2:acc.toList[j]?=some acc[j]:=by simp[h1]);(have h3:es.toList[j]?=some es[j]:=by simp[hj]);rw[h2,ZH,h3,e4];rfl
 .rw[CN (R? Cn ha.1 (GX.mp ‹_›)),CN (R? ZA Cn (GX.mp ‹_›))]
universe S
variable {X:Cx Kx}
inductive Lo(xs:L!)(H:Hp)(Q:VK):Prop
 | mk (d:Addr) (kvs:SB) (ns:s?) (_:xs=[g! d]) (_:E6! d kvs) (_:x! kvs.map=ns.map Sum.inl) (_:ns.length<64) (_:∀(r:Addr)(ms:s?),AC r->ms.Perm ns->ms.Pairwise (·<=·)->Q (i! r) (upd H r (.BE (ms.map V.int))))
theorem Nk(hc:IF!):F8 X (.builtin "sorted") Lo:=by
 intro AA s σ H xs us Q I rv h;obtain⟨d,kvs,ns,rfl,hd,ek,WB,q⟩:=h;obtain⟨u,rfl,rx⟩:=vals1 rv;cases rx;obtain⟨z,lo,vs,rel,o,es,ep,g1,g2,g3,g4,g5,g6⟩:=(show DV X.prog X.w H s.heap d (.dK kvs) from I.DM d _ hd);have ev:∀{a:SB} {b:k! (Key×Value)},KV a b->GW! b.map a.map:=λ{a b} r=>by induction r with | nil=>rfl | cons h _ ih=>rw[AK,AK,ih,h.1]
 have hI:IntsAre (es.toList.map Bz!) ns:=Qd g5 (I? (ev rel) ek);have hl:es.size=ns.length:=IS! (IntsAre.length hI) ZA Cn
 refine HF kind_sorted plain_sorted entry_sorted (args_sorted1 _) (by unfold Builtin.«sorted»;refine ZR (m:=checkCount "sorted" 1 1 _) (ZS (ZR (W.kdu_collect (Vo lo (es:=es) (ep:=ep)) (show _ from I.ok.hd hc) ⟨o,g1,g2,g3⟩ (B0! hl DB) λh1 tk acc kp ha=>?_)));rw[Jhq ha];have I1:N0! { s with heap:=h1,toks:=tk }:=I.kept kp;refine ZR (QZ ?_ (by rw[ZA,Cn,hl,DB];lia));have e1:(h1.push (seqObj "list" (es.toList.map Bz!).toArray 0)).get? h1.objs.size=some (seqObj "list" (es.toList.map Bz!).toArray 0):=ZU _ rfl;refine ZR (ED (DL slot_list_sort (E8! e1) aN (list_sort_tree e1 hI (by rw[ZA,Cn,hl];exact WB) λout ms a1 a2 a3=>m? rfl) (args_list_sort _)));have hn:AC h1.objs.size:=I1.DM.fresh (ZG _);obtain⟨c,ec⟩:=sortedHeap_at (out:=out) e1;(have old:∀b ob,h1.get? b=some ob->(sortedHeap (h1.push (seqObj "list" (es.toList.map Bz!).toArray 0)) h1.objs.size (es.toList.map Bz!) out).get? b=some ob:=λb ob hb=>by have JL:=AR hb;rw[sortedHeap_old (BI JL) (U! size_push' (Nat.lt_succ_of_lt JL))];exact ZT _ hb);refine ZS ⟨_,rfl,g! h1.objs.size,_,I1.laid (a:=h1.objs.size) (o:=.BE (ms.map V.int)) (t':=tk) old (ZG _) ⟨?_,out.toList,c,R0 a1,by simpa using ec⟩,rfl,q _ ms hn a2 a3⟩;rw[ZA,a2.length_eq,DB];lia)
universe E
universe E FX
universe N K63F
open PySem L2 FX K63
def iN(os:Av!):L!:=os.map (BG! (G? wp))
theorem Jm8(n:Nat):(rg n).map V.int=iN (List.range n):=by unfold rg iN;rw[AL];rfl
theorem Jc7{L:k! (Int×Addr×HS)}{h:Int}(n:h∉x! L.map):Ct (L.map λq=>((C! q.1:Key),C? a?)) EF!=none:=by
 unfold Ct;rw[M_,BB.mpr];.rfl
 .intro q hq z;(have z:CK! q.1=v! h:=by simpa using z);injection z with z;exact CJ! n ⟨q,hq,z⟩
theorem q1:A8! w? AU!:=ZV
theorem q2:A8! w? sB:=ZV
theorem q3:A8! w? WF:=ZV
theorem q4:A8! WF AU!:=ZV
theorem q5:A8! WF sB:=ZV
theorem q6:A8! sB AU!:=ZV
def Gz(m:Int)(sd fd cd:Addr):k! (Str×V):=Au AU! (y! cd) (Au sB (y! fd) (Au WF (y! sd) (Au w? (N! m) [])))
universe S
theorem Jcs:KM Hc! (w?:Str) N! m:=by unfold Gz;rw[Bg,AB q1,Bg,AB q2,Bg,AB q3,Bg,AE!]
theorem Tn:E4! Hc! (WF:Str) sd:=by unfold Gz;rw[Bg,AB q4,Bg,AB q5,Bg,AE!]
theorem M7:E4! Hc! (sB:Str) fd:=by unfold Gz;rw[Bg,AB q6,Bg,AE!]
theorem Oc:E4! Hc! (AU!:Str) cd:=by unfold Gz;rw[Bg,AE!]
theorem WO{x:Str}(h1:¬x=AU!)(h2:¬x=sB)(h3:¬x=WF)(h4:¬x=w?):Hc! x=none:=by unfold Gz;rw[Bg,AB h1,Bg,AB h2,Bg,AB h3,Bg,AB h4];rfl
universe E
structure Iq where
 m:Int
 sd:Addr
 fd:Addr
 cd:Addr
 ss:SB
 fs:SB
 cs:SB
structure FQ(C:Addr)(H:Hp)(p:Addr)(I:Iq):Prop where
 ob:∃dx,Mp! H
 s:E6! I.sd I.ss
 f:E6! I.fd I.fs
 c:E6! I.cd I.cs
 sf:I.sd≠I.fd
 sc:I.sd≠I.cd
 fc:I.fd≠I.cd
theorem FQ.keep(x:De!)(k:MW! (b=p) (∀o,bn->ES!)):FQ C H' p I :=⟨let⟨dx,e⟩:=x.ob;A! dx (k p (w! rfl) _ e),k _ M0! _ x.s,k _ (R! M0!) _ x.f,k _ (JF! rfl) _ x.c,x.sf,x.sc,x.fc⟩
theorem FQ.same(x:De!)(s:f?):FQ C H' p I:=x.keep λb _ o e=>s b o e
structure SO(K:W.Frag)(mg:Ds!)(C:Addr):Prop where
 cl:WK K C
 nM:EI K C w?
 nS:EI K C WF
 nF:EI K C sB
 nT:EI K C AU!
 eP:E4! mg "Inquiry" C
universe S
inductive NN(C:Addr)(vs:L!)(H:Hp)(Q:VK)(E:XK):Prop
 | mk (p dx:Addr) (n:Int) (_:vs=Lf!) (_:H p=some (.ins C dx [])) (_:∀(H':Hp)(I:Iq),(∀b u,E9! H->b≠p->E9! H')->FQ C H' p I->I.m=n->I.ss=[]->I.fs=[]->I.cs=[]->AC I.sd->AC I.fd->AC I.cd->Q .FH H')
theorem Jo4:q! E5! E5! Vi:={}
theorem TB(F:j! "__init__" "Inquiry.__init__" Vi)(T:HJ!):Jz! E5! NN:=by
 refine AI! Jo4;obtain⟨p,dx,n,rfl,hp,k⟩:=h;refine K?;refine m? (Ad (Dx B? (pv 1) rfl) (Ad (Dx B? Fw rfl) (Ad (Dx B? Fw rfl) (Af (Dx B? Fw rfl)))));have l1:=A6 w? (N! n) [];refine⟨_,rfl,_,rfl,p,C,dx,[],rfl,hp,T.cl,T.nM,L3! (0<1000),λd1 h1=>?_⟩;have cg:p≠d1:=Aj Ac h1;have l2:=λv=>A6 WF v (Au w? (N! n) []);refine⟨_,rfl,p,C,dx,_,rfl,U! (Ab cg) Ac,T.cl,T.nS,(by simp only[CA] at l1;lia),λd2 h2=>?_⟩;have hU:p≠d2:=Aj Ac h2;have l3:=λv u=>A6 sB u (Au WF v (Au w? (N! n) []));refine⟨_,rfl,p,C,dx,_,rfl,U! (Ab hU) Ac,T.cl,T.nF,(by have:=l2 (i! d1);simp only[CA] at l1;lia),λd3 h3=>?_⟩;have jN:p≠d3:=Aj Ac h3;refine⟨_,rfl,p,C,dx,_,rfl,U! (Ab jN) Ac,T.cl,T.nT,(by have:=l2 (i! d1);have:=l3 (i! d1) (y! d2);simp only[CA] at l1;lia),?_⟩;have g1:AC d1:=by rw[Cd!] at h1;exact h1
 have bN:d1≠d2:=λz=>by rw[<-z,Cd!,Ac] at h2;cases h2
 have g2:AC d2:=by rw[F4!,Ab (Ne.symm bN),F4!] at h2;exact h2
 have eJ:d2≠d3:=λz=>by rw[<-z,F4!,Ac] at h3;cases h3
 have eO:d1≠d3:=λz=>by rw[<-z,Cd!,Ab bN,Cd!,Ac] at h3;cases h3
 have g3:AC d3:=by rw[JR!,Ab (Ne.symm eJ),JR!,Ab (Ne.symm eO),JR!] at h3;exact h3
 refine k _ ⟨n,d1,d2,d3,[],[],[]⟩ (λb u e hb=>?_) ⟨A! dx Ac,?_,?_,?_,bN,eO,eJ⟩ rfl rfl rfl rfl g1 g2 g3;.have m1:=Aj e g1;have m2:=Aj e g2;have m3:=Aj e g3;rw[Ab hb,Ab m3,Ab hb,Ab m2,Ab hb,Ab m1,Ab hb];exact e
 .rw[Cd!,Ab eO,Cd!,Ab bN,Cd!];exact Ac
 .rw[F4!,Ab eJ,F4!];exact Ac
 .rw[JR!];exact Ac
inductive WR(C:Addr)(vs:L!)(H:Hp)(Q:VK)(E:XK):Prop
 | mk (p:Addr) (I:Iq) (h t:Int) (v:V) (_:vs=[l?,Aa!,O! t,v]) (_:De!) (_:I.fs.length<=500) (_:I.ss.length<=500) (_:∀H',FQ C H' p { I with ss:=putK I.ss EF! v,fs:=putK I.fs EF! (N! t) }->(IZ! (b≠I.sd) (b≠I.fd) ES!)->Q (.bl (decide (G? (Q! (putK I.fs (.inl h) (.int t)).length)=V.int I.m))) H')
theorem qN:q! Dz! Dz! Pf:={}
theorem aS(F:j! "first" "Inquiry.first" Pf)(T:HJ!)(hl:FE! "len"):Jz! Dz! WR:=by
 refine AI! qN;obtain⟨p,I,h,t,v,rfl,S,zf,zs,k⟩:=h;refine K?;have hu:=IR;obtain⟨dx,hp⟩:=S.ob;refine m? (Ad (Cd hu O? V! Y! rfl) (Jd! O? V! E? (k? (Kx! (Hv! Oi hl CC O?) O?))));have npf:p≠I.fd:=λz=>by rw[z,S.f] at hp;cases hp
 have nps:p≠I.sd:=λz=>by rw[z,S.s] at hp;cases hp
 refine LB! C T.cl T.nF M7 _ rfl I.fd _ rfl (F_.k (k:=Sum.inl h) S.f (E9 h!));have ID:Mp! (upd H I.fd (.dK (EM! I.fs))):=S! npf hp
 have s1:DU! I.fd I.fs I.sd I.ss:=S! S.sf S.s
 have c1:DU! I.fd I.fs I.cd I.cs:=IR! S.fc S.c
 have f1:DU! I.fd I.fs I.fd NU!:=Ac;have k1:IZ! (b≠I.sd) (b≠I.fd) (AW! (upd H I.fd (.dK (EM! I.fs)))):=λb o e _ n=>Ng! n
 generalize upd H I.fd (.dK NU!)=H1 at ID s1 c1 f1 k1;refine⟨_,rfl,_,rfl,p,C,dx,_,_,rfl,ID,T.cl,T.nS,Tn,_,rfl,I.sd,_,rfl,F_.k (k:=Sum.inl h) s1 (E9 h!),?_⟩;have GQ:Mp! HV!:=S! nps ID
 have s2:EW! HV! I.sd N8!:=Ac;have c2:EW! HV! I.cd I.cs:=IR! S.sc c1
 have f2:EW! HV! I.fd NU!:=IR! S.sf f1
 have k2:IZ! (b≠I.sd) (b≠I.fd) (AW! HV!):=λb o e n1 n2=>S! n1 (k1 b o e n1 n2)
 generalize upd H1 I.sd (.dK N8!)=H2 at GQ s2 c2 f2 k2;exact⟨_,rfl,p,C,dx,_,_,rfl,GQ,T.cl,T.nF,M7,I.fd,_,rfl,f2,_,rfl,p,C,dx,_,_,rfl,GQ,T.cl,T.nM,Jcs,rfl,k H2 ⟨A! dx GQ,s2,f2,c2,S.sf,S.sc,S.fc⟩ k2⟩
inductive UN(C:Addr)(vs:L!)(H:Hp)(Q:VK)(E:XK):Prop
 | mk (p:Addr) (I:Iq) (h t:Int) (_:vs=[l?,Aa!,O! t]) (_:De!) (_:I.cs.length<=500) (_:∀H',FQ C H' p { I with cs:=putK I.cs EF! (N! t) }->(KB! (b≠I.cd))->Q (.bl (decide (G? (Q! (putK I.cs (.inl h) (.int t)).length)=V.int I.m))) H')
theorem g7:q! DV! DV! Mc:={}
theorem XU(F:j! "second" "Inquiry.second" Mc)(T:HJ!)(hl:FE! "len"):Jz! DV! UN:=by
 refine AI! g7;obtain⟨p,I,h,t,rfl,S,zc,k⟩:=h;refine K?;have hu:=IR;obtain⟨dx,hp⟩:=S.ob;refine m? (Ad (Cd hu O? V! Y! rfl) (k? (Kx! (Hv! Oi hl CC O?) O?)));have npc:p≠I.cd:=λz=>by rw[z,S.c] at hp;cases hp
 refine LB! C T.cl T.nT Oc _ rfl I.cd _ rfl (F_.k (k:=Sum.inl h) S.c (E9 h!));have ID:Mp! (upd H I.cd (.dK (EM! I.cs))):=S! npc hp
 have s1:DU! I.cd I.cs I.sd I.ss:=S! S.sc S.s
 have c1:DU! I.cd I.cs I.cd (EM! I.cs):=Ac;have f1:DU! I.cd I.cs I.fd I.fs:=S! S.fc S.f
 have k1:∀b o,bn->b≠I.cd->AW! (upd H I.cd (.dK (EM! I.cs))):=BI! (Ng! n)
 generalize upd H I.cd (.dK (EM! I.cs))=H1 at ID s1 c1 f1 k1;exact⟨_,rfl,p,C,dx,_,_,rfl,ID,T.cl,T.nT,Oc,I.cd,_,rfl,c1,_,rfl,p,C,dx,_,_,rfl,ID,T.cl,T.nM,Jcs,rfl,k H1 ⟨A! dx ID,s1,f1,c1,S.sf,S.sc,S.fc⟩ k1⟩
structure Full(I:Iq)(n:Nat)(f c:jp)(a:Cc!):Prop where
 ks:∃os:Av!,os.Perm (List.range n)/\x! I.fs.map=os.map (BG! (CK! wp))
 fs:∀k<n,Ct I.fs I3!=x? N! (f k)
 cs:∀k<n,Ct I.cs I3!=x? N! (c k)
 ss:∀k<n,Ct I.ss I3!=x? i! (a k)
def Dk(n:Nat)(f c:jp):Av!:=(List.range n).filter λk=>T! (f k=c k)
theorem Jde:∀{ms:s?} {n:Nat},ms.Perm (rg n)->ms.Pairwise (·<=·)->ms=rg n:=λ{ms n} pm pw=>by (have pr:(rg n).Pairwise (·<=·):=by unfold rg;rw[EL];exact List.Pairwise.imp (λ{a b} (h:a<b)=>B!) QA);exact pm.eq_of_pairwise (λa b _ _ h1 h2=>B!) pw pr
inductive SW(C:Addr)(vs:L!)(H:Hp)(Q:VK)(E:XK):Prop
 | mk (p:Addr) (I:Iq) (n:Nat) (f c:jp) (a:Cc!) (_:vs=[l?]) (_:De!) (_:n<=60) (_:Full I n f c a) (_:∀(l:Addr)(H':Hp),AC l->f?->H8! l (iN MR!)->BW! l)
theorem SH:q! N? N? Pe:={}
def Jmm(K:W.Frag):TT:=Fu (NZ VY (R4 (Ug K (Ca 1) sB) (Ca 0)) (R4 (Ug K (Ca 1) AU!) (Ca 0)))
theorem aR(F:j! "still" "Inquiry.still" Pe)(T:HJ!)(hso:FE! "sorted"):Jz! N? SW:=by
 refine AI! SH;obtain⟨p,I,n,f,c,a,rfl,S,hz,fu,k⟩:=h;refine K?;have hu:=IR;obtain⟨dx,hp⟩:=S.ob;refine m? (Af (Ay (Eo (tt:=Jmm K) (te:=Ca 0) (caps:=[(i?,0)]) rfl (Eh (Hv! (Nk rfl) hso DT O?)) rfl ZV rfl ZV rfl JD! (KW! FX.NK) LQ! ZV (Ao! (En (Ax Cg (Bb hu (Ap V! rfl) B?) (Bb hu (Ap V! rfl) B?) (A5 _)))) (Ao! (pv 0)))));obtain⟨os,pm,ek⟩:=fu.ks;have lo:os.length=n:=I? pm.length_eq CM
 refine⟨_,rfl,p,C,dx,_,_,rfl,hp,T.cl,T.nF,M7,I.fd,I.fs,os.map (BG! wp),rfl,S.f,WP ek AL,Ia!,λr ms GK qU pw=>?_⟩;have em:ms=rg n:=Jde (qU.trans (pm.map _)) pw;subst em;rw[Jm8];have s1:=Ah (o:=.BE (iN (List.range n))) GK;have e1:BK! (upd H r (.BE NM!)) r NM!:=Ac;generalize upd H r (.BE NM!)=H1 at s1 e1;refine⟨r,rfl,Fw! e1,NE ?_⟩;refine Gj (K:=K) (a:=r) (xs:=iN (List.range n)) (tt:=Jmm K) (te:=Ca 0) (caps:=[(i?,0)]) (λi ys H'=>Lc! H' l/\Bl H1 H'/\ys=iN (Dk i f c)) (FM Ac (Ah hl)) (λi ys H' _ z=>FT! (z.2.1 _ _ e1) z.1) ?_ ?_;.rintro i v ys H2 N hi ⟨el,s2,rfl⟩ hN;have TX:=v4 hi;(have li:(iN (List.range n)).length=n:=by unfold iN;rw[ZA,CM]);rw[li] at TX;(have hi:G? I!=v:=by unfold iN at hi;rw[ZH,List.getElem?_range TX] at hi;exact ZO hi);subst hi;have d_:=Al s1 s2;have S2:=S.same d_;obtain⟨JB,GQ⟩:=S2.ob;(have gf:DQ H2 I.fd (N! I!) (V? (N! (f i))):=KQ! I! S2.f (fu.fs i TX));(have gc:DQ H2 I.cd (N! I!) (V? (N! (c i))):=KQ! I! S2.c (fu.cs i TX));(have BE:(Dk i f c).length<=i:=LZ! (AW (λk=>T! (f k=c k)) (List.range i)) CM);(have we:Dk (i+1) f c=Dk i f c++(sK (f i=c i) [i] []):=by unfold Dk;rw[EO,JR];congr 1;by_cases z:f i=c i;(.rw[AE z];simp[z]);.rw[AB z];simp[z]);refine⟨_,rfl,p,C,JB,_,_,rfl,GQ,T.cl,T.nF,M7,_,rfl,I.fd,_,rfl,gf,_,rfl,p,C,JB,_,_,rfl,GQ,T.cl,T.nT,Oc,_,rfl,I.cd,_,rfl,gc,rfl,_,rfl,?_⟩;refine Wo (KE) (KE);(·(have z:f i=c i:=by have:=BR z;injection this);refine⟨_,rfl,el,E9 (by unfold iN;rw[ZA];lia),D! hN (AT Ac (A9! hl (s2 b o e)))⟩;rw[we,AE z];unfold iN;rw[ZF];rfl);.have z:¬f i=c i:=λy=>z (IG! y);refine D! hN (AT el s2);rw[we,AB z,AG]
 .rintro ys H2 ⟨el,s2,rfl⟩;(have li:(iN (List.range n)).length=n:=by unfold iN;rw[ZA,CM]);rw[li] at el;exact k l H2 (Bw s1 hl) (Al s1 s2) el
def LI(n:Nat)(f c:jp)(a:Cc!)(S:DD!):k! (Int×Addr×HS):=(Dk n f c).map (BG! (wp,a k,S k))
inductive Q_(C:Addr)(K:W.Frag)(vs:L!)(H:Hp)(Q:VK)(E:XK):Prop
 | mk (p:Addr) (I:Iq) (n:Nat) (f c:jp) (a:Cc!) (S:DD!) (_:vs=[l?]) (_:De!) (_:n<=60) (_:Full I n f c a) (_:(∀k<n,SE K H (a k) (S k))) (_:VP (G_ (LI n f c a S))) (_:∀(x:Addr)(as:SC)(ts:M!)(H':Hp),f?->Cn! x Ce!->AZ H' as ts->Found (G_ (LI n f c a S)) ts->BW! x)
theorem aF:q! [i?,WF,"h"] N? Md:={}
theorem Jhx{a:Cc!}{S:DD!}{ks:Av!}{k:Nat}(h:k∉ks):Ct ((ks.map (BG! (wp,a k,S k))).map λq=>((C! q.1:Key),C? a?)) I3!=none:=by refine Jc7 λm=>?_;rw[AL] at m;obtain⟨j,hj,e⟩:=ZN m;have e:Ed!=Q! k:=e;exact h (E! (show k=j by lia) hj)
theorem Je0(n:Nat)(f c:jp):(Dk n f c).Nodup:=List.nodup_range.filter _
theorem XX{f fS fU:Addr}{fd dS dU:FuncData}(F:j! "result" "Inquiry.result" Md)(T:HJ!)(MS:DE! "still" "Inquiry.still" Pe fS dS)(GS:Ab! fS dS N? (SW C))(MU:g? "unreached" Il FR! fU dU)(GU:JT! fU dU FR! MF):NH! f fd N? (Q_ C K):=by
 refine AI! aF;obtain⟨p,I,n,f,c,a,Sf,rfl,S,hz,fu,st,fi,k⟩:=h;refine K?;have hu:=IR;have IB:Bo!:=L?;have LP:DH!:=L?;obtain⟨dx,hp⟩:=S.ob;refine Jl! aF.nd Fw (Ad (KH! (Eh (C3 (pl:=_) B? T.cl MS.mt GS IB MS.bd d! Ba)) (CB! 2 aF.nd) (Cd hu V! Y! (GR! Y!) rfl)) (k? (BQ! GU LP MU.mg MU.fn.kp MU.bd FA!)));intro d hd;have s1:=Ah (o:=.dK []) hd;have e1:EW! (upd H d (.dK [])) d []:=Ac;generalize Am! H d .dK=H1 at s1 e1;have S1:=Bq!;obtain⟨FJ,ID⟩:=S1.ob;refine⟨_,rfl,p,FJ,_,rfl,ID,Mc! WO,p,I,n,f,c,a,rfl,S1,hz,fu,λl H2 hl s2 el=>?_⟩;refine⟨l,rfl,Fw! el,?_⟩;have hX:d≠l:=λz=>by rw[z] at e1;rw[e1] at hl;cases hl
 have ls:(iN MR!).length=(Dk n f c).length:=by unfold iN;rw[ZA]
 have lz:(Dk n f c).length<=n:=LZ! (AW (λk=>T! (f k=c k)) (List.range n)) CM
 refine G5! M0 l (iN MR!) (λj σ H'=>∃u2,σ=[AS!,T? d,u2]/\f?/\H8! l (iN MR!)/\EW! H' d (((Dk n f c).take j).map (BG! (wp,a k,Sf k)) |>.map λq=>((C! q.1:Key),C? a?))) ⟨_,rfl,Al s1 s2,el,D! s2 e1⟩ (λj σ H' _ h9=>by obtain⟨_,_,_,z,_⟩:=h9;exact XV z);.rintro j v σ H3 hj ⟨u2,rfl,s3,YV,dF⟩;have bV:=CZ!;rw[ls] at bV;obtain⟨kk,oy⟩:=An (xs:=Dk n f c) bV;(have hj:G? (Q! kk)=v:=by unfold iN at hj;rw[ZH,oy] at hj;exact ZO hj);subst hj;have mk:=ZP oy;have hk:kk<n:=BH.mp (CW! mk);have S3:=S.same s3;obtain⟨PH,QM⟩:=S3.ob;(have gs:DQ H3 I.sd (N! (Q! kk)) (V? (i! (a kk))):=KQ! (Q! kk) S3.s (fu.ss kk hk));(have ao:kk∉(Dk n f c).take j:=λz=>by obtain⟨i,hi,e⟩:=List.mem_iff_getElem.mp z;rw[CD] at hi;rw[List.getElem_take] at e;have e3:=(ZJ oy).2;have:=(EE (Je0 n f c)).mp (e.trans e3.symm);lia);refine⟨_,rfl,p,C,PH,_,_,rfl,QM,T.cl,T.nS,Tn,_,rfl,I.sd,_,rfl,gs,_,rfl,_,rfl,d,_,rfl,F_.k (k:=C! (Q! kk)) dF (E9 (by rw[ZA,ZA,CD];lia)),?_⟩;rw[Fa _ (Jhx ao)];refine⟨_,rfl,A9! hd (EQ e),IR! hX YV,?_⟩;rw[Ac,DJ,oy];simp only[Option.toList_some,ZF,AK,FL]
 .rintro σ H3 ⟨u2,rfl,s3,YV,dF⟩;rw[ls,BS] at dF;refine⟨_,rfl,d,LI n f c a Sf,rfl,A! dF Et!,fi,λx as ts H4 s4 ex th fo=>k x as ts H4 (Al s3 s4) ex th fo⟩;obtain⟨j,hj,rfl⟩:=ZN hq;exact(st j (BH.mp (CW! hj))).keep (HC s3)
universe E
universe E K63F
universe N K63
open PySem L2 FX
theorem Iw:∀{R U:M!},R.Nodup->(∀t∈R,t∈U)->R.length<=U.length
 | [],U,_,_=>FS
 | a::R,U,nd,h=>by have KZ:=GU!;have ha:=Bu! a;have ih:=Iw (R:=R) (U:=U.erase a) KZ.2 (o! ((List.mem_erase_of_ne (Cw! KZ.1 ht)).mpr (h t (ZD _ ht))));rw[List.length_erase_of_mem ha] at ih;have:=QB ha;simp only[BL];lia
def t8(p:Addr)(W:EZ)(io:Addr)(I:K63F.Iq):Prop:=MW! (b=io) As!
structure iY(H:Hp)(c b:Int)(ts:M!)(L:Z!)(m:Nat):Prop where
 BP:x! L.map=Ea! λ(i:Nat)=>c+1+I!
 OO:Paired (λ(y:Int×Addr)(i:Nat)=>SS H y.2 y.1 b I! (ts.filter KI!)) L (List.range m)
theorem iY.len(x:iY H c b ts L m):L.length=m:=LZ! (z? x.OO) CM
universe S
inductive Nv(CW C CP CI:Addr)(K:W.Frag)(vs:L!)(H:Hp)(Q:VK)(E:XK):Prop
 | mk (p:Addr) (b n:Int) (W:EZ) (io:Addr) (I:K63F.Iq) (m:Nat) (f c:jp) (a:Cc!) (S:DD!) (_:vs=[l?,N! b,O! n]) (_:Bt!) (_:K4! W.LV n io) (_:D4! H) (_:m<=60) (_:K63F.Full I m f c a) (_:(∀k<m,SE K H (a k) (S k))) (_:K63F.VP (K63F.G_ L0!)) (_:Id!) (_:Ie!) (_:W.IP.length<=900) (_:(∀e∈W.IP,e.1≠n)) (_:∀(x xf:Addr)(as:SC)(ts:M!)(L:Z!)(H':Hp),Found (K63F.G_ L0!) ts->Cb! { W with c:=AJ!,ls:=BM!,IP:=AK! }->iY H' W.c b ts L W.qs.length->Cn! xf Ce!->AZ H' as ts->EU! H'->H8! x HK!->x≠W.hs->Xc p W H x->BW! x)
theorem UH:q! [i?,"beginner","n","found","went","h","there"] Dx! L8:={}
def Jom(K:W.Frag):TT:=Fu (NZ VY (G0! 0) (Ca 1))
theorem Jad(F:j! "let_all" "World.let_all" L8)(T:Bw!)(TW:AL!)(TP:Nl K mg CP NL)(TI:J5! CI)(M1:DN K CI "result" "Inquiry.result" Md N? f1 d1)(G1:NH! f1 d1 N? (K63F.Q_ CI K))(M3:DN K CP "put" "Post.put" Ma [i?,"kind","sender","goal","about"] f3 d3):GQ! f fd Dx! Nv:=by
 have G3:JQ! f3 d3 [i?,"kind","sender","goal","about"] Hf CP:=Km M3.fn TP;refine AI! UH;obtain⟨p,b,n,W,io,I,m,f,c,a,Sf,rfl,S,vi,SI,zm,fu,st,fi,z1,z2,z3,nf,k⟩:=h;refine K?;have hu:=IR;have IB:Bo!:=L?;obtain⟨dx,hp⟩:=S.ob;obtain⟨dX,iF⟩:=SI.ob;refine LM! 3 UH.nd (C3 (pl:=_) (GR! Y!) TI.cl M1.mt G1 hr M1.bd d! Ba) (Jd! O? Y! E? (F1! 4 UH.nd (Ee Ae) (NF! (L4! (Z? (KT! O?))) (Bk (i:=5) UH.nd rfl (Or.inr rfl)) (Cm! 6 UH.nd (D9 Eb B3! T.tuple EG (Z? (Eo (tt:=Jom K) (te:=Ca 0) (caps:=[("h",5)]) rfl (Ir E?) rfl ZV rfl ZV rfl JD! (KW! FX.NK) LQ! ZV (Ao! (En (Ax Cg (HR! 0) V! (A5 _)))) (Ao! (pv 0))))) (HT! H? (JP! O? TP.cl M3.mt G3 M3.bd Ba (FC! A7 V! (pv 5) (pv 6)))))) (k? H?)));have gi:DQ H W.iq (N! n) (some (i! io)):=KQ! n S.iq vi
 refine⟨_,rfl,p,CW,dx,_,_,rfl,hp,TW.cl,TW.nI,Nr W,_,rfl,W.iq,_,rfl,gi,io,dX,_,rfl,iF,Mc! K63F.WO,io,I,m,f,c,a,Sf,rfl,SI,zm,fu,st,fi,λxf as ts H1 s1 XE th fo=>?_⟩;have W1:=Bq!;obtain⟨FJ,ID⟩:=W1.ob;refine⟨_,rfl,_,rfl,p,CW,FJ,_,_,rfl,ID,TW.cl,TW.nF,Pn W,_,rfl,W.fi,_,rfl,F_.k (k:=F5!) W1.fi (U! Mt (AZ! Be)),?_⟩;rw[Wh nf];obtain⟨W2,OK⟩:=Jq8 W1 (l:=AK!);have UR:=HJ.DO W1 OK;have YB:EU! (Le! H1 W.fi (AK!)):=CA! (OK b o (s1 _ _ eb) hb);have gZ:=D! UR.A_ XE;have RZ:=AZ.keep UR th;generalize upd H1 W.fi (.dK (kvsOf (AK!)))=H2 at W2 UR YB gZ RZ;refine A! P! (λr GK=>?_);have s3:=GF!;have e3:Fx! (NY! r) r:=Ac;have W3:=W2.same s3;generalize KN! H2=H3 at s3 e3 W3;have kX:∀W':EZ,Bn!=B8 p W->r∉Bn!:=λW' e m=>by rw[e] at m;exact W2.OF GK m
 obtain⟨PH,QM⟩:=W3.ob;have e0:Q! (W.qs.map λq=>V.ref q.1).length=W.qs.length:=Af!
 refine⟨_,rfl,p,CW,PH,_,_,rfl,QM,TW.cl,TW.nH,D8 _,W.hs,_,rfl,JK! W3.hs,Q! W.qs.length,(by rw[<-e0]),B!,B!,?_⟩;rw[C_];have cn:as.length=ts.length:=z? RZ;have JOQ:ts.length<=60:=by have nd:ts.Nodup:=List.Pairwise.imp (λ{a b} (h:JT a b) (z:a=b)=>by rw[E3,z] at h;lia) fo.pw;have:=Iw nd (o! ((fo.mem t).mp ht).1);rw[ZA] at this;exact AV this fi.rz
 refine Ti (lo:=0) (n:=W.qs.length) (λi σ H'=>∃(u5 u6:Bp!)(L:Z!),σ=[AS!,Aw! b,Aw! n,T? xf,T? r,u5,u6]/\H8! r HK!/\Cb! { W with c:=GH!,ls:=BM!,IP:=AK! }/\iY H' W.c b ts L i/\B_ H3 H'/\EU! H') ⟨_,_,[],rfl,e3,by (have e:({ W with c:=W.c+p? 0,ls:=W.ls++[],IP:=AK! }:EZ)={ W with IP:=AK! }:=Af!);rw[e];exact W3,y? d!,I7!,CA! (EQ (YB b o eb hb))⟩ ?_ ?_;.rintro i σ H4 hi ⟨u5,u6,L,rfl,er,W4,l4,k4,RI⟩;rw[wS (B8!+I!=I!)];have lg:=D! k4.A_ (s3 _ _ gZ);have th4:=AZ.keep k4 (AZ.keep (HC s3) RZ);refine Ki! xf (S? lg) Et!;refine Y9 (K:=K) (b:=KI!) (caps:=[("h",5)]) hq h! (CS.of lg) th4 (λH5 a5 t5 Q' sm ha ht qq=>?_) λH5 bs sm ep tb=>?_;(.refine⟨_,rfl,a5,_,0,G? t5.1,rfl,rfl,S? ha,rfl,_,rfl,rfl,_,rfl,?_⟩;rw[show T! (G? t5.1=V.int I!)=T! (t5.1=I!) by by_cases z:t5.1=I!;(.rw[z];simp);.rw[decide_eq_false z,IJ! (λy=>z (by injection y))]];exact qq);refine⟨q,_,rfl,C! (FT! ep (λx6 hx6=>?_))⟩;have s6:=Ah (o:=.A_ (bs.map V.ref)) hx6;have e6:Ho! (upd H5 x6 (.A_ (bs.map V.ref))) x6 (bs.map V.ref):=Ac;have wb:=AZ.keep (HC s6) tb;have jG:=Al sm s6;generalize Gx! H5 x6 .A_ bs.map=H6 at s6 e6 wb jG;have W6:=W4.same jG;obtain⟨TQ,V_⟩:=W6.ob;obtain⟨kA,hq7⟩:=W6.po.ob;have zP:=D! jG er;refine⟨_,rfl,BY! zP,_,rfl,p,CW,TQ,_,_,rfl,V_,TW.cl,TW.nP,E1 _,W.po,kA,_,rfl,hq7,D6 _ _ ZV ZV,_,rfl,_,rfl,_,rfl,?_⟩;refine⟨W.po,W.pd,_,_,_,_,_,_,rfl,W6.po,(B0! ZE l4.len),λt7 H7 ht7 iM S7 QN=>?_⟩;obtain⟨W7,gy⟩:=W6.JW S7 QN;have WY:=HJ.DO W6 gy;have zO:BK! H7 r HK!:=gy _ _ zP (kX _ rfl);refine⟨r,_,_,rfl,rfl,zO,Be (B0! ZA l4.len),?_⟩;(have kq:B_ H7 (DI! H7 r (L.map (λy=>G? y.1)++[V.int (GH!+1)])):=HU! zO);have kk:=((HC jG).trans WY).trans kq;refine⟨_,_,L++[(GH!+1,t7)],rfl,E! ZF Ac,?_,DK!,k4.trans kk,?_⟩;(·(have e1:W.c+p? (i+1)=GH!+1:=B!);rw[e1,<-AQ];exact W7.keep (CE! (E! (Ab (λz=>kX _ rfl (FL! z hb))) e)));(.rw[ZF,l4.BP,EO,ZF];congr 1;show [GH!+1]=[GM+I!];congr 1;lia);(.rw[EO];exact Gx ⟨x6,bs,D! kq.A_ iM,D! kq.A_ (WY.A_ _ _ e6),AZ.keep kq (AZ.keep WY wb)⟩ (Aq (λ_ _ rr=>rr.keep kk) l4.OO));.intro b' o' e' IM;have ju:b'≠r:=Aj (YB b' o' e' IM) GK;rw[Ab ju];exact gy b' o' (jG _ _ (RI b' o' e' IM)) IM
 .rintro σ H4 ⟨u5,u6,L,rfl,er,W4,l4,k4,RI⟩;exact Ak! (k r xf as ts L H4 fo W4 l4 (k4.A_ _ _ (s3 _ _ gZ)) (AZ.keep k4 (AZ.keep (HC s3) RZ)) RI er (λz=>by have:=W2.hs;rw[ER! (({ W with IP:=AK! }:EZ).hs=W.hs),<-z,GK] at this;cases this) (CA! (Aj (YB b o eb hb) GK)))
universe E
def UB(p:Addr)(W:EZ)(I:K63F.Iq)(H H':Hp):Prop:=∀b o,bn->As!->b≠I.sd->b≠I.fd->b≠I.cd->ES!
universe S
theorem UB.DO(x:Bt!)(y:D4! H)(f:UB p W I H H'):Ch:=by
 have ne:∀{b:Addr} {o:HO} {d:Addr} {kvs:SB},bn->(∀kvs,o≠.dK kvs)->E6! d kvs->b≠d:=λ{b o d kvs} e n ed z=>by rw[z,ed] at e;injection e with e;exact n _ e.symm
 exact A! (λa xs e=>f a _ e (x.aO e) (D8! y.s) (D8! y.f) (D8! y.c)) (λa ob u e=>f a _ e (λm=>by obtain⟨o,e',_,h⟩:=x.some_at m;rw[e] at e';cases e';exact D! h rfl) (D8! y.s) (D8! y.f) (D8! y.c))
theorem AS.off(x:Bt!)(f:KB! FW!):AS CW C CP H' p W:=x.keep λb o m e=>f b o e m
theorem Jcu(nd:J? (LD!).map):K4! (LD!) k e/\D7 (kvsOf (LD!)) (w! k)=kvsOf (Rs):=A! (WP Kr (Y8 nd)) (Zc nd)
universe E
universe S
inductive Pw(CW C CP CI:Addr)(K:W.Frag)(vs:L!)(H:Hp)(Q:VK)(E:XK):Prop
 | mk (p t:Addr) (W:EZ) (k s g n u:Int) (e1 e2:Z!) (e xs:Addr) (tick:Int) (io:Addr) (I:K63F.Iq) (_:vs=Dh!) (_:Bt!) (_:Lx! k ww n) (_:W.EY=LD!) (_:J? W.EY.map) (_:AV! e [O! tick,g! xs]) (_:K4! W.LV n io) (_:D4! H) (_:t8 p W io I) (_:I.fs.length<=500) (_:I.ss.length<=500) (_:I.cs.length<=500) (_:Id!) (_:Ie!) (_:((u=1/\(NB! I.fs≠I.m->∀(x:Addr)(H':Hp),Ms! (Cb! FY!) { I with ss:=Nw! I.ss,fs:=Hn! I.fs } [])/\(Ig! I.fs->∀(x:Addr)(L:Z!)(H':Hp),Cb! { W with EY:=Rs,c:=AJ!,ls:=BM! }->Ms! (MY H' W.c g n 2 L W.qs.length) { I with ss:=Nw! I.ss,fs:=Hn! I.fs } HK!))\/(u≠1/\(NB! I.cs≠I.m->∀(x:Addr)(H':Hp),Ms! (Cb! FY!) { I with cs:=Hn! I.cs } [])/\(Ig! I.cs->∃(m:Nat)(f c:jp)(a:Cc!)(S:DD!),m<=60/\K63F.Full { I with cs:=Hn! I.cs } m f c a/\(∀k<m,SE K H (a k) (S k))/\K63F.VP (K63F.G_ L0!)/\W.IP.length<=900/\(∀e∈W.IP,e.1≠n)/\∀(x xf:Addr)(as:SC)(ts:M!)(L:Z!)(H':Hp),Found (K63F.G_ L0!) ts->Cb! { W with EY:=Rs,c:=AJ!,ls:=BM!,IP:=AK! }->iY H' W.c g ts L W.qs.length->Cn! xf Ce!->Ms! (AZ H' as ts) { I with cs:=Hn! I.cs } HK!))))
theorem QX:q! [i?,"letter","sender","beginner","n","enclosed","last"] ap F9:={}
theorem Jiu(F:j! "answer_came" "World.answer_came" F9)(T:Bw!)(TW:AL!)(TI:J5! CI)(M1:DN K CI "first" "Inquiry.first" Pf Dz! f1 d1)(M2:DN K CI "second" "Inquiry.second" Mc DV! f2 d2)(M3:sw "ask_all" "World.ask_all" Js DA! f3 d3)(G3:B9! f3 d3 DA! KO!)(M4:sw "let_all" "World.let_all" L8 Dx! f4 d4)(G4:GQ! f4 d4 Dx! Nv) : CH! 5 f fd ap Pw:=by
 have G1:JQ! f1 d1 Dz! K63F.WR CI:=K63F.aS M1.fn TI T.len;have G2:JQ! f2 d2 DV! K63F.UN CI:=K63F.XU M2.fn TI T.len;refine F.ok QX (Hm!) (λEB A outer s H vs Q E hr h=>?_);.obtain⟨p,t,W,k,s,g,n,u,e1,e2,e,xs,tick,io,I,rfl,_⟩:=h;rfl
 .obtain⟨p,t,W,k,s,g,n,u,e1,e2,e,xs,tick,io,I,rfl,S,⟨a,et,ea⟩,ee,nde,he,vi,SI,off,zf,zs,zc,z1,z2,kk⟩:=h;have hu:=IR;have IB:Bo!:=L?;have LP:DH!:=L?;obtain⟨dx,hp⟩:=S.ob;refine Jm! QX.nd l! (Cm! 3 QX.nd l! (Aj! (JO! QX.nd (Aw Ar l! Ag)) (v6 5 QX.nd (X7 O? l! NC!)) (Bh (EG! Cg (Aw Ar l! Ag) Ag) (Cm! 6 QX.nd (JP! (GR! H?) TI.cl M1.mt G1 M1.bd Ba (BU! Y! (HR! 5) (HR! 5))) (k? (X6 (Hg (pv 6)) (NR! M3.mt G3 LP M3.bd Ba (BU! E? H? Ag)) (Ee Ae)))) A3) (v6 6 QX.nd (JP! (GR! H?) TI.cl M2.mt G2 M2.bd Ba (BL! Y! (HR! 5)))) (k? (X6 (Hg (pv 6)) (NR! M4.mt G4 hr M4.bd Ba (BL! E? H?)) (Ee Ae)))));have kZ:=nde;rw[ee] at kZ;obtain⟨ev,ed⟩:=Jcu kZ;refine⟨_,rfl,t,_,2,G? s,rfl,rfl,Ev,rfl,?_⟩;refine⟨_,rfl,t,_,3,G? g,rfl,rfl,Ev,rfl,?_⟩;refine⟨_,rfl,t,_,4,C? a,rfl,rfl,Ev,rfl,a,_,0,G? n,rfl,rfl,Fm!,rfl,?_⟩;have sX:=S.en;rw[ee] at sX;refine⟨_,rfl,p,CW,dx,_,_,rfl,hp,TW.cl,TW.nE,Jen W,W.en,rfl,C! (A! _ (C! sX)),_,rfl,t,_,0,G? k,rfl,rfl,Ev,rfl,_,Sum.inl k,_,sX,rfl,ev,?_⟩;rw[ed];obtain⟨W1,HY⟩:=Jq3 S (l:=Rs);have NG:=HJ.DO S HY;have o_:D4! (Le! H W.en Ej!):=SI.keep (HC! HY);generalize upd H W.en (.dK (kvsOf Ej!))=H1 at W1 HY NG o_;have sV:=D! NG.A_ et;have ea1:=D! NG.A_ ea;have rb:=D! NG.A_ he;obtain⟨FJ,ID⟩:=W1.ob;obtain⟨dX,iF⟩:=o_.ob;(have gi:DQ H1 W.iq (N! n) (some (i! io)):=IS! (DQ.k (k:=C! n) W1.iq) (ER! ((FY!:EZ).LV=W.LV)) vi);refine⟨_,rfl,t,_,4,C? a,rfl,rfl,S? sV,rfl,a,_,1,G? u,rfl,rfl,S? ea1,rfl,rfl,_,rfl,?_⟩;have uv:=off I.sd M0!;have uw:=off I.fd (R! M0!);have ux:=off I.cd (JF! rfl);rcases kk with⟨u1,k1,k2⟩|⟨u1,k1,k2⟩;(.subst u1;refine A2!;refine⟨_,rfl,p,CW,FJ,_,_,rfl,ID,TW.cl,TW.nI,Nr _,_,rfl,W.iq,_,rfl,gi,io,dX,_,rfl,iF,Mc! K63F.WO,_,rfl,_,rfl,e,_,0,G? tick,rfl,rfl,S? rb,rfl,_,rfl,e,_,1,C? xs,rfl,rfl,S? rb,rfl,?_⟩;refine⟨io,I,s,tick,g! xs,rfl,o_,zf,zs,λH2 iX JU=>?_⟩;have W2:A1! FY!:=AS.off W1 (CA! (JU b o eb (Cw! uv hb) (Cw! uw hb)));have iL:UB p W I H H2:=λb o eb hb n1 n2 n3=>JU b o (HY b o eb hb) n1 n2;obtain⟨JB,GQ⟩:=W2.ob;refine HI! ?_;by_cases c:Ig! I.fs;(.rw[Fg! (by rw[c])];refine A2!;refine⟨_,rfl,p,JB,_,rfl,GQ,C4 _ ZV,_,rfl,_,rfl,p,g,n,2,_,rfl,W2,z1,z2,λx L H3 W3 l3 VX ex _ _=>?_⟩;refine k2 c x L H3 W3 l3 (iX.keep (HC! VX)) (IL! (VX b o Mx! hb)) ex);.rw[H6! (λz=>c (by injection z))];refine Bx (A! P! Ih!);have s3:=cr hx;exact k1 c x _ (W2.same s3) (iX.same s3) (IL! (EQ Mx!)) Ac);.rw[H6! (λz=>u1 (by injection z))];refine Bm!;refine⟨_,rfl,p,CW,FJ,_,_,rfl,ID,TW.cl,TW.nI,Nr _,_,rfl,W.iq,_,rfl,gi,io,dX,_,rfl,iF,Mc! K63F.WO,_,rfl,_,rfl,e,_,0,G? tick,rfl,rfl,S? rb,rfl,?_⟩;refine⟨io,I,s,tick,rfl,o_,zc,λH2 iX JU=>?_⟩;have W2:A1! FY!:=AS.off W1 (CA! (JU b o eb (Cw! ux hb)));have iL:UB p W I H H2:=λb o eb hb n1 n2 n3=>JU b o (HY b o eb hb) n3;obtain⟨JB,GQ⟩:=W2.ob;refine HI! ?_;by_cases c:Ig! I.cs;(.rw[Fg! (by rw[c])];refine A2!;obtain⟨m,f,cf,af,Sf,zm,fu,st,fi,z3,nf,k3⟩:=k2 c;have kt:=UB.DO S SI iL;refine⟨_,rfl,p,JB,_,rfl,GQ,C4 _ ZV,_,rfl,_,rfl,p,g,n,_,io,_,m,f,cf,af,Sf,rfl,W2,vi,iX,zm,fu,λj hj=>(st j hj).keep kt,fi,z1,z2,z3,nf,λx xf as ts L H3 fo W3 l3 XE th VX ex _ _=>?_⟩;exact k3 x xf as ts L H3 fo W3 l3 XE th (iX.keep (HC! VX)) (IL! (VX b o Mx! hb)) ex);.rw[H6! (λz=>c (by injection z))];refine Bx (A! P! Ih!);have s3:=cr hx;exact k1 c x _ (W2.same s3) (iX.same s3) (IL! (EQ Mx!)) Ac
inductive Nw(CW C CP CI:Addr)(vs:L!)(H:Hp)(Q:VK)(E:XK):Prop
 | mk (p:Addr) (h:Int) (W:EZ) (q:Addr) (G:BZ) (_:vs=Jt!) (_:Bt!) (_:Q?) (_:Id!) (_:Ie!) (_:W.LV.length<=400) (_:(∀l∈W.LV,l.1≠H2!)) (_:∀(io:Addr)(I:K63F.Iq)(L:Z!)(H':Hp),Cb! { W with LV:=G4!,c:=AJ!,ls:=BM! }->MY H' W.c h (H2!) 1 L W.qs.length->D4! H'->t8 p W io I->(MW! (b=io) (ut H))->I.m=Q! W.qs.length->I.ss=[]->I.fs=[]->I.cs=[]->EU! H'->Q (N! (H2!)) H')
theorem aP:q! (EX! "n") Hh! Xq:={}
theorem Jit(F:j! Y? LW! Xq)(T:Bw!)(TW:AL!)(TI:J5! CI)(MH:SL "house" "World.house" E2 fH dH)(tV:Mk K CI fI)(FI:E' K "__init__" "Inquiry.__init__" Vi fI dI)(bI:Binds K dI E5! [])(M1:sw "ask_all" "World.ask_all" Js DA! f1 d1)(G1:B9! f1 d1 DA! KO!):DX! f fd (Jj! CI):=by
 have GH:JM! fH dH Hh! (Ew CW C CP NH):=Ep MH.fn T TW;have GI:JM! fI dI E5! (K63F.NN CI):=FX.ET.UY (K63F.TB FI TI);have G1':No 2 f1 d1 DA! KO!:=Eo! G1;refine Hz F aP Hm!;obtain⟨p,h,W,q,G,rfl,S,i,z1,z2,z3,h1,k⟩:=h;refine K?;have hu:=IR;have IB:Bo!:=L?;obtain⟨dx,hp⟩:=S.ob;refine m? (Ad (A4 (Ji! MH.mt GH IB MH.bd FA!)) (Cm! 2 aP.nd (Sc Fc (Nt! Oi O?)) (Ad (Cd hu O? Y! (Vp tV GI hr B3! TI.eP bI d! Bs (Z? (KT! O?))) rfl) (Ad (A4 (Ji! M1.mt G1' hr M1.bd (BU! V! Y! Ag))) (k? Y!)))));refine⟨_,rfl,p,dx,_,rfl,hp,GT!,_,rfl,p,h,W,rfl,S,G! ⟨q,G,i,?_⟩⟩;refine⟨_,rfl,p,CW,dx,_,_,rfl,hp,TW.cl,TW.nI,Nr W,W.iq,_,rfl,S.iq,_,_,rfl,rfl,?_⟩;rw[Mt];refine⟨_,rfl,p,CW,dx,_,_,rfl,hp,TW.cl,TW.nH,D8 W,W.hs,_,rfl,JK! S.hs,λio dX qa cj qd=>?_⟩;refine⟨io,dX,_,rfl,Ac,λH1 I oO A1 im is qu ic n1 n2 n3=>Ft!⟩;have s0:Bl H (upd (upd H dX (.own io)) io (.ins CI dX [])):=λb o e=>R? (Fo! qa) (Fo! cj) e
 have s1:Bl H H1:=λb o e=>oO b o (s0 b o e) (Aj e qa);have FH:MW! (b=io) (ut H):=Db (by rcases hb with rfl|rfl|rfl|rfl;(.exact qa);(.exact Bw s0 n1);(.exact Bw s0 n2);.exact Bw s0 n3)
 have off:t8 p W io I:=Db (S.OF (FH b hb));have S1:=Bq!;obtain⟨FJ,ID⟩:=S1.ob;refine⟨_,rfl,p,CW,FJ,_,_,rfl,ID,TW.cl,TW.nI,Nr W,_,rfl,W.iq,_,rfl,F_.k (k:=Sum.inl (H2!)) S1.iq (U! Mt (AZ! Be)),?_⟩;rw[Wh h1];obtain⟨W2,OK⟩:=S1.vM (l:=G4!);have A2:D4! (Le! H1 W.iq (G4!)):=A1.keep (HC! OK);have YB:EU! (Le! H1 W.iq (G4!)):=CA! (OK b o (s1 _ _ eb) hb);generalize upd H1 W.iq (.dK (kvsOf (G4!)))=H2 at W2 OK A2 YB;obtain⟨JB,GQ⟩:=W2.ob;refine⟨_,rfl,p,JB,_,rfl,GQ,C4 _ ZV,_,rfl,_,rfl,p,h,H2!,1,_,rfl,W2,z1,z2,λx L H3 W3 l3 VX _ _ _=>?_⟩;refine Ak! (k io I L H3 W3 l3 (A2.keep (HC! VX)) off FH ?_ is qu ic (CA! (VX b o (YB b o eb hb) hb)));rw[im];simp
universe E
universe S
inductive Uq(CW C CP CI:Addr)(K:W.Frag)(vs:L!)(H:Hp)(Q:VK)(E:XK):Prop
 | mk (p:Addr) (n:Int) (W:EZ) (l1 l2:Z!) (t:Addr) (m s g:Int) (kind:Str) (v:V) (_:vs=Lf!) (_:Bt!) (_:W.ls=l1++(n,t)::l2) (_:AV! t [O! m,A? kind,O! s,Ee!,v]) (_:∀H1,F0! { W with ls:=Eb! }->Cr!->((Ii!/\Lz CW C CP Dh! H1 Q E)\/(kind=Y?/\Gn CW C CP K Dh! H1 Q E)\/(kind=ww/\Pw CW C CP CI K Dh! H1 Q E)\/(kind="let"/\Gm CW C CP Dh! H1 Q E)\/((Be! Ec!/\Be! Y?/\Be! ww/\Be! "let")/\Ho CW C CP Dh! H1 (λ_ H2=>∀r,H2 r=none->Q (i! r) (NY! r)) E)))
theorem Jis(F:j! CL! "World.deliver" Kd)(TW:AL!)(TP:Nl K mg CP NL)(M1:DN K CP "taken" "Post.taken" Pd AN! f1 d1)(M2:AF! "weight_came" "World.weight_came" L7 f2 d2)(G2:Kb! f2 d2 Ho)(M3:AF! "pass_came" "World.pass_came" U7 f3 d3)(G3:No! f3 d3 ap Lz)(M4:AF! "ask_came" "World.ask_came" Ke f4 d4)(G4:N3! f4 d4 (Gn CW C CP K))(M5:AF! "answer_came" "World.answer_came" F9 f5 d5)(G5:CH! 5 f5 d5 ap Pw)(M6:AF! "let_came" "World.let_came" Kb f6 d6)(G6:Kb! f6 d6 Gm):No 6 f fd AN! (B6! Uq CI):=by
 have G1:JM! f1 d1 AN! (Xp CP NL):=Jdq M1.fn TP;have uT:H0! f2 d2 ap (BP! Ho):=Eo! G2;have G3':No 2 f3 d3 ap (BP! Lz):=Eo! G3;have G4':H0! f4 d4 ap (Gn CW C CP K):=Eo! G4;have G5':Az! f5 d5 ap (B6! Pw CI):=Eo! G5;have G6':H0! f6 d6 ap (BP! Gm):=Eo! G6;refine xQ F NR (Hm!) (λEB A outer s H vs Q E hr h=>?_);.obtain⟨p,n,W,l1,l2,t,m,s,g,kind,v,rfl,_⟩:=h;rfl
 .obtain⟨p,n,W,l1,l2,t,m,s,g,kind,v,rfl,S,el,et,k⟩:=h;have IB:Bo!:=L?;have LP:DH!:=L?;have WZ:DP 3 _:=L?;obtain⟨dx,hp⟩:=S.ob;obtain⟨FJ,hq⟩:=S.po.ob;refine Jm! NR.nd (JP! O? TP.cl M1.mt G1 M1.bd Bs FA!) (F1! 3 NR.nd Ai! (Lk! M3.mt G3' LP M3.bd) (Aj! (Lk! M4.mt G4' WZ M4.bd) (Lk! M5.mt G5' hr M5.bd) (Lk! M6.mt G6' WZ M6.bd) (A4 (Ji! M2.mt uT WZ M2.bd (Z? Y!))) (Af (Ay (Ee Ae)))));refine⟨_,rfl,p,CW,dx,_,_,rfl,hp,TW.cl,TW.nP,E1 W,W.po,FJ,_,rfl,hq,D6 _ _ ZV ZV,_,rfl,W.po,W.pd,W.c,W.ls,n,rfl,S.po,?_⟩;refine C! ⟨l1,l2,t,el,Fa!⟩;obtain⟨W1,HY⟩:=S.JW S1 λb o e h1 h2=>LQ b o e h2;have NG:=HJ.DO S HY;obtain⟨JB,GQ⟩:=W1.ob;refine⟨_,rfl,t,_,_,_,rfl,rfl,Fn! NG.A_ et,rfl,?_⟩;have k2:=k H1 W1 HY;clear k;rcases k2 with⟨rfl,k⟩|⟨rfl,k⟩|⟨rfl,k⟩|⟨rfl,k⟩|⟨nk,k⟩;(.exact Lq LK!);(.exact JK (Lq LK!));(.exact JK (JK (Lq LK!)));(.exact MQ! Lq LK!);.refine JK (ne:=nk.1) (JK (ne:=nk.2.1) (JK (ne:=nk.2.2.1) (JK (ne:=nk.2.2.2) ⟨_,rfl,p,JB,_,rfl,GQ,C4 _ ZV,_,rfl,?_⟩)));obtain⟨p',t',W',n',s',g',ml,tb,wt,q,G,G',e1,h1,h2,h3,h4,h5,h6⟩:=k;exact⟨p',t',W',n',s',g',ml,tb,wt,q,G,G',e1,h1,h2,h3,h4,h5,λH2 a1 a2=>CO! (h6 H2 a1 a2)⟩
universe E
def Dt(qs:W!):Int:=bv qs.map (λq=>q.2.AO)
theorem N5:∀{l:W!} {i:Nat} {q r:Addr×BZ},l[i]?=some q->Dt (l.set i r)=Dt l-q.2.AO+r.2.AO
 | [],i,q,r,h=>by simp at h
 | a::l,0,q,r,h=>by (have e:a=q:=Ap!);subst e;simp only[List.set_cons_zero,Dt,AK,CF];lia
 | a::l,i+1,q,r,h=>by have ih:=N5 (l:=l) (i:=i) (q:=q) (r:=r) (Ap!);simp only[List.set_cons_succ,Dt,AK,CF] at *;lia
def SA(qs:W!)(h:Nat):Int:=(qs[h]?.map λq=>q.2.AO).getD 0
theorem Iy:∀{qs:W!},(∀q∈qs,GI!)->p? (bv (List.range qs.length).map (Fb! qs))=Dt qs
 | [],_=>by simp[Dt]
 | q::qs,nn=>by have ih:=Iy (qs:=qs) (a! (nn z JV!));rw[BL,List.range_succ_eq_map];simp only[AK,AL,CF];(have e1:((λh=>(SA (q::qs) h).toNat) ∘ Nat.succ)=Fb! qs:=by funext h;simp[SA]);rw[e1];(have e2:SA (q::qs) 0=q.2.AO:=by simp[SA]);have:=nn q (ZL ..);rw[e2];show _=q.2.AO+Dt qs;lia
def nY(m:Nat)(mx:Nat->Nat):M!:=(List.range m).flatMap (BG! ((List.range (mx k)).map λj:Nat=>((wp,Ed!):T2)))
theorem Jbe(m:Nat)(mx:Nat->Nat):(nY m mx).length=F7! mx:=by simp_all [nY]
theorem Jbg{f:Nat->Nat}:∀{l:Av!} {x:Nat},x∈l->f x<=bv l.map f
 | y::l,x,h=>by rw[AK,CF];rcases ZM h with rfl|h;(.lia);.have:=Jbg (f:=f) h;lia
def LU(qs:W!)(t:T2):Prop:=∃(j:Nat)(q:Addr)(G:BZ),SZ/\D0!/\0<=t.2/\t.2<G.AO
theorem LU.set{qs:W!}{i:Nat}{q:Addr}{G G':BZ}{t:T2}(hi:Fv!)(md:CM!)(h:LU qs t):LU Gn! t:=by
 obtain⟨j,r,M,e,h1,h2,h3⟩:=h;by_cases c:j=i;.subst c;rw[hi] at e;cases e;exact⟨j,q,G',Ei! KP (v4 hi),h1,h2,B!⟩
 .exact⟨j,r,M,E! (List.getElem?_set_ne (Ne.symm c)) e,h1,h2,h3⟩
theorem Mq{qs:W!}{l:M!}(nd:l.Nodup)(h:∀t∈l,LU qs t)(m0:∀q∈qs,GI!):Q! l.length<=Dt qs:=by
 have:=Iw (U:=nY qs.length (Fb! qs)) nd (o! (by obtain⟨j,r,M,e,h1,h2,h3⟩:=h t ht;have jl:j<qs.length:=v4 e;(have em:SA qs j=M.AO:=by unfold SA;rw[e];rfl);refine CU.mpr ⟨j,BH.mpr jl,Ag! (AT Ik! (BH.mpr (by show _<(SA qs j).toNat;rw[em];lia)))⟩;exact Prod.ext h1.symm (by show p? Ik!=t.2;lia)))
 rw[Jbe] at this;have e:=Iy m0;lia
def NV(G:BZ)(t:T2):Prop:=QP G t\/ga G.AI.map
structure Mk(qs:W!)(ls:r?):Prop where
 has:∀(j:Nat)(q:Addr)(G:BZ),wT (qs[j]?) (∀t,t?->LU qs t)
 lt:∀l∈ls,LU qs l.th
theorem Mk.next{qs:W!}{ls LF:r?}{i:Nat}{q:Addr}{G G':BZ}(x:Mk qs ls)(hi:Fv!)(md:CM!)(h1:Jc! (t?\/LU Gn! t))(h2:∀l∈LF,l∈ls\/LU qs l.th):Mk Gn! LF :=A! (λj r M e t ht=>by rcases Eg e with⟨_,e2,_⟩|⟨_,e⟩;(.subst e2;rcases h1 t ht with h|h;(.exact(x.has i q G hi t h).set hi md);.exact h);.exact(x.has j r M e t ht).set hi md) (NE (by rcases h2 l hl with h|h;(.exact(x.lt l h).set hi md);.exact h.set hi md))
theorem Ok.dn{qs:W!}{i:Nat}{q:Addr}{G:BZ}{ls:r?}{n k:Nat}(ok:Ok G k)(x:Mk qs ls)(hi:Fv!)(nu:G.BP=I!)(ob:At! (0<=t.2))(m0:∀q∈qs,GI!)(h:Dt qs<=n):C1!:=by have a1:=ME! ok.hn (Cy! x.has i (v! (v! ht)));have a2:=ME! ok.on ⟨i,q,G,hi,I? (ok.new t ht).1 nu,ob t ht,(ok.new t ht).2⟩;have a3:=ME! ok.rn (Cy! x.has i (R! ht));rw[ZA] at a2 a3;refine⟨ok.hn,B!,ok.on,B!,ok.ke,ok.rn,B!,λr hr=>Op (Dn! ok.ln),ok.new,ok.hk,ok.lk,ok.rk⟩;have a4:=ME! (Dn! ok.ln) (Cy! x.has i (v! (M? Ke!)));lia
def KC(K:W.Frag)(H:Hp)(EY:Z!)(y:Hj!):LL->Prop
 | .w l=>JO H y.2 y.1 l.kind l.s l.g l.th l.x
 | .ask s g n u=>OS H y.2 y.1 Y? s g n u
 | .J' s g n u tick S=>OS H y.2 y.1 ww s g n u/\∃e xs,(y.1,e)∈EY/\AV! e [O! tick,g! xs]/\SE K H xs S
 | .lt s g ts=>SS H y.2 y.1 s g ts
theorem KC.keep(h:K8!)(k:Ch):KC K H' EY y z:=by cases z with | w l=>exact JO.keep h k | ask s g n u=>exact OS.keep h k | J' s g n u tick S =>obtain⟨h1,e,xs,h2,h3,h4⟩:=h;exact⟨h1.keep k,e,xs,h2,Bh! h3,h4.keep k⟩ | lt s g ts=>exact SS.keep h k
theorem KC.more(h:K8!)(sb:∀e,(y.1,e)∈EY->(y.1,e)∈vx):KC K H vx y z:=by cases z with | w l=>exact h | ask s g n u=>exact h | J' s g n u tick S =>obtain⟨h1,e,xs,h2,h3,h4⟩:=h;exact⟨h1,e,xs,sb e h2,h3,h4⟩ | lt s g ts=>exact h
theorem Dp(x:B7! H EY ys al)(k:Ch):B7! H' EY ys al:=Aq (λ_ _ r=>r.keep k) x
structure Qy where
 n:Int
 io:Addr
 I:K63F.Iq
 fi:KY!
 se:k! (Int×Int)
def C8(y:Qy):SC:=[y.io,y.I.sd,y.I.fd,y.I.cd]
theorem FC:b∈C8 y↔(b=y.io\/b=y.I.sd\/b=y.I.fd\/b=y.I.cd):=by simp[C8]
structure QV(CI:Addr)(K:W.Frag)(H:Hp)(m:Nat)(y:Qy):Prop where
 at_:K63F.FQ CI H y.io y.I
 many:y.I.m=X?
 fs:y.I.fs=y.fi.map (Ls! AA!)
 cs:y.I.cs=y.se.map (Ls! r.2)
 ss:j? (λ(kv:Key×V)(r:Int×Int×HS)=>MZ!) y.I.ss y.fi
universe S
variable {CI:Addr}{K:W.Frag}{H H':Hp}{m:Nat}{y:Qy}
theorem QV.has(x:Gk! H)(hb:b∈C8 y):∃o,bn/\(∀xs,o≠.A_ xs)/\(∀xs,o≠.BE xs)/\(∀ob u,o≠.GV ob u):=by
 rcases FC.mp hb with rfl|rfl|rfl|rfl;.obtain⟨dx,e⟩:=x.at_.ob;exact MO! e
 .exact MO! x.at_.s
 .exact MO! x.at_.f
 .exact MO! x.at_.c
theorem QV.keep(x:Gk! H)(k:KC! (b∈C8 y))(kt:Ch):Gk! H' :=⟨x.at_.keep λb hb o e=>C6! (FC.mpr hb),x.many,x.fs,x.cs,Aq (λ_ _ h9=>by obtain⟨a,e,s⟩:=h9;exact⟨a,e,s.keep kt⟩) x.ss⟩
universe E
def Kn(ns:s?):LL->Prop
 | .ask _ _ n u=>n∈ns/\(u=1\/u=2)
 | .J' _ _ n u _ _=>n∈ns/\(u=1\/u=2)
 | _=>True
def UX(l:LT):Nat:=sK Ex! 5 (sK CP! 1 2)
def ae(w:Nat):LL->Nat
 | .w l=>w*UX l
 | .ask _ _ _ u=>D2!
 | .J' _ _ _ u _ _=>Ne! 4 2
 | .lt _ _ _=>1
def Fz(m:Nat)(y:Qy):Nat:=sK (y.fi.length<m) (3*y.fi.length) (if y.se.length<m then y.se.length else 0)
def Fb(w:Nat)(al:F!):Nat:=(al.map (ae w)).sum
def Hh(m:Nat)(ys:K!):Nat:=(ys.map (Fz m)).sum
def hG(w m:Nat)(qs:W!)(al:F!)(ys:K!):Nat:=Fb w al+Hh m ys+w*E5 qs
def PB(m A B:Nat)(qs:W!)(al:F!)(ys:K!):Prop:=A<=hG 0 m qs al ys/\hG 1 m qs al ys<=B
theorem D5(w:Nat)(a b:F!):Fb w (X!)=Fb w a+Fb w b:=by unfold Fb;rw[ZF,JH]
theorem Hw(w:Nat)(a b:F!)(z:LL):Fb w (a++z::b)=Fb w (X!)+ae w z:=by rw[D5,D5];show Fb w a+(ae w z+Fb w b)=_;lia
theorem Z8(w:Nat)(ls:r?):Fb w (ls.map .w)=w*KL!:=by induction ls with | nil=>simp[Fb] | cons l ls ih =>show w*UX l+Fb w (ls.map .w)=w*(UX l+KL!);rw[ih,Nat.mul_add]
theorem X3:∀al:F!,al.length<=Fb 1 al
 | []=>FS
 | z::al=>by have ih:=X3 al;(have h:1<=ae 1 z:=by cases z with | w l=>show 1<=1*UX l;unfold UX;split<;>(try split)<;>decide | ask s g n u=>show 1<=D2!;split<;>decide | J' s g n u t S=>show 1<=Ne! 4 2;split<;>decide | lt s g ts=>exact ZG 1);show al.length+1<=ae 1 z+Fb 1 al;lia
theorem Jif{qs:W!}{i:Nat}{q:Addr}{G G':BZ}(hi:Fv!):BE! (E5 Gn!)=IB! (E5 qs):=Xx (r:=(q,G')) hi
theorem PB.next{m A B A' B':Nat}{qs:W!}{al al':F!}{ys:K!}{i:Nat}{q:Addr}{G G':BZ}(x:PB m A B qs al ys)(hi:Fv!)(h0:A'=0\/Fb 0 al+A'<=Fb 0 al'+A)(h1:IB! (Fb 1 al')+B<=BE! (Fb 1 al)+B'):PB m A' B' Gn! al' ys:=by have h2:=Jif (G':=G') hi;obtain⟨x1,x2⟩:=x;unfold PB hG at *;refine A! ?_ B!;rcases h0 with h0|h0<;>lia
structure WI(CW C CP CI:Addr)(K:W.Frag)(H:Hp)(p:Addr)(W:EZ)(D:e?)(m n d A B:Nat)(al:F!)(ys:K!):Prop where
 wa:Bt!
 wg:Wg D m n W.share W.qs An!
 md:Bs!<=n
 ob:∀(j:Nat) q G,wT (W.qs[j]?) (At! (0<=t.2))
 m1:1<=m
 m5:m<=5
 lw:NS! W.ls al
 en:J? W.EY.map
 ec:∀e∈W.EY,e.1<=W.c
 ez:W.EY.length<=d
 fz:W.IP.length<=d
 ma:Mk W.qs (EM al)
 pb:PB m A B W.qs al ys
 iz:ys.length<=n
 iq:W.LV=ys.map λy=>G9!
 eQ:ys.map BF!=(List.range ys.length).map λ(j:Nat)=>Q! j+1
 nd:Ar! ys.flatMap C8
 off:∀y∈ys,∀b∈C8 y,As!
 at_:∀y∈ys,Gk! H
 iv:∀y∈ys,PQ m W.qs An! al y.n y.fi y.se
 kn:∀z∈al,Kn (ys.map BF!) z
 ff:∀e∈W.IP,∃y∈ys,y.n=e.1/\y.se.length=m
 lt:∀s g ts,Dp! g∈al->0<=g/\g<m/\∃F,OQ W.qs An! F/\(∀t,F t->D t)/\Gt! (F t/\t.1=g)
def ie(p:Addr)(W:EZ)(ys:K!)(H H':Hp):Prop:=IZ! As! Dq! ES!
universe S
variable {CW C CP CI p:Addr}{K:W.Frag}{H H1:Hp}{W W':EZ}{D:T2->Prop}{m n:Nat}{al al':List LL}{ys:List Qy}
theorem WI.same(x:J!)(s:Bl H H1):NO! H1 al :={ x with wa:=x.wa.same s,lw:=Dp x.lw (HC s),at_:=pi ((x.at_ y hy).keep (λb o _ e=>D! s e) (HC s)) }
theorem WI.len(x:J!):W.ls.length=al.length/\al.length<=B:=by have h1:=z? x.lw;have h2:=X3 al;have h3:=x.pb.2;unfold hG at h3;lia
theorem WI.PV(x:J!)(hB:P?):Ie!:=by have:=x.len;lia
theorem WI.dn(x:NN! H (n+1) d A B al)(h:Bs!<=n)(hy:ys.length<=n):J!:=by
 have m0:∀q∈W.qs,GI!:=b? (by obtain⟨j,hj⟩:=BW.mp hq;exact(x.wg.wl.sd j q.1 q.2 hj).1.m0)
 refine{ x with wg:=⟨⟨x.wg.wl.len,x.wg.wl.ck,λi q G e=>?_,x.wg.wl.ok,x.wg.wl.sum,x.wg.wl.sh⟩,x.wg.sD,x.wg.rc⟩,md:=h,iz:=hy };obtain⟨s,nu⟩:=x.wg.wl.sd i q G e;refine A! ⟨Ok.dn s.ok x.ma e nu (x.ob i q G e) m0 h,s.nn,s.ip,s.rk,s.ir,s.n0,s.n1,s.m0,?_⟩ nu;have e2:=Iy m0;have:(SA W.qs i).toNat<=bv (List.range W.qs.length).map (Fb! W.qs):=Jbg (f:=Fb! W.qs) (BH.mpr (v4 e));have em:SA W.qs i=G.AO:=by unfold SA;rw[e];rfl
 rw[em] at this;lia
theorem Xe{i:Nat}{q:Addr}{G G':BZ}{c:Int}{Ls:Z!}(hi:BJ! IC!)(nw:Db!):EN! (B8 p (In! i)) FW!:=Db (by rcases ZI hb with hb|hb;(.exact C! (ZB _ hb));.obtain⟨z,hz,hm⟩:=DF.mp hb;have hz:z∈Nb! i:=hz;rcases NT hz with hz|rfl;(.exact I1! (DF.mpr ⟨z,hz,hm⟩));.have mq:=ZP hi;rcases hm with hm|hm;(.exact I1! (DF.mpr ⟨(q,G),mq,C! hm⟩));.rcases nw b hm with h|h;(.exact I1! (DF.mpr ⟨(q,G),mq,IN⟩));.exact IN)
theorem HJ.wi(f:Cr!):ie p W ys H H1:=λb o e h _=>f b o e h
theorem WI.WM(x:J!)(f:Cr!)(hy:CV!):Gk! H1:=(x.at_ y hy).keep (CE! (f b o e (x.off y hy b hb))) (HJ.DO x.wa f)
theorem WI.ug(x:J!)(sub:EN! Bn! FW!):∀y∈ys,∀b∈C8 y,b∉Bn!:=λy hy b hb m=>by rcases sub b m with h|h;(.exact x.off y hy b hb h);.obtain⟨o,e,_⟩:=(x.at_ y hy).has hb;rw[e] at h;cases h
theorem WI.Z'(x:J!){j:Nat}{q:Addr}{G G':BZ}{c:Int}{Ls:Z!}(hi:JH!)(W1:F0! (In! j))(wf:Cr!)(nw:Db!)(tk:NG!)(md:CM!)(mk:Io!)(ou:Lw!)(wg:Kz! FH! (EM al'))(st:MG! FH! (EM al'))(hA:∀n u,Cv al' n u=KR!)(hB:∀n u,Cj al' n u=Cj al n u)(lw:B7! H1 W.EY Ls al')(mk':Mk FH! (EM al'))(pb':PB m A' B' FH! al' ys)(hc:W.c<=c)(sub:∀z∈al',El!\/∃l,z=.w l):Mh! H1 (In! j) D al' ys:=by
 have a1:=x.md;have a2:=x.ez;have a3:=x.fz;have a4:=x.iz;refine⟨W1,wg,?_,λj2 q2 G2 e2 t ht=>?_,x.m1,x.m5,lw,x.en,λe he=>Int.le_trans (x.ec e he) hc,AM! (W.EY.length<=d+1),Ip! (d+1),mk',pb',B!,x.iq,x.eQ,x.nd,x.ug (Xe hi nw),pi (x.WM wf hy),pi ((x.iv y hy).Z' hi tk md (hA y.n) (hB y.n) st),q?,x.ff,Em! ?_⟩;.show Dt FH!<=_;rw[N5 hi];show Bs!-G.AO+G'.AO<=p? (n+1);lia
 .have e2:(W.qs.set j (q,G'))[j2]?=some (q2,G2):=e2;rcases Eg e2 with⟨_,e3,_⟩|⟨_,e3⟩;(.rw[e3] at ht;rcases ou t ht with h|h;(.exact Cy! x.ob j h);.exact h);.exact x.ob j2 q2 G2 e3 t ht
 .rcases sub z hz with h|⟨l,rfl⟩;(.exact x.kn z h);.trivial
 .rcases sub _ hz with h|⟨l,h⟩;(.obtain⟨g0,g1,F,sF,fD,ht⟩:=Kj!;exact⟨g0,g1,F,st F sF,fD,ht⟩);.cases h
universe E
inductive Dd where
 | make (h:Int)
 | three (w:Str) (h:Int) (a b:Addr)
 | free (h:Int) (b:Addr)
 | send (h g:Int) (b:Addr)
 | clean (h:Int)
 | ask (h:Int)
 | deliver (n:Int)
def o5:Dd->L!
 | .make h=>DZ! Co!
 | .three w h a b=>Gp! (A? w)
 | .free h b=>[A? Cp!,Aa!,CF!]
 | .send h g b=>[A? En!,Aa!,Ee!,CF!]
 | .clean h=>DZ! Cs!
 | .ask h=>DZ! Y?
 | .deliver n=>[A? CL!,O! n]
theorem hV(k:tb D σ H)(ex:AD! (A? wd::r))(hv:Jx! (σ[i]?) x:=by rfl)(ne:¬wd=c:=by decide +kernel):Kr! (NZ VY (G0! i) (tC (A? c))) tb :=⟨_,hv,x,_,0,_,rfl,rfl,U?,H!,rfl,_,rfl,FQ! (J4! (HO! wd) K1!) Bx⟩
theorem Jok(k:ta D σ H)(ex:AD! (A? c::r))(hv:Jx! (σ[i]?) x:=by rfl):Kr! (NZ VY (G0! i) (tC (A? c))) tb :=⟨_,hv,x,_,0,_,rfl,rfl,U?,H!,rfl,_,rfl,FQ! A5! Cc⟩
universe S
structure Wm(P:Program)(w:World)(K:W.Frag)(mg:Ds!)(base:Heap)(CW C CP CI NH NHd NNr MI NW f1 f2 f3 f4 f5 f6 f7 f8 f9:Addr)(d1 d2 d3 d4 d5 d6 d7 d8 d9:FuncData):Prop where
 make:SL Co! "World.make" U8 f1 d1
 hold:FB! KB "World.hold" U9 f2 d2
 drop:FB! AO! "World.drop" Vb f3 d3
 take:FB! AP! "World.take" U5 f4 d4
 free:sw Cp! "World.free" Va (EX! "b") f5 d5
 send:sw En! "World.send" U6 Jh! f6 d6
 clean:SL Cs! "World.clean" Pb f7 d7
 ask:SL Y? LW! Xq f9 d9
 deliver:JG! CL! "World.deliver" Kd f8 d8
 m9:Az! f1 d1 Hh! (Uk CW C CP NH)
 m_:Az! f2 d2 Nf! (Ul CW C CP NH NHd NNr)
 nJ:Az! f3 d3 Nf! (Uo CW C CP NH NHd NNr MI)
 m7:Az! f4 d4 Nf! (Uj CW C CP NH NHd NNr MI)
 nC:Az! f5 d5 (EX! "b") (Um CW C CP NH NHd)
 m8:Az! f6 d6 Jh! (O9 CW C CP NHd NW)
 gu:Az! f7 d7 Hh! (BP! L0)
 vh:Az! f9 d9 Hh! (Jj! CI)
 aT:No 6 f8 d8 AN! (B6! Uq CI)
def VF(CW C CP CI NH NHd NNr MI NW:Addr)(K:W.Frag)(p:Addr)(H:Hp)(Q:VK)(E:XK):FF!
 | .make h=>Uk CW C CP NH Jt! H Q E
 | .three x h a b=>(x=KB/\Ul CW C CP NH NHd NNr (Gp! l?) H Q E)\/(x=AO!/\Uo CW C CP NH NHd NNr MI (Gp! l?) H Q E)\/(x=AP!/\Uj CW C CP NH NHd NNr MI (Gp! l?) H Q E)
 | .free h b=>Um CW C CP NH NHd [l?,Aa!,CF!] H Q E
 | .send h g b=>O9 CW C CP NHd NW [l?,Aa!,Ee!,CF!] H Q E
 | .clean h=>L0 CW C CP Jt! H Q E
 | .ask h=>Nw CW C CP CI Jt! H Q E
 | .deliver n=>Uq CW C CP CI K Lf! H Q E
inductive tq(CW C CP CI NH NHd NNr MI NW:Addr)(K:W.Frag)(vs:L!)(H:Hp)(Q:VK)(E:XK):Prop
 | mk (p x dx:Addr) (fs:k! (Str×V)) (dd:Dd) (_:vs=[l?,g! x]) (_:IU! x o5 dd) (_:H p=some (.ins CW dx fs)) (_:(∀n:Str,([Co!,KB,AO!,AP!,Cp!,En!,Cs!,Y?,CL!]:Ax!).contains n=true->fs.lookup n=none)) (_:xz dd)
theorem kS:q! [AQ!,IE!,"_law_word"] DS! n9:={}
theorem Jnh(F:j! NI! NI! n9)(TW:AL!)(M:Wm P w K mg base CW C CP CI NH NHd NNr MI NW f1 f2 f3 f4 f5 f6 f7 f8 f9 d1 d2 d3 d4 d5 d6 d7 d8 d9) : No 7 f fd DS! (tq CW C CP CI NH NHd NNr MI NW K):=by refine Hz F kS Hm!;obtain⟨p,x,dx,fs,dd,rfl,ex,hp,fl,k⟩:=h;refine K?;have cu:DP 5 _:=L?;refine Jm! kS.nd l! (Aj! (ND! M.make.mt M.m9 M.make.bd JE!) (Lu! M.hold.mt M.m_ M.hold.bd) (Lu! M.drop.mt M.nJ M.drop.bd) (Lu! M.take.mt M.m7 M.take.bd) (Aj! (ND! M.free.mt M.nC M.free.bd (BL! l! l!)) (Lu! M.send.mt M.m8 M.send.bd) (ND! M.clean.mt M.gu M.clean.bd JE!) (ND! M.ask.mt M.vh M.ask.bd JE!) (k? (Ji! M.deliver.mt M.aT hr M.deliver.bd JE!))));cases dd with | make h =>refine BB! (Lq ?_);exact M1! | three wd h a b =>rcases k with⟨rfl,k⟩|⟨rfl,k⟩|⟨rfl,k⟩;(.refine BB! (JK (Lq ?_));exact M7!);(.refine BB! (JK (JK (Lq ?_)));exact M7!);.refine BB! (MQ! Lq ?_);exact M7! | free h b =>refine BB! (JK (JK (JK (JK (Lq ?_)))));exact⟨_,rfl,p,dx,_,rfl,hp,fl _ ZV,_,rfl,x,_,_,_,rfl,rfl,U?,rfl,_,rfl,x,_,_,_,rfl,rfl,U?,rfl,k⟩ | send h g b =>refine BB! (JK (JK (Mk! Lq)));exact M7! | clean h =>refine BB! (JK (JK (JK (Mk! Lq))));exact M1! | ask h =>refine BB! (MQ! JK (Mk! Lq));exact M1! | deliver n =>refine BB! (MQ! JK (Mk! JK));exact M1!
universe E
theorem Dy{as:AB!}{bs:Fi!}{cs:AB!}{ds:Fi!}(p:Ay! as bs)(q:Ay! cs ds):Ay! (as++cs) (bs++ds):=pM p q
theorem Ej{α β γ:Type}{f:β->γ}{R:α->γ->Prop}{l:AB!}{m:Fi!}(p:j? (λa b=>R a (f b)) l m):Paired R l (m.map f):=Jkh (g:=f) (λ_ _ h=>h) p
theorem Tp(h:ga l.map):Na! l.find? (t,Ai l t):=by unfold Ai;cases e:Gr! with | none =>obtain⟨q,hq,e2⟩:=ZN h;have:=BB.mp e q hq;simp[e2] at this | some q =>have:=DE e;have:AX!:=BR this;rw[<-this];rfl
inductive QG(W W':EZ)(j:Nat)(G G':BZ):Prop
 | mk q (_:JH!) (_:W'.qs=Nb! j) (_:W'.IP=W.IP)
structure Nq(G G':BZ):Prop where
 BP:G'.BP=G.BP
 AO:G'.AO=G.AO
 AH:Ns! H5!
 holds:Ns! (Bp G'.holds t=DO!)
def Fp(p:Addr)(W:EZ)(ys:K!)(W':EZ)(HG:K!)(H:Hp):Prop:=∀b,(b∈Bn!\/b∈HG.flatMap C8)->FW!\/b∈ys.flatMap C8\/ut H
theorem uG{p:Addr}{W:EZ}{ys:K!}{H:Hp}{i:Nat}{q:Addr}{G G':BZ}{c:Int}{Ls:Z!}(hi:BJ! IC!)(nw:Db!):Fp p W ys (In! i) ys H:=Db (by rcases hb with h|h;(.rcases Xe hi nw b h with h|h;(.exact d?);.exact z! h);.exact DM!)
theorem Wv{p:Addr}{W W':EZ}{ys i1 i2:K!}{y y':Qy}{H:Hp}(ey:HA!)(qf:C8 y'=C8 y)(ew:Bn!=B8 p W):LJ! (Au!):=Db (by rcases hb with h|h;(.exact Ge! ew h);.refine ca ?_;rw[ey,BU,BY,<-qf];rw[BU,BY] at h;exact h)
def J6(l:LT):Iz!:=sK Im! (Fp! l.g) (sK Ex! (Fp! l.x) [])
def Dr(ls:r?):Iz!:=ls.flatMap J6
theorem Ez(a b:r?):Dr (X!)=Dr a++Dr b:=BU ..
def KT(CW C CP CI p:Addr)(K:W.Frag)(W:EZ)(m n d A' B':Nat)(ys:K!)(H:Hp)(Q:VK)(R:V->EZ->F!->K!->Hp->Prop):Prop:=∀(v:V)(W':EZ)(D':e?)(al':F!)(HG:K!)(H':Hp),J7!->LJ! HG->Mh! H' W' D' al' HG->Ko!->W'.hs=W.hs->Q v H'
universe S
variable {CW C CP CI NH NL NHd NNr MI NW p:Addr}{K:W.Frag}{H H1:Hp}{W W':EZ}{D:T2->Prop}{m n:Nat}{al:List LL}{ys:List Qy}{Q:VK}{E:XK}{h:Int}{q:Addr}{G G':BZ}
theorem Jjp{a:Addr}(ha:F8!):EN! (BM (IZ Do!)) (b∈BM G):=Db (by rw[Jg1] at hb;rcases ZI hb with hb|hb;(.exact C! hb);.rw[ZK hb];exact G! ha)
theorem Tj(ta:T2)(l:M!):BM { G with BC:=G.BC+1,holds:=C7 G.holds ta l }=BM G:=by unfold BM;show G.h::G.o::G.l::G.r::Ep! (C7 G.holds ta l).map=_;rw[L6]
theorem tf(ok:C1!):J? G.holds.map:=E! ok.ke ok.on
theorem Jgv{a:Addr}(h:NV (IZ Do!) t):t?\/Iq!:=by
 rcases h with(h|⟨r,hr,ht⟩)|h;.have h:t∈G.hand++[(G.BP,G.AO)]:=h;rcases ZI h with h|h;(.exact GB!);.exact M? (Ap!)
 .have hr:r∈G.holds++[GK!]:=hr;rcases ZI hr with hr|hr;(.exact Ad! (R! Ke!));·(have e:r=GK!:=by simpa using hr);rw[e] at ht;cases ht
 .exact Df!
theorem Jgw(hb:By!)(h:NV KF! t):t?:=by
 rcases h with(h|⟨r,hr,ht⟩)|h;.exact Ad! h
 .rcases Gi hr with⟨_,e⟩|hr;(.rw[e] at ht;rcases DG.mp ht with h|h;(.exact v! (G7 h));.rw[h];exact Ja!);.exact v! (M? Ke!)
 .exact IN
theorem Jgx(h:NV KG! t):t?:=by
 rcases h with(h|⟨r,hr,ht⟩)|h;.exact Ad! h
 .rcases Gi hr with⟨_,e⟩|hr;(.rw[e] at ht;exact v! (G7 (HM.mp ht).1));.exact v! (M? Ke!)
 .exact IN
theorem Y1{l:M!}(hl:∀t∈l,t?)(h:NV (IZ { G with hand:=l }) t):t?:=by
 rcases h with(h|h)|h;.exact hl t h
 .exact Df!
 .exact IN
theorem Jcp{v:Int}(hr:tb∈x! G.AI.map)(h:NV (Nc G tb v) t):t?:=by
 rcases h with h|h;.exact d?
 .rcases F6! t h with h|h;(.rw[h];exact G! hr);.exact IN
theorem Jd5(h:NV (Jd G R) t):t?:=by
 rcases h with h|h;.exact C! (Yv h).1
 .exact M? (Du! h)
theorem Jjm(h:NV (Oe G ts) t):t?:=by
 rcases h with h|h;.exact C! (Wc h).1
 .exact M? (Du! h)
theorem Zl{X:BZ}{rs:Fj!}(pm:rs.Perm X.AI):(Cb X rs).length+(HW X).AI.length<=X.AI.length:=by have h1:F2! X (rs.filter λq=>! Br X q.1).length:=AW _ _;have h2:=(pm.filter λq=>! Br X q.1).length_eq;have h3:=M9 (FG! (Br X q.1)) X.AI;show _+(X.AI.filter λq=>Br X q.1).length<=_;lia
theorem Pl{f:T2×Int->LT}(hf:∀r,(f r).kind="back"):∀rs:Fj!,bv (rs.map f).map UX=rs.length
 | []=>rfl
 | r::rs=>by have ih:=Pl hf rs;(have e:UX (f r)=1:=by unfold UX;rw[hf];rfl);show UX (f r)+bv (rs.map f).map UX=rs.length+1;lia
theorem T7{G:BZ}{rs bs:Fj!}{f:T2×Int->LT}(hf:∀r,(f r).th=r.1)(pm:rs.Perm G.AI)(sub:∀z∈bs,z∈rs):∀l∈bs.map f,NV G l.th:=NE (by obtain⟨r,hr,rfl⟩:=ZN hl;rw[hf];exact M? (BJ (pm.mem_iff.mp (sub r hr))))
theorem WI.UK(x:J!)(i:Q?)(W1:F0! { W with qs:=N5! })(wf:Cr!)(nw:Db!)(tk:NG!)(md:CM!)(mk:Io!)(ou:Lw!)(wg:Kz! Cq! An!)(hs:Jc! (t?\/LU Cq! t))(rl:G'.AI=G.AI)(cA:KF)(cB:AR!)(st:MG! Cq! An!)(k:h?)(v:V)(hr:∀W',Cj!->R v W' al ys H1):Q v H1 :=LF! v { W with qs:=N5! } al H1 (hr _ ⟨q,i.2,rfl,rfl⟩) (uG (c:=W.c) (Ls:=W.ls) i.2 nw) (x.Z' (c:=W.c) (Ls:=W.ls) i.2 W1 wf nw tk md mk ou wg st Er! Er! (Dp x.lw (HJ.DO x.wa wf)) (x.ma.next i.2 md hs (NE (C! hl))) (x.pb.next i.2 (R! h!) (IK! rl)) Ae! (a! (C! hz)))
theorem Jjv(x:J!)(hn:W?)(hB:P?)(i:Q?)(cA:KF)(cB:AR!)(k:h?)(hR:∀t a W' H',EL! (IZ Do!)->Cn! t (tv o?)->R Fq! W' al ys H'):xz (.make h):=by
 obtain⟨s,nu⟩:=A7!;have z1:=s.ok.hz;have z2:=s.ok.oz;have z3:=s.ok.PV;refine⟨p,h,W,rfl,x.wa,G! ⟨q,G,i,q,G,rfl,G6!,B!,B!,B!,s.ok.fresh.1,s.ok.fresh.2.1,s.ok.fresh.2.2,λt a H1 ht ha et S1 LQ=>?_⟩⟩;have VZ:=Jjp (G:=G) ha;obtain⟨W1,HY⟩:=He! (IZ Do!);refine x.UK i W1 HY VZ LI! Ht! Ae! (am ?_) (x.wg.make i.2 hn a) (am ((Jgv ht).imp id λe=>?_)) rfl cA cB (Xk i.2 nu a) k _ λW' c=>hR _ _ _ _ c et;rotate_left;.exact⟨h.toNat,q,IZ Do!,Ei! KP (v4 i.2),FO! nu,FO! s.m0,by rw[e];show G.AO<G.AO+1;lia⟩
 have ht:t∈(G.AH++[((o?,0):T2×Int)]).map (FG! q.1):=ht;rw[ZF] at ht;rcases ZI ht with h|h;.exact d?
 ·(have e:Iq!:=Ap!);rw[e];exact G! s.m0
theorem Jjw(x:J!)(hn:W?)(hB:P?)(i:Q?)(ea:C3!)(eb:u?)(ha:FJ!)(hb:By!)(hh:Fe!)(cA:KF)(cB:AR!)(k:h?)(hR:MJ! KF!):xz (.three KB h a b):=by obtain⟨s,nu⟩:=A7!;obtain⟨ad,fd⟩:=s.ok.find ha hh;have z1:=(s.ok.get ta).2.1;refine C! ⟨rfl,p,h,_,_,W,rfl,x.wa,G! ⟨q,G,i,q,a,b,G,ta,tb,rfl,G6!,ea,eb,z! ⟨ha,hb,hh,ad,_,fd,B!,Fa!⟩⟩⟩;rw[R9 (Jc3 (i.at x.wa).nd) (tf s.ok) fd] at S1;have VZ:MU! KF!:=Db (Ge! (Tj (G:=G) ta (Bn Km! tb)) hb);obtain⟨W1,HY⟩:=He! (Nd G ta tb);obtain⟨g1,g2⟩:=x.wg.hold i.2 (ta:=ta) hb;exact Mw! (Al! (Jgw hb ht))
theorem Jjy(x:J!)(hn:W?)(hB:P?)(i:Q?)(ea:C3!)(eb:u?)(ha:FJ!)(hb:LR!)(hh:Fe!)(cA:KF)(cB:AR!)(k:h?)(hR:MJ! KG!):xz (.three AO! h a b):=by obtain⟨s,nu⟩:=A7!;obtain⟨ad,fd⟩:=s.ok.find ha hh;refine ca ⟨rfl,p,h,_,_,W,rfl,x.wa,G! ⟨q,G,i,q,a,b,G,ta,tb,rfl,G6!,ea,eb,z! ⟨ha,hh,ad,_,fd,FB hb Fa!⟩⟩⟩;rw[R9 (Jc3 (i.at x.wa).nd) (tf s.ok) fd] at S1;have VZ:MU! KG!:=Db (Ge! (Tj (G:=G) ta (Ff Km! tb)) hb);obtain⟨W1,HY⟩:=He! (K7 G ta tb);obtain⟨g1,g2⟩:=x.wg.drop i.2 ta tb;exact Mw! (JN! Jgx)
theorem Jjt(x:J!)(hn:W?)(hB:P?)(i:Q?)(ea:C3!)(eb:u?)(ha:FJ!)(hb:LR!)(hh:Fe!)(cA:KF)(cB:AR!)(k:h?)(hR:MJ! (Na G tb)):xz (.three AP! h a b):=by obtain⟨s,nu⟩:=A7!;obtain⟨ad,fd⟩:=s.ok.find ha hh;have z1:=s.ok.hz;refine z! ⟨rfl,p,h,_,_,W,rfl,x.wa,G! ⟨q,G,i,q,a,b,G,ta,tb,rfl,G6!,ea,eb,B!,z! ⟨ha,hh,ad,_,fd,FB hb Fa!⟩⟩⟩;have VZ:MU! (Na G tb):=Eu!;obtain⟨W1,HY⟩:=He! (Na G tb);obtain⟨g1,g2⟩:=x.wg.take i.2 ha hb;exact Mw! (Al! (Y1 (AT! ((DG.mp hu).elim (λz=>Ad! z) λz=>E! z (v! (G7 hb)))) ht))
theorem Jjx(x:J!)(hn:W?)(hB:P?)(i:Q?)(eb:u?)(hb:By!)(cA:KF)(cB:AR!)(k:h?)(hR:MJ! (Nf G tb)):xz (.free h b):=by refine⟨p,h,_,W,rfl,x.wa,G! ⟨q,G,i,q,b,G,tb,rfl,G6!,eb,FB hb Fa!⟩⟩;have VZ:MU! (Nf G tb):=Eu!;obtain⟨W1,HY⟩:=He! (Nf G tb);obtain⟨g1,g2⟩:=x.wg.free i.2 tb;exact Mw! (Al! (Y1 (AT! (Ad! (HM.mp hu).1)) ht))
theorem WI.cG(x:J!)(i:Q?){c:Int}{L:Z!}{ls:r?}(W1:F0! (Ir! BM!))(wf:Cr!)(nw:Db!)(tk:NG!)(md:CM!)(mk:Io!)(ou:Lw!)(wg:Kz! Cq! (A4!++ls))(st:MG! Cq! (A4!++ls))(hs:Jc! t?)(lm:∀l∈ls,NV G l.th)(cA:KF)(cB:IB! KL!+B<=G.AI.length+B')(hc:W.c<=c)(lw:j? (λ(y:Int×Addr) (l:LT)=>Mu! H1 y.2 y.1) L ls)(k:h?)(v:V)(hr:∀W' al',Cj!->EM al'=A4!++ls->R v W' al' ys H1):Q v H1:=by
 have e:EM (al++Cx!)=A4!++ls:=I? Cs uF
 refine LF! v (Ir! BM!) (al++Cx!) H1 (hr _ _ ⟨q,i.2,rfl,rfl⟩ e) (uG i.2 nw) (x.Z' (al':=al++Cx!) i.2 W1 wf nw tk md mk ou (JB! wg) (JB! st) (λn u=>Ez! Bz (N3 ls n u).1) (λn u=>Ez! Bm (N3 ls n u).2) (Dy (Dp x.lw (HJ.DO x.wa wf)) (Mm! LL.w H1 W.EY lw)) ?_ ?_ hc q?);.rw[e];refine x.ma.next i.2 md (Al! (hs t ht)) (NE ?_);rcases ZI hl with h|h;(.exact d?);.exact M? (x.ma.has _ q G i.2 _ (lm l h))
 .refine x.pb.next i.2 (R! ?_) ?_;(.rw[D5];lia);.rw[D5,Z8];lia
 .rcases ZI hz with h|h;(.exact d?);.obtain⟨l,_,rfl⟩:=ZN h;exact FB l rfl
theorem Jju(x:J!)(hn:W?)(hB:P?)(i:Q?){g:Int}(g0:0<=g)(g1:g<m){b:Addr}{tb:T2}(eb:u?)(hb:By!)(cA:KF)(cB:B+5<=B')(k:h?)(hR:∀v W' al' H' G',Cj!->UV->Tk->H9!=BO! al++[(g,tb)]->Gh!)(kE:E (y! NW) none H):xz (.send h g b):=by
 obtain⟨s,nu⟩:=A7!;have z1:=s.ok.oz;have z2:=s.ok.rz;have z3:=Cz!;have hN:p? h.toNat=h:=BK i.1;have ig:∃q2 G2,KA W g q2 G2:=by obtain⟨y,hy⟩:=Ly!;exact⟨y.1,y.2,g0,hy⟩
 refine⟨p,b,h,g,W,tb,q,G,rfl,x.wa,eb,i,ig,B!,B!,B!,?_⟩;by_cases near:tb.1=G.BP;.have ho:=s.ok.hk tb hb near;refine ca ⟨hb,near,_,Tp ho,BB.mpr q?,λt H1 W1 l1 HY=>?_⟩;(.have:=s.ok.rk z.1 (AF.mpr (FM z hz));have:¬z.1=tb:=λe=>this (FO! near);simpa using this);obtain⟨wg,st⟩:=x.wg.RB i.2 hb near g0 g1;rw[hN] at wg st;exact M5! (fw G tb (Ai G.AH tb+W.share)) GD! (am (v! (by rcases F6! t ht with h|h;(.rw[h];exact ho);.exact h))) (λt h=>h) (NE (E! (ZK hl) Ja!)) (AY! (BE! 2+B<=_)) (Gm! l1) (Np! (o! (by rcases F6! t ht with h|h;(.rw[h];exact ho);.exact h))) (WP e Ez)
 .have hr:=s.rk tb (w! hb) near;have nn:=Jz s.nn tb;refine z! ⟨hb,near,_,Tp hr,?_⟩;by_cases w0:Gg!=0;(.exact C! (A! w0 kE));.by_cases w1:Gg!=1;(.refine ca (A! w1 (λt H1 W1 l1 HY=>?_));obtain⟨wg,st⟩:=x.wg.RA i.2 hb near g0 g1 w1;rw[hN] at wg st;exact M5! (Nc G tb 0) GD! (Al! ht) (λt=>Jcp hr) (NE (E! (ZK hl) Ja!)) (by rw[Nb hr];show BE! 5+B<=_;lia) (Gm! l1) KM! (WP e Ez));·(have w2:2<=Gg!:=B!);refine z! (A! w2 (λt H1 W1 l1 HY=>?_));obtain⟨wg,st⟩:=x.wg.SY i.2 hb near g0 g1 w2;rw[hN] at wg st;exact M5! (Nc G tb (Gg!-Gg! / 2)) GD! (Al! ht) (λt=>Jcp hr) (NE (E! (ZK hl) Ja!)) (by rw[Nb hr];show BE! 2+B<=_;lia) (Gm! l1) KM! (WP e Ez)
theorem J0{p:T2->Bool}:∀{l:HL},p t=true->Bp (l.filter λq=>p q.1) t=Bp l t
 | [],_=>rfl
 | a::l,hp=>by have ih:=J0 (l:=l) hp;unfold Bp at *;by_cases h:p a.1=true;(.rw[List.filter_cons_of_pos (Ap!)];simp only[BX];by_cases e:a.1=t;(.simp[e]);.simp only[e,P_];exact ih);.rw[List.filter_cons_of_neg (Ap!)];have e:¬a.1=t:=F3! h hp;simp only[BX,e,P_];exact ih
theorem Jar(ok:C1!)(R:M!):Nq G (Jd G R) :=⟨rfl,rfl,o! (Du! ht),o! (by obtain⟨q,hq,e⟩:=ZN ht;have hq:q∈Ks! (q.1∈R):=hq;have m:=(AD.mp hq).2;rw[e] at m;exact J0 (p:=λt=>T! (t∈R)) (l:=G.holds) m)⟩
theorem Tz{f:T2×Int->LT}{rs:Fj!}(hf:∀r,(f r).kind="back"):Dr (rs.map f)=[]:=by unfold Dr;rw[List.flatMap_eq_nil_iff];intro l hl;obtain⟨r,_,rfl⟩:=ZN hl;unfold J6;rw[hf r,Bi!,Bi!]
theorem Jhc(x:J!)(hn:W?)(hB:P?)(i:Q?)(cA:KF)(cB:AR!)(k:h?)(hR:∀v W' al' H' G',Cj!->UV->Tk->LN!->Gh!):xz (.clean h):=by
 obtain⟨s,nu⟩:=A7!;have z3:=Cz!;have hN:p? h.toNat=h:=BK i.1;obtain⟨hs,os,rs,JI⟩:=(x.wg.wl.good h! i.2).told;obtain⟨kk,R,hk,rc⟩:=FX.MV.ofN s.ok (B!);have zb:F2! FK! 60:=by have h1:F2! FK! (rs.filter λq=>! Br FK! q.1).length:=AW _ _;have h2:=AW (FG! (! Br FK! q.1)) rs;have h3:=JI.pr.length_eq;have h4:=s.ok.rz;lia
 refine⟨p,h,W,q,G,n,kk,rs,R,rfl,x.wa,i,s.ok,B!,o! (s.ip t (w! ht)).1,λz hz t ht=>(s.ip t (R! ⟨z,hz,ht⟩)).1,JI.pr,JI.wr,rc,hk,FX.Ok.clean s.ok rc,zb,B!,λy L H1 W1 bk HY du dt ey=>?_⟩;obtain⟨wg,st⟩:=x.wg.clean i.2 rc JI.pr;rw[hN] at wg st;exact M5! (Jd G R) (Os (C! (Ll b hb))) (JN! Du!) (λt=>Jd5) (T7 (λ_=>rfl) JI.pr (a! (CW! (CW! hz)))) (by rw[Iy! Pl];have:=Zl (X:=keepR G R) JI.pr;show _+(HW FK!).AI.length+B<=_;have e:(keepR G R).AI.length=G.AI.length:=rfl;lia) (Ej bk.OO) (Jar s.ok R) (by rw[e,Ez,Iy! Tz,AG])
universe E
theorem Je1{l1:Z!}{al:F!}(h:Ay! (l1++y::l2) al):∃(a:F!)(z:LL)(b:F!),GL!/\Ay! l1 a/\R y z/\Ay! l2 b:=by induction l1 generalizing al with | nil=>(cases h with|cons r pr=>exact⟨[],_,_,rfl,d!,r,pr⟩) | cons x l1 ih=>cases h with | cons r pr =>obtain⟨a,z,b,e,p1,p2,p3⟩:=ih pr;subst e;exact⟨_::a,z,b,rfl,re r p1,p2,p3⟩
universe S
theorem Ok.sz(ok:C1!)(hn:W?):Sz G:=by grind [Ok,Sz]
theorem WI.got(x:J!)(i:Q?)(es:GL!)(p1:C8!)(p3:C7!)(W1:F0! (Ir! Bf!))(wf:Cr!)(nw:Db!)(tk:NG!)(md:CM!)(mk:Io!)(ou:Lw!)(wg:Kz! Cq! (GN!++ls))(st:MG! Cq! (GN!++ls))(hc:W.c<=c)(lw:j? (λ(y:Int×Addr) (l:LT)=>Mu! H1 y.2 y.1) L ls)(mu:∀n u,fq n u z=none/\ij n u z=none)(hs:Jc! (t?\/LU W.qs t))(lm:∀l∈ls,LU W.qs l.th)(z0:ae 0 z<=1)(cw:IB! KL!+1<=BE! (ae 1 z))(cA:C5!)(cB:C4!)(k:h?)(v:V)(hr:∀W' al',Cj!->EM al'=GN!++ls->al'=X!++Cx!->R v W' al' ys H1):Q v H1:=by
 have e:EM (X!++Cx!)=GN!++ls:=I? Cs uF
 have kt:=HJ.DO x.wa wf;refine LF! v (Ir! Bf!) (X!++Cx!) H1 (hr _ _ ⟨q,i.2,rfl,rfl⟩ e rfl) (uG i.2 nw) (x.Z' (al':=X!++Cx!) i.2 W1 wf nw tk md mk ou (JB! wg) (JB! st) (λn u=>?_) (λn u=>?_) (Dy (Dy (Dp p1 kt) (Dp p3 kt)) (Mm! LL.w H1 W.EY lw)) ?_ ?_ hc q?);.rw[Bz,(N3 ls n u).1,AG,es,Bz,Bz,Fs,(mu n u).1];rfl
 .rw[Bm,(N3 ls n u).2,AG,es,Bm,Bm,Ds,(mu n u).2];rfl
 .rw[e];refine x.ma.next i.2 md (am ((hs t ht).imp id λh=>h.set i.2 md)) (NE ?_);rcases ZI hl with h|h;(.refine Fk!;rw[es,Cs];rw[Cs] at h;rcases ZI h with h|h;(.exact A3!);.refine ZC _ ?_;show l∈(z::b).filterMap nX;rw[HI];cases nX z with | none=>exact h | some _=>exact ZD _ h);.exact G! (lm l h)
 .have e0:=Hw 0 a b z;have e1:=Hw 1 a b z;rw[<-es] at e0 e1;refine x.pb.next i.2 ?_ ?_;(.rw[D5,Z8];lia);.rw[D5,Z8];lia
 .rcases ZI hz with h|h;(.refine Fk!;rw[es];rcases ZI h with h|h;(.exact A3!);.exact C2!);.obtain⟨l,_,rfl⟩:=ZN h;exact FB l rfl
theorem Jkq(es:Br! (LL.w l)):A4!=EM a++l::EM b:=WP es Cs
theorem Jpl(ok:K' g0 l)(e:l.kind=kind)(np:kind≠Ec!):Be! Ec!/\Be! Y?/\Be! ww/\Be! "let":=by
 obtain⟨_,_,_,kk⟩:=ok;rw[e] at kk;rcases kk with⟨e,_⟩|⟨e,_⟩|⟨e,_⟩|⟨e,_⟩;.rw[e];exact⟨ZV,ZV,ZV,ZV⟩
 .rw[e];exact⟨ZV,ZV,ZV,ZV⟩
 .rw[e];exact⟨ZV,ZV,ZV,ZV⟩
 .exact absurd e np
theorem Zi(x:Int):Dr [⟨Uf,a,b,th,x⟩]=[]:=by unfold Dr J6;simp only[BY,EF];rw[Bi!,Bi!];rfl
theorem Jl9:Dr [LC! a b x,⟨Uf,a',b',wY,x'⟩]=[(b,th)]:=ED! (ER! (([LC! a b x,⟨Uf,a',b',wY,x'⟩])=[LC! a b x]++[⟨Uf,a',b',wY,x'⟩])) Ez Zi
inductive Joi(W:EZ)(l:LT)(ls:r?)(W':EZ)(al':F!):Prop
 | mk G G' (_:DG! l.g.toNat) (_:Tk) (_:((((Im!)\/(Ex!/\l.x=l.g))/\G'.hand=Bn G.hand l.th/\H9!=Dr ls)\/(Ex!/\l.x≠l.g/\UV/\H9!=Dr ls++Fp! l.x)\/(l.kind≠KB/\l.kind≠Ec!/\UV/\H9!=Dr ls)))
theorem Wt.hand(h:MC!)(k:Ev!\/kind=Uf\/Ij!):Tk/\G'.hand=if Ev! then Bn G.hand tb else G.hand:=by
 obtain⟨_,h2,h3,h4,_,_,h6,_⟩:=h.f';refine Op ⟨h4,h3,h6,λt _=>by rw[h2]⟩;rcases h with⟨k,⟨c,o,f,e⟩|⟨c,e⟩⟩|⟨k,e⟩|⟨k,e⟩;.rw[AE k,e]
 .rw[AE k,e]
 .rw[k,Bi!,e]
 .rw[k,Bi!,e]
theorem Jnb:WX G tb true=Bn G.hand tb:=rfl
theorem Jnc:WX G tb false=G.hand:=rfl
theorem Y0{HD:Bool}{sh:Int}{P:e?}(h:NV (Gw G th sh HD) t)(k:P th):t?\/P t:=by
 rcases h with(h|h)|h;.have h:t∈WX G th HD:=h;cases HD with | true =>rcases DG.mp h with h|h;(.exact GB!);.rw[h];exact G! k | false=>exact GB!
 .exact Ad! Fu!
 .exact Df!
theorem Wt.has(w:MC!)(h:NV G' t):t?\/t=tb:=by
 have hd:∀{M:BZ},(t∈Bn M.hand tb->t∈M.hand\/t=tb):=λh=>DG.mp h;rcases w with⟨_,⟨_,o,_,rfl⟩|⟨_,rfl⟩⟩|⟨_,rfl⟩|⟨_,rfl⟩;.rcases h with(h|h)|h;(.rcases hd h with h|h;(.exact GB!);.exact IN);(.exact Ad! Fu!);.exact Df!
 .rcases h with(h|h)|h;(.rcases hd h with h|h;(.exact GB!);.exact IN);(.exact Ad! Fu!);.rcases F6! t h with h|h;(.exact IN);.exact Df!
 .rcases h with h|h;(.exact Ad! h);.rcases F6! t h with h|h;(.exact IN);.exact Df!
 .exact d?
theorem Wt.keys(w:MC!)(z:Ij!):At! (ga G'.AH.map):=by
 rcases w with⟨e,_⟩|⟨e,_⟩|⟨_,rfl⟩;.exact absurd (z.symm.trans e) Ja
 .exact absurd (z.symm.trans e) Mv
 .intro t ht;show ga (WC G tb x).map;unfold WC;split;(.exact(C9 _ _ _).2.1 t ht);.exact ht
theorem Wt.cost(w:MC!):(IB! (bv ([]:r?).map UX)+1:Nat)<=BE! (ae 1 (.w ⟨kind,s,g,tb,x⟩)):=by
 rcases w with⟨rfl,⟨_,o,_,rfl⟩|⟨_,rfl⟩⟩|⟨rfl,rfl⟩|⟨rfl,rfl⟩;.show Kk! 0 2;lia
 .have:=Kj G.AI tb (LT!);show 0+(Bj G.AI tb (LT!)).length+1<=BE! (1*2);lia
 .have:=Kj G.AI tb (LT!);show 0+(Bj G.AI tb (LT!)).length+1<=BE! (1*2);lia
 .show Kk! 0 1;lia
theorem Jd9(x:J!)(hn:W?)(hB:P?)(el:Cv!)(es:Br! (LL.w l))(p1:C8!)(p2:Ln! (.w l))(p3:C7!)(cA:C5!)(cB:C4!)(k:h?)(hR:∀v W' al' H',Joi W l (EM Bc!) W' al'->(CP!->al'=X!/\∃G G',DG! l.g.toNat/\(At! (ga G'.AH.map))/\UV/\Tk)->Gh!):Lj!:=by
 have z3:=Cz!;have ew:=Jkq es;have hl:l∈A4!:=EZ! ew
 have lok:=x.wg.wl.ok _ hl;obtain⟨kind,sn,g,th,xx⟩:=l;obtain⟨g0,g1,ib,kk⟩:=lok;have g0:0<=g:=g0;have g1:g<m:=g1;obtain⟨⟨q,G⟩,hi⟩:=Ly!;have i:KA W g q G:=A! g0 hi;obtain⟨s,nu⟩:=A7!;have VJ:KK!:=Me!
 have p2:JO H t BP kind sn g th xx:=p2;obtain⟨a0,b0,et,_⟩:=id p2;refine M2! sn kind;have NG:=KP!;have mu:∀n u,fq n u (.w ⟨kind,sn,g,th,xx⟩)=none/\ij n u (.w ⟨kind,sn,g,th,xx⟩)=none:=λ_ _=>H7!;by_cases hp:Ii!;.refine C! (Op hp);subst hp;(have gt:g=th.1:=by rcases kk with⟨e,_⟩|⟨e,_⟩|⟨e,_⟩|⟨_,e,_⟩;(.exact absurd e.symm Dq);(.exact absurd e.symm Fd);(.exact absurd e.symm Fe);.exact e);subst gt;obtain⟨mem,wM,wN⟩:=x.wg.pass ew rfl hi;have mem:th∈Hk!:=mem;rw[<-Cs] at wM wN;refine⟨p,t,_,BP,sn,th.1,xx,th,q,G,rfl,W1,KV!,i,Ok.sz s.ok hn,mem,VJ,?_⟩;by_cases same:xx=th.1;(.subst same;refine C! (y? (λy t1 H2 W2 m1 OK du dt ey=>?_));obtain⟨wg,st⟩:=wM rfl;exact x.got i (ls:=[⟨Uf,th.1,sn,th,W.share⟩]) es p1 p3 W2 (IM! Kf!) GD! LI! Ae! Ht! (Al! (Hv mem t ht)) wg st (AY! (W.c<=GM)) (Gm! m1) mu (am (Y0 ht (x.ma.lt _ hl))) (λl h=>Ei! (ZK h) (show LU W.qs th from x.ma.lt _ hl)) (Nat.le_of_ble_eq_true rfl) (AY! (Kk! 2 5)) cA cB k _ λ_ _ c e _=>hR _ _ _ _ ⟨_,_,c,Np! (Hv mem),C! ⟨G! H7!,Jnb,by rw[e,Ez,Zi,AG]⟩⟩ λz=>absurd z Iz);.refine FB same (λy t1 t2 H2 W2 m1 m2 OK du dt ey=>?_);obtain⟨wg,st⟩:=wN same;rw[AQ (EM Bc!)] at wg st;(have W2:A1! { W with qs:=W.qs.set th.1.toNat (q,Gw G th W.share false),c:=GM+1,ls:=Eb!++([(GM,t1)]++[(GM+1,t2)]) }:=n? AQ W2);have lw:j? (λ(y:Int×Addr)(l:LT)=>Mu! H2 y.2 y.1) [(GM,t1),(GM+1,t2)] [⟨KB,th.1,xx,th,W.share⟩,⟨Uf,th.1,sn,th,W.share⟩]:=Ld! re m1 m2;exact x.got i (ls:=[LC! th.1 xx W.share]++[(⟨Uf,th.1,sn,th,W.share⟩:LT)]) es p1 p3 W2 (IM! Kf!) GD! LI! Ae! Ht! (Al! (Hv mem t ht)) wg st (AY! (W.c<=GM+1)) lw mu (am (Y0 ht (x.ma.lt _ hl))) (λl h=>by have e:l.th=th:=by{ rcases ZM h with h|h;{ rw[h] };{ rw[ZK h] } };rw[e];exact x.ma.lt _ hl) (Nat.le_of_ble_eq_true rfl) (AY! (Kk! 4 5)) cA cB k _ λ_ _ c e _=>hR _ _ _ _ ⟨_,_,c,Np! (Hv mem),ca ⟨rfl,same,Jnc (tb:=th),R? e Ez (congrArg _ Jl9)⟩⟩ λz=>absurd z Iz
 .obtain⟨G',wt,wg,st⟩:=x.wg.wt ew hp hi;rw[<-Cs] at wg st;have wt:Wt kind G th xx G':=wt;(have k3:Ev!\/kind=Uf\/Ij!:=by rcases kk with⟨e,_⟩|⟨e,_⟩|⟨e,_⟩|⟨e,_⟩;(.exact C! e);(.exact ca e);(.exact z! e);.exact absurd e hp);refine z! (M? (M? ⟨Jpl (x.wg.wl.ok _ hl) rfl hp,p,t,_,BP,sn,g,kind,th,xx,q,G,G',rfl,W1,KV!,i,wt,Ok.sz s.ok hn,λH2 W2 OK r hr=>?_⟩));have s3:=cr hr;obtain⟨_,_,h3,_,h5,_,h6,_⟩:=wt.f';(have W2:A1! { W with qs:=Nb! g.toNat,c:=W.c,ls:=Eb!++[] }:=FP! W2);exact x.got i (ls:=[]) es p1 p3 (W2.same s3) (IM! (EQ (OK b o (HY b o e hb) hb))) (Os (Ge! wt.BM hb)) h! h! h! (Al! (h6 t ht)) (JC! wg) (JC! st) Ae! d! mu (am ((wt.has ht).imp id λe=>FO! (x.ma.lt _ hl))) (λ_ h=>FV!) (AY! (0*_<=1)) wt.cost cA cB k _ λ_ _ c e ea=>hR _ _ _ _ ⟨_,_,c,(wt.hand k3).1,by rw[AG] at e;rw[e];have hh:=(wt.hand k3).2;by_cases kh:Ev!;(.rw[AE kh] at hh;exact C! (FM (C! kh) hh));.rw[AB kh] at hh;exact z! ⟨kh,hp,hh,rfl⟩⟩ λz=>⟨Ez! ea FL,_,_,c,wt.keys z,I? (wt.hand k3).2 (AB λe=>Ja (z.symm.trans e)),(wt.hand k3).1⟩
theorem Yt(G:BZ)(ts:M!):Nq G (Oe G ts) :=⟨rfl,rfl,o! (Du! ht),o! (by obtain⟨q,hq,e⟩:=ZN ht;have hq:q∈Ks! (q.1∉ts):=hq;have m:=(AD.mp hq).2;rw[e] at m;exact J0 (p:=λt=>T! (t∉ts)) (l:=G.holds) m)⟩
theorem Jl4(x:J!)(hn:W?)(hB:P?)(el:Cv!)(es:Br! (Dp! g))(p1:C8!)(p2:Ln! (.lt s g ts))(p3:C7!)(cA:C5!)(cB:C4!)(k:h?)(hR:∀v W' al' H' j G G',DG! j->UV->Tk->LN!->(j=g.toNat/\G'=Oe G ts/\∃bs:r?,(∀l∈bs,CP!)/\al'=X!++bs.map .w)->Gh!):Lj!:=by
 have z3:=Cz!;have ew:A4!=GN!:=ED! es Cs Cs
 obtain⟨g0,g1,F,sF,fD,ht⟩:=x.lt s g ts (U! es Jy!);obtain⟨⟨q,G⟩,hi⟩:=Ly!;have i:KA W g q G:=A! g0 hi;obtain⟨sd,nu⟩:=A7!;have hN:p? g.toNat=g:=BK g0;have VJ:KK!:=Me!
 have p2:SS H t BP s g ts:=p2;obtain⟨a0,fZ,et,_⟩:=id p2;refine M2! s "let";have NG:=KP!;refine z! (M? (v! Ft!));obtain⟨hs,os,rs,JI⟩:=(x.wg.wl.good h! i.2).told;obtain⟨wg,st,oC⟩:=x.wg.vG i.2 sF fD (U! hN ht) JI.pr;rw[hN,ew] at wg st;have zb:F2! FI! 60:=by have h1:F2! FI! (rs.filter λq=>! Br FI! q.1).length:=AW _ _;have h2:=AW (FG! (! Br FI! q.1)) rs;have h3:=JI.pr.length_eq;have h4:=sd.ok.rz;lia
 refine⟨p,t,_,BP,s,g,ts,q,G,n,rs,rfl,W1,KV!,i,sd.ok,B!,o! (sd.ip t (w! ht)).1,λz hz t ht=>(sd.ip t (R! ⟨z,hz,ht⟩)).1,JI.pr,JI.wr,oC,zb,VJ,λy L H2 W2 bk OK du dt ey=>?_⟩;exact x.got (G':=Oe G ts) i es p1 p3 W2 (IM! Kf!) (Os (C! (Q7 b hb))) LI! Ae! Ht! (JN! Du!) wg (U! ew st) (AY! (W.c<=W.c+_)) (Ej bk.OO) (λ_ _=>H7!) (JN! Jjm) (λl h=>x.ma.has _ q G i.2 _ (T7 (λ_=>rfl) JI.pr (a! (CW! (CW! hz))) l h)) (ZG 1) (by rw[Iy! Pl];have:=Zl (X:=Am G ts) JI.pr;show _+(HW FI!).AI.length+1<=1+_;have e:(Am G ts).AI.length=G.AI.length:=rfl;lia) cA cB k _ λ_ _ c e ea=>hR _ _ _ _ _ _ _ c rfl (Yt G ts) (by rw[e,Ez,Iy! Tz,AG,ew]) ⟨rfl,rfl,_,NE (let⟨_,_,e⟩:=ZN hl;by rw[<-e];rfl),ea⟩
universe E
theorem Vw:∀{l:k! (T2×α)},J? l.map->∀{a b:T2×α},a∈l->b∈l->a.1=b.1->a=b
 | [],_,a,b,ha,_,_=>db ha
 | c::l,nd,a,b,ha,hb,e=>by rw[AK] at nd;obtain⟨n1,n2⟩:=GU!;rcases ZM ha with ha|ha;(.rcases ZM hb with hb|hb;(.rw[ha,hb]);.exact absurd (AF.mpr ⟨b,hb,by rw[<-e,ha]⟩) n1);.rcases ZM hb with hb|hb;(.exact absurd (AF.mpr ⟨a,ha,I? e hb⟩) n1);.exact Vw n2 ha hb e
universe S
variable {G:BZ}{hs:List T2}{os:List (T2×Int×List T2)}{rs:List (T2×Int)}{n:Nat}
theorem Told.aD(t:Told G hs os rs)(ok:C1!):Jk G BD!:=by
 have kn:J? G.holds.map:=tf ok;refine⟨AT! (t.pm.mem_iff.mpr hu),AT! ?_,λr hr=>DK!,λr hr q hq e u hu=>?_,λu=>?_,AT! (t.pm.mem_iff.mp hu),λr hr u hu=>?_⟩;.obtain⟨r,hr,e⟩:=ZN (t.PL.pm.mem_iff.mpr hu);exact⟨r,hr,e⟩
 .exact CJ! t.PL.pm.mem_iff.mp HG!
 .unfold Ai;rw[Dn! t.PL.at_];rfl
 .obtain⟨_,a,hl,f,_,pm,_⟩:=t.PL.at_ r hr;refine pm.mem_iff.mpr ?_;have f2:=DE f;have m2:=AJ f;(have:q=(r.1,a,hl):=by have h1:q.1=(r.1,a,hl).1:=e;exact Vw kn hq m2 h1);rw[this] at hu;exact hu
 .have nd:J? rs.map:=(t.pr.map _).nodup_iff.mpr ok.rn;show Jl u rs=_;rw[Xi nd,Q4 t.pr ok.rn]
 .obtain⟨_,a,hl,f,_,pm,_⟩:=t.PL.at_ r hr;unfold Bp;rw[f];exact pm.mem_iff.mp hu
theorem Told.ny(t:Told G hs os rs)(ok:C1!)(hn:n<=60)(ob:At! (0<=t.2)):kH G.BP BD!/\∀w∈os,w.1.2<G.AO:=by
 have h1:=t.pm.length_eq;have h2:=t.pr.length_eq;have z1:=ok.hz;have z2:=ok.rz;have key:∀w∈os,w.1∈Hk!:=λw hw=>CJ! t.PL.pm.mem_iff.mp (FM w hw);refine A! ⟨?_,AM! (hs.length<=60),AM! (rs.length<=60),λw hw=>AT (ok.new w.1 (key w hw)).1 (ob _ (key w hw))⟩ (λw hw=>(ok.new w.1 (key w hw)).2);.exact t.PL.pm.nodup_iff.mpr ok.on
 .obtain⟨_,a,hl,f,_,pm,_⟩:=t.PL.at_ w hw;have:=(ok.ln _ (AJ f)).2;have:=pm.length_eq;(have e:hl.length<=n:=by assumption);lia
theorem Told.tells(t:Told G hs os rs)(ok:C1!)(hn:n<=60):Tells G hs os rs:=by have z1:=ok.hz;have z2:=ok.rz;have z3:=ok.oz;exact⟨B!,B!,B!,t.pm,t.pw,t.PL,t.pr,t.wr⟩
universe E
theorem Jcr(kn:∀z∈al,Kn ns z)(h:n∉ns)(u:Int):KR!=[]/\Cj al n u=[]:=by
 refine A! (ER.mpr q?) (ER.mpr q?);.have k:=kn z hz;cases z with | ask s g n' u'=>exact AB (Nd! h z.1 k.1) | w l=>rfl | J' s g n' u' tk S=>rfl | lt s g ts=>rfl
 .have k:=kn z hz;cases z with | J' s g n' u' tk S=>exact AB (Nd! h z.1 k.1) | w l=>rfl | ask s g n' u'=>rfl | lt s g ts=>rfl
universe S
theorem PQ.wB(x:PQ m qs ls al n fi se)(hu:u=1\/u=2)(h:g∈KR!):0<=g/\g<m:=by
 rcases hu with rfl|rfl;.exact OT.mp (x.t1.mem_iff.mp (ZB _ (ZB _ h)))
 .rcases x.t2 with⟨_,e,_⟩|⟨_,pm⟩;(.rw[e] at h;cases h);.exact OT.mp (pm.mem_iff.mp (ZB _ (ZB _ h)))
universe E
theorem Wg.up(x:Ix):Wg D m (n+1) sh qs ls:=⟨x.wl.up,x.sD,x.rc⟩
universe S
theorem PB.same{qs:W!}{ys HG:K!}(x:PB m A B qs al ys)(h0:A'=0\/Fb 0 al+Hh m ys+A'<=Fb 0 al'+Hh m HG+A)(h1:Fb 1 al'+Hh m HG+B<=Fb 1 al+Hh m ys+B'):PB m A' B' qs al' HG:=by obtain⟨x1,x2⟩:=x;unfold PB hG at *;refine A! ?_ B!;rcases h0 with h0|h0<;>lia
theorem Sh(w m:Nat)(g n u:Int):Fb w (Dv m g n u)=m*(D2!):=by
 unfold Fb Dv;rw[AL];have h:∀l:Av!,bv l.map (λ_=>D2!)=l.length*(D2!):=λl=>by induction l with | nil=>rw[CA,Nat.zero_mul];rfl | cons _ l ih=>rw[AK,CF,ih,BL,Nat.succ_mul,Nat.add_comm]
 exact(h (List.range m)).trans (by rw[CM])
theorem Mi(m:Nat)(a b:K!):Hh m (X!)=Hh m a+Hh m b:=by unfold Hh;rw[ZF,JH]
theorem Jhd(x:J!)(hn:W?)(hB:P?)(hd:d<900)(el:Cv!)(es:Br! (LL.ask s g n' u))(p1:C8!)(p2:Ln! MY!)(p3:C7!)(cA:C5!)(cB:C4!)(k:h?)(hR:∀v W' al' H',BH!->Dr!->(∃q G S,BJ! (W.qs[g.toNat]?)/\Jk G S/\al'=X!++Ku! S)->Gh!):Lj!:=by
 have z3:=Cz!;have z4:=x.ez;have hz:LL.ask s g n' u∈al:=GS!
 obtain⟨k1,ku⟩:=x.kn _ hz;obtain⟨y0,cq,jz⟩:=ZN k1;have mg:g∈Cv al n' u:=IA.mpr ⟨_,hz,JI!⟩;obtain⟨g0,g1⟩:=E7! (x.iv y0 cq).wB ku jz mg;obtain⟨⟨q,G⟩,hi⟩:=Ly!;have i:KA W g q G:=A! g0 hi;obtain⟨sd,nu⟩:=A7!;have hN:p? g.toNat=g:=BK g0;have VJ:KK!:=Me!
 have p2:Lx! BP Y? n':=p2;obtain⟨a0,et,_⟩:=id p2;refine M2! s Y?;have NG:=KP!;refine ca Ft!;obtain⟨hs,os,rs,JI⟩:=(x.wg.wl.good h! i.2).told;refine⟨p,t,_,BP,s,g,n',u,q,G,hs,os,rs,rfl,W1,KV!,i,JI.tells sd.ok (B!),VJ,AM! (W.EY.length<=900),λe he=>by have:=x.ec e he;show e.1≠GM;lia,λy t1 e xs H2 W2 tQ he st OK _ _ _=>?_⟩;have wf:EU! H2:=λb o e hb=>Kf!;have kt:=HJ.DO x.wa wf;have ew:EM (X!++Ku! BD!)=EM al:=by rw[es,Cs,Cs,Cs];show _++_++[]=_;rw[AG];rfl
 have mo:∀{L:Z!} {c:F!},NS! L c->B7! H2 (HD!) L c:=λpp=>Aq (λ_ _ r=>(r.keep kt).more λe he=>ZB _ he) pp;have ZX:∀z∈X!++[LL.J' g s n' u G.BC BD!],El!\/z=LL.J' g s n' u G.BC BD!:=a! (by rcases ZI hz with h|h;(.refine Fk!;rw[es];rcases ZI h with h|h;(.exact A3!);.exact C2!);.exact M? (ZK h))
 obtain⟨ny,nw⟩:=JI.ny sd.ok h! (x.ob _ _ _ hi);rw[nu,hN] at ny;have a1:=x.md;have a3:=x.fz;have a4:=x.iz;refine LF! _ { W with c:=GM,ls:=Eb!++[(GM,t1)],EY:=HD! } (X!++Ku! BD!) H2 (hR _ _ _ _ rfl ew ⟨q,G,_,hi,JI.aD sd.ok,rfl⟩) (Os (hb.elim v! λh=>DM!)) ⟨W2,CN! x.wg.up,AM! (Bs!<=_),x.ob,x.m1,x.m5,?_,?_,?_,?_,Ip! (d+1),CN! x.ma,?_,B!,x.iq,x.eQ,x.nd,x.off,pi (x.WM wf hy),Fd!,q?,x.ff,Em! ?_⟩;.exact Ld! Dy (Dy (mo p1) (mo p3)) ⟨tQ,e,xs,Fy!,he,st⟩
 .show J? (HD!).map;rw[ZF];refine Gy! x.en ?_;obtain⟨w,hw,ew⟩:=ZN hu;have:=x.ec w hw;have hv:v=GM:=ZK hv;lia
 .intro w hw;have hw:w∈HD!:=hw;show w.1<=GM;rcases Bj! with hw|hw;(.have:=x.ec w hw;lia);.rw[ZK hw];exact BD _
 .show(HD!).length<=d+1;rw[ZE];show W.EY.length+1<=d+1;lia
 .have e0:=Hw 0 a b MY!;have e1:=Hw 1 a b MY!;rw[<-es] at e0 e1;(have pa:∀w,ae w MY!=Fb w (Ku! BD!)+1:=λw=>by show(D2!)=(Ne! 4 2)+0+1;split<;>rfl);rw[pa] at e0 e1;refine x.pb.same ?_ ?_;(.rw[D5];lia);.rw[D5];lia
 .rw[ew];exact(x.iv y hy).asked es g0 hi rfl (JI.aD sd.ok) ny nw
 .rcases ZX z hz with h|rfl;(.exact x.kn z h);.exact A! k1 ku
 .rcases ZX _ hz with h|h;(.rw[ew];exact Kj!);.cases h
theorem WI.gq(x:J!):∀y∈ys,1<=y.n/\y.n<=Q! ys.length:=pi (by have:y.n∈ys.map BF!:=Ck! y hy;rw[x.eQ] at this;obtain⟨j,hj,e⟩:=ZN this;have:=BH.mp hj;lia)
theorem Jhe(x:J!)(hn:W?)(hB:P?)(hd:d<900)(i:Q?)(cA:A'<=A+5*m)(cB:B+5*m<=B')(k:h?)(hR:∀v W' al' HG H',BH!->Dr!->(∃io I,v=N! (PP)/\al'=HX!/\HG=ys++[MV! PP])->J7!):xz (.ask h):=by
 have z3:=Cz!;have a1:=x.md;have a2:=x.ez;have a3:=x.fz;have a4:=x.iz;have a5:=x.m5;have iP:Gz!:=x.wg.wl.len;have iQ:W.LV.length=ys.length:=I? x.iq ZA
 have ao:PP∉ys.map BF!:=λz=>by obtain⟨y,hy,e⟩:=ZN z;have:=x.gq y hy;lia
 refine⟨p,h,W,q,G,rfl,x.wa,i,B!,B!,B!,λl hl e=>?_,λio I L H1 W1 tR WH uy FH im is qu ic wf=>?_⟩;.rw[iQ] at e;rw[x.iq] at hl;obtain⟨y,hy,e2⟩:=ZN hl;rw[<-e2] at e;exact CJ! ao ⟨y,hy,e⟩
 rw[iP] at tR;rw[iQ] at W1 tR;have kt:=HJ.DO x.wa wf;have ew:EM (HX!)=EM al:=Ez! Cs W9
 let y1:Qy:=MV! PP;have ZX:∀z∈HX!,El!\/∃g,z=LL.ask h g (PP) 1:=a! (by rcases ZI hz with h|h;(.exact d?);.obtain⟨j,_,e⟩:=ZN h;exact I6! e.symm)
 have atY:QV CI K H1 m y1:=⟨WH,by show I.m=_;rw[im,iP],qu,ic,by show Paired _ I.ss [];rw[is];exact d!⟩;have ndY:Ar! C8 y1:=by obtain⟨dx,e⟩:=WH.ob;(have n1:io≠I.sd:=Nl! WH.s);(have n2:io≠I.fd:=Nl! WH.f);(have n3:io≠I.cd:=Nl! WH.c);show [io,I.sd,I.fd,I.cd].Nodup;simp[n1,n2,n3,WH.sf,WH.sc,WH.fc]
 refine k _ { W with LV:=W.LV++[(PP,io)],c:=AJ!,ls:=BM! } D (HX!) (ys++[y1]) H1 (hR _ _ _ _ _ rfl ew ⟨io,I,by rw[<-iQ],rfl,rfl⟩) (Os (hb.elim v! λh=>(by rw[BU] at h;rcases ZI h with h|h;(.exact DM!);.exact z! (FH b (FC.mp (Ap!)))))) ⟨W1,CN! x.wg.up,AM! (Bs!<=_),x.ob,x.m1,x.m5,?_,x.en,Ey!,AM! (W.EY.length<=d+1),Ip! (d+1),CN! x.ma,?_,?_,?_,?_,?_,Fd!,Fd!,Fd!,q?,Ey!,Em! ?_⟩ (HJ.wi wf) rfl;.exact Dy (Dp x.lw kt) (Ej (f:=λi:Nat=>LL.ask h I! (PP) 1) (R:=KC K H1 W.EY) tR.OO)
 .have:=x.ec e he;show e.1<=AJ!;lia
 ·(have q0:Hh m [y1]=0:=by show Fz m y1+0=0;unfold Fz;have:(y1.fi.length:Nat)=0:=rfl;split<;>(try split)<;>simp_all [y1]);have q1:∀w,Fb w (Dv m h (PP) 1)=m*5:=λw=>Sh w m h _ 1;refine x.pb.same (M? ?_) ?_;(.rw[D5,Mi,q0,q1];lia);.rw[D5,Mi,q0,q1];lia
 .rw[ZE];show ys.length+1<=n+1;lia
 .show W.LV++_=_;rw[x.iq,ZF];rfl
 .rw[ZF,ZE,x.eQ];show _++[PP]=(List.range (ys.length+1)).map _;rw[EO,ZF];rfl
 .rw[BU];refine AM.mpr ⟨x.nd,by simpa using ndY,λu hu v hv z=>?_⟩;obtain⟨y,hy,hb⟩:=CU.mp hu;obtain⟨o,e,_⟩:=(x.at_ y hy).has hb;(have hv:v∈C8 y1:=by simpa using hv);have:=FH v (FC.mp hv);rw[<-z,e] at this;cases this
 .rcases ZI hy with hy|hy;(.exact x.off y hy);.rw[ZK hy];exact Db (uy b (FC.mp hb))
 .rcases ZI hy with hy|hy;(.exact x.WM wf hy);.rw[ZK hy];exact atY
 .rcases ZI hy with hy|hy;(.have ne:¬PP=y.n:=λz=>CJ! ao ⟨y,hy,z.symm⟩;refine(x.iv y hy).gN (λu=>?_) (λu=>?_) (U! ew (LG.refl _ _));(.rw[Bz,Ii,AB (λz=>ne z.1),AG]);.rw[Bm,Kw,AG]);.rw[ZK hy];exact Jqb x.m1 (λu=>(Jcr x.kn ao u).1) (λu=>(Jcr x.kn ao u).2) h
 .rcases ZX z hz with h|⟨g,rfl⟩;(.have kz:=x.kn z h;rw[ZF];cases z with | w l=>trivial | ask s g n' u=>exact A! (ZB _ kz.1) kz.2 | J' s g n' u tk S=>exact A! (ZB _ kz.1) kz.2 | lt s g ts=>trivial);.exact A! (Ck! y1 Fy!) (C! rfl)
 .obtain⟨y,hy,e1,e2⟩:=x.ff e he;exact⟨y,ZB _ hy,e1,e2⟩
 .rcases ZX _ hz with h|⟨_,h⟩;(.rw[ew];exact Kj!);.cases h
universe E
theorem Jab{as:AB!}{bs:Fi!}(h:∀a∈as,∀b,R a b->S a b)(p:Ay! as bs):j? S as bs:=by revert h;induction p with | nil=>exact λ_=>d! | cons r _ ih=>exact λh=>re (h _ wE _ r) (ih λa ha=>h a (ZD _ ha))
universe S
variable {CW C CP CI NH NL NHd NNr MI NW p:Addr}{K:W.Frag}{H H2:Hp}{W:EZ}{D D':T2->Prop}{m n:Nat}{al a b new:List LL}{ys i1 i2:List Qy}{y y':Qy}
theorem Jg6(ey:HA!)(nd:Ar! ys.flatMap C8):∀z,(z∈i1\/z∈i2)->∀b∈C8 z,b∉C8 y:=λz hz b hb ya=>by rw[ey,BU,BY] at nd;obtain⟨_,n2,n3⟩:=AM.mp nd;rcases hz with hz|hz;(.exact n3 b (CU.mpr ⟨z,hz,hb⟩) b (ZB _ ya) rfl);.exact(AM.mp n2).2.2 b ya b (CU.mpr ⟨z,hz,hb⟩) rfl
theorem Vv(ey:HA!)(nd:Ar! ys.map BF!):∀z,(z∈i1\/z∈i2)->z.n≠y.n:=λz hz e=>by rw[ey,ZF,AK] at nd;obtain⟨_,n2,n3⟩:=AM.mp nd;rcases hz with hz|hz;(.exact n3 z.n (AF.mpr (FM z hz)) y.n wE e);.exact Jr! (AN.mp n2).1 e
theorem WI.oJ(x:J!):Ar! ys.map BF!:=by rw[x.eQ];unfold List.Nodup;rw[EL];exact List.Pairwise.imp (λ{a b} (h:a<b)=>B!) QA
theorem WI.answer(x:J!){BP s g u tick:Int}{S:HS}{t e:Addr}{l1 l2 L e1 e2 bA:Z!}{c':Int}(el:Cv!)(es:Br! (.J' s g y.n u tick S))(p1:C8!)(p3:C7!)(ey:HA!)(ee:W.EY=e1++(BP,e)::e2)(W2:A1! { W with c:=c',ls:=Bf!,EY:=Rs,IP:=bA })(fr:Lm!)(en:y'.n=y.n)(eo:y'.io=y.io)(qf:C8 y'=C8 y)(at2:QV CI K H2 m y')(hc:W.c<=c')(hw:Wg D' m n W.share W.qs An!)(hD:∀t,D t->D' t)(lw:B7! H2 Ej! L new)(pn:∀w,LG! (Fb w new) (ae w (.J' s g y.n u tick S)))(cA:C5!)(cB:C4!)(oE:EM new=[])(nkn:∀z∈new,Kn (ys.map BF!) z)(nas:∀k u,k≠y.n->Cv new k u=[])(nan:∀k u,Cj new k u=[])(nlt:∀s g ts,Dp! g∈new->0<=g/\g<m/\∃F,OQ W.qs An! F/\(∀t,F t->D' t)/\Gt! (F t/\t.1=g))(iv':PQ m W.qs An! (E1!) y'.n y'.fi y'.se)(ff':∀e∈bA,e∈W.IP\/(e.1=y.n/\y'.se.length=m))(fz':bA.length<=d+1)(se:y.se.length=m->y'.se.length=m) : Mh! H2 { W with c:=c',ls:=Bf!,EY:=Rs,IP:=bA } D' (E1!) (Au!)/\ie p W ys H H2:=by
 have hy:CV!:=EZ! ey
 have kt:B_ H H2:=UB.DO x.wa (x.at_ y hy).at_ fr;have ew:EM (E1!)=EM al:=by rw[es,Cs,Cs,oE,Cs,AG];rfl
 have em:∀{α:Type} (f:Qy->α),f y'=f y->(Au!).map f=ys.map f:=λf ef=>by rw[ey,ZF,AK,ZF,AK,ef]
 have zR:=em BF! en;have hX:=x.wa.po.nd;rw[el,ZF,AK] at hX;obtain⟨_,nl2,nl3⟩:=AM.mp hX;have nd1:∀z∈l1,z.1≠BP:=a! (nl3 z.1 (AF.mpr (FM z hz)) BP wE);have hZ:∀z∈l2,z.1≠BP:=λz hz q=>Jr! (AN.mp nl2).1 q;have mo:∀{L:Z!} {c:F!},(∀z∈L,z.1≠BP)->NS! L c->B7! H2 Ej! L c:=λbU pp=>Jab (λz hz r hr=>(hr.keep kt).more λe' yU=>by rw[ee] at yU;rcases ZI yU with h|h;(.exact A3!);.rcases ZM h with h|h;(.exact absurd (Prod.mk.inj h).1 (bU z hz));.exact ZC _ h) pp;have mid:∀z∈Au!,z=y'\/(z∈ys/\(z∈i1\/z∈i2)):=a! (by rcases ZI hz with h|h;(.exact FB (E! ey A3!) d?);.rcases ZM h with h|h;(.exact d?);.exact FB (E! ey C2!) IN)
 have ki:∀z∈E1!,El!\/z∈new:=a! (by rcases ZI hz with h|h;(.refine Fk!;rw[es];rcases ZI h with h|h;(.exact A3!);.exact C2!);.exact IN)
 have gB:(e1++e2).Sublist W.EY:=E! ee (List.Sublist.append_left (List.sublist_cons_self _ _) _)
 have a1:=x.md;have a2:=x.ez;have a4:=x.iz;have a5:=gB.length_le;have eqf:(Au!).flatMap C8=ys.flatMap C8:=by rw[ey,BU,BY,BU,BY,qf]
 refine Op ⟨W2,CN! hw.up,AM! (Bs!<=_),x.ob,x.m1,x.m5,Dy (Dy (mo nd1 p1) (mo hZ p3)) lw,x.en.sublist (gB.map _),λe he=>Int.le_trans (x.ec e (gB.subset he)) hc,by show(e1++e2).length<=d+1;lia,fz',CN! x.ma,?_,?_,?_,?_,E! eqf x.nd,q?,q?,q?,q?,Ey!,Em! ?_⟩;.have f0:=Hw 0 a b (.J' s g y.n u tick S);have f1:=Hw 1 a b (.J' s g y.n u tick S);rw[<-es] at f0 f1;have q0:=pn 0;have q1:=pn 1;(have qy:Hh m (Au!)+Fz m y=Hh m ys+Fz m y':=by rw[ey,Mi,Mi];show Hh m i1+(Fz m y'+Hh m i2)+Fz m y=Hh m i1+(Fz m y+Hh m i2)+Fz m y';lia);refine x.pb.same ?_ ?_;(.rw[D5];lia);.rw[D5];lia
 ·(have:(Au!).length=ys.length:=IG! ey);lia
 .show W.LV=_;rw[x.iq];exact(em (λy=>G9!) (I? en eo)).symm
 ·(have:(Au!).length=ys.length:=IG! ey);rw[zR,x.eQ,this]
 .rcases mid z hz with rfl|⟨h,_⟩;(.rw[qf];exact x.off y hy);.exact x.off z h
 .rcases mid z hz with rfl|⟨h,h2⟩;(.exact at2);.refine(x.at_ z h).keep (λb o hb eb=>?_) kt;have nb:=Jg6 ey x.nd z h2 b hb;exact fr b o eb (x.off z h b hb) (DW! nb JX!) (DW! nb (R! JX!)) (DW! nb (JF! q))
 .rcases mid z hz with rfl|⟨h,h2⟩;(.rw[ew];exact iv');.have ne:=Vv ey x.oJ z h2;refine(x.iv z h).gN (λv=>?_) (λv=>?_) (U! ew (LG.refl _ _));(.rw[Bz,D! nas ne,AG,es,Bz,Bz,Fs];rfl);.rw[Bm,nan,AG,es,Bm,Bm,Ds];show _=_++((IH! (y.n=z.n/\u=v) (D? CD!)).toList++_);rw[AB λq=>ne q.1.symm];rfl
 .rw[zR];rcases ki z hz with h|h;(.exact x.kn z h);.exact nkn z h
 .rcases ff' e he with h|⟨h1,h2⟩;(.obtain⟨z,hz,q1,q2⟩:=x.ff e h;rw[ey] at hz;rcases ZI hz with hz|hz;(.exact⟨z,ZB _ hz,q1,q2⟩);.rcases ZM hz with rfl|hz;(.exact⟨y',Jy!,E! en q1,se q2⟩);.exact⟨z,ZC _ (ZD _ hz),q1,q2⟩);.exact⟨y',Jy!,E! en h1.symm,h2⟩
 .rw[ew];rcases ki _ hz with h|h;(.obtain⟨g0,g1,F,sF,fD,ht⟩:=Kj!;exact⟨g0,g1,F,sF,λt ft=>hD t (fD t ft),ht⟩);.exact nlt s g ts h
 .intro b o eb h1 h2;have hq:b∉C8 y:=λq=>h2 (CU.mpr ⟨y,hy,q⟩);exact fr b o eb h1 (DW! hq JX!) (DW! hq (R! JX!)) (DW! hq (JF! q))
universe E
theorem Q8{α:Type}{f:HS->AB!}{c:Nat}:∀{L:List HS},(∀S∈L,(f S).length<=c)->(L.flatMap f).length<=L.length*c
 | [],_=>Af!
 | S::L,h=>by have ih:=Q8 (f:=f) (c:=c) (L:=L) (a! (h z JV!));have:=Bu! S;rw[BY,ZE,BL,Nat.succ_mul];lia
theorem Jb4:∀{ks:Av!},ks.Nodup->(∀k∈ks,kH wp (S k))->J? (rowsOf (ks.map S)).map
 | [],_,_=>by simp[rowsOf]
 | k::ks,nd,h=>by obtain⟨n1,n2⟩:=GU!;have ih:=Jb4 (S:=S) n2 (a! (h z JV!));have so:=Bu! k;(have e:rowsOf ((k::ks).map S)=(S k).2.1++rowsOf (ks.map S):=by unfold rowsOf;rw[AK,BY]);rw[e,ZF];refine AM.mpr ⟨so.nd,ih,λu hu v hv z=>?_⟩;obtain⟨r,hr,e1⟩:=ZN hu;obtain⟨r2,LP,e2⟩:=ZN hv;obtain⟨S2,hS,WZ⟩:=FY.mp LP;obtain⟨k2,yP,e3⟩:=ZN hS;have c1:=Dn! so.oz;subst e3;have c2:=((h k2 (ZD _ yP)).oz r2 WZ).1;(have:k=k2:=by rw[e1] at c1;rw[e2] at c2;rw[z] at c1;lia);rw[this] at n1;exact n1 yP
theorem Jjq{ks:Av!}{S:DD!}{mx:Nat->Nat}{m:Nat}(nd:ks.Nodup)(kz:ks.length<=5)(km:∀k∈ks,k<m)(so:∀k∈ks,kH wp (S k))(nw:∀k∈ks,∀w∈(S k).2.1,w.1.2<mx k)(sm:F7! mx<=60):K63F.VP (ks.map S):=by
 have aq:=Jb4 nd so;refine⟨aq,?_,?_,Ew!,?_⟩;·(have:=Iw (U:=nY m mx) aq (o! (by obtain⟨r,hr,e⟩:=ZN ht;obtain⟨S2,hS,LP⟩:=FY.mp hr;obtain⟨k,hk,e2⟩:=ZN hS;subst e2;obtain⟨c1,c2,_⟩:=(so k hk).oz r LP;have c3:=nw k hk r LP;rw[e] at c1 c2 c3;refine CU.mpr ⟨k,BH.mpr (km k hk),Ag! (AT Ik! (AZ! BH.mpr))⟩;exact Prod.ext c1.symm (by show p? Ik!=t.2;lia))));rw[Jbe,ZA] at this;lia
 ·(have:=Q8 (f:=λS=>S.1) (c:=60) (L:=ks.map S) (a! (by obtain⟨k,hk,e2⟩:=AG!;subst e2;exact(so k hk).hz)));rw[ZA] at this;have:ks.length*60<=5*60:=E_ 60 kz;lia
 .obtain⟨S2,hS,LP⟩:=FY.mp hr;obtain⟨k,hk,e2⟩:=ZN hS;subst e2;exact((so k hk).oz r LP).2.2
 ·(have:=Q8 (f:=λS=>S.2.2) (c:=60) (L:=ks.map S) (a! (by obtain⟨k,hk,e2⟩:=AG!;subst e2;exact(so k hk).rz)));rw[ZA] at this;have:ks.length*60<=5*60:=E_ 60 kz;lia
theorem Wq{α:Type}{l:AB!}{k:α->Int}{f:α->V}{n:Int}:Ct (l.map Lt!) (Sum.inl n)=(l.find? λr=>T! (k r=n)).map f:=by
 unfold Ct;rw[M_,Option.map_map];congr 1;congr 1;funext r;show T! ((Sum.inl (k r):Key)=Sum.inl n)=T! (k r=n);by_cases e:k r=n;.rw[e];simp
 .rw[decide_eq_false e,IJ! (λz=>e (Sum.inl.inj z))]
theorem Jcn{α:Type}{l:AB!}{k:α->Int}{f:α->V}{r:α}(h:k r∉l.map k):putK (l.map Lt!) (Sum.inl (k r)) (f r)=(l++[r]).map Lt!:=by
 have e:Ct (l.map Lt!) (Sum.inl (k r))=none:=by rw[Wq];(have:l.find? (λz=>T! (k z=k r))=none:=BB.mpr (a! (by have:k z≠k r:=λe=>h (n? e (BJ hz));simpa using this)));rw[this];rfl
 rw[Fa _ e,ZF];rfl
theorem Jg2{se:k! (Int×Int)}{h:Int}(m:h∈x! se.map):∃r∈se,r.1=h/\se.find? (λr=>T! (r.1=h))=some r:=by cases e:se.find? λr=>T! (r.1=h) with | none =>obtain⟨r0,U',e0⟩:=ZN m;have:=BB.mp e r0 U';simp[e0] at this | some r=>exact⟨r,AJ e,B4! (DE e),rfl⟩
theorem Jk7{ss:SB}{fi:KY!}(p:j? (λ(kv:Key×V) (r:Int×Int×HS)=>MZ!) ss fi){h:Int}{r:Int×Int×HS}(e:fi.find? (λr=>T! (r.1=h))=some r):∃a,Ct ss (Sum.inl h)=x? i! a/\SE K H a r.2.2:=by induction p with | nil=>simp at e | @cons kv r0 ss fi q pp ih =>obtain⟨a,ea,st⟩:=q;subst ea;unfold Ct;rw[BX] at e ⊢;by_cases c:r0.1=h;(.rw[decide_eq_true c] at e;have e:r0=r:=ZO e;rw[show T! (CK! r0.1=Sum.inl h)=true by rw[c];simp];exact⟨a,rfl,n? e st⟩);.rw[decide_eq_false c] at e;rw[J4! (CK! r0.1=Sum.inl h) (λz=>c (Sum.inl.inj z))];exact ih e
theorem Jh2{ss:SB}{fi:KY!}(p:j? (λ(kv:Key×V) (r:Int×Int×HS)=>MZ!) ss fi):x! ss.map=fi.map λr=>CK! r.1 :=(uA (by rintro kv r ⟨a,e,_⟩;rw[e]) p).symm
theorem Jk8(pp:j? (λ(kv:Key×V) (r:Int×Int×HS)=>MZ!) ss fi)(h:s∉x! fi.map)(v:V):putK ss (Sum.inl s) v=ss++[(Sum.inl s,v)]:=by refine Fa _ ?_;unfold Ct;rw[BB.mpr λkv hkv=>?_];rfl;have:kv.1∈x! ss.map:=BJ hkv;rw[Jh2 pp] at this;obtain⟨r,hr,e⟩:=ZN this;have ne:¬kv.1=Sum.inl s:=λz=>h (by rw[z] at e;rw[<-Sum.inl.inj e];exact BJ hr);simpa using ne
theorem Pk{m:Nat}{fi:KY!}(pm:L8! fi.map){h:Nat}(hh:h<m):∃r∈fi,Ni!/\fi.find? (Gd!)=some r/\Hl fi h=AA!/\Kz fi h=r.2.2:=by have m1:Q! h∈x! fi.map:=pm.mem_iff.mpr (OT.mpr DN!);obtain⟨r0,U',e0⟩:=ZN m1;cases e:fi.find? Gd! with | none =>have:=BB.mp e r0 U';simp[e0] at this | some r =>refine⟨r,AJ e,B4! (DE e),rfl,?_,?_⟩;(.unfold Hl;rw[e];rfl);.unfold Kz;rw[e];rfl
def Ou(m:Nat)(g:Int)(ts:M!):F!:=Ea! λi:Nat=>.lt g I! (ts.filter KI!)
theorem Sw:Cv MS! n u=[]:=J0! (by obtain⟨i,_,e⟩:=AG!;rw[<-e];rfl)
theorem Sx:Cj MS! n u=[]:=J0! (by obtain⟨i,_,e⟩:=AG!;rw[<-e];rfl)
theorem Jch:EM MS!=[]:=J0! (by obtain⟨i,_,e⟩:=AG!;rw[<-e];rfl)
theorem Jfr{l:s?}{m:Nat}(pm:l.Perm (rg m)):(l.map IT!).Perm (List.range m):=by
 have:=pm.map IT!;have e:(rg m).map IT!=List.range m:=by unfold rg;rw[AL];(have:((λx:Int=>x.toNat) ∘ BG! wp)=id:=by funext k;simp);rw[this,List.map_id]
 rw[e] at this;exact this
universe S
theorem T8(es:Br! (LL.J' s g n' u tick S))(nw:EM new=[]):EM (E1!)=EM al:=by rw[es,Cs,Cs,Cs,nw,AG];rfl
theorem Jdl(w m:Nat)(g:Int)(ts:M!):Fb w MS!=m:=by
 unfold Fb Ou;rw[AL];have h:∀l:Av!,bv l.map (λ_=>1)=l.length:=λl=>by induction l with | nil=>rfl | cons _ l ih=>rw[AK,CF,ih,BL,Nat.add_comm]
 exact(h (List.range m)).trans CM
theorem Jpp{y y':Qy}(h:y'.fi.length=CQ!)(l:CQ!<m):LG! 0 4:=by unfold Fz;rw[Bk!,Bk!];lia
theorem Jpo{y y':Qy}(h:y'.fi.length=m)(hs:y'.se.length=0)(m1:1<=m)(e:CQ!=m):LG! (m*3) 4:=by unfold Fz;rw[A0!,Bk!,Bk!,hs];lia
theorem Jpn{y y':Qy}(h:y'.fi.length=m)(h2:y.fi.length=m)(hs:y'.se.length=Bg!)(l:Bg!<m):LG! 0 2:=by unfold Fz;rw[A0!,Bk!,A0!,Bk!];lia
theorem Jpm{y y':Qy}(h:y'.fi.length=m)(h2:y.fi.length=m)(hs:y'.se.length=m)(l:Bg!=m):m+Fz m y'+1=2+Fz m y:=by unfold Fz;rw[A0!,A0!,A0!,Bk!];lia
inductive Joj(m:Nat)(W W':EZ)(a b al':F!)(ys HG:K!)(s g n u tick:Int)(S:HS):Prop
 | mk (y y':Qy) (i1 i2:K!) (new:F!) (e1:HA!) (e2:HG=Au!) (e3:y.n=n) (e4:y'.n=n) (e5:al'=E1!) (e6:(u=1/\y'.se=y.se/\y'.fi=M9!/\W'.IP=W.IP/\((new=[]/\CQ!≠m)\/(new=Dv m g n 2/\CQ!=m)))\/(u=2/\y'.fi=y.fi/\y'.se=xL/\((new=[]/\Bg!≠m/\W'.IP=W.IP)\/(Bg!=m/\∃ts xf,new=Ou m g ts/\W'.IP=AK!/\∃cf:jp,(∀h:Nat,h<m->∃r∈y'.se,Ni!/\r.2=cf h)/\Gt! (GS m J1! (Kz y.fi) t)))))
theorem Jea(x:J!)(hn:W?)(hB:P?)(hd:d<900){BP:Int}{l1 l2:Z!}{t:Addr}{s g n' u tick:Int}{S:HS}(el:Cv!)(es:Br! (LL.J' s g n' u tick S))(p1:C8!)(p2:Ln! (.J' s g n' u tick S))(p3:C7!)(cA:C5!)(cB:C4!)(k:h?)(hR:∀v W' al' HG H',BH!->Dr!->Joj m W W' a b al' ys HG s g n' u tick S->J7!):Lj!:=by
 have z3:=Cz!;have z5:=x.fz;have iP:Gz!:=x.wg.wl.len;have m5:=x.m5;have hz:LL.J' s g n' u tick S∈al:=GS!
 obtain⟨k1,ku⟩:=x.kn _ hz;obtain⟨y,hy,jz⟩:=ZN k1;have jz:y.n=n':=jz;subst jz;obtain⟨i1,i2,ey⟩:=JS hy;obtain⟨pA,e,xs,me,he,st⟩:=p2;obtain⟨e1,e2,ee⟩:=JS me;have pA:Lx! BP ww y.n:=pA;have iv:=Ga!;have RX:=x.at_ y hy;have lf:y.fi.length<=m:=by have:=iv.t1.length_eq;rw[ZE,ZE,ZA,ZA,F5] at this;lia
 have lse:y.se.length<=m:=by rcases iv.t2 with⟨_,_,_,e⟩|⟨_,pm⟩;(.rw[e];exact FS);.have:=pm.length_eq;rw[ZE,ZE,ZA,ZA,F5] at this;lia
 have lfs:y.I.fs.length=y.fi.length:=I? RX.fs ZA
 have lcs:y.I.cs.length=y.se.length:=I? RX.cs ZA
 have lss:y.I.ss.length=y.fi.length:=z? RX.ss;have VJ:KK!:=Me!
 obtain⟨a0,et,_⟩:=id pA;refine M2! s ww;have NG:=KP!;have WH:=x.WM HY hy;have vi:K4! W.LV y.n y.io:=by (have e1:W.LV=(i1.map λy=>G9!)++G9!::i2.map λy=>G9!:=by rw[x.iq,ey,ZF,AK]);(have nd:J? W.LV.map:=R? x.iq AL x.oJ);rw[e1] at nd ⊢;exact(Jcu nd).1
 refine z! (w! Ft!);refine⟨p,t,_,BP,s,g,y.n,u,e1,e2,e,xs,tick,y.io,y.I,rfl,W1,pA.keep NG,ee,x.en,D! NG.A_ he,vi,WH.at_,Db (x.off y hy b (FC.mpr hb)),B!,B!,B!,AM! Id!,VJ,?_⟩;have og:∀{H2:Hp},UB p W y.I H1 H2->Lm!:=λfr b o eb hb n1 n2 n3=>fr b o (HY b o eb hb) hb n1 n2 n3;rcases ku with rfl|rfl;· obtain⟨lt,sn,ivA,ivB⟩:=iv.first (D:=D) (N:=n) (sh:=W.share) es;(have ef:N1!=(M9!).map (Ls! AA!):=E! RX.fs (Jcn (k:=λr:Int×Int×HS=>r.1) (f:=Il! AA!) (r:=CD!) sn));(have xk:NB! y.I.fs=Q! y.fi.length+1:=ED! ef ZA ZE);(have kF:∀{H2:Hp},Lm!->K63F.FQ CI H2 y.io { y.I with ss:=Nw! y.I.ss,fs:=N1! }->QV CI K H2 m LU!:=λfr at2=>by have kt:=UB.DO x.wa RX.at_ fr;refine⟨at2,RX.many,ef,RX.cs,?_⟩;show Paired _ (putK y.I.ss (w! s) (i! xs)) _;rw[Jk8 RX.ss sn];exact Ld! Dy (Aq (λ_ _ h9=>by obtain⟨a,e,s⟩:=h9;exact⟨a,e,s.keep kt⟩) RX.ss) ⟨xs,rfl,st.keep kt⟩);refine C! ⟨rfl,λne v H2 W2 at2 JU _=>?_,λeq v L H2 W2 cn at2 JU _=>?_⟩;(.have ne':CQ!≠m:=λz=>ne (B0! xk RX.many);have fr:=og JU;(have fe:A1! { W with c:=W.c,ls:=Eb!++[],EY:=Rs,IP:=W.IP }:=FP! W2);obtain⟨wi,YK⟩:=M6! [] D LU! Ae! x.wg (λ_ h=>h) d! (Jpp (by show(M9!).length=_;rw[ZE];rfl) h!) rfl (a! If!) (λ_ _ _=>rfl) Er! (λ_ _ _ hz=>If!) (JC! (ivA ne')) (λe he=>C! he) h! (λh=>h);refine k _ _ D _ _ H2 ?_ ?_ wi YK rfl;(.exact My! (T8 (new:=[]) es rfl) [] (C! ⟨rfl,rfl,rfl,rfl,C! (y? ne')⟩));.exact MT!);·(have OM:CQ!=m:=by rw[xk,RX.many] at eq;lia);(have se0:y.se=[]:=by rcases iv.t2 with⟨_,_,_,e⟩|⟨e,_⟩;(.exact e);.lia);have fr:=og JU;(have cn:MY H2 W.c g y.n 2 L m:=n? iP cn);have fe:A1! { W with c:=AJ!,ls:=Bf!,EY:=Rs,IP:=W.IP }:=W2;refine(λ(A:_/\_)=>k (y! v) { W with c:=AJ!,ls:=Bf!,EY:=Rs,IP:=W.IP } D (X!++Dv m g y.n 2) (i1++LU!::i2) H2 (My! (T8 es W9) _ (C! ⟨rfl,rfl,rfl,rfl,G! (y? OM)⟩)) (by exact MT!) A.1 A.2 rfl) (M6! (Dv m g y.n 2) D LU! h! x.wg (λ_ h=>h) (Mm! (λi:Nat=>LL.ask g I! y.n 2) H2 Ej! cn.OO) (E! Sh (Jpo (by show(M9!).length=m;rw[ZE];exact OM) (by show y.se.length=0;rw[se0];rfl) x.m1 OM)) W9 q? (λk u ne=>I? Ii (AB λz=>ne z.1.symm)) (λ_ _=>Kw) (Em! ?_) (ivB OM x.wg g) (λe he=>C! he) h! (λh=>h));(.obtain⟨j,_,ez⟩:=AG!;rw[<-ez];exact A! (Ck! y hy) (G! rfl));.obtain⟨j,_,ez⟩:=AG!;cases ez
 · obtain⟨fl,lt,sn,oP⟩:=iv.second es;have pf:=(iv.whole fl).2.2;(have ec:N2!=(xL).map (Ls! r.2):=E! RX.cs (Jcn (k:=λr:Int×Int=>r.1) (f:=Il! r.2) (r:=(s,tick)) sn));(have xl:NB! y.I.cs=Q! y.se.length+1:=ED! ec ZA ZE);(have gO:(xL).length=Bg!:=BN! ZE);(have kF:∀{H2:Hp},Lm!->K63F.FQ CI H2 y.io { y.I with cs:=N2! }->QV CI K H2 m LV!:=λfr at2=>by have kt:=UB.DO x.wa RX.at_ fr;exact⟨at2,RX.many,RX.fs,ec,Aq (λ_ _ h9=>by obtain⟨a,e,s⟩:=h9;exact⟨a,e,s.keep kt⟩) RX.ss⟩);refine G! ⟨P!,λne v H2 W2 at2 JU _=>?_,λeq=>?_⟩;(.have ne':Bg!≠m:=λz=>ne (B0! xl RX.many);have fr:=og JU;(have fe:A1! { W with c:=W.c,ls:=Eb!++[],EY:=Rs,IP:=W.IP }:=FP! W2);obtain⟨wi,YK⟩:=M6! [] D LV! Ae! x.wg (λ_ h=>h) d! (Jpn fl fl gO h!) rfl (a! If!) (λ_ _ _=>rfl) Er! (λ_ _ _ hz=>If!) (JC! oP) (λe he=>C! he) h! (λh=>B!);refine k _ _ D _ _ H2 ?_ ?_ wi YK rfl;(.exact My! (T8 (new:=[]) es rfl) [] (G! ⟨rfl,rfl,rfl,C! (FM rfl ne')⟩));.exact MT!);·(have OM:(xL).length=m:=by rw[xl,RX.many] at eq;lia);(have ps:L8! (xL).map:=by rcases oP.t2 with⟨h,_⟩|⟨_,pm⟩;(.lia);.have l:=pm.length_eq;rw[ZE,ZE,ZA,ZA,F5] at l;have q1:Cv (X!) y.n 2=[]:=AZ! BN.mp;have q2:Cj (X!) y.n 2=[]:=AZ! BN.mp;rw[q1,q2] at pm;exact pm);(have kD:∀h:Nat,∃ah:Addr,h<m->Ct y.I.ss (w! (Q! h))=x? i! ah/\SE K H1 ah (Kz y.fi h):=λh=>by by_cases hh:h<m;(.obtain⟨r,_,_,ef,_,es2⟩:=Pk pf hh;obtain⟨ah,va,sa⟩:=Jk7 WH.ss ef;exact EQ! ah (A! va (E! es2 sa)));.exact A! e (λz=>absurd z hh));let cf:jp:=λh=>(((xL).find? Gd!).map c?).getD 0;(have jq:∀h:Nat,h<m->∃r∈xL,Ni!/\(xL).find? (Gd!)=some r/\r.2=cf h:=λh hh=>by obtain⟨r,hr,er,ef⟩:=Jg2 (se:=xL) (h:=Q! h) (ps.mem_iff.mpr (OT.mpr DN!));exact⟨r,hr,er,ef,by show r.2=((((xL).find? Gd!).map c?).getD 0);rw[ef];rfl⟩);(have sF:=oP.done fl (c:=cf) λh hh=>by obtain⟨r,hr,er,_,ev⟩:=jq h hh;exact⟨r,hr,er,ev⟩);(have eL:K63F.G_ (K63F.LI m (Hl y.fi) cf (λh=>Classical.choose (kD h)) (Kz y.fi))=Lb m J1! (Kz y.fi):=by show List.map _ (List.map _ _)=_;rw[AL];rfl);(have vj:K63F.VP (K63F.G_ (K63F.LI m (Hl y.fi) cf (λh=>Classical.choose (kD h)) (Kz y.fi))):=by rw[eL];have XZ:∀k∈(List.range m).filter (λh=>Nv!),k<m:=λk hk=>BH.mp (CW! hk);(have nn:∀q∈W.qs,GI!:=b? (by obtain⟨j,hj⟩:=BW.mp hq;exact(x.wg.BP (q:=q.1) (G:=q.2) hj).1.m0));refine Jjq (mx:=λk=>(SA W.qs k).toNat) (m:=m) (List.nodup_range.filter _) ?_ XZ (It!) (λk hk w hw=>?_) ?_;(.have:=AW (λh=>Nv!) (List.range m);rw[CM] at this;lia);(.obtain⟨r,hr,er,_,_,e4⟩:=Pk pf (XZ k hk);have:=(iv.f1 r hr).so;rw[er,<-e4] at this;exact this);(.obtain⟨r,hr,er,_,_,e4⟩:=Pk pf (XZ k hk);obtain⟨⟨q,G⟩,hi⟩:=KX! W.qs k (EJ! (XZ k hk));rw[e4] at hw;have h1:=(iv.f1 r hr).nw k q G hi er w hw;(have h2:SA W.qs k=G.AO:=by unfold SA;rw[hi];rfl);have h3:=(x.wg.BP hi).1.m0;show w.1.2<p? (SA W.qs k).toNat;rw[h2];lia);.have h1:=Iy nn;have h2:=x.md;rw[iP] at h1;lia);refine⟨m,Hl y.fi,cf,λh=>Classical.choose (kD h),Kz y.fi,B!,⟨AT ((y.fi.map v?).map IT!) (Jfr pf),It!,It!,λk hk=>((Classical.choose_spec (kD k)) hk).1⟩,λk hk=>((Classical.choose_spec (kD k)) hk).2,vj,Ip! 900,λe he z=>?_,λv xf as ts L H2 fo W2 cn XE th at2 JU _=>?_⟩;(.show x! y.I.fs.map=_;rw[RX.fs,AL,AL,AL];refine BQ Ew!;have:=OT.mp (pf.mem_iff.mp (AF.mpr HG!));show CK! r.1=Sum.inl (p? r.1.toNat);rw[BK this.1]);(.show Ct y.I.fs _=_;obtain⟨r,_,_,ef,e3,_⟩:=Pk pf hk;rw[RX.fs,Wq (k:=λr:Int×Int×HS=>r.1) (f:=Il! AA!),ef,e3];rfl);(.show Ct (putK y.I.cs (w! s) (N! tick)) _=_;obtain⟨r,_,_,ef,e3⟩:=jq k hk;rw[ec,Wq (k:=λr:Int×Int=>r.1) (f:=Il! r.2),ef,<-e3];rfl);(.obtain⟨y0,cq,q1,q2⟩:=x.ff e he;(have:y0=y:=by rw[ey] at cq;rcases ZI cq with h|h;(.exact absurd (I? q1 z) (Vv ey x.oJ y0 EF!));.rcases ZM h with h|h;(.exact h);.exact absurd (I? q1 z) (Vv ey x.oJ y0 Fu!));rw[this] at q2;lia);.have fr:=og JU;rw[eL] at fo;(have cn:iY H2 W.c g ts L m:=n? iP cn);have fe:A1! { W with c:=AJ!,ls:=Bf!,EY:=Rs,IP:=W.IP++[(y.n,xf)] }:=W2;refine(λ(A:_/\_)=>k (y! v) { W with c:=AJ!,ls:=Bf!,EY:=Rs,IP:=W.IP++[(y.n,xf)] } _ (X!++Ou m g ts) (i1++LV!::i2) H2 (My! (T8 es Jch) _ (G! ⟨rfl,rfl,rfl,G! ⟨n? gO OM,ts,xf,rfl,rfl,cf,λh hh=>(let⟨r,hr,er,_,ev⟩:=jq h hh;⟨r,hr,er,ev⟩),λt=>fo.mem t⟩⟩)) (by exact MT!) A.1 A.2 rfl) (M6! (Ou m g ts) (λt=>D t\/GS m J1! (Kz y.fi) t) LV! h! (x.wg.more sF) (λ_ h=>d?) (Mm! (λi:Nat=>LL.lt g I! (ts.filter KI!)) H2 Ej! cn.OO) (E! Jdl (Jpm fl fl OM (FL! gO OM))) Jch q? (λ_ _ _=>Sw) (λ_ _=>Sx) (λs0 g0 ts0 hz=>?_) (oP.gN (λu=>Ez! Bz Sw) (λu=>Ez! Bm Sx) (LG.refl _ _)) Ey! ?_ (λh=>B!));(.obtain⟨j,_,ez⟩:=AG!;rw[<-ez];trivial);(.obtain⟨j,hj,ez⟩:=AG!;injection ez with q1 q2 q3;have hj:=BH.mp hj;refine⟨B!,B!,_,sF,λt h=>IN,λt=>?_⟩;rw[<-q3,<-q2,AD,fo.mem];constructor;(.rintro⟨h1,h2⟩;exact A! h1 (BR h2));.rintro⟨h1,h2⟩;exact A! h1 (decide_eq_true h2));(.rcases ZI he with he|he;(.exact C! he);.rw[ZK he];exact G! (y? OM));.rw[ZE];show W.IP.length+1<=d+1;lia
universe E
def Val(W:EZ)(m:Nat)(H:Hp):FF!
 | .make h=>∃q G,Q?
 | .three w h a b=>∃q G ta tb,Q?/\C3!/\u?/\FJ!/\Fe!/\((w=KB/\By!)\/((w=AO!\/w=AP!)/\LR!))
 | .free h b=>∃q G tb,Q?/\u?/\By!
 | .send h g b=>∃q G tb,Q?/\0<=g/\g<m/\u?/\By!
 | .clean h=>∃q G,Q?
 | .ask h=>∃q G,Q?
 | .deliver n=>∃l1 l2 t,W.ls=l1++(n,t)::l2
def Jp2(W:EZ)(al:F!)(ls:r?)(W':EZ)(al':F!):LL->Prop
 | .w l=>Joi W l ls W' al'
 | .lt _ _ _=>(∃j G G',DG! j/\UV/\Tk)/\LN!
 | _=>BH!/\Dr!
def qA(K:W.Frag)(W:EZ)(al:F!)(H:Hp)(v:V)(W':EZ)(al':F!)(H':Hp):FF!
 | .make h=>al'=al/\∃G t a,EL! (IZ Do!)/\v=CU!/\Cn! t (tv o?)
 | .three w h a b=>al'=al/\∃G ta tb,C3!/\u?/\FJ!/\Fe!/\((w=KB/\EL! KF!)\/(w=AO!/\LR!/\EL! KG!)\/(w=AP!/\EL! (Na G tb)))
 | .free h b=>al'=al/\∃G tb,u?/\By!/\EL! (Nf G tb)
 | .send h g b=>∃G G' tb,u?/\Cj!/\UV/\Tk/\H9!=BO! al++[(g,tb)]
 | .clean h=>∃G G',Cj!/\UV/\Tk/\LN!
 | .ask _=>BH!/\Dr!
 | .deliver n=>∃l1 l2 t a z b,W.ls=l1++(n,t)::l2/\GL!/\C8!/\KC K H W.EY (n,t) z/\C7!/\Jp2 W al (EM Bc!) W' al' z
universe S
def uV(m A B A' B':Nat):FF!
 | .ask _=>A'<=A+5*m/\B+5*m<=B'
 | .deliver _=>C5!/\C4!
 | .send _ _ _=>KF/\B+5<=B'
 | _=>KF/\AR!
def Ef3(m:Nat)(W W':EZ)(a b al':F!)(ys HG:K!):LL->Prop
 | .w l=>HG=ys/\(CP!->al'=X!/\∃G G',DG! l.g.toNat/\(At! (ga G'.AH.map))/\UV/\Tk)
 | .lt _ g ts=>HG=ys/\∃G,QG W W' g.toNat G (Oe G ts)/\∃bs:r?,(∀l∈bs,CP!)/\al'=X!++bs.map .w
 | .ask s g n u=>HG=ys/\(∃q G S,BJ! (W.qs[g.toNat]?)/\Jk G S/\al'=X!++[.J' g s n u G.BC S])/\BH!
 | .J' s g n u tick S=>Joj m W W' a b al' ys HG s g n u tick S/\BH!
def uU(m:Nat)(W:EZ)(al:F!)(v:V)(W':EZ)(al':F!)(ys HG:K!):FF!
 | .ask h=>∃io I,v=N! (PP)/\al'=HX!/\HG=ys++[MV! PP]
 | .deliver _=>∃a z b,GL!/\Ef3 m W W' a b al' ys HG z
 | _=>HG=ys
theorem Jl5(x:J!)(hn:W?)(hB:P?)(hd:d<900)(v:Mj!)(cs:uV m A B A' B' dd)(k:h?)(hR:∀v W' al' HG H',qA K W al H v W' al' H' dd->uU m W al v W' al' ys HG dd->J7!)(kE:(∃h g b,dd=.send h g b)->E (y! NW) none H):xz dd:=by cases dd with | make h=>obtain⟨q,G,i⟩:=v;exact Jjv x hn hB i cs.1 cs.2 k λ_ _ _ _ c e=>Nq! ⟨rfl,_,_,_,c,rfl,e⟩ | three w h a b =>obtain⟨q,G,ta,tb,i,ea,eb,ha,hh,v⟩:=v;rcases v with⟨rfl,hb⟩|⟨rfl|rfl,hb⟩;(.exact HW! Jjw i ea eb ha hb hh (Iu! ⟨rfl,_,_,_,ea,eb,ha,hh,C! (y? c)⟩));(.exact HW! Jjy i ea eb ha hb hh (Iu! ⟨rfl,_,_,_,ea,eb,ha,hh,ca ⟨rfl,hb,c⟩⟩));.exact HW! Jjt i ea eb ha hb hh (Iu! ⟨rfl,_,_,_,ea,eb,ha,hh,z! (y? c)⟩) | free h b=>obtain⟨q,G,tb,i,eb,hb⟩:=v;exact Jjx x hn hB i eb hb cs.1 cs.2 k (Iu! ⟨rfl,_,_,eb,hb,c⟩) | send h g b=>obtain⟨q,G,tb,i,g0,g1,eb,hb⟩:=v;exact Jju x hn hB i g0 g1 eb hb cs.1 cs.2 k (λ_ _ _ _ _ c e l m=>Nq! ⟨_,_,_,eb,c,e,l,m⟩) (kE Gj!) | clean h=>obtain⟨q,G,i⟩:=v;exact Jhc x hn hB i cs.1 cs.2 k λ_ _ _ _ _ c e l m=>Nq! ⟨_,_,c,e,l,m⟩ | ask h=>obtain⟨q,G,i⟩:=v;exact Jhe x hn hB hd i cs.1 cs.2 k λ_ _ _ _ _ e1 e2 e3=>Hw! (A! e1 e2) e3 | deliver BP =>obtain⟨l1,l2,t,el⟩:=v;have lw:=x.lw;rw[el] at lw;obtain⟨a,z,b,es,p1,p2,p3⟩:=Je1 lw;cases z with | w l=>exact Jd9 x hn hB el es p1 p2 p3 cs.1 cs.2 k λ_ _ _ _ e e3=>Hw! ⟨_,_,_,_,_,_,el,es,p1,p2,p3,e⟩ ⟨a,_,b,es,rfl,e3⟩ | ask s g n' u=>exact HW! Jhd hd el es p1 p2 p3 (λ_ _ _ _ e1 e2 e3=>Hw! ⟨_,_,_,_,_,_,el,es,p1,p2,p3,e1,e2⟩ ⟨a,_,b,es,rfl,e3,e1⟩) | J' s g n' u tk S=>exact HW! Jea hd el es p1 p2 p3 (λ_ _ _ _ _ e1 e2 e3=>Hw! ⟨_,_,_,_,_,_,el,es,p1,p2,p3,e1,e2⟩ ⟨a,_,b,es,e3,e1⟩) | lt s g ts=>exact Jl4 x hn hB el es p1 p2 p3 cs.1 cs.2 k λ_ _ _ _ j G G1 c h l e e3=>Hw! ⟨_,_,_,_,_,_,el,es,p1,p2,p3,⟨_,_,_,c,h,l⟩,e⟩ ⟨a,_,b,es,rfl,G,e3.1▸e3.2.1▸c,e3.2.2⟩
theorem Jeo(W:EZ)(n:Str)(h:([Co!,KB,AO!,AP!,Cp!,En!,Cs!,Y?,CL!]:Ax!).contains n=true):(Fi W).lookup n=none:=by simp only[M',List.contains_nil,Bool.or_false,Bool.or_eq_true,MZ] at h;rcases h with h|h|h|h|h|h|h|h|h<;>(rw[h];exact GT!)
theorem Val.keep(v:Mj!)(k:Ch):Val W m H' dd:=by cases dd with | make h=>exact v | three w h a b =>obtain⟨q,G,ta,tb,i,ea,eb,r⟩:=v;exact⟨q,G,ta,tb,i,Bh! ea,Bh! eb,r⟩ | free h b=>obtain⟨q,G,tb,i,eb,r⟩:=v;exact⟨q,G,tb,i,Bh! eb,r⟩ | send h g b=>obtain⟨q,G,tb,i,g0,g1,eb,r⟩:=v;exact⟨q,G,tb,i,g0,g1,Bh! eb,r⟩ | clean h=>exact v | ask h=>exact v | deliver n=>exact v
theorem WI.upn(x:J!)(cA:KF)(cB:AR!):NN! H (n+1) (d+1) A' B' al:=by have a1:=x.md;have a2:=x.ez;have a3:=x.fz;have a4:=x.iz;exact{ x with wg:=x.wg.up,md:=B!,ez:=B!,fz:=B!,iz:=B!,pb:=A! (AV cA x.pb.1) (AV x.pb.2 cB) }
universe E
universe S
theorem aE:q! [wP,BR!,"_law_number"] [wP,BR!] pY:={}
inductive Je3(vs:L!)(H:Hp)(Q:VK)(E:XK):Prop
 | mk (c:Int) (b:Bool) (_:vs=[O! c,.bl b]) (_:∀v:Int,Q (N! v) H)
theorem Jiy(F:j! "_law_spun" "_law_spun" pY):Eh! [wP,BR!] Je3:=by refine AI! aE;obtain⟨c,b,rfl,k⟩:=h;refine K?;refine m? (Ad (Bl! Hg V! (k? B?)) (F1! 2 aE.nd (Sc C0 (Sc F6 (Dd! 0))) (v6 2 aE.nd (Sc C0 (Sc F6 (Sc C0 (Bf F6 (pv 2) (Bf Fc (pv 2) Ag)))))) (k? (Bf Fc (pv 2) (Sc F6 (Dd! 0))))));refine HI! ?_;cases b with | true=>exact Cc (Ak! (k _)) | false =>refine Bm!;refine⟨_,rfl,_,_,rfl,rfl,Go 2147483647,_,_,rfl,rfl,FB P! P!,_,_,rfl,rfl,Go 2147483647,?_⟩;have n0:=CV (c % 2147483647*48271) (Kv! 2147483647);have n1:=CJ (c % 2147483647*48271) (Go 2147483647);generalize c % 2147483647*48271 % 2147483647=z at n0 n1;refine⟨_,rfl,_,rfl,_,_,rfl,rfl,_,_,rfl,rfl,C! DN!,_,_,rfl,rfl,Go 2147483629,_,_,rfl,rfl,FB P! P!,_,_,rfl,rfl,Go 2147483587,?_⟩;exact⟨_,rfl,_,rfl,_,_,rfl,rfl,Go 1000003,_,_,rfl,rfl,FB P! P!,_,_,rfl,rfl,k _⟩
theorem Uc:PyData.eqv (OL t) (OL u)=T! (t=u):=by obtain⟨a,b⟩:=t;obtain⟨c,d⟩:=u;unfold OL;simp only[PyData.eqv,PyData.eqvAll,Prod.mk.injEq];by_cases h1:a=c<;>by_cases h2:b=d<;>simp[h1,h2,PyData.eqv]
theorem cI:q! [BS!,CC!,"_law_thing","_law_out",Hp!] [BS!,CC!] Me:={}
inductive R8(vs:L!)(H:Hp)(Q:VK)(E:XK):Prop
 | mk (y2 a:Addr) (bs:L!) (os:k! (T2×Int×M!)) (ta:T2) (_:vs=[g! y2,g! a]) (_:AV! y2 bs) (_:j? (PY H) bs os) (_:C3!) (_:ta∈x! os.map) (_:∀(hd:Addr)(cs:SC)(o:Int)(hl:M!),(ta,o,hl)∈os->IU! hd cs.map V.ref->AZ H cs hl->Q (i! hd) H)
theorem Jag(F:j! "_law_holding" "_law_holding" Me):Eh! [BS!,CC!] R8:=by
 refine F.ok cI (Hm!) (λEB A outer s H vs Q E hr h=>?_);.obtain⟨y2,a,bs,os,ta,rfl,_⟩:=h;rfl
 .obtain⟨y2,a,bs,os,ta,rfl,e2,rows,ea,mem,k⟩:=h;refine m? (Ad (Ei PassesOwn.never rfl (Ir B?) (Iu rfl (By (CB! 2 cI.nd) (D3! (CB! 3 cI.nd) (CB! 4 cI.nd)))) (Af (Bh (EG! (BX! Vs) Y! V!) (k? H?) A3))) (Af (Ay (Cf Ae))));refine Ki! y2 (S? e2) ?_;refine Kt (K:=K) (a:=y2) (xs:=bs) (λj σ H2=>H2=H/\(∃u1 u2 u3,σ=[T? y2,I8!,u1,u2,u3])/\ta∉x! (os.take j).map) ⟨rfl,Gj!,Af!⟩ (λj σ H2 _ h=>E! h.1 (S? e2)) ?_ (λσ H2 h=>?_);(.rintro j v σ H2 hj ⟨rfl,⟨u1,u2,u3,rfl⟩,no⟩;obtain⟨r,GK⟩:=Kc! os j rows hj;obtain⟨a',t,hd,cs,rfl,e3,e4,e5,e6⟩:=Az rows j v r hj GK;refine⟨a',_,rfl,S? e3,rfl,_,_,rfl,_,_,rfl,_,_,rfl,rfl,?_⟩;refine⟨_,rfl,_,rfl,OL r.1,OL ta,.one (Nt e4),.one (Nt ea),Ub r.1,Ub ta,_,rfl,?_⟩;rw[Uc];refine Wo (λc=>?_) (λc=>?_);(.have c:r.1=ta:=BR c;exact Ak! (k hd cs AA! r.2.2 (FL! c (ZP GK)) e5 e6));·(have c:¬r.1=ta:=by simpa using c);refine⟨rfl,Gj!,?_⟩;rw[DJ,GK,ZF,LW];rintro(z|z);(.exact no z);·(have:ta=r.1:=by simpa using z);exact c this.symm);.exfalso;obtain⟨_,_,no⟩:=h;rw[z? rows,BS] at no;exact no mem
example:q! [AQ!,J2!,wP,"_law_asks",BR!,"_law_kind","_law_h",Hq!,BS!,Hr!,J3!,"_law_b","_law_near",CC!,Hp!] EB! Xu:={}
universe E
def iu(n:Int)(kind:Str)(s g:Int)(th:T2)(x:Int):PyData:=Ah! (LA! (Ah! [OL th,O! x]))
def fm(n:Int)(kind:Str)(s g k u:Int):PyData:=Ah! (LA! (Ah! [O! k,O! u]))
def iA(n s g:Int)(ts:M!):PyData:=Ah! [O! n,A? "let",O! s,Ee!,Ah! (ts.map OL)]
theorem Jjd{K:W.Frag}{H:Hp}{t:Addr}{n:Int}{kind:Str}{s g:Int}{tb:T2}{x:Int}(h:JO H t n kind s g tb x):KD K H Fq! (iu n kind s g tb x):=by obtain⟨a,b,e1,e2,e3⟩:=h;exact MN! (re BT! (Lq! (A? _) BT! (K6! e2 (Lq! (Nt e3) BT! d!))))
theorem Jc1{K:W.Frag}{H:Hp}{t:Addr}{n:Int}{kind:Str}{s g k u:Int}(h:Lx! n kind k):KD K H Fq! (fm n kind s g k u):=by obtain⟨a,e1,e2⟩:=h;exact MN! (re BT! (Lq! (A? _) BT! (K6! e2 (Nu! BT!))))
theorem Jlp{K:W.Frag}{H:Hp}{t:Addr}{n s g:Int}{ts:M!}(h:SS H t n s g ts):KD K H Fq! (iA n s g ts):=by obtain⟨a,as,e1,e2,th⟩:=h;exact MN! (re BT! (Lq! (A? _) BT! (K6! e2 (J8 th))))
theorem Jje{n:Int}{kind:Str}{s g:Int}{th:T2}{x:Int}(hk:Ev!\/kind=Uf\/Ij!\/Ii!):(iu n kind s g th x).canLay0=true/\(iu n kind s g th x).depth<=20:=by
 have t1:(OL th).canLay0=true:=(Ub th).1;refine DK!;.rcases hk with rfl|rfl|rfl|rfl;all_goals unfold iu;simp only[PyData.canLay0,PyData.canLayAll0,t1,Bool.and_true,Bool.true_and];decide +kernel
 .unfold iu;simp[PyData.depth,PyData.depthAll,OL]
theorem Jc2{n:Int}{kind:Str}{s g k u:Int}(hk:kind=Y?\/kind=ww):(fm n kind s g k u).canLay0=true/\(fm n kind s g k u).depth<=20:=by
 refine DK!;.rcases hk with rfl|rfl;all_goals unfold fm;simp only[PyData.canLay0,PyData.canLayAll0,Bool.and_true,Bool.true_and];decide +kernel
 .unfold fm;simp[PyData.depth,PyData.depthAll]
theorem Jeu(ts:M!):LX! (ts.map OL) 20:=λd hd=>by obtain⟨t,_,rfl⟩:=ZN hd;exact A! (Ha t).1 (AV (Ha t).2 (P!))
theorem Jhy(ts:M!):LX! (ts.map OL) 5:=λd hd=>by obtain⟨t,_,rfl⟩:=ZN hd;exact A! (Ha t).1 (by unfold OL;simp[PyData.depth,PyData.depthAll])
theorem Jlq{n s g:Int}{ts:M!}:(iA n s g ts).canLay0=true/\(iA n s g ts).depth<=20:=by
 obtain⟨h1,h2⟩:=Jn0 (Jhy ts);refine DK!;.unfold iA;simp only[PyData.canLay0,PyData.canLayAll0,h1,Bool.and_true,Bool.true_and];decide +kernel
 .unfold iA;simp only[PyData.depth,PyData.depthAll];lia
theorem K'.kd{m:Nat}{l:LT}(h:K' m l):Im!\/l.kind=Uf\/CP!\/Ex!:=by
 rcases h.2.2.2 with⟨h,_⟩|⟨h,_⟩|⟨h,_⟩|⟨h,_⟩;.exact d?
 .exact DM!
 .exact z! EF!
 .exact z! Fu!
def xh(n:Int):LL->PyData
 | .w l=>iu n l.kind l.s l.g l.th l.x
 | .ask s g k u=>fm n Y? s g k u
 | .J' s g k u _ _=>fm n ww s g k u
 | .lt s g ts=>iA n s g ts
def Ys:s?->F!->List PyData
 | n::ns,l::ls=>xh n l::Ys ns ls
 | _,_=>[]
theorem Jls{K:W.Frag}{H:Hp}{EY:Z!}{y:Hj!}{z:LL}(h:K8!):KD K H (y! y.2) (xh y.1 z):=by cases z with | w l=>exact Jjd h | ask s g k u=>exact Jc1 h | J' s g k u t S=>exact Jc1 h.1 | lt s g ts=>exact Jlp h
theorem Qx{K:W.Frag}{H:Hp}{EY:Z!}{ys:Z!}{ls:F!}(p:B7! H EY ys ls):j? (KD K H) (ys.map λy=>C? y.2) (Ys (ys.map v?) ls):=by induction p with | nil=>exact d! | cons h _ ih=>exact re (Jls h) ih
theorem Mr{m:Nat}:∀{ns:s?} {ls:F!},(∀l∈EM ls,K' m l)->LX! (Ys ns ls) 20
 | [],_,_,d,h=>FV!
 | _::_,[],_,d,h=>FV!
 | n::ns,l::ls,k,d,h=>by rcases ZM h with rfl|h;(.cases l with | w l=>exact Jje (k l wE).kd | ask s g k u=>exact Jc2 (v! rfl) | J' s g k u t S=>exact Jc2 (M? rfl) | lt s g ts=>exact Jlq);.refine Mr (a! (k z ?_)) d h;cases l with | w l=>exact ZD _ hz | ask s g k u=>exact hz | J' s g k u t S=>exact hz | lt s g ts=>exact hz
theorem Su{R:Hj!->LL->Prop}{ys:Z!}{ls:F!}(p:Ay! ys ls)(ne:ys≠[]):(Ys (ys.map v?) ls).isEmpty=false:=by cases p with | nil=>exact absurd rfl ne | cons _ _=>rfl
theorem Sv{ls:F!}:(Ys (([]:Z!).map v?) ls).isEmpty=true:=by cases ls<;>rfl
theorem KC.A_{K:W.Frag}{H:Hp}{EY:Z!}{y:Hj!}{z:LL}(h:K8!):∃xs,AV! y.2 (O! y.1::xs):=by cases z with | w l=>obtain⟨a,b,e,_⟩:=h;exact CX! | ask s g k u=>obtain⟨a,e,_⟩:=h;exact CX! | J' s g k u t S=>obtain⟨⟨a,e,_⟩,_⟩:=h;exact CX! | lt s g ts=>obtain⟨a,as,e,_⟩:=h;exact CX!
universe S
theorem OB:q! [AQ!,J2!,wP,"_law_asks",BR!,"_law_kind","_law_h",KZ!,BS!,Hr!,J3!,"_law_b","_law_near",CC!,Hp!] EB! Xu:={}
inductive Z1(CW C CP CI:Addr)(K:W.Frag)(vs:L!)(H:Hp)(Q:VK)(E:XK):Prop
 | mk (p:Addr) (W:EZ) (D:e?) (m n:Nat) (al:F!) (ys:K!) (c:Int) (ak fr:Bool) (_:vs=[l?,O! X?,O! c,.bl ak,.bl fr]) (_:J!) (_:W?) (_:∀(x:Addr)(H':Hp)(dd:Dd),f?->Cn! x (o5 dd)->Val W m H' dd->(∀h,dd=.ask h->ak=true)->BW! x)
def Jmn(K:W.Frag):TT:=Fu (NZ VY (G0! 0) (Ca 1))
theorem Jeh:∀{zs:k! (Addr×T2)},(∀z∈zs,Hi! z.1 z.2)->Paired (KD K H) (zs.map λz=>C? z.1) (zs.map λz=>OL z.2)
 | [],_=>d!
 | z::zs,h=>re (Nt (h z wE)) (Jeh MI!)
theorem Jml(zs:k! (Addr×T2)):LX! (zs.map (λz=>OL z.2)) 20:=λd hd=>by obtain⟨t,_,rfl⟩:=ZN hd;exact A! (Ha t.2).1 (AV (Ha t.2).2 (P!))
theorem xw(h:l≠[]):(l.map f).isEmpty=false:=by cases l with | nil=>exact absurd rfl h | cons a b=>rfl
theorem Jnu(a0 a1 a2 a3 a4 v kd h c2 y1 y2 y3:V):(((((((L2.start [AQ!,J2!,wP,"_law_asks",BR!,"_law_kind","_law_h",KZ!,BS!,Hr!,J3!,"_law_b","_law_near",CC!,Hp!] [a0,a1,a2,a3,a4]).set 2 (V? v)).set 5 (V? kd)).set 6 (V? h)).set 2 (V? c2)).set 7 (V? y1)).set 8 (V? y2)).set 9 (some y3)=[D? a0,D? a1,D? c2,D? a3,D? a4,D? kd,some h,D? y1,D? y2,D? y3,none,none,none,none,none]:=rfl
set_option maxHeartbeats 20000000 in
theorem Ji7(F:E' K "_law_deed" "_law_deed" Xu f fd)(T:Txt K mg C NHd NNr MI NW)(TW:Fh K mg CW NH NI)(MP:QQ K mg "_law_spun" pY ["_law_cell_here","_law_free"] fP dP)(MH:QQ K mg "_law_holding" Me ["_law_things","_law_a"] fH dH)(MS:DN K CW "state" "World.state" Ka ["self","h"] fS dS)(uS:FN P w K mg base 3 fS dS ["self","h"] (Eu CW C CP NH K))(ML:DN K CW "letters" "World.letters" Fo ["self"] fL dL)(GL:DK P w K mg base 2 fL dL ["self"] (Fn CW C CP)) :
 DK P w K mg base 4 f fd ["_law_world","_law_many","_law_cell_here","_law_asks","_law_free"] (Z1 CW C CP CI K):=by
 have GP:DK P w K mg base 1 fP dP ["_law_cell_here","_law_free"] Je3:=Jiy MP.fn
 have GH:DK P w K mg base 1 fH dH ["_law_things","_law_a"] R8:=Jag MH.fn
 have GS:DK P w K mg base 3 fS dS ["self","h"] (λvs H Q _=>Eu CW C CP NH K vs H Q E0):=FX.ET.no uS
 refine F.JJ OB λvs H Q E h=>?_
 obtain⟨p,W,D,m,n,ls,ys,c,ak,fr,rfl,S,hn,k⟩:=h
 refine⟨rfl,λEB A outer s hr=>?_⟩
 have IB:DP 1 _:=hr.mono (by decide)
 have LP:DP 2 _:=hr.mono (by decide)
 have WZ:DP 3 _:=hr.mono (by decide)
 refine⟨_,Ad (Av (i:=2) OB.nd rfl (Or.inl rfl) (Ce GP IB (by rfl) MP.mg MP.fn.kp MP.bd .nil Ba (Aa (pv 2) (Aa (pv 4) Ae))))
  (Ad (Av (i:=5) OB.nd rfl (Or.inl rfl) (Bf C0 (pv 2) Ag))
  (Ad (Av (i:=6) OB.nd rfl (Or.inr rfl) (Bf C0 (Bf Gd (pv 2) Ag) (pv 1)))
  (Ad (Av (i:=2) OB.nd rfl (Or.inl rfl) (Bf Gd (Bf Gd (pv 2) Ag) (pv 1)))
  (Ad (Jfn (As (pl:=_) (pv 0) TW.cl MS.mt GS WZ MS.bd .nil Ba (Aa (pv 6) Ae)) (Iu rfl (By (Bk (i:=7) OB.nd rfl (Or.inl rfl)) (By (Bk (i:=8) OB.nd rfl (Or.inl rfl)) (By (Bk (i:=9) OB.nd rfl (Or.inl rfl)) Ga)))))
  (Ad (Av (i:=10) OB.nd rfl (Or.inl rfl) (C3 (pl:=_) (pv 0) TW.cl ML.mt GL LP ML.bd .nil Ba))
  (Ad (Bh (YX (Jt (Ax Sm (pv 5) Ag (A5 _)) (Ki (Ax (Nz (Jm hr)) (pv 10) (Ee Ae) (A5 _))))) (Af (Ay (Cf (Aa A7 (Aa (Aw Ar (Aw Dg (pv 10) (Bf C0 (pv 2) (Bi Bq (by rfl) T.len CC (Aa (pv 10) Ae)))) Ag) Ae))))) A3)
  (Ad (Bh (YX (Jt (Ax Cg (pv 5) Ag (A5 _)) (Jt (Hg (pv 3)) (Ki (Ax Cg (Bf C0 (pv 2) Ag) Ag (A5 _)))))) (Af (Ay (Cf (Aa A7 (Aa (pv 6) Ae))))) A3)
  (Ad (Bh (Ax Sm (pv 5) Ag (A5 _)) (Af (Ay (Cf (Aa A7 (Aa (pv 6) Ae))))) A3)
  (Ad (Bh (YX (X0 (Ax Sl (pv 5) Ag (A5 _)) (Qa (Ax (Vs (Jm hr)) (pv 7) (Cf Ae) (A5 _))))) (Af (Ay (Cf (Aa A7 (Aa (pv 6) Ae))))) A3)
  (Ad (Av (i:=11) OB.nd rfl (Or.inl rfl) (Aw Ar (pv 7) (Bf C0 (pv 2) (Bi Bq (by rfl) T.len CC (Aa (pv 7) Ae)))))
  (Ad (Av (i:=2) OB.nd rfl (Or.inl rfl) (Bf Gd (pv 2) (Bi Bq (by rfl) T.len CC (Aa (pv 7) Ae))))
  (Ad (Kk (i:=12) (tt:=Jmn K) (te:=Ca 0) (caps:=[("_law_h",6)]) OB.nd rfl rfl rfl rfl (Ir (pv 7)) rfl ZV rfl ZV rfl ⟨rfl,trivial⟩ (λy h=>NK ⟨_,rfl⟩ h) ⟨⟨rfl,rfl,rfl,rfl⟩,trivial⟩ ZV (λ_ _ _ _ _=>En (Ax Cg (Aw Ar (pv 0) Ag) (pv 1) (A5 _))) (λ_ _ _ _ _=>pv 0))
  (Ad (Bh (Ax Sl (pv 5) Ag (A5 _)) (Af (Ay (Cf (Aa A7 (Aa (pv 6) (Aa (Bf C0 (pv 2) (pv 1)) (Aa (pv 11) Ae))))))) A3)
  (Ad (Bh (YX (X0 (Ax Sm (pv 5) Ag (A5 _)) (Qa (Ax (Vs (Jm hr)) (pv 12) (Ee Ae) (A5 _))))) (Af (Ay (Cf (Aa A7 (Aa (pv 6) (Aa (pv 11) Ae)))))) A3)
  (Ad (Av (i:=13) OB.nd rfl (Or.inl rfl) (Aw Dg (pv 12) (Bf C0 (pv 2) (Bi Bq (by rfl) T.len CC (Aa (pv 12) Ae)))))
  (Ad (Av (i:=14) OB.nd rfl (Or.inl rfl) (Ce GH IB (by rfl) MH.mg MH.fn.kp MH.bd .nil Ba (Aa (pv 8) (Aa (pv 13) Ae))))
  (Ad (Bh (YX (X0 (Ax Sl (pv 5) Ag (A5 _)) (Qa (Ax (Vs (Jm hr)) (pv 14) (Cf Ae) (A5 _))))) (Af (Ay (Cf (Aa A7 (Aa (pv 6) (Aa (pv 13) (Aa (pv 11) Ae))))))) A3)
  (Af (Ay (Cf (Aa (Aw Dg (Ee (Aa A7 (Aa A7 Ae))) (Bf Vr (pv 5) Ag)) (Aa (pv 6) (Aa (pv 13) (Aa (Aw Ar (pv 14) (Bf C0 (Bf Gd (pv 2) (Bi Bq (by rfl) T.len CC (Aa (pv 12) Ae))) (Bi Bq (by rfl) T.len CC (Aa (pv 14) Ae)))) Ae)))))))))))))))))))))))),?_⟩
 have UE:(0:Int)<(m:Int):=by have:=S.m1;lia
 have ck:=S.wg.wl.ck
 refine⟨_,rfl,_,rfl,c,fr,rfl,λv=>?_⟩
 refine⟨_,rfl,_,_,rfl,rfl,(show(0:Int)<17 by decide),?_⟩
 refine⟨_,rfl,_,_,rfl,rfl,⟨by decide,by decide⟩,_,rfl,_,_,rfl,rfl,UE,?_⟩
 refine⟨_,rfl,_,_,rfl,rfl,⟨by decide,by decide⟩,_,rfl,_,_,rfl,rfl,⟨UE,by lia⟩,?_⟩
 have k0:=CV v (show(17:Int)≠0 by decide)
 have k1:=CJ v (show(0:Int)<17 by decide)
 have h0:=CV (v / 17) (show(m:Int)≠0 by lia)
 have h1:=CJ (v / 17) UE
 generalize v / 17 % (m:Int)=h at h0 h1
 generalize v / 17 / (m:Int)=c2
 generalize v % 17=kd at k0 k1
 obtain⟨⟨q,G⟩,hq⟩:=An (xs:=W.qs) (j:=h.toNat) (by rw[S.wg.wl.len];lia)
 have i:KA W h q G:=⟨h0,hq⟩
 obtain⟨sd,nu⟩:=S.wg.wl.sd _ q G hq
 have hN:((h.toNat:Nat):Int)=h:=BK h0
 rw[hN] at nu
 have gd:=S.wg.wl.good (by lia) hq
 obtain⟨hs,os,rs,JI⟩:=gd.told
 obtain⟨dx,hp⟩:=S.wa.ob
 refine⟨_,rfl,p,dx,_,rfl,hp,C4 W ZV,_,rfl,p,h,W,rfl,S.wa,.inr ⟨q,G,i,q,G,hs,os,rs,rfl,i.at S.wa,gd.h2,gd.o2,gd.r2,JI.pm,JI.pw,JI.PL,JI.pr,JI.wr,λx H1 s1 st=>?_⟩⟩
 obtain⟨y1,y2,y3,as,bs,ds,ex,e1,t1,e2,r2,⟨ob,e3,pl⟩,r3⟩:=st
 refine⟨x,_,rfl,CS.of ex,rfl,_,_,rfl,_,_,rfl,_,_,rfl,rfl,?_⟩
 obtain⟨FJ,ID⟩:=(S.wa.same s1).ob
 refine⟨_,rfl,p,FJ,_,rfl,ID,C4 W ZV,p,W,rfl,S.wa.same s1,λl H2 hl el s2=>?_⟩
 have cX:=Al s1 s2
 have S2:=S.same cX
 have e1:=s2 _ _ e1
 have t1:=AZ.keep (HC s2) t1
 have e2:=s2 _ _ e2
 have r2:Paired (PY H2) bs os:=Aq (λ_ _ r=>r.keep (HC s2)) r2
 have xm:as.length=hs.length:=Paired.length t1
 have lhs:=JI.pm.length_eq
 have zhd:=gd.h2
 clear ex e3 pl r3 s1 s2 hp ID
 rw[Jnu]
 by_cases o8:10<kd
 .by_cases cd:11<kd/\W.ls≠[]
  .refine⟨_,rfl,_,_,rfl,rfl,_,rfl,?_⟩
   rw[decide_eq_true cd.1]
   refine Cc ⟨_,rfl,AU _,λr GK=>⟨_,_,.BE (DW.of (Ah GK _ _ el)) (Qx (Dp S2.lw (HC (Ah GK)))),.BE (DW.of Ac) .nil,Ju (Mr S.wg.wl.ok),Jv,_,rfl,?_⟩⟩
   rw[F3,Su S2.lw cd.2]
   refine Cc ?_
   have s3:=Ah (o:=.BE []) GK
   generalize upd H2 r (.BE [])=H3 at s3
   have YV:=s3 _ _ el
   have SM:(0:Int)<(((W.ls.map λx=>V.ref x.2).length:Nat):Int):=by
    rw[ZA]
    have:=HH.mpr cd.2
    lia
   have j0:=CV c2 (show(((W.ls.map λx=>V.ref x.2).length:Nat):Int)≠0 by lia)
   have j1:=CJ c2 SM
   obtain⟨⟨BP,t⟩,hy⟩:=An (xs:=W.ls) (j:=(c2 % (((W.ls.map λx=>V.ref x.2).length:Nat):Int)).toNat) (by rw[ZA] at j0 j1 ⊢;lia)
   have c6:QO (W.ls.map λx=>V.ref x.2) (c2 % (((W.ls.map λx=>V.ref x.2).length:Nat):Int))=some (.ref t):=A8 j0 (by rw[ZH,hy];rfl)
   obtain⟨lt,JL⟩:=An (xs:=ls) (j:=(c2 % (((W.ls.map λx=>V.ref x.2).length:Nat):Int)).toNat) (by rw[<-Paired.length S.lw];exact(ZJ hy).1)
   obtain⟨a1,et⟩:=KC.A_ (Az S2.lw _ _ _ hy JL)
   have et:H2 t=some (.A_ (V.int BP::a1)):=et
   obtain⟨l1,l2,sW⟩:=JS (ZP hy)
   refine⟨_,rfl,_,rfl,_,rfl,l,_,rfl,.inl (DW.of YV),_,_,rfl,rfl,SM,l,_,_,_,rfl,rfl,DW.of YV,c6,t,_,0,_,rfl,rfl,CS.of (s3 _ _ et),A8 (by decide) rfl,(by show 2<=sizeLine;decide),λx hx=>?_⟩
   exact k x _ (.deliver BP) (Al cX (Al s3 (Ah hx))) Ac ⟨l1,l2,t,sW⟩ (λ_ z=>by cases z)
  .have cl:∀{H3:Hp},Bl H2 H3->∀x,H3 x=none->Q (.ref x) (upd H3 x (.A_ [.str "clean",.int h])):=λ{H3} s3 x hx=>k x _ (.clean h) (Al cX (Al s3 (Ah hx))) Ac ⟨q,G,i⟩ (λ_ z=>by cases z)
   have rf:Bl H2 H2:=λb o e=>e
   by_cases tM:11<kd
   .have e0:W.ls=[]:=Classical.byContradiction λz=>cd ⟨tM,z⟩
    refine⟨_,rfl,_,_,rfl,rfl,_,rfl,?_⟩
    rw[decide_eq_true tM]
    refine Cc ⟨_,rfl,AU _,λr GK=>⟨_,_,.BE (DW.of (Ah GK _ _ el)) (Qx (Dp S2.lw (HC (Ah GK)))),.BE (DW.of Ac) .nil,Ju (Mr S.wg.wl.ok),Jv,_,rfl,?_⟩⟩
    rw[F3,e0,Sv]
    refine Bx ?_
    refine⟨_,rfl,rfl,_,rfl,?_⟩
    rw[decide_eq_false (show ¬V.int kd=V.int 11 from λz=>by have:=V.int.inj z;lia)]
    refine Bx (Bx ?_)
    refine⟨_,rfl,_,_,rfl,rfl,_,rfl,?_⟩
    rw[decide_eq_true o8]
    exact Cc ⟨_,rfl,(by show 2<=sizeLine;decide),λx hx=>cl (Ah GK) x hx⟩
   .have j_:kd=11:=by lia
    refine⟨_,rfl,_,_,rfl,rfl,_,rfl,?_⟩
    rw[decide_eq_false tM]
    refine Bx (Bx ?_)
    refine⟨_,rfl,rfl,_,rfl,?_⟩
    rw[decide_eq_true (show V.int kd=V.int 11 by rw[j_])]
    cases ak with
    | false =>
      refine Cc ⟨_,rfl,_,rfl,Bx (Bx ?_)⟩
      refine⟨_,rfl,_,_,rfl,rfl,_,rfl,?_⟩
      rw[decide_eq_true o8]
      exact Cc ⟨_,rfl,(by show 2<=sizeLine;decide),λx hx=>cl rf x hx⟩
    | true =>
      refine Cc ⟨_,rfl,_,rfl,Cc ⟨_,rfl,_,_,rfl,rfl,(show(0:Int)<2 by decide),rfl,_,rfl,?_⟩⟩
      refine Wo (λcc=>?_) (λcc=>?_)
      .exact⟨_,rfl,(by show 2<=sizeLine;decide),λx hx=>k x _ (.ask h) (Al cX (Ah hx)) Ac ⟨q,G,i⟩ λ_ _=>rfl⟩
      .refine⟨_,rfl,_,_,rfl,rfl,_,rfl,?_⟩
       rw[decide_eq_true o8]
       exact Cc ⟨_,rfl,(by show 2<=sizeLine;decide),λx hx=>cl rf x hx⟩
 .have n11:¬11<kd:=by lia
  refine⟨_,rfl,_,_,rfl,rfl,_,rfl,?_⟩
  rw[decide_eq_false n11]
  refine Bx (Bx ?_)
  refine⟨_,rfl,rfl,_,rfl,?_⟩
  rw[decide_eq_false (show ¬V.int kd=V.int 11 from λz=>by have:=V.int.inj z;lia)]
  refine Bx (Bx ?_)
  refine⟨_,rfl,_,_,rfl,rfl,_,rfl,?_⟩
  rw[decide_eq_false o8]
  refine Bx ?_
  have mk:∀{H3:Hp},Bl H2 H3->∀x,H3 x=none->Q (.ref x) (upd H3 x (.A_ [.str "make",.int h])):=λ{H3} s3 x hx=>k x _ (.make h) (Al cX (Al s3 (Ah hx))) Ac ⟨q,G,i⟩ (λ_ z=>by cases z)
  have rf:Bl H2 H2:=λb o e=>e
  by_cases c2':kd<2
  .refine⟨_,rfl,_,_,rfl,rfl,_,rfl,?_⟩
   rw[decide_eq_true c2']
   exact Cc (Cc ⟨_,rfl,(by show 2<=sizeLine;decide),λx hx=>mk rf x hx⟩)
  .refine⟨_,rfl,_,_,rfl,rfl,_,rfl,?_⟩
   rw[decide_eq_false c2']
   refine Bx ⟨_,rfl,AU _,λr GK=>⟨_,_,.one (.tupP (CS.of (Ah GK _ _ e1)) (J8 (AZ.keep (HC (Ah GK)) t1))),.one (.tupP (CS.of Ac) .nil),Hy (Jeu hs),Hy (λ_ h=>by cases h),_,rfl,?_⟩⟩
   have s3:=Ah (o:=.A_ []) GK
   generalize upd H2 r (.A_ [])=H3 at s3
   rw[Za]
   by_cases e0:hs=[]
   .rw[e0]
    exact Cc ⟨_,rfl,(by show 2<=sizeLine;decide),λx hx=>mk s3 x hx⟩
   .have ne:(hs.map OL).isEmpty=false:=by cases hs with
     | nil=>exact absurd rfl e0
     | cons a b=>rfl
    rw[ne]
    refine Bx ?_
    have e1:=s3 _ _ e1
    have t1:=AZ.keep (HC s3) t1
    have e2:=s3 _ _ e2
    have r2:Paired (PY H3) bs os:=Aq (λ_ _ r=>r.keep (HC s3)) r2
    have n_:=Al cX s3
    clear S2 GK el hl
    have ZY:=HH.mpr e0
    have lmap:(as.map V.ref).length=as.length:=ZA ..
    have SM:(0:Int)<(((as.map V.ref).length:Nat):Int):=by rw[lmap];lia
    have j0:=CV c2 (show(((as.map V.ref).length:Nat):Int)≠0 by lia)
    have j1:=CJ c2 SM
    obtain⟨b,hb⟩:=An (xs:=as) (j:=(c2 % (((as.map V.ref).length:Nat):Int)).toNat) (by rw[lmap] at j0 j1 ⊢;lia)
    obtain⟨tb,rG⟩:=An (xs:=hs) (j:=(c2 % (((as.map V.ref).length:Nat):Int)).toNat) (by rw[<-xm];exact(ZJ hb).1)
    have eb:H3 b=some (.A_ (tv tb)):=Az t1 _ _ _ hb rG
    have rm:tb∈G.hand:=JI.pm.mem_iff.mp (ZP rG)
    have c6:QO (as.map V.ref) (c2 % (((as.map V.ref).length:Nat):Int))=some (.ref b):=A8 j0 (by rw[ZH,hb];rfl)
    refine⟨_,rfl,_,rfl,_,rfl,y1,_,rfl,.inr (CS.of e1),_,_,rfl,rfl,SM,y1,_,_,_,rfl,rfl,CS.of e1,c6,?_⟩
    refine⟨_,rfl,_,rfl,y1,_,rfl,.inr (CS.of e1),_,_,rfl,rfl,⟨SM,by rw[lmap];lia⟩,?_⟩
    clear j0 j1 c6 hb rG
    generalize c2 / (((as.map V.ref).length:Nat):Int)=c3
    refine⟨_,rfl,y1,rfl,⟨_,CS.of e1⟩,λnr rR=>?_⟩
    have s4:=Ah (o:=.BE []) rR
    refine Zh (K:=K) (a:=y1) (xs:=as.map V.ref) (tt:=Jmn K) (te:=Ca 0) (caps:=[("_law_h",6)])
     (λj ys Hc=>Bl H3 Hc/\Hc nr=some (.BE ys)/\∃zs:List (Addr×T2),ys=zs.map (λz=>V.ref z.1)/\zs.length<=j/\∀z∈zs,H3 z.1=some (.A_ (tv z.2))/\z.2∈hs/\z.2.1=h)
     ⟨s4,Ac,[],rfl,ZG _,λz hz=>by cases hz⟩ (λj ys Hc _ hc=>⟨CS.of (hc.1 _ _ e1),hc.2.1⟩) ?_ ?_
    .rintro j x' ys Hc N hj ⟨sc,en,zs,rfl,zl,al⟩ bZ
     rw[ZH] at hj
     cases oY:as[j]? with
     | none=>rw[oY] at hj;cases hj
     | some aj =>
       rw[oY] at hj
       cases hj
       have jk:=(ZJ oY).1
       obtain⟨tj,yD⟩:=An (xs:=hs) (j:=j) (by rw[<-xm];exact jk)
       have ej:H3 aj=some (.A_ (tv tj)):=Az t1 _ _ _ oY yD
       refine⟨_,rfl,aj,_,_,_,rfl,rfl,CS.of (sc _ _ ej),rfl,_,rfl,rfl,_,rfl,?_⟩
       refine Wo (λcc=>?_) (λcc=>?_)
       .have cc:V.int tj.1=V.int h:=BR cc
        have cc:=V.int.inj cc
        refine⟨_,rfl,en,Be (by rw[ZA];lia),bZ _ _ ⟨λb o e=>?_,Ac,zs++[(aj,tj)],by rw[ZF];rfl,by rw[ZE,D_];lia,λz hz=>?_⟩⟩
        .rw[Ab (Aj e rR)];exact sc b o e
        .rcases ZI hz with hz|hz
         .exact al z hz
         .rw[ZK hz];exact⟨ej,ZP yD,cc⟩
       .exact bZ _ _ ⟨sc,en,zs,rfl,by lia,al⟩
    .rintro ys H4 ⟨g9,en,zs,rfl,zl,al⟩
     have jH:=Al n_ g9
     have eb:=g9 _ _ eb
     have e2:=g9 _ _ e2
     have r2:Paired (PY H4) bs os:=Aq (λ_ _ r=>r.keep (HC g9)) r2
     have al:∀z∈zs,H4 z.1=some (.A_ (tv z.2))/\z.2∈hs/\z.2.1=h:=λz hz=>⟨g9 _ _ (al z hz).1,(al z hz).2⟩
     have zl:zs.length<=64:=by rw[lmap] at zl;lia
     clear s4 g9 t1 e1 rR
     have fr:∀{H5:Hp},Bl H4 H5->∀x,H5 x=none->Q (.ref x) (upd H5 x (.A_ [.str "free",.int h,.ref b])):=λ{H5} s5 x hx=>k x _ (.free h b) (Al jH (Al s5 (Ah hx))) Ac ⟨q,G,tb,i,Ah hx _ _ (s5 _ _ eb),rm⟩ (λ_ z=>by cases z)
     by_cases c5:kd<5
     .refine⟨_,rfl,_,_,rfl,rfl,_,rfl,?_⟩
      rw[decide_eq_true c5]
      refine Cc ⟨_,rfl,_,rfl,_,rfl,_,_,rfl,rfl,UE,_,rfl,(by show 4<=sizeLine;decide),λx hx=>?_⟩
      exact k x _ (.send h (c3 % (m:Int)) b) (Al jH (Ah hx)) Ac ⟨q,G,tb,i,CV c3 (show(m:Int)≠0 by lia),CJ c3 UE,Ah hx _ _ eb,rm⟩ (λ_ z=>by cases z)
     .refine⟨_,rfl,_,_,rfl,rfl,_,rfl,?_⟩
      rw[decide_eq_false c5]
      refine Bx ?_
      by_cases c8:8<kd
      .refine⟨_,rfl,_,_,rfl,rfl,_,rfl,?_⟩
       rw[decide_eq_true c8]
       exact Cc (Cc ⟨_,rfl,_,rfl,(by show 3<=sizeLine;decide),λx hx=>fr (λb o e=>e) x hx⟩)
      .refine⟨_,rfl,_,_,rfl,rfl,_,rfl,?_⟩
       rw[decide_eq_false c8]
       refine Bx ⟨_,rfl,AU _,λr' GK=>⟨_,_,.BE (DW.of (Ah GK _ _ en)) (Jeh λz hz=>Ah GK _ _ (al z hz).1),.BE (DW.of Ac) .nil,Ju (Jml zs),Jv,_,rfl,?_⟩⟩
       have s5:=Ah (o:=.BE []) GK
       generalize upd H4 r' (.BE [])=H5 at s5
       rw[F3]
       by_cases z0:zs=[]
       .rw[z0]
        exact Cc ⟨_,rfl,_,rfl,(by show 3<=sizeLine;decide),λx hx=>fr s5 x hx⟩
       .rw[xw z0]
        refine Bx ?_
        have w_:=Al jH s5
        have eb:=s5 _ _ eb
        have e2:=s5 _ _ e2
        have en:=s5 _ _ en
        have r2:Paired (PY H5) bs os:=Aq (λ_ _ r=>r.keep (HC s5)) r2
        have JOL:=HH.mpr z0
        have f_:(zs.map λz=>V.ref z.1).length=zs.length:=ZA ..
        have aG:(0:Int)<(((zs.map λz=>V.ref z.1).length:Nat):Int):=by rw[f_];lia
        have j0:=CV c3 (show(((zs.map λz=>V.ref z.1).length:Nat):Int)≠0 by lia)
        have j1:=CJ c3 aG
        obtain⟨⟨a,ta⟩,ha⟩:=An (xs:=zs) (j:=(c3 % (((zs.map λz=>V.ref z.1).length:Nat):Int)).toNat) (by rw[f_] at j0 j1 ⊢;lia)
        have c6:QO (zs.map λz=>V.ref z.1) (c3 % (((zs.map λz=>V.ref z.1).length:Nat):Int))=some (.ref a):=A8 j0 (by rw[ZH,ha];rfl)
        obtain⟨ea,hta,near⟩:=al _ (ZP ha)
        have ea:H5 a=some (.A_ (tv ta)):=s5 _ _ ea
        have rq:ta∈G.hand:=JI.pm.mem_iff.mp hta
        have near:ta.1=G.BP:=by rw[nu];exact near
        have mem:ta∈os.map (·.1):=JI.PL.pm.mem_iff.mpr (sd.ok.hk ta rq near)
        refine⟨_,rfl,_,rfl,_,rfl,nr,_,rfl,.inl (DW.of en),_,_,rfl,rfl,aG,nr,_,_,_,rfl,rfl,DW.of en,c6,?_⟩
        refine⟨_,rfl,_,rfl,y2,a,bs,os,ta,rfl,e2,r2,ea,mem,λhd cs o hl hm sj qI=>?_⟩
        have yN:∀{H6:Hp},Bl H5 H6->∀x,H6 x=none->Q (.ref x) (upd H6 x (.A_ [.str "hold",.int h,.ref a,.ref b])):=λ{H6} s6 x hx=>k x _ (.three "hold" h a b) (Al w_ (Al s6 (Ah hx))) Ac ⟨q,G,ta,tb,i,Ah hx _ _ (s6 _ _ ea),Ah hx _ _ (s6 _ _ eb),rq,near,.inl ⟨rfl,rm⟩⟩ (λ_ z=>by cases z)
        by_cases c7:kd<7
        .refine⟨_,rfl,_,_,rfl,rfl,_,rfl,?_⟩
         rw[decide_eq_true c7]
         exact Cc (Cc ⟨_,rfl,_,rfl,_,rfl,(by show 4<=sizeLine;decide),λx hx=>yN (λb o e=>e) x hx⟩)
        .refine⟨_,rfl,_,_,rfl,rfl,_,rfl,?_⟩
         rw[decide_eq_false c7]
         refine Bx ⟨_,rfl,AU _,λr6 rM=>⟨_,_,.one (.tupP (CS.of (Ah rM _ _ sj)) (J8 (AZ.keep (HC (Ah rM)) qI))),.one (.tupP (CS.of Ac) .nil),Hy (Jeu hl),Hy (λ_ h=>by cases h),_,rfl,?_⟩⟩
         have s6:=Ah (o:=.A_ []) rM
         generalize upd H5 r6 (.A_ [])=H6 at s6
         rw[Za]
         by_cases sJ:hl=[]
         .rw[sJ]
          exact Cc ⟨_,rfl,_,rfl,_,rfl,(by show 4<=sizeLine;decide),λx hx=>yN s6 x hx⟩
         .rw[xw sJ]
          refine Bx ?_
          obtain⟨_,a0,hl0,fd0,z64,pmh,_⟩:=JI.PL.at_ _ hm
          have lcs:cs.length=hl.length:=Paired.length qI
          have HZ:=HH.mpr sJ
          have mJ:(cs.map V.ref).length=cs.length:=ZA ..
          have dk:(0:Int)<(((cs.map V.ref).length:Nat):Int):=by rw[mJ];lia
          have i0:=CV (c3 / (((zs.map λz=>V.ref z.1).length:Nat):Int)) (show(((cs.map V.ref).length:Nat):Int)≠0 by lia)
          have i1:=CJ (c3 / (((zs.map λz=>V.ref z.1).length:Nat):Int)) dk
          obtain⟨cb,rh⟩:=An (xs:=cs) (j:=(c3 / (((zs.map λz=>V.ref z.1).length:Nat):Int) % (((cs.map V.ref).length:Nat):Int)).toNat) (by rw[mJ] at i0 i1 ⊢;lia)
          obtain⟨tc,yE⟩:=An (xs:=hl) (j:=(c3 / (((zs.map λz=>V.ref z.1).length:Nat):Int) % (((cs.map V.ref).length:Nat):Int)).toNat) (by rw[<-lcs];exact(ZJ rh).1)
          have ec:H5 cb=some (.A_ (tv tc)):=Az qI _ _ _ rh yE
          have vf:QO (cs.map V.ref) (c3 / (((zs.map λz=>V.ref z.1).length:Nat):Int) % (((cs.map V.ref).length:Nat):Int))=some (.ref cb):=A8 i0 (by rw[ZH,rh];rfl)
          have inH:tc∈Bp G.holds ta:=by rw[Jjo fd0];exact pmh.mem_iff.mp (ZP yE)
          refine⟨(by show 2<=sizeLine;decide),λwl jZ=>?_⟩
          have s7:=Ah (o:=.BE [.str "drop",.str "take"]) jZ
          have zJ:(upd H6 wl (.BE [.str "drop",.str "take"])) wl=some (.BE [.str "drop",.str "take"]):=Ac
          generalize upd H6 wl (.BE [.str "drop",.str "take"])=H7 at s7 zJ
          have g8:=Al s6 s7
          obtain⟨wd,hwd,hw⟩:∃wd:Str,QO [V.str "drop",V.str "take"] (kd-7)=some (.str wd)/\(wd="drop"\/wd="take"):=by
           rcases(show kd=7\/kd=8 by lia) with e|e<;>rw[e]
           .exact⟨"drop",A8 (by decide) rfl,.inl rfl⟩
           .exact⟨"take",A8 (by decide) rfl,.inr rfl⟩
          refine⟨_,rfl,_,_,rfl,rfl,wl,_,_,_,rfl,rfl,DW.of zJ,hwd,?_⟩
          refine⟨_,rfl,?_⟩
          refine⟨_,rfl,?_⟩
          refine⟨_,rfl,?_⟩
          refine⟨_,rfl,?_⟩
          refine⟨_,rfl,nr,_,rfl,.inl (DW.of (g8 _ _ en)),?_⟩
          refine⟨_,_,rfl,rfl,⟨aG,by rw[f_];lia⟩,?_⟩
          refine⟨_,rfl,hd,_,rfl,.inr (CS.of (g8 _ _ sj)),?_⟩
          refine⟨_,_,rfl,rfl,dk,?_⟩
          refine⟨hd,_,_,_,rfl,rfl,CS.of (g8 _ _ sj),vf,?_⟩
          refine⟨(by show 4<=sizeLine;decide),λx hx=>?_⟩
          exact k x _ (.three wd h a cb) (Al w_ (Al g8 (Ah hx))) Ac ⟨q,G,ta,tc,i,Ah hx _ _ (g8 _ _ ea),Ah hx _ _ (g8 _ _ ec),rq,near,.inr ⟨hw,inH⟩⟩ (λ_ z=>by cases z)
universe E
universe E K63
universe N FX
open PySem PySem.Spec PyProof.Rows L2
inductive HX(H:Hp)(c:Addr)(y:UF):Prop
 | mk a (_:AV! c [O! y.1,g! a]) (_:Hi! a y.2)
theorem Jks{t u:T2}(h:tv t=tv u):t=u:=by unfold tv at h;simp only[List.cons.injEq,V.int.injEq,and_true] at h;exact Prod.ext h.1 h.2
theorem HX.one{H:Hp}{c:Addr}{y z:UF}(h:HX H c y)(k:HX H c z):y=z:=by obtain⟨a,e1,e2⟩:=h;obtain⟨b,f1,f2⟩:=k;rw[e1] at f1;have f1:=HO.A_.inj (ZO f1);simp only[List.cons.injEq,V.int.injEq,V.ref.injEq,and_true] at f1;rw[<-f1.2,e2] at f2;exact Prod.ext f1.1 (Jks (HO.A_.inj (ZO f2)))
theorem HX.keep{H H':Hp}{c:Addr}{y:UF}(h:HX H c y)(k:Ch):HX H' c y:=by obtain⟨a,e1,e2⟩:=h;exact⟨a,Bh! e1,Bh! e2⟩
noncomputable def jW (H:Hp) (y:UF):Value->Bool
 | .ref c=>@decide (HX H c y) I2!
 | _=>false
theorem Jgr{H:Hp}{c:Addr}{y z:UF}(h:HX H c z):jW H y (i! c)=T! (z=y):=by
 show @decide (HX H c y) I2!=_;by_cases e:z=y;.rw[decide_eq_true e];exact @decide_eq_true _ I2! (FL! e h)
 .rw[decide_eq_false e];exact @decide_eq_false _ I2! λk=>e (h.one k)
def iU(y:UF):PyData:=Ah! [O! y.1,OL y.2]
theorem Jhk{K:W.Frag}{H:Hp}{c:Addr}{y:UF}(h:HX H c y):KD K H (y! c) (iU y):=by obtain⟨a,e1,e2⟩:=h;exact MN! (Nu! (Nt e2))
theorem Wz(y:UF):YE (iU y):=by obtain⟨a,b⟩:=Ha y.2;unfold iU;exact A! (by simp[PyData.canLay0,PyData.canLayAll0,a]) (by simp only[PyData.depth,PyData.depthAll] at *;exact Nat.le_add_left _ _)
theorem Jma(y z:UF):PyData.eqv (iU y) (iU z)=T! (y=z):=by obtain⟨g,h⟩:=y;obtain⟨g',h'⟩:=z;unfold iU;simp only[PyData.eqv,PyData.eqvAll,Prod.mk.injEq,Uc];by_cases h1:g=g'<;>by_cases h2:h=h'<;>simp[h1,h2]
universe S
variable {X:Cx Kx}{AA:List (Addr×Obj)}{σ:L2.St}{H:Hp}{s:Shared}{A:Around}
theorem Jl3{c b:Addr}{y z:UF}(hu:A.units+40<cLine)(I:KU!)(hc:HX H c z)(hb:HX H b y):SeqAt.EqAt A s (y! c) Fr! (jW H y (i! c)):=by rw[Jgr hc,<-Jma];obtain⟨as,g1⟩:=(Jhk hc).reads I (y! c) rfl;obtain⟨bs,g2⟩:=(Jhk hb).reads I Fr! rfl;exact PySem.SeqAt.eqAt_reads _ _ A s _ _ as bs g1 g2 (Wz z).1 (Wz y).1 (EJ! (Wz z).2)
inductive Jfi(x:V)(vs:L!)(H:Hp)(Q:VK):Prop
 | mk (l b:Addr) (y:UF) (cs:SC) (ys:Iz!) (j:Nat) (e0:x=g! l) (e1:vs=[CF!]) (e2:HX H b y) (e3:ii l NT!) (e4:j? (HX H) cs ys) (e5:ys[j]?=some y) (e6:∀(m:Nat) z,m<j->ys[m]?=some z->z≠y) (e7:Q .FH (Jn! l GZ!))
theorem Qq(hu:X.A.units+64<cLine):fj X "list.remove" Jfi:=by
 intro AA s σ H x vs v us Q I rx rv h;obtain⟨l,b,tb,as,ts,j,rfl,rfl,hb,hl,th,hj,no,q⟩:=h;cases rx;obtain⟨u,rfl,ru⟩:=rv.one;cases ru;obtain⟨z,its,n,vl,gl⟩:=(show DV X.prog X.w H s.heap l (.BE (as.map V.ref)) from I.DM l _ hl);have ei:=J7 vl;subst ei;have qi:=DF!;have hjt:j<ts.length:=CZ!;have sz:(as.map Value.ref).toArray.size=as.length:=Af!
 have a2:∀y,y∈(as.map Value.ref).toArray->SeqAt.EqAt X.A.in1 s y Fr! (jW H tb y):=pi (by (have hy:y∈as.map Value.ref:=by simpa using hy);obtain⟨a,ha,rfl⟩:=ZN hy;obtain⟨i,hi⟩:=BW.mp ha;obtain⟨t,ht⟩:=N4! ts i qi hi;exact Jl3 (AY! (X.A.units+1+40<cLine)) I (Az th i a t hi ht) hb)
 have at_:∀m (h:m<(as.map Value.ref).toArray.size) t,ts[m]?=some t->jW H tb (as.map Value.ref).toArray[m]=T! (t=tb):=λm h t ht=>by obtain⟨a,ha⟩:=KX! as m (n? sz h);(have e:(as.map Value.ref).toArray[m]=Value.ref a:=by have:=ZJ ha;simp[this.2]);rw[e];exact Jgr (Az th m a t ha ht)
 refine JP F.slot_list_remove (E8! gl) F.entry_list_remove (F.args_list_remove_2 _ _) (S:=λA R s0=>A=X.A/\s0=s/\R=wants (EP X AA σ Q) X.xe) (λA R s0 hS=>?_) (FM rfl rfl);obtain⟨rfl,rfl,rfl⟩:=hS;refine ZS (A! (KG GJ _) (P7 (jW H tb) gl a2 j (IK! sz) ?_ (λm h hm=>?_) (by rw[sz];simpa using z) (λh' c g sb=>?_) j 0 h!));.rw[at_ j (IK! sz) tb hj];simp
 .obtain⟨t,ht⟩:=Ef! ts m;rw[at_ m h t ht];exact H6! (no m t hm ht)
 .refine⟨.FH,_,G9 (t':=s0.toks) (ob:=.BE ((as.eraseIdx j).map V.ref)) I (U! hl True.intro) sb (A! _ g) ⟨?_,(as.eraseIdx j).map Value.ref,c,Gg _,?_⟩,rfl,q⟩;(.rw[ZA];refine AV ?_ (by simpa using z);rw[List.length_eraseIdx];split<;>lia);.rw[g];(have e:((as.map Value.ref).toArray.eraseIdxIfInBounds j)=((as.eraseIdx j).map Value.ref).toArray:=by rw[<-Sr];simp);rw[e]
universe E
universe E FX
universe N K63
open PySem L2 FX
structure LH where
 ha:Addr
 hd:Addr
 co:Addr
 BO:k! (Addr×M!)
 holds:HL
 CG:Iz!
def J3(F:LH):SB:=[Lo!,Lp!,(G! BZ!,g! F.co)]
theorem Jcd:A8! Ba! Bb!:=ZV
theorem Jce:A8! Ba! BZ!:=ZV
theorem Jcc:A8! Bb! BZ!:=ZV
theorem Jg5(F:LH):NA! J3 F (R! Ba!) F.ha:=by unfold J3;rw[Gk rfl]
theorem Jg4(F:LH):NA! J3 F (R! Bb!) F.hd:=by unfold J3;rw[Dw! Jcd,Gk rfl]
theorem Jd8(F:LH):NA! J3 F (R! BZ!) F.co:=by unfold J3;rw[Dw! Jce,Dw! Jcc,Gk rfl]
theorem Jl2(F:LH):Lh [] (J3 F)=J3 F:=by have e0:putK ([]:SB) (R! Ba!) (i! F.ha)=[(G! Ba!,g! F.ha)]:=Fa _ Jep;have e1:putK ([(G! Ba!,g! F.ha)]:SB) (R! Bb!) (i! F.hd)=[Lo!,Lp!]:=Fa _ (BN! (Dw! Jcd));have e2:putK ([Lo!,Lp!]:SB) (R! BZ!) (i! F.co)=[Lo!,Lp!,(G! BZ!,g! F.co)]:=Fa _ (WP (Dw! Jce) (Dw! Jcc));unfold Lh J3;simp only[List.foldl_cons,List.foldl_nil];rw[e0,e1,e2]
def WD(F:LH):SC:=K9! (Ep! F.holds.map)
def Er(fl:Addr)(F:LH):SC:=fl::F.hd::WD F
structure CT(H:Hp)(fl:Addr)(F:LH):Prop where
 ob:E6! fl (J3 F)
 ha:ii F.ha (NW! F.BO.map)
 hn:Hy! (LstAt H q.1 q.2)
 hd:KM H F.hd Dz F.holds
 hl:Hz! (LstAt H a? q.2.2)
 co:∃cs,ii F.co NT!/\Kp! H
 nd:Ar! WD F
 nk:J? F.holds.map
def XI(fl:Addr)(F:LH)(H H':Hp):Prop:=KB! (b∉Er fl F)
theorem FF:HH!↔(b=F.ha\/b=F.co\/(∃q∈F.BO,b=q.1)\/∃q∈F.holds,b=a?):=by
 unfold WD;simp only[BV,LW,AF];constructor;.rintro(h|h|⟨q,hq,e⟩|⟨q,hq,e⟩);(.exact d?);(.exact DM!);(.exact z! (w! Kl!));.exact z! (R! Kl!)
 .rintro(h|h|⟨q,hq,e⟩|⟨q,hq,e⟩);(.exact d?);(.exact DM!);(.exact z! (w! Kl!));.exact z! (R! Kl!)
theorem CT.BE(x:F?)(hb:HH!):∃xs,ii b xs:=by
 rcases FF.mp hb with rfl|rfl|⟨q,hq,rfl⟩|⟨q,hq,rfl⟩;.exact A! _ x.ha
 .obtain⟨cs,e,_⟩:=x.co;exact CX!
 .obtain⟨as,e,_⟩:=x.hn q hq;exact CX!
 .obtain⟨as,e,_⟩:=x.hl q hq;exact CX!
theorem CT.has(x:F?)(hb:FX!):∃o,bn/\(∀xs,o≠.A_ xs)/\(∀ob u,o≠.GV ob u):=by
 unfold Er at hb;rcases ZM hb with rfl|hb;.exact⟨_,x.ob,B5!,Kh!⟩
 rcases ZM hb with rfl|hb;.exact⟨_,x.hd,B5!,Kh!⟩
 obtain⟨xs,e⟩:=x.BE hb;exact⟨_,e,B5!,Kh!⟩
theorem au(h:LstAt H b ts)(e:∀o,bn->ES!)(k:Ch):LstAt H' b ts:=by obtain⟨as,e1,t⟩:=h;exact⟨as,e _ e1,AZ.keep k t⟩
theorem CT.keep(x:F?)(k:KC! FX!)(kt:Ch):KS!:=by have kl:KC! HH!:=CE! (C6! (ZD _ (ZD _ hb)));refine⟨k _ _ wE x.ob,kl _ _ (FF.mpr (v! rfl)) x.ha,b? (au (x.hn q hq) (λo e=>kl _ _ (Gi! M4!) e) kt),k _ _ (ZD _ wE) x.hd,b? (au (x.hl q hq) (λo e=>kl _ _ (J8! M4!) e) kt),?_,x.nd,x.nk⟩;obtain⟨cs,e,p⟩:=x.co;exact⟨cs,kl _ _ HE! e,Aq (λ_ _ h=>GV!) p⟩
theorem CT.same(x:F?)(s:f?):KS!:=x.keep (λb o _ e=>s b o e) (HC s)
theorem XI.DO(f:Ct!)(x:F?):Ch :=A! (λa xs e=>f a _ e λhb=>(by obtain⟨o,e2,n,_⟩:=x.has hb;rw[e] at e2;cases e2;exact n _ rfl)) (λa o u e=>f a _ e λhb=>(by obtain⟨o,e2,_,n⟩:=x.has hb;rw[e] at e2;cases e2;exact D! n rfl))
theorem Fl(e:ii b xs):B_ H (upd H b o):=PJ λo' e'=>by rw[e] at e';cases e';exact A! B5! Kh!
theorem K9(hb:HH!):Hx! (upd H b o):=λc o' e n=>Ng! (F3! n (ZD _ (ZD _ hb)))
theorem CT.ne(x:F?)(e:ii b xs):fl≠b/\F.hd≠b:=A! (λz=>(by rw[<-z,x.ob] at e;cases e)) (λz=>(by rw[<-z,x.hd] at e;cases e))
theorem CT.RV(x:F?):F.ha≠F.co/\FM! (q.1≠F.ha/\q.1≠F.co)/\(Hz! (a?≠F.ha/\a?≠F.co))/\FM! (∀r∈F.holds,q.1≠AA!)/\J? F.BO.map/\Ar! F.holds.map Bx!:=by
 have nd:=x.nd;unfold WD at nd;rw[AN,AN,AM] at nd;obtain⟨n1,n2,n3,n4,n5⟩:=nd;refine⟨F3! n1 (ZL ..),b? (A! (λz=>n1 ?_) (λz=>n2 ?_)),b? (A! (λz=>n1 ?_) (λz=>n2 ?_)),λq hq r hr=>n5 _ Gl! _ (AF.mpr HG!),n3,n4⟩;.rw[<-z];exact ZD _ (ZB _ Gl!)
 .rw[<-z];exact ZB _ Gl!
 .rw[<-z];exact ZD _ (ZC _ Gl!)
 .rw[<-z];exact ZC _ Gl!
theorem CT.T_(x:F?)(p:j? (HX H) cs ys):CT (Jn! F.co cs.map) fl { F with CG:=ys }:=by obtain⟨cs0,e0,_⟩:=x.co;obtain⟨n1,n2,n3,_⟩:=x.RV;obtain⟨m1,m2⟩:=x.ne e0;have kt:=Dm! cs.map e0;exact⟨S! m1 x.ob,S! n1 x.ha,b? (Go! (x.hn q hq) (n2 q hq).2),S! m2 x.hd,b? (Go! (x.hl q hq) (n3 q hq).2),⟨cs,Ac,Aq (λ_ _ h=>GV!) p⟩,x.nd,x.nk⟩
theorem CT.hand(x:F?)(hj:F.BO[j]?=some q)(t:AZ H as l):CT (Jn! q.1 as.map) fl { F with BO:=EO! j GJ! }:=by
 have hq:=ZP hj;obtain⟨fZ,e0,_⟩:=x.hn q hq;obtain⟨n1,n2,n3,n4,n5,_⟩:=x.RV;obtain⟨m1,m2⟩:=x.ne e0;have kt:=Dm! as.map e0;have em:∀{β:Type} (f:Addr->β),(F.BO.set j GJ!).map (λq=>f q.1)=F.BO.map λq=>f q.1:=λf=>by refine FE λi=>?_;rw[ZH,ZH,FD];by_cases e:j=i;(.subst e;rw[AE!,AE CZ!,hj];rfl);.rw[AB e]
 obtain⟨cs,ec,pc⟩:=x.co;refine⟨S! m1 x.ob,by rw[Ab (n2 q hq).1.symm];show ii F.ha (NW! (F.BO.set j GJ!).map);rw[em V.ref];exact x.ha,Ew!,S! m2 x.hd,λr hr=>Go! (x.hl r hr) (n4 q hq r hr).symm,⟨cs,S! (n2 q hq).2.symm ec,Di! GV!⟩,?_,x.nk⟩;.obtain⟨i,hi⟩:=BW.mp hr;have hi:(F.BO.set j GJ!)[i]?=some r:=hi;rw[FD] at hi;by_cases e:j=i;(.rw[AE e,AE CZ!] at hi;cases hi;exact⟨as,Ac,AZ.keep kt t⟩);.rw[AB e] at hi;have LP:=ZP hi;refine au (x.hn r LP) (λo e2=>?_) kt;rw[Ab λz=>e ?_];(.exact e2);·(have a1:(F.BO.map v?)[j]?=some q.1:=Jq!);(have a2:(F.BO.map v?)[i]?=some q.1:=by rw[ZH,hi,<-z];rfl);obtain⟨l1,g1⟩:=ZJ a1;obtain⟨l2,g2⟩:=ZJ a2;exact Lz! n5
 .have nd:=x.nd;unfold WD at nd ⊢;show(F.ha::F.co::(J9! (F.BO.set j GJ!).map++Ep! F.holds.map)).Nodup;rw[em λa=>a];exact nd
theorem CT.held(x:F?)(hf:JS! F.holds.find? (q.1=tb) (tb,a,l0))(t:AZ H as l):CT (Jn! a as.map) fl { F with holds:=C7 F.holds tb l }:=by
 have hq:=AJ hf;obtain⟨fZ,e0,_⟩:=x.hl _ hq;have e0:ii a (fZ.map V.ref):=e0;obtain⟨n1,n2,n3,n4,_,n6⟩:=x.RV;obtain⟨m1,m2⟩:=x.ne e0;have kt:=Dm! as.map e0;have xZ:a≠F.ha/\a≠F.co:=n3 _ hq;obtain⟨cs,ec,pc⟩:=x.co;have ed:Dz (C7 F.holds tb l)=Dz F.holds:=by unfold Dz C7;rw[AL];refine congrArg _ (BQ λq _=>?_);show(tk (BA! (q.1=tb) l).1,C? (BA! (q.1=tb) l).2.1)=_;split<;>rfl
 refine⟨S! m1 x.ob,S! xZ.1.symm x.ha,λr hr=>au (x.hn r hr) (λo e=>E! (Ab (n4 r hr _ hq)) e) kt,by rw[Ab m2];show KM H F.hd Dz (C7 F.holds tb l);rw[ed];exact x.hd,Ew!,⟨cs,S! xZ.2.symm ec,Di! GV!⟩,?_,?_⟩;.have hr:r∈C7 F.holds tb l:=hr;obtain⟨q,X_,e⟩:=ZN hr;by_cases c:q.1=tb;(.rw[AE c] at e;have:q=(tb,a,l0):=Vw x.nk X_ hq c;rw[<-e,this];exact⟨as,Ac,AZ.keep kt t⟩);.rw[AB c] at e;rw[<-e];refine au (x.hl q X_) (λo e2=>?_) kt;rw[Ab λz=>c ?_];(.exact e2);.obtain⟨i,hi⟩:=BW.mp X_;obtain⟨j,hj⟩:=BW.mp hq;(have a1:(F.holds.map Bx!)[i]?=some a:=by rw[ZH,hi,<-z];rfl);(have a2:(F.holds.map Bx!)[j]?=some a:=Jq!);obtain⟨l1,g1⟩:=ZJ a1;obtain⟨l2,g2⟩:=ZJ a2;have:=Lz! n6;rw[this,hj] at hi;cases hi;rfl
 .have nd:=x.nd;unfold WD at nd ⊢;show(K9! (Ep! (C7 F.holds tb l).map)).Nodup;rw[L6];exact nd
 .show J? (C7 F.holds tb l).map;(have:GW! (C7 F.holds tb l).map F.holds.map:=by unfold C7;rw[AL];refine BQ λq _=>?_;show(BA! (q.1=tb) l).1=_;split<;>rfl);rw[this];exact x.nk
theorem CT.gM(x:F?)(ha:F8!)(nt:t∉I5!):CT (upd Gw! F.hd (Dz (JY!))) fl { F with holds:=JY! }:=by
 have s1:=cr ha;have x1:=x.same s1;have hN:∀b o,bn->b≠a:=λb o e z=>by rw[z,ha] at e;cases e
 have kt:B_ Gw! (upd Gw! F.hd (Dz (JY!))):=HU! x1.hd
 have nl:∀b,HH!->b≠F.hd:=λb hb z=>by obtain⟨xs,e⟩:=x.BE hb;rw[z,x.hd] at e;cases e
 have na:a≠F.hd:=(hN _ _ x.hd).symm;obtain⟨cs,ec,pc⟩:=x1.co;have nf:fl≠F.hd:=λz=>by have:=x.ob;rw[z,x.hd] at this;cases this
 refine⟨S! nf x1.ob,S! (nl _ (FF.mpr (v! rfl))) x1.ha,λr hr=>Go! (x1.hn r hr) (nl _ (Gi! HG!)),Ac,Ew!,⟨cs,S! (nl _ HE!) ec,Di! GV!⟩,?_,?_⟩;.have hr:r∈JY!:=hr;rcases ZI hr with hr|hr;(.exact Go! (x1.hl r hr) (nl _ (J8! HG!)));.rw[ZK hr];exact⟨[],S! na Ac,d!⟩
 .have nd:=x.nd;unfold WD at nd ⊢;show(K9! ((Dy! (t,a,[])).map (λq=>a?))).Nodup;rw[ZF,<-AQ];show((K9! (Ep! F.holds.map))++[a]).Nodup;refine Gy! nd ?_;obtain⟨xs,e⟩:=x.BE (b:=u) hu;exact hN _ _ e (z.trans (by simpa using hv))
 .show Ar! (Dy! (t,a,[])).map (λq=>q.1);rw[ZF];refine Gy! x.nk (nt ?_);(have:v=t:=by simpa using hv);rw[<-this,<-z];exact hu
theorem CT.OV(x:F?):DQ H fl (A? Ba!) (Gu! F.ha):=Nr! (G! Ba!) x.ob Jg5
theorem CT.OU(x:F?):DQ H fl (A? Bb!) (Gu! F.hd):=Nr! (G! Bb!) x.ob Jg4
theorem CT.cN(x:F?):DQ H fl (A? BZ!) (Gu! F.co):=Nr! (G! BZ!) x.ob Jd8
theorem Yg{Q:VK}{H:Hp}{b l:Addr}{tb:T2}{as:SC}{ts:M!}(hb:u?)(hl:ii l Ce!)(th:AZ H as ts)(q:(tb∉ts->Q (.bl true) H)/\(tb∈ts->Q (.bl false) H)):Jna true Fr! (y! l) H Q:=by
 refine⟨b,l,tb,as,ts,rfl,rfl,hb,hl,th,?_⟩;by_cases h:tb∈ts;.have:=q.2 h;simpa [h] using this
 .have:=q.1 h;simpa [h] using this
theorem L5{l:AB!}(h:l[j]?=some a):l.set j a=l:=by
 refine FE λi=>?_;rw[FD];by_cases e:j=i;.rw[AE e,AE (v4 h),<-e,h]
 .rw[AB e]
theorem Wk{F:LH}(h0:0<=h)(hq:GX!):QO (F.BO.map λq=>C? q.1) h=x? V.ref q.1:=A8 h0 (CI! hq)
universe S
variable {P:Program}{w:World}{K:W.Frag}{mg:Str->Option Value}{base:Heap}
theorem Jo5:q! D6! D6! Vj:={}
inductive Jbo(vs:L!)(H:Hp)(Q:VK)(E:XK):Prop
 | mk (fl t:Addr) (h:Int) (F:LH) (q:Addr×M!) (tb:T2) (_:vs=[Fl!,Aa!,CU!]) (_:F?) (_:Hi! t tb) (_:0<=h) (_:GX!) (_:q.2.length<=400) (_:∀H',CT H' fl (Ff! (q.1,Jv!))->Ct!->Q .FH H')
theorem Jgf(F':j! Hq! Hq! Vj):Eh! D6! Jbo:=by
 refine Ci! Jo5;obtain⟨fl,t,h,F,q,tb,rfl,S,et,h0,hq,z,k⟩:=h;refine K?;have hu:=IR;have mq:=ZP hq;obtain⟨as,ea,th⟩:=S.hn q mq;refine m? (Af (Bh (Ax (BX! Ji) Y! (LE! V!) rfl) (HT! (LE! V!) Y!) A3));refine⟨_,rfl,_,rfl,fl,_,rfl,S.OV,_,rfl,F.ha,_,h,_,rfl,rfl,XV S.ha,Wk h0 hq,Yg et ea th (A! (Iv! A2!) (Iv! Bm!))⟩;.have lz:=DF!;refine⟨_,rfl,fl,_,rfl,S.OV,_,rfl,F.ha,_,h,_,rfl,rfl,XV S.ha,Wk h0 hq,BY! ea,_,rfl,q.1,_,_,rfl,rfl,ea,Kt!,?_⟩;(have e:Jv!=q.2++[tb]:=Ma! (AB h1));have S1:=S.hand hq (Df th et);rw[ZF,<-e] at S1;exact k _ S1 (K9 (Gi! (Hs! mq)))
 ·(have e:Jv!=q.2:=Ma! (AE h1));refine k H ?_ λb o e _=>e;rw[e,show Nh! (q.1,q.2)=F.BO from L5 hq];exact S
universe E
def LtK(H:Hp)(t:Addr)(kind:Str)(g:Int):Prop:=∃(n s:Int)(a:Addr),AV! t (LA! CG!)
def Zp(H:Hp)(F:LH)(lv mv:V)(a:Addr)(F':LH):FF!
 | .make h=>∃t tm q,mv=CU!/\Hi! t tm/\0<=h/\GX!/\tm∉I5!/\F'={ F with holds:=Dg!,BO:=Nh! (q.1,q.2++[tm]) }
 | .three w h a b=>∃ta tb,C3!/\u? /\
  ((w=KB/\∃aa l,JS! F.holds.find? E2! (ta,aa,l)/\F'=Dl! (Bn l tb)) \/
   (w=AO!/\∃aa l,JS! F.holds.find? E2! (ta,aa,l)/\tb∈l/\l.Nodup/\F'=Dl! (Ff l tb)) \/
   (w=AP!/\0<=h/\∃q,GX!/\F'=Ff! (q.1,Jv!)))
 | .free h b=>∃tb q,u?/\0<=h/\GX!/\tb∈q.2/\q.2.Nodup/\F'=Ff! (q.1,Ff q.2 tb)
 | .send h g b=>∃tb,u?/\F'=Mo! (F.CG++[(g,tb)])
 | .clean _=>F'=F
 | .ask _=>F'=F
 | .deliver _=>∃t,lv=CU! /\
  ((∃n kind s g th x q j,JO H t n kind s g th x/\(Ev!\/(Ii!/\x=g))/\0<=g/\F.BO[g.toNat]?=some q/\F.CG[j]?=some Dk!/\(∀(m:Nat) z,m<j->F.CG[m]?=some z->z≠Dk!)/\F'={ F with CG:=GM!,BO:=EO! g.toNat (q.1,Bn q.2 th) }) \/
   (∃n s g th x,JO H t n Ec! s g th x/\x≠g/\F'=F) \/
   (∃kind g,LtK H t kind g/\kind≠KB/\kind≠Ec!/\F'=F))
structure FSz(F:LH):Prop where
 BO:Hy! (q.2.length<=400)
 holds:F.holds.length<=400
 held:Hz! (q.2.2.length<=400)
 CG:F.CG.length<=400
universe S
variable {P:Program}{w:World}{K:W.Frag}{mg:Str->Option Value}{base:Heap}
theorem KQ(k:Li!)(hv:L5! wd:=by rfl)(ne:¬wd=c:=by decide +kernel):Kr! Ml! uD :=MX! (FQ! (J4! (HO! wd) K1!) Bx)
theorem PF(k:Li!)(hv:L5! wd:=by rfl)(ne:¬wd=c:=by decide +kernel):Ue (tw (Fu Ml!) tt) ta uD D σ H :=MX! (E! (J4! (HO! wd) K1!) (Bx (Bx k)))
theorem kK(k:ta D σ H)(hv:L5! c:=by rfl):Kr! Ml! tb :=MX! (FQ! A5! Cc)
theorem iy(k:u σ H (λb H1=>sK (b=true) (ta D σ H1) (tb D σ H1)))(hv:L5! c:=by rfl):Ue (tw (Fu Ml!) u) ta tb D σ H :=MX! (FQ! A5! Cc)
theorem Jdf{l:HL}(nk:J? l.map)(hf:H3! l.find? v):C7 l t v=l:=by
 unfold C7;have:∀q∈l,(BA! AX! v)=q:=b? (by by_cases e:AX!;(.have:=Vw nk hq (AJ hf) e;rw[AE e,this]);.rw[AB e])
 exact(BQ this).trans (List.map_id _)
theorem kT(et:AV! t (LA! CG!))(k:Q (decide (HO! kind)) H)(hv:Jx! (σ[2]?) t:=by rfl):Fu (NZ VY (NZ (P9 K) (Ca 2) (tC (N! 1))) (tC (A? c))) σ H Q :=⟨_,hv,t,_,1,_,rfl,rfl,Ev,H!,rfl,_,rfl,k⟩
theorem sN(ne:¬(kind:Str)=c):T! (HO! kind)=false:=IJ! K1!
theorem Gc{R:α->β->Prop}{as:AB!}{bs:Fi!}(p:Ay! as bs)(j:Nat):Paired R (as.eraseIdx j) (bs.eraseIdx j):=Z9 p j
theorem kR:q! [Eg!,IE!,"_law_letter","_law_made","_law_word"] D9! Vh:={}
inductive Uu(vs:L!)(H:Hp)(Q:VK)(E:XK):Prop
 | mk (fl x:Addr) (lv mv:V) (F:LH) (N:Addr->LH) (dd:Dd) (_:vs=[Fl!,g! x,lv,mv]) (_:F?) (_:FSz F) (_:IU! x o5 dd) (_:(∀a,MD! (N a) dd)) (_:∀a H',(F8!\/∀h,dd≠.make h)->CT H' fl (N a)->Ct!->Q .FH H')
theorem CT.at{t:T2}(x:F?)(hf:G2!)(et:Hi! b t):DQ H F.hd Fr! (Gu! a):=IS! (DQ.t (k:=tk t) x.hd et) (Dw (k:=λq:T2×Addr×List T2=>q.1) (f:=λq=>C? a?)) hf
theorem Jgd(F':j! Mz! Mz! Vh)(MH:g? Hq! Vj D6! fH dH):B9! f fd D9! Uu:=by have GH:Ab! fH dH D6! Jbo:=Jgf MH.fn;refine Ci! kR;obtain⟨fl,x,lv,mv,F,N,dd,rfl,S,sz,ex,hN,k⟩:=h;refine K?;have hu:=IR;refine LM! 4 kR.nd l! (Ad (GC! (Jd! ET! E? (Ee Ae) (HT! (LE! l!) E?))) (Ad (Bl! YX (Jt (EI! H?) (Ki (Ax (BX! Ji) l! (Jo! l!) rfl))) (HT! (Jo! l!) l!)) (Ad (GC! (M3! JE JD (BX! Qp) (Jo! l!) l!)) (Aj! (GC! (Af (A4 (Cg! GH MH.mg MH.fn.kp MH.bd (BU! B? l! l!))))) (GC! (M3! JE JD (BX! Qp) (LE! l!) l!)) (GC! (HT! ET! (Dv! l! l!))) (Bl! YX (Jt (EI! H?) (Ki (EI! Ai!))) (Ad (A4 (Fk BF JE JD (BX! Qq) ET! (Z? (Dv! Ai! Gb!)))) (Af (A4 (Cg! GH MH.mg MH.fn.kp MH.bd (BU! B? Ai! Gb!)))))) (Af (Bl! YX (Jt (EI! H?) (Jt (EI! Ai!) (Ki (EG! Cg Gb! Ai!)))) (Ad (A4 (Fk BF JE JD (BX! Qq) ET! (Z? (Dv! Ai! Gb!)))) (Af (A4 (Cg! GH MH.mg MH.fn.kp MH.bd (BU! B? Ai! Gb!)))))))))));cases dd with | make h =>have ex:AD! (DZ! Co!):=ex;refine C9! (kK ?_);refine CO! (λa ha=>?_);obtain⟨t,tm,q,rfl,et,h0,hq,nt,eN⟩:=hN a;have s1:=cr ha;have S1:=Bq!;refine⟨_,rfl,fl,_,rfl,S1.OU,_,rfl,F.hd,_,rfl,F_.t (k:=tk tm) S1.hd (s1 _ _ et) (U! ZA (Ec (by have:=sz.holds;lia))),?_⟩;rw[Gv (V.ref a) (λq hq z=>CJ! nt ⟨q,hq,z⟩)];(have e5:HO.dT ((F.holds.map λ(q:T2×Addr×List T2)=>(tk q.1,C? a?))++[(tk tm,C? a)])=Dz (Dg!):=by unfold Dz;rw[ZF];rfl);rw[e5];have S2:=S.gM ha nt;(have JU:Hx! (upd Gw! F.hd (Dz (Dg!))):=BI! (S! (F3! n (ZD _ wE)) (AC! e)));generalize upd Gw! F.hd (Dz (Dg!))=H2 at S2 JU;have UR:=JU.DO S;have mq:=ZP hq;obtain⟨as,ea,th⟩:=S2.hn q mq;have lz:=DF!;have z1:=sz.BO q mq;refine⟨_,rfl,fl,_,rfl,S2.OV,_,rfl,x,_,1,_,rfl,rfl,Fn! UR.A_ ex,H!,F.ha,_,h,_,rfl,rfl,XV S2.ha,Wk (F:={ F with holds:=Dg! }) h0 hq,BY! ea,_,rfl,q.1,_,_,rfl,rfl,ea,Kt!,?_⟩;have S3:=S2.hand (j:=h.toNat) hq (Df th (UR.A_ _ _ et));rw[ZF] at S3;(have NJ:Hx! (DI! H2 q.1 (Js!++[t].map V.ref)):=BI! (S! (F3! n (ZD _ (ZD _ (Gi! (Hs! mq))))) (JU _ _ e n)));exact PF (KQ (KQ (HM! (k a _ (w! ha) (Nc! S3) NJ)))) | three w h a b =>have ex:AD! (Gp! (A? w)):=ex;have nm:∀h',Dd.three w h a b≠.make h':=B5!;obtain⟨ta,tb,ea,eb,c⟩:=hN 0;refine C9! ?_;rcases c with⟨rfl,aa,l,hf,eN⟩|⟨rfl,aa,l,hf,hb,nd,eN⟩|⟨rfl,h0,q,hq,eN⟩;(.have mq:=AJ hf;obtain⟨as,el,th⟩:=S.hl _ mq;have el:ii aa Ce!:=el;have lz:=DF!;have z1:=sz.held _ mq;refine KQ (iy ?_);refine⟨_,rfl,x,_,3,_,rfl,rfl,U?,H!,_,rfl,fl,_,rfl,S.OU,_,rfl,x,_,2,_,rfl,rfl,U?,H!,F.hd,_,rfl,S.at hf ea,Yg eb el th (A! (Iv! A2!) (Iv! Bm!))⟩;(.refine⟨_,rfl,fl,_,rfl,S.OU,_,rfl,x,_,2,_,rfl,rfl,U?,H!,F.hd,_,rfl,S.at hf ea,Jp!,_,rfl,x,_,3,_,rfl,rfl,U?,H!,aa,_,_,rfl,rfl,el,E! ZA (Ec (by have z1:l.length<=400:=z1;have lz:as.length=l.length:=lz;lia)),?_⟩;(have e:Bn l tb=l++[tb]:=Ma! (AB h1));have S1:=S.held hf (Df th eb);rw[ZF,<-e] at S1;exact KQ (KQ (HM! (KD! S1 (K9 (J8! (E8! mq)))))));·(have e:Bn l tb=l:=Ma! (AE h1));refine KQ (KQ (HM! (k 0 _ (R! nm) ?_ IA!)));rw[eN,e,Jdf S.nk hf];exact S);(.have mq:=AJ hf;obtain⟨as,el,th⟩:=S.hl _ mq;have el:ii aa Ce!:=el;have th:AZ H as l:=th;obtain⟨j,hj,TM⟩:=X4 nd hb;refine KQ (PF (kK ?_));refine⟨_,rfl,fl,_,rfl,S.OU,_,rfl,x,_,2,_,rfl,rfl,U?,H!,F.hd,_,rfl,S.at hf ea,Jp!,_,rfl,x,_,3,_,rfl,rfl,U?,H!,aa,b,tb,as,l,j,rfl,rfl,eb,el,th,hj,TM,?_⟩;have S1:=S.held hf (R1 th j);rw[Tr nd hj] at S1;exact KQ (KQ (KQ (PF (PF (KD! S1 (K9 (J8! (E8! mq)))))))));.refine KQ (PF (KQ (kK ?_)));refine⟨_,rfl,_,rfl,x,_,1,_,rfl,rfl,U?,H!,_,rfl,x,_,3,_,rfl,rfl,U?,H!,fl,b,h,F,q,tb,rfl,S,eb,h0,hq,sz.BO q (ZP hq),M8! ?_⟩;exact KQ (KQ (PF (PF (KD! S' fr)))) | free h b =>have ex:AD! [A? Cp!,Aa!,CF!]:=ex;obtain⟨tb,q,eb,h0,hq,hb,nd,eN⟩:=hN 0;have mq:=ZP hq;obtain⟨as,el,th⟩:=S.hn q mq;obtain⟨j,hj,TM⟩:=X4 nd hb;refine C9! (KQ (PF (KQ (KQ (kK ?_)))));refine⟨_,rfl,fl,_,rfl,S.OV,_,rfl,x,_,1,_,rfl,rfl,U?,H!,F.ha,_,h,_,rfl,rfl,XV S.ha,Wk h0 hq,Jp!,_,rfl,x,_,2,_,rfl,rfl,U?,H!,q.1,b,tb,as,q.2,j,rfl,rfl,eb,el,th,hj,TM,?_⟩;have S1:=S.hand hq (R1 th j);rw[Tr nd hj] at S1;exact KQ (PF (PF (KE! S1 (K9 (Gi! (Hs! mq)))))) | send h g b =>have ex:AD! [A? En!,Aa!,Ee!,CF!]:=ex;obtain⟨tb,eb,eN⟩:=hN 0;obtain⟨cs,ec,pc⟩:=S.co;have lz:=z? pc;have z1:=sz.CG;refine C9! (KQ (PF (KQ (KQ (KQ (kK ?_))))));refine⟨_,rfl,fl,_,rfl,S.cN,BY! ec,_,rfl,x,_,2,_,rfl,rfl,U?,H!,_,rfl,x,_,3,_,rfl,rfl,U?,H!,DY!,Iw!⟩;have s1:=Ca! EY! hc;have S1:=Bq!;have c1:HX D5! c (g,tb):=⟨b,Ac,AC! eb⟩;have ag:Kp! D5!:=Di! (h.keep (HC s1));have dQ:=AC! ec;generalize KA! c EY!=H1 at s1 S1 c1 ag dQ;refine⟨F.co,_,_,rfl,rfl,dQ,Kt!,?_⟩;have S2:=S1.T_ (Df ag c1);rw[ZF] at S2;exact PF (PF (KE! S2 (BI! (K9 HE! b o GP! n)))) | clean h =>have ex:AD! (DZ! Cs!):=ex;have eN:N 0=F:=hN 0;refine C9! ?_;exact KQ (PF (KQ (KQ (HM! (KE! S IA!))))) | ask h =>have ex:AD! (DZ! Y?):=ex;have eN:N 0=F:=hN 0;refine C9! ?_;exact KQ (PF (KQ (KQ (HM! (KE! S IA!))))) | deliver n =>have ex:AD! [A? CL!,O! n]:=ex;have nm:∀h',Dd.deliver n≠.make h':=B5!;obtain⟨t,rfl,c⟩:=hN 0;refine C9! (KQ (PF (KQ (KQ (KQ (KQ (iy ?_)))))));rcases c with⟨n',kind,sn,g,th,xx,q,j,⟨a,b,et,ea,eb⟩,kk,g0,hq,hj,TM,eN⟩|⟨n',sn,g,th,xx,⟨a,b,et,ea,eb⟩,ne,eN⟩|⟨kind,g,⟨n',sn,a,et⟩,n1,n2,eN⟩;(.obtain⟨cs,ec,pc⟩:=S.co;have fin:∀H',CT H' fl { F with CG:=GM!,BO:=EO! g.toNat (q.1,Bn q.2 th) }->Ct!->Q .FH H':=M8! (k 0 _ (R! nm) (Nc! S') fr);rcases kk with rfl|⟨rfl,eg⟩;(.refine kT et ?_;rw[A5!];refine A2!;refine⟨_,rfl,fl,_,rfl,S.cN,BY! ec,_,rfl,t,_,3,_,rfl,rfl,Ev,H!,_,rfl,t,_,4,_,rfl,rfl,Ev,H!,a,_,0,_,rfl,rfl,Fm!,H!,DY!,Iw!⟩;have s1:=Ca! EY! hc;have S1:=Bq!;have c1:HX D5! c Dk!:=⟨b,Ac,AC! eb⟩;have ag:Kp! D5!:=Di! (h.keep (HC s1));have dQ:=AC! ec;generalize KA! c EY!=H1 at s1 S1 c1 ag dQ;refine⟨F.co,c,Dk!,cs,F.CG,j,rfl,rfl,c1,dQ,ag,hj,TM,?_⟩;have S2:=S1.T_ (Gc ag j);have JU:Hx! (LO! H1 F.co GZ!):=BI! (K9 HE! b o GP! n);generalize Gx! H1 F.co .BE GZ!=H2 at S2 JU;have kt:=JU.DO S;have j7:=EK! et;have tF:=GA!;refine⟨_,rfl,_,rfl,t,_,3,_,rfl,rfl,S? j7,H!,_,rfl,t,_,4,_,rfl,rfl,S? j7,H!,a,_,0,_,rfl,rfl,S? tF,H!,fl,b,g,Mo! GM!,q,th,rfl,S2,Ch!,g0,hq,sz.BO q (ZP hq),M8! ?_⟩;have NJ:Ct!:=BI! (fr b o (JU b o e n) n);exact iy (kT (NJ.DO S |>.A_ _ _ et) (U! (sN ZV) (Bx (Bx (fin _ S' NJ))))));.have eg:=eg.symm;subst eg;refine kT et ?_;rw[sN ZV];refine Bx (iy (kT et ?_));rw[A5!];refine Cc ⟨_,rfl,t,_,4,_,rfl,rfl,Ev,H!,a,_,1,_,rfl,rfl,Fm!,H!,_,rfl,t,_,3,_,rfl,rfl,Ev,H!,rfl,_,rfl,?_⟩;rw[A5!];refine A2!;refine⟨_,rfl,fl,_,rfl,S.cN,BY! ec,_,rfl,t,_,3,_,rfl,rfl,Ev,H!,_,rfl,t,_,4,_,rfl,rfl,Ev,H!,a,_,0,_,rfl,rfl,Fm!,H!,DY!,Iw!⟩;have s1:=Ca! EY! hc;have S1:=Bq!;have c1:HX D5! c Dk!:=⟨b,Ac,AC! eb⟩;have ag:Kp! D5!:=Di! (h.keep (HC s1));have dQ:=AC! ec;generalize KA! c EY!=H1 at s1 S1 c1 ag dQ;refine⟨F.co,c,Dk!,cs,F.CG,j,rfl,rfl,c1,dQ,ag,hj,TM,?_⟩;have S2:=S1.T_ (Gc ag j);have JU:Hx! (LO! H1 F.co GZ!):=BI! (K9 HE! b o GP! n);generalize Gx! H1 F.co .BE GZ!=H2 at S2 JU;have kt:=JU.DO S;have j7:=EK! et;have tF:=GA!;refine⟨_,rfl,_,rfl,t,_,3,_,rfl,rfl,S? j7,H!,_,rfl,t,_,4,_,rfl,rfl,S? j7,H!,a,_,0,_,rfl,rfl,S? tF,H!,fl,b,g,Mo! GM!,q,th,rfl,S2,Ch!,g0,hq,sz.BO q (ZP hq),M8! ?_⟩;have NJ:Ct!:=BI! (fr b o (JU b o e n) n);exact fin _ S' NJ);(.exact E7! kT et (sN ZV) (Bx (iy (kT et (U! A5! (Cc ⟨_,rfl,t,_,4,_,rfl,rfl,Ev,H!,a,_,1,_,rfl,rfl,Fm!,H!,_,rfl,t,_,3,_,rfl,rfl,Ev,H!,rfl,_,rfl,E! (H6! (λz=>ne (V.int.inj z))) (Bx (k 0 _ (R! nm) (Nc! S) IA!))⟩))))));.exact E7! kT et (sN n1) (Bx (iy (kT et (U! (sN n2) (Bx (Bx (KD! S IA!)))))))
universe E
universe E K63
universe N FX
open PySem PySem.Spec PyProof.Rows L2
universe S
variable {X:Cx Kx}{sc:Scope}{cl:List (Str×Addr)}{AA:List (Addr×Obj)}{σ:L2.St}{H1:Hp}{s1:Shared}{fp:List Addr}{N:List Str}
theorem Jj2{x y0:Str}{caps:k! (Str×Nat)}{h':Heap}{m:Ds!}{t':Nat}{o:Obj}(I:Gq! H1 s1)(ok:(NC X sc cl s1.heap.objs.size Jb! s1 H1 fp AA).Ok)(JM:IC X.env.cells cl)(OP:JZ X sc cl caps)(hx:MK! Ny! x)(hn:h'.Ns s1.heap.objs.size m)(hs:Heap.SameBut s1.heap.objs.size (s1.heap.push o) h') : Inv (NC X sc cl s1.heap.objs.size Jb! s1 H1 fp AA) [] (none::none::Dc σ caps) H1 { s1 with heap:=h',toks:=t' }:=by
 have kp:∀b u,E9! s1.heap.get?->E9! h'.get?:=λb u e=>(hs.2 b (BI (AR e))).trans (ZT _ e);have ND:H1 s1.heap.objs.size=none:=I.DM.fresh (ZG _);refine⟨ok,rfl,I.bare,Un.kept kp,⟨m,hn,λi y v e1 e2 e3=>?_⟩,λy c e=>?_,ND,λy c e=>I.I_ y c (JM.look e),λp hp=>?_,I.DM.kept kp,?_⟩;.match i,e1,e2 with | 0,e1,e2=>simp at e2 | 1,e1,e2=>simp at e2 | j+2,e1,e2 =>have SD:(x::y0::Ef caps)[j+2]?=some y:=e1;rw[PD,PD] at SD;(have VB:(Dc σ caps)[j]?=x? some v:=by simpa using e2);rw[ZH] at SD;unfold Dc at VB;rw[ZH] at VB;cases q:caps[j]? with | none=>rw[q] at SD;cases SD | some p =>rw[q] at SD VB;have e4:p.1=y:=ZO SD;have e5:(σ[p.2]?).join=some v:=ZO VB;have hc:=OP.at q;(have e6:σ[p.2]?=x? some v:=by cases z:σ[p.2]? with | none=>rw[z] at e5;cases e5 | some w' =>rw[z] at e5;have:w'=D? v:=e5;rw[this]);obtain⟨mm,jg,hl⟩:=I.loc;obtain⟨u,r,lk⟩:=hl p.2 p.1 v hc.n e6 (M? (v! hc.k));refine⟨u,r,G! (Op (Ge! e4 hc.f))⟩;rcases lk with⟨k1,_⟩|⟨_,c,YR,ce⟩;(.have:MK! X.env.scope.names.lookup p.1:=k1;rw[hc.k] at this;cases this);.obtain⟨oc,a7,hd⟩:=ce;exact⟨c,n? e4 (hc.l.trans YR),oc,D! kp a7,hd⟩
 .obtain⟨v,oc,a7,hd⟩:=I.cell y c (JM.look e);exact⟨v,oc,D! kp a7,hd⟩
 .have W_:p∈(X.pn++AA)++[]:=hp;rw[AG] at W_;obtain⟨a1,a2,a3,a4,a5⟩:=I.pin p W_;refine⟨D! kp a1,a2,BI (AR a1),KE,a5⟩;rcases ZM (I.QY _ z) with q|q;(.exact a3 q);.exact a4 q
 .simp[Dc,NC]
universe E
def Jew(K:W.Frag)(wi:TI)(caps:k! (Str×Nat))(tt:TT)(te:TE):TE:=λσ H Q=>wi σ H λJ H1=>∀p,H1 p=none->∃W:Nat->Nat->L!->Hp->Prop,(∃m,W 0 m [] (DI! H1 p []))/\∀i m ys H2,W i m ys H2->Cu! p /\
 ((J.stop i H2/\Q (i! p) H2)\/(J.go i H2/\∀x H3,J.TR i H2 x H3->∃a u v,x=CG!/\CS K H3 a [u,v]/\tt (Nx! u v) H3 λb H4 =>
   if b=true then te (Nx! u v) H4 λv H5=>Lc! H5 p/\ys.length<sizeLine/\G1! (W Bd! m' (ys++[v]) (DI! H5 p IO!))
   else G1! (W Bd! m' ys H4)))
universe S
variable {X:Cx Kx}{elt iter:Expr}{x y0:Str}{px bL pt pos:Pos}{kt:Nat}{ifs:List Expr}{sc:Scope}{cl:List (Str×Addr)}{caps:List (Str×Nat)}{wi:TI}{tt:TT}{te:TE}
theorem Ja5{X:Cx Kx}{AA:k! (Addr×Obj)}{σ:L2.St}{H:Hp}{s:Shared}{Q:VK}{use:Option (Value->Sem Unit)}{RQ:Value->Shared->Prop}(hc:IF!)(hi:PI X (MM! Nk!) iter wi)(OC:closureFor sc X.env=pure cl)(LR:NE! (y.2≠.cell))(JV:sc.kind=.function)(LK:NE! (y.2=.local->Da! y.1))(hx:Da! x)(cq:Da! y0)(JM:IC X.env.cells cl)(has:∀y,(Jf! .cell\/Jf! .free)->∃c,GE! c)(OP:JZ X sc cl caps)(hN:(x::y0::Ef caps).Nodup)(ht:LY! fg ifs tt)(he:LY! PE elt te)(I:KU!)(h:Jew Kx wi caps tt te σ H Q)(fin:∀(C D:Addr) (H':Hp) (s1 s':Shared) (H1:Hp),C=s1.heap.objs.size->Gq! H1 s1->Gq! H' s'->H' C=none->(∃m,s'.heap.Ns C m)->BW! D->compPost Nz! X.A X.xe use RQ Fs! C (.ok .next) s')(hs:∀v,foldedSetIterable iter X.env v=pure v) : Mb! (comprehension Hb! sc X.env (firstIterPos [⟨.Tuple Nk! kt pt,iter,ifs,0⟩] pos) (newList []) false (eval iter X.env) use) RQ s:=by
 refine wpAny_comprehension_free rfl hs OC JV LK (DZ (hi AA s σ H _ I h) λv s1 h1=>DZ h1 λoQ s2 h2=>?_);obtain⟨it,fp,tn,J,H2,e,I2,T,aW,f2,hW⟩:=h2;subst e;refine EC ?_;have VT:H2 s2.heap.objs.size=none:=I2.DM.fresh (ZG _);have I3:Gq! (NY! s2.heap.objs.size) { s2 with heap:=s2.heap.push ML! }:=I2.gP (t':=s2.toks) (its:=[]) d! (AU _);obtain⟨W,⟨m0,w0⟩,turn⟩:=hW s2.heap.objs.size VT;have sM:CR! (b≠s2.heap.objs.size):=λb hb z=>by obtain⟨o,e,_⟩:=T.obj 0 _ aW b hb;exact absurd (AR e) (U! z (DA _))
 have f3:CR! (Lp X AA (NY! s2.heap.objs.size) b):=Db (A! (Ei! (Ab (sM b hb)) (f2 b hb).1) (f2 b hb).2);have cV:tn 0 (s2.heap.push ML!):=T.keep 0 _ _ aW λb hb o e=>ZT _ e;obtain⟨D,hD⟩:∃D,D=s2.heap.objs.size:=BV!;obtain⟨H3,sE⟩:∃H3,H3=Am! H2 s2.heap.objs.size .BE:=BV!;obtain⟨s3,eZ⟩:∃s3:Shared,s3={ s2 with heap:=s2.heap.push ML! }:=BV!;have Y_:tn 0 s3.heap:=E! eZ cV
 rw[<-sE] at I3 f3 w0;rw[<-eZ] at I3;rw[<-hD] at turn;show wpAny _ _ _ _ _ ({ s2 with heap:=s2.heap.push ML! }:Shared);rw[<-eZ,<-hD];refine wpAny_newFunctionEnv LR (by intro y hy;simp at hy) (λh1 ji jc=>?_) JV;have ok:=Jhn (N:=x::y0::Ef caps) I3 f3 (Os (let⟨o,e,_⟩:=T.obj 0 _ Y_ b hb;A! o e)) JV JM has;have eX:MK! Ny! x:=lookup_relabel_local hx;have eS:MK! Ny! y0:=lookup_relabel_local cq;have J4:=Jj2 (y0:=y0) (t':=s3.toks+([]:k! (Str×Value)).length) I3 ok JM OP eX ji jc;have jC:tn 0 h1:=T.keep 0 _ _ Y_ λb hb o e=>(jc.2 b (BI (AR e))).trans (ZT _ e);have QT:∀{H':Hp},(CR! DC!)->CR! (Lp HS! [] H' b):=λhn b hb=>by refine⟨hn b hb,?_,λz=>ok.RP b hb z,C! hb,λy c e=>(f3 b hb).2.2.2.2.1 y c (JM.look e),λp hp=>?_⟩;(.exact(ok.XE b hb).1);.have W_:p∈(X.pn++AA)++[]:=hp;rw[AG] at W_;exact(f3 b hb).2.2.2.2.2 p W_
 have loop:∀s4:Shared,s4={ s3 with heap:=h1,toks:=s3.toks+([]:k! (Str×Value)).length } -> codeAny Nz! X.A (.compLoop Hb! 0 (y! it) Fs! (compEnvC sc cl s3.heap.objs.size X.env)) (compPost Nz! X.A X.xe use RQ Fs! s3.heap.objs.size) s4:=by rintro s4 rfl;refine Tv (λk s'=>∃i v0 v1 ys H',Inv HS! [] (v0::v1::Dc σ caps) H' s'/\tn i s'.heap/\(CR! DC!)/\W i k ys H') ?_ m0 ⟨0,none,none,[],H3,J4,jC,Db (f3 b hb).1,w0⟩;rintro k s5 ⟨i,v0,v1,ys,H5,I5,YL,VA,w5⟩;obtain⟨hD5,stop|⟨go,step⟩⟩:=turn i k ys H5 w5;(.obtain⟨stop,q⟩:=stop;refine DZ (T.done HS! rfl rfl hc i [] s5 _ H5 (λ_ _=>False) I5 (QT VA) YL stop) λr s6 ⟨hr,I6⟩=>?_;subst hr;obtain⟨mm,jg,_⟩:=I6.loc;exact fin _ D H5 s3 s6 H3 rfl I3 (Jcz I3 f3 I6) I6.free (A! mm jg) q);.refine DZ (T.item HS! rfl rfl hc i [] s5 _ H5 (λ_ _=>False) I5 (QT VA) YL go) λr s6 ⟨u,hr,h6⟩=>?_;subst hr;refine DZ h6 ?_;rintro _ s7 ⟨y,H7,I7,r7,y7,d0,QN⟩;have uQ:=I7.pinned (QT QN) (T.obj _ _ d0);obtain⟨ay,uu,vv,ey,eY,mZ⟩:=step y _ y7;refine DZ (Iu (X:=NC X sc cl s3.heap.objs.size Jb! s3 H3 fp AA) hc (D3! (Bk (i:=0) hN rfl (w! eX) (R! eX)) (Bk (i:=1) hN rfl (w! eS) (R! eS))) rfl rfl _ s7 (v0::v1::Dc σ caps) H7 y u (λEV H'=>EV=Nx! uu vv/\H'=H7) uQ r7 ⟨ay,_,ey,eY,rfl,_,_,rfl,_,_,rfl,rfl,rfl,rfl⟩) λ_ s8 ⟨σ8,H8,I8,e8,tG⟩=>?_;subst e8;subst tG;(have back:∀{i7:L2.St} {H9:Hp} {s9:Shared},Inv HS! ([]++Ny fp s7.heap) i7 H9 s9->tn (i+1) s9.heap/\CR! (ut H9):=λ{i7 H9 s9} I9=>by refine A! (T.keep _ _ _ d0 λb hb o e=>(I9.pin (b,o) (ZC _ (ZC _ (Fq hb e)))).1) FZ!;obtain⟨o,e,d⟩:=T.obj _ _ d0 b hb;exact(I9.pin (b,o) (ZC _ (ZC _ (Fq hb e)))).2.1);refine DZ (ht _ _ _ _ _ _ s8 _ _ _ I8 mZ) ?_;rintro ok s9 ⟨H9,I9,q9⟩;cases ok with | false =>simp only[CZ,EK] at q9 ⊢;obtain⟨m',hm,w9⟩:=q9;exact⟨m',hm,i+1,D? uu,D? vv,ys,H9,I9.J_,(back I9).1,(back I9).2,w9⟩ | true =>simp only[H_] at q9 ⊢;refine DZ (he _ _ _ _ _ _ s9 _ _ _ I9 q9) ?_;rintro xv aY ⟨v,bG,uR,qT,gX,JL,m',hm,cS⟩;refine DZ (Ea (X:=NC X sc cl s3.heap.objs.size Jb! s3 H3 fp AA) _ aY _ bG Fs! [v] Fs! [xv] (λ_ H'=>H'=upd bG D (.BE IO!)) uR rfl (Gm! qT) ⟨D,ys,v,rfl,rfl,gX,JL,rfl⟩) λ_ s11 ⟨_,i5,fy,_,j_⟩=>?_;subst j_;exact⟨m',hm,i+1,D? uu,D? vv,ys++[v],_,fy.J_,(back fy).1,(back fy).2,cS⟩
 exact codeAny_compStart_list (loop _ rfl) (T.self _ 0 _ _ _ jC (loop _ rfl))
universe E
theorem Ja4{K:W.Frag}{a p:Addr}{xs:L!}{tt:TT}{te:TE}{caps:k! (Str×Nat)}{σ:L2.St}{H:Hp}{Q:Hp->Prop}(Pv:Nat->GO! L!)(h0:Pv 0 [] (upd H p (.BE [])))(hl:∀i ys H2,NJ!->Pv i ys H2->DW K H2 a xs/\Cu! p)(hs:∀i x ys H2 (N:GO! L!),La!->Pv i ys H2->(∀ys H,Pv (i+1) ys H->N ys H)->∃a' u v',x=g! a'/\CS K H2 a' [u,v']/\Kn! tt H2 (λb H4 =>sK (b=true) (Kn! te H4 (λv H5=>Lc! H5 p/\ys.length<sizeLine/\N (ys++[v]) (DI! H5 p IO!))) (N ys H4)))(hd:∀ys H2,Pv xs.length ys H2->Q H2) : ∃W:Nat->Nat->L!->Hp->Prop,(∃m,W 0 m [] (upd H p (.BE [])))/\∀i m ys H2,W i m ys H2->Cu! p /\ (((WJ K a).stop i H2/\Q H2)\/((WJ K a).go i H2/\∀x H3,(WJ K a).TR i H2 x H3->∃a' u v',x=g! a'/\CS K H3 a' [u,v']/\Kn! tt H3 (λb H4 =>sK (b=true) (Kn! te H4 (λv H5=>Lc! H5 p/\ys.length<sizeLine/\G1! (W Bd! m' (ys++[v]) (DI! H5 p IO!)))) (G1! (W Bd! m' ys H4))))):=by
 refine AT (λi m ys H=>m=xs.length-i/\NJ!/\Pv i ys H) ⟨xs.length,Af!,FS,h0⟩;rintro i m ys H2 ⟨rfl,hi,pv⟩;obtain⟨q1,q2⟩:=hl i ys H2 hi pv;refine Op q2;by_cases JL:i<xs.length;.refine FB ⟨xs,xs[i],q1,by simp[JL]⟩ (λx H3 y=>?_);obtain⟨e,y⟩:=y;subst e;exact hs i x ys _ (λzs H'=>∃m',m'<xs.length-i/\(m'=xs.length-Bd!/\i+1<=xs.length/\Pv (i+1) zs H')) (y xs q1) pv λzs H' pz=>⟨_,B!,rfl,JL,pz⟩
 ·(have e:i=xs.length:=B!);subst e;exact C! (A! ⟨xs,q1,At⟩ (hd ys H2 pv))
universe S
variable {X:Cx Kx}{elt iter:Expr}{x y0:Str}{px bL pt pos:Pos}{kt:Nat}{ifs:List Expr}{sc:Scope}{cl:List (Str×Addr)}{caps:List (Str×Nat)}{wi:TI}{tt:TT}{te:TE}
theorem Jfm{X:Cx Kx}{i:Nat}{y:Str}{py Y':Pos}(bZ:X.N.Nodup)(TX:X.N[i]?=some y)(hy:X.env.scope.names.lookup y=some .local)(rH:swapsWith Hb! (V? Lg!) Y'.line X.env=pure true)(hc:IF!)(hi:PI X (MM! Nk!) iter wi)(OC:closureFor sc X.env=pure cl)(LR:NE! (y.2≠.cell))(JV:sc.kind=.function)(LK:NE! (y.2=.local->Da! y.1))(hx:Da! x)(cq:Da! y0)(JM:IC X.env.cells cl)(has:∀y,(Jf! .cell\/Jf! .free)->∃c,GE! c)(OP:JZ X sc cl caps)(hN:(x::y0::Ef caps).Nodup)(ht:LY! fg ifs tt)(he:LY! PE elt te)(hs:∀v,foldedSetIterable iter X.env v=pure v:=by intro _;rfl) :
 PS X (.Assign [.Name y py] Hb! Y') (λD σ H=>Jew Kx wi caps tt te σ H λv H'=>D.nx (σ.set i (V? v)) H'):=by
 intro AA s σ H D I h
 rw[exec_Assign_Name_used _ _ _ _ rH]
 refine ZR (wpAny_standAt (ZR ?_))
 show wpAny _ X.A (do let _ <-comprehension Hb! sc X.env _ (newList []) false (eval iter X.env) (V? (assign Lg! X.env))) _ _ s
 refine ZR (EJ (Ja5 (use:=D? (assign Lg! X.env)) (RQ:=λ_ s'=>SP X AA D .next s') hc hi OC LR JV LK hx cq JM has OP hN ht he I h (λC Dd H' s1 s' H1 hC I1 I' hn ⟨m,hm⟩ q=>?_) hs) (λ_ s' hq=>ZS (ZS hq)) NK!)
 subst hC
 show wpAny _ _ (assign Lg! X.env (i! Dd)) _ _ _
 refine wpAny_assign_Name (Nu I' bZ TX (w! hy) (show RelV (i! Dd) (y! Dd) from rfl) (λs2 I2 ⟨a,iE,ha⟩=>?_) (R! hy))
 have sG:s1.heap.objs.size≠a:=by
  rcases ha with z|z
  .rw[z];exact EA I1.lt
  .intro z2
   obtain⟨v,qc⟩:=I1.cell y a z
   exact absurd qc.lt (n? z2 (DA _))
 exact⟨m,hm.sameBut iE sG,λh' jd=>⟨_,H',W8 (s':=s') I1 I2 hn jd,q⟩⟩
universe E
universe E FX
universe N K63
open PySem L2 FX
theorem Jnq{a b c:Str}{cl:k! (Str×Addr)}{y:Str}(h:D1! [DQ!,DR!,(c,NameKind.local)] .cell\/D1! [DQ!,DR!,(c,NameKind.local)] .free):∃z,GE! z :=Lk (λp hp hk=>by simp only[BV,CL,HK] at hp;rcases hp with rfl|rfl|rfl<;>rcases hk with hk|hk<;>cases hk) h
def wt(hl:HL)(R:M!):Nat:=bv hl.map (λq=>HB! (q.1∈R))
theorem Jek{t:T2}{R:M!}:∀{hl:HL},t∉x! hl.map->wt hl (ci)=wt hl R
 | [],_=>rfl
 | q::hl,h=>by have h1:¬AX!:=Cw! h (ZL ..);have ih:=Jek (R:=R) (hl:=hl) λz=>h (ZD _ z);unfold wt at *;rw[AK,CF,AK,CF,ih];(have e:(HB! (q.1∈ci))=HB! (q.1∈R):=by simp[h1]);rw[e]
theorem Jel{t:T2}{R:M!}{a:Addr}{l:M!}:∀{hl:HL},J? hl.map->H3! hl.find? l->t∉R->wt hl (ci)+l.length=wt hl R
 | [],_,h,_=>FV!
 | q::hl,nd,h,nr=>by have KZ:=GU!;by_cases c:AX!;(.rw[BX] at h;simp only[c,decide_true] at h;have e:q=(t,a,l):=ZO h;have o:=Jek (R:=R) (hl:=hl) (t:=t) (FL! c KZ.1);unfold wt at *;rw[AK,CF,AK,CF,o,e,AE (ZC _ (CO.mpr rfl)),AB nr];simp only;lia);.rw[BX] at h;simp only[c,P_] at h;have ih:=Jel KZ.2 h nr;unfold wt at *;rw[AK,CF,AK,CF];(have e:(HB! (q.1∈ci))=HB! (q.1∈R):=by simp[c]);rw[e];lia
theorem Jke:∀{hl:HL},(∀q∈hl,q.2.2.length<=100)->wt hl R<=hl.length*100
 | [],_=>At
 | q::hl,h=>by have ih:=Jke (R:=R) (hl:=hl) (b? (h q (ZD _ hq)));have:=Bu! q;unfold wt at *;rw[AK,CF,BL];split<;>lia
theorem Jcg(l:M!):YE (.list (l.map OL)):=by obtain⟨a,b⟩:=uL Ha l;exact A! (by simp only[PyData.canLay0];exact a) (by simp only[PyData.depth];lia)
universe S
variable {P:Program}{w:World}{K:W.Frag}{mg:Str->Option Value}{base:Heap}
theorem ZW:q! [Eg!,"_law_reached_here","_law_left",KZ!,"_law_thing"] FS! Kg:={}
inductive Py(vs:L!)(H:Hp)(Q:VK)(E:XK):Prop
 | mk (fl:Addr) (F:LH) (Pr:e?) (_:vs=[Fl!]) (_:F?) (_:F.BO.length<=12) (_:F.holds.length<=100) (_:(Hz! (q.2.2.length<=100))) (_:FM! (q.2.length<=100)) (_:F.CG.length<=400) (_:(∀y∈F.CG,Pr y.2)) (_:FM! (∀t∈q.2,Pr t)) (_:(∀t,Pr t->∃a l,G2!/\∀u∈l,Pr u)) (_:∀(x:Addr)(R:M!)(H':Hp),AC x->f?->E3! x A9 R->R.Nodup->(∀t∈R,Pr t)->FM! (∀t∈q.2,t∈R)->(∀t∈R,∀a l,G2!->∀u∈l,u∈R)->BW! x)
theorem Yc(F':j! NL! NL! Kg):Eh! FS! Py:=by
 refine Ci! ZW;obtain⟨fl,F,Pr,rfl,S,zh,zo,zl,zq,zc,pc,ph,cl,k⟩:=h;refine K?;have hu:=IR;refine Jl! ZW.nd Dm (Ad (Jfm (te:=Ca 1) (i:=2) (caps:=[]) ZW.nd rfl rfl rfl rfl (Eh ET!) rfl ZV rfl ZV rfl rfl trivial (λy h=>Jnq h) trivial ZV (λ_ _ _ _ _=>Ip) (Ao! (pv 1))) (Ad (NF! (Eh ET!) (CB! 3 ZW.nd) (M3! GZ GY Ko Y! E?)) (Ad (Mg PassesOwn.never (K7! Y!) (Cm! 4 ZW.nd (Le BF RD RC uK Y!) (Af (Bl! Ed (Do hu (pv 4) V!) (Jd! V! H? Fx (M3! GZ GY Ko Y! (Jo! H?))))))) (k? V!))));intro ra rL;have s1:=JW! rL;have e1:KM (upd H ra (.dT [])) ra A9 []:=Ac;generalize Am! H ra .dT=H1 at s1 e1;have S1:=Bq!;obtain⟨cs,ec,xM⟩:=S1.co;have lcs:=z? xM;refine⟨_,rfl,fl,_,rfl,S1.cN,F.co,rfl,Fw! ec,λla XA=>?_⟩;have qZ:AC la:=by cases c:H la with | none=>rfl | some o=>rw[AC! c] at XA;cases XA
 have hJ:ra≠la:=λz=>by rw[<-z,e1] at XA;cases XA
 have s2:=cr XA;refine Ja4 (K:=K) (a:=F.co) (xs:=cs.map V.ref) (tt:=λ_ H Q=>Q true H) (te:=Ca 1) (caps:=[]) (σ:=[wv,T? ra,none,none,none]) (λi ys H2=>∃as,ys=Js!/\Cu! la/\Bl H1 H2/\AZ H2 as ((F.CG.take i).map c?)) ⟨[],rfl,Ac,s2,d!⟩ (IN! (by obtain⟨as,_,e,sm,_⟩:=h;exact FT! (sm _ _ ec) e)) ?_ ?_;.rintro i v ys H2 N hi ⟨as,rfl,el,sm,th⟩ hN;rw[ZH] at hi;cases oW:cs[i]? with | none=>rw[oW] at hi;cases hi | some c =>rw[oW] at hi;cases hi;(have rU:i<F.CG.length:=KJ! lcs oW);obtain⟨y,hy⟩:=An rU;obtain⟨a,f1,f2⟩:=Az xM i c y oW hy;have l1:=DF!;rw[ZA,CD] at l1;refine⟨c,_,_,rfl,Fn! sm f1,Cc ⟨_,rfl,el,Kt!,D! hN ⟨as++[a],Is!,Ac,FU!,?_⟩⟩⟩;(.rw[I4! XA];exact CT! e);.have kt:=Fl (o:=.BE (Js!++[C? a])) el;rw[DJ,hy,ZF];exact Df (AZ.keep kt th) (kt.A_ _ _ (sm _ _ f2))
 rintro ys H2 ⟨fZ,rfl,sZ,wq,wX⟩;rw[show(F.CG.take (cs.map V.ref).length)=F.CG by rw[ZA,lcs,BS]] at wX;have wu:Bl H H2:=Al s1 wq;have S2:=S.same wu;have iO:=D! wq e1;refine⟨_,rfl,fl,_,rfl,S2.OV,F.ha,rfl,Fw! S2.ha,?_⟩;refine G5! M0 F.ha (F.BO.map λq=>C? q.1) (λi σ H3=>∃u3 as ts,σ=[wv,T? ra,T? la,u3,none]/\Bl H H3/\KM H3 ra A9 []/\BK! H3 la Ce!/\AZ H3 as ts/\(∀t∈ts,Pr t)/\ts.length<=400+100*i/\∀(k:Nat) q,k<i->F.BO[k]?=some q->∀t∈q.2,t∈ts) ⟨none,fZ,_,rfl,wu,iO,sZ,wX,o! (by obtain⟨y,hy,e⟩:=ZN ht;rw[<-e];exact pc y hy),Ia!,λk q hk=>absurd hk (Nat.not_lt_zero _)⟩ (λi σ H3 _ h=>by obtain⟨_,_,_,_,sm,_⟩:=h;exact XV (S.same sm).ha);.rintro i v σ H3 hi ⟨u3,as,ts,rfl,sm,er,el,th,pr,z,hk⟩;rw[ZH] at hi;cases hq:F.BO[i]? with | none=>rw[hq] at hi;cases hi | some q =>rw[hq] at hi;cases hi;have mq:=ZP hq;have TX:i<F.BO.length:=v4 hq;have S3:=S.same sm;obtain⟨bs,eb,tb⟩:=S3.hn q mq;have l1:=DF!;have l2:=z? tb;have z2:=zq q mq;refine⟨_,rfl,Jp!,_,rfl,la,q.1,_,_,rfl,rfl,el,eb,DD (Ec (B0! ZA ZA)),?_⟩;rw[<-ZF];have kt:=Dm! (as++bs).map el;exact⟨_,as++bs,ts++q.2,rfl,A9! qZ (CT! e),S! hJ er,Ac,J9 (AZ.keep kt th) (AZ.keep kt tb),o! ((ZI ht).elim (pr t) (ph q mq t)),by rw[ZE];lia,λk r jj GK t ht=>by rcases Nat.lt_or_ge k i with h|h;(.exact ZB _ (hk k r h GK t ht));·(have:k=i:=B!);rw[this,hq] at GK;cases GK;exact ZC _ ht⟩
 rintro σ H3 ⟨u3,KR,ts1,rfl,sm1,er1,ox,jB,pr1,z1,yQ⟩;rw[ZA] at z1 yQ;have w0:=Jke (R:=[]) zl;refine AT (λm σ H'=>∃(left R:M!)(JN:SC)(u3 u4:Bp!),σ=[wv,T? ra,T? la,u3,u4]/\f?/\E3! ra A9 R/\H8! la (JN.map V.ref)/\AZ H' JN left/\R.Nodup/\(∀t∈left,Pr t)/\(∀t∈R,Pr t)/\left.length+wt F.holds R=m/\R.length+m<=40000/\(Hy! (∀t∈q.2,t∈left\/t∈R))/\(∀t∈R,∀a l,G2!->∀u∈l,u∈left\/u∈R)) ⟨_,ts1,[],KR,u3,_,rfl,sm1,er1,ox,jB,CY,pr1,am (db ht),rfl,by have:([]:M!).length=0:=rfl;lia,λq hq t ht=>by obtain⟨j,hj⟩:=BW.mp hq;exact v! (yQ j q CZ! hj t ht),o! (db ht)⟩;rintro m σ H' ⟨left,R,JN,u3',u4,rfl,sh,ef,RH,TU,nd,xI,jI,em,zm,o7,o6⟩;have lz:=z? TU;refine⟨_,rfl,FS,λp hp=>?_⟩;have sp:=cr hp;have ep:Fx! (DI! H' p []) p:=Ac;have ef:=D! sp ef;have RH:=D! sp RH;have TU:=AZ.keep (HC sp) TU;have sh:=Al sh sp;generalize Am! H' p .BE=H4 at sp ep ef RH TU sh;refine⟨_,_,.BE (DW.of RH) (J8 TU),Dj! ep,Jcg _,Jcg [],?_⟩;refine m? rfl;rw[F3];rcases List.eq_nil_or_concat left with e0|⟨a,t,e0⟩;.rw[e0];rw[e0] at o7 o6;exact Bx (Ak! (k ra R H4 rL sh ef nd jI (λq hq t ht=>(o7 q hq t ht).resolve_left λz=>L9!) λt ht a l h u hu=>(o6 t ht a l h u hu).resolve_left λz=>L9!))
 .rw[List.concat_eq_append] at e0;rw[e0] at TU ⊢;(have nV:left.length=a.length+1:=WP e0 ZE);(have mv:∀{u:T2},u∈left\/u∈R->u∈a\/u=t\/u∈R:=λ{u} h=>by rcases h with h|h;(.rw[e0] at h;rcases ZI h with h|h;(.exact d?);.exact ca (ZK h));.exact z! h);rw[show(!((a++[t]).map OL).isEmpty)=true by cases a<;>rfl];obtain⟨IQ,c,e2,i',ec'⟩:=Pq TU;subst e2;(have em2:(IQ++[c]).map V.ref=IQ.map V.ref++[C? c]:=Is!);rw[em2] at RH;refine Cc (m? (λEV H' h=>⟨m-1,B!,h⟩));refine⟨_,rfl,BY! RH,la,_,_,rfl,rfl,RH,Wf _ _,?_⟩;rw[show(IQ.map V.ref++[C? c]).dropLast=IQ.map V.ref by simp];(have s3:Bl H MP!:=A9! qZ (D! sh e));have RG:=Dm! IQ.map RH;(have RM:KM MP! ra A9 R:=S! hJ ef);have XF:JL! MP! la IQ.map:=Ac;have QS:AZ MP! IQ a:=AZ.keep RG i';have WE:=D! RG.A_ ec';generalize Gx! H4 la .BE IQ.map=H3 at s3 RG RM XF QS WE;have xJ:∀u∈a,Pr u:=AT! (E7! xI u e0 (ZB _ hu));have xH:Pr t:=E7! xI t e0 Fy!;refine⟨_,rfl,_,rfl,ra,_,rfl,Gf RM WE,_,rfl,?_⟩;by_cases hf:t∈R;(.rw[AE hf];exact Bx ⟨a,R,IQ,_,_,rfl,s3,RM,XF,QS,nd,xJ,jI,B!,B!,λq hq u hu=>(mv (o7 q hq u hu)).imp_right λh=>h.elim (λe=>e▸hf) id,λu hu b l h v hv=>(mv (o6 u hu b l h v hv)).imp_right λh=>h.elim (λe=>e▸hf) id⟩);.rw[AB hf];refine Cc ⟨_,rfl,_,rfl,ra,_,rfl,F_.t (k:=tk t) RM WE (U! ZA Nm!),?_⟩;rw[E7,show Bn R t=ci by unfold Bn;rw[AB hf]];(have s4:Bl H Ha!:=A9! rL (EQ e));(have LO:B_ H3 Ha!:=HU! RM);have UU:KM Ha! ra A9 (ci):=Ac;(have TZ:JL! Ha! la IQ.map:=S! hJ.symm XF);have QR:AZ Ha! IQ a:=AZ.keep LO QS;have dJ:=D! LO.A_ WE;rw[show HO.dT ((ci).map λq=>(tk q,V.bl true))=A9 (ci) from rfl];generalize upd H3 ra (A9 (ci))=H5 at s4 LO UU TZ QR dJ;obtain⟨ad,l,bC,prl⟩:=cl t xH;have S5:=S.same s4;have mq:=AJ bC;obtain⟨ds,ed,td⟩:=S5.hl _ mq;have ed:JL! H5 ad ds.map:=ed;have td:AZ H5 ds l:=td;have wn:=Jel S.nk bC hf;have l1:=z? QR;have l2:=z? td;refine⟨_,rfl,BY! TZ,_,rfl,fl,_,rfl,S5.OU,_,rfl,F.hd,_,rfl,S5.at bC dJ,la,ad,_,_,rfl,rfl,TZ,ed,DD (Ec (B0! ZA ZA)),?_⟩;rw[<-ZF];have XY:=Dm! (IQ++ds).map TZ;(have wR:∀{u:T2},u∈left\/u∈R->u∈a++l\/u∈ci:=λ{u} h=>by rcases mv h with h|h|h;(.exact C! (ZB _ h));(.exact G! (ZC _ (CO.mpr h)));.exact G! (ZB _ h));refine⟨a++l,ci,IQ++ds,_,_,rfl,A9! qZ (D! s4 e),S! hJ UU,Ac,J9 (AZ.keep XY QR) (AZ.keep XY td),?_,AT! ((ZI hu).elim (xJ u) (prl u)),AT! ?_,?_,?_,λq hq u hu=>wR (o7 q hq u hu),λu hu b l' h v hv=>?_⟩;(.refine Gy! nd (hf ?_);rw[<-ZK hv,<-z];exact hu);(.rcases ZI hu with hu|hu;(.exact jI u hu);.rw[ZK hu];exact xH);(.rw[ZE];lia);(.rw[ZE];show R.length+1+(m-1)<=40000;lia);.rcases ZI hu with hu|hu;(.exact wR (o6 u hu b l' h v hv));.rw[ZK hu,bC] at h;cases h;exact I1! hv
universe E
universe S
variable {D:T2->Prop}{m n:Nat}{sh:Int}{qs:List (Addr×BZ)}{ls:List LT}{t:T2}
theorem Wg.nn(x:Ix)(na:¬GY!){j:Nat}{r:Addr×BZ}(e:qs[j]?=some r):LY t r.2=Ai r.2.AI t/\0<=LY t r.2:=by have h1:Ai r.2.AH t=0:=E4 λz=>na ⟨j,r.1,r.2,e,z⟩;have h2:=Jz (x.wl.sd j r.1 r.2 e).1.nn t;unfold LY;rw[h1];exact DN!
theorem Wg.mQ(x:Ix)(nD:¬D t){l:LT}(hl:l∈ls)(e:l.th=t):GY!:=by refine Classical.byContradiction λna=>?_;have h1:=Pt x.wl.ok hl;rw[e] at h1;have h2:=O8 (t:=t) (l:=qs) λj r ej=>(x.nn na ej).2;have h3:=x.wl.sum t (w! nD);lia
theorem Wg.mR(x:Ix)(nD:¬D t){j:Nat}{q:Addr}{G:BZ}(hj:SZ)(h:QP G t):GY!:=by
 obtain⟨s,nu⟩:=x.BP hj;by_cases c:D0!;.refine⟨j,q,G,hj,?_⟩;rcases h with h|⟨r,hr,h⟩;(.exact s.ok.hk t h (U! nu c));.exact s.ok.lk r hr t h (U! nu c)
 rcases x.rc j q G hj t h c with h1|⟨l,hl,e,_⟩;.refine Classical.byContradiction λna=>?_;have h2:=Ui (t:=t) hj λi r ei _=>(x.nn na ei).2;have h4:=(x.nn na hj).1;have h4:LY t G=Ai G.AI t:=h4;have h5:=Ly (t:=t) x.wl.ok;have h3:=x.wl.sum t (w! nD);have h2:LY t G<=He t qs:=h2;lia
 .exact x.mQ nD hl e
theorem Wg.UD(x:Ix){j:Nat}{q:Addr}{G:BZ}(hj:SZ)(h:H5!):D0!/\t.2<G.AO:=by obtain⟨s,nu⟩:=x.BP hj;have:=s.ok.new t h;rw[nu] at this;exact this
universe E
structure FO(F:LH)(qs:W!)(ls:r?):Prop where
 BO:F.BO.map c?=qs.map λq=>q.2.hand
 holds:∀(j:Nat) q G,wT (qs[j]?) (At! (∃a,H3! F.holds.find? DO!))
 CG:F.CG.Perm (Dr ls)
 old:∀t∈x! F.holds.map,∃(j:Nat)(q:Addr)(G:BZ),SZ/\D0!/\t.2<G.AO
theorem Jhj{y:UF}(h:y∈Dr ls):∃l∈ls,l.th=y.2/\l.kind≠"back":=by
 obtain⟨l,hl,h⟩:=CU.mp h;refine AT l hl;unfold J6 at h;by_cases c:Im!;.rw[AE c] at h;rw[ZK h,c];exact y? ZV
 .rw[AB c] at h;by_cases c2:Ex!;(.rw[AE c2] at h;rw[ZK h,c2];exact y? ZV);.rw[AB c2] at h;cases h
universe S
variable {D:T2->Prop}{m n:Nat}{sh:Int}{qs:List (Addr×BZ)}{ls:List LT}{F:LH}
def Pr(D:e?)(qs:W!)(t:T2):Prop:=¬D t/\GY!
theorem FO.T_(x:BC!)(g:Ix):∀y∈F.CG,Pr D qs y.2:=pi (by obtain⟨l,hl,e,nb⟩:=Jhj (x.CG.mem_iff.mp hy);(have nD:¬D y.2:=n? e (g.sD.SN l hl nb));exact A! nD (g.mQ nD hl e))
theorem FO.hand(x:BC!)(g:Ix):Hy! (∀t∈q.2,Pr D qs t):=λq hq t ht=>by have:q.2∈F.BO.map c?:=Ag! M4!;rw[x.BO] at this;obtain⟨r,hr,e⟩:=ZN this;obtain⟨j,hj⟩:=BW.mp hr;(have ht:t∈r.2.hand:=FO! ht);have nD:=g.sD.hand j r.1 r.2 hj t ht;exact A! nD (g.mR nD hj (v! ht))
theorem FO.closed(x:BC!)(g:Ix):∀t,Pr D qs t->∃a l,G2!/\∀u∈l,Pr D qs u:=λt h=>by obtain⟨nD,j,q,G,hj,ho⟩:=h;obtain⟨a,hf⟩:=x.holds j q G hj t ho;refine⟨a,_,hf,AT! ?_⟩;obtain⟨r,hr,e,hm⟩:=Mz hu;have nU:¬D u:=Nd! nD e (g.sD.hold j q G hj r hr u hm z);exact A! nU (g.mR nU hj (M? ⟨r,hr,hm⟩))
theorem FO.chg{F':LH}{LF:r?}{j:Nat}{q:Addr}{G G':BZ}(x:BC!)(g:Ix)(hi:SZ)(md:CM!)(hh:F'.BO.map c?=(F.BO.map c?).set j G'.hand)(ho:Ns! (∃a,H3! F'.holds.find? (Bp G'.holds t)))(hk:∀t,t.1≠Ed!->Fh! F'.holds.find?=Fh! F.holds.find?)(hc:F'.CG.Perm (Dr LF))(od:∀t∈x! F'.holds.map,ga F.holds.map\/(D0!/\t.2<G'.AO)):FO F' (qs.set j (q,G')) LF:=by
 refine⟨by rw[hh,x.BO,List.map_set],λi r G2 e t ht=>?_,hc,o! ?_⟩;.rcases Eg e with⟨_,rfl,_⟩|⟨ne,e2⟩;(.exact ho t ht);.rw[hk t (EJ! (g.UD e2 ht).1)];exact x.holds i r G2 e2 t ht
 .have lj:j<qs.length:=v4 hi;rcases od t ht with h|⟨h1,h2⟩;(.obtain⟨i,r,G2,e,e1,e2⟩:=x.old t h;by_cases c:i=j;(.subst c;rw[hi] at e;cases e;exact⟨i,_,_,by rw[FD,AE!,AE lj],e1,B!⟩);.exact⟨i,r,G2,R? FD (AB (λz=>c z.symm)) e,e1,e2⟩);.exact⟨j,_,_,by rw[FD,AE!,AE lj],h1,h2⟩
universe E
theorem Y7[DecidableEq α]{y:α}:∀{l:AB!},y∈l->∃j:Nat,l[j]?=some y/\(∀(m:Nat) z,m<j->l[m]?=some z->z≠y)/\l.Perm (y::l.eraseIdx j)
 | a::l,h=>by by_cases c:a=y;(.exact⟨0,BN! c,λm z hm=>absurd hm (Nat.not_lt_zero _),E! c (.refl _)⟩);.obtain⟨j,h1,h2,h3⟩:=Y7 ((ZM h).resolve_left λz=>c z.symm);refine⟨j+1,h1,λm z hm e=>?_,(h3.cons a).trans (List.Perm.swap y a _)⟩;cases m with | zero =>(have e:a=z:=by simpa using e);rw[<-e];exact c | succ m=>exact h2 m z h! (by simpa using e)
theorem Ku(l:HL)(ta:T2)(v:M!)(t:T2):Fh! (C7 l ta v).find?=(l.find? NQ!).map λq=>BA! E2! v:=by unfold C7;rw[M_];refine congrArg _ (congrArg (λp=>List.find? p l) (funext λq=>?_));show T! ((BA! E2! v).1=t)=T! AX!;split<;>rfl
theorem find_key{l:HL}(h:Na! l.find? q):AX!:=B4! (DE h)
theorem Y4{l:HL}(ne:t≠ta):Bp (C7 l ta v) t=Bp l t:=by unfold Bp;rw[Ku];cases e:Gr! with | none=>rfl | some q =>have:=find_key e;show((BA! E2! v).2.2)=q.2.2;rw[AB (E! this ne)]
theorem Y5{l:HL}(h:ga l.map):Bp (C7 l t v) t=v:=by unfold Bp;rw[Ku];cases e:Gr! with | none =>obtain⟨q,hq,e2⟩:=ZN h;have:=BB.mp e q hq;simp[e2] at this | some q =>have:=find_key e;show((BA! AX! v).2.2)=v;rw[AE this]
theorem Jgz{l:HL}{tm:T2}{a0:Addr}(nt:tm∉x! l.map):Bp (l++[(tm,a0,[])]) t=Bp l t:=by unfold Bp;rw[KJ];cases e:Gr! with | some q=>rfl | none =>by_cases c:tm=t;(.simp[c]);.simp[c]
universe S
variable {D:T2->Prop}{m n:Nat}{sh:Int}{qs:List (Addr×BZ)}{ls LF:List LT}{F:LH}{j:Nat}{q:Addr}{G G':BZ}
theorem FO.at(x:BC!)(hi:SZ):∃b,F.BO[j]?=some (b,G.hand):=by
 have:(F.BO.map c?)[j]?=some G.hand:=ED! x.BO ZH hi
 rw[ZH] at this;cases e:F.BO[j]? with | none=>rw[e] at this;cases this | some p =>rw[e] at this;exact A! p.1 (by rw[<-show p.2=G.hand from ZO this])
theorem FO.less(x:BC!)(g:Ix)(hi:SZ)(l:Tk)(hc:cm.Perm (Dr LF)):FO { F with BO:=EO! j (b,G'.hand),CG:=cm } (qs.set j (q,G')) LF :=x.chg g hi (U! l.AO (BD _)) (List.map_set ..) (am (E! (l.holds t ht) (Cy! x.holds j (l.AH t ht)))) Er! hc (o! (C! ht))
theorem FO.UJ(x:BC!)(g:Ix)(hi:SZ)(l:Tk)(e:UV)(hc:cm.Perm (Dr LF)):FO { F with CG:=cm } (qs.set j (q,G')) LF:=by obtain⟨b,hb⟩:=DP!;have:=x.less (b:=b) g hi l hc;rw[e,L5 hb] at this;exact this
theorem FO.dm(x:BC!)(g:Ix)(hi:SZ)(ho:ta∈Hk!)(v:M!):FO (Dl! v) (qs.set j (q,IZ { G with holds:=C7 G.holds ta v })) ls:=by
 obtain⟨s,nu⟩:=GG!;refine x.chg g hi Ae! ?_ (am ?_) (λt ne=>?_) x.CG (o! Fk!);.show F.BO.map c?=(F.BO.map c?).set j G.hand;obtain⟨b,hb⟩:=DP!;rw[L5 (CI! hb)]
 .obtain⟨a,hf⟩:=Cy! x.holds j ht;show ∃a,H3! (C7 F.holds ta v).find? (Bp (C7 G.holds ta v) t);refine Op a;rw[Ku,hf];by_cases c:t=ta;(.subst c;rw[Y5 (E! s.ok.ke ht)];show some (if t=t then(t,a,v) else _)=_;rw[AE!]);.rw[Y4 c];show some (if t=ta then(t,a,v) else(t,a,DO!))=_;rw[AB c]
 .show Fh! (C7 F.holds ta v).find?=_;rw[Ku];cases e:F.holds.find? NQ! with | none=>rfl | some p =>have:=find_key e;show some (if p.1=ta then(p.1,p.2.1,v) else p)=some p;rw[AB λz=>ne (by rw[<-this,z];exact(g.UD hi ho).1)]
 .have ht:ga (C7 F.holds ta v).map:=ht;(have e:GW! (C7 F.holds ta v).map F.holds.map:=by unfold C7;rw[AL];refine BQ λq _=>?_;show(BA! E2! v).1=_;split<;>rfl);rw[e] at ht;exact ht
theorem FO.gM(x:BC!)(g:Ix)(hi:SZ)(a a0:Addr):o?∉I5!/\FO { F with holds:=F.holds++[(o?,a,[])],BO:=EO! j (b,G.hand++[(G.BP,G.AO)]) } (qs.set j (q,IZ (UQ G a0))) ls:=by
 obtain⟨s,nu⟩:=GG!;have nt:o?∉I5!:=λz=>by obtain⟨i,r,G2,e,e1,e2⟩:=x.old _ z;have e1:G.BP=I!:=e1;(have:i=j:=B!);subst this;rw[hi] at e;cases e;have e2:G.AO<G.AO:=e2;lia
 have nG:o?∉x! G.holds.map:=λz=>by rw[s.ok.ke] at z;have:=(s.ok.new _ z).2;have this:G.AO<G.AO:=this;lia
 refine A! nt (x.chg g hi Ht! (List.map_set ..) (am ?_) (λt ne=>?_) x.CG (o! ?_));.have ht:t∈(G.AH++[(o?,B8!)]).map (FG! q.1):=ht;show ∃a',Na! (Dy! GK!).find? (t,a',Bp (G.holds++[(o?,a0,[])]) t);rw[Jgz nG,KJ];rw[ZF] at ht;rcases ZI ht with h|h;(.obtain⟨a',hf⟩:=Cy! x.holds j h;exact A! a' (BN! hf));·(have e:Iq!:=Ap!);subst e;(have n1:F.holds.find? (λq=>T! (q.1=o?))=none:=BB.mpr (a! (by have:¬z.1=o?:=λc=>Jr! nt c;simpa using this)));(have n2:Bp G.holds o?=[]:=by unfold Bp;rw[BB.mpr (a! (by have:¬z.1=o?:=λc=>Jr! nG c;simpa using this))];rfl);exact A! a (by rw[n1,n2];simp)
 .show Fh! (Dy! GK!).find?=_;rw[KJ];have:¬o?=t:=Cw! ne nu;cases F.holds.find? NQ! with | some p=>rfl | none=>simp[this]
 .have ht:t∈J9! (Dy! GK!).map:=ht;rw[ZF] at ht;rcases ZI ht with h|h;(.exact d?);·(have e:Iq!:=Ap!);rw[e];exact FB nu (AM! (G.AO<G.AO+1))
universe E
theorem Jdd{W:Z!}(nd:J? W.map)(e1:W=l1++(k,t)::l2)(e2:W=l3++(k,u)::l4):t=u:=by
 have m1:(k,t)∈W:=EZ! e1
 have m2:(k,u)∈W:=EZ! e2
 obtain⟨i,hi⟩:=BW.mp m1;obtain⟨j,hj⟩:=BW.mp m2;have a1:(W.map v?)[i]?=some k:=CI! hi
 have a2:(W.map v?)[j]?=some k:=Jq!
 obtain⟨p1,g1⟩:=ZJ a1;obtain⟨p2,g2⟩:=ZJ a2;have e:=Lz! nd;rw[e,hj] at hi;cases hi;rfl
theorem Jj0(a b:F!)(l:LT):(Dr (EM (a++.w l::b))).Perm (J6 l++BO! Bc!):=by
 have e:EM (a++.w l::b)=EM a++l::EM b:=BN! Cs
 rw[e,Cs,Ez,Ez];show(BO! a++(J6 l++BO! b)).Perm (J6 l++(BO! a++BO! b));rw[<-AQ,<-AQ];exact List.perm_append_comm.append_right _
universe S
variable {K:W.Frag}{D:T2->Prop}{m n:Nat}{sh:Int}{F:LH}{W W':EZ}{al al':List LL}{H H1:Hp}
theorem Jja(x:FO F W.qs (EM al))(g:Wg D m n sh W.qs An!)(oM:J? W.ls.map)(kt:B_ H H1)(va:Mj!)(ef:qA K W al H v W' al' H1 dd)(hl:∀BP,dd=LL!->∃l1 l2 t,Cv!/\lv=CU!) : ∃N:Addr->LH,∀a,Zp H1 F lv v a (N a) dd/\FO (N a) W'.qs (EM al'):=by cases dd with | make h =>obtain⟨fV,G,t,a0,⟨q,hi,eW⟩,rfl,et⟩:=ef;obtain⟨q',G',i⟩:=va;obtain⟨b,hb⟩:=DP!;refine A! (λa=>{ F with holds:=F.holds++[(o?,a,[])],BO:=Nh! (b,G.hand++[(G.BP,G.AO)]) }) (λa=>?_);obtain⟨nt,r⟩:=x.gM (b:=b) g hi a a0;exact A! ⟨t,_,(b,G.hand),rfl,et,i.1,hb,nt,rfl⟩ (R? eW fV r) | three w h a b =>obtain⟨fV,G,ta,tb,ea,eb,ha,hn,c⟩:=ef;obtain⟨q',G',_,_,i,_⟩:=va;rcases c with⟨rfl,q,hi,eW⟩|⟨rfl,hb,q,hi,eW⟩|⟨rfl,q,hi,eW⟩;(.obtain⟨s,nu⟩:=GG!;have ho:=s.ok.hk ta ha hn;obtain⟨aa,hf⟩:=x.holds _ q G hi ta ho;exact Kd! (Dl! (Bn Km! tb)) ⟨ta,tb,GA!,Ch!,C! ⟨rfl,aa,_,hf,rfl⟩⟩ (x.dm g hi ho _));(.obtain⟨s,nu⟩:=GG!;have ho:=s.ok.hk ta ha hn;obtain⟨aa,hf⟩:=x.holds _ q G hi ta ho;exact Kd! (Dl! (Ff Km! tb)) ⟨ta,tb,GA!,Ch!,ca ⟨rfl,aa,_,hf,hb,(s.ok.get ta).1,rfl⟩⟩ (x.dm g hi ho _));(.obtain⟨b',IM⟩:=DP!;(exact Kd! (Ff! (b',Bn G.hand tb)) ⟨ta,tb,GA!,Ch!,z! ⟨rfl,i.1,_,IM,rfl⟩⟩ (x.less (b:=b') (G':=Na G tb) g hi KM! x.CG))) | free h b =>obtain⟨fV,G,tb,eb,hb,q,hi,eW⟩:=ef;obtain⟨q',G',_,i,_⟩:=va;obtain⟨s,nu⟩:=GG!;obtain⟨b',IM⟩:=DP!;(exact Kd! (Ff! (b',Ff G.hand tb)) ⟨tb,_,Ch!,i.1,IM,hb,s.ok.hn,rfl⟩ (x.less (b:=b') (G':=Nf G tb) g hi KM! x.CG)) | send h g' b =>obtain⟨G,G',tb,eb,⟨q,hi,eW⟩,eh,le,T_⟩:=ef;(exact EQ! (λ_=>Mo! (F.CG++[(g',tb)])) (A! (FM tb Ch!) (Hf! (x.CG.append_right _)))) | clean h =>obtain⟨G,G',⟨q,hi,eW⟩,eh,le,T_⟩:=ef;exact EQ! (λ_=>F) (y? (Hf! x.CG)) | ask h=>exact EQ! (λ_=>F) (y? (R? ef.1 ef.2 x)) | deliver BP =>obtain⟨l1,l2,t,a,z,b,el,es,p1,p2,p3,ez⟩:=ef;obtain⟨l3,l4,t',si,rfl⟩:=hl BP rfl;have et:=Jdd oM si el;subst et;cases z with | w l =>(have hm:l∈A4!:=R? es Cs Jy!);obtain⟨g0,g1,_,kk⟩:=g.wl.ok l hm;have p2:Mu! H1 t' BP:=JO.keep p2 kt;obtain⟨G,G',⟨q,hi,eW⟩,le,c⟩:=ez;(have cp:F.CG.Perm (J6 l++BO! Bc!):=by have:=x.CG;rw[es] at this;exact this.trans (Jj0 a b l));rcases c with⟨k1,eh,T_⟩|⟨k1,ne,eh,T_⟩|⟨k1,k2,eh,T_⟩;(·(have j9:J6 l=Fp! l.g:=by unfold J6;rcases k1 with k1|⟨k1,k2⟩;(.rw[AE k1]);.rw[k1,Bi!,AE!,k2]);rw[j9] at cp;obtain⟨j,hj,TM,pe⟩:=Y7 (cp.mem_iff.mpr wE);(have ce:(F.CG.eraseIdx j).Perm (Dr (EM al')):=Ei! T_ (pe.symm.trans cp).cons_inv);obtain⟨b',IM⟩:=DP!;exact EQ! (λ_=>{ F with CG:=GM!,BO:=EO! l.g.toNat (b',Bn G.hand l.th) }) (A! ⟨t',rfl,C! ⟨BP,l.kind,l.s,l.g,l.th,l.x,_,j,p2,k1,g0,IM,hj,TM,rfl⟩⟩ (by rw[eW,<-eh];exact x.less (b:=b') g hi le ce)));(·(have j9:J6 l=Fp! l.x:=by unfold J6;rw[k1,Bi!,AE!]);rw[j9] at cp;exact EQ! (λ_=>F) (A! ⟨t',rfl,ca ⟨BP,l.s,l.g,l.th,l.x,n? k1 p2,ne,rfl⟩⟩ (Hf! (cp.trans FU))));·(have j9:J6 l=[]:=by unfold J6;rw[AB k1,AB k2]);rw[j9] at cp;obtain⟨a1,b1,q1,_⟩:=p2;exact MA! l.kind l.g q1 k1 k2 (Hf! cp) | ask s g' n' u =>obtain⟨a1,q1,_⟩:=p2;exact MA! Y? g' (EK! q1) ZV ZV (R? ez.1 ez.2 x) | J' s g' n' u tk S =>obtain⟨⟨a1,q1,_⟩,_⟩:=p2;exact MA! ww g' (EK! q1) ZV ZV (R? ez.1 ez.2 x) | lt s g' ts =>obtain⟨a1,KR,q1,_⟩:=p2;obtain⟨⟨j,G,G',⟨q,hi,eW⟩,eh,le⟩,T_⟩:=ez;exact MA! "let" g' (EK! q1) ZV ZV (Hf! x.CG)
universe E
structure YF(F:LH)(n:Nat):Prop where
 a:F.holds.length<=n
 b:Hz! (q.2.2.length<=n)
theorem YF.up(x:YF F n):YF F (n+1):=A! (DY x.a) (b? (DY (x.b q hq)))
theorem YF.set(x:YF F n)(hv:v.length<=n+1):YF (Dl! v) (n+1):=by
 refine A! ?_ Et!;.show(C7 F.holds ta v).length<=n+1;unfold C7;rw[ZA];exact x.up.a
 .have hq:q∈C7 F.holds ta v:=hq;rcases Gi hq with⟨_,e⟩|h;(.rw[e];exact hv);.exact x.up.b q h
theorem YF.note{a:Addr}(x:YF F n)(h:MD! F' dd):YF F' (n+1):=by cases dd with | make h' =>obtain⟨t,tm,q,_,_,_,_,_,rfl⟩:=h;refine A! (by show(F.holds++[_]).length<=n+1;rw[ZE];exact Nat.succ_le_succ x.a) Et!;have hq:q∈Dg!:=hq;rcases ZI hq with h|h;(.exact x.up.b q h);.rw[ZK h];exact FS | three w h' a' b' =>obtain⟨ta,tb,_,_,c⟩:=h;rcases c with⟨_,aa,l,hf,rfl⟩|⟨_,aa,l,hf,_,_,rfl⟩|⟨_,_,q,_,rfl⟩;(.have:=x.b _ (AJ hf);have:l.length<=n:=this;exact x.set (EJ! (Ib l tb)));(.have:=x.b _ (AJ hf);have:l.length<=n:=this;exact x.set (by have:(Ff l tb).length<=l.length:=AW _ _;lia));.exact LP! | free h' b'=>obtain⟨_,_,_,_,_,_,_,rfl⟩:=h;exact LP! | send h' g' b'=>obtain⟨_,_,rfl⟩:=h;exact LP! | clean h'=>have h:F'=F:=h;rw[h];exact x.up | ask h'=>have h:F'=F:=h;rw[h];exact x.up | deliver k =>obtain⟨_,_,c⟩:=h;rcases c with⟨_,_,_,_,_,_,_,_,_,_,_,_,_,_,rfl⟩|⟨_,_,_,_,_,_,_,rfl⟩|⟨_,_,_,_,_,rfl⟩;(.exact LP!);(.exact x.up);.exact x.up
theorem Jj1(ls:r?):(Dr ls).length<=ls.length:=by induction ls with | nil=>exact At | cons l ls ih =>show(J6 l++Dr ls).length<=ls.length+1;(have:(J6 l).length<=1:=by unfold J6;split;(.exact At);.split<;>simp);rw[ZE];lia
structure Bt(CW C CP CI:Addr)(K:W.Frag)(H:Hp)(p:Addr)(W:EZ)(D:e?)(m n d A B:Nat)(al:F!)(ys:K!)(fl:Addr)(F:LH):Prop where
 wi:J!
 fa:F?
 fr:FO F W.qs (EM al)
 fn:YF F n
 off:Fc! (As!/\Dq!)
universe S
variable {CW C CP CI p fl:Addr}{K:W.Frag}{H H':Hp}{W W':EZ}{D D':T2->Prop}{m n:Nat}{al al':List LL}{ys HG:List Qy}{F F':LH}
theorem Bt.BO(x:A6!):F.BO.length=m/\(Hy! (q.2.length<=n))/\F.CG.length<=B:=by
 have e:=x.fr.BO;refine AT ?_ Et!;.have:=congrArg List.length e;rw[ZA,ZA,x.wi.wg.wl.len] at this;exact this
 .have:q.2∈F.BO.map c?:=Ag! M4!;rw[e] at this;obtain⟨r,hr,e2⟩:=ZN this;obtain⟨j,hj⟩:=BW.mp hr;have:=(x.wi.wg.BP (q:=r.1) (G:=r.2) hj).1.ok.hz;rw[<-e2];exact this
 .rw[x.fr.CG.length_eq];exact AV (Jj1 _) (AV (List.length_filterMap_le ..) x.wi.len.2)
theorem Bt.sz(x:A6!)(hn:n<=60)(hB:P?):FSz F:=by obtain⟨_,h2,h3⟩:=x.BO;exact⟨MH! h2,by have:=x.fn.a;lia,MH! x.fn.b,B!⟩
theorem WI.mn(x:J!)(k:KC! (FW!\/b∈ys.flatMap C8))(kt:Ch):NO! H' al :={ x with wa:=x.wa.keep (CE! (C6! (w! hb))),lw:=Dp x.lw kt,at_:=pi ((x.at_ y hy).keep (CE! (C6! (M? (CU.mpr ⟨y,hy,hb⟩)))) kt) }
theorem WI.DO(x:J!)(f:Ko!):Ch:=by
 have no:∀b o,bn->((∃xs,o=.A_ xs)\/∃ob u,o=.GV ob u)->As!/\Dq!:=λb o e c=>by refine A! KE KE;(.obtain⟨o',e',h1,h2⟩:=x.wa.some_at z;rw[e] at e';cases e';rcases c with⟨xs,c⟩|⟨ob,u,c⟩;(.exact h1 _ c);.exact D! h2 c);.obtain⟨y,hy,hb⟩:=CU.mp z;obtain⟨o',e',h1,_,h2⟩:=(x.at_ y hy).has hb;rw[e] at e';cases e';rcases c with⟨xs,c⟩|⟨ob,u,c⟩;(.exact h1 _ c);.exact D! h2 c
 exact A! (λa xs e=>f a _ e (no a _ e (w! (A! xs rfl))).1 (no a _ e (w! (A! xs rfl))).2) (λa o u e=>f a _ e (no a _ e (R! (FM o u))).1 (no a _ e (R! (FM o u))).2)
theorem Bt.same(x:A6!)(s:f?):Hl! H' W D n d A B al ys F:=⟨x.wi.same s,x.fa.same s,x.fr,x.fn,x.off⟩
theorem Bt.de(x:A6!)(wf:Ko!)(fp:LJ! HG):KS!/\(Fc! (b∉Bn!/\b∉HG.flatMap C8)):=by
 refine A! (x.fa.keep (CE! (wf b o e (x.off b hb).1 (x.off b hb).2)) (x.wi.DO wf)) FZ!;obtain⟨o,e,_⟩:=x.fa.has hb;have no:¬(b∈Bn!\/b∈HG.flatMap C8):=λz=>by rcases fp b z with h|h|h;(.exact(x.off b hb).1 h);(.exact(x.off b hb).2 h);.rw[e] at h;cases h
 exact A! (λz=>no (v! z)) (λz=>no (M? z))
theorem Jqe(wi:J!)(fa:F?)(off:Fc! (As!/\Dq!))(ff:Ct!)(iK:CT H' fl F')(fr':FO F' W.qs (EM al))(fn':YF F' n)(sub:EN! F9! FX!):Hl! H' W D n d A B al ys F':=by
 refine⟨wi.mn (CE! (ff b o e KE)) (ff.DO fa),iK,fr',fn',FZ!⟩;.rcases hb with h|h;(.exact(off b z).1 h);.exact(off b z).2 h
 .rcases sub b hb with h|h;(.exact off b h);.refine A! KE KE;(.obtain⟨o,e,_⟩:=wi.wa.some_at z;rw[h] at e;cases e);.obtain⟨y,hy,hb⟩:=CU.mp z;obtain⟨o,e,_⟩:=(wi.at_ y hy).has hb;rw[h] at e;cases e
universe E
universe E K63
universe N FX
open PySem PySem.Spec PyProof.Rows L2
def Jon(K:W.Frag)(D:Addr)(tb:(L2.St->XK)->TS)(ts:TS):TS:=λE σ H=>tb (λEV cls _ H'=>∃C,Jmk K D cls C/\ts E EV H') E σ H
universe S
theorem Jlc{X:Cx Kx}(XR:X.stack=EE!)(cz:X.env.frame=D? X.env.locals)(hex:X.ex=[])(hg:Gl X x)(cD:Xa Kx X.mg x D)(hb:∀(AA:k! (Addr×Obj)) (E:Value->Shared->Prop) (ES:L2.St->XK),Xb (Tc X AA E) ES->PM (Tc X AA E) body (tb ES))(hs:∀ex,PM (jX X ex) (mL::df) ts)(hd:(x==("__debug__":Str))=false:=by decide) : PS X (.Try body [.ExceptHandler (V? (.Name x np)) none (mL::df) ZY] [] [] pos) (Jon Kx D tb ts):=by
 intro AA s σ H E I h;refine wpAny_Try_except (EJ (hb AA (λe s1=>Mb! (noteFrame e X.env) (λ_ s2=>Mb! (setFlight e none) (λ_ s3=>Mb! (handleBy e X.env [.ExceptHandler (V? (.Name x np)) none (mL::df) ZY]) (SP X AA E) s3) s2) s1) _ ?_ [] s σ H E (Jd0 I) h) (λf s1 q=>?_) λe s1 q=>q);· intro UI EV H0 s0 e s' I0 ⟨ex,cls,H',he,xt,⟨C,⟨ZZ,gR⟩,hE⟩,ho,yT,u,ok⟩;subst he ZZ;have I1:Inv X AA EV H0 s0:=Ic I0;(have yg:∀b∈MK (EE!),DC!:=Db (by have:=E7! I1.QH b XR hb;obtain⟨o,e1,_⟩:=(I1.stack.mem (U! XR hb)).2;exact u.free b o e1 this Eq!));(have frg:∀b∈MK (EE!),¬(ut s0.heap.get?/\DC!):=λb hb z=>by obtain⟨o,e1,_⟩:=(I1.stack.mem (U! XR hb)).2;rw[e1] at z;cases z.1);have I2:Inv X AA EV H' s':=I1.WQ (ch:=[]) ho u ok yT (Os (by simp at hb));(have fl:s'.heap.FunFrames X.base (EE!):=by have:=I2.stack;rwa [XR] at this);(have hfm:X.A.frames=some (EE!):=I? I1.ok.frames XR);(have none_:∀b,ut s'.heap.get?->ut s0.heap.get?/\DC!:=λb q=>by constructor;(.cases q2:s0.heap.get? b with | none=>rfl | some o =>obtain⟨o',e1⟩:=u.there b o q2 Eq!;rw[q] at e1;cases e1);.cases q2:H' b with | none=>rfl | some o =>obtain⟨ob,e1⟩:=Oa ok q2;rw[q] at e1;cases e1);(have back:∀{h':Heap} (t:Nat),L_ (MK (EE!)) (λb=>ut s0.heap.get?/\DC!) s'.heap h'->Inv X AA EV H' { s' with heap:=h',toks:=t }:=λ{h'} t as=>by refine I1.WQ (s':={ s' with heap:=h',toks:=t }) (ch:=[]) ho ?_ (Td ok as yg λb z=>z.2) yT (Os (by simp at hb));have u':Un (MK X.stack) [] H0 H' s0.heap s'.heap:=u;exact Xf u' as (λb o e1 z=>by rw[e1] at z;cases z.1) (λb o e1 m=>E! XR m) yg);refine Jlr (base:=X.base) (L:=X.env.locals) hfm fl cz xt none_ λh1 x1 KR=>?_;have J1:=back s'.toks KR;obtain⟨oe,vs,a0,T,oT,cT,b1,b2,b3,_⟩:=x1.2;refine wpAny_handleBy_cons (codeAny_handlers_test (Kq (X:=jX X ex) (Jcl J1) hg cD.mg ?_ hd)) (by intro q;cases q);refine Jkp J1.TL cD.ex gR b1 b2 ?_;refine codeAny_handlers_suite (Jlu (s:={ s' with heap:=h1 }) x1 frg λh2 x2 UA=>?_);have J2:=back s'.toks (KR.trans UA);refine EJ (hs ex AA _ _ _ E (Jcl J2) hE) (λf s5 q=>?_) λ_ _ z=>z.elim;cases f with | next=>obtain⟨qC,H5,J5,q5⟩:=q;exact⟨_,H5,MF!,q5⟩ | brk=>obtain⟨qC,H5,J5,q5⟩:=q;exact⟨_,H5,MF!,q5⟩ | cont=>obtain⟨qC,H5,J5,q5⟩:=q;exact⟨_,H5,MF!,q5⟩ | ret v=>obtain⟨v5,qC,H5,J5,r5,q5⟩:=q;exact⟨v5,_,H5,MF!,r5,q5⟩
 .cases f with | next=>obtain⟨VW,H1,I1,q1⟩:=q;exact NQ ⟨VW,H1,Ic I1,q1⟩ | brk=>obtain⟨VW,H1,I1,q1⟩:=q;exact⟨VW,H1,Ic I1,q1⟩ | cont=>obtain⟨VW,H1,I1,q1⟩:=q;exact⟨VW,H1,Ic I1,q1⟩ | ret v=>obtain⟨v1,VW,H1,I1,r1,q1⟩:=q;exact⟨v1,VW,H1,Ic I1,r1,q1⟩
universe E
universe E FX
universe N K63
open PySem L2 FX
theorem Jm0{A B:TS}{D:Ends}{σ:L2.St}{H:Hp}(R:GO! L2.St)(h1:∀nx,(∀EV H',R EV H'->nx EV H')->A { D with nx:=nx } σ H)(h2:∀EV H',R EV H'->B D EV H'):Jmt A B D σ H:=h1 _ h2
theorem Ks{F:LH}(hq:F.BO[j]?=some q)(v:M!):GW! (F.BO.set j (q.1,v)).map F.BO.map:=E! List.map_set (L5 (CI! hq))
theorem So(h:MD! F' dd)(ha:F8!\/∀h,dd≠.make h):EN! F9! FX!:=by
 have go:∀(F':LH),F'.ha=F.ha->F'.hd=F.hd->F'.co=F.co->GW! F'.BO.map F.BO.map->F'.holds.map Bx!=F.holds.map Bx!->EN! F9! FX!:=λF' e1 e2 e3 e4 e5 b hb=>by unfold Er WD at hb ⊢;rw[e1,e2,e3,e4,e5] at hb;exact C! hb
 cases dd with | make h' =>obtain⟨t,tm,q,_,_,_,hq,_,rfl⟩:=h;have ha:F8!:=ha.resolve_right λz=>z h' rfl;intro b hb;unfold Er at hb ⊢;rcases ZM hb with hb|hb;(.exact v! (E! hb (ZL ..)));rcases ZM hb with hb|hb;(.exact v! (E! hb (ZD _ wE)));have hb:b∈F.ha::F.co::(x! (F.BO.set h'.toNat (q.1,q.2++[tm])).map++(Dy! (tm,a,[])).map (λq=>a?)):=hb;rw[Ks hq,ZF,<-AQ] at hb;have hb:b∈WD F++[a]:=hb;rcases ZI hb with h|h;(.exact C! (ZD _ (ZD _ h)));.rw[ZK h];exact G! ha | three w h' a' b' =>obtain⟨ta,tb,_,_,c⟩:=h;rcases c with⟨_,aa,l,hf,rfl⟩|⟨_,aa,l,hf,_,_,rfl⟩|⟨_,_,q,hq,rfl⟩;(.exact go _ rfl rfl rfl rfl (L6 ..));(.exact go _ rfl rfl rfl rfl (L6 ..));.exact Kq! (Ks hq _) | free h' b'=>obtain⟨_,_,_,_,hq,_,_,rfl⟩:=h;exact Kq! (Ks hq _) | send h' g' b'=>obtain⟨_,_,rfl⟩:=h;exact Kq! rfl | clean h'=>have h:F'=F:=h;rw[h];exact Eu! | ask h'=>have h:F'=F:=h;rw[h];exact Eu! | deliver k =>obtain⟨_,_,c⟩:=h;rcases c with⟨_,_,_,_,_,_,_,_,_,_,_,hq,_,_,rfl⟩|⟨_,_,_,_,_,_,_,rfl⟩|⟨_,_,_,_,_,rfl⟩;(.exact Kq! (Ks hq _));(.exact Eu!);.exact Eu!
universe S
variable {P:Program}{w:World}{K:W.Frag}{mg:Str->Option Value}{base:Heap}{CW C CP CI NH NI NL NHd NNr MI NW:Addr}
theorem SH:q! [AQ!,Eg!,IE!,"_law_letter","_law_made","_law_thin"] Bv! Xr:={}
def BFr(p:Addr)(W:EZ)(ys:K!)(fl:Addr)(F:LH)(H H':Hp):Prop:=∀b o,bn->As!->Dq!->b∉Er fl F->ES!
def Jmo(K:W.Frag):TT:=Fu (NZ VY (G0! 0) (NZ (P9 K) (Ca 1) (tC (N! 1))))
def After(m:Nat)(W:EZ)(al:F!)(W':EZ)(al':F!)(ys HG:K!)(F F':LH)(dd:Dd):Prop :=
 ((∃v,uU m W al v W' al' ys HG dd)/\∀k,dd=.deliver k->Dt W'.qs=Dt W.qs/\F'.holds=F.holds)\/(W'=W/\al'=al/\HG=ys/\F'=F/\∃h g b,dd=.send h g b)
theorem Zj(c:DG! j)(e:G'.AO=G.AO):Dt W'.qs=Dt W.qs:=by obtain⟨q,h1,h2⟩:=c;rw[h2,N5 h1];show Bs!-G.AO+G'.AO=_;lia
theorem Jg9(ef:qA K W al H v W' al' H' (.deliver k)):Dt W'.qs=Dt W.qs:=by obtain⟨l1,l2,t,a,z,b,_,_,_,_,_,e⟩:=ef;cases z with | w l=>obtain⟨G,G',c,ls,_⟩:=e;exact Zj c ls.AO | lt s g ts=>obtain⟨⟨j,G,G',c,_,ls⟩,_⟩:=e;exact Zj c ls.AO | ask s g n u=>rw[e.1] | J' s g n u tk S=>rw[e.1]
theorem Jai(h:MD! F' (.deliver k)):F'.holds=F.holds:=by obtain⟨_,_,c⟩:=h;rcases c with⟨_,_,_,_,_,_,_,_,_,_,_,hq,_,_,rfl⟩|⟨_,_,_,_,_,_,_,rfl⟩|⟨_,_,_,_,_,rfl⟩<;>rfl
inductive Us(CW C CP CI:Addr)(K:W.Frag)(vs:L!)(H:Hp)(Q:VK)(E:XK):Prop
 | mk (p fl x:Addr) (W:EZ) (D:e?) (m n d A B A' B':Nat) (al:F!) (ys:K!) (F:LH) (dd:Dd) (_:vs=[l?,Fl!,g! x]) (_:IU! x o5 dd) (_:A6!) (_:W?) (_:P?) (_:d<900) (_:Mj!) (_:uV m A B A' B' dd) (_:∀(v:V)(H':Hp)(W':EZ)(D':e?)(al':F!)(HG:K!)(F':LH),LH! H' (n+1) (d+1) A' B' F'->BFr p W ys fl F H H'->(∀b o,bn->As!->Dq!->b∉Er fl F->b∉F9!)->W'.hs=W.hs->After m W al W' al' ys HG F F' dd->Q v H')
theorem Jix(F':j! G8! G8! Xr)(T:Bw!)(TW:AL!)(sub:W.mroIn K NW (i! NW)=some true)(MD:g? NI! n9 DS! fD dD)(GD:No 7 fD dD DS! (tq CW C CP CI NH NHd NNr MI NW K))(ML:Mi! fL dL)(GL:Lv! fL dL)(MN:g? Mz! Vh D9! fN dN)(GN:B9! fN dN D9! Uu) : CH! 8 f fd Bv! Us:=by
 refine Ci! SH;obtain⟨p,fl,x,W,D,m,n,d,nA,nB,A',B',al,ys,F,dd,rfl,ex,B,hn,hB,hd,va,cs,k⟩:=h;refine K?;have hr7:DP 7 _:=hr;have LP:DH!:=L?;refine LM! 3 SH.nd uM (Aj! (Bh (EI! Ai!) (Af (v6 3 SH.nd (Aw Dg (Eo (tt:=Jmo K) (te:=Ca 0) (caps:=[(IE!,2)]) rfl (Eh (C3 (pl:=_) B? TW.cl ML.mt GL LP ML.bd d! Ba)) rfl ZV rfl ZV rfl JD! (KW! FX.NK) LQ! ZV (Ao! (En (Ax Cg (HR! 0) l! (A5 _)))) (Ao! (pv 0))) Ag))) A3) (JO! SH.nd uM) (v6 5 SH.nd Fx) (Jlc rfl rfl rfl rfl T.cNW (λAA E ES hES=>Af (Av (i:=4) SH.nd rfl (Or.inl rfl) (Jfv GD hr7 B3! MD.mg MD.fn.kp MD.bd hES (BL! B? Y!)))) (λex=>Af (Av (i:=5) SH.nd rfl (Or.inl rfl) Fx))) (Af (Bh (Z7 (Hg (pv 5))) (Af (A4 (BQ! GN LP MN.mg MN.fn.kp MN.bd (FC! V! Y! E? H?)))) A3)));have oM:J? W.ls.map:=B.wi.wa.po.nd;refine Jm0 (λEV H1=>EV=Mf! .FH/\H=H1) (λnx hx=>D! hx H7!) ?_;rintro _ _ ⟨rfl,rfl⟩;refine Jm0 (λEV H1=>∃lv,EV=Mf! lv/\Bl H H1/\∀BP,dd=LL!->∃l1 l2 t,Cv!/\lv=CU!) ?_ ?_;.intro nx hx;have go:(∀BP,dd≠LL!)->nx (Mf! .FH) H:=λnd=>D! hx ⟨.FH,rfl,NK!,λBP z=>absurd z (nd BP)⟩;cases dd with | make h=>exact HY! | three w' h a b =>obtain⟨_,_,_,_,_,_,_,_,_,c⟩:=va;refine hV (go B5!) ex rfl ?_;(rcases c with⟨rfl,_⟩|⟨rfl|rfl,_⟩<;>decide +kernel) | free h b=>exact HY! | send h g b=>exact HY! | clean h=>exact HY! | ask h=>exact HY! | deliver BP =>obtain⟨l1,l2,t,el⟩:=va;obtain⟨dx,hp⟩:=B.wi.wa.ob;have ex:AD! Gv!:=ex;refine Jok ?_ ex;refine Hd! dx hp GT! W B.wi.wa (λla H1 XA zS s1=>⟨la,rfl,Fw! zS,λpl RL=>?_⟩);have lw:=Dp B.wi.lw (HC s1);have lz:=B.wi.PV hB;(have ntt:∀(i:Nat)(y:Hj!),W.ls[i]?=some y->∃kind s g a,Ho! H1 y.2 [O! y.1,A? kind,O! s,Ee!,CG!]:=λi y hy=>by obtain⟨z,hz⟩:=N4! al i B.wi.len.1 hy;have r:=Az lw i y z hy hz;cases z with | w l=>obtain⟨a,b,e,_⟩:=r;exact L7! | ask s g n' u=>obtain⟨a,e,_⟩:=r;exact L7! | J' s g n' u tk S=>obtain⟨⟨a,e,_⟩,_⟩:=r;exact L7! | lt s g ts=>obtain⟨a,as,e,_⟩:=r;exact L7!);have s2:=cr RL;refine Gj (K:=K) (a:=la) (p:=pl) (xs:=W.ls.map Nj!) (tt:=Jmo K) (te:=Ca 0) (caps:=[(IE!,2)]) (σ:=Mf! .FH) (λi ys H2=>ys=(sK (l1.length<i) [C? t] [])/\Cu! pl/\Bl H1 H2) ⟨rfl,Ac,s2⟩ (IN! (FT! (h.2.2 _ _ zS) h.2.1)) ?_ ?_;(.rintro i v ys H2 N' hi ⟨ey,ep,sm⟩ hN;rw[ZH] at hi;cases hy:W.ls[i]? with | none=>rw[hy] at hi;cases hi | some y =>rw[hy] at hi;cases hi;obtain⟨kind,s',g,a,ey2⟩:=ntt i y hy;refine⟨_,rfl,y.2,_,0,_,rfl,rfl,Fn! sm ey2,H!,_,rfl,x,_,1,_,rfl,rfl,Fn! sm (s1 _ _ ex),H!,rfl,_,rfl,?_⟩;(have WH:W.ls[l1.length]?=some (BP,t):=ED! el (NA (ZG _)) Nat.sub_self);by_cases c:i=l1.length;(.subst c;rw[WH] at hy;cases hy;rw[A5!];rw[AB (DA _)] at ey;subst ey;refine Cc ⟨_,rfl,ep,L3! (0<sizeLine),D! hN ⟨BN! (AE (HQ _)),Ac,FU!⟩⟩;rw[I4! RL];exact CT! e);.have ne:¬G? y.1=V.int BP:=λz=>c (by have z:=V.int.inj z;(have a1:(W.ls.map v?)[i]?=some BP:=by rw[ZH,hy,<-z];rfl);(have a2:(W.ls.map v?)[l1.length]?=some BP:=CI! WH);obtain⟨p1,g1⟩:=ZJ a1;obtain⟨p2,g2⟩:=ZJ a2;exact Lz! oM);rw[IJ! ne];refine Bx (hN _ _ ⟨?_,ep,sm⟩);rw[ey];by_cases c2:l1.length<i;(.rw[AE c2,Bk!]);.rw[AB c2,A0!]);.rintro ys H2 ⟨ey,ep,sm⟩;rw[ZA,AE (by rw[el,ZE,BL];lia)] at ey;subst ey;exact⟨pl,_,0,_,rfl,rfl,XV ep,H!,D! hx ⟨CU!,rfl,Al s1 sm,λJOM z=>by cases z;exact⟨l1,l2,t,el,rfl⟩⟩⟩
 rintro _ H1 ⟨lv,rfl,s1,hl⟩;have B1:=B.same s1;have zI:=AC! ex;have wQ:=va.keep (HC s1);obtain⟨dx,hp⟩:=B1.wi.wa.ob;refine⟨_,rfl,_,rfl,p,x,dx,_,dd,rfl,zI,hp,Jeo W,?_⟩;refine Jl5 (R:=λv W' al' HG H'=>qA K W al H1 v W' al' H' dd/\uU m W al v W' al' ys HG dd) B1.wi hn hB hd wQ cs (λv W' D' al' HG H' ⟨zX,ef2⟩ fp wi YK o3=>?_) (λ_ _ _ _ _ e e2=>A! e e2) ?_;.have kt:=B1.wi.DO YK;obtain⟨iK,gL⟩:=B1.de YK fp;obtain⟨N,hN⟩:=Jja B1.fr B1.wi.wg oM kt wQ zX hl;refine HI! A2!;refine⟨_,rfl,_,rfl,_,rfl,_,rfl,fl,x,lv,v,F,N,dd,rfl,iK,B1.sz (B!) hB,EK! zI,λa=>HF!,λa H2 ha fa2 ff=>?_⟩;refine k _ H2 W' D' al' HG (N a) (Jqe wi iK gL ff fa2 (hN a).2 (B1.fn.note HF!) (So HF! ha)) (λb o e n1 n2 n3=>ff b o (YK b o GP! n1 n2) n3) (λb o e n1 n2 n3 hb=>by rcases So HF! ha b hb with h|h;(.exact n3 h);.rw[YK b o GP! n1 n2] at h;cases h) o3 (w! (A! (A! _ ef2) (λk e=>by subst e;exact A! (Jg9 zX) (Jai HF!))))
 .rintro⟨h0,g0,b0,rfl⟩;refine AT NW (y? sub);refine HI! Bm!;exact k _ H1 W D al ys F ⟨B1.wi.upn cs.1 (AV (OY ..) cs.2),B1.fa,B1.fr,B1.fn.up,B1.off⟩ (λb o e _ _ _=>AC! e) (λb o e n1 n2 n3=>n3) rfl (R! ⟨rfl,rfl,rfl,rfl,_,_,_,rfl⟩)
theorem Jo7:q! Es! Es! p7:={}
inductive Je5(vs:L!)(H:Hp)(Q:VK)(E:XK):Prop
 | mk (m:Nat) (_:vs=[O! X?]) (_:m<=12) (_:∀(fl:Addr)(F:LH)(H':Hp),f?->(Fc! (ut H))->KS!->F.BO.map c?=List.replicate m []->F.holds=[]->F.CG=[]->BW! fl)
theorem Jnr{a b:Str}{cl:k! (Str×Addr)}{y:Str}(h:D1! [DQ!,DR!] .cell\/D1! [DQ!,DR!] .free):∃z,GE! z :=Lk (λp hp hk=>by simp only[BV,CL,HK] at hp;rcases hp with rfl|rfl<;>rcases hk with hk|hk<;>cases hk) h
theorem Ji5(F':j! II! II! p7)(T:Bw!):Eh! Es! Je5:=by
 refine Ci! Jo7;obtain⟨m,rfl,ck,k⟩:=h;refine K?;refine m? (Af (Ay (Jin (Qb A7 (Eo (te:=ti Jq) (caps:=[]) rfl (L4! (Z? B?)) rfl ZV rfl ZV rfl trivial (λy h=>Jnr h) trivial ZV (λ_ _ _ _ _=>Ip) (Ao! (Ee Ae))) (Qb A7 Dm (Qb A7 (Ee Ae) Jij))) rfl rfl (by intro z;cases z) (P!))));intro fl rY;have s0:=Ah (o:=.dK []) rY;have e0:EW! (upd H fl (.dK [])) fl []:=Ac;generalize Am! H fl .dK=H0 at s0 e0;refine⟨_,rfl,X?,rfl,B!,B!,λr GK=>?_⟩;have s1:=GF!;refine Je (lo:=0) (n:=m) (tt:=λ_ H Q=>Q true H) (te:=ti Jq) (caps:=[]) (σ:=[Aw! X?]) (λi ys H2=>Cu! r/\Bl H0 H2/\∃as:SC,ys=Js!/\as.length=i/\(∀a∈as,Fx! H2 a/\H0 a=none)/\(r::as).Nodup) ⟨Ac,s1,[],rfl,rfl,(λa ha=>db ha),Af!⟩ (IN! h.1) ?_ ?_;.rintro i ys H2 N hi ⟨er,s2,as,rfl,la,ha,nd⟩ hN;refine Cc (CO! (λa na=>?_));have s3:=cr na;(have ar:a≠r:=λz=>by rw[z,er] at na;cases na);refine⟨EQ er,Ec (Ia!),D! hN ⟨Ac,FU!,as++[a],Is!,WP ZE la,Iw!,?_⟩⟩;(.rw[I4! GK];exact EQ (s2 _ _ e));(.rcases ZI hc with hc|hc;(.obtain⟨h1,h2⟩:=ha c hc;rw[Ab (Cw! (AN.mp nd).1 hc)];exact A! (EQ h1) h2);.rw[ZK hc,Ab ar];refine Op Ac;cases c':H0 a with | none=>rfl | some o=>rw[D! s2 c'] at na;cases na);.have:((r::as)++[a]).Nodup:=Gy! nd (by rw[ZK hv] at z;subst z;rcases ZM hu with h|h;(.exact ar h);.rw[(ha _ h).1] at na;cases na);exact this
 rintro ys H2 ⟨er,s2,as,rfl,la,ha,nd⟩;refine λhd bX=>CO! (λco oV=>?_);have s3:=JW! bX;have ed:KM (upd H2 hd (.dT [])) hd .dT []:=Ac;generalize Am! H2 hd .dT=H3 at s3 ed oV;have s4:=cr oV;have ec:Fx! (DI! H3 co []) co:=Ac;generalize Am! H3 co .BE=H4 at s4 ec;have qO:=Al s3 s4;have xB:=Al s2 qO;have UU:=D! xB e0;refine⟨UU,J3 ⟨r,hd,co,as.map Ix!,[],[]⟩,rfl,L3! (3<=15),?_⟩;rw[Jl2];have nf:∀b o,BK! H4 b o->b≠fl:=λb o e z=>by rw[z,UU] at e;cases e
 have ndf:hd≠fl:=λz=>by have:=D! s4 ed;rw[z,UU] at this;cases this
 have UT:=D! qO er;have TZ:∀a∈as,Fx! H4 a:=λa h=>D! qO (ha a h).1;have xX:∀b o,AW! H2->b≠co:=λb o e z=>by have:=EQ e;rw[z,oV] at this;cases this
 refine k fl ⟨r,hd,co,as.map Ix!,[],[]⟩ _ (FU!) (Os ?_) ⟨Ac,?_,Et!,?_,(b? (db hq)),⟨[],?_,d!⟩,?_,CY⟩ ?_ rfl rfl;.rw[Fo! rY];exact D! xB (s0 _ _ e)
 .have hb:b∈fl::hd::r::co::(J9! Lb!++[]):=hb;rw[AL,AG,ER! (((λq:Addr×List T2=>q.1) ∘ Ix!)=id),List.map_id] at hb;simp only[BV] at hb;rcases hb with rfl|rfl|rfl|rfl|hb;(.exact rY);(.exact Bw s0 (Bw s2 bX));(.exact Bw s0 GK);(.exact Bw s0 (Bw s2 (Bw s3 oV)));.exact Bw s0 (ha b hb).2
 .rw[Ab (nf _ _ UT),UT];show _=x? HO.BE (NW! Lb!);rw[AL];rfl
 .obtain⟨a,h,rfl⟩:=ZN hq;exact⟨[],by show upd _ _ _ a=_;rw[Ab (nf _ _ (TZ a h)),TZ a h];rfl,d!⟩
 .show upd _ _ _ hd=_;rw[Ab ndf,D! s4 ed];rfl
 .show upd _ _ _ co=_;rw[Ab (nf _ _ ec),ec];rfl
 .show(r::co::(J9! Lb!++[])).Nodup;rw[AL,AG,ER! (((λq:Addr×List T2=>q.1) ∘ Ix!)=id),List.map_id];obtain⟨n1,n2⟩:=GU!;refine AN.mpr (A! KE (AN.mpr (A! (λz=>xX _ _ (ha co z).1 rfl) n2)));rcases ZM z with h|h;(.exact xX _ _ er h);.exact n1 h
 .show Lb! (λq=>q.2)=_;rw[AL,<-la];exact List.map_const' ..
universe E
universe S
theorem kQ:q! [Ek!,wP] Aq! Vd:={}
inductive Jbj(K:W.Frag)(vs:L!)(H:Hp)(Q:VK)(E:XK):Prop
 | mk (a:Addr) (ns:s?) (_:vs=[CG!]) (_:DW K H a EV!) (_:ns.length<=63) (_:∀(v:Int)(H':Hp),f?->2<=v->Q (N! v) H')
theorem Jf9(F:j! IP! IP! Vd)(hl:FE! "len")(MC:g? IQ! Se C0! fC dC):JT! f fd Aq! Jbj:=by
 have GC:Ab! fC dC C0! (U2 K):=Vu MC.fn hl;refine AI! kQ;obtain⟨a,ns,rfl,hS,hlen,k⟩:=h;refine K?;refine Jl! kQ.nd (Cg! GC MC.mg MC.fn.kp MC.bd Ka!) (k? (Aw Dg (Ee (FC! Ag Ag Ag (Bf Fc Ag (Bf C0 (Bf Gd (pv 1) Ag) (Sc Jlj Ag))))) (Dd! 1)));refine⟨_,rfl,a,ns,1,rfl,hS,hlen,P!,P!,λv=>?_⟩;refine⟨_,rfl,_,_,rfl,rfl,Dc!,_,_,rfl,rfl,⟨P!,P!,P!⟩,_,_,rfl,rfl,Go (10 ^ 59),_,_,rfl,rfl,L3! (4<=sizeLine),λsl ax=>?_⟩;obtain⟨x,hx⟩:∃x,G? x=V.int (2+v / 4 % N6!):=BV!;have x2:2<=x:=by have:=V.int.inj hx;have e:=CV (v / 4) (show N6!≠0 by decide);lia
 have s1:=Ah (o:=.BE Md!) ax;have esl:BK! (upd H sl (.BE Md!)) sl Md!:=Ac;obtain⟨sh,rK,qL⟩:∃sh:Int,QO Md! (v % 4)=x? N! sh/\2<=sh:=by rw[<-hx];rcases(show v % 4=0\/v % 4=1\/v % 4=2\/v % 4=3 by lia) with e|e|e|e<;>rw[e];(.exact IV! 2 P!);(.exact IV! 2 P!);(.exact IV! 3 P!);.exact IV! x x2
 exact⟨_,rfl,_,_,rfl,rfl,Go 4,sl,_,_,G? sh,rfl,rfl,XV esl,rK,k sh _ s1 qL⟩
universe E
theorem Bt.dn(x:NZ! D (n+1) d A B al ys)(h1:Bs!<=n)(h2:ys.length<=n)(h3:YF F n):A6!:=⟨x.wi.dn h1 h2,x.fa,x.fr,h3,x.off⟩
theorem Bt.DO(x:A6!)(f:BFr p W ys fl F H H'):Ch:=by
 have go:KB! ((∃xs,o=.A_ xs)\/∃ob u,o=.GV ob u):=λb o e ho=>by refine f b o e (KE) (KE) KE;(.obtain⟨o2,e2,n1,n2⟩:=x.wi.wa.some_at z;rw[e] at e2;cases e2;rcases ho with⟨xs,rfl⟩|⟨ob,u,rfl⟩;(.exact n1 _ rfl);.exact D! n2 rfl);(.obtain⟨y,hy,hb⟩:=CU.mp z;obtain⟨o2,e2,n1,_,n2⟩:=(x.wi.at_ y hy).has hb;rw[e] at e2;cases e2;rcases ho with⟨xs,rfl⟩|⟨ob,u,rfl⟩;(.exact n1 _ rfl);.exact D! n2 rfl);.obtain⟨o2,e2,n1,n2⟩:=x.fa.has z;rw[e] at e2;cases e2;rcases ho with⟨xs,rfl⟩|⟨ob,u,rfl⟩;(.exact n1 _ rfl);.exact D! n2 rfl
 exact A! (λa xs e=>go a _ e (w! BV!)) (λa o u e=>go a _ e (R! (E8! _)))
def i6(m:Nat)(W:EZ)(al:F!)(W':EZ)(al':F!)(ys HG:K!):Prop:=∃a z b,GL!/\Ef3 m W W' a b al' ys HG z
theorem i6.len(h:Mv!):HG.length=ys.length:=by obtain⟨a,z,b,_,h⟩:=h;cases z with | w l=>rw[h.1] | lt s g ts=>rw[h.1] | ask s g n u=>rw[h.1] | J' s g n u tk S =>obtain⟨⟨y,y',i1,i2,new,e1,e2,_⟩,_⟩:=h;rw[e1,e2,ZE,ZE];rfl
universe S
variable {P:Program}{w:World}{K:W.Frag}{mg:Str->Option Value}{base:Heap}{CW C CP CI NH NI NL NHd NNr MI NW:Addr}
theorem XO:q! [Ek!,AQ!,Eg!,"_law_at","_law_count",J3!,wP] EA! Mf:={}
inductive Nx(CW C CP CI:Addr)(K:W.Frag)(vs:L!)(H:Hp)(Q:VK)(E:XK):Prop
 | mk (a p fl:Addr) (ns:s?) (i:Int) (W:EZ) (D:e?) (m n d A B:Nat) (al:F!) (ys:K!) (F:LH) (J:Nat->EZ->F!->K!->Prop) (_:vs=[CG!,l?,Fl!,O! i]) (_:bF K H a EV!) (_:ns.length<=63) (_:0<=i/\i<=42) (_:A6!) (_:W?) (_:P?) (_:d+B<900) (_:J 0 W al ys)
   (_:∀(c d A B:Nat)(H1:Hp)(W:EZ)(D:e?)(al:F!)(ys:K!)(W':EZ)(al':F!)(HG:K!),NO! H1 al->J c W al ys->Mv!->J (c+1) W' al' HG)
   (_:∀(c:Nat)(H':Hp)(W':EZ)(D':e?)(HG:K!)(F':LH),c<=B->Hl! H' W' D' n (d+c) (A-c) (B-c) [] HG F'->J c W' [] HG->Ch->Q (N! c) H')
theorem Jah(F':j! IY! IY! Mf)(T:Bw!)(TW:AL!)(MC:g? IQ! Se C0! fC dC)(ML:Mi! fL dL)(GL:Lv! fL dL)(MT:g? G8! Xr Bv! fT dT)(GT:CH! 8 fT dT Bv! Us) : CH! 9 f fd EA! Nx:=by
 have GC:Ab! fC dC C0! (U2 K):=Vu MC.fn T.len;refine Ci! XO;obtain⟨a,p,fl,ns,i,W,D,m,n,d,nA,nB,al,ys,F,J,rfl,hS,hlen,hi,B0,hn,hB,hd,j0,js,k⟩:=h;refine K?;have IB:Bo!:=L?;have LP:DH!:=L?;refine LM! 4 XO.nd Ag (F1! 5 XO.nd (L2! V! ML.mt GL ML.bd) (Mg PassesOwn.never (YX (Jt (K7! (pv 5)) (Ki (EG! Sl H? Ag)))) (Cm! 6 XO.nd (Mn! (BL! B? (Bf Fc (pv 3) (Dd! 4)))) (Ad (A4 (Cg! GT MT.mg MT.fn.kp MT.bd (BU! V! Y! (Dv! A7 (Aw Ar (Aw Dg (pv 5) (Bf C0 (Bf Gd (pv 6) (Sc Fc (Dd! 4))) (KT! (pv 5)))) Ag))))) (Ad (JO! XO.nd (Bf Fc (pv 4) Ag)) (Af (v6 5 XO.nd (L2! V! ML.mt GL ML.bd))))))) (k? H?));obtain⟨dx,hp⟩:=B0.wi.wa.ob;refine Hd! dx hp GT! W B0.wi.wa (λl H1 hl el s1=>?_);refine AT (λmm σ Hc=>∃(c:Nat)(W':EZ)(D':e?)(al':F!)(HG:K!)(F':LH)(l:Addr)(u6:Bp!),σ=[I8!,AS!,wv,Aw! i,Aw! H1!,T? l,u6]/\mm=nB-c/\c<=nB/\LH! Hc n (d+c) (nA-c) (nB-c) F'/\J c W' al' HG/\B_ H Hc/\BK! Hc l (W'.ls.map Nj!)) ⟨nB,0,W,D,al,ys,F,l,none,rfl,rfl,FS,B0.same s1,j0,HC s1,el⟩;clear s1 el hl hp dx;rintro mm σ Hc ⟨c,W1,D1,bE,aU,F1,l,u6,rfl,rfl,hc,Bc,Jc,kt,el⟩;refine⟨_,rfl,FS,λr GK=>⟨_,_,.BE (DW.of (Ah GK _ _ el)) (Qx (Dp Bc.wi.lw (HC (Ah GK)))),Dj! Ac,Ju (Mr Bc.wi.wg.wl.ok),Jv,_,rfl,?_⟩⟩;have s2:=GF!;generalize KN! Hc=H2 at s2;have B2:=Bc.same s2;have UR:=kt.trans (HC s2);have dB:=D! s2 el;by_cases e0:W1.ls=[];.rw[F3,e0,Sv];(have ea:bE=[]:=by have:=z? Bc.wi.lw;rw[e0] at this;exact BN.mp this.symm);subst ea;exact Bx (Bx (Ak! (k c H2 W1 D1 aU F1 hc B2 Jc UR)))
 .rw[F3,Su Bc.wi.lw e0];(have z1:1<=nB-c:=by have h1:=B2.wi.len;have h2:=HH.mpr e0;lia);refine Cc ⟨_,rfl,_,_,rfl,rfl,_,rfl,?_⟩;rw[Fg! (wS (p? c<1000))];refine Cc (m? (λEV H' h=>⟨nB-(c+1),B!,h⟩));have c0:=CV H1! (Kv! 21);have c1:=CJ H1! (NV! 21);have c2:=CV H1! (Kv! 5);have c3:=CJ H1! (NV! 5);have r_:=hS.keep UR;refine⟨_,rfl,_,rfl,_,rfl,_,_,rfl,rfl,Go 21,_,_,rfl,rfl,a,ns,_,rfl,r_.sq,hlen,B!,B!,λv=>?_⟩;(have SM:B8!<HQ!:=by rw[ZA];have:=HH.mpr e0;lia);have j0:=CV (v / HN!) (wS (HQ!≠0));have j1:=CJ (v / HN!) SM;obtain⟨⟨BP,t⟩,hy⟩:=KX! W1.ls (v / HN! % HQ!).toNat (by rw[ZA] at j0 j1 ⊢;lia);have c6:QO (W1.ls.map Nj!) (v / HN! % HQ!)=x? i! t:=A8 j0 (CI! hy);obtain⟨lt,JL⟩:=Kc! bE (v / HN! % HQ!).toNat Bc.wi.lw hy;obtain⟨a1,et⟩:=KC.A_ (Az B2.wi.lw _ _ _ hy JL);have et:Ho! H2 t (G? BP::a1):=et;obtain⟨l1,l2,sW⟩:=JS (ZP hy);refine⟨_,rfl,_,rfl,_,rfl,_,rfl,_,rfl,_,_,rfl,rfl,Go 5,_,_,rfl,rfl,_,_,rfl,rfl,DN!,_,rfl,l,_,rfl,JK! dB,_,_,rfl,rfl,SM,l,_,_,_,rfl,rfl,XV dB,c6,t,_,0,_,rfl,rfl,Ev,H!,DY!,Ih!⟩;have s3:=Ca! Gv! hx;have ex:Je! H2 x Gv! x Gv!:=Ac;generalize upd H2 x (.A_ Gv!)=H3 at s3 ex;have B3:=B2.same s3;refine⟨p,fl,x,W1,D1,m,n,d+c,nA-c,nB-c,nA-(c+1),nB-(c+1),bE,aU,F1,LL!,rfl,ex,B3,hn,B!,B!,⟨l1,l2,t,sW⟩,DN!,λv' H4 W4 D4 o9 cR F4 B4 bf4 _ _ af=>?_⟩;have LO:=UR.trans ((HC s3).trans (B3.DO bf4));rcases af with⟨⟨v2,e2⟩,mh⟩|⟨_,_,_,_,h0,g0,b0,z⟩;rotate_left;(.cases z);have af:i6 m W1 bE W4 o9 aU cR:=e2;obtain⟨m1,f1⟩:=mh BP rfl;have uW:Hl! H4 W4 D4 n (d+(c+1)) (nA-(c+1)) (nB-(c+1)) o9 cR F4:=B4.dn (U! m1 B3.wi.md) (U! af.len B3.wi.iz) (IX! (E! f1 B3.fn.a) f1 B3.fn.b);obtain⟨VD,bS⟩:=uW.wi.wa.ob;refine⟨_,rfl,_,_,rfl,rfl,?_⟩;refine Hd! VD bS (C4 W4 ZV) W4 uW.wi.wa (λl' H5 cy si s5=>?_);exact⟨c+1,W4,D4,o9,cR,F4,l',_,rfl,rfl,B!,uW.same s5,js c _ _ _ H3 W1 D1 bE aU W4 o9 cR B3.wi Jc af,LO.trans (HC s5),si⟩
abbrev Kc:Stmt:=inClass (top 23) 13
theorem Jla:q! AN! AN! Kc:={}
inductive Je2(CW C CP:Addr)(vs:L!)(H:Hp)(Q:VK)(E:XK):Prop
 | mk (p:Addr) (n:Int) (W:EZ) (_:vs=Lf!) (_:Bt!) (_:∃l∈W.LV,l.1=n) (_:∃l∈W.IP,l.1=n) (_:∀(x y:Addr)(H':Hp),f?->Cn! x [.bl true,g! y]->BW! x)
theorem Jck{ls:Z!}{n:Int}(h:∃l∈ls,l.1=n):∃y,NA! kvsOf ls (CK! n) y:=by obtain⟨l,hl,e⟩:=h;rw[Kr];cases q:ls.find? λl=>T! (l.1=n) with | none=>exact absurd e (B4! (BB.mp q l hl)) | some v=>exact BV!
theorem Jir(F:j! "inquiry" "World.inquiry" Kc)(TW:AL!):Eh! AN! (BP! Je2):=by refine AI! Jla;obtain⟨p,n,W,rfl,S,h1,h2,k⟩:=h;refine K?;have hu:=IR;obtain⟨dx,hp⟩:=S.ob;refine m? (Ad (Bl! Ed (Do hu (pv 1) O?) Sg) (Ad (Bl! Ed (Do hu (pv 1) O?) Sg) (Af (Ay (Cf (BL! Fx (GR! V!)))))));obtain⟨y1,e1⟩:=Jck h1;obtain⟨y,e2⟩:=Jck h2;refine LB! CW TW.cl TW.nI (Nr W) W.iq _ rfl (DQ.k (k:=F5!) S.iq) _ rfl;rw[e1];refine Bx (LB! CW TW.cl TW.nF (Pn W) W.fi _ rfl (DQ.k (k:=F5!) S.fi) _ rfl);rw[e2];refine Bx ⟨_,rfl,p,CW,dx,_,_,rfl,hp,TW.cl,TW.nF,Pn W,_,rfl,W.fi,_,rfl,n? e2 (DQ.k (k:=F5!) S.fi),DY!,Ih!⟩;exact k x y _ (Ah hx) Ac
universe E
inductive Rh(qs:W!):e?
 | hand {j:Nat} {q:Addr} {G:BZ} {t:T2} (h:SZ) (m:t∈G.hand):Rh qs t
 | step {j:Nat} {q:Addr} {G:BZ} {t u:T2} (h:SZ) (o:H5!) (m:u∈DO!) (l:Rh qs t):Rh qs u
theorem Jgm{l:HL}{t u:T2}(h:u∈Bp l t):∃q∈l,AX!/\u∈q.2.2:=by unfold Bp at h;cases e:Gr! with | none=>rw[e] at h;cases h | some q =>rw[e] at h;exact⟨q,AJ e,B4! (DE e),h⟩
universe S
variable {D:T2->Prop}{m n:Nat}{sh:Int}{qs:List (Addr×BZ)}{b:Nat->Bool}{S1:Nat->HS}
theorem Wg.aQ(x:NX! [])(ha:∀h,h<m->b h=true)(hs:Kw! J6!){h:Nat}{q:Addr}{G:BZ}{t:T2}(eq:BJ! (qs[h]?))(o1:H5!):Ai G.AH t=Gs (Cr (Lb m b S1)) t:=by
 have lm:=x.wl.len;have hm:h<m:=K0!
 obtain⟨s,nu⟩:=x.BP eq;have t1:t.1=Q! h:=I? (s.ok.new t o1).1 nu
 have eR:∀k,k<m->∃q G,BJ! (qs[k]?)/\Kg!=Ai G.AI t/\RU t qs k=Ai G.AH t:=λk hk=>by obtain⟨⟨q,G⟩,eq⟩:=Ef! qs k;exact⟨q,G,eq,by unfold R_;rw[eq];rfl,by unfold RU;rw[eq];rfl⟩
 have eA:bv (Lb m b S1).map (λS=>Jl t S.2.2)=F7! (λk=>Kg!):=by unfold Lb;rw[AL,DU.mpr λk hk=>ha k (BH.mp hk)];congr 1;refine BQ It!;obtain⟨q',G',OM,e3,_⟩:=eR k (BH.mp hk);show Jl t (S1 k).2.2=Kg!;rw[e3,(hs k q' G' OM).AI t]
 have sO:F7! (λk=>RU t qs k)=RU t qs h:=Uh hm λk nk=>by by_cases hk:k<m;(.obtain⟨q',G',OM,_,e4⟩:=eR k hk;rw[e4];exact x.wl.gK (r:=(q',G')) OM (IK! t1));.unfold RU;rw[AZ! CN];rfl
 have oh:RU t qs h=Ai G.AH t:=by unfold RU;rw[eq];rfl
 have sm:=x.wl.sum t (R! (G3! h o1));rw[La,lm,sO,oh] at sm;rw[Tf,eA];have sm:F7! (λk=>Kg!)-Ai G.AH t+0=0:=sm;lia
theorem Wg.led(x:NX! [])(ha:∀h,h<m->b h=true)(hs:Kw! J6!){t:T2}:Led (Lb m b S1) t↔Rh qs t:=by
 have lm:=x.wl.len;have at_:∀S∈Lb m b S1,∃(h:Nat)(q:Addr)(G:BZ),BJ! (qs[h]?)/\Jk G S:=λS hS=>by obtain⟨h,hm,_,e⟩:=NO.mp hS;obtain⟨⟨q,G⟩,eq⟩:=Ef! qs h;exact G3! h (e▸hs h q G eq)
 have xy:Kw! (S1 h∈Lb m b S1):=λh q G eq=>by (have hm:h<m:=K0!);exact NO.mpr ⟨h,hm,ha h hm,rfl⟩
 constructor;.intro l;induction l with | hand h m =>obtain⟨j,q,G,eq,T⟩:=at_ _ h;exact .hand eq (T.m6 _ m) | @out r h ne =>obtain⟨S,hS,hr⟩:=FY.mp h;obtain⟨j,q,G,eq,T⟩:=at_ _ hS;obtain⟨o1,o2⟩:=T.XQ r hr;exact absurd (o2.trans (x.aQ ha hs eq o1)) ne | @step r u h mu _ ih =>obtain⟨S,hS,hr⟩:=FY.mp h;obtain⟨j,q,G,eq,T⟩:=at_ _ hS;exact .step eq (Dn! T.XQ) (T.mf r hr u mu) ih
 .intro l;induction l with | hand h m=>exact .hand (xy _ _ _ h) ((hs _ _ _ h).hand _ m) | @step j q G t u h o mu _ ih =>obtain⟨r,hr,e⟩:=(hs _ _ _ h).row t o;obtain⟨z,hz,e2,hu⟩:=Jgm mu;exact .step (r:=r) (FY.mpr ⟨_,xy _ _ _ h,hr⟩) ((hs _ _ _ h).kU r hr z hz (e2.trans e.symm) u hu) (e▸ih)
theorem Wg.gs(x:NX! [])(ha:∀h,h<m->b h=true)(hs:Kw! J6!){t:T2}:GS m b S1 t↔(GY!/\¬Rh qs t):=by
 have lm:=x.wl.len;unfold GS;rw[x.led ha hs];refine and_congr (A! (λh=>?_) (λh=>?_)) Iff.rfl;.obtain⟨r,hr,e⟩:=ZN h;obtain⟨S,hS,hr⟩:=FY.mp hr;obtain⟨j,hm,_,e2⟩:=NO.mp hS;obtain⟨⟨q,G⟩,eq⟩:=Ef! qs j;exact G3! j (e▸((hs j q G eq).XQ r (e2▸hr)).1)
 .obtain⟨j,q,G,eq,o⟩:=h;(have hm:j<m:=K0!);obtain⟨r,hr,e⟩:=(hs j q G eq).row t o;exact Ag! ⟨r,FY.mpr ⟨_,NO.mpr ⟨j,hm,ha j hm,rfl⟩,hr⟩,e⟩
universe E
def ia(LX:W!)(h tick:Int):Prop:=∀q G,wT (LX[h.toNat]?) (tick=G.BC)
def Xs(LX:W!)(t:T2):Prop:=SF LX t/\¬Rh LX t
structure C1(m:Nat)(LX:W!)(N:Int)(W:EZ)(al:F!)(ys:K!):Prop where
 qs:W.qs=LX
 al:∀z∈al,(∃s g u,z=.ask s g N u)\/∃s g u tick S,z=.J' s g N u tick S/\ia LX s tick
 y:∃y∈ys,y.n=N/\y.se.length<m/\(∀r∈y.fi,ia LX r.1 AA!)/\∀r∈y.se,ia LX r.1 r.2
structure C2h(LX:W!)(al:F!)(j:Nat)(G G0:BZ):Prop where
 hand:G.hand=G0.hand
 less:At! (ga G0.AH.map/\DO!=Bp G0.holds t)
 keep:∀t∈x! G0.AH.map,Rh LX t->H5!
 end_:(∀s ts,Dp! Ed!∉al)->At! (Rh LX t)
structure C2(LX:W!)(N:Int)(W:EZ)(al:F!):Prop where
 fin:∃l∈W.IP,l.1=N
 av:∀z∈al,(∃s g ts,z=.lt s g ts/\Gt! (Xs LX t/\t.1=g))\/∃l,z=.w l/\CP!
 len:W.qs.length=LX.length
 ho:∀(j:Nat) q G,wT (W.qs[j]?) (∃q0 G0,LX[j]?=some (q0,G0)/\C2h LX al j G G0)
universe S
variable {CW C CP CI p:Addr}{K:W.Frag}{H:Hp}{W W':EZ}{D:T2->Prop}{m n:Nat}{al al':List LL}{ys HG:List Qy}{LX:List (Addr×BZ)}{N:Int}
theorem WI.one(x:J!){y y':Qy}(h:CV!)(h':y'∈ys)(e:y.n=y'.n):y=y':=by
 have go:∀{y:Qy},CV!->∃j:Nat,ys[j]?=some y/\y.n=Q! j+1:=λ{y} h=>by obtain⟨j,hj⟩:=BW.mp h;have jl:j<ys.length:=CZ!;(have e1:(ys.map BF!)[j]?=some y.n:=Jq!);rw[x.eQ,ZH,List.getElem?_range jl] at e1;exact⟨j,hj,(ZO e1).symm⟩
 obtain⟨j,hj,e1⟩:=go h;obtain⟨k,hk,e2⟩:=go h';have:j=k:=B!
 rw[this,hk] at hj;cases hj;rfl
theorem C1.ws(c:MB!):A4!=[]:=J0! (by rcases c.al z hz with⟨_,_,_,rfl⟩|⟨_,_,_,_,_,rfl,_⟩<;>rfl)
theorem Jjc{al:F!}{s g n u:Int}(h:LL.ask s g n u∈al):g∈KR!:=IA.mpr ⟨_,h,by show(IH! (n=n/\u=u) (D? g))=some g;rw[JI!]⟩
theorem Jcf{al:F!}{s g n u tick:Int}{S:HS}(h:LL.J' s g n u tick S∈al):CD!∈Cj al n u:=IA.mpr ⟨_,h,by show(IH! (n=n/\u=u) (D? CD!))=some CD!;rw[JI!]⟩
theorem C1.last(x:J!)(c:MB!){y:Qy}(hy:CV!)(yn:y.n=N){a b:F!}{s g tick:Int}{S:HS}(es:Br! (.J' s g N 2 tick S))(le:Bg!=m):X!=[]/\L8! y.fi.map:=by
 have iv:=Ga!;rw[yn] at iv;have z2:CD!∈Cj al N 2:=Jcf (GS!);rcases iv.t2 with⟨_,_,e,_⟩|⟨fl,qU⟩;.rw[e] at z2;cases z2
 have l1:=iv.t1.length_eq;have l2:=qU.length_eq;rw[F5,ZE,ZE,ZA,ZA] at l1 l2;have k2:Gs! Cj 2=(Cj Bc! N 2).length+1:=by rw[es,Bm,Bm,Ds,ZE,ZE,ZE];show _+((IH! (N=N/\Q! 2=2) (D? CD!)).toList.length+_)=_;rw[JI!];show _+(1+_)=_;lia
 have k3:∀u,Gs! Cv u=(Cv Bc! N u).length:=λu=>by rw[es,Bz,Bz,Fs,ZE,ZE,ZE];show _+(0+_)=_;lia
 have k4:(Cj Bc! N 1).length<=Gs! Cj 1:=by rw[es,Bm,Bm,Ds,ZE,ZE,ZE];lia
 have q1:=k3 1;have q2:=k3 2;refine Op (List.eq_nil_iff_forall_not_mem.mpr E0!);·(have x_:w∈al:=by rw[es];rcases Bj! with h|h;(.exact A3!);.exact C2!);have kn:=x.kn w x_;rcases c.al w x_ with⟨s',g',u',rfl⟩|⟨s',g',u',tk',S',rfl,_⟩;(.have mm:=QB (Jjc hw);obtain⟨_,h|h⟩:=kn<;>rw[h] at mm<;>lia);.have mm:=QB (Jcf hw);obtain⟨_,h|h⟩:=kn<;>rw[h] at mm<;>lia
 .have t1:=iv.t1;rw[BN.mp (wS (Gs! Cv 1=0)),BN.mp (wS (Gs! Cj 1=0))] at t1;exact t1
theorem C1.found(x:J!)(c:MB!){y:Qy}(hy:CV!)(yn:y.n=N)(fi:∀r∈y.fi,ia LX r.1 AA!)(pm:L8! y.fi.map){cf:jp}(hc:∀h:Nat,h<m->ia LX (Q! h) (cf h)){t:T2}:GS m J1! (Kz y.fi) t↔Xs LX t:=by
 have wg:=x.wg;rw[c.ws] at wg;have lm:=wg.wl.len;have iv:=Ga!;have at_:∀h:Nat,h<m->∃q G,BJ! (W.qs[h]?)/\Hl y.fi h=G.BC/\Jk G (Kz y.fi h):=λh hh=>by obtain⟨⟨q,G⟩,eq⟩:=Jw! h;obtain⟨r,hr,e1,e2,e3⟩:=t9 pm hh;have e4:AA!=G.BC:=fi r hr q G (by rw[e1,C_,<-c.qs];exact eq);exact⟨q,G,eq,e2.trans e4,e3▸((iv.f1 r hr).tk h q G eq e1).2 e4⟩
 have:=wg.gs (b:=λh=>Nv!) (S1:=Kz y.fi) (t:=t) (λh hh=>by obtain⟨q,G,eq,e,_⟩:=at_ h hh;exact decide_eq_true (e.trans (hc h hh q G (by rw[C_,<-c.qs];exact eq)).symm)) λh q G eq=>by (have hm:h<m:=K0!);obtain⟨q',G',OM,_,e⟩:=at_ h hm;rw[eq] at OM;cases OM;exact e
 rw[this,c.qs];exact Iff.rfl
theorem Jnz(x:J!)(c:MB!)(af:Mv!):C1 m LX N W' al' HG\/C2 LX N W' al':=by
 obtain⟨a,z,b,es,ef⟩:=af;have sub:∀w∈X!,w∈al:=λw hw=>by rw[es];rcases Bj! with h|h;(.exact A3!);.exact C2!
 have hz:El!:=GS!
 rcases c.al z hz with⟨s,g,u,rfl⟩|⟨s,g,u,tick,S,rfl,tk⟩;.obtain⟨ey,⟨q,G,S,hq,_,ea⟩,eq⟩:=ef;refine C! ⟨eq.trans c.qs,E0!,E! ey c.y⟩;rw[ea] at hw;rcases Bj! with h|h;(.exact HP! c.al h);.rw[ZK h];refine G! ⟨g,s,u,_,S,rfl,λq' G' e=>?_⟩;rw[<-c.qs,hq] at e;cases e;rfl
 .obtain⟨⟨y,y',i1,i2,new,e1,e2,e3,e4,e5,e6⟩,eq⟩:=ef;obtain⟨y1,jY,n1,se1,f1,s1⟩:=c.y;(have hy:CV!:=EZ! e1);(have eS:y'∈HG:=EZ! e2);have ey:y1=y:=x.one jY hy (n1.trans e3.symm);subst ey;rcases e6 with⟨u1,se,fi,_,nw⟩|⟨u2,fi,se,nw⟩;(.refine C! ⟨eq.trans c.qs,E0!,y',eS,e4,E! se se1,Ew!,E! se s1⟩;(.rw[e5] at hw;rcases Bj! with h|h;(.exact HP! c.al h);.rcases nw with⟨rfl,_⟩|⟨rfl,_⟩;(.cases h);.obtain⟨i,_,rfl⟩:=ZN h;exact C! Gj!);.rw[fi] at hr;rcases ZI hr with h|h;(.exact f1 r h);.rw[ZK h];exact tk);·(have s2:∀r∈y'.se,ia LX r.1 r.2:=λr hr=>by rw[se] at hr;rcases ZI hr with h|h;(.exact s1 r h);.rw[ZK h];exact tk);rcases nw with⟨rfl,ne,_⟩|⟨le,ts,xf,rfl,IP,cf,jq,hts⟩;(.refine C! ⟨eq.trans c.qs,E0!,y',eS,e4,by rw[se,ZE];show y1.se.length+1<m;lia,E! fi f1,s2⟩;rw[e5,AG] at hw;exact HP! c.al hw);.subst u2;obtain⟨ab,pm⟩:=c.last x hy n1 es le;rw[ab,List.nil_append] at e5;have gx:Gt! (Xs LX t):=λt=>(hts t).trans (c.found x hy n1 f1 pm λh hh=>by obtain⟨r,hr,h1,h2⟩:=jq h hh;have:=s2 r hr;rw[h1,h2] at this;exact this);have lm:=x.wg.wl.len;refine G! ⟨E8! (E! IP Fy!),E0!,I? eq c.qs,λj q G hj=>?_⟩;(.rw[e5] at hw;obtain⟨i,_,rfl⟩:=ZN hw;exact C! ⟨_,_,_,rfl,λt=>by rw[AD,gx,decide_eq_true_iff]⟩);.rw[eq] at hj;(have jm:j<m:=KJ! lm hj);refine⟨q,G,n? c.qs hj,rfl,o! (A! ht rfl),λt ht _=>ht,λno=>absurd ?_ (no g (ts.filter λt=>T! D0!))⟩;rw[e5];exact Ck! j (BH.mpr jm)
theorem Jny(x:J!)(c:C2 LX N W al)(af:Mv!):C2 LX N W' al':=by
 obtain⟨a,z,b,es,ef⟩:=af;have sub:∀w∈X!,w∈al:=λw hw=>by rw[es];rcases Bj! with h|h;(.exact A3!);.exact C2!
 have hz:El!:=GS!
 have jE:∀w∈al,w=z\/w∈X!:=λw hw=>by rw[es] at hw;rcases Bj! with h|h;(.exact G! (ZB _ h));.rcases ZM h with h|h;(.exact d?);.exact G! (ZC _ h)
 rcases c.av z hz with⟨s,g,ts,rfl,ht⟩|⟨l,rfl,hb⟩;.obtain⟨_,G,⟨q,hq,eq,fs⟩,bs,hbs,ea⟩:=ef;obtain⟨g0,g1,_⟩:=x.lt s g ts hz;refine⟨E! fs c.fin,E0!,R? eq List.length_set c.len,λj q' G' hj=>?_⟩;(.rw[ea] at hw;rcases Bj! with h|h;(.exact HP! c.av h);.obtain⟨l,hl,rfl⟩:=ZN h;exact G! ⟨l,rfl,hbs l hl⟩);.rw[eq] at hj;rcases Eg hj with⟨ej,rfl,rfl⟩|⟨nj,hj⟩;(.subst ej;obtain⟨q0,G0,h0,h⟩:=c.ho _ q' G hq;have ls:=Yt G ts;(have nt:∀t,ga (Oe G ts).AH.map->t∉ts:=λt h1 h2=>by obtain⟨r,hr,e⟩:=ZN h1;have hr:r∈Ks! (q.1∉ts):=hr;have:=BR (AD.mp hr).2;exact this (e▸h2));refine⟨q0,G0,h0,h.hand,λt h1=>A! (h.less t (ls.AH t h1)).1 ((ls.holds t h1).trans (h.less t (ls.AH t h1)).2),λt h1 h2=>?_,λ_ t h1=>?_⟩;(.obtain⟨r,hr,e⟩:=ZN (h.keep t h1 h2);have LP:r∈Ks! (q.1∉ts):=AD.mpr (A! hr (decide_eq_true λz=>((ht _).mp z).1.2 (e▸h2)));exact Ag! ⟨r,LP,e⟩);.refine Classical.byContradiction λnr=>nt t h1 ((ht t).mpr (Op (A! ⟨_,q0,G0,h0,(h.less t (ls.AH t h1)).1⟩ nr)));have:=(x.wg.UD hq (ls.AH t h1)).1;rw[this];exact BK g0);.obtain⟨q0,G0,h0,h⟩:=c.ho j q' G' hj;refine⟨q0,G0,h0,h.hand,h.less,h.keep,λno=>h.end_ λs' cT hm=>?_⟩;rcases jE _ hm with e|hm;(.cases e;exact nj (by rw[C_]));.exact no s' cT (U! ea (ZB _ hm))
 .obtain⟨_,ef⟩:=ef;obtain⟨ea,G,G',⟨q,hq,eq,fs⟩,ky,hh,ls⟩:=ef hb;refine⟨E! fs c.fin,λw hw=>HP! c.av (ea▸hw),R? eq List.length_set c.len,λj q' G2 hj=>?_⟩;(have jP:(∀s ts,Dp! Ed!∉al')->∀s ts,Dp! Ed!∉al:=λno s ts hm=>by rcases jE _ hm with e|hm;(.cases e);.exact no s ts (ea▸hm));rw[eq] at hj;rcases Eg hj with⟨ej,rfl,rfl⟩|⟨nj,hj⟩;(.subst ej;obtain⟨q0,G0,h0,h⟩:=c.ho _ q' G hq;exact⟨q0,G0,h0,hh.trans h.hand,λt h1=>A! (h.less t (ls.AH t h1)).1 ((ls.holds t h1).trans (h.less t (ls.AH t h1)).2),λt h1 h2=>ky t (h.keep t h1 h2),λno t h1=>h.end_ (jP no) t (ls.AH t h1)⟩);.obtain⟨q0,G0,h0,h⟩:=c.ho j q' G2 hj;exact⟨q0,G0,h0,h.hand,h.less,h.keep,λno=>h.end_ (jP no)⟩
theorem Jhl(x:NP! [])(c:C1 m LX N W [] ys\/C2 LX N W []):(∃l∈W.IP,l.1=N)/\∀t,Ju!->Jk!:=by
 rcases c with c|c;.obtain⟨y,hy,yn,le,_⟩:=c.y;have iv:=Ga!;have l1:=iv.t1.length_eq;rw[F5,ZE,ZE,ZA,ZA] at l1;have l1:0+0+y.fi.length=m:=l1;rcases iv.t2 with⟨h,_⟩|⟨_,pm⟩;(.lia);.have l2:=pm.length_eq;rw[F5,ZE,ZE,ZA,ZA] at l2;have l2:0+0+y.se.length=m:=l2;lia
 .refine A! c.fin (λt h=>?_);(have up:∀t,Rh LX t->Jk!:=λt h=>by (have at_:∀(j:Nat) q0 G0,LX[j]?=some (q0,G0)->∃q G,JH!/\C2h LX [] j G G0:=λj q0 G0 e=>by obtain⟨⟨q,G⟩,eq⟩:=KX! W.qs j (Ei! c.len (v4 e));obtain⟨q1,G1,h1,h⟩:=c.ho j q G eq;rw[e] at h1;cases h1;exact⟨q,G,eq,h⟩);induction h with | hand h m =>obtain⟨q,G,eq,h2⟩:=at_ _ _ _ h;exact .hand eq (h2.hand▸m) | step h o mu l ih =>obtain⟨q,G,eq,h2⟩:=at_ _ _ _ h;have o2:=h2.keep _ o l;exact .step eq o2 ((h2.less _ o2).2▸mu) ih);obtain⟨j,q,G,eq,o⟩:=h;obtain⟨q0,G0,h0,h⟩:=c.ho j q G eq;exact up t (h.end_ (λ_ _ z=>L9!) t o)
universe E
universe E K63
universe N FX
open PySem PySem.Spec PyProof.Rows L2
universe S
variable {X:Cx Kx}{AA:List (Addr×Obj)}{σ:L2.St}{H:Hp}{s:Shared}
theorem Jq6{t':Nat}{fp:SC}{h':Heap}(I:KU!)(k:∀b o,b∉fp->AW! s.heap.get?->AW! h'.get?)(hf:CR! (Lp X AA H b)):N0! { s with heap:=h',toks:=t' }:=by
 have jR:∀b u,E9! H->b∉fp:=λb u e z=>by rw[(hf b z).1] at e;cases e
 refine I.step (g':=s.gens) (d':=s.drawn) (ch:=fp) (Os ?_) (λb o _ _ hc e _=>C6! hc) (λb o _ _ hc e _=>A! o.slots (C6! hc)) (λ_ _ _ _ n=>n) (λb o hc e=>A! o (C6! hc)) (NK!) (λ_ _ _ e=>e) (λb ps e=>A! (#[]) (IG! e)) (λm hm=>?_) (λb u e=>?_) I.bare;.obtain⟨_,h1,_,h2,h3,h4⟩:=hf b hb;exact⟨h2,h1,h3,h4⟩
 .obtain⟨o,es,ep,ho,r⟩:=hm;exact⟨o,es,ep,k _ o (λz=>(hf _ z).2.1 rfl) ho,r⟩
 .refine(I.DM b u e).ON (λc v hc q=>k c v ?_ q) (λ_ q=>q) λ_ _ q=>q;rcases hc with z|z;(.rw[z];exact jR b u e);.exact jR c _ z
theorem Jqc{T:Addr}{o:HO}{ob:Obj}(I:KU!)(hf:Lp X AA H T)(ho:s.heap.get? T=some ob)(new:DV X.prog X.w (upd H T o) s.heap T o):Gq! (upd H T o) s:=by
 obtain⟨h0,h1,XC,h2,h3,h4⟩:=hf;have ne:∀{b u},E9! H->b≠T:=λe=>Aj e h0;refine I.step (s:=s) (h':=s.heap) (t':=s.toks) (g':=s.gens) (d':=s.drawn) (ch:=[T]) (Os ?_) (λb o _ _ _ e _=>e) (λb o _ _ _ e _=>A! o.slots e) (λb o hc _ n=>?_) (λb o _ e=>A! o e) (λb xs e=>?_) (λb o u e=>?_) (λb ps e=>Op (#[])) (λm hm=>hm) (λb u e=>?_) I.bare;·(have e:b=T:=by simpa using hb);subst e;exact⟨h2,h1,h3,h4⟩
 .rw[Ab (λz=>hc (by simp[z]))];exact n
 .rw[Ab (ne e)];exact e
 .rw[Ab (ne e)];exact e
 .rw[Ab (ne e),e];simp
 .by_cases hb:b=T;(.subst hb;rw[Ac] at e;cases e;exact new);.rw[Ab hb] at e;exact(I.DM b u e).ON (λc v _ q=>q) (λc q=>E! (Ab (ne q)) q) λc xs q=>E! (Ab (ne q)) q
universe E
def kL(K:W.Frag)(l:Addr):It :=
 ⟨λi H=>∃xs x,DW K H l xs/\La!,
  λi H v H'=>∃T x,AC T/\v=g! T/\H'=KA! T [O! I!,x]/\∀xs,DW K H l xs->La!,
  λi H=>∃xs,DW K H l xs/\xs.length<=i⟩
theorem Jc9{P:Program}{w:World}{K:W.Frag}{es:List Expr}{kt:Nat}{pt:Pos}{e it l:Addr}(ne:e≠it):Turn P w K (MM! es) (kL K l) [e,it] e (λi h=>(∃old,IsEnum h e it I! old)/\h.IsListIter it l i) where
 mem:=ZL ..
 obj:=λi h st b hb=>by
  obtain⟨⟨old,h1⟩,o2,e2,_,d2⟩:=st
  simp only[BV,CL,HK] at hb
  rcases hb with rfl|rfl
  .exact⟨_,h1,λv q=>db q⟩
  .exact⟨_,e2,λv q=>by rw[d2] at q;cases q⟩
 keep:=λi h h' st k=>by
  obtain⟨⟨old,h1⟩,o2,e2,r2⟩:=st
  exact⟨A! old (k e Eq! _ h1),o2,k it Eq! _ e2,r2⟩
 item:=by
  intro X hP hw hc i AA s σ H E I hf st hg
  subst hP hw
  obtain⟨⟨old,h1⟩,h2⟩:=st
  obtain⟨xs,x,q1,hx⟩:=hg
  obtain⟨its,rv,p,_⟩:=I.list q1
  obtain⟨u,hu,ru⟩:=rv.get hx
  refine wpAny_pyNext_enum_item h1 h2 p.isList (x:=u) (by simpa using hu) ne λh' a1 a2 a3 a4 a5=>m? rfl
  refine wpAny_letOwnedTupleGo_enum a1 λXC b1 b2=>?_
  have b2:Heap.SameBut e h' XC:=b2
  have be:e≠s.heap.objs.size:=BI (AR h1)
  have bi:it≠s.heap.objs.size:=by obtain⟨_,z,_⟩:=h2;exact BI (AR z)
  have I1:N0! { s with heap:=XC,toks:=s.toks+1 }:=Jq6 I (λb o hb z=>b2.extBut b o Ll! (a5 b o Ll! Ll! z)) hf
  have hT:XC.get? s.heap.objs.size=some { cls:=.type "tuple",data:=.seq #[N! i s.toks,u] }:=b2.extBut _ _ be.symm a3
  have fT:Lp X AA H s.heap.objs.size:=I.UG (ZG _) I.fresh
  have I2:=Jqc (o:=.A_ [O! I!,x]) I1 fT hT ⟨by show 2<=sizeLine;decide,[N! i s.toks,u],Ld! re BV! ru,⟨_,hT,rfl,_,rfl⟩⟩
  refine⟨g! s.heap.objs.size,_,I2,rfl,⟨_,x,I.fresh,rfl,rfl,λxs' z=>E! (I.UO z q1) hx⟩,A! (IX! u (ER! (p? (i+1)=I!+1)) b1) (a2.extBut b2.extBut ne.symm),FZ!⟩
  simp only[BV,CL,HK] at hb
  rcases hb with rfl|rfl
  .rw[Ab be];exact(hf _ Eq!).1
  .rw[Ab bi];exact(hf _ Eq!).1
 done:=by
  intro X hP hw hc i AA s σ H E I hf st hg
  subst hP hw
  obtain⟨⟨old,h1⟩,h2⟩:=st
  obtain⟨xs,q1,hx⟩:=hg
  obtain⟨its,rv,p,_⟩:=I.list q1
  have hl:=rv.length
  exact wpAny_pyNext_enum_end (I.ok.hd hc) h1 h2 p.isList (by simp;lia) λh' kp=>y? (Jq6 (t':=s.toks) I (λb o hb z=>kp b o Ll! z) hf)
 self:=λ_ _ _ _ _ st h=>by
  obtain⟨⟨old,h1⟩,_⟩:=st
  exact wpAny_pyIter_enum h1 h
def Jno(K:W.Frag)(ta:TA):TI:=λσ H R=>ta σ H λvs H1=>∃l xs,vs=[g! l]/\DW K H1 l xs/\R (kL K l) H1
theorem Jim{X:Cx Kx}{a:Expr}{ta:TA}{p pos:Pos}{es:List Expr}{kt:Nat}{pt:Pos}(hg:Gl X Hu!)(hm:X.mg Hu!=none)(ha:PA X [a] ta)(hs:starEach [a] X.env=[(false,eval a X.env)]:=by rfl) : PI X (MM! es) (.Call (.Name Hu! p) [a] [] pos) (Jno Kx ta):=by
 intro AA s σ H R I h;refine Call_ (Wd I hg hm boot_enumerate (MJ (DZ (ha pos AA s σ H _ I h) λus s1 ⟨vs,H1,I1,r1,q1⟩=>?_) (BN! hs) B3!));obtain⟨l,xs,e,q1,q⟩:=q1;subst e;obtain⟨u,rfl,ru⟩:=r1.one;cases ru;obtain⟨its,rv,pl,_⟩:=I1.list q1;refine call_enumerate_list pl.isList λh' a1 a2 a3 kp=>wpAny_pyIter_enum a1 ?_;refine⟨_,_,_,_,H1,rfl,I1.kept (t':=s1.toks) kp,Jc9 (EA (HQ _)),A! (A! _ a1) a2,FZ!,q⟩;have:s1.heap.objs.size<=b:=by simp only[BV,CL,HK] at hb;rcases hb with rfl|rfl<;>first|exact At|exact OY _ _
 exact I1.UG this (I1.DM.fresh this)
inductive Jeg(K:W.Frag)(xs:L!)(H:Hp)(Q:VK):Prop
 | mk (l:Addr) (ns:s?) (_:xs=[g! l]) (_:DW K H l EV!) (_:Q (N! ns.sum) H)
theorem Jhm{X:Cx Kx}(hc:IF!):F8 X (.builtin "sum") (Jeg Kx):=by
 intro AA s σ H xs us Q I r h;obtain⟨l,ns,rfl,hq,q⟩:=h;obtain⟨u,rfl,rx⟩:=r.one;cases rx;obtain⟨its,r',pl,hz⟩:=I.list hq;have hi:IntsAre its ns:=intsAre_of r';obtain⟨ys,hy⟩:=hi.allInts.items;have cy:s.heap.IsList l (intItems ys):=hy▸pl.isList;refine sum_intListG (I.ok.hd hc) cy λh' tk t' hk=>?_;have e1:ns=x! ys.toList.map:=by rw[<-nums_intItems,<-hy];exact(show numsOf its.toArray.toList=ns from hi.numsOf).symm
 have e2:preSum (numAt ys) ys.size=ns.sum:=by rw[preSum_eq,List.take_of_length_le (Af!),e1]
 rw[e2];exact⟨O! ns.sum,H,I.kept (t':=tk) hk,BV!,q⟩
def Jph:R2:=λx y H Q=>x=.bl true/\y=.bl true/\Q (.bl true) H
theorem Jlk{X:Cx Kx}:PN X (compareOp .Is) Jph:=by intro AA s σ H x y u v Q I rx ry h;obtain⟨rfl,rfl,q⟩:=h;cases rx;cases ry;exact wpAny_is_self rfl ⟨.bl true,H,I,rfl,q⟩
universe E FX
universe N K63
open PySem L2 FX
theorem uB(o:Int)(l:M!):YE (Ah! [O! o,Ah! (l.map OL)]):=Hy λd hd=>by obtain⟨a,b⟩:=Jkt Ha l;rcases ZM hd with rfl|hd;(.exact y? (by show 0<=20;decide));.rw[ZK hd];exact A! a B!
def kN(K:W.Frag)(H:Hp)(TH:I0!):Prop:=∀q∈TH,∃hd cs,AV! q.1 [O! q.2.2.1,g! hd]/\CS K H hd NT!/\AZ H cs q.2.2.2
theorem kN.keep(h:kN K H TH)(k:Ch):kN K H' TH:=b? (by obtain⟨hd,cs,e1,e2,e3⟩:=h q hq;exact⟨hd,cs,Bh! e1,k.sq e2,AZ.keep k e3⟩)
structure Jn2(K:W.Frag)(H:Hp)(da sa:Addr)(i:Nat)(L:List HS)(TH:I0!):Prop where
 ob:KM H da .dT (TH.map λq=>HL!)
 su:KM H sa C6 (Cr L)
 PL:TH.map c?=rowsOf L
 at_:kN K H TH
 lt:∀q∈TH,q.2.1.1<I!
 nd:Ar! TH.map Bx!
 len:TH.length<=64*i
 sz:(L.flatMap (·.2.2)).length<=64*i
universe S
variable {P:Program}{w:World}{K:W.Frag}{mg:Str->Option Value}{base:Heap}{CW C CP CI NH NI NL NHd NNr MI NW:Addr}
theorem OA:q! [AQ!,Eg!,"_law_there","_law_sums","_law_h",KZ!,BS!,Hr!,"_law_thing","_law_out",Hp!,"_law_weight","_law_reached_here"] DT! Ve:={}
inductive Ut(CW C CP CI:Addr)(K:W.Frag)(vs:L!)(H:Hp)(Q:VK)(E:XK):Prop
 | mk (p fl:Addr) (W:EZ) (D:e?) (m n d A B:Nat) (ys:K!) (F:LH) (_:vs=[l?,g! fl]) (_:N7! []) (_:n<=60) (_:P?) (_:∀t,Ju!->Jk!) (_:∀H',f?->Q (.bl true) H')
theorem Jga(F':j! LS! LS! Ve)(T:Bw!)(TW:AL!)(MS:SL Gc! "World.state" Ka fS dS)(uS:DX! fS dS (B6! Eu NH))(MR:g? NL! Kg FS! fR dR)(GR:Ab! fR dR FS! Py) : GQ! f fd DT! Ut:=by
 have GS:Jg! fS dS (Mr!):=FX.ET.no uS;refine Ci! OA;obtain⟨p,fl,W,D,m,n,d,nA,nB,ys,F,rfl,B,hn,hB,eC,k⟩:=h;refine K?;have hu:=IR;have WZ:DP 3 _:=hr;have IB:Bo!:=L?;refine Jm! OA.nd Dm (Cm! 3 OA.nd Dm (Aj! (NF! (L4! (Z? (KT! (Bb hu (pv 1) A7)))) (AH! 4) (Ad (Jfn (NR! MS.mt GS WZ MS.bd Ba (Z? H?)) (Iu rfl (By (AH! 5) (D3! (AH! 6) (AH! 7))))) (Ad (KH! (Ir (pv 6)) (Iu rfl (By (AH! 8) (D3! (AH! 9) (AH! 10)))) (Cd hu Y! CS! (Dv! (pv 9) (pv 10)) rfl)) (Af (KH! (Ir (pv 7)) (Iu rfl (D3! (AH! 8) (AH! 11))) (Cd hu E? CS! (Bf Fc (Hx hu E? CS! Ag NC!) (pv 11)) rfl)))))) (v6 12 OA.nd (BQ! GR IB MR.mg MR.fn.kp MR.bd FA!)) (Bh (EG! t_ (Nt! T1 Y!) (Nt! T1 (pv 12))) Fz! A3) (KH! (Mj (pv 12)) (AH! 8) (Bh (EG! (BX! Nz) (Hx hu Y! CS! uM NC!) (Dv! (Hx hu E? CS! Ag NC!) (D9 Eb B3! T.tuple EG (Z? (Hv! (Of rfl) T.sorted DT (Bb hu (Bb hu (pv 1) A7) CS!)))))) Fz! A3)) Fz!));have hm:=B.BO;have m5:=B.wi.m5;have cJ:Gz!:=B.wi.wg.wl.len;have ch:∀j:Nat,∃S:HS,∀q G,wT (W.qs[j]?) (Told G S.1 S.2.1 S.2.2):=λj=>by cases e:W.qs[j]? with | none=>exact A! ([],[],[]) (λq G h=>FV!) | some r =>obtain⟨q,G⟩:=r;obtain⟨hs,os,rs,JI⟩:=(B.wi.wg.wl.good hn e).told;exact A! BD! (λq' G' h=>by cases h;exact JI)
 obtain⟨S1,c9⟩:=Classical.axiomOfChoice ch;have tS:∀(h:Nat) q G,wT (W.qs[h]?) J6!:=λh q G e=>(c9 h q G e).aD (B.wi.wg.BP e).1.ok;intro da yV sa jb;have s1:=JW! yV;have e1:KM (upd H da (.dT [])) da .dT []:=Ac;generalize Am! H da .dT=H0 at s1 e1 jb;have qQ:=JW! jb;have e2:KM (upd H0 sa (.dT [])) sa C6 []:=Ac;have RV:da≠sa:=λz=>by rw[<-z,e1] at jb;cases jb
 have vR:AC sa:=Bw s1 jb;generalize Am! H0 sa .dT=H1 at qQ e2;have e1:=D! qQ e1;have s1:=Al s1 qQ;have B1:=B.same s1;refine⟨_,rfl,fl,_,rfl,B1.fa.OV,F.ha,_,rfl,JK! B1.fa.ha,X?,I? ZA hm.1,B!,B!,?_⟩;refine Ti (lo:=0) (n:=m) (λi σ H'=>∃(u4 u5 u6 u7 u8 u9 nZ i_ i9:Bp!)(TH:I0!),σ=[AS!,wv,JA!,I9!,u4,u5,u6,u7,u8,u9,nZ,i_,i9]/\f?/\Jn2 K H' da sa i (Nn! S1) TH) ⟨_,_,_,_,_,_,_,_,_,[],rfl,s1,e1,e2,rfl,(b? (db hq)),(b? (db hq)),CY,FS,FS⟩ ?_ ?_;.rintro i σ H2 hi ⟨u4,u5,u6,u7,u8,u9,nZ,i_,i9,TH,rfl,s2,th⟩;rw[wS (B8!+I!=I!)];have B2:=B.same s2;obtain⟨⟨q,G⟩,hq⟩:=Jw! i;have iw:KA W I! q G:=IX! B! C_ hq;have gd:=B.wi.wg.wl.good hn hq;have JI:=c9 i q G hq;obtain⟨dx,hp⟩:=B2.wi.wa.ob;refine⟨_,rfl,p,dx,_,rfl,hp,GT!,_,rfl,p,I!,W,rfl,B2.wi.wa,G! ⟨q,G,iw,q,G,(S1 i).1,EP!,Mq!,rfl,iw.at B2.wi.wa,gd.h2,gd.o2,gd.r2,JI.pm,JI.pw,JI.PL,JI.pr,JI.wr,λx H3 s3 st=>?_⟩⟩;obtain⟨y1,y2,y3,as,bs,ds,f0,f1,t1,f2,t2,f3,t3⟩:=(tX st:SE K H3 x ((S1 i).1,EP!,Mq!));have t2:j? (aA K H3) bs EP!:=t2;have t3:j? (aB K H3) ds Mq!:=t3;refine⟨x,_,rfl,f0,rfl,_,_,rfl,_,_,rfl,_,_,rfl,rfl,?_⟩;have sh3:=Al s2 s3;obtain⟨sd,nu⟩:=B.wi.wg.BP hq;(have ol:(S1 i).2.1.length<64:=by have:=JI.PL.pm.length_eq;rw[ZA,ZA] at this;have:=gd.o2;lia);(have rl:(S1 i).2.2.length<64:=by have:=JI.pr.length_eq;have:=gd.r2;lia);have zo:∀z∈EP!,z.1∈Hk!:=λz mz=>CJ! JI.PL.pm.mem_iff.mp (FM z mz);have jS:J? IW!:=JI.PL.pm.nodup_iff.mpr sd.ok.on;have tl:=th.len;have tz:=th.sz;refine Ki! y2 f2 ?_;refine G5! Kt y2 bs (λj σ H'=>∃(w8 w9 cS:Bp!)(L:I0!),σ=[AS!,wv,JA!,I9!,Aw! I!,T? y1,T? y2,T? y3,w8,w9,cS,i_,i9]/\f?/\B_ H3 H'/\E3! da .dT ((TH++L).map λq=>HL!)/\E3! sa C6 (Cr (Nn! S1))/\kN K H' (TH++L)/\L.map c?=(S1 i).2.1.take j) ⟨_,_,_,[],rfl,sh3,I7!,FP! (EQ th.ob),EQ th.su,FP! (th.at_.keep (HC s3)),rfl⟩ (λj σ H' _ h=>by obtain⟨_,_,_,_,_,_,kt,_⟩:=h;exact kt.sq f2);(.rintro j v σ H6 hj ⟨w8,w9,cS,L,rfl,s6,k6,s_,bp,tP,eL⟩;obtain⟨z,ez⟩:=Kc! EP! j t2 hj;obtain⟨a,t,hd,cs',rfl,g1,g2,g3,g4⟩:=Az t2 j v z hj ez;have mz:=ZP ez;have jl:j<(S1 i).2.1.length:=v4 ez;(have lL:L.length=j:=by have:=congrArg List.length eL;rw[ZA,CD] at this;lia);(have ao:∀q∈TH++L,a?≠z.1:=λq RK e=>by rcases ZI RK with h|h;(.have:=th.lt q h;rw[e,(B.wi.wg.UD hq (zo z mz)).1] at this;lia);.have h1:q.2∈L.map c?:=Ag! (Hs! h);rw[eL] at h1;obtain⟨l',cy,e3⟩:=List.mem_iff_getElem.mp h1;(have a1:(IW! v?)[l']?=some z.1:=by rw[CD] at cy;rw[ZH,AZ! List.getElem?_eq_getElem];rw[List.getElem_take] at e3;rw[e3];exact congrArg some e);(have a2:(IW! v?)[j]?=some z.1:=CI! ez);obtain⟨p1,b1⟩:=ZJ a1;obtain⟨p2,b2⟩:=ZJ a2;have:=(EE jS).mp (b1.trans b2.symm);rw[CD] at cy;lia);refine⟨a,_,rfl,k6.sq g1,rfl,_,_,rfl,_,_,rfl,_,_,rfl,rfl,?_⟩;refine⟨_,rfl,_,rfl,DY!,λtp rF=>?_⟩;have s7:=Ca! K3! rF;have k7:=HC s7;have iM:Je! H6 tp K3! tp K3!:=Ac;generalize upd H6 tp (.A_ K3!)=H7 at s7 k7 iM;have iT:=D! s7 s_;refine⟨_,rfl,_,rfl,da,_,rfl,F_.t (k:=tk z.1) iT (k7.A_ _ _ (k6.A_ _ _ g2)) (R? ZA ZE Nm!),?_⟩;rw[Gv (V.ref tp) ao];(have e5:HO.dT (((TH++L).map λ(q:Addr×T2×Int×List T2)=>HL!)++[(tk z.1,C? tp)])=.dT ((TH++(L++[(tp,z)])).map λ(q:Addr×T2×Int×List T2)=>HL!):=by rw[<-AQ];symm;rw[ZF];rfl);rw[e5];(have RW:∀o,B_ H7 (upd H7 da o):=λo=>HU! iT);refine⟨_,_,_,L++[(tp,z)],rfl,A9! yV (D! s7 (s6 _ _ e)),k6.trans (k7.trans (RW _)),Ac,S! RV.symm (D! s7 bp),?_,?_⟩;(.rw[<-AQ];intro q RK;rcases ZI RK with h|h;(.exact tP.keep (k7.trans (RW _)) q h);.rw[ZK h];exact⟨hd,cs',D! (RW _).A_ iM,(k6.trans (k7.trans (RW _))).sq g3,AZ.keep (k6.trans (k7.trans (RW _))) g4⟩);.rw[ZF,eL,DJ,ez];rfl);.rintro σ H6 ⟨w8,w9,cS,L,rfl,s6,k6,s_,bp,tP,eL⟩;rw[show(S1 i).2.1.take bs.length=EP! by rw[z? t2,BS]] at eL;refine Ki! y3 (k6.sq f3) ?_;refine G5! Kt y3 ds (λj σ H'=>∃(w8 w11:Bp!),σ=[AS!,wv,JA!,I9!,Aw! I!,T? y1,T? y2,T? y3,w8,w9,cS,w11,i9]/\f?/\B_ H6 H'/\E3! da .dT ((TH++L).map λq=>HL!)/\E3! sa C6 ((L1!++Ib! j).foldl addW [])) ⟨_,_,rfl,s6,I7!,s_,R? IT AG bp⟩ (λj σ H' _ h=>by obtain⟨_,_,_,_,kt,_⟩:=h;exact kt.sq (k6.sq f3));(.rintro j v σ H7 hj ⟨v8,v11,rfl,s7,k7,iT,YU⟩;obtain⟨x',ex⟩:=Kc! Mq! j t3 hj;obtain⟨a,t,rfl,g1,g2⟩:=(Az t3 j v x' hj ex).keep (k6.trans k7);refine⟨a,_,rfl,g1,rfl,_,_,rfl,_,_,rfl,rfl,?_⟩;refine⟨_,rfl,sa,rfl,I6! (C! YU),_,rfl,_,DQ.t (k:=tk x'.1) YU g2,_,rfl,_,x'.2,K63F.OG _ _,rfl,_,rfl,_,rfl,sa,_,rfl,F_.t (k:=tk x'.1) YU g2 (by rw[ZA];have:=K63F.OW (L1!++Ib! j) [];rw[ZE,CD] at this;simp only[CA] at this;exact Nm!),?_⟩;rw[Ex];(have RW:∀u:HO,B_ H7 (upd H7 sa u):=λu=>HU! YU);refine⟨_,_,rfl,A9! vR (D! s7 e),k7.trans (RW _),S! RV iT,?_⟩;(have e7:∀l:Fj!,(l++[x']).foldl addW []=addW (l.foldl addW []) x':=λl=>BN! NY);rw[show L1!++Ib! (j+1)=(L1!++Ib! j)++[x'] by rw[DJ,ex,<-AQ];rfl,e7];exact Ac);.rintro σ H7 ⟨v8,v11,rfl,s7,k7,iT,YU⟩;rw[z? t3,BS] at YU;(have eK:L.map Bx!=IW! v?:=LZ! (congrArg (List.map Prod.fst) eL) AL);have oL:∀q∈L,a?∈Hk!:=λq RK=>JI.PL.pm.mem_iff.mp (n? eK (Ag! (Hs! RK)));(have eR:(List.range Bd!).map S1=Nn! S1++[S1 i]:=WP EO ZF);refine⟨_,_,_,_,_,_,_,_,_,TH++L,rfl,s7,iT,?_,?_,tP.keep k7,λq RK=>?_,?_,?_,?_⟩;(.rw[eR];unfold Cr;rw[BU];simp only[BY,EF,AG];exact YU);(.rw[eR,ZF,th.PL,eL];unfold rowsOf;rw[BU];simp only[BY,EF,AG]);(.rcases ZI RK with h|h;(.have:=th.lt q h;push_cast;lia);.have:=(B.wi.wg.UD hq (oL q h)).1;rw[this];push_cast;lia);(.rw[ZF];refine AM.mpr ⟨th.nd,E! eK jS,λu hu v hv e=>?_⟩;obtain⟨q',RK,rfl⟩:=ZN hu;obtain⟨r',LP,rfl⟩:=ZN hv;have h1:=th.lt q' RK;have h2:=(B.wi.wg.UD hq (oL r' LP)).1;rw[e,h2] at h1;lia);(.have h1:=congrArg List.length eK;rw[ZA,ZA] at h1;rw[ZE];lia);.rw[eR,BU,ZE];simp only[BY,EF,AG];lia
 .rintro σ H2 ⟨u4,u5,u6,u7,u8,u9,nZ,i_,i9,TH,rfl,s2,th⟩;have B2:=B.same s2;(have eLb:Ea! S1=Lb m (λ_=>true) S1:=by unfold Lb;rw[DU.mpr λ_ _=>rfl]);refine⟨_,rfl,fl,F,Pr D W.qs,rfl,B2.fa,B!,by have:=B.fn.a;lia,MH! B.fn.b,MH! hm.2.1,EJ! hm.2.2,B.fr.T_ B.wi.wg,B.fr.hand B.wi.wg,B.fr.closed B.wi.wg,λxr R H3 hxr s3 zG ndR jI hR hC=>?_⟩;have kg:∀t,t∈R↔Ju!:=λt=>A! (λh=>(jI t h).2) (λh=>by (have go:∀t,Jk!->t∈R:=λt h=>by induction h with | hand h m =>obtain⟨fb,hfb⟩:=B.fr.at h;exact hR _ (ZP hfb) _ m | step h o mu l ih =>obtain⟨a,hf⟩:=B.fr.holds _ _ _ h _ o;exact hC _ ih _ _ hf _ mu);exact go t (eC t h));(have kW:∀r∈rowsOf (Ea! S1),∃(j:Nat)(q:Addr)(G:BZ),JH!/\r∈(S1 j).2.1:=λr hr=>by obtain⟨S,hS,hr⟩:=FY.mp hr;obtain⟨j,hj,e⟩:=ZN hS;have hj:=BH.mp hj;obtain⟨⟨q,G⟩,eq⟩:=Jw! j;exact G3! j (e▸hr));(have kf:∀t,t∈Ep! TH.map↔Ju!:=λt=>by (have e:TH.map Bx!=(rowsOf (Ea! S1)).map v?:=by rw[<-th.PL,AL];rfl);rw[e];constructor;(.intro h;obtain⟨r,hr,e⟩:=ZN h;obtain⟨j,q,G,eq,hr⟩:=kW r hr;exact G3! j (e▸Dn! (tS j q G eq).XQ));.rintro⟨j,q,G,eq,o⟩;(have hjm:j<m:=KJ! cJ eq);obtain⟨r,hr,e⟩:=(tS j q G eq).row t o;exact Ag! ⟨r,FY.mpr ⟨_,Ck! j (BH.mpr hjm),hr⟩,e⟩);(have vI:TH.length=R.length:=by have:=((List.perm_ext_iff_of_nodup th.nd ndR).mpr λt=>(kf t).trans (kg t).symm).length_eq;rwa [ZA] at this);refine⟨_,rfl,da,_,rfl,EQ th.ob,_,rfl,xr,_,rfl,zG,rfl,_,rfl,?_⟩;rw[ZA,ZA,vI,A5!];refine Bx ⟨_,rfl,xr,_,rfl,zG,λob=>?_⟩;(have fx:∀b o,AW! H2->AW! (upd H3 xr Mt!):=A9! hxr (EQ e));have zV:(upd H3 xr Mt!) xr=some Mt!:=Ac;generalize upd H3 xr Mt!=H4 at fx zV;refine Y6 (d:=xr) (ob:=ob) (λi σ H'=>∃(v8:Bp!),σ=[AS!,wv,JA!,I9!,u4,u5,u6,u7,v8,u9,nZ,i_,T? xr]/\Bl H4 H') (Ak! NK!) (λi σ H' _ h=>by obtain⟨_,_,sm⟩:=h;exact CT! zV) ?_ ?_;(.rintro i a kk v σ H5 hx ha ⟨v8,rfl,sm⟩;rw[ZH] at hx;cases ht:R[i]? with | none=>rw[ht] at hx;cases hx | some t =>rw[ht] at hx;cases hx;have ha:Ho! H5 a (tv t):=ha;have mt:=ZP ht;have al:=(kg t).mp mt;obtain⟨j,q,G,hj,ho⟩:=al;have sH:Bl H H5:=λb o e=>CT! (fx _ _ (s2 _ _ e));have k2:Bl H2 H5:=λb o e=>CT! (fx _ _ e);have B5:=B.same sH;obtain⟨e0,he0,ee⟩:=ZN ((kf t).mpr ⟨j,q,G,hj,ho⟩);(obtain⟨r1,hf,m1,t1⟩:∃r1,JS! TH.find? (a?=t) r1/\r1∈TH/\r1.2.1=t:=by cases c:TH.find? λq=>T! (a?=t) with | none=>exact absurd ee (B4! (BB.mp c e0 he0)) | some r1=>exact⟨r1,rfl,AJ c,B4! (DE c)⟩);obtain⟨k',q',G',jj,GK⟩:=kW r1.2 (n? th.PL (Ck! r1 m1));obtain⟨o1,o2⟩:=(tS k' q' G' jj).XQ r1.2 GK;(have ek:k'=j:=by have h1:=(B.wi.wg.UD jj o1).1;have h2:=(B.wi.wg.UD hj ho).1;have t1:r1.2.1=t:=t1;rw[t1] at h1;lia);subst ek;rw[hj] at jj;cases jj;obtain⟨_,a9,hl9,f9,_,p9,w9'⟩:=(c9 k' q G hj).PL.at_ r1.2 GK;(have eg:DO!=hl9:=by unfold Bp;rw[<-t1,f9];rfl);obtain⟨hd,cs,c0,c1,c2⟩:=th.at_ r1 m1;obtain⟨aa,WA⟩:=B.fr.holds k' q G hj t ho;obtain⟨es,SD,VB⟩:=B5.fa.hl _ (AJ WA);have SD:JL! H5 aa es.map:=SD;have VB:AZ H5 es (Bp G.holds t):=VB;have za:=D! k2 th.ob;have c_:=D! k2 th.su;(have dg:DQ H5 da (y! a) (Gu! r1.1):=IS! (DQ.t (k:=tk t) za ha) (Dw (k:=λq:Addr×T2×Int×List T2=>a?) (f:=λq=>C? q.1)) hf);(have lz:(Bp G.holds t).length<64:=EJ! ((B.wi.wg.BP hj).1.ok.get t).2.1);(have eo:r1.2.2.1=Gs (Cr (Ea! S1)) t:=by rw[eLb,<-Wg.aQ (b:=λ_=>true) (show Wg D m n W.share W.qs [] from B.wi.wg) Er! tS hj ho,<-t1];exact o2);refine⟨_,rfl,da,rfl,I6! (C! za),_,rfl,_,dg,?_⟩;refine⟨_,rfl,sa,rfl,I6! (C! c_),_,rfl,_,DQ.t (k:=tk t) c_ ha,?_⟩;rw[K63F.OG,<-eo];refine⟨_,rfl,fl,_,rfl,B5.fa.OU,_,rfl,F.hd,_,rfl,B5.fa.at WA ha,aa,es,_,r1.2.2.2,rfl,SD,VB,lz,E! eg p9,w9',λr JN GK uY=>⟨r,_,rfl,C! (FT! Ac (λtp rF=>A! (by show 2<=sizeLine;decide) (λtx yC=>?_)))⟩⟩;have s6:=Al (Ah (o:=.BE (JN.map V.ref)) GK) (Ah (o:=.A_ (JN.map V.ref)) rF);have zN:Ho! (upd (LO! H5 r JN.map) tp (.A_ (JN.map V.ref))) tp (JN.map V.ref):=Ac;generalize Gx! (LO! H5 r JN.map) tp .A_ JN.map=H6 at s6 zN yC;have s7:=Ca! Lh! yC;have zL:Je! H6 tx Lh! tx Lh!:=Ac;generalize upd H6 tx (.A_ Lh!)=H7 at s7 zL;have k6:=HC s6;have k7:=HC s7;have qt:=(HC k2).trans (k6.trans k7);refine⟨_,_,.one (.tupP (CS.of (qt.A_ _ _ c0)) (Nu! (.tupP (qt.sq c1) (J8 (AZ.keep qt c2))))),.one (.tupP (CS.of zL) (K6! (s7 _ _ zN) (J8 (AZ.keep (k6.trans k7) uY)))),uB _ _,uB _ _,?_⟩;rw[Jg7 (uB r1.2.2.1 r1.2.2.2)];exact Ak! (Bx (Ak! (Al sm (Al s6 s7)))));.rintro σ H5 ⟨v8,rfl,sm⟩;exact k H5 λb o e=>CT! (fx _ _ (s2 _ _ e))
universe E
theorem Jhh(ns:s?)(lo hi:Option Int):∃cs:s?,K0 EV! lo hi=cs.map V.int:=by unfold K0;exact A! _ (by rw[<-List.map_drop,<-List.map_take])
theorem Jnx(xs:L!):(K0 xs (V? 2) (some 42)).length<=40:=by unfold K0;rw[CD,show HT.TK xs.length xs.length (some 42)=min 42 xs.length from D! HT.WT 42,show HT.TK xs.length 0 (some 2)=min 2 xs.length from D! HT.WT 2];lia
theorem R5{l:W!}(h:∀z∈l,z.2.AI=[]/\z.2.AH=[]):He t l=0/\E5 l=0:=by induction l with | nil=>exact H7! | cons z l ih =>obtain⟨h1,h2⟩:=ih MI!;obtain⟨h3,h4⟩:=Bu! z;refine DK!;(.show LY t z.2+He t l=0;unfold LY;rw[h1,h3,h4];rfl);.show Ic! (E5 l)=0;rw[h2,h3];rfl
theorem Jfd(a b:W!):E5 (X!)=E5 a+E5 b:=by induction a with | nil=>exact(Nat.zero_add _).symm | cons z a ih =>show Ic! (E5 (X!))=Ic! (E5 a)+E5 b;rw[ih,Nat.add_assoc]
theorem pP{n mm tk:Int}{h o l r:Addr}{t:T2}(ht:QP ⟨n,mm,tk,h,o,l,r,[],[],[],[]⟩ t):False:=by
 rcases ht with ht|⟨q,hq,_⟩;.cases ht
 .cases hq
theorem Je8{i m:Nat}{h o l r:Addr}(hi:i<m):Sd m ⟨I!,0,0,h,o,l,r,[],[],[],[]⟩ 0 :=⟨⟨CY,At,CY,At,rfl,CY,At,Dt!,Dt!,Dt!,Dt!,Dt!⟩,Dt!,o! K5!,o! K5!,o! (B2! ht),by show B8!<=I!;lia,by show I!<X?;lia,BD _,BD _⟩
theorem Jap{l:W!}(h:∀z∈l,z.2.AO=0):Dt l=0:=by induction l with | nil=>rfl | cons z l ih =>have ih:=ih MI!;have:=Bu! z;show z.2.AO+Dt l=0;lia
universe S
variable {CW C CP CI p:Addr}{K:W.Frag}{H H1:Hp}{W:EZ}{D:T2->Prop}{m n d A B:Nat}{ys:List Qy}
theorem WI.start(S:AS CW C CP H1 p W)(e2:W.c=0)(e3:W.ls=[])(e4:W.LV=[])(e5:W.IP=[])(e6:W.EY=[])(e7:Gz!)(e8:∀i q G,wT IC! (pR G i))(m1:1<=m)(m5:m<=5)(sh:2<=W.share):WI CW C CP CI K H1 p W FN! m 0 0 0 0 [] []:=by
 have ee:∀(i:Nat) q G,wT IC! (∃h o l r,G=⟨I!,0,0,h,o,l,r,[],[],[],[]⟩):=λi q G hi=>by obtain⟨h,o,l,r,e⟩:=e8 i q G hi;exact⟨h,o,l,r,e⟩
 have em:∀z∈W.qs,z.2.AI=[]/\z.2.AH=[]/\z.2.AO=0:=a! (by obtain⟨i,hi⟩:=BW.mp hz;obtain⟨_,_,_,_,e⟩:=ee i z.1 z.2 hi;rw[e];exact FM rfl rfl)
 have r0:=(R5 (t:=(0,0)) (a! (A! (em z hz).1 (em z hz).2.1))).2;refine⟨S,⟨⟨e7,B!,λi q G hi=>?_,NE (B2! hl),λt _=>?_,sh⟩,⟨λ_ _ _ _ _ _ z=>z,λ_ _ _ z=>z,λ_ _ _ _ _ _ _ _ z=>z,λ_ _ _ _ _ z=>z.elim⟩,λj q G hj t ht _=>?_⟩,?_,λj q G hj t ht=>?_,m1,m5,E! e3 d!,E! e6 CY,Ey!,E! e6 At,E! e5 At,A! (λj q G hj t ht=>?_) (NE (db hl)),Op FS,At,e4,rfl,CY,pi (B2! hy),pi (B2! hy),pi (B2! hy),a! (B2! hz),Ey!,Em! (B2! hz)⟩;·(have hl:i<m:=KJ! e7 hi);obtain⟨_,_,_,_,e⟩:=ee i q G hi;rw[e];exact A! (Je8 hl) rfl
 .rw[(R5 (t:=t) (a! (A! (em z hz).1 (em z hz).2.1))).1];rfl
 .obtain⟨_,_,_,_,e⟩:=ee j q G hj;rw[e] at ht;exact K5!
 .rw[Jap (a! (em z hz).2.2)];exact BD _
 .obtain⟨_,_,_,_,e⟩:=ee j q G hj;rw[e] at ht;cases ht
 .rw[e6] at he;cases he
 .obtain⟨_,_,_,_,e⟩:=ee j q G hj;rw[e] at ht;rcases ht with ht|ht;(.exact K5!);.cases ht
 .show 0+0+1*E5 W.qs<=0;rw[r0];exact At
 .rw[e5] at he;cases he
theorem Bt.start{H0:Hp}{fl:Addr}{F:LH}(x:WI CW C CP CI K H p W FN! m 0 0 0 0 [] [])(hw:∀b∈B8 p W,∃o,AW! H0)(fresh:Fc! (ut H0))(fa:F?)(fh:F.BO.map c?=List.replicate m [])(fo:F.holds=[])(fc:F.CG=[])(e7:Gz!)(e8:∀i q G,wT IC! (pR G i)):NZ! FN! 0 0 0 0 [] []:=by
 refine⟨x,fa,⟨?_,λj q G hj t ht=>?_,E! fc (.refl _),o! (by rw[fo] at ht;cases ht)⟩,A! (E! fo At) (b? (by rw[fo] at hq;cases hq)),Db (A! KE (λz=>L9!))⟩;.rw[fh];refine FE λi=>?_;rw[List.getElem?_replicate,ZH];by_cases c:i<m;(.rw[AE c];obtain⟨⟨q,G⟩,hq⟩:=Jw! i;obtain⟨h,o,l,r,e⟩:=e8 i q G hq;rw[hq,e];rfl);.rw[AB c,AZ! CN];rfl
 .obtain⟨h,o,l,r,e⟩:=e8 j q G hj;rw[e] at ht;cases ht
 .obtain⟨o,e⟩:=hw b z;rw[fresh b hb] at e;cases e
theorem WI.quiet(x:NP! []):Hh m ys=0:=by
 have:∀{l:K!},(∀y∈l,Fz m y=0)->Hh m l=0:=λ{l} h=>by induction l with | nil=>rfl | cons y l ih =>show Fz m y+Hh m l=0;rw[Bu! y,ih (a! (h z JV!))]
 refine this Fd!;have iv:=Ga!;have l1:=iv.t1.length_eq;rw[F5,ZE,ZE,ZA,ZA] at l1;have l1:0+0+y.fi.length=m:=l1;rcases iv.t2 with⟨h,_⟩|⟨_,pm⟩;.lia
 .have l2:=pm.length_eq;rw[F5,ZE,ZE,ZA,ZA] at l2;have l2:0+0+y.se.length=m:=l2;unfold Fz;rw[A0!,A0!]
theorem WI.reset(x:NP! []):NN! H n d 0 (E5 W.qs) [] :={ x with pb:=CO! (by show 0+Hh m ys+1*E5 W.qs<=_;rw[x.quiet];lia) }
theorem Bt.reset{fl:Addr}{F:LH}(x:N7! []):NZ! D n d 0 (E5 W.qs) [] ys:=⟨x.wi.reset,x.fa,x.fr,x.fn,x.off⟩
universe E
theorem Jg0{K:W.Frag}{a:Addr}{xs:L!}{g:TG}{tb:TS}{D:Ends}{σ:L2.St}{H:Hp}(Pv:Nat->GO! L2.St)(h0:Pv 0 σ H)(hl:∀i σ H,NJ!->Pv i σ H->DW K H a xs)(hs:∀i x σ H t,La!->Pv i σ H->AC t->g Fq! σ (upd H t (.A_ [O! I!,x])) λOJ H2=>tb { D with nx:=Pv (i+1),ct:=Pv (i+1),bk:=D.nx } OJ H2)(hd:∀σ H,Pv xs.length σ H->Li!) : ∃W:Nat->Nat->L2.St->Hp->Prop,(∃m,W 0 m σ H)/\∀i m σ H,W i m σ H -> ((kL K a).stop i H/\Li!)\/((kL K a).go i H/\∃N:GO! L2.St,(∀EV H',N EV H'->G1! (W Bd! m' EV H'))/\∀x H',(kL K a).TR i H x H'->g x σ H' λOJ H2=>tb { D with nx:=N,ct:=N,bk:=D.nx } OJ H2):=by
 refine AT (λi m σ H=>m=xs.length-i/\NJ!/\Pv i σ H) ⟨xs.length,Af!,FS,h0⟩;rintro i m σ H ⟨rfl,hi,p⟩;have q:=hl i σ H hi p;by_cases JL:i<xs.length;.refine G! ⟨⟨xs,xs[i],q,by simp[JL]⟩,Pv (i+1),λEV H' p'=>⟨xs.length-Bd!,B!,rfl,JL,p'⟩,λx H' y=>?_⟩;obtain⟨t,z,ht,rfl,rfl,y⟩:=y;exact hs i z σ H t (y xs q) p ht
 ·(have e:i=xs.length:=B!);subst e;exact C! (A! ⟨xs,q,At⟩ (hd σ H p))
theorem Jns{a b c d:Str}{k:NameKind}{cl:k! (Str×Addr)}{y:Str}(hd:∃z,cl.lookup d=some z)(h:D1! [DQ!,DR!,(c,NameKind.globalImplicit),(d,k)] .cell\/D1! [DQ!,DR!,(c,NameKind.globalImplicit),(d,k)] .free):∃z,GE! z :=Lk (λp hp hk=>by simp only[BV,CL,HK] at hp;rcases hp with rfl|rfl|rfl|rfl;(.rcases hk with hk|hk<;>cases hk);(.rcases hk with hk|hk<;>cases hk);(.rcases hk with hk|hk<;>cases hk);.exact hd) h
theorem Jig{l:W!}{k:Nat}(h:∀z∈l,z.2.AI.length<=k):E5 l<=l.length*k:=by induction l with | nil=>exact FS | cons z l ih =>have h1:=ih MI!;have h2:=Bu! z;show Ic! (E5 l)<=(l.length+1)*k;rw[Nat.succ_mul];lia
def bf(k:Nat):Nat:=5*k+20*((k+2) / 4)
theorem Jme{m k:Nat}(m5:m<=5){dd:Dd}(h:∀h,dd=.ask h->k % 4=1):uV m 0 (bf k) 0 (bf (k+1)) dd:=by unfold bf;cases dd with | ask h' =>have:=h h' rfl;exact Cl! | make=>exact Cl! | three=>exact Cl! | free=>exact Cl! | send=>exact Cl! | clean=>exact Cl! | deliver=>exact Cl!
theorem Bt.asked(x:A6!)(f:Ko!)(fp:LJ! HG)(wi:Mh! H' W' D' al' HG)(e1:BH!)(e2:Dr!):LH! H' (n+1) (d+1) A' B' F:=by obtain⟨iK,gL⟩:=x.de f fp;exact⟨wi,iK,R? e1 e2 x.fr,x.fn.up,gL⟩
universe S
variable {P:Program}{w:World}{K:W.Frag}{mg:Str->Option Value}{base:Heap}{CW C CP CI NH NI NL NHd NNr MI NW:Addr}
theorem aX:q! [Ek!,J2!,BR!,AQ!,Eg!,"_law_k",wP,Hr!,"_law_n","_law_count"] Aq! ix:={}
inductive pq(K:W.Frag)(vs:L!)(H:Hp)(Q:VK)(E:XK):Prop
 | mk (a:Addr) (ns:s?) (_:vs=[CG!]) (_:bF K H a EV!) (_:ns.length<=63) (_:∀H',Q (.bl true) H')
def Jmq(CW:Addr)(K:W.Frag)(sp:Sp)(E:XK):TE:=qJ (K8 K) (D0 (NZ (P9 K) (Ps CW Gc! sp [] E (Ca 1) (D0 (Ca 0) Jq)) (tC (N! 2))) Jq)
theorem Jlm(F:j! "law" "law" ix)(T:Bw!)(jn:FE! Hu!)(hsu:FE! "sum")(TW:AL!)(MmW:L2.Mk K CW fW)(bW:Binds K dW (JJ! w?) [])(GW:NH! fW dW (JJ! w?) (BP! Jbh))(MC:g? IQ! Se C0! fC dC)(MS:g? IP! Vd Aq! fS dS)(ML:g? II! p7 Es! fL dL)(GL:Ab! fL dL Es! Je5)(MT:g? G8! Xr Bv! fT dT)(GT:CH! 8 fT dT Bv! Us)(MD:g? "_law_deed" Xu EB! fD dD)(GD:GQ! fD dD EB! Z1)(MR:g? LS! Ve DT! fR dR)(GR:GQ! fR dR DT! Ut)(ME:g? IY! Mf EA! fE dE)(GE:CH! 9 fE dE EA! Nx)(pE:Mi! fLt dLt)(GLt:Lv! fLt dLt)(MSt:SL Gc! "World.state" Ka jy kC)(wH:DX! jy kC (B6! Eu NH))(MA:SL Y? LW! Xq fA dA)(GA':DX! fA dA (Jj! CI))(tW:JG! "inquiry" "World.inquiry" Kc fI dI) : DK P w K mg base 10 f fd Aq! (pq K):=by
 have GC:Ab! fC dC C0! (U2 K):=Vu MC.fn T.len;have GS:JT! fS dS Aq! Jbj:=Jf9 MS.fn T.len MC;have p8:Jg! jy kC (Mr!):=FX.ET.no wH;have GA:Jg! fA dA (λvs H Q _=>Nw CW C CP CI vs H Q E0):=FX.ET.no GA';have GI:Ab! fI dI AN! (BP! Je2):=Jir tW.fn TW;refine AI! aX;obtain⟨a,ns,rfl,hS,hlen,k⟩:=h;refine K?;have hu:=IR;have IB:Bo!:=L?;have LP:DH!:=L?;have WZ:DP 3 _:=L?;have rN:DP 4 _:=L?;have hr8:DP 8 _:=L?;refine Jl! aX.nd (Bf Fc Ag (Sc C0 (Mn! Ka!))) (F1! 2 aX.nd (Kx! (Sc C0 (Sc Gd (Mn! Ka!))) Ag) (Av (i:=3) aX.nd rfl (Or.inr rfl) (Vp MmW GW rN B3! TW.eP bW d! Ba (BL! V! (BQ! GS LP MS.mg MS.fn.kp MS.bd (Z? B?))))) (Aj! (JO! aX.nd (BQ! GL IB ML.mg ML.fn.kp ML.bd FA!)) (NF! (Jim rfl jn (Z? (Jfs Jh4 B? (Jb7 Ag) (Jb7 Ag)))) (Iu rfl (D3! (CB! 5 aX.nd) (CB! 6 aX.nd))) (Af (A4 (BQ! GT hr8 MT.mg MT.fn.kp MT.bd (BU! E? H? (BQ! GD rN MD.mg MD.fn.kp MD.bd (Aa E? (FC! V! (pv 6) (Kx! (Dd! 5) Ag) Y!)))))))) (A4 (Cg! GE ME.mg ME.fn.kp ME.bd (FC! B? E? H? Ag))) (Bh (K7! (L2! E? pE.mt GLt pE.bd)) Fz! A3) (Aj! (v6 7 aX.nd (Hv! (Jhm rfl) hsu PyProof.Rows.boot_sum (Eo (te:=Jmq CW K (Mr!) E) (caps:=[(AQ!,3)]) rfl (L4! FA!) rfl ZV rfl ZV rfl JD! (KW! Jns) LQ! ZV (λ_ _ _ _ _=>Ip) (Ao! (Bi Bq B3! T.len CC (Z? (Aw Ar (As (pl:=_) V! TW.cl MSt.mt p8 WZ MSt.bd d! Ba (Z? B?)) Ag))))))) (v6 8 aX.nd (As (pl:=_) E? TW.cl MA.mt GA WZ MA.bd d! Ba (Z? (Bf C0 (Mn! Ka!) V!)))) (v6 9 aX.nd (Cg! GE ME.mg ME.fn.kp ME.bd (FC! B? E? H? Ag))) (Bl! YX (X0 (K7! (L2! E? pE.mt GLt pE.bd)) (Qa (Z7 (Jfl Jkj Jkj (Bf F6 Ag V!) (pv 9) (Bf Fc (Bf F6 Ag V!) (pv 7)))))) Fz!) (k? (Jlg (Iv Jlk (Aw Ar (As (pl:=_) E? TW.cl tW.mt GI IB tW.bd d! Ba (Z? CS!)) Ag) Fx (A5 _)) (Jle (BQ! GR rN MR.mg MR.fn.kp MR.bd (BL! E? H?))))))));refine⟨_,rfl,a,ns,0,rfl,hS.sq,hlen,P!,P!,λv0=>⟨_,_,rfl,rfl,Go 5,_,_,rfl,rfl,?_⟩⟩;have rS:=CV v0 (Kv! 5);have hm1:=CJ v0 (NV! 5);refine⟨_,rfl,a,ns,0,rfl,hS.sq,hlen,P!,P!,λv1=>⟨_,_,rfl,rfl,Dc!,_,_,rfl,rfl,Go 2,rfl,?_⟩⟩;generalize T! (V.int (v1 / 30 % 2)=V.int 1)=fr;obtain⟨m,em,m1,m5⟩:∃m:Nat,V.int (1+v0 % 5)=V.int X?/\1<=m/\m<=5:=⟨(1+v0 % 5).toNat,by rw[AZ! BK],B!,B!⟩;rw[em];refine⟨_,rfl,_,rfl,a,ns,rfl,hS.sq,hlen,λsh H1 s1 qL=>?_⟩;have c9:=hS.keep (HC s1);intro p dx np cj qd;refine⟨p,dx,X?,sh,rfl,Ac,B!,B!,λW H2 S1 e1 e2 e3 e4 e5 e6 e7 e8 oO=>Ft!⟩;have xC:Bl H1 (upd (upd H1 dx (.own p)) p (.ins CW dx [])):=λb o e=>R? (Fo! np) (Fo! cj) e
 have s2:Bl H1 H2:=λb o e=>oO b o (xC b o e) (Aj e np);have r_:=c9.keep (HC s2);clear xC oO np cj qd;rw[C_] at e7;have W0:WI CW C CP CI K H2 p W FN! m 0 0 0 0 [] []:=WI.start S1 e2 e3 e4 e5 e6 e7 e8 m1 m5 (U! e1 qL);refine⟨_,rfl,m,rfl,B!,λfl F H3 s3 fresh fa fh fo fc=>?_⟩;have yc:=r_.keep (HC s3);have B0:Hl! H3 W FN! 0 0 0 0 [] [] F:=Bt.start (W0.same s3) (Os (by obtain⟨o,e,_⟩:=W0.wa.some_at hb;exact A! o e)) fresh fa fh fo fc e7 e8;refine⟨_,rfl,2,rfl,42,rfl,a,_,rfl,yc.sq,λcl YR=>⟨cl,_,rfl,XV Ac,?_⟩⟩;have s5:=Ah (o:=.BE ID!) YR;have zi:BK! (DI! H3 cl ID!) cl ID!:=Ac;generalize upd H3 cl (.BE ID!)=H5 at s5 zi;have q3:cl≠W.hs:=λz=>by rw[z] at YR;rw[B0.wi.wa.hs] at YR;cases YR
 have q4:cl∉Er fl F:=λz=>by obtain⟨o,e,_⟩:=fa.has z;rw[YR] at e;cases e
 have wI:=Jnx (ns.map V.int);obtain⟨cs,ecs⟩:=Jhh ns (V? 2) (some 42);have hS5:=yc.keep (HC s5);refine G5! Jg0 cl (K0 EV! (V? 2) (some 42)) (λj σ Hc=>∃(W':EZ)(D':e?)(al':F!)(HG:K!)(F':LH)(u5 u6:Bp!),σ=[I8!,Aw! X?,x? .bl fr,AS!,wv,u5,u6,none,none,none]/\LH! Hc j j 0 (bf j) F'/\W'.hs=W.hs/\cl∉F9!/\BK! Hc cl ID!/\B_ H5 Hc) ⟨W,_,[],[],F,none,none,rfl,B0.same s5,rfl,q4,zi,I7!⟩ (λj σ Hc _ h=>by obtain⟨_,_,_,_,_,_,_,_,_,_,_,h,_⟩:=h;exact DW.of h);.rintro j x σ Hc tt hj ⟨W1,D1,bE,aU,F1,u5,u6,rfl,Sj,ew,nf,ec,ktj⟩ rE;have JOS:j<40:=CB CZ! wI;(obtain⟨c,rfl⟩:∃c,x=G? c:=by rw[ecs,ZH] at hj;cases hc:cs[j]? with | none=>rw[hc] at hj;cases hj | some c=>rw[hc] at hj;exact A! c (ZO hj).symm);have st:=Ca! L6! rE;have zM:Je! Hc tt L6! tt L6!:=Ac;generalize upd Hc tt (.A_ L6!)=Ht at st zM;have St:=Sj.same st;refine⟨tt,_,rfl,S? zM,rfl,_,_,rfl,_,_,rfl,rfl,?_⟩;refine⟨_,rfl,_,rfl,_,rfl,_,rfl,_,rfl,_,rfl,_,_,rfl,rfl,Go 4,rfl,_,rfl,p,W1,D1,m,j,bE,aU,c,_,fr,rfl,St.wi,B!,λx1 Hb dd sb ex va hak=>?_⟩;have Sb:=St.same sb;(have bB:bf j<=400:=by unfold bf;lia);refine⟨p,fl,x1,W1,D1,m,j,j,0,bf j,0,bf (j+1),bE,aU,F1,dd,rfl,ex,Sb,B!,bB,B!,va,Jme m5 λh e=>?_,λv Hd W2 D2 tQ bH F2 bt bfr nf2 o3 _=>?_⟩;(.have:=V.int.inj (BR (hak h e));lia);have o4:=D! sb (st _ _ ec);have o1:=Sb.wi.wa.SU o4 (CN! q3);(have o2:cl∉aU.flatMap C8:=λz=>by obtain⟨y,hy,hb⟩:=CU.mp z;obtain⟨o,e,_,nl,_⟩:=(Sb.wi.at_ y hy).has hb;rw[o4] at e;cases e;exact nl _ rfl);exact⟨W2,D2,tQ,bH,F2,_,_,rfl,bt,I? o3 ew,nf2 cl _ o4 o1 o2 nf,bfr cl _ o4 o1 o2 nf,ktj.trans ((HC st).trans ((HC sb).trans (Sb.DO bfr)))⟩
 rintro σ Hc ⟨W1,D1,bE,aU,F1,u5,u6,rfl,B1,ew,nf,ec,NG⟩;have ji:(K0 (ns.map V.int) (some 2) (some 42)).length<=40:=wI;generalize (K0 (ns.map V.int) (some 2) (some 42)).length=n1 at ji B1;have r9:=hS5.keep NG;have bB:bf n1<=400:=by unfold bf;lia
 refine⟨_,rfl,_,rfl,_,rfl,a,p,fl,ns,21,W1,D1,m,n1,n1,0,bf n1,bE,aU,F1,(λ_ _ _ _=>True),rfl,r9,hlen,Dc!,B1,B!,bB,by unfold bf;lia,trivial,λ_ _ _ _ _ _ _ _ _ _ _ _ _ _ _=>trivial,λc1 H6 W2 D2 bH F2 yX B2 _ UR=>?_⟩;have B2:=B2.reset;have hS7:=r9.keep UR;have cJ:W2.qs.length=m:=B2.wi.wg.wl.len;have rz:E5 W2.qs<=200:=by (have h1:=Jig (l:=W2.qs) (k:=40) (a! (by obtain⟨j,hj⟩:=BW.mp hz;have:=(B2.wi.wg.BP (q:=z.1) (G:=z.2) hj).1.ok.rz;lia)));rw[cJ] at h1;have:m*40<=5*40:=E_ _ m5;lia
 have dz:n1+c1<450:=by unfold bf at yX;lia
 clear yX bB NG UR r9 B1;obtain⟨JB,GQ⟩:=B2.wi.wa.ob;refine Hd! JB GQ (C4 W2 ZV) W2 B2.wi.wa (λl H7 hl el s7=>?_);have sY:W2.ls=[]:=BN.mp (Paired.length B2.wi.lw);rw[sY] at el;refine CO! (λr GK=>⟨_,_,Dj! (Ah GK _ _ el),Dj! Ac,Jv,Jv,_,rfl,?_⟩);rw[F3];refine Bm!;have s8:=Al s7 (GF!);generalize KN! H7=H8 at s8;have B3:=B2.same s8;have hS8:=hS7.keep (HC s8);clear el hl s7 GK GQ;refine⟨_,rfl,X?,rfl,B!,B!,λrl yH=>?_⟩;have s9:=cr yH;refine Je (lo:=0) (n:=m) (tt:=λ_ H Q=>Q true H) (te:=Jmq CW K (Mr!) E) (caps:=[(AQ!,3)]) (σ:=[I8!,Aw! X?,x? .bl fr,AS!,wv,u5,u6,none,none,none]) (λi ys H2=>Cu! rl/\Bl H8 H2/\∃U_:s?,ys=U_.map V.int/\U_.length=i/\U_.sum=Q! (E5 (W2.qs.take i))) ⟨Ac,s9,[],rfl,rfl,rfl⟩ (IN! h.1) ?_ ?_;.rintro i ys H9 N hi ⟨er,sm,U_,rfl,ln,su⟩ hN;rw[wS (B8!+I!=I!)];have B9:=B3.same sm;obtain⟨⟨q,G⟩,hq⟩:=Ef! W2.qs i;have iw:KA W2 I! q G:=IX! B! C_ hq;have gd:=B9.wi.wg.wl.good (B!) hq;obtain⟨hs,os,rs,JI⟩:=gd.told;obtain⟨VC,YN⟩:=B9.wi.wa.ob;refine Cc ⟨_,rfl,p,VC,_,rfl,YN,C4 W2 ZV,_,rfl,p,I!,W2,rfl,B9.wi.wa,G! ⟨q,G,iw,q,G,hs,os,rs,rfl,iw.at B9.wi.wa,gd.h2,gd.o2,gd.r2,JI.pm,JI.pw,JI.PL,JI.pr,JI.wr,λx bG aY st=>?_⟩⟩;obtain⟨y1,y2,y3,as,bs,ds,f0,f1,t1,f2,t2,f3,t3⟩:=(tX st:SE K bG x BD!);refine⟨x,_,2,C? y3,rfl,rfl,f0,rfl,y3,_,rfl,G! f3,?_⟩;refine⟨D! aY er,Ec (Ia!),D! hN ⟨Ac,FU!,U_++[Q! ds.length],Is!,WP ZE ln,?_⟩⟩;(.rw[I4! yH];exact D! aY (sm _ _ e));.have h1:ds.length=G.AI.length:=(Paired.length t3).trans JI.pr.length_eq;rw[JH,su,DJ,hq,Jfd,h1];show _+(p? G.AI.length+0)=Q! ((E5 (W2.qs.take i)+(G.AI.length+0):Nat));push_cast;lia
 rintro ys H9 ⟨er,sm,U_,rfl,ln,su⟩;rw[show W2.qs.take m=W2.qs by rw[<-cJ,BS]] at su;refine⟨rl,U_,rfl,XV er,?_⟩;rw[su];have B4:=B3.same sm;have yb:=hS8.keep (HC sm);have UE:B8!<X?:=B!
 obtain⟨VD,bS⟩:=B4.wi.wa.ob;refine⟨_,rfl,p,VD,_,rfl,bS,C4 W2 ZV,_,rfl,a,ns,2,rfl,yb.sq,hlen,P!,P!,λv2=>⟨_,rfl,_,_,rfl,rfl,UE,?_⟩⟩;have g0:=CV v2 (wS (X?≠0));have g1:=CJ v2 UE;generalize v2 % X?=hh at g0 g1;obtain⟨⟨q,G⟩,hq⟩:=Ef! W2.qs hh.toNat;have iw:KA W2 hh q G:=A! g0 hq;refine(Jhe (NH:=NH) (NHd:=NHd) (NNr:=NNr) (MI:=MI) (NW:=NW) (A':=5*m) (B':=E5 W2.qs+5*m) (R:=λv W' al' HG _=>W'.qs=W2.qs/\EM al'=EM []/\∃io I,v=N! (FD!)/\al'=[]++Dv m hh (FD!) 1/\HG=bH++[MV! FD!]) B4.wi h! h! h! iw h! (ZG _) (λv W3 D3 al3 ys3 bG vS fp wi3 YK o3=>?_) (λv W' al' HG H' h1 h2 h3=>⟨h1,h2,h3⟩):VF CW C CP CI NH NHd NNr MI NW K p H9 _ E0 (.ask hh));obtain⟨eq3,ews,io,I,rfl,XF,ey3⟩:=vS;have B5:=B4.asked YK fp wi3 eq3 ews;have vg:=yb.keep (B4.wi.DO YK);refine⟨_,rfl,_,rfl,_,rfl,a,p,fl,ns,42,W3,D3,m,n1+1,n1+c1+1,5*m,E5 W2.qs+5*m,al3,ys3,F2,(λ_ W al ys=>C1 m W2.qs (FD!) W al ys\/C2 W2.qs (FD!) W al),rfl,vg,hlen,Dc!,B5,B!,B!,B!,C! (AT eq3 q?),λc d A B H1 W D al ys W' al' HG wi j af=>j.elim (λc1=>Jnz wi c1 af) (λc2=>G! (Jny wi c2 af)),λc2 i5 W4 D4 cR F4 ri B6 j6 XY=>?_⟩;.rw[XF,List.nil_append] at hz;obtain⟨i,_,rfl⟩:=AG!;exact C! Gj!
 .rw[ey3];exact⟨_,Fy!,rfl,AY! (0<m),(λr hr=>db hr),λr hr=>db hr⟩
 obtain⟨fin,eC⟩:=Jhl B6.wi j6;have lo:5*m<=c2:=by have h1:=B6.wi.pb.1;(have h2:hG 0 m W4.qs [] cR=0:=by show 0+Hh m cR+0*E5 W4.qs=0;rw[B6.wi.quiet];lia);rw[h2] at h1;lia
 obtain⟨TQ,V_⟩:=B6.wi.wa.ob;refine Hd! TQ V_ (C4 W4 ZV) W4 B6.wi.wa (λl H12 hl el cX=>?_);have sY:W4.ls=[]:=BN.mp (Paired.length B6.wi.lw);rw[sY] at el;refine CO! (λr GK=>⟨_,_,Dj! (Ah GK _ _ el),Dj! Ac,Jv,Jv,_,rfl,?_⟩);rw[F3];have n_:=Al cX (GF!);generalize KN! H12=H13 at n_;have B7:=B6.same n_;refine Bm!;refine⟨_,rfl,_,_,rfl,rfl,C! Dc!,_,rfl,_,_,rfl,rfl,_,rfl,?_⟩;rw[Fg! (wS (Q! 5*X?<=Q! c2))];refine Cc ⟨_,rfl,_,_,rfl,rfl,C! Dc!,_,rfl,_,_,rfl,rfl,_,_,rfl,rfl,_,rfl,?_⟩;rw[Fg! (wS (Q! c2<=5*X?+Q! (E5 W2.qs)))];refine Bm!;obtain⟨kA,fB⟩:=B7.wi.wa.ob;have iq:∃l∈W4.LV,l.1=FD!:=by obtain⟨e,he,en⟩:=fin;obtain⟨y,hy,yn,_⟩:=B6.wi.ff e he;rw[B6.wi.iq];exact⟨_,Ck! y hy,yn.trans en⟩
 refine⟨_,rfl,p,kA,_,rfl,fB,C4 W4 ZV,_,rfl,p,_,W4,rfl,B7.wi.wa,iq,fin,λx y H14 jH ex=>?_⟩;refine⟨x,_,0,V.bl true,rfl,rfl,U?,H!,rfl,rfl,_,rfl,A2!⟩;exact⟨_,rfl,_,rfl,p,fl,W4,D4,m,n1+1,_,_,_,cR,F4,rfl,B7.same jH,B!,B!,eC,λH15 _=>k H15⟩
universe E
universe E K63
universe N K63
open PySem L2 FX
structure MeI(K:W.Frag)(C:Addr)(x q:Str)(st:Stmt)(f:Addr)(fd:FuncData):Prop where
 a:Jx! (W.findIn K (y! C) x) f
 i:W.isFn K (y! f)=true
 fn:j! x q st
structure GI(K:W.Frag)(x:Str)(st:Stmt)(f:Addr)(fd:FuncData):Prop where
 a:o0 x f
 fn:j! x x st
structure RY(K:W.Frag)(x:Str)(st:Stmt)(ps:Ax!)(f:Addr)(fd:FuncData):Prop extends GI K x st f fd where
 b:Binds K fd ps []
theorem RY.TY{K:W.Frag}{mg:Ds!}{hp:Heap}{x:Str}{st:Stmt}{f:Addr}{fd:FuncData}{ps:Ax!}(m:RY K x st ps f fd)(X:K.In hp)(G:G7! hp.Ns):g? x st ps f fd:=⟨m.fn,m.b,lc m.a⟩
structure CI(K:W.Frag)(C:Addr):Prop where
 pg:W.plainGet K C Str.empty=true
 hd:W.hasDictIn K C=true
 po:W.plainOver K C=true
 sa:W.findIn K (y! C) "__setattr__"=x? some (.builtin "object.__setattr__")
 mm:W.makesIn K C=true
 kc:W.keepIn K (y! C)=true
def Bd(x q:Str)(st:Stmt)(ps:Ax!):Prop:=∀(kV doc pm:Value)(an:Option Addr)(EB ct:Value)(us:Ac!),us.length=ps.length->bindArgs (W.fnOf x q (Ni st) (G8 st) (Ak st) .none kV doc pm an EB ct) (A! us [])=pure (ps.zip us)
theorem sZ{P:CY!}{us:Ac!}(h:DB! 0)(k:P []):P us:=by
 rcases us with _|⟨a,us⟩;.exact k
 .cases h
theorem j8{P:CY!}{n:Nat}{us:Ac!}(h:DB! (n+1))(k:∀a vs,vs.length=n->P (a::vs)):P us:=by
 rcases us with _|⟨a,us⟩;.cases h
 .exact k a us (Nat.succ.inj h)
theorem ox{P:CY!}{us:Ac!}(h:DB! 1)(k:∀u0,P [u0]):P us:=HZ! sZ
theorem dB{P:CY!}{us:Ac!}(h:DB! 2)(k:∀u0 u1,P [u0,u1]):P us:=HZ! ox
theorem YV{P:CY!}{us:Ac!}(h:DB! 3)(k:∀u0 u1 u2,P [u0,u1,u2]):P us:=HZ! dB
theorem bD{P:CY!}{us:Ac!}(h:DB! 4)(k:∀u0 u1 u2 u3,P [u0,u1,u2,u3]):P us:=HZ! YV
theorem el5{P:CY!}{us:Ac!}(h:DB! 5)(k:∀u0 u1 u2 u3 u4,P [u0,u1,u2,u3,u4]):P us:=HZ! bD
def BA(x q:Str)(st:Stmt)(ps:Ax!)(us:Ac!):Prop:=∀(kV doc pm:Value)(an:Option Addr)(EB ct:Value),bindArgs (W.fnOf x q (Ni st) (G8 st) (Ak st) .none kV doc pm an EB ct) (A! us [])=pure (ps.zip us)
theorem bd1{a:Str}(h:∀u0,H4! [a] [u0]):D7! [a]:=Hg! ox [a]
theorem bd2{a b:Str}(h:∀u0 u1,H4! [a,b] [u0,u1]):D7! [a,b]:=Hg! dB [a,b]
theorem bd3{a b c:Str}(h:∀u0 u1 u2,H4! [a,b,c] [u0,u1,u2]):D7! [a,b,c]:=Hg! YV [a,b,c]
theorem bd4{a b c d:Str}(h:∀u0 u1 u2 u3,H4! [a,b,c,d] [u0,u1,u2,u3]):D7! [a,b,c,d]:=Hg! bD [a,b,c,d]
theorem bd5{a b c d e:Str}(h:∀u0 u1 u2 u3 u4,H4! [a,b,c,d,e] [u0,u1,u2,u3,u4]):D7! [a,b,c,d,e]:=Hg! el5 [a,b,c,d,e]
theorem MeI.mth{K:W.Frag}{C:Addr}{x q:Str}{st:Stmt}{f:Addr}{fd:FuncData}{ps:Ax!}(m:MeI K C x q st f fd)(h:D7! ps:=by first|exact K63.bd1 λ_ _ _ _ _ _ _=>rfl|exact K63.bd2 λ_ _ _ _ _ _ _ _=>rfl|exact K63.bd3 λ_ _ _ _ _ _ _ _ _=>rfl|exact K63.bd4 λ_ _ _ _ _ _ _ _ _ _=>rfl|exact K63.bd5 λ_ _ _ _ _ _ _ _ _ _ _=>rfl|exact K63.bd0 λ_ _ _ _ _ _=>rfl|exact K63.bd6 λ_ _ _ _ _ _ _ _ _ _ _ _=>rfl):DN K C x q st ps f fd:=⟨m.fn,m.fn.binds h,⟨m.a,m.i,m.fn.kp⟩⟩
theorem GI.gdi{K:W.Frag}{x:Str}{st:Stmt}{f:Addr}{fd:FuncData}{ps:Ax!}(m:GI K x st f fd)(h:Bd x x st ps:=by first|exact K63.bd1 λ_ _ _ _ _ _ _=>rfl|exact K63.bd2 λ_ _ _ _ _ _ _ _=>rfl|exact K63.bd3 λ_ _ _ _ _ _ _ _ _=>rfl|exact K63.bd4 λ_ _ _ _ _ _ _ _ _ _=>rfl|exact K63.bd5 λ_ _ _ _ _ _ _ _ _ _ _=>rfl|exact K63.bd0 λ_ _ _ _ _ _=>rfl|exact K63.bd6 λ_ _ _ _ _ _ _ _ _ _ _ _=>rfl):RY K x st ps f fd:=A! m (m.fn.binds h)
theorem all_mk{l:W.OpenLaw}{w:World}{K:W.Frag}{h:Heap}{mg:Ds!}{fa C CW CP CQ NH XH XN XM NL XW fI yr yk fM yz yq zE zF fGi fPs zD jy fTo fNe fSp fQH fPR fAR fLo fGb yy zA yo fQN fQG ym fPP fPL fPT fWM vo lM lV lU lK lO fWH lJ lN lR vn vp vk fP1 fR1 fC1 fSu fHg zC zB fSh yx fIF fIS yw yv yu lW lY lX lP lZ lQ yl fRc fFl fHd yt fRl lb yp vm y_ fW:Addr}{dI dPI dWI dM dFr zw dCa dAd dGi dPs dCl kC dTo dNe dSp dQH dPR dAR dLo dGb dHo dDr zu dQN dQG zp dPP dPL dPT dWM v7 l6 mD mC lx l8 dWH lu l7 mB v3 v9 vy dP1 dR1 dC1 dSu dHg dDe dDo dSh dII dIF dIS dIL z_ zy mE mG mF l9 mH l_ zk dRc dFl dHd zx dRl mI zv vz dEm dW:FuncData}(X:K.In h)(G:G7! h.Ns)(WA:E4! mg "law" fa)(aC:o0 "House" C)(aCW:o0 "World" CW)(aCP:o0 "Post" CP)(aCQ:o0 "Inquiry" CQ)(aNH:o0 "NoHouse" NH)(aXH:o0 "NotHeld" XH)(aXN:o0 "NotNear" XN)(aXM:o0 "Missing" XM)(aNL:o0 "NoLetter" NL)(aXW:o0 "NoWeight" XW)(xNH:EC! NH)(xXH:EC! XH)(xXN:EC! XN)(xXM:EC! XM)(xNL:EC! NL)(xXW:EC! XW)(sXW:W.mroIn K XW (i! XW)=some true)(hI:Ky! C "House.__init__" pU fI dI)(hPI:Ky! CP "Post.__init__" Vg yr dPI)(hWI:Ky! CW "World.__init__" Z5 yk dWI)(mM:DE! Co! "House.make" pW fM dM)(mFr:DN K C Cp! "House.free" pS (B1! "b") yz dFr)(mPa:DN K C "part" "House.part" pX [i?,"b","share"] yq zw)(mCa:K2! "came" "House.came" p5 zE dCa)(mAd:K2! "added" "House.added" Vm zF dAd)(mGi:K2! "given" "House.given" Vk fGi dGi)(mPs:DN K C "passed" "House.passed" Pc [i?,"b","share","mine"] fPs dPs)(mCl:DE! Cs! "House.clean" Vl zD dCl)(mSt:DE! Gc! "House.state" P6 jy kC)(mTo:Gf! "told" "House.told" pk fTo dTo)(mNe:Gf! "is_near" "House.is_near" K5 fNe dNe)(mSp:Gf! "is_spent" "House.is_spent" Vc fSp dSp)(mQH:Gf! "need_in_hand" "House.need_in_hand" Im fQH dQH)(mPR:DN K C "part_record" "House.part_record" Vf (B1! "b") fPR dPR)(mAR:K2! "add_to_record" "House.add_to_record" Xv fAR dAR)(mLo:DN K C "lose" "House.lose" Sa (B1! "things") fLo dLo)(mGb:DE! "give_back" "House.give_back" Xt fGb dGb)(mHo:Lr! KB "House.hold" pT yy dHo)(mDr:Lr! AO! "House.drop" p6 zA dDr)(mTa:Lr! AP! "House.take" pZ yo zu)(mQN:Gf! "need_near" "House.need_near" Ld fQN dQN)(mQG:Lr! "need_holding" "House.need_holding" Mb fQG dQG)(mTi:DE! "tick" "House.tick" pj ym zp)(mPP:DN K CP "put" "Post.put" Ma [i?,"kind","sender","goal","about"] fPP dPP)(mPL:DN K CP "letters" "Post.letters" Kh N? fPL dPL)(mPT:DN K CP "taken" "Post.taken" Pd AN! fPT dPT)(mWM:SL Co! "World.make" U8 fWM dWM)(mWFr:sw Cp! "World.free" Va (EX! "b") vo v7)(mWSe:sw En! "World.send" U6 Jh! lM l6)(mWCl:SL Cs! "World.clean" Pb lV mD)(mWDe:JG! CL! "World.deliver" Kd lU mC)(mWSt:SL Gc! "World.state" Ka lK lx)(mWLe:Mi! lO l8)(mWH:SL "house" "World.house" E2 fWH dWH)(mWWe:AF! "weight_came" "World.weight_came" L7 lJ lu)(mWPa:AF! "pass_came" "World.pass_came" U7 lN l7)(mWGb:sw "give_back" "World.give_back" P5 (EX! "records") lR mB)(mWHo:FB! KB "World.hold" U9 vn v3)(mWDr:FB! AO! "World.drop" Vb vp v9)(mWTa:FB! AP! "World.take" U5 vk vy)(mP1:RY K "parted" L9 ["weight"] fP1 dP1)(mR1:RY K "reached" Gp ["starts",Bb!] fR1 dR1)(mC1:RY K IQ! Se C0! fC1 dC1)(mSu:RY K "_law_spun" pY [wP,BR!] fSu dSu)(mHg:RY K "_law_holding" Me [BS!,CC!] fHg dHg)(mDe:RY K "_law_deed" Xu EB! zC dDe)(mDo:RY K NI! n9 DS! zB dDo)(mSh:RY K IP! Vd Aq! fSh dSh)(hII:Ky! CQ "Inquiry.__init__" Vi yx dII)(mIF:DN K CQ "first" "Inquiry.first" Pf Dz! fIF dIF)(mIS:DN K CQ "second" "Inquiry.second" Mc DV! fIS dIS)(mIL:DN K CQ "still" "Inquiry.still" Pe N? yw dIL)(mIR:DN K CQ "result" "Inquiry.result" Md N? yv z_)(mLH:DN K C "let" "House.let" pV (B1! "things") yu zy)(mWAs:SL Y? LW! Xq lW mE)(mWAc:AF! "ask_came" "World.ask_came" Ke lY mG)(mWAn:AF! "answer_came" "World.answer_came" F9 lX mF)(mWLc:AF! "let_came" "World.let_came" Kb lP l9)(mWAa:sw "ask_all" "World.ask_all" Js DA! lZ mH)(mWLa:sw "let_all" "World.let_all" L8 Dx! lQ l_)(mUn:RY K "unreached" Il FR! yl zk)(mRc:RY K "recorded" Kf FR! fRc dRc)(mFl:RY K II! p7 Es! fFl dFl)(mHd:RY K Hq! Vj D6! fHd dHd)(mNo:RY K Mz! Vh D9! yt zx)(mRl:RY K NL! Kg FS! fRl dRl)(mSp2:RY K G8! Xr Bv! lb mI)(mRi:RY K LS! Ve DT! yp zv)(mWIn:JG! "inquiry" "World.inquiry" Kc vm vz)(mEm:RY K IY! Mf EA! y_ dEm)(hW:GI K "law" ix fW dW)(cC:CI K C)(nC0:Cf! "number")(nC1:Cf! "made")(nC2:Cf! "ticks")(nC3:Cf! "hand")(nC4:Cf! "outs")(nC5:Cf! Bb!)(nC6:Cf! "records")(cCW:CI K CW)(nCW0:DJ! "share")(nCW1:DJ! "houses")(nCW2:DJ! "post")(nCW3:DJ! "inquiries")(nCW4:DJ! "finds")(nCW5:DJ! "enclosed")(cCP:CI K CP)(nCP0:W.findIn K (y! CP) "latest"=some none)(nCP1:W.findIn K (y! CP) "waiting"=some none)(cCQ:CI K CQ)(nCQ0:JZ! w?)(nCQ1:JZ! WF)(nCQ2:JZ! sB)(nCQ3:JZ! AU!)(z0:T0 "len")(z1:T0 "range")(z2:T0 "tuple")(z3:T0 "sorted")(z4:T0 "isinstance")(z5:T0 "list")(z6:T0 "dict")(z7:T0 "max")(z8:T0 "int")(z9:T0 "bool")(z10:T0 Hu!)(z11:T0 "sum") : ∃fd:FuncData,(∀(s:Shared)(v:Value),BindsTo s fd (A! [v] []) [(Ek!,v)])/\∀base:Heap,K.In base->G7! base.Ns->ET l.prog w K mg base YZ 10 fa fd Aq! (pq K):=by have e:=WA.symm.trans (MO X G hW.a);cases e;have y0:=TD z0;have y1:=TD z1;have y2:=TD z2;have y3:=TD z3;have y4:=TD z4;have y5:=TD z5;have y6:=TD z6;have y7:=TD z7;have y8:=TD z8;have y9:=TD z9;have y10:=TD z10;have y11:=TD z11;have gC:=lc aC;obtain⟨pgC,hdC,poC,saC,mkC,kcC⟩:=cC;have gCW:=lc aCW;obtain⟨uo,vZ,uj,ub,vD,vJ⟩:=cCW;have gCP:=lc aCP;obtain⟨ur,vd,um,ud,vF,vL⟩:=cCP;have gCQ:=lc aCQ;obtain⟨uq,vc,uk,uc,vE,vK⟩:=cCQ;have gNH:=lc aNH;have gXH:=lc aXH;have gXN:=lc aXN;have gXM:=lc aXM;have gNL:=lc aNL;have gXW:=lc aXW;obtain⟨aI,iI,FI⟩:=hI;have bI:=Mg! (B1! "number") aI iI FI;have tV:L2.Mk K C fI:=⟨mkC,aI,iI,kcC⟩;obtain⟨aPI,x5,FPI⟩:=hPI;have bPI:=Mg! N? aPI x5 FPI;have wD:L2.Mk K CP yr:=⟨vF,aPI,x5,vL⟩;obtain⟨aWI,x4,FWI⟩:=hWI;have bWI:=Mg! (JJ! w?) aWI x4 FWI;have wC:L2.Mk K CW yk:=⟨vD,aWI,x4,vJ⟩;replace mP1:=mP1.TY X G;replace mR1:=mR1.TY X G;replace mC1:=mC1.TY X G;replace mSu:=mSu.TY X G;replace mHg:=mHg.TY X G;replace mDe:=mDe.TY X G;replace mDo:=mDo.TY X G;replace mSh:=mSh.TY X G;obtain⟨aII,x8,FII⟩:=hII;have bII:=Mg! E5! aII x8 FII;have wF:L2.Mk K CQ yx:=⟨vE,aII,x8,vK⟩;replace mUn:=mUn.TY X G;replace mRc:=mRc.TY X G;replace mFl:=mFl.TY X G;replace mHd:=mHd.TY X G;replace mNo:=mNo.TY X G;replace mRl:=mRl.TY X G;replace mSp2:=mSp2.TY X G;replace mRi:=mRi.TY X G;replace mEm:=mEm.TY X G;have FW:=hW.fn;have TW:Fh K mg CW NH NH:=⟨⟨uo,vZ,uj,ub⟩,nCW0,nCW1,nCW2,nCW3,nCW4,nCW5,gCW,A! gNH xNH⟩;have TP:Nl K mg CP NL:=⟨⟨ur,vd,um,ud⟩,nCP0,nCP1,gCP,A! gNL xNL,y5⟩;have Tx:pK mg:=⟨y6,y5,y7⟩;have TI:J5! CQ:=⟨⟨uq,vc,uk,uc⟩,nCQ0,nCQ1,nCQ2,nCQ3,gCQ⟩;have TF:K63F.mS mg:=A! y2 y3;have T:Txt K mg C XH XN XM XW:=⟨⟨pgC,hdC,poC,saC⟩,nC0,nC1,nC2,nC3,nC4,nC5,nC6,gC,A! gXH xXH,A! gXN xXN,A! gXM xXM,A! gXW xXW,y0,y1,y2,y3,y4⟩;have z:=FW;obtain⟨⟨oc,od,kV,doc,pm,an,EB,ct,eD,rfl,lk,cd⟩,kp⟩:=z;refine⟨W.fnOf "law" "law" (Ni ix) (G8 ix) (Ak ix) .none kV doc pm an EB ct,λs v=>.of_eq rfl,λbase _ _=>?_⟩;generalize l.prog=P;have p8:B9! jy kC N? (L1 C K):=Jf7 mSt.fn T mTo.fn mTo.bd mTo.mt;have gm:DX! lK lx (B6! Eu NH):=Jdo mWSt.fn T TW mWH mSt (FX.ET.UY p8);have GTi:Ab! ym zp N? (Zx C):=Jb8 mTi.fn T;have GCa:JU! zE dCa [i?,"b","weight"] Z2:=Ji8 mCa.fn T mNe mAR;have GAd:JU! zF dAd [i?,"b","weight"] U3:=Jgi mAd.fn T mAR;have GWe:Kb! lJ lu Ho:=Jac mWWe.fn T TW mCa GCa mAd GAd mGi;have wG:No! lN l7 ap Lz:=Jf0 mWPa.fn T TW TP mPs mPP;have GPt:H0! yq zw (JJ! "b") (Zy C XH XW):=Jiz mPa.fn T mNe mQH mPR mP1;have GSd:No 4 lM l6 Jh! (O9 CW C CP XH XW):=Jfz mWSe.fn T TW TP mWH mPa GPt mSp mPP;have p_:Lv! lO l8:=X8 mWLe.fn TW TP mPL;have GFr:No 2 yz dFr (B1! "b") (Uz C XH):=Ji4 mFr.fn T mQH;have GHo:H0! yy dHo [i?,"a","b"] (Uy C XH XN):=Ji3 mHo.fn T mNe mQH mQN;have GDr:No 4 zA dDr [i?,"a","b"] (U0 C XH XN XM):=Ji6 mDr.fn T mNe mQH mQN mQG;have GTa:No 4 yo zu [i?,"a","b"] (Ur C XH XN XM):=Jiw mTa.fn T mNe mQH mQN mQG;have GMk:JM! fM dM N? (Ux C):=FX.ET.UY (Ji0 mM.fn T);have GCh:JU! zD dCl N? U1:=Jgh mCl.fn T Tx mR1 mLo mGb;have GWG:No! lR mB (EX! "records") Pa:=Jf4 mWGb.fn TW TP mPP;have GWC:Jg! lV mD (BP! L0):=Jdp mWCl.fn T TW mWH mCl GCh mWGb GWG;have GAa:B9! lZ mH DA! KO!:=Jae mWAa.fn T TW TP mPP;have GAc:N3! lY mG (Gn CW C CP K):=Ya mWAc.fn T TW TP mTi mSt p8 mPP;have GLh:JU! yu zy (B1! "things") Zz:=Ji2 mLH.fn T Tx mLo mGb;have GLc:Kb! lP l9 Gm:=X9 mWLc.fn T TW mLH GLh mWGb GWG;have GUn:JT! yl zk FR! K63F.MF:=K63F.TJ mUn.fn TF mR1 mRc;have GIL:JQ! yw dIL N? K63F.SW CQ:=K63F.aR mIL.fn TI T.sorted;have GIR:NH! yv z_ N? (K63F.Q_ CQ K):=K63F.XX mIR.fn TI mIL GIL mUn GUn;have GLa:DL! 4 lQ l_ Dx! Nv:=Jad mWLa.fn T TW TP TI mIR GIR mPP;have GAn:DL! 5 lX mF ap Pw:=Jiu mWAn.fn T TW TI mIF mIS mWAa GAa mWLa GLa;have GAs:DX! lW mE (Jj! CQ):=Jit mWAs.fn T TW TI mWH wF FII bII mWAa GAa;have GDl:No 6 lU mC AN! (B6! Uq CQ):=Jis mWDe.fn TW TP mPT mWWe GWe mWPa wG mWAc GAc mWAn GAn mWLc GLc;have GDo:No 7 zB dDo DS! (tq CW C CP CQ NH XH XN XM XW K):=Jnh mDo.fn TW ⟨mWM,mWHo,mWDr,mWTa,mWFr,mWSe,mWCl,mWAs,mWDe,EH! (Jf1 mWM.fn T TW mWH mM GMk).mono,EH! (Jf3 mWHo.fn T TW mWH mHo GHo).mono,Jf6 mWDr.fn T TW mWH mDr GDr,Jfy mWTa.fn T TW mWH mTa GTa,EH! (Jf5 mWFr.fn T TW mWH mFr GFr).mono,EH! GSd.mono,EH! (FX.ET.UY GWC).mono,EH! GAs.mono,GDl⟩;have GDe:DL! 4 zC dDe EB! Z1:=Ji7 mDe.fn T TW mSu mHg mWSt gm mWLe p_;have GNo:B9! yt zx D9! Uu:=Jgd mNo.fn mHd;have mW:DL! 8 lb mI Bv! Us:=Jix mSp2.fn T TW sXW mDo GDo mWLe p_ mNo GNo;have GRi:DL! 4 yp zv DT! Ut:=Jga mRi.fn T TW mWSt gm mRl (Yc mRl.fn);have GEm:DL! 9 y_ dEm EA! Nx:=Jah mEm.fn T TW mC1 mWLe p_ mSp2 mW;exact Jlm FW T y10 y11 TW wC bWI (Jf2 FWI T TW TP tV FI bI wD FPI bPI) mC1 mSh mFl (Ji5 mFl.fn T) mSp2 mW mDe GDe mRi GRi mEm GEm mWLe p_ mWSt gm mWAs GAs mWIn
theorem walk{l:W.OpenLaw}{q:Program}{loose:Ax!}{XP:(Str->Option Value)->Heap->Prop}{YP:World->Heap->Prop}{d:DefRec}{K:Params->W.Frag}(hn:l.most=D? 63)(jo:d.params.defaults=[])(hY:∀(w:World) (h:Heap),YP w h->(K w.params).In h)(F:∀(w:World) (mg:Ds!) (fa:Addr) (h:Heap),(K w.params).In h->G7! h.Ns->E4! mg d.name fa -> ∃fd:FuncData,(∀(s:Shared) (u:Value),BindsTo s fd (A! [u] []) [(Ek!,u)])/\∀base:Heap,(K w.params).In base->G7! base.Ns->ET l.prog w (K w.params) mg base YZ 10 fa fd Aq! (pq (K w.params))) : W.WalkO q loose XP YP l.row.toRowW d [] (λf vs=>PySem.call f vs) :=L2.cO (n:=63) (k:=10) (x:=Ek!) (CX:=λw=>YZ) (sp:=λw=>pq (K w.params)) hn (P!) jo ⟨rfl,P!,P!⟩ hY F (λ_ H a ns hl hO hS=>⟨a,ns,rfl,bF.of hO hS,hl,λ_=>rfl⟩) λ_ _ _ _ _ z=>z
end
end K63
open PySem PySem.W PyProof.Rows
set_option maxRecDepth 100000 in
set_option maxHeartbeats 0 in
theorem PySem.Challenge.cw_farhold_k63_whole_calm_holds : PySem.Challenge.rw_farhold_k63_whole_calm.Holds := by
 w_on;o_law;k_head;(case hw=>w_witness2)
 k_fill
 refine K63.walk (l:=PySem.Challenge.rw_farhold_k63_whole_calm) rfl rfl (fun w h Y=>W.kIn_of Y) ?F
 case F =>
  intro w mg fa h KX G hmg
  refine' K63.all_mk KX G hmg ?aC ?aCW ?aCP ?aCQ ?aNH ?aXH ?aXN ?aXM ?aNL ?aXW ?xNH ?xXH ?xXN ?xXM ?xNL ?xXW ?sXW ?hI ?hPI ?hWI ?mM ?mFr ?mPa ?mCa ?mAd ?mGi ?mPs ?mCl ?mSt ?mTo ?mNe ?mSp ?mQH ?mPR ?mAR ?mLo ?mGb ?mHo ?mDr ?mTa ?mQN ?mQG ?mTi ?mPP ?mPL ?mPT ?mWM ?mWFr ?mWSe ?mWCl ?mWDe ?mWSt ?mWLe ?mWH ?mWWe ?mWPa ?mWGb ?mWHo ?mWDr ?mWTa ?mP1 ?mR1 ?mC1 ?mSu ?mHg ?mDe ?mDo ?mSh ?hII ?mIF ?mIS ?mIL ?mIR ?mLH ?mWAs ?mWAc ?mWAn ?mWLc ?mWAa ?mWLa ?mUn ?mRc ?mFl ?mHd ?mNo ?mRl ?mSp2 ?mRi ?mWIn ?mEm ?hW ?cC ?nC0 ?nC1 ?nC2 ?nC3 ?nC4 ?nC5 ?nC6 ?cCW ?nCW0 ?nCW1 ?nCW2 ?nCW3 ?nCW4 ?nCW5 ?cCP ?nCP0 ?nCP1 ?cCQ ?nCQ0 ?nCQ1 ?nCQ2 ?nCQ3 ?z0 ?z1 ?z2 ?z3 ?z4 ?z5 ?z6 ?z7 ?z8 ?z9 ?z10 ?z11
  case aC|aCW|aCP|aCQ|aNH|aXH|aXN|aXM|aNL|aXW=>k_is
  case xNH|xXH|xXN|xXM|xNL|xXW=>k_exc
  case sXW=>k_is
  case hI|hPI|hWI=>exact⟨by k_is,by k_is,⟨⟨_,_,_,_,_,_,_,_,_,rfl,by k_is,by k_is⟩,by k_is⟩⟩
  case mM|mFr|mPa|mCa|mAd|mGi|mPs|mCl|mSt|mTo|mNe|mSp|mQH|mPR|mAR|mLo|mGb|mHo|mDr|mTa|mQN|mQG|mTi|mPP|mPL|mPT|mWM|mWFr|mWSe|mWCl|mWDe|mWSt|mWLe|mWH|mWWe|mWPa|mWGb|mWHo|mWDr|mWTa=>exact K63.MeI.mth ⟨by k_is,by k_is,⟨⟨_,_,_,_,_,_,_,_,_,rfl,by k_is,by k_is⟩,by k_is⟩⟩
  case mP1|mR1|mC1|mSu|mHg|mDe|mDo|mSh=>exact K63.GI.gdi ⟨by k_is,⟨⟨_,_,_,_,_,_,_,_,_,rfl,by k_is,by k_is⟩,by k_is⟩⟩
  case hII=>exact⟨by k_is,by k_is,⟨⟨_,_,_,_,_,_,_,_,_,rfl,by k_is,by k_is⟩,by k_is⟩⟩
  case mIF|mIS|mIL|mIR|mLH|mWAs|mWAc|mWAn|mWLc|mWAa|mWLa=>exact K63.MeI.mth ⟨by k_is,by k_is,⟨⟨_,_,_,_,_,_,_,_,_,rfl,by k_is,by k_is⟩,by k_is⟩⟩
  case mUn|mRc|mFl|mHd|mNo|mRl|mSp2|mRi=>exact K63.GI.gdi ⟨by k_is,⟨⟨_,_,_,_,_,_,_,_,_,rfl,by k_is,by k_is⟩,by k_is⟩⟩
  case mWIn=>exact K63.MeI.mth ⟨by k_is,by k_is,⟨⟨_,_,_,_,_,_,_,_,_,rfl,by k_is,by k_is⟩,by k_is⟩⟩
  case mEm=>exact K63.GI.gdi ⟨by k_is,⟨⟨_,_,_,_,_,_,_,_,_,rfl,by k_is,by k_is⟩,by k_is⟩⟩
  case hW=>exact⟨by k_is,⟨⟨_,_,_,_,_,_,_,_,_,rfl,by k_is,by k_is⟩,by k_is⟩⟩
  case cC=>constructor<;>k_is
  case nC0|nC1|nC2|nC3|nC4|nC5|nC6=>k_is
  case cCW=>constructor<;>k_is
  case nCW0|nCW1|nCW2|nCW3|nCW4|nCW5=>k_is
  case cCP=>constructor<;>k_is
  case nCP0|nCP1=>k_is
  case cCQ=>constructor<;>k_is
  case nCQ0|nCQ1|nCQ2|nCQ3|z0|z1|z2|z3|z4|z5|z6|z7|z8|z9|z10|z11=>k_is
