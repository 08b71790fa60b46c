import PyProof.Rows.All
import Wide.All
import OpenK.AllK
import Wide.FinOn
import Lean
import PyProof.EqAt
import PyProof.EqKinds
import PyProof.TupleCall
import PySem.Challenge.RW_farhold_k52_desk_asks
set_option linter.all false
set_option compiler.extract_closed false
set_option bootstrap.genMatcherCode false
set_option genSizeOfSpec false
namespace Lake
end Lake
open Lake
set_option genInjectivity false
def AA:=@Nat.le_trans
def AD:=@if_neg
def AE:=@Nat.lt_of_le_of_lt
def AF:=@if_pos
def AG:=@Int.natCast_nonneg
def AH:=@List.mem_filter
def AI:=@List.map_cons
def AJ:=@Int.le_refl
def AM:=@decide_eq_true
def AN:=@decide_eq_false
def AO:=@List.append_nil
def AQ:=@List.mem_map
def AR:=@Bool.false_ne_true
def AS:=@List.nodup_append
def AU:=@PySem.Heap.lt_size
def AW:=@Nat.le_add_right
def AX:=@List.map_map
def AZ:=@Nat.zero_le
def A_:=@Nat.le_of_lt
def BB:=@List.nodup_cons
def BC:=@List.length_filter_le
def BD:=@List.length_cons
def BE:=@List.mem_of_find?_eq_some
def BH:=@List.append_assoc
def BJ:=@List.mem_map_of_mem
def BL:=@Int.le_trans
def BM:=@Int.toNat_of_nonneg
def BN:=@of_decide_eq_true
def BO:=@List.size_toArray
def BP:=@Nat.ne_of_lt
def BQ:=@Nat.le_of_eq
def BR:=@List.find?_eq_none
def BS:=@List.take_length
def BU:=@Nat.le_of_succ_le
def BW:=@List.mem_range
def BY:=@List.mem_cons
def BZ:=@List.length_nil
def B_:=@Int.ofNat_le
def CA:=@Int.le_add_one
def CF:=@Nat.not_lt
def CG:=@Nat.lt_of_lt_of_le
def CJ:=@Nat.le_succ_of_le
def CK:=@List.take_add_one
def CL:=@Int.toNat_natCast
def CM:=@List.find?_cons
def CN:=@List.not_mem_nil
def CO:=@List.length_take
def CQ:=@PySem.Heap.get?_update_other
def CS:=@List.length_eq_zero_iff
def CT:=@PySem.boot_len
def CV:=@PyProof.Rows.boot_str
def CY:=@Int.ofNat_lt
def CZ:=@PySem.sizeLine_eq
def C_:=@PySem.wpAny_newObj_type
def DA:=@PyProof.Rows.boot_isinstance
def DB:=@Nat.le_add_left
def DC:=@Option.map_eq_some_iff
def DE:=@PySem.wpAny_field
def DG:=@PySem.wpAny_call_entry
def DH:=@List.map_congr_left
def DI:=@List.flatMap_append
def DJ:=@List.flatMap_cons
def DN:=@Nat.lt_irrefl
def DO:=@List.sum_cons
def DP:=@Nat.le_antisymm
def DQ:=@Int.emod_nonneg
def DR:=@Int.emod_lt_of_pos
def DS:=@Bool.false_eq_true
def DT:=@PySem.wpAny_dictEntries
def DV:=@List.length_range
def DX:=@Nat.le_succ
def DY:=@PySem.F.plainAttrs_dict
def DZ:=@Array.length_toList
def D_:=@PySem.wpAny_callSpecial?_slot
def EC:=@List.mem_flatMap
def EE:=@PySem.wpAny_setField_rec
def EH:=@List.nodup_nil
def EI:=@PySem.F.plainAttrs_list
def EJ:=@PySem.Heap.get?_update_self
def EL:=@Nat.mul_le_mul_right
def EM:=@Nat.ne_of_gt
def EN:=@List.pairwise_cons
def EO:=@PySem.wpAny_holding
def EU:=@beq_eq_false_iff_ne
def EV:=@List.mem_iff_getElem?
def EW:=@List.getElem?_eq_none
def EX:=@Nat.lt_succ_of_le
def EY:=@List.pairwise_map
def FF:=@PySem.wpAny_mono
def FH:=@List.mem_singleton
def FJ:=@Array.getElem?_eq_some_iff
def FL:=@List.find?_some
def FN:=@List.filter_cons
def FO:=@PySem.F.plainAttrs_str
def FQ:=@PySem.Obj.data_mapFields
def FR:=@PySem.lookup_relabel_local
def FU:=@Int.le_add_of_nonneg_left
def FZ:=@List.filter_congr
def F_:=@PySem.F.slot_dict_get
def F':=@PyProof.Rows.boot_int
def GA:=@List.length_singleton
def GB:=@if_false
def GC:=@PyProof.Rows.boot_sorted
def GK:=@Int.lt_of_le_of_lt
def GO:=@PyProof.Rows.boot_tuple
def GV:=@PySem.W.mg_none_of
def GY:=@or_false
def GZ:=@List.map_nil
def HD:=@List.range_succ
def HF:=@List.take_append_drop
def HG:=@PySem.Calls.callWith_builtin
def HH:=@Bool.and_eq_true
def HI:=@List.append_of_mem
def HK:=@PySem.wpAny_dictEpoch
def HR:=@PySem.tupleKind_room_in1
def HV:=@Nat.le_of_lt_succ
def HY:=@PySem.wpAny_setField
def HZ:=@PySem.Calls.evalArgs_plain
def IA:=@if_true
def IB:=@List.take_of_length_le
def IE:=@List.lookup_cons
def IJ:=@PySem.F.plain_extend_loop
def IK:=@List.getElem?_append_left
def IL:=@List.filterMap_eq_nil_iff
def IM:=@PySem.Calls.spliced_cons
def IQ:=@Int.not_lt
def IS:=@PySem.F.type_list_append
def IT:=@PySem.F.slot_list_append
def IY:=@List.length_pos_iff
def IZ:=@List.filter_sublist
def I_:=@List.filterMap_cons
def JE:=@PySem.codeAny_mono
def JF:=@Nat.not_lt_of_le
def JG:=@PySem.Obj.data_mapDictKeys
def JL:=@PySem.wpAny_attempt
def JO:=@Int.le_of_eq
def JP:=@PySem.F.entry_dict_get
def JQ:=@List.getElem?_set_self
def JT:=@PySem.wpAny_seqItems
def JU:=@PySem.wpAny_typeNameOfWhole_itemiter
def JV:=@PySem.StrLaws.join_length_le
def JW:=@List.perm_append_comm
def JX:=@List.length_replicate
def JY:=@PySem.wpAny_typeNameOfWhole_keyiter
def JZ:=@PyProof.Rows.callWith_type1
def J_:=@PySem.F.slot_dict_itemiterator_next
def KC:=@PySem.W.mg_of
def KD:=@PySem.wpAny_Call_Name_kw
def KJ:=@PySem.wpAny_passesOwn
def KL:=@List.getElem?_append_right
def KN:=@List.getD_eq_getElem?_getD
def KO:=@List.exists_cons_of_ne_nil
def KP:=@PySem.F.slot_dict_keyiterator_next
def KS:=@PySem.W.kia_one
def KY:=@Nat.lt_trans
def KZ:=@Int.ne_of_gt
def K_:=@List.flatMap_nil
def K':=@PySem.wpAny_notOrdered_dict
def LA:=@PySem.Obj.isFreed_of_fields
def LC:=@PySem.wpAny_truthy_bool
def LD:=@PySem.Calls.spliced_nil
def LG:=@PySem.mem_of_lookup
def LH:=@Nat.add_le_add_left
def LI:=@List.filter_eq_self
def LJ:=@Array.toList_append
def LP:=@PySem.Heap.size_push
def LQ:=@PySem.F.slot_dict_values
def LR:=@Option.isSome_iff_exists
def LU:=@PySem.F.slot_tuple_iterator_next
def LW:=@List.of_mem_zip
def LX:=@List.filter_map
def LY:=@Nat.lt_of_le_of_ne
def LZ:=@List.filter_append
def L_:=@PySem.StrLaws.sumLen_le
def MQ:=@List.map_id'
def MT:=@Nat.add_le_add
def MV:=@PySem.wpAny_typeNameOf_keyiter
def MW:=@List.pairwise_lt_range
def MX:=@List.Perm.append_right
def NB:=@PySem.size_of_entries
def NK:=@PySem.F.type_str_join
def NM:=@PySem.F.slot_str_join
def NN:=@PySem.F.slot_dict_pop
def NT:=@beq_iff_eq
def NU:=@Int.not_le
def NY:=@beq_self_eq_true
def NZ:=@Nat.min_le_right
def N_:=@List.getElem_inj
def N':=@List.any_eq_true
def OA:=@List.all_eq_true
def OB:=@Array.isEmpty_iff_size_eq_zero
def OJ:=@PySem.wpAny_Call_method
def OK:=@List.getElem?_set_ne
def OL:=@Bool.and_eq_true_iff
def OP:=@PyProof.Rows.get?_update_seq
def OQ:=@List.sum_append
def OR:=@List.mem_append
def OS:=@Bool.eq_iff_iff
def PH:=@PySem.call_meets
def PK:=@List.sum_nil
def PL:=@PySem.wpAny_isInstance
def QD:=@PySem.wpAny_of_eq
def QE:=@Option.map_map
def QF:=@List.take_zero
def QG:=@List.find?_map
def QH:=@Int.add_nonneg
def QI:=@List.contains_cons
def QJ:=@PySem.Around.under_plainId
def QK:=@Int.le_add_of_nonneg_right
def QY:=@PySem.wpAny_execs_nil
def QZ:=@PySem.codeAny_builtin
def Q_:=@PySem.W.methodCall_KW
def RB:=@List.mem_or_eq_of_mem_set
def RC:=@Array.getElem?_eq_getElem
def RI:=@PySem.Obj.isFreed_of_dict
def RJ:=@List.foldl_append
def RK:=@List.ext_getElem?
def RL:=@Bool.eq_false_iff
def R_:=@PySem.call_meetsIn
def SA:=@PySem.W.callWith_K
def SD:=@List.any_cons
def SE:=@PySem.W.KasT.kasWp_bind
def SF:=@Bool.true_and
def SH:=@Bool.and_true
def SJ:=@PySem.F.type_dict_values
def TM:=@PySem.wpAny_rule
def TN:=@Nat.lt_succ_self
def TQ:=@List.range'_succ
def TU:=@PySem.F.args_dict_get_2
def UP:=@Int.le_of_lt
def UQ:=@PySem.Calls.call_function_entry
def UR:=@Array.getElem?_eq_none
def UZ:=@PySem.wpAny_pyIter_list
def VP:=@PySem.F.type_dict_get
def VQ:=@Nat.sub_eq_zero_of_le
def VR:=@List.filterMap_append
def WK:=@PySem.wpAny_forIn_list
def WL:=@Std.Legacy.Range.forIn_eq_forIn_range'
def XH:=@PySem.wpAny_call
def XI:=@PySem.typeIs_str
def XW:=@PySem.wpAny_isOneOf_itemiter
def YD:=@PySem.F.slot_zip_next
def YT:=@PySem.builtinLookup_eq_fast
local macro_rules(kind:=Lean.Parser.Command.mutual)|s=>do
 let c:=s[1].getArgs
 if c[0]![1][1][0].getId != `Z then Lean.Macro.throwUnsupported
 let nd:=fun(k:Lean.Name)(a:Array Lean.Syntax)=>Lean.Syntax.node .none k a
 let at_:=fun(x:String)=>Lean.Syntax.atom .none x
 let nl:=nd `null
 let q:=fun(m:Lean.NameMap (Bool×Lean.Syntax))(x:Lean.Syntax)=>x.rewriteBottomUp fun y=>
  if y.isIdent then match m.find? y.getId with|some (false,b)=>b|_=>y else
  let k:=y.getKind
  let y:=if y.getArgs.any (·.isOfKind `Z)&&k != `Lean.Parser.Tactic.show then y.setArgs (y.getArgs.flatMap fun z=>if z.isOfKind `Z then z.getArgs else #[z]) else y
  if k== `«term#[_,]» then (let a:=y[1].getArgs;if a.size>0&&a[0]!.getId== `ZZZ then y.setArg 1 (nl (a.extract 2 a.size)) else nd `Lean.Parser.Term.anonymousCtor #[at_ "⟨",y[1],at_ "⟩"]) else
  if k== `Lean.Parser.Term.app then match m.find? y[0].getId with|some (true,b)=>((b.rewriteBottomUpM (m:=StateM Nat) fun z=>if z.isIdent&&z.getId== `Z then modifyGet fun i=>(y[1][i],i+1) else pure z).run 0).1|_=>y else
  if k== `Lean.Parser.Tactic.show then if y[1].isOfKind `Z then y[1] else nd `Lean.Parser.Tactic.refine #[at_ "refine",y[1]] else
  if k== `Lean.Parser.Tactic.tacticHave__&&y[2][0].isOfKind `Lean.Parser.Term.letPatDecl then nd `Lean.Parser.Tactic.obtain #[at_ "obtain",nl #[nd `Lean.Parser.Tactic.rcasesPatMed #[nl #[y[2][0][0].rewriteBottomUp fun z=>if z.isIdent then nd `Lean.Parser.Tactic.rcasesPat.one #[z] else if z.isOfKind `Lean.Parser.Term.hole then nd `Lean.Parser.Tactic.rcasesPat.ignore #[z[0]] else if z.isOfKind `Lean.Parser.Term.anonymousCtor then nd `Lean.Parser.Tactic.rcasesPat.tuple #[z[0],nl (z[1].getArgs.map fun a=>if a.isAtom then a else nd `Lean.Parser.Tactic.rcasesPatLo #[nd `Lean.Parser.Tactic.rcasesPatMed #[nl #[a]],nl #[]]),z[2]] else z]]],nl #[],nl #[y[2][0][3],nl #[y[2][0][4]]]] else
  if k== `Lean.Parser.Command.definition then nd `Lean.Parser.Command.theorem #[at_ "theorem",y[1],nd `Lean.Parser.Command.declSig #[y[2][0],y[2][1][0]],y[3]] else
  if k== `Lean.Parser.Command.abbrev then nd `Lean.Parser.Command.definition #[at_ "def",y[1],y[2],y[3],nl #[]] else y
 let e:=c[0]![1][3][1][1].getSepArgs
 let n<-`(noncomputable def a:=1)
 let n:=n.raw.rewriteBottomUp (·.setInfo .none)
 let mut m:={}
 for i in [0:e.size/2] do
  let b:=q m e[2*i+1]!
  let h:=e[2*i]!.getId
  let b:=if h.toString.back=='?'&&b.isOfKind `Lean.Parser.Term.paren then b[1] else b
  let b:=if h.toString.back=='?' then nd `Z (if b.isOfKind `Lean.Parser.Term.byTactic then b[1][0][0].getArgs else b[1].getArgs) else b
  m:=m.insert h ((b.find? fun z=>z.isIdent&&z.getId== `Z).isSome,b)
 let o<-(c.extract 1 c.size).mapM fun c=>do
  let a:=if c.isOfKind `Lean.Parser.Command.open then c[1][0].getArgs else #[]
  let f:=if a.isEmpty then `x else a[0]!.getId
  if f== `T then
   return Lean.mkNullNode ((a.extract 1 a.size).map fun i=>n.rewriteBottomUp fun z=>if z.isIdent then Lean.mkIdent (.str `PySem.W.Fast s!"tw{i.getId.toString.foldl (fun n c=>n*52+if c.toNat<91 then c.toNat-65 else c.toNat-71) 0}") else z)
  else if f== `S then `(section)
  else if f== `N then `(namespace $(⟨a[1]!⟩))
  else if f== `E then if a.size==1 then `(end) else `(end $(⟨a[1]!⟩))
  else
   let c:=(q m c).rewriteBottomUp (·.setInfo .none)
   if [`Lean.Parser.Command.definition,`Lean.Parser.Command.instance].contains c[1].getKind&&c[0].getArgs.all (·.isNone) then return c.setArg 0 n[0] else return c
 return Lean.mkNullNode o
noncomputable section
mutual
def Z:=#[B!,Prop,u?,by decide +kernel,CP!,Type _,CQ!,List,Bd!,as.map,Xo!,as ++ bs,Xp!,a ∈ l,E4!,bs.map,AC!,some,
Db,l.map,Go,Type,KE,Int,Ag!,Str,JB!,Value,BH!,Bool,T!,Z=true,BI!,Sum.inl,hg!,Value.int,E5!,Sum.inr,
Xq!,Value.str,Cs!,Z (Z:=Z) (Z:=Z) Z,l!,.inl,A!,rfl,IN,.inr,PP,.int,wp,.str,Rj!,decide,A0!,Z=false,Da!,prog,
EE?,(by obtain⟨i,t,rfl,rfl⟩|⟨x,t,rfl,rfl⟩:=Z),hl!,(nomatch e),ho!,wpAny_eqBool_int,yv!,SeqAt.EqAt.int_str,
yw!,SeqAt.EqAt.str_int,hr!,u=Value.none,LQ!,Value.bool,Db!,Value.ref,Ct!,Vals,HZ!,Paired.length,Os,.cons,
Ay?,by cases Z<;>show Z,a!,.nil,Xr!,Option,y!,p.1,H!,q.1,AQ!,p.2,Rs,q.2,G!,Addr,Be!,if Z then Z else Z,d!,upd,
Rk!,a≠b,JC!,xs.length<=sizeLine,LR!,h.get?,Cu!,.type,F7!,"list",CR!,its.toArray,GE,kvs,h1!,Addr×Value,WP,.BI,
Cv!,xs.map,Rl!,entryOfKey,Xs!,tupleKind,EG!,(·.1),JD!,.own,h5!,fs.length<=Z,h7!,W.instObj,Rm!,fs.map,
Xt!,"range",Rn!,.fields,GM,.none,F8!,Heap,Nv!,h1.get?,Xu!,h2.get?,yx!,a<h.objs.size,
HE?,by have#[_,#[_,_,_,e,_],_]:=x,CS!,ys.map,Nw!,h'.get?,iJ!,h.objs.size<=a,CT!,absurd,Xv!,λ_ _ q=>q,Ro!,b≠e,
EY?,(by obtain rfl|hc:=hc),E6!,∀b o,Z,Xw!,u.keep,yy!,λb ob q _ _ _=>Z,Dc!,#[ZZZ],Xx!,Un.kept,Xy!,λz=>z,
AR!,List.range,JE!,AH.mp,Nx!,AH.mpr,Rp!,BW.mpr,Bf!,base,Xz!,X.outer,Rq!,.cell,Ha!,.free,ic!,env.kindOf,
LS!,X.base,id!,X.env.cells.lookup,ie!,X.env.kindOf,A1!,X.calm=true,Cw!,X.stack,ih!,X.env::X.outer,
ii!,X.env.locals,X0!,b≠X.env.locals,ik!,X.JM.heap.get?,X1!,b∉X.fs,yz!,X.JM.heap.FunFrames,Tk,s.heap,o0,X.env,
EH!,s.heap.get?,EI!,X.prog,I?,by rw[Z] at this,ip!,I.base.keep,Rr!,I.base.free,Bg!,λb o e=>Z,
Rs!,s.heap.objs.size<=a,LT!,I.cell,y0!,s.heap.FunFrames,SZ,λb hb=>Z,HF?,(by obtain e|⟨e,hf⟩:=I.ok.rC),
Rt!,I.ok.kind,y1!,Heap.get?_none_of_le,JF!,I.free,X2!,I.base.SV,X3!,I.base.QA,X4!,λx c e=>Z,F9!,λp hp=>Z,
X5!,{ s with heap:=h',toks:=t' },iv!,λb o _ e=>Z,JG!,I.bare,X6!,Ne.symm,Dd!,I.EK,X7!,I.EK.fresh,iw!,e1.trans,
X8!,Heap.SameBut,Hb!,s'.heap,y4!,X.env.scope.names.lookup,HG?,(by obtain⟨k,e⟩|⟨k,c,e,z⟩:=q),
CU!,{ s with heap:=h' },ix!,s'.os=s.os,JH!,λ_ _=>False,LU!,λGF H'=>Z,X9!,backTo,AG!,pos,Ny!,starEach,J!,Stmt,
YA!,λ_ _ x=>x,CC?,by rintro v s1 ⟨x,H1,I1,r1,q1⟩,YB!,λσ H Q=>Z,N?,by intro AB s σ H Q I h,iy!,wpAny_Name,
AH!,fin,iz!,.Constant,Ar!,.bool,AI!,.bl,AS!,.GJ,zL!,Constant_none,i0!,compareOp,YC!,.NotIn,
zM!,λv u s2 x y H2 I2 rx ry q=>Z,X?,by have#[t,rfl]:=rx,BT?,by have#[t',rfl]:=ry,zN!,λAB s σ H Q I hw=>Z,
zO!,wpAny_Compare1,Et?,by intro AB s σ H Q I hw,zP!,wpAny_isTrue_Compare1,IR,false,AC,true,
CD?,by intro wh AB s σ H Q I h,YD!,b::rest,HH?,by rintro c s1 ⟨H1,I1,q1⟩,HI?,by rintro d s1 ⟨H1,I1,q1⟩,XV,.BK,
Ru!,K.lookup,i1!,o.dict=none,zR!,its.size<=sizeLine,i2!,its.toList,E7!,"tuple",De!,I.PQ,GA!,I.list,
Cx!,congrArg,JI!,I.tuple,Nz!,λD σ H=>Z,V?,by intro AB s σ H D I h,zX!,wpAny_execs_cons,SB,none,Hc!,pure,
Rv!,b=true,YE!,λ_ _ _=>False,Rw!,assign,N0!,assignEach,B1!,(·.2),HL?,by intro AB s σ H vs us Q I r h,
GB!,s.toks,ut,Nat,GC!,turn,YF!,∀b∈fp,Z,JJ!,"zip",Rx!,"dict_itemiterator",YG!,if Z then Z else Z,GD!,rawInt,
zr!,Bool.false_and,i3!,h.IsListIter,JK!,λi h st b hb=>Z,CE?,by have#[o,e,c,d]:=st,
m?,by intro X hP hw hc i AB s σ H E I hf st hg,Y?,by subst hP hw,Eu?,by have#[xs,x,hq,hx]:=hg,i4!,p.isList,
Bh!,λb o hb e=>Z,CF?,by have hl:=rv.length,zv!,h.IsTupleIter,zw!,{ s with heap:=h',toks:=tk },
AO?,by intro AB s σ H R I h,JL!,s1.heap.objs.size,i5!,wpAny_pyIter_tuple,UF,s.heap.objs.size,JM!,s.heap.push,
N1!,[a,b],Hd!,xs.length,i6!,xs.length-i,i7!,i<xs.length,Cy!,CF.mp,AP?,by intro AB s σ H x y v u Q I rx ry h,
HU?,by intro AB s σ H x v Q I rx h,A2!,V.int,E8!,V.bl,AT!,V.str,Ry!,false=true,JAU,y.length<=sizeLine,
i8!,y.length,JAV,y.size<=sizeLine,LV!,pl.isList,i9!,kvs.length=vs.length,EJ!,Z<=sizeLine,GE!,.builtin,
b?,by intro AB s σ H xs us Q I r h,LW!,"int",YH!,toString,N2!,"str",E9!,name,AE?,by dsimp only,
JAn,es.toList.any,JAo,List.any_eq_false,JAq,ns.length<=sizeLine,JAr,wpAny_loadPart,jA!,"__init__",YI!,codeAny,
N3!,{ s with heap:=Z },LX!,W.emptyDict,YJ!,List.lookup,YK!,EU.mpr,Rz!,BY.mpr,JN!,.ins,FA!,show Z from Z,
YL!,True.intro,R0!,λ_=>none,He!,λe he=>Z,LY!,λ_=>rfl,GF!,λy hy=>Z,JCC,attributeBase,N4!,.Attribute,LZ!,"dict",
N5!,"__class__",jB!,"getset_descriptor.__get__",jC!,W.kitOne,Hf!,A.handled=none,
Hg?,by rintro u s1 ⟨x,H1,I1,r1,q1⟩,EK!,outer,JCV,vs.length=ps.length,N6!,F.len,N7!,F.run,YM!,r.append,
CG?,by rintro u s1 ⟨x,H1,I1,rx,a,dx,fs,ex,ea,l,q⟩,JCf,W.callWith_K0,Cz!,V.ref,FB!,e.symm,Bi!,y.2,R1!,bindL,
R2!,bindC,BU?,by simp at h1 h2,N8!,BB.mp,N9!,vs.map,YN!,List.replicate,jD!,scope.names.lookup,jE!,i<vs.length,
JC6,List.getElem?_replicate,BJ!,y.1,jF!,Value.none,Hg!,kv.1,GG!,kvs.map,EL!,putK,YO!,valueAt,
CH?,by have#[h1,h2]:=h,pi,h.1,R3!,ks.map,GH!,atKey,YP!,storedH,BK!,x.1,YQ!,kvs.length<sizeLine,YR!,getItem,
JO!,DC.mp,jG!,rel.length,JDQ,PySem.F.args_dict_pop_2,JP!,dd.typeIs,JDR,PySem.F.entry_dict_pop,CV!,more,
YS!,kvs.length,EM!,B_.mpr,YT!,subscripted,OA!,slice,YU!,.Subscript,jH!,Subscript_,jI!,wpAny_specialOf,
YV!,s.TypeIs,jJ!,λw' s3 I3 US=>Z,JDb,sysModules<h.objs.size,OB!,"get",
CI?,by rintro u s1 ⟨x,H1,I1,rx,a,ex,d,q1⟩,R4!,m.trees,GI!,lexLt,JDn,SeqAt.EqAt.int_int,YW!,IntsAre,
Ev?,by have#[hp,g,d,tk,os]:=s,JDq,wpAny_loadPart',JDs,List.zip_nil_left,JDt,List.zip_nil_right,
jK!,List.zip_cons_cons,YX!,A.units<cLine,La!,if Z then Z else Z,YY!,IQ.mpr,JD2,Builtin.Slice.sliceAdjust,
OC!,Prod.ext,JD3,slicePart_none,JD4,List.filterMap_map,jL!,List.length_drop,YZ!,ht.typeIs,R5!,Str.ofString,
JD6,PyProof.Rows.slot_tuple_getitem,Ya!,wpAny_typeOf,jM!,eq_of_beq,Bj!,ns.map,JEB,evalPart_none,
Yb!,s3.heap.objs.size,JEF,subscriptTail,JQ!,HT.KI,Ht?,by intro AB s σ H x v vl vu lo hi sl Q I rx hs pl pu h,
Df!,hlen,OD!,j<xs.length,C0!,CY.mpr,jN!,z.length<=sizeLine,Hh!,z.cps.toList,
CJ?,by intro value slice AB s σ H x y v u Q I rx ry h hs,Hu?,by have#[p,xs,i,z,rfl,rfl,hq,he,q]:=h,
JEO,its.toArray.size,JEP,pl.isList.typeIs,JEQ,slot_list_getitem.lookup,jO!,z.cps.toList.length=z.length,
jP!,sliceBounds,Yc!,its.length,JEW,List.all_cons,GJ!,λu hu=>Z,jQ!,ys.length,CK?,by have hlen:=r'.length,
EN!,z.length,Hv?,by rintro v s1 ⟨x,H1,I1,r1,ty,q1⟩,k?,by have#[h1,h2]:=Z,JEh,ys.length<=sizeLine,
Lb!,s.heap.update,R6!,Obj.mapSeq,A3!,trivial,JEl,xs.length=its.length,JEn,"list.append",
AF?,by intro AB s σ H x vs v us Q I rx rv h,BV?,by have#[u,rfl,ru]:=rv.one,JEs,"list.extend",
Ew?,by have#[l,b,xs,zs,rfl,rfl,hH,hB,hz,q]:=h,JEv,F.slot_list_extend,JEw,F.entry_list_extend,
JEx,F.args_list_extend_2,JEy,Array.getElem?_toList,JE4,its.toArray++UM.toArray,Yd!,I.fresh,OE!,vs.toArray,
Ye!,ns.length<=n,EO!,.list,JFK,Nat.le_of_not_lt,OF!,FC.heap,jR!,FC.heap.get?,R7!,callerA,JFU,List.Pairwise.nil,
jS!,FC.heap.Ns,Lc!,False,JFZ,∀{b:Addr} {o:Obj},Z,Yf!,w.params,jT!,∃fd:FuncData,Z,
Hx?,by have#[oc,od,kV,doc,pm,an,ER,ct,pK,rfl,lk,UG]:=F.ex,JFk,λA outer s H vs Q E hr fk=>Z,Yg!,n<sizeLine,
R8!,Or.inl,OG!,Or.inr,R9!,l.Nodup,OH!,BB.mpr,B2!,AQ.mpr,CW!,PyData,JFs,xs.length=ds.length,JR!,.tuple,
JFz,xs.length=ys.length,Yh!,Nat.succ.inj,SA!,λa xs e=>Z,Hi!,k.sq,Yi!,PyData.eqv,
Hy?,by intro AB s σ H x xs v us Q I rx rs h,Hz?,by have#[d,kvs,rfl,rfl,hd,q]:=h,JF9,PySem.call_meetsIn,
JGB,"dict_values",Ld!,h.elim,Hj!,Txt.split,H0?,by have#[z,y,rfl,rfl,hy,hz,q]:=h,
H1?,by have#[_,rfl,u,rfl]:=rv.one,jU!,occurrences,jV!,F.slot_str_split,Yj!,RL.mpr,Dg!,Str.join,Yk!,z.cps[i]?,
Ex?,(by obtain rfl|rfl:=pT),Yl!,l.foldl,jW!,(· - 48),JS!,λc hc=>Z,Hk!,numOf,wv,key,BL!,one,Az?,by simp at this,
JGx,z.cps.toList.all,EP!,"make",BM!,"hold",FC!,"drop",FD!,"take",FE!,"free",GK!,"send",GL!,"clean",AU!,"ask",
JT!,"come",A4!,"hand",EQ!,"things",am,"holds",Ah!,"post",Dh!,"found",Ym!,FT.lookup,A5!,a++b,jX!,Nat.toDigits,
Le!,Char.toNat,JG9,Nat.length_toDigits_le_iff,jY!,List.map_eq_nil_iff.mp,JHA,Nat.toDigits_ne_nil,ER!,len_list,
jZ!,λ_ _ z=>z.elim,ja!,λ_=>false,A6!,h.2,AJ!,caps,jb!,s1.heap.get?,JU!,λb o e hb=>Z,JHU,ws.length=ow.length,
IE?,by rintro _ s7 ⟨y,H7,I7,r7,y7,uq,U'⟩,IG?,by rintro ok s9 ⟨H9,I9,q9⟩,IH?,by simp only[DS,GB] at q9 ⊢,
II?,by rintro xv cp ⟨v,oO,I10,r10,wL,IP,m',hm,w10⟩,IJ?,by rintro _ w_ ⟨_,yQ,vm,_,e11⟩,
Ey?,by intro C s1 H1 fp tq PD s7 ws H7 y u R wl I7 r7 b7,SB!,CS.mp,Ez?,by rintro _ s8 ⟨σ8,H8,I8,rfl,rfl⟩,
JH0,s1.heap.objs.size≠a,jc!,"dict_keyiterator",OI!,es.size,JH2,wpAny_pyIter_slot,JH3,F.slot_dict_iter,
IK?,by unfold Builtin.Dict.showsAll,jd!,i<es.size,JIB,wpAny_isOneOf_keyiter,Yn!,setField,SC!,Obj.mapFields,
JIC,(·.setIfInBounds 1 (rawInt ((i:Int)+1))),Hl!,"StopIteration",E0?,by simp only[newExc,newTuple],
JII,firstArgMember,E1?,by simp only[raiseNew],je!,wpAny_throw,JIL,isSubtype_stop,Hm!,(·.2.1),
JIO,es.size=kvs.length,AQ?,by simpa using this,SD!,λc w' _ q=>q,
CL?,by intro X hP hw hc i AB s σ H E I hf st #[hg,hi],JIZ,wpAny_pyIter_keyiter,Yo!,λb ob e=>Z,SE!,p.getD,
jf!,i<p.size,OJ!,BW.mp,jg!,Nat.le_sub_one_of_lt,C?,(by by_cases c:Z),JKV,as.length=es.size,OK!,HT.lexLt,
Lf!,HT.IX,SF!,EN.mp,jh!,p.mem_iff.mpr,Yp!,seqObj,Lg!,vs.length,ji!,listItems_at,jj!,listUpdate_at,
jk!,wpAny_newTuple,JKy,wpAny_newList,jl!,failedOf,Lh!,"ValueError",JKz,{ s with heap:=hh },JK1,vs.toArray.zip,
IU?,(by obtain _|⟨v,_|⟨w,vs⟩⟩:=vs),n?,by rw[Z,Z] at this,jm!,W.kat_nil,jn!,W.kat_cons,jo!,W.kat_go,
jp!,W.kat_yes,JLF,W.KatTups.cons,OL!,λk hk=>Z,jq!,Z=as.length,CD!,L.map,OM!,M.map,JLf,as.length=L.length,
Yq!,j<L.length,FF!,DF.of,E2?,by unfold Builtin.«sorted»,Hn!,h1.objs.size,jr!,i<as.length,js!,Int×Int,AV!,t.1,
A7!,t.2,ES!,T2×Int,C1!,"number",C2!,"made",C3!,"ticks",Di!,"outs",C4!,"records",GM!,G.BG,v6,G.o,Ab!,G.l,
BN!,G.r,Ig?,by simp only[QI,Bool.or_eq_false_iff,EU] at h,Li!,l.find?,A8!,λq hq=>Z,ON!,G.holds.map,Bk!,G.hand,
ii,G.AK,AK!,G.holds,Ai!,G.AL,SG!,∀q∈G.holds,Z,Aj!,x.nd,JMK,{ G with AY:=m,BG:=t },
BW?,by have#[#[a1,a2,a3],#[b1,b2],c1,d1]:=x.fN,AG?,by have#[dx,e]:=x.ob,jt!,{ G with hand:=l },Lj!,hs.map,
Dj!,os.map,Lk!,rs.map,g?,by constructor,E3?,by simp[PyData.depth,PyData.depthAll],Ho!,ts.map,
E4?,by intro AB s σ H xs us Q I rv h,BX?,by rintro i m ys H2 ⟨rfl,hi,pv⟩,Yr!,"dict_items",
JMn,PySem.F.slot_dict_items,AD!,cls,Ys!,b∈fr,ju!,λc o e n1 n2=>Z,JM2,vs.setIfInBounds,jv!,noteFrame,
Hp!,{ s with heap:=h1 },Yt!,show Z from rfl,SI!,"BaseException",BO!,sub,JN3,F.excBase_ValueError,
jw!,h'.IsTupleIter,OO!,IsPair,JOB,s.heap.IsListIter,JOD,h'.IsListIter,
Iu?,by simp only[List.zipIdx_cons,List.zipIdx_nil,List.forIn_cons,List.forIn_nil],jx!,FC.extBut,jy!,NO.extBut,
Yu!,wpAny_letGo,SJ!,UL.extBut,E5?,by simp only[BY,CN,GY] at hb,Iw?,(by obtain rfl|rfl|rfl|rfl|rfl:=hb),
Ix?,by have#[hz,hI,#[a,c,hO],h1,h2]:=st,JOw,b<s.heap.objs.size,jz!,b2.extBut,JO5,wpAny_pyIter_zip,SK!,j≠i,
JPF,a≠X.env.locals,Yv!,hq.elim,j0!,W.looks_mroIn,JPM,wpAny_loadPart_at,JPU,{ s' with heap:=h',toks:=t },
j1!,"__getattribute__",JPm,"BaseException.__getattribute__",JPn,"__getattr__",JPo,codeAny_call_builtin,
j2!,Eq.trans,OP!,z.elim,JQA,Shared.TypeIs,JQC,t.mro.contains,JQF,it<s.heap.objs.size,JQK,{ s with heap:=h2 },
JQV,F.slot_dict_items_iter,JQf,as.length<es.size,JQl,es.size<=sizeLine,
j3!,(·.push (Value.ref s.heap.objs.size)),JQv,plainId_quiet,JQw,λh' PU c' a1 a0 a2 a3 a4=>Z,SL!,AS.mpr,
SM!,EV.mp,JQ2,PySem.F.plain_list_iadd,j4!,{ s with heap:=h0 },JC?,by unfold Builtin.List.listExtendWith,
JE?,by have#[h',PU,c',rfl,rfl,a1,a0,a2,a3,a4]:=y,j5!,i<L.length,SN!,pm.map,j6!,List.Pairwise.imp,
JRg,{ s with heap:=h1,toks:=s.toks },JRs,wpAny_dictFind_heap,JRt,wpAny_updateDictKeys,OQ!,z.symm,AT,r.1,
OR!,q∈l,j7!,q∈G.holds,FG!,λr hr=>Z,Hq!,t∈l,FH!,l.filter,j8!,λq:T2=>q,JV!,"latest",Ll!,"waiting",Lm!,Int×Addr,
Hr!,ls.map,As!,l.1,Hs!,kvsOf,OS!,∀l∈ls,Z,SO!,p≠d,j9!,ls.find?,Yw!,Sum.inl.inj,FI!,λl hl=>Z,OT!,λl hl e=>Z,
JW!,AS.mp,JSJ,List.find?_append,OU!,l1++l2,SH!,Addr×CU,Dk!,"houses",Dl!,"share",GN!,"inquiries",JX!,"finds",
Ln!,"enclosed",ET!,W.share,C5!,W.hs,CE!,W.po,B3!,W.iq,Dm!,W.fi,EU!,W.en,A9!,W.qs,kA!,W.qs.map,FJ!,W.ls,
Lo!,EB.mpr,FK!,x.iq,JY!,x.en,CM?,by simp only[Dl,BY,CN,GY] at hb,
CN?,(by obtain rfl|rfl|rfl|rfl|rfl|rfl|rfl:=hb),E6?,(by obtain rfl|hb:=hb),D?,(by obtain h|h:=Z),
kB!,{ W with qs:=Z },Lp!,W.qs.set,SP!,W.qs.length,be,i.2,A0?,(by obtain h|h:=h),
CO?,by simp only[BY,CN,GY] at hp,JZ!,Lies,kC!,V.str.inj,SQ!,"house",Ja!,(·.2.2),Jb!,M.holds,Lq!,x.holds,
OV!,G.AK.map,SR!,∀t∈G.hand,Z,Jc!,x.ln,FL!,x.rk,OW!,this.1,JTl,G.holds.find?,OX!,t∈G.hand,Dn!,x.BX,GO!,x.AY,
Jd!,x.hand,C6!,x.AK,FM!,x.AL,OY!,EG.mp,Je!,t=tb,SS!,es.toList.map,Jp?,by simp only[Bool.not_true,DS,GB],
JUC,Obj.data_mapDict,Yx!,List.take_succ,kD!,xs.length+Z,JUK,xs.length+more.length,
J0?,by simp only[Std.Legacy.Range.size,Nat.sub_zero,Nat.add_sub_cancel,Nat.div_one],kE!,List.cons.inj,
J3?,by rintro b s' ⟨h',j,rfl,hr,hj,XY,sb⟩,JUd,Builtin.Tuple.tupleHashOf,kF!,dO.typeIs,JUp,"dict.update",
JUr,PySem.F.slot_dict_update,Jf!,ts.take,Jg!,CB.keep,ST!,kt.BI,OZ!,λi ys H2=>Z,GP!,DW.of,kG!,i<l.length,
Yy!,Prod.mk.inj,Jh!,found,kH!,∀t∈found,Z,C7!,t∈R,Yz!,∀t∈ahead,Z,E7?,(by obtain⟨ht,h⟩|⟨_,h⟩:=h),Y0!,h.sub.1,
SU!,∀t∈R,Z,kI!,keys.filter,JVS,List.filter_filter,KI?,by by_cases c1:Z<;>by_cases c2:Z<;>simp[c1,c2],
GQ!,hl.map,kJ!,G.AK.filter,SV!,G.holds.filter,kK!,G.holds.any,kL!,{ G with AL:=Z },Ji!,G.AL.filter,
JVU,{ G with holds:=hl },kM!,bs.length,kN!,List.take_succ_cons,SW!,λ_ _ h9=>Z,JVp,List.mem_erase_of_ne,
JVq,List.length_erase_of_mem,JVs,List.length_pos_of_mem,Lr!,startT,JVz,M.holds.filter,Ht!,ok.ke,SX!,ok.hn,
JV3,ok.on.sublist,Oa!,ok.rn,Ls!,ok.ln,Ak!,λt ht=>Z,SY!,ok.new,kO!,ts.Nodup,Y1!,∀t∈ts,Z,Y2!,"0123456789",
CX!,"thing",Bl!," ",JWJ,Nat.eq_zero_or_pos,SZ!,"world",JWQ,slot_listiter_next,JWS,Array.size_append,
kP!,h2.objs.size,Lt!,us.length=Z,JWj,[u0,u1,u2,u3],JWl,[u0,u1,u2,u3,u4],Y3!,[a,b,c],kQ!,[a,b,c,d],
kR!,[a,b,c,d,e],JWo,"House.__init__",JWr,"Post.__init__",kS!,"World.__init__",Bm!,"self",GR!,"weight",
JWv,"House.added",JWx,"House.given",JW0,"House.passed",JW1,"House.clean",Y4!,"told",JW4,"House.is_spent",
JW6,"part_record",JW7,"House.part_record",JXJ,"Post.letters",JXM,"World.letters",JXO,"weight_came",
JXP,"World.weight_came",Hu!,"letter",JXR,"World.pass_came",Y5!,"parted",Y6!,"reached",Ob!,"starts",
Y7!,"_law_cell",FN!,"_law_script",Jj!,"_law_k",JXg,"Inquiry.__init__",JXh,"Inquiry.first",JXm,"Inquiry.second",
JXn,"Inquiry.still",JXo,"Inquiry.result",GS!,"let",JXt,"World.ask_came",JXu,"answer_came",
JXv,"World.answer_came",JXx,"World.let_came",JXz,"World.let_all",kT!,"unreached",Do!,"states",kU!,"recorded",
kV!,"Desk.__init__",Sa!,"verb",Y8!,"read_words",Hv!,"words",kW!,"read_word",Hw!,"word",Y9!,"read_number",
kX!,"written_thing",kY!,"written_letter",kZ!,"listed",ka!,"listed_things",JX8,"_law_stream",
Sb!,"_law_cell_here",FO!,"_law_many",ZA!,"_law_class",Oc!,"_law_e",Sc!,"_law_x",JYA,"_law_held_by",
Od!,"_law_state",Lu!,"_law_a",C8!,"_law_world",ZB!,"_law_xs",FP!,"_law_deed_here",Lv!,"_law_thing_here",
JYE,"_law_listed",Oe!,"_law_texts",Of!,"_law_desk",Jk!,"_law_row",JYI,"_law_row_of",JYJ,"_law_things_of",
kb!,"_law_h",JYM,"_law_holds_of",kc!,"_law_asked",Lw!,"law",Og!,"many",GT!,"first_ticks",Hx!,"second_ticks",
K!,FuncData,JYW,@Classical.epsilon,ZC!,ta∉G.hand,At!,ta∈G.hand,CP?,by have#[p,t,G,th,rfl,S,ht,k]:=h,
B?,by have#[dx,hp]:=S.ob,w!,T.cl,Jl!,T.nH,Jm!,S.dh,E8?,(by obtain⟨h,k⟩|⟨h,k⟩:=k),kd!,FX.FY.VT,Oh!,M1.fn,
Dp!,M1.mt,CY!,M1.bd,E9?,by have#[p,a,b,G,ta,tb,rfl,S,ha,hb,k]:=h,Jn!,M2.mt,GU!,M2.bd,CZ!,T.nL,BP!,tb∈G.hand,
ZD!,tb∉G.hand,W?,by have#[HX,JA]:=S1.ob,LR?,(by obtain k|k|⟨h1,h2,ad,hl,RG,k⟩:=k),FA?,(by obtain k|⟨h3,k⟩:=k),
Jo!,G.AL.find?,Hy!,T.nR,Jp!,S.same,FB?,by have#[p,b,G,tb,wt,rfl,S,hb,z,k]:=h,Dq!,T.nO,
A1?,by have#[MJ,JJ]:=S2.ob,JbV,G.holds.length<=Z,Sd!,λb u e hb=>Z,CQ?,by simp only[BZ] at *,ZE!,G.hand.map,
FC?,by have#[YZ,iX]:=S6.ob,Se!,os.take,BY?,by have#[UW,UE]:=S3.ob,Sf!,r.keep,ke!,"_law_number",
Jd2,Int.lt_of_lt_of_le,Al!,λz hz=>Z,wE,TW.cl,Hz!,TW.nH,Oi!,L.flatMap,Dr!,addW,EV!,rowsOf,
JfC,PySem.F.slot_list_extend,JfE,PySem.F.type_list_extend,FD?,by generalize Z=H1 at s1 e1,
Oj!,Z (Z:=Z) (Z:=Z) (Z:=Z) (Z:=Z) (Z:=Z) (Z:=Z) Z Z Z Z Z,ZF!,λb o e h1 h2=>Z,Sg!,rs.filter,Sh!,"held",
GV!,"back",Si!,gr.nd,CR?,by have z1:=ok.hz,kf!,G.holds.take,kg!,λi σ H2 _ h=>Z,Jgi,List.mem_of_mem_take,
FE?,by have:=pm.length_eq,Ok!,us.map,BA!,kind,H0!,kind=Z,ZG!,"more",H1!,"pass",kh!,x≠W.hs,Ol!,JR.FV,
A2?,by have#[MJ,JJ]:=W2.ob,FF?,by have#[UW,QO]:=W2.po.ob,Sj!,TW.nP,Om!,W.ls.map,FG?,by have#[HX,hq]:=S.po.ob,
FH?,by have#[MJ,kK]:=S1.ob,FI?,by have#[UW,UE]:=W1.ob,FJ?,by have#[gT,vJ]:=W1.po.ob,On!,W.ls++L,ki!,SO.trans,
JiE,Nat.min_eq_left,kj!,FX.FY.no,ZH!,G'.BX=G.BX,kk!,G'.AY=G.AY,ZI!,∀t∈G'.hand,Z,
FK?,(by obtain ht|⟨q,hq,ht⟩:=ht),ZJ!,λt _ h=>h,Oo!,l.th=t,kl!,Int.add_assoc,sB,l.th,GW!,l.th.1,Sk!,l∈ls,
Sl!,x.sum,Op!,s.ok.new,JjT,Int.sub_nonneg_of_le,Oq!,Int.ofNat.inj,GX!,x.next,Or!,b∈G.hand,km!,Z=G.AL.length,
kn!,Int.add_zero,ko!,Int.zero_add,kp!,Int.le_antisymm,ZK!,pm.mem_iff.mp,ZL!,s.ok.ke,H2!,G.AY<=G'.AY,
kq!,λr hr t ht=>Z,CS?,(by obtain h|⟨r,hr,h⟩:=ht),JlP,G'.hand=G.hand,kr!,G'.holds=G.holds,ZM!,c.symm,AW!,h<m,
GY!,.hand,A3?,by rintro⟨h1,h2⟩,FQ!,tick,Os!,λn u=>Z,Ot!,fi.find?,ks!,fi.length<m,Ou!,fi.length=m,
JnS,pm.mem_iff.mpr,AL!,al',FL?,by unfold Still at *,Sm!,G.BG<G'.BG,Jq!,u=u2,Sn!,LL.ask,kt!,L.length=m,
ku!,ys.length=i,Jr!,"answer",Ov!,λb o eb hb=>Z,So!,L.take,kv!,rows.map,kw!,List.map,Sp!,h.keys,Sq!,W_.nd,
ZN!,pZ.keys,Sr!,(·.key),Js!,I.sd,Ca!,I.fd,C9!,I.cd,GZ!,I.fs,Ga!,I.cs,FM?,by simp only[BZ] at l1,kx!,b≠I.cd,
JtK,List.nodup_range.filter,Ow!,TW.nI,Lx!,e1++e2,Ox!,VH.nd,P6?,(by obtain rfl|rfl|rfl|rfl:=hb),
QL?,by have#[h1,e,xs,h2,h3,h4]:=h,ZO!,y.I.ss,Jt!,y.fi,Ju!,Z+G.AL.length,ky!,Z+G'.AL.length,ZP!,(·.n),
JvZ,y.se.length=m,Ss!,x.at_,St!,y∈ys,Jv!,x.off,Cb!,x.wa,Oy!,z∈al,BZ?,by have a1:=x.md,Ba?,by have a4:=x.iz,
Jw!,x.iv,Jx!,x.kn,kz!,W'.share=W.share,Jy!,W'.IF=W.IF,k0!,W'.hs=W.hs,CT?,(by obtain (h|h)|h:=h),Gb!,A'<=A,
Jz!,B<=B',k1!,x.ma.next,k2!,x.pb.next,EW!,x.wg.BX,k3!,x.wg.wl.len,Gc!,near,H3!,GX.pr,
Q8?,(by obtain⟨e,_⟩|⟨e,_⟩|⟨e,_⟩|⟨_,e,_⟩:=kk),JxA,t.ND.pm.mem_iff.mp,Oz!,W'.qs=W.qs,k4!,x.pb.same,
k5!,W.qs.length=m,ZQ!,ys.length+Z,Su!,EC.mp,k6!,y'.se.length=m,ZR!,(·.toNat),k7!,y'.fi.length=m,
JxW,y.fi.length=m,Bb?,by have m5:=x.m5,Sv!,WR.fs,ZS!,WR.many,AX!,g.T,BB!,g.TW,Gd!,g.TP,H4!,EA=ys,k8!,V.ls.map,
JxZ,W.share=V.share,Ly!,L2.V.ref,Rc?,(by obtain⟨g3,g4⟩|⟨g3,g4⟩:=g3),Sw!,.make,Lz!,.hold,J0!,.drop,J1!,.take,
L0!,.send,ZT!,al'=al,ZU!,.clean,JyA,W.qs.length=m.toNat,JyB,λx zY nx pL nex=>Z,JyC,[p,r,po,pd,iq,fi,en],
k9!,z.cps.toList.take,FN?,by rintro ys H2 ⟨rfl,rfl⟩,Rd?,by rintro i x ys H2 N hx ⟨rfl,rfl⟩ hN,
Re?,by simp only[AI,GZ,DO,PK,BD,BZ,this],Rf?,by simp only[AI,GZ,DO,PK,BD,BZ,q] at this,Sx!,TK.cl,
AH?,by have#[RP,RO]:=S.wo.ob,Rg?,by have#[hs,os,rs,s1,rep,kQ,kE]:=z,Rh?,by have#[rfl,#[u1,u2,u3,rfl],no]:=h,
Ge!,g.TW.cl,Ri?,by have#[hs,os,rs,s1,rep,sm,kq]:=z,FR!,sm.1,FS!,sm.2,Sy!,z.same,J2!,le.1,ZV!,∀l∈W.ls,Z,
Rj?,by rintro v H' ⟨l,ns,rfl,el,z1,z2,kq⟩,JyD,Nat.digitChar,O0!,IY.mpr,lA!,as.length<=Z,
Rk?,by simp only[AI,DO,BD,ZA,q] at e s1,JyE,List.drop_of_length_le,JyF,List.length_take_le',ZW!,PyData.int,
lB!,"_law_told",Rl?,by simp only[PyData.canLay0,PyData.canLayAll0,h1,SH,SF],
CU?,by simp only[PyData.depth,PyData.depthAll],Rm?,by simp only[PyData.canLay0,PyData.canLayAll0,SH,SF],
ZX!,wi.same,Rn?,by have#[a',t,hd,cs,rfl,e3,e4,e5,e6]:=Z,Bc?,by have#[dx,hp]:=wi.wa.ob,Sz!,wi.wa,O1!,bE.nd,
JyG,wi.wg.wl.good,CV?,by have#[hs,os,rs,GX]:=gd.told,Bd?,by have#[y1,y2,y3,as,bs,ds,ex,e1,t1,e2,r2,_,_]:=st,
CW?,by dsimp only [Jme],Ro?,(by obtain⟨xs,c⟩|⟨ob,u,c⟩:=c),JyH,V.qs.length=m,S0!,x.same,
Be?,by generalize ez:z=z0 at tx,JyI,[u,v,v2,v3,v4],JyJ,[u,v',v2,v3,v4],J3!,.things,J4!,.post,
JyK,xs.length=ts.length,ZY!,strSub,JyL,StrLaws.subAt_one,JyM,StrLaws.strSub_toList,ZZ!,.found,H5!,m<=h,
Za!,r∈os,Zb!,.holds,JyN,GX.ND.pm.mem_iff.mp,JyO,"_law_things",O2!,L2.V.str,lC!,PyData.strOk,lD!,"hand 0",
lE!,"things 0",lF!,"found 1",D!,AC! Z,z!,Z Z=D! Z,UV,(.ref Z),bi,(Z:KE),FS,.ref Z,U!,by rw[Z];show Z,
AY!,z! H Z Z,DA!,(Aa Z Ad),KB,Rj! (Z),P!,Z _ _ Z,BC!,Z->Z->B!,SC,(pv 0),ww,Z EG!,C!,CQ! V,EX!,Z Z=none,
wP,(Z _ _ Z),EQ,(pv 1),F!,CQ! T2,S1!,Inv X AB σ Z Z,FB,(by decide),g!,PP Z,h!,l! Z,B4!,DK K Z Z Z Z Z Z Z,
Gf!,wpAny Z Z Z Z Z Z,Am!,i+1,EY!,(d! H Z Z),o!,(U! Z Z),bn,wp Z,KM,Z _ _ Z Z,J5!,(by rfl),x!,IN Z,AM!,A2! Z,
FT!,(Aa Z (DA! Z)),H6!,z! Z b o,bv,bi h,Cc!,FS p,S2!,(Z EG!),E!,Cx Kx,Bn!,EX! H Z,An!,Cz! Z,FM,(pv 2),
F?,by show l! Z,EZ!,λq=>KB Z,I!,S1! H s,Ix,(by simp),S3!,AY! b Z,AE!,by rw[<-Z];show Z,Ds!,BV H Z,DB!,FF! Z,
Bo!,PE X Z Z,B5!,Cu! Z,jp,U! (Ae Z) Z,L1!,Xr! Z,AZ!,(Z Z).length,L2!,(q,G),Zc!,BC! Z Hp,Aa!,(Aq SC A!),
FU!,(PP Z),BQ!,FS a,FV!,Aj Z t,W!,by lia,CF!,z! Z x Z,AN!,bi i,CG!,W.c+1,Ao!,#[A!,Z],
JyP,Av (i:=Z) Z A! (R8! A!) Z,WF,q.2.1,Zd!,Z=D! L2!,S4!,z! Z p Z,H7!,BC! Z Shared,Ap!,An Z Z (Ak Z),
S5!,Q (UV Z) Z,Z?,by show#[_,Z,?_],xL,(Am!),Cd!,Paired Z Z Z,
L!,(e.2.2.2.2.2.2.2.2.2.2.2.2.2.2.2.2.2.2.2.2.2 Z),M!,(e0.2.2.2.2.2.2.2.2.2.2.2.2.2.2.2.2.2.2.2.2.2 Z),
N!,(e.2.2.2.2.2.2.2.2.2.2.2.2.2.2.2.2.2.2.2.2.1 Z),O!,(e0.2.2.2.2.2.2.2.2.2.2.2.2.2.2.2.2.2.2.2.2.1 Z),
J6!,(WP (tv Z)),L3!,(As Az Z Ai),Dt!,D! (UV Z),S6!,(Ar (pl:=_) Z Z Z Z Z Z a! Z Z),S!,CQ! G!,v!,(by lia),
lG!,Z (by decide),Y!,CQ! JB!,A?,by show#[A!,λER A outer s hr=>?_],Ea!,RelV Z Z,FW!,Z σ H Z,R!,CQ! α,
Z!,HM K Z Z Z f fd,Q!,CQ! (ES!),xz,(Z _ _),lc,bi j,JyQ,by change EJ! Z;decide,G?,by show IN Z,J7!,Z->B!,
BD!,[Bm!],J8!,(Au Z Z Z (A4 _)),q!,CQ! KE,H8!,ZL ..,H9!,(q,G'),Ze!,¬((Z:Ag!)=Z),O3!,Z AB Z σ Z _ Z Z,
J9!,t∈ww Z,S7!,z! Z y Z,S8!,(JN! Z dx Z),Ce!,AY! a Z,M?,by show CT! Z Z,V!,CQ! LL,X!,CQ! (Lm!),AF!,(pv 3),
U?,[_,A!],FX!,(G.BX,G.AY),O4!,Cw σ AJ!,Cf!,bi (Z:ut),TD,Ds! H',Eb!,(Ak! Z),S9!,(XV (Z Cz!)),DC!,(l! Z),
O5!,z! Z a Z,AA!,HZ! Z,Gg!,[Bm!,"h"],j!,CQ! Ag!,Ch,CQ! (Addr×Obj),Gh!,PP h,Bp!,#[_,A!,Z],i!,CQ! Qy,
FY!,d! Z Z (Z Z),Ec!,(ZD _ Z),JyR,jC! K (UV Z) Z=D! Z,JyS,lG! hr.mono,KA!,.Name Z Z,BR!,H!=t,Au!,by decide,
c?,by show Z Z λvs H Q E h=>?_,BS!,q.2.2,Zf!,(JyP Z Z Z),Gi!,[Bm!,CX!],TA!,JyQ 2,Bq!,(Ay G ts),
k!,WI H p W D m n d A B al ys,DD!,A0! (Z),ci,by simp,BT!,#[_,A!],lH!,D! Z::O4!,TB!,Do AJ!,L4!,Z Z FB,
KB!,(Ag (Ao Z)),CH!,(Z (·.1)).Nodup,L5!,L1! JB!,Gj!,ET 1 Z Z Z (Z),NE,H7! JB!,DE!,(keepR G R),Du!,(Z Z).map Z,
Av!,T! (Z),Dv!,FS b,Cg!,CC G,lI!,(A3 Z (UV Z) (A3 Z (UV Z) Z)),FZ!,by rw[Z,Z];rfl,DF!,r.2.2,CI!,ZC _ Z,
DG!,L3! EQ,Zg!,(A3 Z (PP Z) []),v?,[_,A!,Z],L6!,bi 0,O6!,tk H!,Fa!,(by cases Z),No,CQ! (SH!),Zh!,EY! p Z,
DH!,(ZJ Z).1,Ed!,by rw[Z];rfl,TC!,S5! Z H',Gk!,(λ_ _ _ _ _=>Z),Fb!,G.BG+1,Ac!,bi k,R?,by show ZR (Z Z),
O7!,by rw[Z,Z];show Z,Br!,(pv 4),TD!,(Aa Z (FT! Z Z)),Gl!,EX! Z b,Zi!,#[Z,Z,A!,A!],Gm!,CQ! Key,TE!,AM! Rs,
BU!,Bn! b,Ee!,S3! o,E?,by show c? F.KG Z,L7!,z! H' Z Z,L8!,NJ K mg Z Z Z Z Z,Fc!,(n+1),Aw!,‹_›,Ef!,T2×Int×F!,
AO!,by rw[Z,Z],BV!,bi m,Fd!,CT! (Z) Z,O8!,(X6! Z),BE!,ZB _ Z,Gn!,KB (Z=Z),Ch!,P! Z (wP Z Z),IA!,[Bm!,Hu!],
L?,by show#[_,A!,Z],Go!,Zc! C!,Dw!,(H8!),J?,(by cases rx),Eg!,(IN Z),DI!,AG _,Gp!,Z K H Z (Z Z),wS,Ag!->L5!,
TF!,(Cb Z (Ag Z) Z),Op,BF C H p G,lJ!,YB! (FW! Z Z),L9!,Z (EZ! Z),TG!,Z (AE! Z Z),Zj!,(d! Z p (XV Z)),SL,n<60,
TH!,W.c+(Z:ut),Bs!,UV a,Gq!,(ZB _ Z),O?,by show F? h,Fe!,FV! Ai!,Zk!,(FG (O3! Z s H I h) Z),Gr!,S4! H2 (XV ys),
lK!,E6! (Z->Z->H6! Z),TI!,(Ca Z Z J5! Z Z Z a! A9 Z),O9!,(λ_ z=>(by cases z)),IB!,D! (FU! Z),B6!,(ZG _),
Ax!,AZ _,IC!,H6! EH!,Sc,Zd! (qs[i]?),PA!,Ah (o:=WP Z) Z,H?,by have hu:=Ds hr,Ff!,C8 W ZV,Ay!,ZG _,PB!,ww OV!,
K?,by rw[this],Dx!,G.AY+1,cr,CQ! LT,lL!,#[TA!,Z],lM!,BC! Hp Z,Ah?,by show Z? (Ac (Z) Z),db,J7! T2,
Zl!,[Bm!,"a","b"],Eh!,Gf! (model Da! w) A Z Q E s,DJ!,Di G ZV,Zm!,(relabel sc o0).names.lookup,
lN!,Gf! (model EI! X.w) X.A Z Z X.xe s,Zn!,vs=[Cc!,Z],KC!,AY! d Z,Zo!,(XV []),TJ!,z! Z b u,MA!,(model Da! w),
lO!,[Bm!,"b",GR!],ID!,BF C Z p Z,PC!,(λ_ _ z=>(by cases z)),Fg!,h! #[Z,Z],Ei!,Ds! H2,JyT,J6! tb,KD!,xz AW,
lP!,eval Z o0,Zp!,J8! Cv Z Ap,Gs!,λz=>Z (Z z),P?,by have HJ:DU 1 _:=JyS,Zq!,vs=[Cc!,Z,Z],TK!,P! k.BI Z,
Zr!,EX! mg Z,MB!,FV! ii,Ci!,(Z Z Z).length<=Z,o?,[v? p],Q?,by show Cq #[_,A!,A!,_,A!,?_],Dy!,ZU _ A!,
Gt!,ZR (m:=Z) Z,AR?,by show F7 Z Z λvs H Q E h=>?_,KE!,Zi! A! A!,TL!,λt=>KB Z,sK,CQ! (Ef!),h?,by show IN Z,
lQ!,FT! Ap Z,BW!,S3! JyT,IE!,DB! ex,Fh!,L4! AA Z,KF!,#[q,hq,Z],Zs!,TI! (Z g) Z Z Z Z Z,sw,Ok G n,
Zt!,E (UV Z) SB H,wT,top Z,PD!,(Z (.ref Z)),Gu!,AJ _,KG!,(Co Z Z Ai),Zu!,Z Bk! tb,lR!,(Cf Z J5! Z Z (DA! Z)),
lS!,Ae (X6! Z),Gv!,Cy p W,wn,AV CW C CP H p W,DK!,Q H2,JyU,Zg! Dl! sh,TM!,(e::es),IF!,(FA! Z Z),Ej!,T! (Z Z),
TN!,L6!<Z,lT!,(by simp[Dl]),lU!,AY! Z (WP Z),Ek!,Z (by lia),PE!,o! ZA Z,Cj!,x! #[Z,Z],El!,#[_,Z,A!],
IG!,Z b o e Z,AB!,Z X Gn,lV!,Cs! Aw xs Z j Z (Z),Zv!,Ct! Z us,IH!,(Z b o e),MC!,(OU Z ex),Zw!,OC qs ls Z Z,
BX!,x=BQ!,S?,by show#[_,A!,A!,_,A!,?_],PF!,z! Z Z o,Gw!,#[dx,Z],Zx!,S8! C Z,PG!,Z vs H Q E,TO!,ZT _ e,
lW!,∃W:ut->ut->Z,(∃m,W 0 m Z Z)/\Z,Dz!,r.2.1,p?,by show D? (ZI Z),PH!,z! (d! Z Z Z) Z Z,TP!,FS t,
DL!,CT! (Z Z) Z,Fi!,AY! p Z,KH!,P! Z e,AP!,inClass (top 15) Z,Az!,Array JB!,lX!,(x::TB!),TQ!,(As Cd FM Ai),
TR!,(Cb Z (KB! Z) A5),Bt!,MO W h q G,Gx!,Z (UV Z) Z,i?,by rw[e] at e',KI!,s.heap.objs.size+1,
PI!,if Z then D! Z else none,DM!,by rw[Z,Z,Z],BF!,CQ! ut,Fj!,U! ZA Z,PJ!,(AJ _),KJ!,[Bm!,"n"],II!,bn z,
CJ!,L1! KE,Bu!,Zc! St,Zy!,CF! Z .local,KK!,Z b o Z e,Zz!,(Ac (Zf! Z Z Z) (Ac Z Z)),
Bf?,by change Gf! _ _ Z _ _ s,Z0!,by rw[<-Z];show DH! Z,Z1!,Be! Rv! Z Z,PK!,λ_=>?_,IJ!,λq:T2×Int=>H!,
IK!,(l! A!),BY!,AF A!,TS!,GP! (wP Z Z),Ad!,inClass (top 24) Z,PL!,L8! Z Z [Z] Z Z,Ae!,DM H H',
Ai?,[Z,Z,Z,Z,Z,Z,Z,Z,Z,Z,_,_,A!,A!,Z,Z,?_],Af!,HQ M G,KL!,GQ Z f fd Z (Z),IL!,Gj! f fd Z Z,MD!,(IR,Z),
D0!,Ak! ?_,KM!,(Z (UV Z) Z),KN!,by change Z;show Z,Gy!,(pv 5),D1!,bi n,Gz!,FS d,lY!,(Aa Z (TD! Z Z Z)),
IM!,g! i,PM!,(WP xs),TT!,GP! PR,Z2!,(eval Z o0),KO!,(.dK GE),Z3!,Z [Cc!,Z] H Q E,IN!,TC! x,TU!,Z Dd! e,
lZ!,(IN (l! Z)),d?,by show AR? F Z,Aq!,CQ! (Gm!×V),DN!,(A5!),JyV,u=Db! a,D2!,(Z).toNat,Fk!,(Z Z).symm,
ME!,Al! ?_,CK!,Z (JS Z),KP!,UV t,Ck!,(by rw[Z,Z]),Em!,P! hN Z,IO!,g! n,BZ!,AF c,Z4!,CF! Z c,G0!,FY! Z Z XV Z,
JyW,[Bm!,"h","a","b"],TV!,Zu! C7,Z5!,Aj Ai! b,JyX,AA (A_ Z) FB,TW!,Z (EZ! Z),DO!,(AE! Z Z),w?,by .show F? Z,
x?,by rw[e] at h,DP!,F9! ?_,la!,λ_ H Q=>Q Z H,Fl!,[BQ!],En!,PP (Z),BG!,CQ! (κ×V),MF!,(AZ _),Bv!,AU e,G1!,Bn! p,
DQ!,Ao! A!,Eo!,(qs.set i H9!),KQ!,Q AS! H',T?,by rw[K9 ZV],Bw!,Told G hs os rs,
JyY,∀C s1 H1 fp AB,Z (MK X sc cl C Z s1 H1 fp AB) Z Z,TX!,(λ_ _ _ _ _=>D0),Ba!,A8! ?_,D3!,CQ! BH!,
Bb!,CQ! (Key×V),Bc!,CQ! (Str×Addr),TY!,Dd! Z _ Z,TZ!,Paired Z Z (Z Z),D4!,(ZC _ Z),Z6!,z! H' b Z,Ta!,Z Z (H8!),
Tb!,CF! H' Z,KR!,D.nx σ Z,Tc!,Cd! (Z Z) Z Z,Bg?,by show ZR (Z (ZR Z)),Fm!,J9! OV!,KS!,O5! LR! Z,Cl!,Ea! y u,
IP!,Gl! H',Z7!,BI! n,IQ!,(Ac Z (Ag Z)),lb!,Dk (te:=Z) (AJ!:=Z) A! Z A! ZV A! ZV A! Z Z Z ZV Z (Gk! Z),
PN!,B2! Z,Fn!,AZ! Z Z<=Z,q?,by rw[e] at ht,KT!,λq:T2×Addr×List T2=>H!,Bx!,B<=2400,a?,by show a!,CL!,CQ! Env,
PO!,(l! (Z Z)),Fo!,(pv 6),IR!,FS l,By!,CQ! (Str×Nat),MG!,(d! H2 Z Z),Bz!,AF h,Fp!,Z Z (ZP Z),Z8!,jp Z e,
CM!,Dt! p,y?,by show G? h,Td!,AV CW C CP H' p Z,IS!,BE! h,JyZ,Wl Z m n sh qs ls,KU!,(.dT GE),G2!,PA! [Z,Z] Z,
MH!,bi jQ!+1,JzA,λq=>((h! H!:Key),An! WF),JzB,Z m W W' al AL! ys EA H' Z Z,B0!,Wg D m n sh qs ls,
IT!,λv H5=>S4! H5 (XV ys)/\ys.length<sizeLine/\∃m',m'<m/\W xL m' (ys++[v]) (Zj! H5 (ys++[v])),
JzC,lI! Ah! po Dk! r JyU,Ep!,((Z i H2/\Z)\/(Z i H2/\∀x H3,Z i H2 x H3->Z)),IU!,Z Cz!,Fq!,(Z).length,
Te!,show Z by lia,IV!,found++[t],Tf!,by simpa using Z,B7!,by simp at h,KV!,Z (U! Z Z),IW!,z! (EY! Z Z) Z Z,
B8!,CQ! β,IX!,bi 1,Eq!,CQ! (Str×V),MI!,l! h,B9!,AD h,Er!,(PP _),IY!,wP Z (wP Z Z),KW!,Paired (Z) Z Z,
MJ!,H6! LR!,lc!,B4! C Z Z Z BD! Z Z,Fr!,S9! Bd!,Cm!,Ea! v u,CA!,α->T2,Z9!,l! (l! Z),D5!,Z b hb,PP!,xs[i]?=D! x,
MK!,TH! SP!,KX!,JR p W H H',ld!,(VA K a),aA!,Pv i σ H,IZ!,(bv,lc),CB!,FE H p pw W,Fs!,ww Z=ww Z,PQ!,CB H as Z,
le!,E_ EI! X.w Z Tk Z Z,Rp?,[_,A!,p,C,Z,_,_,A!,Z,w!,Z,Z,_,_,A!,A!,Z,_,Z,Z,?_],PR!,la! AC,Tg!,W.G_++[(CG!,e)],
aB!,∃m',m'<m/\W xL m' ys H4,JzD,(EL! Z (l! h) (FU! t)),lf!,Dq W _ ZV,G3!,Sd m Z (n+1),CC!,Sd m G n,
aC!,[Bm!,"kind","sender","goal","about"],ML!,Os Z Z,KY!,SZ ?_,KZ!,by rw[e],PS!,UV it,Th!,UV D,
aD!,CQ! (Str×NameKind),Ti!,KB (Z Z=Z Z),lg!,BC! α Z,JzE,Q Z CU!,PT!,[Bm!,EQ!],Es!,Ae hb,PU!,Ae (Am e Z),
Ia!,DF K H Z Z,lh!,FT! AF! Z,Tj!,S3! u,Et!,J9! Db,aE!,(Ag (Cg Z)),G4!,Cz 0,Tk!,λz=>Z OQ!,li!,TG! Z z Z,
D6!,QS G t,aF!,Aj Ai! tb,CN!,W.nsIn K mainGlobals Z=D! (AC! (.ref Z)),aG!,Zs! Z HJ Z Z Z Z,Ka!,Dy (Z) n Z,
JzF,Zw! (qs.set i (q,Z)) Z,lj!,UJ m W al ys fo Z Z,G5!,Ce! (J6! ta),CO!,JyZ C,aH!,JN.t (k:=tk Z) Z Z (PE! Z),
aI!,[Bm!,Sa!,"given"],D7!,KV GE vs,Tl!,(Dw hu Z Z Z A!),Tm!,(Os Z (Os Z a!)),
Kb!,X_ λo' e=>by rw[Z] at e;cases e;show#[O9!,PC!],MM!,(Z Z).Nodup,CX?,by have I1:S1! H Z:=Z,aJ!,(Z Z).toArray,
MN!,FS UF,lk!,DA! SC,Kc!,(BV.refl _),MO!,ww (Z Z).map,Tn!,FT! SC Z,To!,B4! CW Z Z Z IA! Z Z,
JzG,((λz=>nomatch z)),e?,by show Cq ?_,f?,by show C4 ?_,ll!,Du! Z Z AT!,Cn!,Dh (X6! Z),PV!,l! (GP! Z),
lm!,(YA K a),ln!,ID! (EY! Z Z) Z,Co!,KC X Gn Z,lo!,TF! Z (Ao (Ce Z)) A5,PW!,Ae (λz=>Z),lp!,Zx! fs,
JzH,(Z (·.1)).Pairwise LB,aK!,Aj Z sB,lq!,lY! Ap Z Z Z,lr!,Z4! id!,Cp!,DD! (x==("__debug__":Ag!)),
Cq!,AV CW CH CP H p W,Tp!,Binds K Z Z [],Kd!,λq=>(tk q,E8! AC),ls!,(λy h=>Ff J5! h),
FO?,[p,Z,Z,_,_,A!,Z,Z,Z,Z,_,A!,Z,_,A!,Z,?_],Cr!,KT p K W m n d A' B' ys H Q R,lt!,QB Z d es ep,
Rq?,by show#[Rp? Z Z T.nT (Dt _) Z Z (Fe _)],aL!,(PI! Z Z),Eu!,Gr! /\ Z,Tq!,Zd! Z->Z,G6!,λq=>TE!,
MP!,y.se++[(s,FQ!)],lu!,((by cases Z)),DR!,CQ! (Int×F!),PX!,U! Z (CI! Dw!),PY!,[Bm!,"b"],Ev!,[(Z,v)],
Tr!,by rw[Z];simp,MQ!,An! a,Ib!,Sm bv,Ic!,Fa! h,DS!,VY G t,aM!,Aj ii tb,lv!,lL! (Ak! Z),MR!,Da qs,
DT!,DW K H a xs,DU!,DF K H a xs,DV!,W.nsIn K mainGlobals Z=D! SB,DW!,GV X Gn Z,Bh?,by show Ah? (JyP 2 Z Z) Z,
lw!,Z { cls:=B5! Z,data:=Rn! Z },JzI,AY! t (J6! Z),PZ!,OY! ht,Ft!,Ta! h Z,JzJ,Fe!-MB!+Dx t Z,
lx!,(Heap.SameBut.update ..),AS?,by show Z? (Ag (Ao Z)),Ew!,lW! Go! [] (Zh! Zo!) (∀i m ys H2,W i m ys H2->Z),
aN!,(Dz (IU L)),JzK,Gf! (model EI! X.w) X.A Z Z X.xe Z,DX!,PV P w H h,DY!,rs.Perm Ai!,JzL,(.dK (CD! JzA)),
ly!,(.Call Z Z [] AG!),JzM,O3! Z s1 H1 I1 q1,G7!,(Af Z (Af Z Z)),Ts!,[Bm!,Og!,Dl!],
lz!,Gf! (model EI! X.w) A Z Q E s,DZ!,Zq! (bn Z) (FS r),aO!,#[ZG!,GW!,l.s,sB,sh],aP!,(IU (So! i)),
JzN,(Fv PassesOwn.never A! Z Z Z),j?,by have#[f0,f1,f2,f3,f4,f5]:=hf it Ix,Tt!,(ow++TB!),Id!,(Z,FS Z),
l0!,Bg! TO!,Pa!,As!=n,t?,(by obtain rfl:JyV:=rx),Ie!,λx hx=>?_,MS!,(CD! (·.1)).getD,G8!,ta.1=G.BX,aQ!,H!=tb,
Fu!,0<=g,l?,by have LV:sizeLine=16777216:=CZ,aR!,by simpa using h,l1!,I!->Z->Z,MT!,z! H2 Z Z,D8!,CQ! HS,
MU!,FS C,l2!,U! Z e,G9!,ZD _ Z,HA!,P! s4 Z,Tu!,(XV xs),aS!,Inv X AB GF Z Z,l3!,bn "done",aT!,#[_,GP! Z],
Pb!,Bn! l,HB!,Zc! BH!,D9!,H7! Unit,Tv!,Ap! Z [Z] Z,l4!,B4! C Z Z Z Zl! Z Z,l5!,B4! C Z Z Z lO! Z Z,EA!,J7! Hp,
l6!,(FG (Z AG! AB Z σ Z _ Z Z) Z),Ke!,DB _ _,EB!,Array DictEntry,l7!,FZ! ZH Z,If!,Ea! x u,aU!,J8! Cv Z Ai,
l8!,q.2.2.2.1,Kf!,Q (PP Z) H,l9!,Eb! (h! ht),Ig!,Zv! xs,aV!,(Cs P w),MV!,(ZW P w),mA!,Cd! R xs Z,
JzO,Lp! h.toNat H9!,JzP,Z (by rw[Z];simp[CC]),mB!,AY! r (XV Z),EC!,Bo! a ta,Fv!,λb H4 =>Z1! Z aB!,
JzQ,S6! SC Z Z Z HJ Z Ci (DA! EQ),aW!,Ah (o:=XV (Z Z)) Z,ED!,lg! β,Tw!,Ea! x v,Aj?,[_,A!,Z,A!,Z,Z],
EE!,JK X sc cl AJ!,EF!,HW X.env.cells cl,mC!,UI m qs ls Z n Z Z,JzR,(t lT!),aX!,a8 p G H Z,MW!,(Du SC Ai Fc),
Rr?,by .have e:Z:=DP hi (Cy! IP);subst e;show F? #[Z,Z],MX!,KM Ep ZV ZV,Kg!,JR! Z,Tx!,(Be! Z Z Z),JzS,(JH!),
aY!,(TA!),aZ!,(show TN! Z by decide),MY!,x.2.1,Pc!,h.2.1,Ty!,∀x c,lr!->Z,Ex!,sc.kind=.function,HC!,b∉Gv!,
Tz!,y!=k,z?,(by by_cases e:BR!),mD!,if BR! then Z else q,HD!,tb.1≠G.BX,r?,by have S1:=Jp! s1,aa!,λt _=>?_,
ab!,Z (B2! Z),ac!,UV f,ad!,UV y,Pd!,UV b,ae!,(I.tok _),HE!,P! s3 Z,af!,EX! H1 Z,Kh!,Z Z (l! Z),Pe!,HC K H Z Z,
T0!,x! #[_,Z],mE!,H6! Nw!,ag!,An! b,ah!,DB! e1,mF!,by change Z;lia,JzT,jp (Am e Z) Z,JzU,TH! i+1,Ki!,AZ! EZ Z,
HF!,Ao! ?_,Pf!,Ao! A3!,Ey!,ZN m,Ez!,AD c,ai!,J8! Z Z Ai,Kj!,Array ut,T1!,Q v H',Kk!,L8! Z Z [Z,Z] Z Z,
mG!,lJ! t Z,JzV,lK! Z Z Nw!,HG!,Z z hz,E0!,RH K Z Z [Z] Z Z,HH!,Zy! sc.names.lookup,
s?,by cases ry;show Z (Dc I q Ix),JzW,Z5! / 2,MZ!,S1! H' s',aj!,Ah (o:=XV []) Z,HI!,A0! (OV (wp Z) WA),
ak!,(Os Z a!),Kl!,lN! Z (EP X AB σ Q),E1!,KM k IK! e,E2!,Gl X x,JzX,(by change G.AY<=Dx!;show CA (AJ _)),
mH!,λx=>An! x.2,Pg!,#[KE!,A3!],AT?,[_,A!,Z,Z,Z,Z,A!,Z,Z,Z],E3!,Pm p n,AU?,by have:=Cx! List.length Z,
Ma!,ET 2 f fd Z (Z),JzY,(by change G.BG<Fb!;show Gu!),Ph!,(hs,os,rs),Km!,YH++[(AT,ha,DF!)],
JzZ,(lb! Z [] Z A3! ls! A3! TX! Z),T2!,(CG!),Pi!,S.2.1,Fw!,λz=>?_,Fx!,m<=12,Fy!,FI! ?_,
AI?,(by obtain hz|hz:=ZI hz),Pj!,G.hand++[(G.BX,G.AY)],Fz!,tb∈PB!,T3!,λH1 S1 ON=>?_,mI!,(Z (EZ! Z)),
mJ!,z! EH! Z Z,Ih!,CQ! Expr,T4!,by have:=Z;show Z,al!,(pv 8),T5!,UV C,T6!,CQ! (Str×Value),Ii!,CQ! (K×h1!),
Pk!,P! Z Ab,T7!,wP s3 Z,Mb!,H6! H',mK!,DB! e2,Mc!,DB! (wP Z Z),Jzh,B5! Lh!,T8!,I.pin p Z,T9!,Cd! R Z Z,
UA!,J9! GQ!,UB!,AV CW C CP H2 p Z,F0!,ut->KE,Jzi,(Z7!:Key),mL!,Cs! Aw xs Z j i Z,F1!,α->V,
Ij!,W.findIn K (UV C) Z=D! SB,Pl!,KG! Er Z,F2!,FE H p pw V,Pm!,Dp (Z) n Z,Ik!,Z K H' v Z,CY?,by show l! (l! Z),
mM!,Str.length Z=1,Il!,GN K C Z,FP?,by show Bf? (Z >>= _),F3!,CQ! (Int×Int×HS),F4!,λq=>(O6!,TE!),F5!,PQ! ts,
Jzl,MD! (lP! e),Im!,(s,FQ!,S),Jzq,Tl! Aa! Z Z,F6!,JzH Lk!,A4?,(by rw[Z] at e;cases e),mN!,(Ac (JyP Z Z Z) Z),
UC!,(g i j),mO!,(by rw[z,Z] at e;cases e),mP!,Gf (Z) (PK!),Md!,#[Z,H,I.tok _,BT!,q],mQ!,Z _ _ e h1 h2,
UD!,Done p G H Z (Q AS!),UE!,Gf! M A Z Q E s,Jzr,WI H' p W' D' m Z Z Z B' AL! EA,mR!,Z mainGlobals mg,
A5?,by have#[HX,hq]:=(i.at S).ob,UF!,W.IF++[(n,xf)],Pn!,S1! H1 s1,CZ?,[_,A!,_,A!],mS!,x.step hi Z Z st Z,
QAA,#[Z,0,0,h,o,l,Z,[],[],[],[]],Me!,[Bm!,"beginner","n","turn"],UG!,lR! ED g.TR.str CV Z,
mT!,(Z Z A! A! Z (λq hq t ht=>Z) Z Z Z).tk,UH!,(Dr (Cz 0) Ht),Po!,KS Z De! Z e JzG h,
Bi?,by show#[p,Z,_,_,W,A!,Cb!,Z],mU!,KM kE Z (.no _ q G Z hi Z A! A! A!),mV!,Value.type Z,HJ!,X6! Z,
Mf!,BR.mpr Z,Pp!,(d+1),mW!,(r::p::L0),am!,λq=>An! WF,AV?,by rw[AD (by simp)],QAB,SZ (Z b hb).1,
Kn!,let#[dx,e]:=x.ob;Gw! Z,AW?,by have PN:=N8! nd,mX!,H!∉ts,UI!,{ G with hand:=TV! },
Pq!,(Ay G (Jf! i)).AK.filter,HK!,W.ls.length<=2400,UJ!,by rw[<-Z,Z],mY!,Z (KI!),an!,z! LR! Z Z,Pr!,Z (.ref Z),
Ko!,FS x,HL!,Dg _ Z,Kp!,DA! EQ,UK!,PP Z t,HM!,Ae b3,Ps!,o! (Ae Z) Z,Kq!,by rw[Z];show Z,UL!,EZ! (H!∈R),
mZ!,DB! Ab,Mg!,DB! et,Pt!,CG!+1,ma!,(XV (Z AT!)),Kr!,(WP ys),UM!,Ap! Z BD! Z,Ks!,Dt! a,ao!,JyQ 4,HN!,(.dK []),
mb!,Ec! hz,mc!,S6! Z Z Z Z hr Z Ci Z,QAC,Zf! 2 Z Z,QAD,Cs! Aw xs Z j Z (o! Z Z),
QAE,S6! Aa! Z Z Z Z Z Ci (DA! Z),ap!,(ZS (ZR Z)),HO!,vs=[Cc!],HP!,Zn! TP!,Kt!,Q (AI! Z) H,md!,bi W.MY.length+1,
aq!,Nv W W' Z Z,me!,lV! Z Z (Z0! Z Z),Ku!,d! Z p Z,ar!,Zz! Z Z Z (Zf! Z Z Z) Z,Pu!,z! mg Z (UV Z),
mf!,E6! (IC!->Z),Bj?,by show IN (l! Z),AA?,by show BT?;show Z (Dc I q Ix),QAF,(h.lt v!),as!,(tC (wp Z)),
AB?,by show w? k,mg!,PN! #[Z,Z,A!],UN!,2 ^ 62,at!,[Bm!,"h",C4!],au!,(XV (CD! λy=>AM! BJ!)),
AC?,by show IN (IN Z),AD?,by show Fd! (show Ry! from hs) AR,Kv!,K.In Tk,HQ!,X.A.units+1<cLine,
av!,(JN! C Z (Df Z)),A6?,by show Os Z ih,Kw!,tt (lH! x) H3 Z,HR!,JzI th,QAG,C5 (AA Z FB),HS!,mA! ys,
Mh!,(LM al),Pv!,Ck Z tb v,HT!,∀y∈sc.names,Bi!≠Rq!,QAH,(List.filter_sublist.map _).subset,QAI,λr=>Gn! AT Z,
aw!,(SE! Z 0),Ca?,by show#[_,A!,_,A!,Z],HU!,Bo! b tb,Kx!,Wy K mg Z Z,ax!,Gp! W9 Z Cu! Z,ay!,(.IV o u),
QAJ,KI items.size 0 lo,Ky!,KT H GE xs,az!,∀p,G1!->S5! p (Zh! Z),UO!,S7! Z Rq!\/S7! Z Ha!,
FQ?,by show#[CE!,W.pd,Z,Z,_,_,_,_,A!,Z,Z,Z],HV!,closureFor sc o0=Hc! cl,
a0!,λv H5=>S4! H5 (XV ys)/\ys.length<sizeLine/\N (ys++[v]) (Zj! H5 (ys++[v])),UP!,BA x q st Z Z,
HW!,∀y∈sc.names,Bi!=.local->z! sc.names.lookup BJ! .local,
HX!,∀y,(S7! Zm! Rq!\/S7! Zm! Ha!)->∃c,S7! cl.lookup c,QAK,[E8! (n==Z),E8! (n==Z),E8! (n==Z),E8! (n==Z)],
QAL,(Ce (lQ! (Fz (pl:=_) SC Z Z (Z g) hr Z kR Z))),HY!,∀v,foldedSetIterable iter o0 v=Hc! v,
FR?,by show#[Z,U?,Z,A!,_,_,A!,_,_,A!,_,_,A!,A!,?_],Pw!,Db! Z,mh!,(by change Z;decide),Px!,(mF! Z),In!,Bg! ?_,
mi!,∀GF H',Z GF H'->Z,Io!,GF! ?_,A7?,by have hl:=AA! Z,UQ!,t∈BS!,mj!,AV!=G.BX,Ak?,by rw[ZH] at hx,Ip!,q.2.AY,
mk!,W.c+Cf! Z,Mi!,i1++y'::i2,AJ?,by have#[_,rfl,rfl]:=kA pa,AK?,by .show G? Z,Al?,by .show M? Z Z,Iq!,by rw[Z],
Ir!,CQ! CW!,Is!,UV x,QAM,(by size_fits),It!,(DN _),Py!,P! SQ.BI Z,Mj!,le.2.2.1,a1!,EX! H' Z,UR!,EX! Z m,
Mk!,KM Z Z (O8! Z),a2!,by rw[Z];lia,ml!,FT! EQ Z,a3!,B5! E7!,Iu!,L1! G!,Pz!,Zc! L2.St,Ml!,FV! l,Mm!,GP! Ab,
Iv!,Zd! (W.qs[h]?),Mn!,Ap! Z [Z,Z] Z,mm!,(AC! (A2! Z)),Iw!,Eb! ?_,a4!,(d! Z Z (XV (Z++[Z]))),
P0!,GQ 2 Z Z Z (Z),Ix!,ut->HS,P1!,(Ac Z (Ac Z (Ac Z (Ac Z Z)))),a5!,DD! (a==sysModules),Mo!,Ed! AX,
US!,(JE! Z).2,mn!,O8! hb,mo!,TG! Z e Z,P2!,(.dT []),mp!,(IN (IN Z)),UT!,lP! o,Iy!,RH K Z Z [Z,Z] Z Z,
UU!,IG! f Z,mq!,(JE! hq).1,mr!,Ck Ai! tb (Z),UV!,TS! Z el,UW!,IN (l! Z),ms!,by have:=Z;show n? Z Z;show this,
a6!,(WP (Bd! Cz!)),mt!,Dy al n u,Iz!,DL Bq! H!,I0!,DL DE! H!,Mp!,W.mroIn K Z (Cu! "object")=D! AC,UX!,(Ah ht),
mu!,IH X (GE! Z) Z,P3!,NQ m l,I1!,lt! Tk,QAN,JzN Z (Cj (i:=Z) Z A! (R8! A!)) Z,AL?,by have#[s,nu]:=Dn! hi,
QAO,(X9! AG! (Ny! es o0)),Mq!,Z i q G hi Z Z Z,Mr!,LM al,UY!,Ew A9!,Ms!,(Fw Ad),UZ!,(λy h=>S_ BT! h),
a7!,G.holds++[(FX!,a,[])],I2!,T! (W.excIn K Z [Jzh,B5! "Exception",B5! SI!,B5! "object"] "ValueError.__new__"),
Ua!,(b,o),P4!,(E4 (L3! Z)),I3!,Bo! o td,a8!,aS! H' s',Ub!,(Cs EI! X.w),Am?,by (have h:Z:=aR!),
mv!,λi=>as.getD i 0,mw!,(tC (PP 0)),P5!,(Mf p d),QAP,KB (AM! Z=A2! Z),QAQ,De (Hs! Z) Jzi,Uc!,h! #[A!,_,GP! Z],
Ud!,Fx m W W' V V' H3 H4 ys,I4!,∃z,S7! cl.lookup z,QAR,T2×Addr×F!,Mt!,(I.ok.hd hc),I5!,CQ! (Gm!×h1!),
Mu!,W.findIn K (UV Z) N5!=D! (AC! (GE! "object.__class__")),Ue!,Wg D m Fc! sh Z Z,mx!,∀b u,Tj!->b≠p->TJ! Z,
I6!,KR M G,I7!,B4! CW SQ! "World.house" Fi Gg! fH dH,my!,∃z,z! cl.lookup Z z,AM?,by have NF:DU 2 _:=JyS,
AN?,by have TX:DU 3 _:=JyS,Mv!,Z i H x H',mz!,Md X AB Z b,m0!,(E (UV Z) SB H),
I8!,Ny! (e::es) o0=Jzl::Ny! es o0,a9!,λzs H' pz=>#[_,W!,A!,IP,pz],I9!,WI H pw V D m n d A B al ys,
JA!,Al W V al bl ys zs,A8?,by have#[z,tx,kq]:=AH! (v:=v) ef wi fr fp,Kz!,kd! Z,bA!,(λi ys H2 _ h=>Z),Uf!,Z=AN!,
AX?,by rw[show Z from rfl],bB!,le.2.1,P6!,o.data=.dict es ep,m1!,∀p∈X.pn++AB,Z,K0!,0<=i,
bC!,{ s with toks:=s.toks+1 },K1!,He! ?_,bD!,(TZ dd).take,m2!,λj=>AT! (EZ j),bE!,show Z by decide,
bF!,show Z by simp,QAS,(if Z/\Z then some Z else none).toList,Bk?,(by obtain rfl|hb:=ZM hb),K2!,FG! ?_,
A9?,(by obtain ht|ht:=PZ!),QAT,t=FX!,P7!,tb∈FD AK! ta,m3!,(IU (L.take i)).flatMap,P8!,H!=th,
Cb?,by have s1:=PA! Z Z,m4!,W.ls++[(CG!,t1)],K3!,l.kind=H1!,bG!,y.fi++[(s,FQ!,S)],Cc?,by show X?;show Z,
P9!,bi jQ!,K4!,ZM h,bH!,(DX _),QA!,P! s1 Z,K5!,P! s6 Z,bI!,ww Db,K6!,wP Z e,bJ!,z! Z b ob,m5!,(FH.mpr A!),
bK!,x! (KF! ht),K7!,AF e,K8!,Ds! H1,bL!,S4! H2 Z,QB!,ZN h1,K9!,Dt! l,bM!,lG! AD,AY?,by show ZR ?_,
AZ?,by show ZR (Z Z ?_),QC!,(by rw[Z,Z];show Z),bN!,S9! MM.map,QD!,S9! XZ.map,m6!,S9! QP.map,m7!,O5! H2 Z,
QE!,AW _ _,Aa?,by intro _;rfl,QF!,by have:=Z;lia,LA!,ut->Go!,Ab?,by show ZS ?_,bO!,(Ac Z (Ac Z (KB! Z))),
bP!,CH! (Z).map,bQ!,L7! l Z,LB!,Cy p W',LC!,Ew l,LD!,X.N[i]?=D! x,m8!,L9! Li! Z,bR!,(Ag (Ao (pv Z))),
LE!,IB! BV!,QAU,lN! Z (Z),QG!,ID! H' Z,QH!,#[us,[]],m9!,Gs! c Z,nA!,[Bm!,"h","g","b"],LF!,λq=>(O6!,An! WF),
QI!,Zv! vs,Cd?,by show Ah? (JyP 1 Z Z) Z,QAV,D! Z::D! Z::D! Z::D! Z::lH! Z,bS!,#[DI!,BL (EM! Z) FB],
bT!,Zk! he ?_,bU!,(.Name x p),Ac?,by rw[uY A!],nB!,λq=>(O6!,Rs),nC!,(A8 Cm J5! g.T.len CT (DA! Z)),
QJ!,λq=>! DL G H!,QK!,lJ! ta (λx H1=>Z),QL!,BM g0,QAW,Z Z H (λ_ H'=>KQ!) E,LG!,W.mroIn K Z (Cu! SI!)=D! AC,
nD!,∀H',TD->Q (wp Z) H',QM!,Nx! #[Z,Z],QAX,JzE (),QAY,S6! SC Z Z Z hr Z A9 Z,
bV!,(.ListComp elt [#[KA! x px,iter,ifs,0]] sc AG!),Ad?,(by show x?;cases h),QAZ,lo! Z (lQ! Z),
bW!,G.AK++[(FX!,L6!)],nE!,UA X (i0! Z) Z,BA?,by show DH λq _=>?_,bX!,(Hb EI Z Z Z Z (DA! Z)),bY!,Wu G ts,
QAa,Zi! _ Dy!,bZ!,JyX (AE z1 hn),Bl?,by show D? (ZI h),ba!,NS Z g Z h',LH!,PA X TM! t,
FS?,by change Gf! _ _ Z _ _ _,LI!,A.units+1<cLine,nF!,De GE k,LJ!,W.mroIn K Z (UV HE)=D! AC,QN!,QAI bv,
nG!,E (UV Z) SB H',Ug!,λq=>An! H!,Bm?,by show Z? (Ac (Cg Z) Z),bb!,FW! t Q,LK!,JyR AD! (UV Z) (n==Z),
nH!,sJ p W H x,QAb,Ch! kq.BI SO.BI Z,QAc,Z3! Nc (bn Z),bc!,Wl C m Fc! sh Z Z,bd!,Z (D! x::Cw σ []) Z Z,
QAd,aH! tb Z hb (QAG Z),LL!,mC! al fi se,be!,(λt h=>MI!),QAe,∀ys H2,Pv Z ys H2->DK!,Ae?,by have z3:=x.P' hB,
bf!,(So ry),QO!,.tupP (FF! Z) Z,nI!,Jg! (JS Z) Z,LM!,[(Bm!,0)],nJ!,#[BM!,GW!,l.x,sB,sh],
LN!,W.findIn K (UV Z) j1!=D! (AC! (GE! JPm)),QAf,KI items.size items.size hi,QAg,(MK X sc cl Z Z s1 H1 fp AB),
QAh,(FD AK! ta),Af?,by show i?;show CT! e' ZV,nK!,λq=>(tk (k q),f q),QP!,TB qs ls Z,
QAi,TF! (Zp! DG!) (QAC SX.nd (QAL Ge! Z Z Z Z)) (Ag Z),LO!,jC! K (UV Z) (Cu! Lh!)=D! AC,nL!,hd ys H2 pv,
nM!,(λzs H'=>∃m',m'<Z/\(m'=Z/\Z/\Pv (Am!) zs H')),QAj,(qs.set l.th.1.toNat (q,Gp G sB sh Z)),
Rs?,by show#[p,Z,Z,A!,Z,Z,#[dx,_,hp],λr xs H1 s1 er pa=>Z],
Ce?,by show#[λi m ys H=>m=Z/\Z/\Pv i ys H,#[Z,ci,Ax!,h0],?_],LP!,Pv 0 [] (Zh! Zo!),
QAk,∀ys H,Pv (Am!) ys H->N ys H,Ag?,by show Rq? HX JA HX JA,nN!,JzQ wE MH.mt GH MH.bd,QAl,l6! ha s H I h Z,
bg!,EP X AB σ Q Z Z,FT?,by have GH:GQ 1 fH dH Gg! (E9):=Ez MH.fn T TW,
QAm,x! #[q,G,Z,q,G,hs,os,rs,A!,Z,gd.h2,gd.o2,gd.r2,GX.pm,GX.pw,GX.ND,H3!,GX.wr,Z],Uh!,BI! Z,Mw!,Paired Z,
Ui!,(l7! Z),Mx!,CT! Z Z,My!,Jg! Z Z,Mz!,v=BQ!,An?,by .show CY? Z,Uj!,Be! Z (D! Z) Z,M0!,(Z).Nodup,
Uk!,λ_=>E8! AC,nO!,λb u e=>?_,Ul!,b∈Cg!,M1!,(Z,[true]),M2!,x=IM!,nP!,[FN!],Um!,Z∈ww Z,Ao?,(by by_cases e:Tz!),
Un!,λm=>?_,M3!,GJ! ?_,Ap?,by have#[u,rfl,rx]:=vals1 r,QAn,SG! (∀t∈BS!,Z),Uo!,λa ha=>?_,Up!,tb.1=G.BX,
M4!,G.AL.length<=500,Uq!,λ(q:T2×Addr×List T2)=>(O6!,An! WF),M5!,λt ht e=>?_,M6!,G.AK.length<=500,
Cf?,by have#[r,hr,e]:=ZN Z,Aq?,(by by_cases d:t=l.th),Ur!,fi++[(s,FQ!,S)],M7!,d<900,QAo,y.fi.length+1,
nQ!,y.se.length+1,M8!,le.2.2.2,M9!,by grind,NA!,z! H1 Z Z,bh!,z! H4 Z Z,bi!,z! Z (Z:Ag!) Z,Us!,(pv 7),
nR!,#[U! Z Z,Z],NB!,CQ! (QAR),NC!,U! (lS! Z) Z,ND!,DA! DG!,NE!,(AG _),NF!,P! Z e1,Ut!,P! Z e2,nS!,ww se.map,
NG!,[Bm!,C1!],NH!,[Bm!,Og!],NI!,h! A!,Uu!,Z (by rw[Z]),Uv!,KM fr Z Z,nT!,S1! H s',bj!,FT! FM Z,QAp,FT! Br! Z,
NJ!,Bn! a,Uw!,EZ! (H!≠t),Ux!,EZ! mX!,Uy!,L1! V,nU!,AZ! Bd! Z,nV!,Zd! (qs[j]?),NK!,ZN hy,nW!,xz BC,Uz!,xz DB,
NL!,J7! Y!,NM!,Ce! KO!,Ar?,by show M? h Z,U0!,DC! h,NN!,Ah (o:=XV Z) Z,U1!,AA! rel,nX!,Ec! z,NO!,ut->BH!,
NP!,ut->G!,nY!,(AA Z FB),nZ!,FZ! ZE Z,bk!,FZ! Z ZF,NQ!,JyR NH (UV Z) IR,NR!,JyR NG (UV Z) IR,
NS!,JyR OD (UV Z) IR,NT!,JyR MI (UV Z) IR,NU!,JyR NW (UV Z) IR,NV!,JyR NL (UV Z) IR,NW!,JyR NI (UV Z) IR,
bl!,DF K H a Z,U2!,Gk! (pv 0),QAq,(Yy! Z).2,na!,L7! d Z,NX!,BV Z H',nb!,(model P w),U3!,[Bm!,"h","b"],
U4!,[Bm!,"b",Dl!],nc!,Dp al n Z=[],U5!,(Ag (Ao (Ce Z))),nd!,[(CG!,t)],NY!,JR p W H H1,
QAr,(A8 Z J5! Z GC (DA! Z)),QAs,#[Fl!,[]],U6!,Q (wp Z) H,NZ!,W.findIn K (UV Z) JPn=D! SB,
bm!,TF! Z (G8 A! A! Z Hj) A5,Na!,lS! t9,ne!,Ek! Rp!,nf!,E6! (H6! Z->Z),Nb!,CQ! (Int×Addr×HS),Nc!,Bo! o ta,
ng!,Q (PP Z) H',Nd!,Bo! e te,Ne!,Gb w9 Z,bn!,(JD! x),QAt,(En _ _ _).2.2 t ht,U7!,[Bm!,"h","tick"],
nh!,Td! { W with qs:=Z,c:=Z,ls:=Z },ni!,(Yp! F7! (aJ! Z Z) Z),nj!,KV! Z z Z,nk!,(O6!,TE!),U8!,0<Rs,
Cg?,by show CI! (Ec! h),U9!,l[i]?=D! q,nl!,li! Z hb,VA!,DU k A,As?,(by rw[Z] at h;cases h),VB!,FY! H Z WP Z,
nm!,PP 0 0,Nf!,G.AK++[(FX!,0)],Ch?,by cases Z;show L? Z,VC!,Dy Z n u,VD!,Dp Z n u,nn!,Nw W W' FJ! [],
VE!,(.IV o (.dK GE)),no!,(.IV o (.dT GE)),VF!,(RD 0),VG!,(.dK (JzD GZ!)),VH!,aW! Z Cz! Z,Ci?,[U?,p,Z,Z,_],
At?,by have e:b=it:=by simpa using hb,Ng!,(D1 hu Aa! EQ),Nh!,V->C!->lM! VK,QAu,ys=ll! (Z i).map Z,
Au?,by have SQ:=Ol! S JI,VI!,te (lH! x) H4 IT!,Ni!,A0! (ww (backTo pos (starEach es X.env)).any),
VJ!,CB Z bs (Z Z),Bn?,by show FG (O3! hl s H I h) ?_,np!,Fi! (S8! CD Z),QAv,QAA AN! r',nq!,QR t Z+Ko t l,
Nj!,Binds Kx fd ps ds,nr!,(E8! AC),VK!,(JC.mp ht).1,Nk!,AY! l (XV xs),Nl!,∀b∈CC G',b∈Cg!\/BU!,
Nm!,FY EI! X.w Kx X.mg LS! CX k f fd ps sp,ns!,λkv=>KB (Hg!=k),Bo?,by have#[q,G,hi,i]:=rM ok,
VL!,(ax (Dm (Z A7))),Nn!,Led L t,nt!,λq=>(([q.1.1,q.1.2]:q!),Rs),Cj?,(by rw[Z] at e2;cases e2),
nu!,Eb! (Z9! ht),No!,L4! AE (AA Z hn),Bp?,by rw[ZA,ZA,CO],VM!,[Bm!,"b",Dl!,"mine"],
Av?,by have#[s,nu]:=x.sd i q G hi,VN!,(eval Z env),Aw?,(by show P0 λds z=>by cases z),nv!,[Bm!,"beginner","n"],
VO!,Ok Z (n+1),VP!,(PP i t),Bq?,(by rw[Z] at hx;cases hx),Np!,Ct! UX ds,VQ!,[Bm!,"h","tick","state"],
nw!,Cf! (AZ! Om! mH!),Ax?,by have#[s,nu]:=EW! be,QAw,(A3 C3! (PP 0) (A3 C2! (PP 0) (Zg! C1! n))),
VR!,∃t,u=hg! i t,bo!,ET 3 f fd Z (Z),QAx,L9! Z aQ!=D! (tb,Z),VS!,Wz p W ys H H',nx!,IF! (le! H d Z) (TY! d Z),
Nq!,Kl CX X E,Nr!,B4! C "is_near" "House.is_near" Nk Gi! f1 rb,Ns!,Jzr n' d' A',Nt!,YB Kx C,
QAy,(EL! I.ss (l! h) v),QAz,((Xa W h/\Zt! NH)\/HN λq G=>Bt!/\Z),ny!,[AM! n,AT! kd,A2! h,AM! g],
Nu!,#[Au!,Z,#[Z,Z,Z,Jo,Jp,Z,Z,F4 Z],Z,Z,Z,Z,Z,Z,Z,Z,Z],QA0,#[Z,I.os,JG!,I.base,I.loc,LT!,JF!,I.LF,Z,Dd!,I.len],
BB?,by show u?,QQ!,Db Z,bp!,(vs++UX),QA1,(JyQ Z),bq!,(KI!),
QA2,(M0 Z P w K mg Bf! N qual scope f Z A EK! s H E),br!,(Cj (i:=Z) hN A! (DC! Z) (Eg! Z)),QA3,by show Z Aw!,
bs!,x≠"__name__",Ck?,by show I? ZA,bt!,λz=>mO! Z,QR!,λe=>?_,QS!,x=IR!,QA4,(Bd! Db!).getD,QT!,n<=60,
QA5,λb o e _=>Z b o e,FU?,by have e1:IW! Z Z Z Z:=Ab,bu!,z.2.AY,QA6,λb' o' e' LK=>?_,QA7,aK! Ai!+l.x,
nz!,λv H1 z=>?_,bv!,j<=1000,BC?,by .show y?,QU!,CQ! J!,QV!,wp (Z Z),bw!,(by simpa using h),bx!,#[Z,W!],
QW!,bi c,n0!,bi SP!,n1!,kvs.length<=sizeLine/\Z/\Z,by!,FS D,bz!,FS ka,QX!,CQ! (js!),QY!,CQ! (Str×D3!),
b0!,U! e Z,n2!,U! pi Z,Cl?,by show Z (Zk! Z ?_),b1!,P! kq.BI Z,b2!,ww CD!,n3!,ww G.AL.map,b3!,EX! H2 Z,
QZ!,Ae b7,b4!,(FJ.mp Z).1,Qa!,S3! (WP (k.map kV)),Qb!,DB! ea,Qc!,Zc! It,b5!,FU! n,b6!,GP! el,
Qd!,Zd! (V.qs[h]?),Qe!,H7! L5!,b7!,S5! t Z,b8!,L3! SC,b9!,L3! DG!,cA!,kd! (Z Z Z),Qf!,J7! DD,
cB!,by rw[Z,Z,Z];rfl,Qg!,Ze! A4! Z,Qh!,Ze! am Z,Qi!,Ze! C1! Z,Qj!,Ze! C2! Z,Qk!,Ze! C3! Z,Ql!,Ze! Di! Z,
Qm!,Ze! C4! Z,Qn!,Ce! KU!,BD?,by show M? Z np,Rt?,by show#[U?,FO? C Z Z w! Z Z Z Z],Qo!,inClass (top 27) Z,
BE?,by have#[t,rfl]:=r;rfl,BF?,by cases r;rfl,cC!,Sm AV!,cD!,Sm A7!,Qp!,α->BH!,Qq!,Ed! ZF,Qr!,T! (OK! Z Z),
cE!,O7! Z Z (Z Z),cF!,Gl! H1,Qs!,L7! r Z,Qt!,BJ hq,cG!,TG! l! Z Z,n4!,MO W g q G,Qu!,Zn! Gh!,Qv!,Zn! IO!,
Qw!,W.findIn K (UV CW) Z=D! SB,Qx!,Zr! "len",FV?,by show BT?;show Z (Dc I q Z),n5!,TL! (t∉R),cH!,TL! UA!,
QA8,(Ce (lh! Z)),Qy!,KM k (Eg! Z) Z,Qz!,Pv 0 σ H,QA9,(bv,Ac!),cI!,lU! t Z,Q0!,Ek! SB!,Q1!,El! e,
QBA,IG! I.base.there Z,cJ!,lV! Z i Z,QBB,Z (λz=>Gn! z.1 H!),BG?,by show#[?_,?_],Q2!,KH! s,cK!,DM! Z Z AO,
Q3!,GN K CW Z,QBC,(by intro z;cases z),Q4!,IL! BD! Z,QBD,KN! Z (Fh! Z),BH?,by show IN (IN Z),cL!,Z3! Z Gh!,
QBE,Zk! ho ?_,QBF,MC! (MC! (MC! (MC! Z))),Q5!,TZ! (HC K H) Z Z Z,n6!,Tb! au!,Q6!,A0! (OV (wp Z) Y'),
QBG,S1! (EY! a Z) Z,QBH,Z8! np.symm,Q7!,Tf! (FL e),QBI,FG (JzM Z) Z,QBJ,EL! y.I.fs (DC! s) (PP FQ!),
QBK,EL! y.I.cs (DC! s) (PP FQ!),Q8!,KQ (YF G a),QBL,(XV (CD! λz=>AM! z.1)),BI?,by show IN (l! Z),Q9!,DU k X.A,
n7!,EV! L,n8!,Rep K H v Z,n9!,Addr×Addr×Addr×Addr×Z,cM!,Lk fi h,RA!,Ok Bq! n,QBM,l1++(n,t)::l2,
QBN,lz! (call (GE! Z) Z),RB!,Tv! [Z] Z Z,cN!,(.dK (JzD Ga!)),BJ?,by show R? ZS ?_,Cm?,by show l! (IN h),
RC!,YW! vs ns,oA!,ty σ H1 λy H2=>Z,RD!,T! (OV (wp Z) Y'),RE!,_++(QAS Z Z Z++Z),VT!,(ZU _ A!),cO!,Gv G R,
RF!,λq=>(H!,BS!),oB!,S9! (as++MM).map,cP!,lK! Ee! Z H',oC!,(I1.EK.fresh (ZG _)),RG!,BV H1 H2,cQ!,YB K C,
QBO,E6! (Ee!->b≠p->Z->Z),cR!,Jzq EQ Z,cS!,AllBare s'.gens,QBP,(tk q,E8! AC),BK?,by show#[Aj? Z (aT! Z) Z],
BL?,by show False.elim hq,QBQ,(WP [bn "refused",g! Z]),cT!,#[Z,H,I,A!,q],QBR,wp (EZ lc),RH!,Up lt p Z,
RI!,ys.flatMap Ej,QBS,∀t∈ww G'.AK.map,Z,RJ!,EY! a o,QBT,Z { cls:=B5! E7!,data:=.seq Z },QBU,Kk aN! AT,
cU!,CB H' as ts,RK!,Z! x qual st,Cn?,by have#[z,hd,vs,rel,dd]:=TU! Tb,RL!,W.ls=l1++(BX,t)::l2,cV!,(My Jt!),
cW!,[(am,1)],RM!,Bo! l tl,oD!,FY! Z Z .dK [],cX!,Ct! xs its,QBV,T! (lt (aw! Z) Z),
QBW,S6! SC wE Z Z Z Z Ci (DA! FM),BM?,(by cases (show JyV from rx)),Co?,by show#[_,A!,p,C,dx,_,A!,Z,w!,Z,Z,?_],
QBX,QAc (E3 Z Z),QBY,∀i ys H2,i<=xs.length->Pv i ys H2->Z,RN!,QAe Hd!,cY!,Ex m g n Z,cZ!,Fp p W ys W' EA H,
QBZ,d.canLay0=true/\d.depth<=Z,RO!,(i,j),ca!,λ_ _ _ _ _ st h=>Z st h,cb!,.one (Kg Z),QBa,(Z hu Z Z KE!),
QBb,Bo! (.Call (N4! o Z apos) Z [] JB) Z,cc!,(AA KD! cB),QBc,Z Z m Fc! sh (qs.set i (q,Z)) ls,RP!,wp (qT q),
BN?,by show(show False from r).elim,RQ!,Nm W i,QBd,(iN (AR! n)),QBe,DU k (A.deeper Z),cd!,(yE X AB E),
QBf,Z (a:=Z) (o:=Z) (t':=GB!) (Z) B6! Z,ce!,W.Looks MA! hh Z Z,Cp?,by have G1:Gj! f1 d1 Z Z:=Z,RR!,Bd x q st Z,
QBg,Z hi Z (Z) (kq! Z) PJ!,QBh,#[Z,H,I1,Z,Z,SS,QAB hf],RS!,#[hp,g,d,tk,os],
Ru?,by show Rs? Z Z A! (λa ha=>by rw[ZK ha];show#[Z,Z]) #[λc=>bb c Z,λ_ c=>bb c Z,λ_ _=>?_],
Rv?,(by obtain hk|hk:=hk<;>cases hk),QBi,QAf-QAJ,RT!,A8! (lu! hq),BO?,(by obtain hq|hq:=ZI hq),
BP?,(by obtain hb|hb:=ZI hb),BQ?,(by obtain hr|hr:=ZI hr),BR?,(by obtain hu|hu:=ZI hu),cf!,Aj ii b+sh,
RU!,B<=B'+1,RV!,A'<=A-1,cg!,λvs H Q E=>PG! Z\/PG! Z,Rw?,by (have kq:DM Z Z:=Kb! Z),ch!,Lp! i H9!,RW!,CT! A! h,
oE!,Wg Z m Z ET! Z Z,Rx?,by show M? q Bool.false_ne_true,QBj,Eb! (l! (Z ht)),oF!,Z [Cc!,Gh!,BQ!,Dv!] H Q E,
RX!,Z b Z b Z A!,Cq?,(by cases (show u=Db! b from ry)),RY!,K7 Z a b Z,RZ!,Cd! (MZ H W.G_) l1 a,
Ra!,Cd! (MZ H W.G_) l2 b,ci!,Gf! MA! A Z (Z) JzS Z,cj!,cy G tb H_,QBk,DA! (JzZ Z Z (Ca Z Z Z Z Z Z a! A9 lk!)),
Rb!,IG H p I,oG!,TH H t Z Z s g Z u,QBl,λh' eb=>Ao! (I.turned (t':=GB!) (Bh! (KK! eb hb)) f0 f1 f3 f4 f5),
QBm,GW.t (k:=tk th) Z ht,Rc!,B4! C "need_in_hand" "House.need_in_hand" Ki Gi! f2 rZ,
Rd!,B4! CP "put" "Post.put" Pp aC! f3 d3,
oH!,g Z σ H λTV H2=>tb { D with nx:=Pv (Am!),ct:=Pv (Am!),bk:=D.nx } TV H2,Re!,A0! (behindInMarks op b),
BS?,by have lk:=x.P_ hi SR,Rf!,TE->TE->TE,Rg!,Af s1 (Af s2 s3),QBn,Gf! (model EI! X.w) X.A Z Q E s,
Rh!,(Z i H/\KR! H)\/(Z i H/\∃N:Z,(mi! N (∃m',m'<m/\W xL m' GF H'))/\∀x H',Z->g x σ H' λTV H2=>tb { D with nx:=N,ct:=N,bk:=D.nx } TV H2),
Ri!,QC cmp lt n s,QBo,WI Z r V Z m n1 d1 A1 B1 bl zs,QBp,RT Z p pw p0 m Z W V D E al bl ys zs fo,
QBq,Turn P w K tg Z [it] it (λi h=>Z),Ry?,[Z,_,A!,p,dx,_,A!,hp,Ff!,_,A!,p,Z,W,A!,Z,Z],
QBr,#[ok.mod,ok.kind,ok.glob,ok.blt,ok.above,ok.inj,ok.has,ok.pk,Z,ok.frames,ok.rC,ok.ag,ok.bs,ok.dE,ok.WE,ok.VE,ok.O_,ok.ix],
VU!,W i m σ H -> Z,oI!,(λ_ _=>rfl),VV!,(λ_=>False),QBs,(wS),VW!,Dg! Z Z,QBt,Z Eo! Z,VX!,I!->Z,
oJ!,l.kind≠GV!->Z,oK!,by show Z _,Br?,(by obtain⟨kvs,k,e,ey,l⟩|⟨kvs,k,b,e,ey,eb,l⟩:=g),Bs?,by show A0?,
oL!,A0! (KB Z),QBu,λq=>mD! Z,Bt?,by .show O?,VY!,(x::Do caps).Nodup,VZ!,λ_=>0,Bu?,(by by_cases hb:b=a),
Va!,b∈Dl p W,Vb!,x=II!,Vc!,y=Dv!,Vd!,y=g! j,Ve!,o.cls=a3!,Vf!,[Do!],oM!,[A2! (CG!)],Vg!,ZA ..,
Bv?,by have#[u,rfl,t,rfl]:=vals1 r,Vh!,H!=k,QBv,q.2.2.2.1.take,QBw,[EZ n,kd,EZ h,EZ g].take,
Bw?,by have#[z,its,n,r,hl,e]:=I.YM hH,Vi!,n<=62,Vj!,JS! ?_,Vk!,z.length<=9,Vl!,a++[t],Vm!,(EZ Z).cps.toList,
Vn!,OL! ?_,Vo!,AT=t,Vp!,λl=>KB Pa!,Bx?,by have nd:=N8! nd,Vq!,ta.1≠G.BX,Vr!,a.length+1,Vs!,∀h:ut,Z,
Vt!,G.hand.length<=500,oN!,aM!-wt,oO!,aK! ii-l.x,Vu!,∀(j:Nat)(q:Addr)(G:CU),Tq! (qs[j]?) Z,Vv!,W.qs.length<=12,
Vw!,W.ls=[],oP!,λs g ts hz=>?_,Vx!,A5!++new,QBx,λH6 s6=>lL! Z,oQ!,by simpa using e,QBy,by simpa using c,
Vy!,CQ! FX.Arg,Vz!,UV v,oR!,#[TS! Z Z,Z],oS!,CQ! (Addr×C!),V0!,(d! (EY! Z Z) Z Z),oT!,BI! h,V1!,K.In h,
QBz,ww fi.map,V2!,Os Z (Z Z),oU!,o! BO Z,V3!,bn x,V4!,(JW! Z).1,V5!,KM rY Z Z,V6!,x! z,V7!,Bn! r,oV!,An! xs,
oW!,jp Z x.dr,oX!,Zc! V,V8!,FU! i,V9!,GP! S.hs,oY!,Ap! Z IA! Z,oZ!,S5! UF Z,WA!,Cd! (Z K H) Z Z,WB!,Dt! d,
WC!,Dt! x,oa!,Dt! ex,WD!,Z! jA! Z Z,WE!,Ze! Ln! Z,WF!,Ce! o,WG!,Ce! lp!,WH!,AV CW C CP H1 p Z,WI!,O5! H' Z,
ob!,O5! EH! Z,WJ!,inClass (top 20) Z,oc!,IsTup.new _ _,od!,AA! th,oe!,Bp! ?_,WK!,(λz=>?_),
WL!,DD! (d==sysModules),of!,Sm lc,WM!,CH! Db,og!,CH! Lk!,oh!,Du! Z Z B1!,WN!,FZ! CK Z,oi!,TC! t,oj!,AI! AC,
WO!,Q v H,ok!,L7! t Z,WP!,(Cb Z Fk A5),ol!,x.po.keep (Z) (Z),om!,MO W bv q G,WQ!,(Z Z).trans Z,on!,Gq! m,
WR!,RN t l+Dx t Z,WS!,Eh! (PD! pyNext it),QB0,(Ss! y hy).has hb,WT!,vs=[BQ!],WU!,KC! KO!,WV!,TK! e2,
oo!,z! Zm! Z .local,QB1,(AC! (GE! jB!)),WW!,lS! xB,op!,El! Dy!,oq!,PH! H3 Z Z Z Z,or!,PH! H5 Z Z Z Z,
os!,(SZ ?_),QB2,Z m W W' al AL! ys EA Z dd Z,WX!,nF!=D! v,ot!,Em! #[Z,Z,?_],WY!,LB a b,WZ!,TW! Li! Z,
Wa!,(l+r) / 2,ou!,S1! H' s2,Wb!,LD ?_,Wc!,(E4 (pv Z)),Wd!,Bo! e ty,ov!,KS! o,ow!,PO! IN Z,
QB3,lJ! td (λx H1=>Z),ox!,(Yp! F7! Dc! Z),oy!,IU! Bd!,QB4,∀H',TD->nG! Z,oz!,[Z,Gh!,g! g,Dv!],We!,L4! AE h,
Wf!,(g,FQ!,S),Wg!,X.A.units+64<cLine,Wh!,#[t,A!],o0!,FW! ta (λx H1=>Z),FW?,by show Bh? Z DG! Z,
o1!,(JW! nd).2.2,Wi!,Nw W W' FJ! L,Wj!,Kp p Z HB,By?,by show AA Z FB,o2!,Kf! (Z),o3!,Gs! e h1.trans,o4!,aX! H',
Wk!,z! (Gk W).lookup (Z:Ag!) (UV Z),QB5,Ty! (c≠b),Wl!,k Z Ix _ Z,
Bz?,by have e:b=s1.heap.objs.size:=by simpa using hb,ck!,(Lp! j H9!),Wm!,V->V->lM! VK,Wn!,T! (OV (wp Z) WA),
o5!,LM (A5!),Wo!,k _ s1,o6!,SE! i 0,o7!,keepR G R,o8!,lK! Z Ee! H',Wp!,(Eo SC Ha A!),o9!,ww (Dp Z n 2).map,
Wq!,(λq=>hb (by simp[q])),Wr!,(Ac Z (KB! Z)),QB6,mY! Db!,Ws!,DL Bq! t,Wt!,DL DE! t,Wu!,Xt G tb,Wv!,Xu G tb,
Ww!,UM! BD! Z,QB7,mf! mE!,B0?,by show Bj? h,pA!,(CG (AU e) I.ok.above),pB!,uO Z g e AD!,Wx!,Mq G ta tb,
Wy!,Lg G ta tb,Wz!,JyY PE lX! elt te,W0!,JyY i7 lX! ifs tt,W1!,(MK X sc cl Yb! lX! s3 H3 fp AB),
W2!,(MK X sc cl Yb! Tt! s3 H3 fp AB),pC!,by have:=Z;rwa [Z] at this,pD!,TD->Z->Z->TC! Z,cl!,(Lg G ta tb),
pE!,Ax (λ_ _ r=>CK! Sf! Z) Z,W3!,DF K H' Z xs,W4!,Cf! (AZ! Bd! Cz!),W5!,Gf! MA! A Z Q E Z,pF!,(As Cd Aa! Z),
W6!,Fd H W fo,pG!,Bd! Gj,QB8,(Bj! A2!),QB9,(MR!++mW!),QCA,m7! (J6! t),pH!,m8! BR!,QCB,m9! AM,
W7!,nD! (Dm (Z A7)),W8!,Z xs H Q,pI!,cq t qs k,W9!,DW K H p xs,XA!,Al! (h z mb!),XB!,Z AB s σ H Z I h,
XC!,standAt apos.atName,XD!,(SR! (a7 t)),pJ!,λσ H R=>FW! tl (λx H1=>Z),XE!,-(UN!),
FX?,by have#[z,hd,xs,rel,dd]:=TU! Ta,pK!,(C_ Z QAM),XF!,Xr! (JB!->Sem Unit),XG!,#[Au!,Au!],XH!,AM! Z=A2! Z,
pL!,(l.set i r),pM!,Ax (λ_ _ e=>KH! Z) Z,pN!,(Co C6 (Co C6 Z Ap) Z),XI!,mB! [Gh!],XJ!,ai! Sa al!,pO!,LT! x c e,
pP!,i6 Z it es as,B1?,by show F? (PO! l! h),QCC,lR! Fs g.TR.int F' Z,pQ!,W.MY++[(md!,io)],
QCD,tt (lH! Bs!) H2 Z,XK!,OX (RM AK!) k (Lr! G) [] R,pR!,MC p b ts H Z Z Z,pS!,(λ_ h=>Ic!),
FY?,by show n? ZA ZA,pT!,A8! ((x.ho q hq).keep (Bh! Z)),XL!,MeI K Z jA! Z Z Z Z,pU!,AY! ka (J6! H!),
QCE,me! Z j Z hj,FZ?,by show FR? t mZ!,XM!,PT X a tA,XN!,GW H a y o,XO!,JB!->JB!->Sem JB!,XP!,vf λi j=>KB Z,
XQ!,lR! F0 T.tuple GO Z,XR!,lW! Z σ H (∀i m σ H,Z),XS!,MZ H G_ y z,
Fa?,by show Z (tt:=PR!) (te:=Z) (AJ!:=[]) (Z) Z (Z) ?_ ?_,pV!,OX nx n ahead Jh! R,XT!,(QAn (a7 t)),
XU!,L2.St->XK,pW!,λz=>DL! k.symm.trans z Z,XV!,Z<=c&&c<=Z,pX!,Z5!-JzW,B2?,(by obtain ht|ht:=ZI ht),
XW!,ys=i1++y::i2,pY!,(kd! (Z g)),QCF,((qL q).map qT).map,XX!,Bo! i ty,XY!,Ap! Gi! Gi! Z,XZ!,O5! H1 lp!,
pZ!,W.findIn K (UV C) Z=D! (AC! (.ref f)),QCG,YK K H a DF!,pa!,K52F.IG H' io Z,pb!,(C7 l u),
QCH,Fg! (ow c) (no c),pc!,Cj! Au! Au!,pd!,ET 2 f2 d2 Z (Z),Xa!,WZ xs i=D! v,QCI,(Itz K l1 l2),pe!,[Ly! t0],
pf!,S6! SC w! Z Z hr Z Ci (DA! EQ),Xb!,(d! H3 EU! (.dK (Hs! (Tg!)))),pg!,Fp! Z t ht,ph!,(D1 hu (Aq EQ A!) SC),
Xc!,Tp! fd ps,pi!,aT G tb wt,Xd!,.same fw gw,pj!,YL p W I H H',pk!,Inv Z [] Z H' s',
pl!,Z [FS pw,Gh!] H (λv H'=>Z) E,pm!,{ cls:=B5! F7!,data:=.seq OE! },B3?,by have hn:Bn! UF:=X7! (ZG _),
QCJ,[g! AV!,g! A7!],B4?,by show#[_,Z,O9!,PC!],pn!,QAu Jf! A7,B5?,by show Rr? (i=xs.length) #[xs,q1,Ay!] nL!,
QCK,Gr (G1:=Z) (by simp[CC]) A! A! S1 k,Xe!,CC Z=CC G,po!,QAr (D9 A!) T.sorted Z,pp!,Ft p W ys b,
Xf!,EV! (IU (So! i)),QCL,#[BM!,AN!,g,b,sh],QCM,Ex m Z (MH!) 1,pq!,Z x hn hB Z Z Z Z Z Z MF! Z kk Z,
Rz?,[CZ?,p,Z,dx,_,_,A!,Z,Z,Z,Z,Z,_,A!,Z,_,A!,?_],pr!,(H!,WF,h),B6?,by have np:=x.VC (b:=Z) (by simp[CC]),
Xg!,["_law_some",Sc!,"_law_other"],R0?,by have#[hs,os,rs,GX]:=(Z (BU hn) Z).told,ps!,(Nu Dd! eb),
B7?,by show#[λc=>bb c Z,λ_ _=>?_,λ_ c=>bb Z c],Xh!,y0! Bf! (env::outer),Xi!,f _ _ Z (O8! Z) (O8! Z),
QCN,(EL! GE k v),pt!,F.ok Z (λvs H Q E h=>?_) (λER A outer s H vs Q E hr h=>?_),QCO,z! (wj Tk l1 l2).get? Z _,
B8?,by show#[_,A!,p,CW,dx,_,A!,Z,wE,Z,(by show FM?;show Ke!),?_],Xj!,IF! (le! H a Z) (TY! a ea),
pu!,zk Z g e AD! Z,pv!,a4! H4 x [] (A2! (CG!)),pw!,XG H Z Z s g ts,
Fb?,by have G3:Gj! f3 d3 aC! Kh:=O8 M3.fn TP,px!,Bg! (O7! (PU! Z) (PU! Z) e),py!,(MeI.mth (ps:=Z) #[Z,Z,Z]).bd,
pz!,(ya hs os rs),p0!,(σ.set i (AC! v)),p1!,(yH (sM K (Cz 1) Z) (Cz 0)),
QCP,eval (.Call (N4! o m apos) Z [] AG!) o0=Z,Fc?,by show Z (K:=K) (a:=Z) (xs:=Z) (Z) Z (Z) ?_ ?_,
Fd?,by have h1:Ci! Cr Z rs (AZ! Sg! (λq=>! Z)):=BC _ _,
QCQ,callWith AG! f first Z (backToKw AG! (keywordEach [] o0)),
B9?,by .show h? #[#[xs,xs[i],q1,by simp[IP]],λx H3 y=>?_];have#[e,y]:=y;subst e;show hs i x ys _ (nM! i6! (xs.length-xL) (Am!<=xs.length)) (y xs q1) pv a9!,
Fe?,[Z,Z,Z,Z,A!,T0! (h! Z),_,A!,_,Z,_,Z,Z,A!,Z,Z,?_],p2!,S6! SC Ge! g.RS.mt (Jo1 g) TX g.RS.bd A9 Z,
Xk!,holding [ov] (getMethod ov m pl),Xl!,zW h λa _ h=>Z (P:=λv=>P (a::v)) h (k a),
Ff?,by show h? #[Z,Pv (Am!),λGF H' p'=>#[Z,W!,A!,IP,p'],λx H' y=>?_],
CA?,by .rintro rfl;have h:=x.KW (b:=Z) lT! hq;show hb.elim pi A6!,
CB?,by have#[W1,JI]:=x.wa.step be (G':=Z) S1 ON cz,R1?,[Z,Z,_,A!,Z,Z,_,A!,Z,_,0,_,A!,A!,Z,A!,?_],
Xm!,∀(C D:Addr) (H':Hp) (s1 s':Shared) (H1:Hp),C=s1.heap.objs.size->Pn!->MZ!->a1! C->(∃m,s'.heap.Ns C m)->TC! D->compPost (model EI! X.w) X.A X.xe use RQ Th! C (.ok .next) s',
Xn!,λ_ _ _ _ _ _ us hl=>Z (P:=λus=>UP! Z us) (us:=us) hl h _ _ _ _ _ _,cm!,ZX! Z,QCR,(Z _).nodup_iff.mpr Z,
cn!,(ME!),QCS,(mx! Z),co!,r.2.2.map,cp!,Ct! (Z Z) us->Z,QCT,#[_,A!,p,MJ,_,A!,JJ,C8 _ ZV,_,A!,Z],cq!,λq=>?_,
Cr?,by rw[bM!],cr!,x2.1.1,cs!,w9.1.2,ct!,λc q=>?_,cu!,λc xs q=>?_,cv!,b∈Gv!,Cs?,by have#[e,n,ne,nf,d]:=T8! hp,
cw!,x=Cc!,cx!,y=IM!,cy!,[EQ!],QCU,λh' SS sb=>?_,QCV,Bh! (l2! (PW! Z)),Ct?,by have#[o,e,c,d]:=id SS,
cz!,v.1.toNat,c0!,v.2.toNat,QCW,show Ea! Z Z from rfl,c1!,Int×Int×HS,Cu?,by have#[q,hq,e]:=ZN Z,
c2!,λh=>Gn! (Lk Jt! h) (cf h),QCX,∀c∈l,T! (Hg c),c3!,∀c∈z.cps.toList,T! (Hg c),c4!,1<=z.length,
Cv?,by have h2:=Z (t:=t) Z,c5!,λt=>?_,QCY,λt=>[AV!,A7!],c6!,oe.data=Rn! vs,Cw?,by cases Z<;>try show Rx?,
c7!,as++[a],Cx?,by have#[q,hq,hb]:=EB.mp hb,c8!,∀t∈DF!,Z,QCZ,∀t∈PB!,Z,c9!,A7!<G.AY,dA!,b.1≠G.BX,dB!,AV!≠G.BX,
dC!,∀u∈nx t,Z,QCa,show LV Jb!=LV AK! from x.holds,dD!,ts.length<=900,dE!,ts.length<=5000,
QCb,∀{n:Nat} {ahead found R:F!},Z,dF!,t∉bI!,dG!,AT=ta,QCc,λb' o e h1 h2=>jp h1 (mQ! Z),
QCd,{ G with BG:=Fb!,hand:=Z,AK:=Z },QCe,{ G with AY:=Dx! },QCf,λ(q:T2×Int)=>nk!,QCg,λ(q:T2)=>QBP,
dH!,ls=a++l::b,dI!,(Ay G (Jf! i)).holds.filter,dJ!,H0! BM!,dK!,λr J'=>?_,dL!,1<=l.x,dM!,l.g=GW!,QCh,l.th∈PB!,
Cy?,(by obtain⟨_,e2,_⟩|⟨_,e⟩:=F8 e),Cz?,by have st:JzF Z ls:=Z,dN!,G'.AY<=Dx!,QCi,W'.qs=Lp! Z H9!,
C0?,by rw[hN] at wg st,dO!,∀a∈as,Xw a,C1?,(by obtain e2|h2:=ZM Z),dP!,λcc=>?_,QCj,λH5 s5 el=>?_,dQ!,l.2.2.2,
dR!,by simp at e,QCk,by simp[Te! Z],dS!,CQ! DictEntry,dT!,CQ! Arg,dU!,HO.dT (Z Z),C2?,by (.show Rv?),
dV!,(pv 9),dW!,UV e,QCl,(by simpa using hu),dX!,bi kk,QCm,Z/\Z/\Ud!,dY!,FS ex,dZ!,CQ! (κ×Value),da!,U! e1 Z,
db!,BC! S! Z,QCn,ww GQ!,dc!,l.2.2.1,QCo,(Hr (x.P_ hq QO) t t2).2.1,QCp,Q Z bC!,
R2?,[_,A!,p,dx,_,A!,hp,DJ!,_,A!,p,Z,G,Z,A!,S,Z,?_],QCq,[Bm!,"row"],dd!,[("kept",Z)],de!,EY! x Z,df!,o! Df! Z,
dg!,(back Z).1,dh!,#[_,mK!],di!,Bn! t,dj!,AE! z Z,dk!,(WP AQ!),QCr,(WP ny!),dl!,FV! G'.AL,
QCs,CF! bootBuiltins Z,QCt,JyP 2 Z Z,dm!,Zd! (W.qs[i]?),QCu,Zd! (W.qs[g.toNat]?),dn!,S4! (d! Z p Z) Z,
do!,S4! Z o,dp!,H7! BH!,dq!,H7! Result,C3?,by show Z? (Ag Z),dr!,Dt! hd,QCv,JyQ 3,ds!,J7! G!,dt!,Ze! JX! Z,
du!,J9! G.AL.map,dv!,Ce! PM!,QCw,Ce! (WP [Z,g! Z]),dw!,Cf! (KI n 0 lo),QCx,S9! E4!,dx!,S9! xo.map,
dy!,inClass (top 22) Z,dz!,Hl _ _,d0!,Gx _ _,d1!,(Wu G ts),d2!,FY! Z Z WP Z,QCy,Zf! 6 Z Z,d3!,ut->Bu!,
QCz,(Ac Z (Ac Z (bR! Z))),QC0,lH! v,d4!,CH! ON!,d5!,Av! (apos.endLine==JB.line),C4?,[v? _],d6!,α->KE,
d7!,Zh! (S8! CP (Gm (c+1) d)),d8!,Ed! e,d9!,Ed! BH,eA!,(back Z).2,eB!,Ar! AC,eC!,Ag!->L1! NameKind,
eD!,O7! Z ZA Z,C5?,[_,A!,p,CW],eE!,λz=>Z nX!,QC1,L9! Z (H!≠t),QC2,Zk! he Z,eF!,IB! sh,eG!,IB! bv,
eH!,hs.Pairwise LB,eI!,Jg! k Z,eJ!,Z Tk a Z,eK!,KC! KU!,eL!,W.findIn K (UV CI) Z=D! SB,eM!,ut->ut->BH!,
eN!,Zr! "sorted",eO!,(Cj (i:=3) Z A! (R8! A!)),eP!,(Cj (i:=4) Z A! (R8! A!)),eQ!,(Ce (FT! Z Z)),eR!,(ZU! h),
eS!,KM k JzR Z,QC3,lQ! (aG! zM g.YY.mg g.YY.fn.kp g.YY.bd Z),QC4,Zs! Z pU Z Z Z Z,eT!,Zt! NH,
QC5,(Ok! (·.1)).take i,QC6,(bv,bi u),eU!,lS! ym,QC7,A2! (wt-Lf wt),QC8,Eb! (h! (Z t ht)),eV!,t σ H1 Z,
eW!,Z σ H1 Q,QC9,S8! CW JyU,eX!,S8! CW JzC,eY!,S8! CW (lI! JX! fi GN! iq JzC),eZ!,PH! H7 Z Z Z Z,ea!,wP XI _,
eb!,GN K CI Z,ec!,KK! kp Z,QDA,Zz! 4 Z Z Z Z,QDB,by unfold LV;rw[Z];rfl,R3?,by show Bf? (YG! Z _ _),
QDC,Z0! k3! Z,ed!,lZ! A!,QDD,D2! (hi-lo),ee!,Fk! BM Z,ef!,JyX YI,eg!,(WP (MM.map Cz!)),eh!,Ah (o:=.dK []) Z,
ei!,Ah (o:=.dT []) Z,ej!,z! sc.names.lookup y0 .local,ek!,AA nW! Z,el!,Bo! e t,em!,2 ^ 64,en!,(wp x),
C6?,by show False.elim h,eo!,h1 t ht,QDE,Z8! n,ep!,xs=[Cc!],eq!,xs=[Gz!],C7?,by change G.AL.length+_<=_,
QDF,Z9! hb,QDG,lN! Z (TP X AB σ Q),er!,h q hq,es!,G3! (Z G tb v),QDH,by have:=US! Z;show AQ?,QDI,lh! Br!,
C8?,by show G? #[Z,k],QDJ,JzF Z (ls++(Cr Z rs).map (Li AN!)),R4?,by show Fd! (show Ry! from fx) AR,
QDK,(AE KD! hn),C9?,by rw[AD (U! Z AR)],QDL,MM! more.map Z,QDM,PV! S.hs,QDN,GK (EM! Z) FB,QDO,((Z/\Zt! NG)\/Z),
QDP,(JW! YX).2.2,et!,Kp p Z (d! Z p Z),QDQ,JzK Z (Z) Z,eu!,Id! (x! Z) Z,ev!,λz=>Z (z▸m),QDR,l1! bb! Z,
QDS,MT! Z (XV ys),DA?,by show Z? (Ac Z (KB! Z)),QDT,L9! Li! Z=D! (Z,Z),ew!,(JI b o eb hb),
QDU,∀b u,Z->Z->TJ! Nw!,ex!,z! (Df G).lookup (Z:Ag!) (UV Z),ey!,mG! (λvs H1=>Z),ez!,q.2.2.2.1.take j,QDV,aj! J',
QDW,Ah ht _ _ (wP PY Z),e0!,A3 Z (UV Z) Z,QDX,∃xs,Z/\xs.length<=i,DB?,by have#[its,rv,p,hz]:=GA! hq,e1!,Ko t l,
QDY,λq=>(H!,TE!),e2!,S9! (MM++bs).map,QDZ,mL! Z v!,QDa,PF! EH! c,e3!,z_ K C,
QDb,by have:=GW.k (k:=h! Z) Z;show I? Z;show this,QDc,([EZ n,kd,EZ h,EZ g].take i).map,QDd,mN! 3 Z Z Z,
QDe,UE! (KM! Z e Z),DC?,by have SQ:=Ol! Cb! JI,QDf,ww (Dp Z n 1).map,QDg,(YF! IP!),e4!,BC! ut F8!,QDh,Pu! Z fa,
e5!,T! (W.hasDictIn K C),e6!,Ka! A5! 1,QDi,R ad! W' Z ys H',DD?,by show Ca? ?_,QDj,IsZip Z z TI TO .ellipsis,
e7!,sQ λq G hs os rs=>Z,e8!,Cc Z (UV Z) Z,e9!,(OV! (·.1)).filter,fA!,(CQ _ _ mn!).trans,fB!,ts[i]?=D! t,
DE?,by show l! #[Z,?_],fC!,UR! fs.lookup,fD!,Q v H1,QDk,(CD! EG!).map,fE!,(Dj! EG!).map,fF!,(Mq G ta tb),
fG!,Af s1 s2,DF?,by rw[Z] at f4;show CT! Z Z,QDl,Cf! (AZ! Bd! Ly!),fH!,mu! "sorted" Z,QDm,JzV (b≠a) IC!,
QDn,JzV (b≠it) IC!,R5?,by show mT! x.of Z Z bK! Z Z Z,QDo,GW.k (k:=Z7!) Z,fI!,KE->KE->V,fJ!,Fd H V fo,
fK!,my! c,fL!,Rows G os,fM!,HC K H2 Z Z,QDp,J8! (Jkp (qj hr)) Z Z,p3!,(iO Y ex),
QDq,(A8 Cm J5! T.len CT (DA! Aa!)),QDr,((AR! m).map Z).sum,fN!,aq! WB L,fO!,[C8!,Lu!,FO!],fP!,[C8!,ZB!,FO!],
QDs,QAb (T7! Z),QDt,QAd Z z,fQ!,[C8!,ZB!,FO!,kc!],fR!,[C8!,Jk!,FO!,kc!],DG?,by show#[_,A!,_,_,A!,A!,_,A!,?_],
fS!,∀i σ H,i<=xs.length->aA!->Z,fT!,#[MU!::us,kw],fU!,EX! X.mg x,fV!,nU! Db!,QDu,CF! sc.names.lookup Rq!,
QDv,(by intro q;cases q),QDw,na! (.IV o JzL),fW!,(by show A_ Aw!),p4!,(FD hl t),fX!,nf! X.base.get? Z,
fY!,GW H d KP! Z,fZ!,Gb 1 al,QDx,G2! ag! (AM! ET!) Z,fa!,Ia! p xs,fb!,Loc X.env.scope x,
QDy,Bo! (ly! bU! TM!) Z,fc!,Rd H a (.dK GE),fd!,k b u q,fe!,∀b u,TJ! LR!->TJ! Nw!,QDz,BindsTo s fd #[Z,[]] Z,
QD0,QAm iw (iw.at Z) (λx H3 s3 st=>?_),R6?,by show Bi? _ (x! #[q,G,i,q,a,b,G,ta,tb,A!,i.at Cb!,ea,eb,Z]),
QD1,mj!->Fm!,QD2,T! (KB (Z≠k)),QD3,Ny! Z o0=[(IR,lP! Z)],ff!,∀a b,R a b->Z,fg!,AV!≠lc,
fh!,∀vs H Q E,PG! sp->JCV,DH?,(by obtain rfl:=SB! Z),fi!,B+60<=B',p5!,(iL z).1,QD4,S7! H' QBL,
QD5,S6! Z w! Z Z hr Z A9 Z,QD6,Ah (o:=WP (Z Cz!)) Z,fj!,T! (W.isFn K ac!),
fk!,(.ListComp elt [#[.Tuple [KA! x px,KA! y0 cx,KA! y1 uz,KA! y2 uy,KA! y3 ux] kt pt,iter,ifs,0]] sc AG!),
QD7,De (Hs! Z) (l! Z),fl!,fE t qs h,QD8,{ G with holds:=Nf AK! ad Z },QD9,SN b o (JI b o e hb) hb,
fm!,A6 Z j v Z hj Z,fn!,QBQ i,QEA,(envOfC qual scope UF f cd),fo!,s.heap.IsTuple l1 xs,
QEB,(h1.push (Yp! F7! (Bd! Db!).toArray 0)),QEC,Z [Cc!,TP!] H1 Q E,QED,YL p W y.I H H2,
fp!,J0u λ_ _ _ _ _ _ _ q=>Z q,QEE,∀H2,Ei!->Q (wp Z) H2,fq!,(SE! (a-1) 0),QEF,Os Z (Os Z a!),QEG,QBj QAH,
fr!,(jX! 10 n).map,QEH,[IO!,bn Z,g! s,g! g,Z],fs!,GX! hi Z A! tw (aa!) Z,
DI?,by have#[W1,JI]:=S.step be S1 ON (SZ (h! hb)),
QEI,Z b' o' (wP Z (Z b' o' e' LK)) (λz=>LK (Gq! (by rw[z];simp[Dl]))) λz=>LK (Gq! (by rw[z];simp[Dl])),
ft!,QBr ok.hd,fu!,p2.keep SQ,fv!,St->lM! (Z),fw!,(Dd! Z _ Z).1,fx!,A.frames=D! (env::outer),
DJ?,(by obtain h1|h1:=ZI fg),QEJ,e1++(k,e)::e2,QEK,(kvs.any ns!),fy!,U! (Ae (n Z)) Z,fz!,Z (λ_ _ r=>Z) p,
f0!,P! uE #[Z,Z,A!,Z,Z,Z],QEL,(xs.eraseIdx j).map,f1!,JZ! H L,f2!,(JE (Z) λr s' hq=>?_),f3!,(WP (Bd! Ly!)),
QEM,AE! e c,f4!,Ap! Gg! Gg! Z,QEN,(TY (env::outer)),QEO,(Hd (Km!)),f5!,Fg! o k,f6!,∃t,u=Xq! x t,f7!,CB Z as ts,
DK?,by have:=OJ! hj,f8!,r x Z H Q,QEP,(Hr! ZX).sum,f9!,Zq! Dv! (g! wt),R7?,by show Cb? [bn Z,bn Bl!,Z] ht,
gA!,Ck Z tb _,QEQ,λq=>Ss w H!,QER,(.done (.ret GM)),DL?,by rw[AD (show ¬(Av! (Db! d==Value.none)) from AR)],
gB!,QBS (Fm!\/0<=A7!),QES,x.lt s g ts h,QET,QBa Nq Aa! Z,R8?,by show#[Gw! QBH,jp Z x.dh,jp Z x.dO,Z,Z,Z,Z],
R9?,by show#[AT? A! Z Bl! A! A! W! D0!],
DM?,(by show Ce? i6! (i<=xs.length) Hd!;show BX?;have#[q1,q2]:=hl i ys H2 hi pv;show#[q2,?_];by_cases IP:i7!),
gC!,QBo H1 E,gD!,QBp H n,DN?,by have#[a,b]:=Ig (hd c Ix),DO?,by have SO:=Ol! W3 VZ,
QEU,∀i q G,Tq! (W.qs[i]?) (yD G i),QEV,Z y c (KH.look e),QEW,Un (TY Z) Z H H' Tk Z,QEX,#[_,Km ey,.HP BX L Z],
SA?,[o?,CW,Z,_,_,A!,Z,wE,Sj!],QEY,E3 (Y_ dd) (bD! j),gE!,λx y H Q=>Z K x y H Q,
DP?,by show HG A! (HZ (IM (FG (JzM he) Z))),gF!,vX Kx C m f,QEZ,YO P w K mg Bf! A EK! s H,
SB?,by show K _ _ Z QAF _ ?_,QEa,vj (s:=CU!) e c Z FB (QBh Z Z Z),gG!,knd.room A,gH!,α -> β,gI!,T! (b h),
gJ!,Ej! X.fn x\/Zy! y4!,gK!,QBc Wg D Z/\JzF Z ls,QEb,λb=>AT! (fm b),gL!,∃sl,z! Nw! b { o with slots:=sl },
SC?,by have#[sl,e1]:=I.base.slot b o e n hb hx,gM!,y=kV k,gN!,(k,x)::A3 f v r,DQ?,by have#[u,hu,ru]:=rv.get hx,
QEc,FV! (Ck Ai! Z Z)-MB!,gO!,[EZ AV!,EZ A7!],QEd,λkv=>if Hg!=k then Z else kv,
SD?,by have WN:p∈(X.pn++AB)++[]:=hp,QEe,s3.toks+([]:T6!).length,DR?,by have iS:Zy! Zm!:=FR hx,
QEf,λt=>Gn! AV! AN!,QEg,A8! (Fa! hq),gP!,oT.data=Rn! ts,gQ!,env.frame=D! L,QEh,λvs H Q _=>Z vs H Q E0,
DS?,(by obtain rfl|hp:=ZM hp),DT?,by have W2:=W1.same s2,DU?,by have W3:=W2.same s3,QEi,λ(i:Nat)=>c+1+AN!,
gR!,{ y with I:={ y.I with ss:=EL! ZO! (DC! s) (UV xs),fs:=QBJ },fi:=bG! },
gS!,{ y with I:={ y.I with cs:=QBK },se:=MP! },QEj,λW' H' nw e=>#[_,tn _,.IW _ q G _ _ hi Z e nw A! A!],
DV?,(by obtain rfl|hw:=ZM hw),QEk,(hr.mono FB),gT!,(ES σ),DW?,by show TK! h,QEl,CD! (λy=>AM! BJ!),
gU!,(CF.mpr (BQ Z)),QEm,Yn! PS! Z (Z Z),gV!,sP m t,gW!,Bo! value tv,
QEn,nh! Z Z Z->NP H' Z T2! Z Z Z tb Z->Z->Z,QEo,Xk Z Z (QBC),gX!,(Jg! (JS Z) Z),gY!,FmL K w Z Z,
QEp,Gf! (model Da! w) Z Z Z Z s,gZ!,Ap! Zl! Zl! Z,ga!,Ap! lO! lO! Z,gb!,sP m tb,QEq,(by simp;show hl▸hx),
QEr,#[Z,λb o e n hb hx=>?_,Z,λb o e hx=>?_,Z,Z,Z],DX?,by cases (show Z from r);rfl,gc!,DL X H!,
gd!,O3! h s H I hw,DY?,by .rintro rfl;show hb (Gq! lT!),DZ?,by show#[t1,t2,?_],ge!,HQ M' G',gf!,Z t (p::qs) Z,
gg!,(V_ r ta tb),gh!,Zq! BQ! Dv!,gi!,ET 2 f1 d1 Z (Z),QEs,TR! (aU! Gy!) Z,
Da?,by have#[t,e]:=(show Z from r);cases e;rfl,QEt,Tf I (o! e YL!) Z Z Z,QEu,Nw W W' (OU!) L,gj!,Fs! CD! J.map,
QEv,(qs.set l.g.toNat H9!),QEw,p.1.map BI!,QEx,lo! Z (lq! AF! Z Z),QEy,TR! (Zp! AF!) (QBW Z Z Z Z),
QEz,M0 Z P w K mg Bf! N qual (Ak st) f ER A EK! s H E,gk!,.same nv.fi kD.fi,QE0,(wp (A7 t)),
gl!,λq=>(tk (wv q),val q),gm!,(d! H5 d JzL),gn!,T9! as bs,go!,MZ H W.G_ (BX,t) Z,gp!,F1 (k:=IJ!) (f:=G6!),
QE1,F1 (k:=KT!) (f:=am!),SE?,[Z,Z,Z,_,A!,p,Z,Z,_,_,A!,Z,Z,Z,Z,aY!,Z],QE2,.MN g s n' u GM! Ph!,
Db?,by show(iv QO o).elim,Dc?,by show(iw hq o).elim,QE3,(H!::CC Rs),gq!,OO! Z Z x y,
QE4,Ak! (go t Z H5 _ PY ht Z Z),QE5,JQ! Hd! 0 lo,QE6,JQ! Hd! Hd! hi,Dd?,by have:=Cc C2! (FU! 0) (Zg! C1! n),
De?,by have:=Cc C3! (FU! 0) (A3 C2! (PP 0) (Zg! C1! n)),gr!,s.heap.DictOfH knd d xs,
gs!,λr=>((BI! (k r):Key),f r),Df?,by subst hb;rw[Ab] at e;cases e;show Z,
SF?,by subst hb;rw[Z] at e;rw[Ab];show e,SG?,by have:T! (mI! Z UQ!):=N'.mpr Z,QE7,QAE Ge! Z (Z g) Z Z TQ!,
gt!,UA X (i0! Z) (pI λi j=>AI! (Rj! (Z))),Dg?,by have:=BR.mp e q hq,gu!,z.sameBut hs (ko y c e),
Dh?,by have hl:Sk!:=PX! es,Di?,by have#[#[q,G],hq]:=QAD A9! h wi.wg.wl.len Z,QE8,Hc! (ps.zip us),
QE9,Hy (fs.take Z) (ws.take Z),QFA,KB ((Z a:Key)=Z b),p6!,(Lb m b S1),QFB,EL! (Hs! Z) Z (Cz! Z)=Hs! (Z),
gv!,t∈Ee Bk! AK!,gw!,B4! C "need_near" "House.need_near" Nj Gi! f3 zP,QFC,hb.elim l! λh=>Z,
QFD,QBe Z->Z -> ∃t,Z/\t { nx:=λ_ H'=>KQ!,rt:=Q } (start N vs) H,gx!,MS! i []=Z,gy!,λy=>(y.n,y.io),
QFE,A2! (Lf wt),QFF,j6! (λ{a b} (h:a<b)=>Z) MW,gz!,Jln (λp hp hk=>Z) h,Dj?,by intro a ha;rw[ZK ha];show h,
g0!,Ci! Cr Z rs 60,g1!,#[_,_,_,A!],g2!,E6! (Ee!->∃o',Z6! o'),g3!,Z3! Px (g! BX),QFG,(letOwnedTupleGo tg PS! u),
g4!,knd.is Tk k a,
g5!,∀i x ys H2 (N:Go!),PP!->Pv i ys H2->(QAk)->tt (lH! x) H2 λb H4 =>Z1! (te (lH! x) H4 a0!) (N ys H4),
g6!,YI! MA! A Z R s,QFH,Fg! Z (mU! g.X1 1 (Z h Z tb G Z)),SH?,[1,_,A!,A!,TT!,A!,_,A!,r,_,2,_,A!,A!,TT!,A!,k],
SI?,by have h4:G.AY<=Z:=Sk (Al! (by have#[k,hk]:=SM! hz;show(Cs! Z q z.1 G z.2 hk).1.m0)) (ZP Z),
Dk?,by show#[_,h,ML! A! a!],g7!,Z b' o' Z LK,g8!,(Yy! (ZO Z)).2,
Dl?,by first|show ZR (JY tI (ZS ?_))|show ZR (MV tI (ZS ?_)),Dm?,by have#[t1,t2,_]:=Jlj I1 d,
QFI,(wv _ _ _ _).symm.trans,SJ?,by have g1:GW H Z Pd! (mm! Z):=Z,QFJ,if WF=a then(H!,a,h) else q,
QFK,kL! (TW! Ji! (H!∉Z)),g9!,∀W' H',nn!->W'.qs=Lp! h.toNat (q,Z)->R AS! W' al ys H',Dn?,by have pU:DU 4 _:=JyS,
QFL,(sI OF! H),hA!,Array (Xr! JB!),Do?,by show j2! r2 rc.symm,
QFM,KM run (λv dv W' D' al' EA H' tl ef OT fr fp eh=>lv! (Bp! (AH! v dv W' D' AL! EA H' t tl ef OT fr fp eh ht))) (λcls i xf ef=>#[AD!,Ao! xf.sub,λex hx=>Bp! #[AD!,i,A!,Ab,xf,λH4 s4=>lL! (λt5 h5=>Bp! (XD i H4 t5 ef (Af (Ah hx) s4) h5))]]),
hB!,Ap! N ps st,Dp?,by show Jej (L8 _),Dq?,by show(x.nv nv.toNv xQ ll).1,QFN,(A.under (GE! "type.__call__" Z)),
Dr?,by rw[AD d,AD (Tk! d)];lia,Ds?,by rw[AF d,AF d.symm,d];lia,QFO,TD! TQ! TQ! TQ!,
hC!,lJ! wi (λJ H1=>∀p,af! p->lW! Go! [] (Zj! H1 []) (∀i m ys H2,W i m ys H2->Z)),hD!,(neC b o e hx),
QFP,Em! #[Bg! (JzT Z (KH! Z)),?_,Ab],QFQ,lc! "state" "House.state" Tz Z Z,hE!,[C8!,kb!,"_law_at",FO!],
QFR,GQ 6 Iy Kd KJ! Z,QFS,S8! CW (A3 Dk! (UV r) JyU),hF!,S8! CW (A3 GN! (UV iq) JzC),
hG!,S8! CW (A3 Ln! (UV en) (lI! JX! fi GN! iq JzC)),Dt?,by have:=Cc C1! (FU! n) [],Du?,by rw[es,G0,Eg,lw],
Dv?,by show Jz4 x' hz ?_,hH!,(.ask s g n' u),QFT,∀b ob,S3! ob->b≠d->Z6! ob,
QFU,∀b,(Z\/b=I.sd\/b=I.fd\/b=I.cd)->Z,Dw?,by first|show F? A!|show G? A!|assumption,QFV,Ay G (Jf! i),
hI!,jp (Am q hn) q,hJ!,f i=c i,hK!,Cz 0 (lH! Z) H4 Z,QFW,aE! (bX! IT IS Gs Z Z),
Dx?,by have G2:GQ 1 f2 rZ Gi! (Rw):=Sb M2.fn T,QFX,T! (lt Z (SE! Z 0)),QFY,λH2 s2=>Z H2 (Af s1 s2),
QFZ,Gw (AJ 0) A!,Dy?,by have#[t,e1]:=rc;rw[e1] at e;unfold W.kitOne W.kitCls at e;simp at e,
QFa,DE (x:=Z) e1 A! A! Z,SK?,by show#[_,Z,O9!,O9!,PC!],QFb,B4! CW "ask_all" "World.ask_all" Kz Me! Z Z,
hL!,Ep! J.stop (S5! p H2) J.go J.SM Z,QFc,Dw hu Aa! EQ Z A!,QFd,(Iu I.m Js! Ca! C9!),
SL?,by show KD (Ip I hg hm ?_ kP),
SM?,by show#[JL!,[s1.heap.objs.size],_,_,H1,A!,I1.kept (t':=s1.toks) l0!,Z,QAa,KY!,q],
SN?,by have lz:=(Jbw (v:=Z) (as:=Z) A! Z).2.2,Dz?,by show Z AB s1 σ H1 Z I1 q1,
SO?,by show O.tr _ _ _ Z QAF (h.lt Z) Z Z,D0?,[U?,Z,Z,_,_,A!,A!,Z,Z,Z,Z,A!,Z,Z],hM!,A5!++Ex m g2 n 2,
QFe,aG! gPk g.fe.mg g.fe.fn.kp g.fe.bd (TD! Z (As Cd EQ Ai) Z),QFf,FY P w K mg Bf! Z k f fd ps sp,
D1?,by show Q_ (pl:=pl) bT! ht,QFg,TR! (Zp! EQ) (Ca yS NF A! M5.mg M5.fn.kp M5.bd a! Ci Z),
QFh,envOfC qual scope UF f cd,QFi,NP Z Bi! BJ! l.kind l.s l.g sB l.x,hN!,[iz! (wp msg) j p1],
SP?,by change Z kindOf ((p,w)::P.zip vs) m Z=_,
D2?,by intro a ha;simp only[TZ,BY,CN,GY] at ha;obtain rfl|rfl|rfl:=ha;{ show pi };{ show Pc! };{ show h.2.2 },
QFj,Al W' V' AL! WQ EA VS,D3?,by show#[this.BX,this.AY,X9 M G x,this.hand,this.AK,this.AL,this.holds],
D4?,by show#[mS! (x.wl.same hi Z A! A! A!) l9! (x.rc.less hi (λl h=>h) λt ht ne=>#[?_,Gu!]),st],
hO!,(uX (#[U?,p,dx,_,A!,hp,lf!,_,A!,xa,_,_,_,A!,A!,IE!,A!,_,A!,xa,_,Ai? _ _ A! A! IE! A! _ A! xa _ IE! A!]) ex),
SQ?,[_,A!,p,Z,_,A!,Z,Ff!,p,W,A!,Z,Z],QFk,QBk uW Z (xY g) HJ J5! g.WV.mg g.WV.fn.kp g.WV.bd,
hP!,(D4 (pl:=_) SC Ge! g.WG.mt (zN g) NF g.WG.bd a! A9),
QFl,x.IW i W1 JI cz JzY PJ! JzX l9! g1 Z A! cA cB g2 k _ λ_ c e=>KM hR c e,
D5?,by have bc:(OU!).length<=2400:=by rw[el,ZE,BD] at z3;rw[ZE];show BU z3,QFm,uZ m BX W W' al AL! ys EA Z L,
hQ!,WI yR r V' E' m xF xn yW yV WQ VS,D6?,by show#[U?,Ai? t _ _ _ A! A! ah! A! a _ mK! A!],
SR?,[U?,Ai? p dx _ A! hp lf! _ A! xa _ IE! A!],SS?,[p,BX,W,l1,l2,t,BX,Z,g,Z,_,A!,Cb!,el,et,λH1 W1 JI=>?_],
QFn,Lx (Z:=Z) (Z:=Z) (Z:=Z) (AJ!:=Z) Z A! A! A! A! Z A! ZV A! ZV A! Z Z Z ZV Z Z,
QFo,x.sU (G':=Z) i W1 JI Z JzY PJ! JzX Z wg st Z Z cA Z Z Z Z Z k _ Z,
ST?,[_,A!,p,CD,dx,_,_,A!,hp,g.TK.cl,g.TK.nW,D7,pw,RP,_,A!],
QFp,x.answer (new:=Z) (D':=Z) (y':=Z) el es p1 p3 ey ee vV fr A! A! A! (za fr at2) Z Z Z Z (λw9=>Z) cA cB Z Z Z Z (Z) Z Z Z Z,
p7!,jM! Z,p8!,(LY!),p9!,(us++ds),qA!,(QB7),qB!,(Ck l t v).map,qC!,No->Z,Fg?,(by obtain (e|⟨o,e⟩)|z:=h),
Fh?,(by obtain (h|⟨r,hr,ht⟩)|h:=h),Fi?,by show Bk?,qD!,(Z Tk l1 l2).objs.size=Z,qE!,A0! (Ti! AT! x AT! y),
Fj?,by .rw[Ae λz=>by rw[z,e] at q;cases q];show q,Fk?,by .show l! (IN #[o,Z]),Fl?,(by injection e with e1 _),
qF!,QAQ ls=none,qG!,(Wd ls n u).1,qH!,(Wd ls n u).2,qI!,∃o,Ee!,qJ!,(AR! m).filter,qK!,b∈Ej y,
qL!,(Z,[true,false,false]),qM!,λy c e=>?_,qN!,λe=>Am e Z,qO!,(MK X sc cl JL! Z s1 H1 fp AB).Ok,qP!,λf s1 q=>?_,
qQ!,Bh! (Z b o Z Z),qR!,t.2.toNat,qS!,-D1!<=i,qT!,{ s with toks:=s.toks+knd.draws k },
qU!,EJ! (xs.length+zs.length),qV!,{ s with heap:=h',toks:=s.toks+1 },qW!,s.heap.objs.size+2,
qX!,s.heap.objs.size+3,qY!,∀fs:Eq!,Z,Fm?,(by by_cases h:tb∈n3!),Fn?,by have hz:Z:=AE! Z z,qZ!,QB6::us,
qa!,λc ys ec=>?_,qb!,λ_ _ q=>ZT _ q,qc!,(Yy! Z).1.symm,qd!,Int×Str×js!,Fo?,by have#[its,r',pl,hz]:=GA! hq,
qe!,(Ay G (Jf! i)).holds,qf!,d.params.defaults=[],qg!,#[ZZZ,58],qh!,z.length+1,Fp?,by have#[o,e,_]:=QB0,
qi!,(λps z=>by rw[e] at z;cases z),qj!,QAo=m,qk!,sizeLine+1,ql!,∃dx,Fi! Z,Fq?,by have#[o,ho,hc,hd]:=id hit,
qm!,t∈Db k,qn!,OS! P3!,qo!,OS! (As!≠n),Fr?,(by obtain hb|hb:=ZM hb),Fs?,by show D? QAt,
Ft?,(by obtain hz|hz:=ZM hz),qp!,kB! JzO,qq!,r∈n7!,qr!,n0!<=h,Fu?,by have#[q,hq,e2]:=ZN h,qs!,l.length+1,
Fv?,by have l1:=AA! Z,qt!,∀(m l:F!),Z,qu!,(Ay G (Jf! i)).AK,qv!,{ G with hand:=Zu! Lh },qw!,wt-wt / 2,
qx!,G.hand.length<64,qy!,G.AK.length<64,qz!,G.AL.length<64,Fw?,by have:mM! Z:=rfl,q0!,H0! ZG!,q1!,H0! H1!,
q2!,∀(l:Q!)(t u:T2)(v:Int),Z,q3!,l.kind=GV!,q4!,l.kind=ZG!,q5!,G.BX=AN!,q6!,l.kind≠H1!,q7!,λl hl _=>h! hl,
q8!,∀r∈Pi!,Z,q9!,∀r∈Z,Me qs r,rA!,aF!+x,rB!,A5!++more,rC!,λk:Nat=>Ac!,Fx?,(by obtain h1|h1:=ZI hz),
Fy?,(by obtain h1|h1:=ZM he),rD!,s∉QBz,rE!,fi.length+1,rF!,se++[(s,FQ!)],rG!,W.IF.length<=900,rH!,Ju! 2,
rI!,∀z∈al,SG m z,Fz?,by have#[r,hr,rfl]:=ZN Z,F0?,by have#[n1,n2]:=N8! nd,rJ!,z.1≠BX,
F1?,by have#[j,_,ez]:=ZN hz,rK!,AZ! Z Z<sizeLine,rL!,λj σ H2 _ h=>n2! Z,rM!,∀n∈ns,Sm n,
F2?,(by by_cases c2:G8!),F3?,by have tW:=ZX! s1,rN!,λnx uE=>?_,rO!,x3 % BV!,rP!,∀l∈WB,l∈W.ls,
rQ!,W'.ls.length<=2400,rR!,λH' s=>k _ H' Z s,rS!,D! (wp (qT q)),
F4?,by .rw[Ae λz=>by rw[z,e] at q;cases q];show q,rT!,by cases Z<;>rfl,rU!,by simpa using h2,rV!,by simp[e],
rW!,by simp[Str.length],rX!,by simpa using z,F5?,by show#[_,A!,p,C,Z,_,_,A!,Z,w!,Z,Z,Z,_,A!,Z,Z],
F6?,by show#[Rz? Z hp Z Z Z Z Z],rY!,z! Z Z (XV ys),rZ!,UV sl,ra!,bi EN!,rb!,U! eh Z,rc!,U! nu Z,rd!,U! Z h,
re!,AY! Z (.dK Z),rf!,AY! Z (.dK (Hs! Z)),rg!,KB (x<y),rh!,DM.refl _,ri!,ww Dj!,rj!,Z=Z Kd!,rk!,KM jz! Z Z,
rl!,h1.symm.trans e,rm!,S1! H X5!,rn!,AM! G.BX,ro!,AM! G.AY,rp!,H6! ik!,rq!,#[_,DB! Z],rr!,Bn! d,rs!,Bn! x,
rt!,An! x2,ru!,S3! Tu!,rv!,AE! Z (Z Z),rw!,DB! ha,rx!,DB! he1,ry!,jp Z x.dl,rz!,jp Z (HA! Z),r0!,L1! HO,
r1!,L1! ut,r2!,L1! L2.V,r3!,(XV (Z A2!)),r4!,Zc! ut,r5!,GP! hl,r6!,Ao! a!,r7!,Zd! (qs[h]?),r8!,S4! Z P5!,
r9!,H7! ut,sA!,S5! Z H,sB!,L3! AF!,sC!,L3! Gy!,sD!,Dt! r,sE!,Dt! p0,sF!,Dt! nr,sG!,J7! LL,sH!,Ze! BM! Z,
sI!,Ze! GN! Z,sJ!,Ze! Og! Z,sK!,Ze! GV! Z,sL!,J9! ON!,sM!,J9! (EV! L).map,F7?,by show M? FB! Z,
sN!,(d! Z Z (XV (ys++[Z]))),sO!,DC! ht,sP!,O5! H3 Z,sQ!,AA! r,sR!,WI H p W D m n d 0 B al ys,sS!,(Gv G R),
sT!,ut->ut,sU!,ut->Pz!,sV!,CH! CD!,sW!,PJ.mp hr,sX!,AD (by simp;lia),sY!,Du! Z EG! Z,sZ!,CI! Ix,sa!,CI! m5!,
sb!,Zh! o,sc!,Ed! LX,sd!,l! (IN Z),se!,Z (List.filter_sublist.map _),sf!,Q (AI! (Rj! (Z))) H,sg!,ZT _ (ZT _ Z),
sh!,AO! LP Z,si!,AO! Z ZA,F8?,[_,A!,p,dx],sj!,Eg! h,sk!,Gq! z,sl!,PA! Z ht,sm!,#[?_,?_],sn!,JR p W H H2,
so!,vs=[bn Z],sp!,vs=[IR!],sq!,KC! (Et l),sr!,(AC! (.ref ex)),ss!,k_ K H a xs,st!,aF!=0,su!,TK! e1,sv!,Zr! F7!,
sw!,Zr! E7!,sx!,(Cj (i:=2) Z A! (R8! A!)),sy!,(Cj (i:=Z) Sq! A! (R8! A!)),sz!,TL! (t∉ts),s0!,TL! (0<MB!),
s1!,(.ask h),s2!,(Sw! h),s3!,Ax (λ_ _ z=>Z) Z,s4!,W.qs.take i,s5!,JW! nd,s6!,A2! (JzU),s7!,IG! u.there Z,
s8!,lV! Z j Z,s9!,(.dK (Hs! ls)),tA!,JO! hx,tB!,∀b,BU!->Z,tC!,W.qs.drop (Am!),tD!,PF! Nw! Z,tE!,Zx! [],
F9?,by show p? ht,GA?,by show p? hr,GB?,by show p? hl,tF!,PH! H2 Z Z Z Z,tG!,(SZ (by simp at hb)),
tH!,KL! 1 Z Z,tI!,IL! [Z] Z,tJ!,IL! Gi! Z,tK!,Z (by rw[Z];simp),tL!,lZ! h,tM!,#[DI!,W!],tN!,CQ! (Int×Str×js!),
GC?,by (have e:Z:=by simpa using e),tO!,(WP (E4! Cz!)),tP!,Ce! (J6! t),tQ!,(C3 Bk!),tR!,Dy al n 1,
tS!,Fn! Z G Z,tT!,(Os Er! Z),tU!,Z=(Li! Z).map Z,tV!,Sem BH!,tW!,IU! QP.map,tX!,∃o,QAx G.AK.find? o/\Z,
tY!,xs=[II!],tZ!,Dp al n 1,ta!,Dp al n 2,tb!,tk (k q),tc!,G3! G',GD?,by show h? #[Z,T3!],
td!,Rf (L0! h g tb) G Z,te!,PV! Ab,tf!,Tp! Z Ts!,tg!,lt! h,GE?,by cases Z;show#[_,_,A!,Z,Z],th!,Tr! OS,
ti!,Ok DE! n,tj!,(.IV o Tu!),tk!,Ft! a,tl!,lz! (Z Bs! Z Z),tm!,L2.Mk K C Z,tn!,aT! Ab,
to!,by change Z;rw[Z];show Z,tp!,ET 3 Z Z IA! (Z),tq!,lG! (Z g).mono,tr!,GQ 6 Z Z Gg! Z,ts!,GQ 6 Z Z JyW Z,
GF?,by show R? wpAny_handled ?_,tt!,aU! FM,tu!,Q (wp z) H',GG?,by have#[s,nu]:=Dn! eq,tv!,YW! i2! ns,
tw!,z! (Iu m sd fd cd).lookup (Z:Ag!) (UV Z),tx!,al=a++z::b,ty!,Pe! KP! Z,tz!,Pe! Z (JR! (Z Z)),t0!,ai! Jnn Z,
t1!,ET 2 Z Z BD! Z,t2!,q.2.2.2.2.take j,t3!,Lp! h.toNat (q,KQ (IC DE!)),t4!,JyX (AE z2 hn),t5!,(D1 hu Aa! FM),
t6!,E_ P w Z h' a Z,t7!,Ma! BD! Z,t8!,AT=bv,t9!,Pk! s2,uA!,FD AK! t,uB!,Q (AI! Z) H2,uC!,Pl! (As Cd EQ Ai),
uD!,PF! Nw! c,uE!,PA X es t,uF!,Jzq FM Z,uG!,Af Z (Af s4 Z),uH!,BL (EM! hk) FB,GH?,by show A4? q,
uI!,(Eo SC G9 A!),GI?,by show False.elim kL,uJ!,BC! World F8!,uK!,BC! QBs F8!,uL!,Bo! (YU! Z Z AG!) Z,
uM!,λz=>PN.1 (B2! Z),uN!,Gp! HC v Z Z,uO!,T! (W.plainOver K C),uP!,T! (W.makesIn K C),uQ!,JzB Ef d Z,
uR!,Binds Kx fd ps [],uS!,EA.flatMap Ej,uT!,V->lM! VK,uU!,A3 f v ((k,x)::r)=(Z),uV!,(ON! (·.1)).filter,
GJ?,by show A7? r2,uW!,DQ Z (show bi Z≠0 by decide),uX!,#[A!,A!,A!],uY!,(Co Er Z (nC! Z)),
uZ!,Ax (λ_ _ r=>Sf! k) Z,ua!,Ej! Xr x,ub!,DW K H' Z xs,uc!,KK! k hc,ud!,KK! k (λz=>hc (by simp[z])),
ue!,(ls++[QCL]),uf!,A5!++[.MN g s n' u FQ! S],ug!,Kk ws AT,uh!,KE->KE->BH!,ui!,E_ P w H h a o,
uj!,Uf! (L6!+AN!),GK?,by have ht:t∈Pj!:=ht,uk!,QBv (j+1),ul!,Z (AR! n),um!,{ cls:=B5! E7!,data:=.seq Z },
un!,DM H3 H',uo!,(A5!++[aO!]),up!,(A5!++[nJ!]++[aO!]),uq!,(C7 hl tb),ur!,(C7 QAh tb),
us!,QAW Z [FS pw,Gh!,BQ!,Dv!],
GL?,by show CX? CU! (I.turned (t':=GB!) (Bh! ((sb.2 b hb).trans e)) f0 f1 f3 f4 f5),ut!,Rf (J0! h ta tb) G Z,
uu!,Rf (J1! h ta tb) G Z,uv!,DW K H p ys,GM?,by show FS? (Z >>= _),uw!,nI! s4 Z,
GN?,by show#[_,A!,_,_,A!,A!,_,A!,mP! (λ_=>Z)],ux!,T2->BH!,uy!,T2->F!,GO?,by rw[this,Bool.or_true],
uz!,(x! Z,g! Z),u0!,λr=>KB (AT=h),GP?,by show Cf? ht,GQ?,by subst e;show I1.VD (ZG _) oC!,u1!,bh! Z (XV ys),
u2!,AY! l (ma! ws.map),u3!,P! Int.add_right_comm _,u4!,BC! V CW!,u5!,QAp Gy!,u6!,(by rw[Z] at q;cases q),
u7!,bk! (O3 (k:=Z) (f:=Z) _ Z),u8!,bl! QCJ,u9!,ET 3 Z Z IA! Z,vA!,QAq e,vB!,(lay H r),vC!,(PP a t),
vD!,(Af s1 s2),vE!,Ia! l1 xs,GR?,by show Gf (λc=>?_) (λc=>?_),vF!,Vis X.env.scope x,vG!,PI X tg l (Z Z),
vH!,Bo! (ly! (N4! o m apos) TM!) Z,vI!,kvs[i]?=D! (k,v),vJ!,Rd H a (.dT GE),GS?,by show Cj? h1,vK!,k b ob q,
vL!,QAi Z Z Z Z (QAi Z Z Z (TD! DG! DG! DG!) Z),QFq,(Cr Bq! rs),QFr,(Cr DE! rs),vM!,PI X (.Name x px) iter wi,
vN!,bo! IA! Z,GT?,by have gd:=JyG (BU hn) hq,vO!,λt=>! DL G t,GU?,by have hr:r∈a7!:=hr,
GV?,by show FU? Z P2! Z Z,vP!,(JS s4).sq,vQ!,{ W with qs:=JzO,c:=c,ls:=On! },
vR!,{ W with qs:=JzO,c:=c,ls:=OU!++L },GW?,by show#[_,A!,A!,_,A!,mP! PK!],vS!,LV (Z UL!),vT!,x.ma.lt _ hl,
vU!,wp N5! t,vV!,(Xt G tb),vW!,(Xu G tb),vX!,lK! (H6! Z) (b∉Cg!) Z,GX?,by show FV? Z (Cx! not Z),
GY?,by rw[Ae (Am e Z)];show Ch! Z Z e,vY!,aM!+(2*sh-1),vZ!,(Lh hl tb),va!,(Lh QAh tb),vb!,(Em (pv 4)),
vc!,n8! d,vd!,(I.LF x c e),ve!,Pm! A5! 1,GZ?,by show FP? (Gx! field it 1),Ga?,by show FP? (Gx! field it 0),
vf!,DF Kx H a xs,vg!,PV P w Z h',vh!,R (.ok (PD! .ret Z)) Z,vi!,H d≠D! Z,vj!,Wt BA! G tb x G',
vk!,Wt BA! G tb wt G',vl!,∀σ H,Pv Hd! σ H->KR! H,vm!,(Af Z (Ah ht)),vn!,HN (LU! (a8!/\Z GF H')),
vo!,bi! (Df G).lookup Z (FU! Z),vp!,AD (by show JF (BQ (Z))),vq!,Gk! (Fj (F2 (Fl hu SC EQ))),
vr!,Re (Z_ (S2! Om!) al),vs!,Re (Z_ (S2! k8!) al),vt!,LI.mpr λq _=>ci,vu!,QBu (H!,v),vv!,2+bi N,
Gb?,by have q:mM! Bl!:=rfl,vw!,(M_ λu1 u2 u3=>σ=Z),Gc?,by show#[_,A!,Z,A!,?_],vx!,JR! (Z OM),
Gd?,by (have c:Z:=QBy),vy!,FZ! Ir (Mf! (FI! Z)),vz!,Hj! z ".",v0!,KG! P2 EQ,v1!,QB4 NH,
v2!,(fi.map (·.1)).Perm (rg m),v3!,Ae (ne e),v4!,Lp! g.toNat (q,KQ (IC Bq!)),v5!,uP Tk g e AD!,
v6!,ok.hk t ht e,v7!,(Co Er (As Cd EQ Ai) FM),v8!,QAP goal OZ,v9!,JzB RR dd (VX dv),Ge?,[_,A!,p,C,dx,_,_,A!],
wA!,Gp! DF Z Bd! Cz!,Gf?,[Ci? CW dx],wB!,QCC Fo!,Gg?,by show SL! #[Z,Z,λu hu v hv z=>?_],
wC!,AZ! kI! (λu=>KB (u∉IV!)),wD!,QCE Z (AA! Z),wE!,GW H2 a y o,wF!,{ W with c:=CG!,ls:=m4!,G_:=Tg! },
wG!,q.Pairwise (λi j=>T! (lt i j)),wH!,DU (k+1) X.A,wI!,IxR X (Z Kx),Gh?,by show Ii k nz!,wJ!,IG H' p I,
wK!,OO! Z TO a b,wL!,Rd H d (.dT (Z nB!)),wM!,Mk Kx C f,QFs,(uU xs lo hi),wN!,QCO (Z Tk l1 l2).objs.size,
wO!,QCP TM! Z,wP!,KU CP H p d c ls,wQ!,F9! (Z p (Ec! hp)),wR!,l.most=D! n,wS!,A8! (jp Z (x.hl q hq)),
wT!,(MP!).find?,wU!,al++QCM h,QFt,(m3! Ja!),wV!,(([AV!,A7!]:q!).take i).map (m2!),
wW!,by change L6!<=Z;show DI!,wX!,KM kp JzR Z,wY!,Dg! s (Z),wZ!,FU! (lo+i),wa!,DW K H a QB8,wb!,(PP c u),
wc!,Zw! Eo! QL,wd!,Cd! (HC K H) xs ds,Gi?,by .show#[_,Z,λv q=>Fa! q],we!,(Ha! h tb),
wf!,∀t,QS G' t->D6!\/PF Z t,wg!,s.heap.IsItemsView v d,Gj?,by (have e:QAT:=by simpa using h),
wh!,lj! (Zb! h k) Z,wi!,ll! QBw i,wj!,JzN (P4! Z) (Ly A! (Cu Z (Cu Z (Cu Z Hk)))) Z,wk!,XE qs ls,
wl!,mG! (λc H1=>Be! (c=true) Z Z),wm!,∀h',Z->X8! it Tk h'->Z,wn!,(Ax (λ_ _ r=>Z) p),wo!,Ch! s5 s4 e,
wp!,DW Kx H a xs,wq!,QAN Z 2 Z (Ag Z),Gk?,by show#[o,e,ex.2.1],wr!,Hs (Z h ta tb) G Z GM,
ws!,QAz (QAW Z [FS q,va,vb]),wt!,QA0 (Z I.ok) Z,wu!,n1! a5! (∃vs,D7!/\h.DictOf aV! a vs),
wv!,Px! (G.AL.length+_<=_),Gl?,by show#[Z,#[Z,ob,_,Z,λo v z=>?_,A!],?_],ww!,QBt XE QL,wx!,(h7! C dx),
wy!,by change Z<BV!;show C0! Z,wz!,AT=bv/\r.2=Z,Gm?,by show#[Z,_,A!,Fg! (GP! Z) Z],w0!,De (Db nK!) (tk t),
w1!,oE! D Fc! (Lp! h.toNat H9!) Z,Gn?,by show R0? x.wg.wl.good be,w2!,QCQ (X9! AG! (Ny! TM! o0)),w3!,RU H x dd,
w4!,OC A9! Mh! (Lp! h.toNat H9!) Z,w5!,mB! [Gh!,BQ!,Dv!],w6!,(.tupP (FF! Z) (Jji Z)),w7!,gh dd dv z,
w8!,zw W m dd,w9!,Ib!/\UH a/\UH b,xA!,gh (Z h a b) GM "ok",xB!,YP! Z BK! MY! x.2.2,
xC!,G9! (Ec! (ZD _ (ZD _ (BJ hq)))),xD!,Un fs ex H Z h h',xE!,W.looks_findIn (M:=model Da! w) X Z,
xF!,bu Tk x dx C mA,xG!,PV EI! X.w H' h',xH!,K52F.d_ ZV ZV ZV ZV,xI!,step (o:=.dT []) Ab (c0 Z) Z,
xJ!,(Rr! b o e n hx),xK!,∀(H2:Hp) (a:Addr) (t:T2) (Q':HB!),Ei!->QCA->t∈ts->Q' (b t) H2->QCD Q',
xL!,FY P w K mg Bf! CX k f fd ps Z,xM!,ks.filter n5!,xN!,hs.Perm Bk!,xO!,((λxs z=>by rw[e] at z;cases z)),
xP!,((λy z=>by rw[e] at z;cases z)),xQ!,(λ(_:L2.St)(H:Hp)(Q:Bool->Hp->Prop)=>Q AC H),xR!,updateSeq S Z,
xS!,∃u,z! Nw! e u,Go?,by rw[OK (X6! hj)] at e2,xT!,λσ H=>Z (σ.set i SB) H,xU!,λσ H R=>FW! ta (λvs H1=>Z),
xV!,GF! (lu! hy),Gp?,by have#[j,h1,h2,h3,h4,h5]:=Jlw he,xW!,JU! (l2! (PW! (JzP hb z))),
Gq?,by have#[v0,r0,rfl,l0]:=D6 wl,xX!,λt=>by unfold RN;rw[AD Z],xY!,G.h::G.o::G.l::G.r::Z,xZ!,G.hand++Pq G,
Gr?,by have S3:=Jp! s3,Gs?,by have S6:=S5.same s6,Gt?,by have#[#[dx,h1],hd,le,nd]:=id S,
xa!,if u=t then v else Aj l u,xb!,{ I with cs:=EL! Ga! (DC! s) (PP FQ!) },xc!,∀r∈os,UH AT,xd!,(Jaq Aa!),
xe!,(Jkj Ai),Gu?,by show QCK { G with AK:=Ck ii tb (Z) },xf!,.dT (Db Z),xg!,U! ZF Ab,xh!,U! Ht! ok.on,
xi!,BC! KE KE,xj!,(iL z).2.1,xk!,Gw Z (l7! Z),xl!,(XV (QCF O2!)),Gv?,by change [JzU]=[CG!+AN!],
xm!,Ap! JyW JyW Z,xn!,Ap! aI! aI! Z,xo!,Z vs H Q' E,Gw?,(by rw[Z] at hz;cases hz),Gx?,[U?,_,A!,l,_],
xp!,operate Z (YR! Z Z),xq!,0<=QR t r.2,xr!,(x::CC QAv),xs!,L7! xf a6!,xt!,((Li! (EZ! BR!)).map B1!).getD 0,
xu!,#[z,hz,A!],Gy?,by change MO! SV! Z=MO! kJ! Z,xv!,Ch! s5 s4 Z,xw!,(Cb (Zp! Br!) Z A5),
xx!,(λz=>by rw[z,Z] at hp;cases hp),Gz?,[o?,Z,Z,_,_],xy!,Cj! hb T3!,xz!,ww CD!=nums W.c L.length,
x0!,ww ON!=PB!,G0?,by show Fd! (x.BX▸n) n',G1?,by show Fd! (x.BX▸n') n,x1!,PS X st t,
x2!,(Os (wp _) (Z Z (Z Z (Z Z Z)))),G2?,by show ZR (EE Z Ix Z),x3!,(iL z).2.2,
G3?,by (have:QAT:=by simpa using ht),x4!,(A8 Cm J5! hn CT (DA! SC)),x5!,(d! H3 fa (C3 (IV!))),
x6!,E6 (Z Z) (tk Z)=(Z Z).map Z,x7!,(i0 b o eb hb),x8!,((λh=>Z) ∘ Nat.succ)=λh=>Z,x9!,(Eo SC Ai A!),
yA!,de K H v t,yB!,DF K H3 a Z,yC!,lU! x [bn Z,Gh!],G4?,by change Z+(Dx t ls+RN t Z)=JzJ ls,
G5?,by rw[kp] at e;show CT! e ZV,yD!,(d! H5 sl oB!),yE!,Bo! (iz! Z j AG!) Z,yF!,mg! r hr,
yG!,UO! l.lookup l.lookup,yH!,zu (H x),yI!,K52F.IG H io I,yJ!,P0! f1 d1 Z Z,
yK!,JM! { cls:=B5! F7!,data:=.seq Z },G6?,by rw[hp] at h;show CT! h.symm Z,G7?,by show#[_,A!,_,Z,A!,Z,Z,?_],
yL!,∀t,t∈Ra↔t∈Rb,yM!,(x.P_ hi SR),yN!,(fd.keep (JS s1)),yO!,nE! op r,yP!,((AR! qs.length).map λh=>Z).sum,
G8?,by have hn:Bn! Hn!:=I1.EK.fresh (ZG _),yQ!,IsPart vl lo,yR!,IsPart vu hi,yS!,Se (c:=Z) FB Z,
yT!,(d! H' aa m6!),yU!,ZR (EE Z Ix Z),yV!,ET 1 Z Z [Hv!] Nd,yW!,PI X tg l (Z Kx tl),yX!,#[v,H,I,r,h],
yY!,Be! (u=1) 5 3,yZ!,Rep K H x d,ya!,GQ 3 Ka Kf Gg! Z,yb!,LL.lt s g ts,yc!,Xn m g ts,yd!,oG! k Z n,
ye!,Cn vs a0,yf!,AV CW CH CP (EY! Z (.dK (Hs! l))) p Z/\JR p W H (EY! Z (.dK (Hs! l))),
yg!,A8! (by have:¬BR!:=λz=>h (B2! (KF! z));show AQ?),yh!,z! (d! H1 Js! (.dK QAy)) Z Z,yi!,∀b,Gl! EH!->g b,
G9?,by change Fe!-Aj (Z) t+Dx t Z=JzJ ls,yj!,(r_ (vk Z (T8 Z))),
HA?,by show Z p pw r V h A! S1 er (Gy (dd:=Z h) g x1 hn hB hd m4 cB (λv dv W' D' al' EA H2 tl ef wi fr fp eh=>?_) bad),
HB?,(by show#[o,e,λv z=>by rw[d] at z;cases z]),yk!,by change W.IF.length<=d+1;show CJ a3,
yl!,GQ 3 f1 d1 Gg! (E8),ym!,#[ZG!,th.1,sn,th,ET!],yn!,B4! CW "state" "World.state" Lr Gg! f1 d1,yo!,TC hl rows,
yp!,s.heap.IsList l2 ys,yq!,if k=f then(k,v)::r else Z,HC?,by have e0:bi (AZ! kA! Ug!)=W.qs.length:=ci,
yr!,∀(x:Addr)(L:X!)(H':Hp),Z->Z->KX!->kh!->nH!->n6!->IN!,HD?,by have#[#[q,G],hi]:=lV! A9! g.toNat (a2! k3!),
ys!,∀v H',T1!->Q' v H',yt!,z! fs.lookup f v,yu!,Jo3 (Z g) (Z g),hR!,(A8 Mc J5! T.len CT (DA! SC)),
hS!,b∈Da l1\/b∈Da l2,hT!,j_ G tb sh H_,hU!,Tx! (u=1) 5 3,
D7?,(by (have:q=(FX!,a,[]):=by simpa using hq);rw[this] at ht;cases ht),D8?,by show ZR (DE h1 h3 Z ?_),
hV!,bm! (F2 (Fl hu EQ Aa!)) Z,hW!,Gp! DW l Bj! A2!,hX!,QB2 RR H0 dv,
D9?,by show#[_,A!,t,_,3,AM! g,A!,A!,Mg!,A!,?_],hY!,[.n h,.t a.1 a.2,.t b.1 b.2],
hZ!,Lp! OZ.toNat (q,Gp G tb ET! Z),EA?,by have#[a,b,e,ea,eb]:=h;show#[_,e,ML! A! (Tm! #[a,A!,ea] #[b,A!,eb])],
ha!,h.Ns1 dx mA,hb!,Lv f0 w0,hc!,x.there hl Z hi Z,hd!,∀j,dd=.ask j->j<m,he!,∀b xs,S3! PM!->Z6! PM!,
hf!,(JM! { cls:=B5! Xt!,data:=Rn! #[ZZZ,UK! lo,PP hi u,PP 1 v] }).objs.size,hh!,vs=[Cc!,Gh!,va,vb],
hi!,λi h h' st k=>st.at λo e=>k it Ix o e,hj!,∀i x σ H,PP!->aA!->oH! x,hk!,λw hw=>h w (Ec! hw),
EB?,by have f:lK! Ee! Z (EY! Z (.dK (Hs! l))):=λb o e h=>l2! (Ae h),EC?,by have c:AW!:=CY.mp (NU.mp QCB),
ED?,by have#[W4,VZ]:=W3.MB S4 f_,EF?,by have#[W3,cn]:=W2.MB S3 WO,EG?,by have c_:=Ol! W2 cn,
EH?,by have kt:=Ol! Cb! wf,EI?,by have#[ad,fd]:=s.ok.find ha hh,EJ?,by have i:n4!:=#[g0,hi],
hm!,{ W with c:=MK!,ls:=OU!++L,G_:=Lx!,IF:=W.IF },hn!,(Gi hand BS!),hp!,storedH_new (atKey_none_of_get no),
hq!,by rw[typeLookup_type,YT];kernel_rfl,hs!,VF H m y,ht!,{ cls:=GM,data:=Rn! ps },hu!,O7! y1 y2 x.ys,
hv!,knd.keeps Z g dat lx!,hw!,#[0,0,0,0],hx!,PL! kZ! O2 Hv! Z Z,
EK?,by show#[_,A!,p,C,Z,_,_,A!,Z,w!,Z,Z,Z,_,Z,A!,Z Z,PE! Z,Z,Z,Z],
hy!,W.findIn K (UV C) "__setattr__"=D! (AC! (GE! "object.__setattr__")),
hz!,KW! (λ(kv:Key×V) (r:Int×Int×HS)=>∃a,kv=(BI! AT,MQ!)/\QCG) ss fi,
EL?,by show C4 #[_,A!,p,CD,dx,_,_,A!,hp,Sx!,TK.nW,D7,R1? pw RP RO Ff! r TT!],
h0!,[II!,bn Str.empty,bn Str.empty],h2!,(Xn m g ts),h3!,Wt l.kind G sB l.x G',h4!,T! (W.codeIn K ER qual),
h6!,#[o,g1,g2,g3],h8!,GQ 4 Iw Kc nA! Z,h9!,Tc! UN H bs os,iA!,(Ex m g n u),
EM?,by have#[t,q]:=(show Z from rx);cases q;show Po! Z YL!,EN?,by have:=Cc A4! (UV d1) QAw,
iB!,(ls++[#[BM!,AN!,g,b,JzW]]),iC!,(ls++[#[H1!,AN!,b.1,b,g]]),
iD!,Gf! (model Da! w) A (Builtin.«list.sort» QAs) P E s,
EO?,by show FQ? W.c FJ! W2.po z3 (λt H3 ht et S3 WO=>?_),
EP?,by show ZR (DE ho hd (x:=PP i 0) A! (ZR (JT zA zG ?_))),
iE!,IL.mpr (Al! (by have#[i,_,e]:=ZN hz;rw[<-e];rfl)),EQ?,by change Str.length Z<=10;show u?,
iF!,V->CJ!->CJ!->lM! VK,iG!,QB3 (∃a,BX!/\IsD H1 a/\oA! Z),iH!,e=x\/AY! e bn!,
ER?,by .rw[AD c,AD (FA! (¬b=t) (Tk! c))];lia,iI!,{ cls:=mV! Hl!,data:=Data.fields vn },
ES?,by rw[AF (show Av! (Pw! T != Value.none) by simp)],ET?,by show Ch? hx (h! #[Z,A!,Dj Z,nx _ A!]),
EU?,(by show FT?;show d? Z;have#[p,h,va,vb,W,rfl,S,k]:=h;show A?;show P?;show B?;show Z? (Ag (Cg (mc! nN! w! Dp! G1 CY! (bj! AF!))));show#[o?,dx,_,A!,hp,Ff!,_,A!,p,h,W,A!,S,?_];obtain k|⟨q,G,i,k⟩:=k),
iK!,G0! H4 x ([]++[A2! (CG!)]),EV?,by have S1:ln! G.h (C3 (C7 Bk! tb)) UI!:=S.RV (C7 Bk! tb),
EW?,by have#[σ5,H5,J5,q5]:=q;show Pc (Sq J5 J4.ok) hN hi hn λs6 J6=>#[_,H5,J6,q5],iL!,An N ps scope,
iM!,As Az SC Ai,iN!,Jtl Z W.c h L Z,iO!,∀a b,G5!->BW!->oF! Z,
iP!,(X9! JB (Ny! Z o0)).all (λx=>! BK!)&&(backToKw JB (keywordEach [] o0)).all (λx=>x.1.isSome),
iQ!,Z (H':=oD! Z Z) Z #[_,Ab] (Bg! #[o,Ah Z b o e]),
iR!,{ s3 with heap:=lw! s3.heap.push "slice" (#[ZZZ,vl,vu,GM]) },iS!,∀l,Pb!->S5! l (EY! l Z),
EX?,by have#[g1,g2,g3]:=Wk S ha RG,iT!,{ W with c:=MK!,ls:=OU!++L,G_:=Lx!,IF:=W.IF++[(y.n,xf)] },
iU!,(n,kd,s,g),iV!,W.specialIn K (GE! "object.__class__") "__get__"=D! QB1,iW!,EA.map qd=VS.map qd,
iX!,(h.lt (AE KD! hn)),iY!,W.takesIn K (GE! "object.__class__")=D! AC,EZ?,by show Rq? MJ JJ MJ JJ,
iZ!,(iO (M0 YC P w K mg Bf! N qual scope f ER A EK! s H E0) ex),
Ea?,by have S1:ln! v6 (Et (Ck ii tb (Z))) { G with AK:=Ck ii tb (Z) }:=S.OI _,Eb?,by .rw[e];show#[ZV,ZV,ZV,ZV],
Ec?,by show Bm? (JzQ w! Jn! G2 GU!) Z,Ed?,by show#[ll,Z,A!,el,Fj! Z,Oo Z,QBx D0!],ia!,Jzo p W io I,
Ee?,by have iw:MO V bv q G:=#[DI!,U! CL hq],
Ef?,by have#[a,b,ex,ea,eb]:=id aE;show OU Z ex;show(run _ _ (λv dv W' D' al' EA H' tl ef OT fr fp eh=>lv! (Bp! (AH! v dv W' D' AL! EA H' t tl ef OT fr fp eh ht))) (λcls i xf ef=>#[AD!,Ao! xf.sub,λex hx=>Bp! #[AD!,i,A!,Ab,xf,λH4 s4=>lL! (λt5 h5=>Bp! (XD i H4 t5 ef (Af (Ah hx) s4) h5))]])) a b ea eb,
ib!,typeLookup (Cu! N2!) (R5! Z)=Hc! SB,if!,(Jkl (v:=.ty Z) J5! Z Z A!),ig!,s.heap.IsSliceOf sl vl vu GM,
ij!,∀b∈ch,(b∈X.ex\/X.JM.heap.objs.size<=b)/\X0!/\(QB5)/\m1! (y!≠b),
Eg?,(by have zI:b'≠x:=λz=>by rw[z] at e' LK;rw[JI x o' e' LK] at hx;cases hx),il!,Wn (lo:=Z) (n:=Z) Z Z ?_ ?_,
Eh?,by have#[_,_,_,_,e]:=ee j q G hj,im!,UQ kind_sorted plain_sorted entry_sorted (args_sorted1 _) (Z),
Ei?,by show l! ?_;rw[es];show Bl?;(.show IS!);.show Cg?,in!,HN λa b=>lU! x [bn Z,Gh!,BQ!,Dv!]/\G5!/\BW!,
Ej?,by show ZS #[_,A!,FS Hn!,_,Z,A!,Z],io!,∀t,GS m b S1 t->Z,Ek?,by have#[GF,H',I,q]:=h;show#[GF,H',I.OE,q],
iq!,(CG (AU e) (I.ok.pk x c hfn hc)),El?,by (have e5:IU L=IU (So! xL)++IU (L.drop xL):=UJ! ZF HF),
Em?,by show#[v? q,MJ,_,A!,kK,Di _ ZV,_,A!,q,b,_,tb,A!,S1,Py! hb,_,A!,?_],ir!,∀f,UO (fs.lookup f) (mA f),
is!,∃kvs,J2n P w K FA GE/\Tc! Jpo K FT GE,it!,Zs! gLs hr9 g.pP.mg g.pP.fn.kp g.pP.bd (lh! Z),
En?,by show Ma I1 ea c hm l ?_,Eo?,by have#[a,b,h1,h2,h3]:=h;show#[a,b,TK! h1,TK! h2,TK! h3],
Ep?,by have#[u',r',q]:=hl j y v' e1 e2 e3,iu!,ZipApart z TI TO i1 i2 l1 l2,
Eq?,by .show A5?;show x! #[q,G,i,q,HX,_,A!,hq,DJ!,_,A!,_,A!,k],Er?,by show λa b _ _=>#[p,_,_,_,W,A!,Cb!,QCH],
Es?,by show#[PK!,λc=>bb Z c,λc=>bb Z c];have#[_,_,_,rfl,rfl,#[a,rfl,ea],#[b,rfl,eb]]:=pr3 pa;show Z p pw r a b V h A! S1 er (Gy (dd:=Z h ta tb) g x1 hn hB hd m4 cB (λv dv W' D' al' EA H2 tl ef wi fr fp eh=>?_) bad a b ea eb);show A8?;cases tx;show kq _ Kc!,
y2!,List.mem_filterMap.mpr Z,y3!,Classical.byContradiction Z,y5!,Z λb hb o eb=>Z b o eb (off b hb),
y6!,Z λr=>((BI! AT:Key),AM! Z),y7!,Z (Ak! (Fa! ht)),y8!,(YE!),y9!,(IJ!),zA!,(MH!),zB!,(md!),zC!,(QA6),
zD!,(QBM),zE!,(QEJ),zF!,(QEU),zG!,(λi v=>∃e,es[i]?=D! e/\v=e.key),
zH!,(W.fnOf E9! qual params body scope dV kV doc pm an ER ct),zI!,(s.heap.objs.size+4),
zJ!,(QFn Z Z tt Z Z Z Z Z Z Pf! UZ! Pg! Z Z),
zK!,(Lx (Z:=Z) (Z:=Z) (AJ!:=Z) Z A! A! A! A! Z A! ZV A! ZV A! Z Z Z ZV Z Z),zQ!,T! (Ti! AT! x AT! y),
HJ?,by have#[#[a1,a2,a3,a4,a5,a6],#[b1,b2,b3,b4,b5],#[c1,c2,c3,c4],#[d1,d2,d3],#[g1,g2]]:=x.sS,zS!,QC1 Z=Z,
zT!,QEK=Z,zU!,A0! (QFA Z Z),zV!,λq=>DL G H!,zW!,λq=>hb (by simp[q]),
HK?,(by obtain⟨j,u,rfl,rfl⟩|⟨y,u,rfl,rfl⟩:=D2 hv),zY!,u=Value.type n,zZ!,Be! Et! Z Z,za!,items[i]?=none,
zb!,pH!=none,zc!,(AR! as.length)[j]?=none,zd!,s.ok.fresh.2.1,ze!,(Jc! q hq).2,zf!,o.data=Rn! vs,
zg!,(x::y0::TB!).Nodup,zh!,(x::y0::y1::y2::y3::TB!).Nodup,zi!,h5! 1000,zj!,∃o,Mb!,zk!,∃o,ov!,
HM?,by change J9! (bW!).map,HN?,(by by_cases hb:P7!),HO?,by rw[List.getElem?_set] at e,zl!,λb u q=>ZT _ q,
zm!,¬pp!,zn!,¬QD2 Z,zo!,λo=>jp Z Z,zp!,X.A.frames=D! Z,zq!,X.stack=ih!,HP?,by have#[v,o,ho,hd]:=pO!,
zs!,∀b∈[z,TI,TO,i1,i2],Z,zt!,λz=>nl! Z,zu!,λz=>hb (by simp[z]),zx!,∀(AB:Ch)(s:Shared)(σ:St)(H:Hp)(Q:VK),Z,
zy!,∀(AB:Ch)(s:Shared)(σ:St)(H:Hp)(Q:Z),Z,zz!,λ_ H Q=>az! Z,z0!,λi j=>g! UC!,
HQ?,by have e1:acc.toList=Bd! Db!:=Z,z1!,(yE X AB E).Ok,z2!,Nz! (FW! Z (λx H1=>Z)),z3!,[aO!],z4!,[.t bv lc],
z5!,YF! (Md X AB H b),z6!,λo e=>KM k JzR e,z7!,λo e=>KM kp JzR e,z8!,(a:Int).toNat,z9!,Z∈PB!,
JAA,(Jol (S2! Z) ls).isEmpty,HR?,by have#[its,r,pl,hz]:=GA! hq,HS?,by have#[its,r,pl,hz]:=JI! hq,
JAB,EJ! (kvs.length+more.length),JAC,xs=[IM!,g! j],JAD,i.natAbs.log2<1920,
JAE,{ s with heap:=h',toks:=s.toks+knd.draws k },JAF,N3! (lw! JM! Z Z),HT?,by have#[mA,O,r,_,_,_]:=TU! Jau,
JAG,fs.length<1000,JAH,QFh::outer,JAI,∀y∈Z,y.length<=100,JAJ,λh' r9 hs=>h _ ?_,JAK,s'=JKz,
JAL,(Prod.mk.inj Z).2.symm,JAM,([AV!,A7!]:q!).take,JAN,λm=>xs[i+m]?,HV?,by have#[h1,h2,h3,h4]:=wv t ht,
HW?,by have#[its,r',pl,hz]:=JI! hq,JAO,its.toArray.size-1,JAP,(x.ok.mono (DX n)).holds,JAQ,FC.gens=Dc!,
JAR,λv _=>v=oj!,JAS,(QEz Z).t_,JAT,λvs H Q E z=>(h vs H Q E z).1,JAW,∀u,Z->∃as,Reads Z u d as,
JAX,λh=>Classical.choose (zZ h),JAY,∀d∈ds,QBZ 20,JAZ,(Db f).sum,JAa,ty="str_ascii_iterator",
JAb,ty="str_iterator",JAc,Kj!×Bool,JAd,if ad then D! Z else none,JAe,z.cps.toList≠[],JAf,a.cps.toList++[c],
JAg,a.cps.toList++c::b.cps.toList,JAh,∀p∈ps,c∉p.cps.toList,JAi,z.cps.toList.head?=D! 48,JAj,32∉v.cps.toList,
HX?,by have#[n,rfl]:=Int.eq_ofNat_of_zero_le Z,JAk,(σ[AQ!]?).join,JAl,JU! (Z8! hb),JAm,ws'++O4!,
HY?,by have fresh:=I2.EK.fresh (ZG _),HZ?,by show C? (bi (EL! Z (l! s) (FU! FQ!)).length=I.m),JAp,nQ!=m,
JAs,λp pp po h2 c kp2 e=>oe!,JAt,∀q∈l,k q≠t,JBQ,∀q∈l,0<=Rs,JBv,SG! (H!≠FX!),
JBw,{ G with holds:=G.holds++[(t,a,[])] },Ha?,by have#[v1,r1,rfl,l1]:=D6 l0,
Hb?,by have#[z,lo,ys,rel,o,es,ep,g1,g2,g3,g4,g5]:=nx! Z hd,Hc?,by have#[_,o',e',hn]:=hl.mem m,JBx,∀b∈fr,cF!,
JBy,∀b∈fr,¬g b,JBz,λb o q _ n=>?_,JB0,[k0,k1,k2,k3,D! Z,k5],JB1,λh1 q1 b1=>?_,
JB2,λ{a b} (h:LB a b) (z:a=b)=>by rw[Gc,z] at h;lia,JB3,λj a q e1 e2=>?_,JB4,λa ha=>Fa! ha,JB5,OS! (l∈QL),
JB6,OS! (PF Z sB),JB7,∀l∈l1,¬Pa!,JB8,∀ob u,o≠.IV ob u,JB9,λy hy z hz e=>?_,JCA,∀t∈l,QD1,JCB,∀q∈G.AK,H!≠FX!,
JCD,{ G with AK:=Pv! ii },JCE,∀x∈xs,0<=x,JCF,∀(more xs:Ii!),Z,JCG,ys=QEl,JCH,kL! (mr! (wt-Lf wt)),
JCI,kvs.length-xL,JCJ,t∉Jf! i,JCK,show M.hand=G.hand from x.hand,JCL,Ak! (Jsh ht).elim,JCM,Ak! (QDH ht),
JCN,Y1! (cC!/\cD!),Hd?,by have#[q1,q2,q3]:=hl i ys H2 hi pv,He?,by have sz:sizeLine=16777216:=CZ,
JCO,ns.length<=63,JCP,ns.length<=5000,JCQ,λ_ _=>DQ!,JCR,{ G1 with BG:=G1.BG+1 },JCS,{ G with hand:=cj! },
JCT,λb' o e h1 h2=>?_,Hf?,by generalize EY! G.h (C3 (C7 Bk! tb))=H1 at S1 ON b1,JCU,(UI!:CU).BX,
JCW,λH2 a t Q' sm ha ht q=>?_,JCX,λet i σ H2 _ h=>let#[_,_,_,fr]:=h;Z,JCY,(Ay G (Jf! i)).AK.map,
JCZ,λH9 S9 fr9=>?_,JCa,G'=Gp G sB sh Z,JCb,H0! Jr!,Hh?,by have s0:=QDV,JCc,λi ys H2 _ h=>by rw[pi];show#[Z,Ab],
Hi?,by have hq:q∈a7!:=hq,JCd,l.kind=BM!,JCe,∀l∈QL,oJ! Z,JCg,λt ht ne=>?_,JCh,λX y=>QBg y.next Z Z Z,
Hj?,(by obtain⟨e1,e2⟩|h:=La hr),JCi,∀(H_:Bool)(more:cr),Z,JCj,λj hj bj=>?_,JCk,λk=>pI!,
Hk?,(by obtain⟨e1,e2,_⟩|⟨_,e⟩:=F8 e),JCl,al++Hr! .w,JCm,al++cY! 1,JCn,s∉nS!,JCo,QAo≠m,JCp,nQ!≠m,
JCq,W.G_.length<=900,JCr,λb ob e n=>JzT Z Z,JCs,λb ob e n=>QDE,JCt,I.fs.length<=500,JCu,I.ss.length<=500,
Hl?,by generalize FY! H Z .dK Z=H1 at JA s1 c1 f1 k1,JCv,I.cs.length<=500,JCw,∀e∈W.IF,e.1≠n,
JCx,{ W with IF:=UF! },JCy,λH2 xq RF=>?_,JCz,ky! QEP,JC0,∀y∈ys,∀b∈Ej y,Z,
JC1,{ x with wa:=Z,lw:=Z,at_:=GF! ((Ss! y hy).keep (Z) Z) },JC2,{ W with qs:=ch!,c:=c,ls:=Ls },
JC3,W'.qs=Lp! h.toNat (q,Z),JC4,c=W.c+bi L.length,JC5,hs.length<=60,Hm?,by have kU:k5!:=x.wg.wl.len,
Hn?,(by obtain rfl|⟨h,h2⟩:=HG! mid),JC7,W'.IF=UF!,JC8,λr:Int×Int×HS=>AT,JC9,λne v H2 W2 at2 RF vP=>?_,
JDA,λr:Int×Int=>AT,JDB,λj q G hj t ht=>?_,JDC,tb∉FD AK! ta,Ho?,by have pH:Z:=px! Z pL,JDD,∀y∈ws,y.length<=100,
JDE,y.length<=1000,JDF,ws.length<=5000,Hp?,by have#[b,x1,x2,x3,rfl,sb,_,r2,_]:=Jp8 rep,JDG,[Z,Ks!,u1,u2,u3],
Hq?,by have#[r,J']:=cJ! os (hl▸zi),JDH,∃y,QAQ ls=D! ad!,JDI,(x.wg.wl.ok _ hl).kd,JDJ,∀c∈cs,∃t,UH t/\Z,
JDK,∀t∈hs,UH t,JDL,λb h1 h2=>?_,JDM,os.length<=60,JDN,λj v t H5 QQ hj ht s5 qq=>?_,
JDO,(Z λb hb o eb=>cn b o eb (off b hb)),Hr?,by show Gt! (Builtin.Tuple.tupleExact _) Z,
Hs?,by show QEI WO s2 JI,JDP,D! (Rw! (.Name y py) o0),JDS,by simpa using hs,JDT,by simp[De,CM,e],
JDU,by simp[PyData.canLayAll0],JDV,by simp[PyData.depthAll],JDW,by grind [A3,V],JDX,by simp at h1,
JDY,by simp at h2,JDZ,by simp[PyData.depth],JDa,Z (λi=>L.getD i ((0,0),0)),JDc,z! Z JPm Z,
JDd,by have#[od,J,hl]:=I.look;show Z,JDe,by show Hx?;show Z,JDf,UV UF,JDg,(by assumption),
JDh,(by simpa using h1),JDi,(by simpa using h2),JDj,(by simpa using ra),JDk,(by show AQ?),JDl,(by simp[M0]),
JDm,(by rw[HZ! bk.OY]),JDo,#[QA1 Z,Z],JDp,#[Z,λt H1 W1 l1 JI=>?_],JDr,bi ns.length,JDu,FS h'.objs.size,
JDv,CQ! (Str×Tok),JDw,CQ! (Key×Value),JDx,CQ! (q!×Int),JDy,U! List.length_set Z,JDz,U! C6! Z,JD0,U! Z (Fh! Z),
JD1,U! Z (Z x _ _),JD5,AY! Z (WP (Z A2!)),JD7,Option.bind_eq_some_iff.mp h,JD8,QAH h,JD9,DA! FM,JEA,DA! Br!,
JEC,(hr.deeper _),JED,(AR! Z).map _,JEE,P! Z (o! Es! e),JEG,ww ON!,JEH,ww ps.map,JEI,ww Om!,JEJ,ww (bW!).map,
JEK,(hf b hb).2.1,JEL,fb.2.2.2.2.2.2.1,JEM,(QFJ).2.1,JEN,(XV QBd),JER,S1! (lay H ps) Z,JES,h! #[A!,A!,A!,A!,Z],
JEU,(hf b hb).2.2.2.1,JEV,Z (by simpa using hi),JEX,(Z/\QEC Z),JEY,o! Z (CI! Dw!),JEZ,bn #[#[ZZZ,c]],
JEa,x! (mp! Z),JEb,by rw[Z];split<;>lia,JEc,H6! (sI h H).get?,JEd,#[_,ah!],JEe,#[_,mZ!],JEf,EZ! U8!,
JEg,EZ! (k q=t),JEi,S3! PM!,JEj,S3! (JD! a),JEk,S3! (XV zs),JEm,AE! e2 Z,JEo,Bo! (.Compare a [op] [b] AG!) Z,
JEp,jp pM Z,JEq,jp Z n,JEr,jp Z hd,JEt,X.A.units+1+1,JEu,AZ! FH! Z,JEz,Zc! CJ!,JE0,(WP [l3!,v]),JE1,AF DQ!,
JE2,CF! Z (XV oM!),JE3,Av (i:=Z) Z A! (OG! A!) Z,JE5,Zd! (qs[l.g.toNat]?),JE6,Zd! (W.qs[j]?),
JE7,Zd! (W.qs[l.g.toNat]?),JE8,Zd! (W.qs[d.at]?),JE9,Zd! (qs[l.th.1.toNat]?),JFA,S4! Z lp!,
JFB,S4! Z (S8! CP (Gm (c+1) d)),JFC,H7! PySem.Fin,JFD,H7! Kj!,JFE,Ap! Z PT! Z,JFF,Ap! Z PY! Z,JFG,S5! Z CU!,
JFH,J6! IZ!,JFI,L3! Br!,JFJ,L3! (pv 12),JFL,Dt! b,JFM,Dt! ws,JFN,Dt! sl,JFO,Dt! WF,JFP,Z! GL! Z Z,
JFQ,Z! "state" Z Z,JFR,Z! "give_back" Z Z,JFS,Z! "letters" Z Z,JFT,xz Heap.SameBut.refl,JFV,Ze! Ah! Z,
JFW,Ze! Do! Z,JFX,Ze! ZG! Z,JFY,J9! G'.AL.map,JFa,Ce! Tu!,JFb,Ce! (WP (k.map kV)),
Hw?,[U?,FO? CW Z Z wE Z Z Z Z],JFc,Cf! (n+1),JFd,Cf! (KI n n hi),JFe,Eb! (Fa! ht),JFf,(.dK (E6 GE k)),
JFg,Int.add_comm _ _,JFh,AA! t1,JFi,Z (oz! Cc!) H Q E,JFj,WI Z p W D m n d A B al ys,JFl,by have:=r.dp;lia,
JFm,by have:=r.un;lia,JFn,by rw[Gc] at *;lia,JFo,by rw[Gc] at h1 h2;lia,JFp,(Ac Z (Ac (QCy Z Z) Z)),
JFq,(BI! AT:Key),JFr,DD! (y.length==0),JFt,CH! ps.map,JFu,CH! OV!,JFv,CH! G.AL.map,JFw,CH! W.G_.map,
JFx,CH! (Z Z).map,JFy,CH! (EV! L).map,JF0,Gj! Z Z Z (QEh Z),JF1,AD (QEM),JF2,Cs! Aw xs Z j Z v!,JF3,Zh! QC9,
JF4,Ed! ZE,JF5,TC! l,JF6,E6! (MJ!->Z->Z),JF7,E6! (Z->IC!->Z),JF8,TD! AF! Z Z,JGA,Q (AI! (Rj! (Z))) H',
JGC,(mx! Z)->Z,JGD,((Z QN!).map Z).getD 0,JGE,S6! Z w! Z Z Z Z Ci (DA! Z),
JGF,M_ λ(o:Obj)(its:Array Value)(n:Nat)=>Z,JGG,M_ λi GF H'=>Z/\tn i Z/\QDg/\Z,JGH,Eg! (KF! ht),
JGI,fb.2.2.2.2.2.2.2.1,JGJ,IB! n,JGK,IB! b,JGL,IB! c,JGM,IB! i,JGN,IB! m,JGO,(qs.set i (q,cO!)),
JGP,(qs.set i (q,Mz G b 0)),JGQ,Eh! (KM! Z Z Z),JGR,Eh! (Z Z Z Z v),JGS,Zn! BQ!,JGT,Zn! Dv!,JGU,KC! ay!,
JGV,KC! (C3 l),JGW,by show N?;show Z Z,JGX,(AC! (.ref io)),JGY,AV CW C CP H' p W,
JGZ,W.findIn K (UV CP) Z=D! SB,JGa,(by show Jlp ey A! A!),JGb,Zr! Xt!,JGc,Zr! "max",JGd,Zr! LW!,JGe,Zr! N2!,
JGf,Zr! "isinstance",JGg,z! y4! Z .local,JGh,(AC! (GE! "object.__class__")),JGi,Fh! lo,JGj,Fh! z3,JGk,Zt! OD,
JGl,Zt! NL,JGm,Zt! NI,JGn,pm.nodup_iff.mp nd,H2?,by .have#[o',e1]:=QBA hx;show Z,JGo,λq=>(H!,An! WF),
JGp,lS! yz,JGq,Ej! W.handedIn Z,JGr,A2! (Pt!),JGs,lU! Bi! Z,H3?,by rw[Ae λe'=>JzP h2 e'],JGt,Zv! [x,y],
JGu,IH! I.ok.WE,JGv,∀b,BW!->Z,JGw,(Bd! Cz!),H4?,by show#[hl i ys H2 hi pv,?_],JGy,(JE! (JE! hz).1).1,
JGz,Zx! (Df G),JG0,Zx! (A3 f y fs),JG1,(Db nK!),JG2,(Nat.add_le_add_right Z _),JG3,TR! Z K8,
H5?,by show Ah? (JyP 4 Z Z) Z,JG4,(SZ (h! (Z b hb))),H6?,by .show SK? Z,JG5,by unfold FD;rw[Z];rfl,
JG6,by unfold DL;rw[Z];rfl,H7?,by show Bf? (Hc! Z),JG7,Z0! Z hi,JG8,Z0! Z rT,JHB,TS! pi Z,JHC,IL! lO! Z,
JHD,Fe!-MB!,JHE,xs[j]?=D! v,JHF,Z2! e,JHG,lZ! HF!,H8?,by show d? RY,JHH,Tells G hs os rs,JHI,ww (Ck l t v).map,
JHJ,ww (A3 f v fs).map,JHK,ww (EV! (IU L)).map,JHL,Z4! cl.lookup,H9?,by have#[_,_,_,_,o,_,_,e,_]:=x;show#[_,e],
IA?,by have#[a,b,e,_]:=h;show#[_,e],IB?,by have#[a,e,_]:=h;show#[_,e],IC?,by have#[#[a,e,_],_]:=h;show#[_,e],
ID?,by have#[a,as,e,_]:=h;show#[_,e],JHM,JyX hn,JHN,TW! JTl Z,
JHO,S1! H' { s with heap:=h',gens:=g',drawn:=d',toks:=t' },JHP,(Se! i).map,JHQ,(WP (cs.map Cz!)),
JHR,z! sc.names.lookup y2 .local,JHS,z! sc.names.lookup y1 .local,JHT,z! sc.names.lookup y3 .local,
JHV,X7! (ZG _),JHW,IQ! Z MW!,JHX,PN! #[Z,ne!,Z],JHY,(Xs! (Cs P w)).is h Z Z,JHZ,Fn! Oi! Z Z,
JHa,S1! (EY! Z o) Z,JHb,Td! { W with c:=Z,ls:=On! },JHc,lJ! t (λx H1=>Z),JHd,lJ! to (λx H1=>Z),JHe,A5!++Hr! .w,
IF?,by show C4 #[SQ? Z Z Z Z],JHf,DD! (x==("__classdict__":Ag!)),JHg,Zg! Og! n,JHh,Z9! h,JHi,Fs! Z Db,
JHj,le! Z Z o,JHk,AV CW CH CP H' p W,JHl,Gf! (model EI! X.w) X.A Z Z E Z,JHm,∀H',TD->Q Z H',JHn,∀H',TD->ng! Z,
JHo,KQ { G with holds:=LN AK! ta Z },JHp,(bi (EL! Z (l! s) (FU! FQ!)).length=I.m->Z),
JHq,(!(if Z then some nr! else none).isSome)=Z,JHr,by show AU? Z;show AQ?,JHs,by have:=FL e;show AQ?,
JHt,JzE (AC! (.ref UF)),JHu,aE! (QET Z),JHv,aE! (S6! Aa! Ge! Z (Z g) Z Z Ci Z),JHw,li! nd.1 Z,
JHx,S6! SC wE Z Z Z Z A9 Z,JHy,lj! (ZZ! k) Z,JHz,(.ListComp elt [#[tg,iter,ifs,0]] sc AG!),JH1,aJ! SS! Z,
JH4,PV! aw,JH5,ln! Ab! Z Z,JH6,ln! Z (Et l) Z,JH7,ln! Z (C3 l) Z,JH8,JzH Dj!,JH9,lq! EQ Z Z,JIA,Tp! Z BD!,
JID,∀b∈Z,b∈Gv!\/BU!,JIE,λu=>KB (u≠t),JIF,λu=>KB (u∈QCn),JIG,(Builtin.List.listExtendWith (UV Z) Z Z),
JIH,lu! hz,JIJ,Tr! ey,JIK,(WP (R3! kV)),IL?,by show#[_,(show KS! _ from x)],JIM,Av! (Db! l==Value.none),
JIN,Ok (FX.keepR G R) n,JIP,lU! x [FS y1,FS y2,FS y3],IM?,by show Bh? Z Z (Zz! 3 Z Z Z Z),JIQ,Ck ii tb (o-wt),
JIR,Ck ii tb (oN!),JIS,JzI AT,JIT,Nw W W' FJ! nd!,JIU,JzK Z (EP X AB σ Q) Z,JIV,H!∉([]:F!),JIW,H!∉ww Ok!,
JIX,l1! Tw! Z,JIY,Tv! Z Do! Z,IN?,by show Z? (Ac (Eo SC Z A!) Z),IO?,by show Z? (Ac Z (IQ! Z (Ao (Ce Z)))),
JIa,Gs! e Jpr,IP?,by show l! (IN #[r,hr,ht]),JJw,YW! us ns,JJx,YW! items.toList ns,JJy,aZ! 3,
JJz,aZ! 2147483629,JJ0,fb.2.2.2.2.2.2.2.2,JJ1,Ty! (c≠a),JJ2,ab! Z (KF! z),
JJ3,BC (λr:T2×Int×List T2=>! Gn! Dz! Z) Z,JJ4,ET 2 Z Z lO! Z,JJ5,JzV MJ! Z,JJ6,(.dK (Hs! (Lx!))),
JJ7,(Ok! (·.1)).take j,JJ8,(TZ dd).take j,JJ9,HI! v,JKA,ak! A!,JKB,ak! r10,JKC,X8! a Tk h',
JKD,∀p,af! p->S5! p Z,JKE,Ma! lO! Z,JKF,(rel.val k).getD A!,JKG,(λh=>W!),JKH,AT=IZ!,JKI,AT=QA9,
IQ?,by have#[its,rv,p,hz]:=JI! hq,IR?,by have#[its,rv,p,hz]:=I1.tuple hq,JKJ,mJ! Z ob,
JKK,UB! { W with c:=TH! i,ls:=On! },JKL,Ij! f,JKM,PF! SY.get? c,IS?,by show FP? (Builtin.Dict.showsAll d),
JKN,E6! (Ee!->Z->Z->Mb!),JKO,mN! 6 Z Z Z,JKP,Md! (g! UC!),JKQ,UD! (QCd Z Z),JKR,UD! { G with BG:=Fb!,hand:=Z },
JKS,mC! Z (Ur!) se,JKT,mR! h.Ns,JKU,(A8 Jpi J5! g.T.WM DA Z),JKW,AllBare s.gens,JKX,(YF! (mz! H')),
JKY,JB!->Sem JB!,JKZ,A0! (ww (X9! JB (Ny! Z o0)).any),JKa,fb.2.2.2.2.2.1,JKb,(hf b hb).2.2.2.2.1,JKc,QAB f3,
JKd,A.units+64<cLine,JKe,X.N[i]?=D! y,JKf,ys[i]?=D! y,JKg,mY! Cz!,IT?,by have#[_,_,_,_,o,_,_,e,_]:=x;show Bv!,
JKh,U! (Ae (hm b _ q Xy!)) q,JKi,Bo! (ly! (N4! o m apos) Z) Z,JKj,(as.getD i 0),JKk,GQ 3 Z Z IA! (Z),
JKl,Gp! HC KP! Z Z,JKm,lM! (Bu!),JKn,Zq! Z (g! BV!),JKo,Fi! (S8! CI Z),JKp,mf! (H6! Nv!),JKq,Ka! A5! 2,
JKr,ax! (Z x) Z,JKs,E AD! SB H',JKt,az! (WP Z),JKu,JyY PE (x::y0::TB!) elt te,
JKv,JyY PE (x::y0::y1::y2::y3::TB!) elt te,JKw,JyY i7 (x::y0::TB!) ifs tt,
JKx,JyY i7 (x::y0::y1::y2::y3::TB!) ifs tt,JK0,V->oX!,JK2,∀t∈ww G.AL.map,Z,JK3,a2! q1,JK4,Mn! Z C8! Z Z,
JK5,P1! Z Z Z Z (Ag (Eo SC Z A!)),JK6,#[A!,a!,A!],JK7,mo! IN Z,JK8,mo! nw Z,JK9,mp! A!,JLA,PF! LR! d,
JLB,#[_,A!,Z,λb o e _=>e],JLC,UV! s2,JLD,UV! s3,JLE,AY! l (XV [g! x0,g! x1,g! x2,g! x3,g! x4,g! x5,g! x6]),
JLG,ms! Z ZA Z,JLH,Mp! C,JLI,mu! "len" Z,JLJ,Gf! MA! A Z (Z) E Z,JLK,Gf! MA! A Z P E Z,JLL,QAN Z 4 Z Z,
JLM,QAN Z Z QT.nd Z,IV?,by change(QEY++Bl!).length+Z<=_,JLN,al=a++LL.w l::b,JLO,al=a++Z s g n' u::b,
JLP,QAQ W.IF,JLQ,Uc! ex,JLR,KE->KE->KE,JLS,Z! x x st,JLT,#[r,h,A!,ht],JLU,Mu! C,JLV,E_ P w H h a u,JLW,my! d,
JLX,(SN b' o' e' LK),JLY,FY EI! X.w Kx X.mg LS! (ZW EI! X.w) k f fd ps sp,JLZ,bA! pi,JLa,u=LQ! b,JLb,¬H0! H1!,
JLc,¬H0! Jr!,JLd,((vT n).take i).filter,JLe,m1! (y!≠a),IW?,by have#[z,hd,vs,rel,dd]:=TU! Js3,
JLg,bF! (mk! 0=W.c),JLh,W.ls=l1++(n,t)::l2,JLi,(Bj! L2.V.int),JLj,qs[j]?=D! r,JLk,bO! (Cb Z Z A5) Z Z,
JLl,bP! QBM,JLm,Ct! xs i2!,JLn,GQ 4 Z Z Zl! Z,JLo,Lp! g.toNat H9!,JLp,GX.ND.at_ r hr,JLq,(d! H1 p (ma! QDc)),
JLr,(d! H1 p (av! HX QCe)),JLs,([nJ!]++[aO!]),IX?,by rw[Ae λz=>Z _ (DO! z q)];show q,
IY?,by show Cd? Z Z (Ac Z Z),IZ?,by show Cd? Z Z (mN! 2 Z Z Z),Ia?,by show#[_,A!,Z,JU! (jp hb Z)],
JLt,GW H a Z (De GE k),JLu,(A8 Cm J5! T.len CT (DA! FM)),JLv,nC! SC,JLw,JzB RR d Z,
Ib?,by show h? #[IP,λx H3 y=>?_],JLx,Rf (Lz! h ta tb) G Z,JLy,QAZ Z AF!,
Ic?,by show C4 #[_,A!,p,CD,dx,_,_,A!,hp,g.TK.cl,g.TK.nW,D7,pw,RP,_,A!,RO,lf!,_,A!,r,_,0,_,A!,A!,TT!,A!,k],
Id?,by show C4 #[_,A!,p,dx,_,A!,Z,Jpd ZV,_,A!,_,A!,Z],JLz,nE! .In Z,JL0,TR! (Zp! EQ) (UG! Z),
Ie?,by show#[_,A!,p,Z,dx,_,A!,Ps! Z Ab,w!,Z,Z,?_],JL1,aq! (OU!) L,JL2,bc! (QAj Z) Z,
JL3,bc! (qs.set i (q,Z G b (Z))) Z,JL4,∀i ys H2,Z->Pv i ys H2->Gr!,JL5,nI! s6 Z,If?,[_,A!,p,CW,Z,_,_,A!],
JL6,Fp p W ys W' EA H1,JL7,vo λa u v v2 v3 v4=>Z,JL8,(SR! (t≠FX!)),JL9,Ui! hq,JMA,Uj! (c==Z || c==Z) Z Z,
JMB,(I.ok.bs b o e).1,JMC,λσ H R=>FW! td (λx H1=>Z),Ih?,by have#[z,hd,xs,rel,dd]:=TU! yG,
JMD,ys++[#[MH!,io,I,[],[]]],Ii?,by show l! #[Z,_,A!,p,dx,_,A!,hp,DJ!,_,A!,p,Z,G,Z,A!,S,Z,?_],
Ij?,by have eo:=QCo;show Z,JME,AY! l Fr!,JMF,BC! DD CW!,JMG,EX! X.mg Xt!,
JMH,Z=(Z).map λr=>((BI! AT:Key),AM! Z),JMI,AE! jG! z,JMJ,(A5!++Hr! .w),JML,nZ! vl,JMM,nZ! yl,
JMN,(by show CJ Aw!),Ik?,by rw[AD e,AD (o3!)],JMO,IH X (Cu! F7!) Z,JMP,IH X (Cu! LW!) Z,JMQ,IH X (Cu! N2!) Z,
JMR,mB! [IO!],JMS,kvs[j]?=D! (k,v),JMT,Bg! (JzT Z (KH! s3)),JMU,(d! H2 r (XV [])),JMV,lR! Jja g.TR.int F' Z,
JMW,(uX (#[SR?]) ex),JMX,∀b u,TJ! EH!->TJ! Nw!,JMY,OX (RM AK!) m (Lr! G) [] R,
JMZ,(kas_bin Z Z Z).kasWp cmp G s,JMa,(ls++(Cr DE! rs).map (Li AN!)),JMb,MC p b (Db wv) H Z Z Z,
JMc,QAz (Z [FS q] H Q E),Il?,by have gd:=x.wg.wl.good (BU hn) hq,JMd,QA0 Z I.pin,
Im?,[q,G,i,q,a,b,G,ta,tb,A!,i.at Cb!,ea,eb,IN (IN #[ha,Z,ad,_,fd,Z])],
In?,by show Bi? _ (x! #[q,G,i,q,a,b,G,ta,tb,A!,i.at Cb!,ea,eb,bZ!,Z]),JMe,T6 pL!,JMf,PyData.depthAll ds,
JMg,(λt=>Jsr hr),JMh,(al++Hr! .w),JMi,QA1 5,JMj,(bE! (1<=Z)),JMk,(bE! (EJ! 2)),JMl,br! 1 Z Z,JMm,QA3 EX,
JMo,(I.pin p hp).1,JMp,Bg! #[o,Z b o e],JMq,Nz! (FW! te Z),JMr,Nz! (FW! tv Z),
JMs,∀base:F8!,FY P w K mg Bf! YC 12 Z Z nP! (Xg K),JMt,QA5 s0,Io?,by have s3:=aj! J',JMu,σ[i]?=D! (AC! v),
JMv,σ[i]?=D! (AC! (wp Z)),JMw,σ[i]?=D! (AC! (.ref x)),JMx,QE9 i i=D! as,JMy,(AR! as.length)[j]?=D! j,
JMz,seqIndex? i Z=D! j,JM0,TY (env::outer),JM1,LV (Z Ux!),JM3,bx! W!,JM4,b0! nu,JM5,x.wg.wl.ok _ hl,
Ip?,by show Cl? Z ha,JM6,mI! FH! (k q∉Z)=Z (EZ! Z),JM7,Z=Ji! (EZ! Z),JM8,Z (QAV u v v2 v3 v4) Z Z,JM9,o! z hb,
JNA,o! AO hl,JNB,((ht t).mp z).1,JNC,CF! X.mg u,JND,CF! X.mg T5!,JNE,b7! (MG! t Z),
JNF,J8! Xi (A8 Cm J5! T.len CT (DA! EQ)) Z,JNG,(Z (·.1)).length<=60,JNH,Du! AR! m Z,JNI,Du! AR! 60 Z,
JNJ,(CQ _ _ mn!).trans (ZT _ Z),JNK,(Co Ia (Jb4 hu Z Z Ai KE!) Z),JNL,(d! H1 d VE!),JNM,(d! H1 d no!),
JNN,aM!+(sh-1),JNO,KL! 3 Gg! Z,JNP,KL! 3 Zl! Z,JNQ,KL! 4 Zl! Z,JNR,KL! 4 [Bm!,"a"] Z,JNS,cL! Ot,
Iq?,by (have e:b=s1.heap.objs.size:=by simpa using hb),JNT,T! (W.keepIn K ac!),JNU,MG! v6 (Et ii),
JNV,MG! v6 (Et (Pq! Uw!)),JNW,QBG o Z,JNX,S1! (EY! d (.dT (Hf GE CV!))) Z,JNY,KM f JY! (O8! Z),
JNZ,(.ListComp elt [#[.Tuple [KA! x px,KA! y0 cx] kt pt,iter,ifs,0]] sc AG!),JNa,UA X (binaryOp .Add) Z,
JNb,QBN "dict.pop" Z,JNc,QBN "dict.get" Z,JNd,cP! (b≠p),JNe,Pm! A5! u,JNf,cR! K8,JNg,I1.VD (ZG _) I1.fresh,
JNh,QBT (Z h l1 l2).push Z,JNi,(envOfC qual scope UF f ER),Ir?,by show Co? Ab Z Z,JNj,ZQ h' it d i n ep,
JNk,ZQ Tk it d i n ep,JNl,Z [Cc!,bn v,FS r] H1 Q E,JNm,QBZ 5,JNn,ca! wpAny_pyIter_listiter,JNo,QBb E9! Z Z,
JNp,J6x λ_ _ _ _ _ _ _ q=>Z q,JNq,∀σ H,Pv YS! σ H->KR! H,JNr,cg! Z Jrz,JNs,(O6 Cv Br! Z (A4 _)),
JNt,Gf! (model Da! w) A Z (λo FC=>Z) E s,JNu,ci! (Z target Z v) Z Z,JNv,Mv p W ys W' EA H H',
JNw,Mv p W ys W' EA H H1,JNx,Mv p W ys W' EA H H2,Is?,by have#[W1,JI]:=S.step be S1 ON (SZ (h! (Z b hb))),
JNy,(.Tuple es kt pt),JNz,QBn (Z2! (.Name x AG!)),
JN0,([(a,NameKind.local),(b,NameKind.local),(c,NameKind.globalImplicit)]:aD!).lookup,JN1,QBq (Z d GE o) Z,
JN2,QBq Z (Z it a i),JN4,IL.mpr ME!,JN5,Gl! ik!/\Z,JN6,Dz!=QBU,JN7,oL! (((Z (EZ! aQ!)).map B1!)=D! 0),
JN8,YF! (mz! H1),JN9,2<=aF!,JOA,GJ! (Z u (Gq! hu)),JOC,{ G with BG:=Fb!,AL:=mr! (ja Ai! tb+wt) },
It?,by have iw:om!:=#[DI!,U! CL hq],JOE,(GE! id),JOF,z.cps.toList[i]?=D! c,JOG,(Z (·.1)).Perm (Z EG!),
JOH,oR! pi Z Z,JOI,(AR! as.length).map,JOJ,AZ! kf! i,JOK,oZ! CU!,JOL,FZ! Ir (Jo4 nd),
JOM,(ZR (DE vL hds (x:=Z) A! Z)),JON,ok! (J6! FX!),JOO,PT X (.Compare a [op] [b] AG!) (Z Z),
JOP,L9! JTl (H!=ta),JOQ,Eh! (PD! pyIter Z),JOR,(by show hl▸hi),JOS,(by show QE!),JOT,oo! y0,JOU,Fh! (AA Z N1),
JOV,CB H cs DF!,JOW,E_ EI! X.w Z h' a Z,JOX,Zz! Z Z Z (TF! Z Z A5) (KB! Z),JOY,Zz! Z Z Z (TR! Z Z) (KB! Z),
JOZ,IQ! (QAZ Z Ai) (Ao (Ce Z)),JOa,o2! (if Z then j else i),JOb,AN (Gs! e kC!),JOc,((Z).map (·.1)).Perm (rg m),
JOd,(Z++QDf Z++Z).Perm (rg m),JOe,o8! (Z\/Z),JOf,ax! Bs! F7!,JOg,ax! Bs! LZ!,JOh,DQ x5 (show Z≠0 by lia),
JOi,(Co Er (As Cd EQ Ai) (KG! Ia Z)),JOj,QAP goal goal,JOk,q.Perm (AR! Lg!),JOl,JzB RR dd dv,
Iv?,[_,A!,p,CW,dx,_,_,A!],JOm,Gp! DF Z cs.map Cz!,JOn,pM! s3 Z,JOo,∀h',pu! h' Z->ba! Z Tk->QAX,JOp,pP! h,
JOq,Pn (Lo) [] E0 UH!,JOr,AZ! kI! (λu=>KB (u∉found)),JOs,C5 (by rw[ZA];lia),JOt,D3 (by rw[ZA];lia),
JOu,G0! H2 r [],JOv,(y.YN l hl nb),JOx,GW H2 a y (AC! v),JOy,GF! (m0 y (Ec! hy)),
Iy?,by have hb:Z:=YK! h;simp only[List.lookup,hb,Z],JOz,(Ac (Cg (S6! SC Z Z Z HJ Z Ci (DA! FM))) Z),
JO0,pZ! jA!,JO1,UJ m V al ys fo q (RD i),JO2,UJ m V al ys fo q (ax z),JO3,T! (W.plainGet K C E9!),
JO4,T! (W.plainGet K C Str.empty),JO6,Bg! (kp1 b o (IH! Z) (Am e Z)),JO7,Tc! Jpo K l GE,
Iz?,by show#[Dn!,GO!,X9 M G x,Jd!,Z,Z,Lq!],JO8,(D4 (pl:=_) Z Z Dp! G1 hr CY! a! A9),JO9,py! Ts! Z Z Z,
JPA,p1! C4!,JPB,KU C H p d c ls,
JPC,lN! (comprehension Z sc o0 (firstIterPos [#[.Tuple Z kt pt,iter,ifs,0]] AG!) (newList []) IR (Z2! iter) use) RQ,
JPD,x.keep (iv! (s b o e)),JPE,ON! Hm!,JPG,OJ! (JE! Z).1,JPH,(show s.heap.IsTuple l1 CR! from p),JPI,(o5!++ls),
JPJ,QCS H',JPK,h<=1000/\bv!,JPL,h<=1000/\k<=1000,JPN,o6!=p[i],JPO,(mD! (H!,v)).1,JPP,(mD! pr!).1,
JPQ,∀b∈TY (ih!),Z,JPR,(b1.2 b hb).trans,JPS,λ_ _ _ H _ I h=>Z #[Z,H,I,A!,h],JPT,[l3!,II!],JPV,λr=>AM! r.2,
JPW,λr=>AM! Dz!,JPX,λt=>(t,E8! AC),JPY,λt=>(tk t,E8! AC),JPZ,QCZ (0<=A7!),JPa,QCb (pV!->Z),
JPb,{ G with BG:=Fb!,AK:=Ck ii tb (Z) },JPc,{ G with BG:=Fb!,AK:=pi! },I0?,by have#[g0,g1,ib,kk]:=x.ok l hl,
I1?,by have#[g0,g1,ib,kk]:=x.wl.ok l hl,I2?,by have h:t∈Pj!:=h,I3?,by have W2:UB! { W with G_:=Lx! }:=Z,
JPd,QCi l.g.toNat,I4?,by have eW:of!:=bS! Z,JPe,(p.map mv!),JPf,(KQ (YF G a)),JPg,(Em (po! Aa!)),
I5?,by show l! (by rw[put,AD d]),JPh,QCk (k<VU.length),JPi,es.toList[j]?=D! (es[j]),JPj,es[j]?=D! (es[j]),
JPk,(AN (λq=>nomatch q)),JPl,AN (FA! (¬Z) (Gs! Z Z)),JPp,h! (Ao! (KN! (1<=sh) (BL FB hs))),
JPq,h! #[r,hr,A!,ht],I6?,by have#[t,e]:=(show Z from r);subst e;show Z,JPr,EY! q PM!,JPs,EY! q QCr,
JPt,o! es (CI! Dw!),JPu,FT! Ai (A8 (Z A!) J5! Z Z Z),JPv,Ki! AV!+1,JPw,QCs u,JPx,J0s p (ak! r),JPy,Ce! (C3 hl),
JPz,QCw Z Rs,JP0,O5! Ru! o,JP1,QCz Z Z 2,JP2,Fd! (show b∈([]:S!) from z) Ix,
JP3,QC2 (λv s1 #[x,H1,I1,r1,q1]=>Z),JP4,[bz!,g! Rs],JP5,(intKind Da! w),JP6,QC4 Z Z Z Z (TD! Z Z Z),
JP7,KG! Jar (As Cd EQ Ai),JP8,(A5!++[.MN g s n' u FQ! S]),JP9,(A5!++[QE2]),JQB,QC8 h6,JQD,Cd! (de K H') xs ts,
JQE,Cd! (de K H) xs ts,JQG,QDB LX,I7?,by show R3? (Av! (Db! d==Value.none)),JQH,KL! 2 PY! Z,
JQI,AA (Xv xs lo hi) hz,JQJ,IQ! (Cg Z) MW!,JQL,∃t,u=Value.bytes b t,JQM,∃t,u=Value.float b t,JQN,lj! (GY! h) Z,
JQO,lj! (J3! h) Z,JQP,QDL QEQ,JQQ,QDN z1,JQR,(ZS (ZS (Bp! (ZS h)))),JQS,by have:=AA! x.OY;show I? DV;show this,
JQT,by have:=BC (λk=>Ti! f k c k) Z;show I? DV;show this,JQU,QDe setFlight Z,JQW,QDo S.fi,JQX,E3 A4! [.n bv],
JQY,E3 EQ! [.n bv],JQZ,I!->Tw!->Cl!->Z,I8?,by intro u e;have#[t,rfl]:=e;show#[_,Z],JQa,QDr mx,JQb,bd! te H4 Z,
JQc,∀s',Inv X AB Z H s'->Q () s',JQd,Q (Ar! (GI! ns ms)) s,JQe,XF ls lc t,
JQg,PI X (.Tuple [KA! x px,KA! y0 cx,KA! y1 uz,KA! y2 uy,KA! y3 ux] kt pt) iter wi,
JQh,PI X (.Tuple [KA! x px,KA! y0 cx] kt pt) iter wi,I9?,by show R6? (QFH Z Z ta Z),JQi,QA2 CX ER,
JQj,#[[],.refl _,ci],JQk,#[[x],.refl _,ci],JQm,QD6 E4! Z,JQn,S1! (EY! d u) s,JQo,(("hand ":Ag!)++EZ bv),
JQp,(("things ":Ag!)++EZ bv),JQq,QBV j (SE! i 0),JQr,QBX A4! [.n bv],JQs,QBX EQ! [.n bv],
JQt,QBY (DW K H2 a xs/\Gr!),JQu,QBY (DF K H2 a xs/\Gr!),JA?,by show Rw? H4 Z gI,JQx,#[_,A!,Z,_,op!,Z,Z],
JQy,0+Ih m y'+1=Z+Ih m y,JQz,pw! t k,JB?,by show SB? (h.lt Z),JQ0,FY P w K mg Bf! YC (k+1) f fd ps sp,
JQ1,FY P w K mg Bf! MV! (k+1) f fd ps sp,JQ3,Ak! (by show q?;show ht),JQ4,Ak! (by show q?;show h! ht),
JQ5,∀(j:Nat) q G,nV!->A0! (b j)->Z,JQ6,∀(j:Nat) q G,nV!->AT=lc->Z,JQ7,QEj (Z h ta tb G ha c2 hb),
JQ8,O7! eq eq2 x.qs,JQ9,O7! eq eq2 (Jw2 x.qs _ Z),JD?,(by (.have z:AY! Z (.IV o v):=z;rw[Z] at z;cases z)),
JRA,QEy Z Z TX Z,JRB,ar! Z QT.nd Z Z QT.nd Z (ar! 5 QT.nd Z Z QT.nd Z Z),
JRC,(JU! (SN b o (JI b o e hb) (BO! b hb))),JRD,(JU! (uh b o (JI b o e hb) (BO! b hb))),JRE,QE7 Z Z TX Z,
JRF,PW X (.BoolOp .And (Z) AG!) Z,JRG,PW X (.BoolOp .Or (Z) AG!) Z,JRH,(Ag (Cb (Zp! FM) (aE! Z) Z)),
JRI,swapsWith e Z pos.line o0=Hc! IR,JRJ,Inv (iO X ex) AB σ H s,JRK,Inv (X.UK E) AB σ H s,
JF?,by show R_ F_ JP! JP (xz TU) Z Z,JRL,QFK QC5,JRM,Eb! (h! (R4 KH t ht)),JRN,QFR Jjo,
JRO,JCC o m o0 (Z2! o)=UT!,JRP,JCC o E9! o0 (Z2! o)=UT!,
JRQ,Gf! (model P w) X.A (PD! pyNext it) (λr s1=>∃u,Z) E s,JRR,QFf MV!,JG?,by show SP? Z p,JRS,QFm H',
JRT,(GY! h q G hs os rs hq GX),JRU,(J3! h q G hs os rs hq GX),JH?,by show FG (he _ _ _ _ _ _ Z _ _ _ Z Z) ?_,
JI?,[q,G,i,q,a,b,G,ta,tb,A!,i.at Cb!,ea,eb,bZ!,IN (IN #[ha,Z,ad,_,fd,Z])],JRV,CS! ZP!,JRW,BP pA!,
JRX,opI λi j _ _ _ _ _ hc q=>Z,JRY,GE! "object.__class__",JRZ,BQ (wP Nat.add_right_comm _),
JRa,.of_wp λprog w A R s h=>Z,JRb,(AR! 12).flatMap Z,JRc,hl.Sublist AK!,JRd,m3! Ja!,JRe,ms.Pairwise (·<=·),
JRf,(λi σ H2=>∃u2:Uy!,Z),JRh,y0! LS! Z,JRi,us.length=ps.length->bindArgs (Z) QH!=QE8,JRj,q!->q!,JRk,IC!/\BU!,
JRl,b≠p/\b∉Cg!,JJ?,by rw[show A.in1.handled=none from hh],JK?,by rw[lG! Nat.toDigits_eq_if],
JRm,o.data=.seq its n,JRn,λp=>((QEw:Gm!),AQ!),JL?,by have:=BC (λu=>KB (u≠tb)) Z,JRo,! KB C7!,JRp,∀xs,o≠WP xs,
JRq,lo+Cf! 0*1,JRr,∀h',(Z)->JzE SB,JRu,Fq! (us++ds)=ps.length,JRv,MR!++mW!,JRw,λx=>knd.hash BK!,
JRx,∃ob,Z/\ob.dict=none,JR3,∀{l:No},(Z)->0<=Z,JR4,∀{ps:oS!},Z->Z,JR5,FG! (Z r (Ec! hr)),JR6,λu=>cK! C1 Z,
JM?,by have#[dx,e]:=(x.ho q hq).ob,JR7,σ=[CM!,Z,u2],JR8,qs++[(x,(QAv:CU))],JN?,by show B?;show Bb?,
JO?,by show R5? Z Z x.nn be! ZJ!;show A9?,JR9,its.toArray[Z]?=D! u,JP?,by show#[SS? s Z],
JSA,by show N?;show Z (J5p ha hb I h (zM! Z)),JSB,XV ((p.map Z).map Z),JSC,FS (Z h l1 l2).objs.size,
JQ?,by show#[TA!,λt1 h1=>?_],JSD,AY! Ab! (Hd AK!),JSE,EX! ik! a,JSF,Nx (IJ!) Z Z,JSG,o! ea0 (BE! hu),
JSH,o! ew (OC.refl _ _),JSI,o! hz z,JSK,x! (Ao! WD),JSL,AE! Z (mg! q Z),JSM,AZ! A7 IZ!,
JSN,(¬D t\/sR (qs.set i (q,bY!)) t),JSO,Ap! KJ! KJ! Z,JSP,Zf! 1 oU.nd Z,JSQ,Zf! 3 v7.nd Z,JSR,(Uh! r0.1:Key),
JSS,L4! GK this,JST,GQ 5 Z Z JyW Z,JSU,T! ((Cs P w).is k Z),JSV,O7! QF AO Z,JSW,O7! FK! AX Z,JSX,TD! EQ FM Z,
JR?,by show ZR (QFa Z ?_),JSY,s.heap.IsCell c v,JSZ,DR (Z) (show TN! Z by decide),JS?,by show Ah? (QFc FM) Z,
JSa,Zn! (FS ta),JSb,EL! (Db Z) (tk t) (Z Z),JSc,IF! (E_ P w H h a Z) (Z a _ e),JSd,d! H1 Z (.dK (Hs! (Z))),
JSe,(SZ (QFC (UW! h))),JSf,by unfold fE;rw[eq];rfl,JT?,by show Bf? (ite (Av! (Db! t==Value.none)) _ _),
JSg,KL! 5 JyW Z,JSh,∀t,F t->D t,JSi,Fk! HZ! ks,JSj,(by rw[hex];simp),JSk,Tb! (XV [En! CG!]),
JU?,by show Bg? wpAny_standAt ?_,JSl,YW! OG.toList ms,JSm,Fn! Z (TL! (t∉([]:F!))) 60,
JSn,(wpAny_updateSeq Z A! (ZS #[JQv IJ _,?_]) Z Z),JSo,Cd! (MZ H G_) ys Z,JSp,∃o,CF! EH! o/\o.cls=MU!,
JSq,Tf! (h l hl),JSr,lj! q b,JV?,by show Gf (λc1=>?_) (λc1=>?_),JSs,h'.Ns JL! m,JSt,IsTup Tk Z items,
JSu,L2.Mk K CW Wr,JSv,L2.Mk K CP jI,JW?,by show Rr? (i=n) Ay! Z,JSw,BC (λq:T2×Int=>! Z) rs,
JSx,T! (W.excIn K C x9 "ValueError.__new__"),JSy,mJ! l { cls:=B5! F7!,data:=.seq CR! n },JSz,mJ! e oe,
JS0,(Ax (λ_ _ rr=>rr.keep kk) Z),JS1,ZQ Z it d xL OI! ep,JS2,(AA (A_ Z) FB),JS3,JzB Ef dd (VX dv),
JS4,IsZip Tk z TI TO GM,JS5,IsZip Z z TI TO (GD! SY.objs.size),JX?,by show FR? a' (DB! e3),
JS6,V->lM! (J7! L2.St),JS7,((other b Z).trans q),JS8,ms! (QBm Z) QE1 Z,JS9,∀t,VY G' t->AV!≠AN!->Z,
JTA,IsTup h a its,JTB,KM! W.methodObj f ad!,JTC,QAd S.dO z1,JTD,λr=>KB (AT∉(Ok! (·.1)).take (Am!)),
JTE,Uu! AM c,JTF,GQ 1 Z Z KJ! Pw,JTG,UA X (i0! .Eq) (Z Kx),JTH,Ue! (qs.set i (q,Z G b (Z))) Z/\JzF Z Z,
JTI,vs[1]?=D! (UV T),JTJ,vs[2]?=D! GM,JTK,L9! JTl P8!=D! (th,a,hl),JTL,PA X N1! ta,
JY?,by show wpAny_For (Zk! Z Z) hs,JZ?,by show Rt? Z Z Z Z Z (aH! FX! Z Z (C5 (QBD Z Z))),JTM,#[_,_,A!,s24],
JTN,s.heap.IsKeyIter it d i OI! ep,Ja?,by show ZR (DE ho hd (x:=TP!) A! ?_),JTO,Gl! s0.heap.get?/\IP!,
JTP,Ag (QCt oW.nd Z),JTQ,z! Ym! v (Bd! sG),JTR,CQ! (Xr! V),JTS,DR Z (show TN! 3 by decide),
JTT,DQ (Z) (show bi 2147483647≠0 by decide),JTU,o0! (tb σ H1 λy H2=>R x y H2),JTV,DQ x4 (show BV!≠0 by lia),
JTW,#[r,hr,e1,e2],Jb?,by change Ju! 0+1<=Ju! (1*Z),JTX,pN! Z (UG! FM),JTY,∀h',pB! h'->ba! QEN Tk->QAX,
JTZ,IH X (GE! "isinstance") (Z Kx),Jc?,by show Fa? Ol (yJ K) Z Z Z,Jd?,[Ry? A! h S Z],
JTa,vs=[Cc!,Z,g! BV!,g! Z],JTb,C5 (QBD (G.AK.length<=1000) z2),
Je?,by show Z? (Ac Z (Ac Z (bO! Z Z (Ca Z HJ A! Z Z Z a! Ci Z)))),JTc,(R3 hu Aa! EQ FM Jyf (λ_ _ _=>rfl)),
Jf?,by have#[kvs,e]:=(x.ho q hq).NA hb,Jg?,by show FD? (FY! H Z .dT []),JTd,A_ (Jbh (by rw[ZA,ZA];lia)),
JTe,K52F.bz (K52F.IU (K52F.OF m f c a S)),JTf,QCm QFj (v=v'),JTg,Q AS! (EY! l (XV (xs++zs))),
Jh?,by .rw[AN e,AN (Gs! e Yw!)],JTh,FX.JD (k:=KT!) Z hq,JTi,QDU Ro! (TJ! LR!),
Ji?,by show R? ZR (K' JP! (ZS ?_)),JTj,JN.k (k:=BI! (Z)) Z (o! Sl (D3 (AA Z FB))),
JTk,(O5 A! T.range (DA! QDq)),JTm,PS X (.Assign [Z] value AG!) Z,JTn,PC X op a b t,JTo,xu H' W.c b ts L Z,
JTp,QEd (Hg!,y),JTq,QEm Z GD! (AN!+1),JTr,(nq! x.2)-QR t Z+QR t r.2,JTs,QEs (Co C6 Ap (UG! Br!)),
JTt,CX EK! H s E e Z,Jj?,by show SI? UY! wi.wg.BX Z,
Jk?,by have ex:=aE;dsimp only [RU] at ex;show OU (MC! (MC! (QBF Z))) ex;show QFM,JTu,QFU (b=io) BU!,
Jl?,by show#[D0!,KZ!,KZ!,KZ!,KZ!,Z,Z,pW! Z,Z],Jm?,by show SO? (h.lt Z) Z e Z,
JTv,QFg (DA! (L3! (QAE wE Z Z Z Z TQ!))),
JTw,∀(i j:Int) (t u:Tok) (s:Shared) (Q:NE) (E:NE),Z->QBn (f VP! (PP j u)),JTx,sorts (λt:T2=>t) (l:=Z) Z,
JTy,∀(s:Shared) (u:Value),QDz [u] [(x,u)],JTz,∀o v,X.VG d≠D! (.IV o v),JT0,∀{l:No} {i:Nat} {q r:SH!},U9!->Z=Z,
JT1,{ W with MY:=W.MY++[(MH!,io)],c:=MK!,ls:=On! },JT2,∀ds,e=EO! ds->∀x∈ds,∃n,x=Z,
JT3,reduceHash (JUd [hashInt Z,hashInt Z]),JT4,LM (Hr! .w),
Jn?,by show#[by cases h<;>(subst_vars;rfl),λER A outer s hr=>?_],JT5,H!=E5! v,Jo?,by show Z? (Ac Z (Ag MW!)),
JT6,Eb! ((Z ht).imp id Z),JT7,(qs[h]?.map λp=>FV! Z).getD 0,JT8,DM! f2 g2 zT,JT9,TZ! (de K Z) vs Z EG!,
JUA,CB H6 gX (RM hl t),Jq?,by show CX? { s with heap:=h1,toks:=tk } (I.kept kp),JUB,lq! Ap Ap Ap,
JUD,G7! s1 s s2,Jr?,by simp only[BZ,BD] at hlen;rw[Z];show Fk! Z v!,JUE,(CD! λS=>Ph t S.2.2).sum,
JUF,E6! (Ee!->b≠I.sd->b≠I.fd->H6! Z),Js?,by (have hl:l∈Mr!:=PX! (Jaz e)),
JUG,OX (RM hl) n ((Ed (Dz L) L).filter cH!) [] R,JUH,Tc! RecAt H as rs,
Jt?,by show CX? CU! (I.kept (t':=GB!) kp),JUI,QO! e (Tm! (wp _) Z),JUJ,(OZ! (QDS r/\Z/\∃L,Z)),
JUL,k b u (hb b n) q,Ju?,by show Call_ (Wi I hg hm boot_range Z),JUM,QBb "pop" [e] (Z td ty),
Jv?,by (have hj:j<m:=Z0! lm eq),JUN,Cd! (MZ H2 (Lx!)) L Z,JUO,Fh! (AA (AA (BQ Z) lf) m5),
JUP,(.tupP (FF! e2) (Tm! Z Er!)),JUQ,QC H' W.c Z n Z L SP!,
Jw?,by have hb:Av! (g==k):=NT.mpr h;simp only[List.lookup,hb,Z],JUR,F6 (IJ!) ii (TL! C7!),
Jx?,by show#[o?,dx,_,A!,hp,Ff!,_,A!,p,bv,W,A!,Sz!,QD0 Sz!],
JUS,(by induction p with | nil=>show a? | cons r _ ih=>show A6? (wP h r)),
Jy?,by show ZR (JKy ?_ (by rw[ZA,CZ];lia)),JUT,b2!=(AR! m).map QEi,JUU,QDT BR! t Ml!,
JUV,#[Dn!,GO!,X9 M G x,Jd!,Z,Z,Lq!],JUW,(R7 Z (Z g) Z J5! Z Z a! A9 (ml! FM)),
Jz?,by show SG? (keepR G R).holds.any #[r,hr,Z],JUX,Jmf wi AJ! tt te σ H Q,JUY,λk:Nat=>(Ac!,a k,S k),
JUZ,∀k<n,Kh! De Z Ac!=D! (PP (Z k)),JUa,TC hl (EV! L),JUb,by subst z;rw[r] at mu;show mu,
J1?,by show J?;have e':Z:=e;subst e';show Z #[H,I,q],J2?,by show Gt! Z (QD (a:=Z) (by kernel_rfl) ?_),
J4?,by show FQ? _ _ Z (by rw[ZE,Z];lia) (λt H4 ht et S4 f_=>?_),JUc,OO! Tk TI (UV i1) (UV i2),
JUe,pJ! (∃a,BX!/\(∃xs,DW K H1 a xs)/\R Z H1),JUf,PB m A B qs al ys,
JUg,Bg! (by by_cases hb:b=G.o;(.show SF? Z);.rw[Ae hb];show Z),JUh,#[A!,_,_,_,A!],
J5?,by show ZR (ZR (wpAny_onRaise (Gt! (Pr! Builtin.SmallTypes.nextOf i1) Z))),JUi,eG j q2 G2 e ej,
JUj,QD5 (pF! FM) Dp! G1 CY! Z,JUk,jJ! #[v,_,I3,US,q2],JUl,#[ZZZ,Gz!,nm!,PP OI! 0,PP ep 0],
JUm,λt a H' s' ra an=>k t a H' (Af s1 s') ra an,JUn,(r.drop (JQ! Hd! 0 lo)).take (QE6-QE5),JUo,(Gp G tb sh H_),
JUq,x! #[_,tk t,a,Z,A!,ha,Z],JUs,MK X sc cl Yb! lX! s3 H3 fp AB,JUt,tM H x hs os rs,JUu,NP H t n BA! s g tb x,
JUv,a.fr c o e n1 n2,J6?,by show R? EO (DG slot_list_sort (El! g1) entry_list_sort Z (args_list_sort _)),
JUw,z! Ru! f #[oc,od,.func (W.fnOf E9! qual params body scope dV kV doc pm an ER ct),pK],JUx,jU! z y 0 EN! 1,
JUy,TI! G1 hr M1.mg M1.fn.kp CY! (DA! TQ!),J7?,by .rintro ys H2 ⟨s2,rfl,e2⟩;rw[len,BS] at e2;show k H2 s2 e2,
J8?,by show IF! (QEp _ (YG! (Av! (Db! d==Value.none)) _ _) _ _) ?_,
JUz,∀(H2:Hp) (bs:S!),Ei!->bL! QCx->VJ! H2 ts.filter b->DK!,
JU0,Ak! (wi.sm hn hq (l! (PO! GX.pm.mem_iff.mp ht))),JU1,M1 X o "pop" apos e JB,
JU2,QAU (Z2! a) (λv FC=>QDQ (eval b o0) (λu NO=>JzK (f v u) Q NO) FC),JU3,(.MN s g y.n u FQ! S),
JU4,(AH! Z #[_,_,_,_,Cj! a A!,Z] Z),
JU5,KB ((Z:Ih!).length+([]:CQ! Keyword).length+(YG! ([]:CQ! Keyword).isEmpty 0 1)<30),
J9?,by show#[u,A!,QEa d x ru (Ao! (λys hy=>U! (I.VN hy hq) hx))],
JU6,#[W2,U! ew Z,by change UY!<=_;show CA a1,x.ob,x.m1,x.m5,Z,Z,Z,Z,Z,U! ew x.ma,?_,Z,Z,Z,Z,Z,Z,Z,ME!,Z,oP!],
KA?,by show k t H3 W3 #[a,b,et,Pk! c_.BI,Ch! c_.BI s2 hb1] QA6,JU7,Jvx Kx wi AJ! tt te σ H Z,
JU8,λll WC=>Ja4 (te:=uW) WC Z (PE! Z) Z (λi v t H5 QQ hj ht s5 qq=>?_) QCj,
KB?,by show#[_,A!,t,_,_,_,A!,A!,ah!,A!,?_],KC?,by show Mb (K:=K) (a:=y2) (xs:=bs) (Z) Z (Z) ?_ (λσ H2 h=>?_),
JU9,Jl2 G ta tb (λ_ _=>Z) (m0! NG) (m0! OD) (m0! MI),
KD?,by show#[#[Kn! (KM f e (O8! Z)),KM f x.hs (O8! Z),pT! (UU! ?_),ol! (λo e=>KM f e Z) (λo e=>KM f e Z),KM f FK! Z,Z,Z,Aj!],JU! (UU! ?_)],
JVA,∀(t:Addr)(H':Hp),QEn (Lp! h.toNat (q,{ G with BG:=Fb!,AL:=Z })) CG! (W.ls++nd!) t Z h Z Z KX! (ng! T2!),
KE?,by subst e;show B?;show AH?;show S?;rw[Gq ZV];show Q?;rw[Gq ZV];show Q?;rw[M8 A!],
JVB,W.WalkO q loose XP YP l.row.toRowW d [] (λf vs=>PySem.call f vs),
JVC,QFo (Z G tb (Z)) (SZ (h! hb)) Z Z (FI! (U! (ZK hl) QDF)) Z (CA (AJ _)) (Jn4 _) A! (ak! l1) (λ_ c e=>hR _ _ _ _ _ Z c e),
JVD,J2o m W W' a b AL! ys EA H' s g Z u FQ! S,
KF?,by show Fo (K:=K) (a:=Z) (p:=p) (xs:=Z) (tt:=PR!) (te:=Z) (AJ!:=[]) (σ:=σ) (OZ! (Ei!/\Z/\Gr!)) #[Ah hp,A!,Ab] (bA! #[Z,h.2.2]) ?_ ?_,
KG?,by show Rc (ow:=Z) (bd:=λy H R=>Z) hc hi KA JH ID II KH has MA ?_ ht he I h AH! hs,
KH?,by cases b<;>simp[behindInMarks,e1,e2],JVE,ZS (hQ _ Z lx!),JVF,QP.map Ly!,JVG,(rel.val k).getD rd,
JVH,(λb o _ hb _ e n=>Z b o e n hb Ix),JVI,(ws++O4!),JVJ,(λC Dd H' s1 s' H1 hC I1 I' hn #[m,hm] q=>?_),
JVK,(∀k<m,Gp! YK (a k) S k),JVL,(λb o eb hb n1 n2 n3=>cn b o (xb b o eb hb n1 n2 n3) hb),
JVM,((λj e=>by cases e)),JVN,(pC! Z AO),JVO,(E6! (Z->Z->IC!->mE!)),JVP,Params->W.Frag,JVQ,C!->lM! VK,
JVR,Builtin.Slice.slicePlaces Z Z 1,JVT,HH!\/QDu,JVV,1<=k/\k<=ys.length,JVW,#[_,hv,A!,_,A!,Z],
JVX,S2! (Z QDY).map=Z,JVY,bi (EL! Z (l! s) (FU! FQ!)).length=bi Z+1,JVZ,cM!=Dz!,JVa,Z=PI! Hq! Z,
JVb,A0! ((Z:j!).contains m),KJ?,by .show M? (wv _ e) FB,KK?,(by obtain⟨j,u,rfl,e⟩|⟨y,u,rfl,e⟩:=D2 hb),
JVc,(I.ok.bs b o e).2,JVd,∃o',z! Nw! b o',JVe,λb ps q=>#[Dc!,by rw[Z,q];simp],
KL?,by rw[BD,List.range_succ_eq_map],JVf,(E5! v,TP!),JVg,λp=>An! AQ!,JVh,X.env.frame=D! ii!,
KM?,by have#[_,o,ho,_]:=I.ok.O_.mem hb,JVi,λz=>JzP h2 z,JVj,λz=>nj! Z H8!,JVk,SZ (D5! I.UY),
KN?,by have tH:i<σ.length:=Kq! I.len (DH! hi),JVl,{ D with nx:=u D },JVm,λ_ s'=>SP X AB D .next s',
JVn,[.t bv Ac!],JVo,∀i h,tn i h->YF! (∃o,MJ!/\∀v,o.data≠Rq! v),JVr,∃xs,DF K H1 a xs,
JVt,show s1.heap.IsTuple a CR! from p,JVu,aF!-aF! / 2,JVv,(JyD n).toNat,JVw,[Sa!,Hv!],JVx,["form",Hw!],
JVy,[q.1.1,q.1.2],JV0,if k then 1 else 0,JV1,∀h',Heap.ExtBut it Tk h'->JzE SB,JV2,lc<=P9!,
KO?,by have hz:Z∈al:=PX! es,JV4,GF! (x.dt wf hy),KP?,(by obtain rfl:ov=Db! a:=rx),
JV5,λus s1 #[xs,H1,I1,r,z,q]=>#[AE! r.length z,?_],KQ?,by have hf:af! JL!:=I1.EK.fresh (ZG _),
KR?,by have hl:i9!:=U1!,KS?,by have hl:AW!:=QDC hq,JV6,QE3++Da l,JV7,λx hx=>Fa! hx,
KT?,by have he:∃q,O5! Nw! q:=let#[q,_,_,hq,_]:=r9;#[q,hq],KU?,by have#[os,vL,hcs,hds]:=id hs,
JV8,λ(m:Nat)=>xs[D2! (AN!+BV!*1)]?,JV9,if ws.length=fs.length then Hy fs ws else none,JWA,λj=>Arg.t i j,
JWB,λr s'=>r=w/\bg! r s',JWC,show Z≠0 by show KZ bX,JWD,if b then 1 else 0,JWE,GJ! (Fa! hu),
KV?,by have#[z2,UM,n2,r2,pY,e2]:=I.YM hB,
KW?,by have g:PF! EH! d:=(show E_ X.prog X.w H s.heap d no! from I.EK d _ hg).1,
KX?,by have#[q1,q2]:=List.append_inj Z ll,KY?,by simp only[show ¬(AN!<0) from(YY! (AG _)),GB,CL,Z],
JWF,∀j (h:j<es.size),∃a,as[j]?=D! a/\es[j].key=BQ!,JWG,λt=>l! (by rw[e]),JWH,A8! (by simp at hq),
JWI,∃dx,np! [(SZ!,FS pw)],KZ?,by have m2:G.l∈Cg!:=by simp[CC],Ka?,by have WW:¬(Av! (Db! t==Value.none)):=AR,
Kb?,by have z1:QDj h₁:=ot,Kc?,by have#[its,rv,p,_]:=JI! q1,
Kd?,by have wC:Ej! Builtin.Dict_items.ownsTuple Rx!:=Au!,JWK,λq hq z=>ab! h (KF! z),JWL,λt ht e=>Z t VK! e,
JWM,{ G with hand:=TV!,AL:=Pv! Ai! },JWN,{ G with AK:=L9! kJ! Z,holds:=L9! SV! Z },JWO,X.A.handled=Dt! exx,
JWP,∀ex vs H Q,sp ex vs H Q->JCV,Ke?,by have#[g1,g2,g3]:=x.ok.get ta,JWR,∀(x:Addr)(H':Hp),TD->Z->IN!,
Kf?,by have s2:=G2! ag! Z ha,Kg?,by have s3:=QDx rV,Kh?,by have s3:BV H2 H3:=Bg! (kp3 b o (IH! Z) (Am e Z)),
JWT,{ QFV with AK:=TW! Pq! (H!≠t) },Ki?,by have br:Z:=ZF! (jp h1 (mQ! fr9)),
Kj?,by generalize Ku! H9 Z=oO at lI br,Kk?,by have hx0:QBO (b∉Cg!) (b≠x):=ZF! (Am (Z) hx),
JWU,{ W with c:=CG!,ls:=m4! },JWV,L++[(JzU,t)],Kl?,by have rF:VO! { G with holds:=LN AK! ta Z }:=Z,
JWW,λt _ h=>(En _ _ _).2.1 t h,Km?,by have pM:og!:=QCR SN! s.ok.rn,JWX,∀t∈DF!,∃r0∈G.holds,r0.1=AT/\t∈r0.2.2,
Kn?,by have#[#[q,G],eq]:=lV! qs Z Z,Ko?,by have JA:S4! Z (S8! CI QFd):=jp Z hp,JWY,λ(j:Nat)=>lc+1,
JWZ,{ W with qs:=Lp! j H9!,c:=c,ls:=Ls },JWa,W'.qs=Lp! g.toNat (q,bY!),
Kp?,by have#[_,a,hl,f,_,pm,_]:=t.ND.at_ r hr,JWb,{ W with c:=c',ls:=OU!++L,G_:=Lx!,IF:=pj },
JWc,Fq! Mi!=ys.length,JWd,∀z∈l,0<=bu!,Kq?,by have#[q2,q3]:=kE! q2,
Kr?,by have el:ys.length=zs.length:=by show AU? x.ys;rwa [ZA,ZA] at this,JWe,∀r∈os,AT≠QA9,
JWf,∀r∈os,∀u∈DF!,UH u,JWg,∀l∈L,0<=As!/\As!<=W'.c,Ks?,by have xQ:ZV! (l∈W.ls):=λl h=>h,
JWh,∀{h:Nat} {q:SH!},Z=D! q->¬H5!,Kt?,by have#[q,G,hs,os,rs,hq,iw,GX,lh,lo,wz,smO]:=pS c,
Ku?,by have#[ra,rt,rh,rc,rfl,f1,f2,_,_]:=A6 r2 i v r hv J',
JWi,∀(t:Addr)(b:PyData)(H':Hp),pD! (HC K H' KP! b) Z t,Kv?,by have c1:mM! ":":=rfl,JWk,∀w∈ws,di w,
JWm,(EC.mpr #[z,hz,hb]),JWn,(Jh8 (Jb5 DY LQ SJ We SC)),Kw?,(by intro i j WX hj;by_cases vM:j=a),
Kx?,(by show RK λj=>?_;by_cases hj:j<es.size),Ky?,by .show IN (QAH h),JWp,acc.toList[j]?=D! (acc[j]),
JWq,jC! K Z (Cu! Z)=D! Z,JWs,ds.push (c-48),JWt,small (QA3 HV),Kz?,by cases (show Z from rx);show Po! Z YL!,
K0?,by have#[l,_,rfl]:=ZN h;show Cj! l A!,JWu,1<=k->k<=ys.length->Z,
K1?,by have:=BR.mp e r0 aS;simp[e0] at this,JWw,by simp at e;show CT! e.1 (Z),
JWy,by simp only[PyData.depth];show L4! AE Z,JWz,by have#[t,e]:=Cs! Z Z Z v v h;show Z,
K2?,by (.rename_i h;show DL! QFI h (QDv)),JW2,#[hd2,Fj! Z],JW3,#[oK! AG,by have:=wi.m5;lia],
K3?,by (have YG:DM H7 Z:=Kb! Z),JW5,σ=Z/\Z/\lK! (H6! Z) Z Z,JW8,#[λj q2 G2 e ej=>Z,Z,λj q2 G2 e ej w9 hw=>Z],
JW9,seqIndex_neg ((NU.mp h0)) Z,JXA,sorts (IJ!) Z,JXB,pV _ (b2 p hp).1,JXC,AY! dx (JD! a),JXD,AY! v6 (Et ii),
JXE,AY! BN! (Et Ai!),JXF,Z Z _ (o! e2 nd),K4?,by show h.closed λs hs u hu=>?_,
JXG,(((Heap.SameBut.update ..).extBut.push _).push _),JXH,BC! V JB!,JXI,BC! CU ut,JXK,(JW! nd).2.1,
JXL,#[Z,Z,QEF Z Z,#[_,Z,A!,_,A!]],JXN,AM (by rw[e]),JXQ,Hf Z (Z Kd!),JXS,s.heap.IsTuple t items,JXT,[(kb!,3)],
JXU,[(Pt!,t2)],JXV,EY! r1 bN!,JXW,EY! Ca! VG!,JXX,EY! C9! cN!,JXY,o! l (rel.val k),JXZ,o! b1 nda,JXa,o! Sj pm,
JXb,(W.plainGet_of hg).1,JXc,EZ! (H!∉Jf! i),JXd,AE! ht e,JXe,#[_,hn',λj y v' e1 e2 e3=>?_],
JXf,#[_,dd.mapOf,KM h ae! ?_],JXi,AZ! BL! c,JXj,(QAK 0 1 2 3++QAK 4 5 6 7),JXk,(XV (GG! B1!)),
JXl,(XV ((([AV!,A7!]:q!).take i).map m2!)),JXp,Av (i:=Z) Z A! (by first|show R8! A!|show OG! A!) Z,
JXq,Ao! (He! (BO! e (Ec! he))),JXr,Ap! Ts! Ts! Z,JXs,(h2 b Ix),JXw,HN λdx x=>np! [(SZ!,x)],
JXy,by rw[Z,ZA,ZE];rfl,JX0,J9! (kJ! UL!).map,JX1,S7! y4! .local,
K5?,by show(hs.2 b (BP Z)).trans (ip! b o e n hb hx),JX2,DC! #[xs,A!],JX3,O5! jR! pm!,JX4,O5! Z (ox! e1),
K6?,by change QR t Z<=nq! x.2,JX5,DD! (mV! Yr! == mV! Z),JX6,(by have:=Z (H8!);cases this),
JX7,lI! Di! Z A4! Z Z,JX9,O7! ZA Z (JyX Z),JYB,AO! Ek Jvl,JYC,AO! (Op! t Z).1 nu,JYD,Ch! kr.BI kF.BI Z,
JYF,Wg D m Z sh qs ls,JYG,Eg! #[o,u,A!],JYH,BL (UP Z) FB,JYK,Zj! H2 (ys++[MQ!]),
JYL,(Cb (J8! Xi Z Z) (QFW Z Z) A5),JYN,hd c (Ec! hc),JYO,lK! (b≠S) (H6! Nv!) Z,JYP,[bn "refused",g! i],
JYQ,Eh! (PD! Builtin.SmallTypes.nextOf it),JYR,Eh! (VN! (Z Z Z AG!)),JYS,Eh! (i0! .Lt Z Z),
JYT,Eh! (Z (UV x) E9! Z),JYU,(d! H1 r2 QD!),JYV,(d! H1 Js! (.dK QAy)),
JYX,lR! (Z A!) Z PyProof.Rows.boot_list Z,JYY,Ej! PyData.canLayAll0 ds,JYZ,lU! y2 bs,JYa,Zw! QEv DN!,
K7?,by show#[x! #[r,(JE! hr).1,h],?_],K8?,by rw[Ae (Xk ec Z JzG)];show ec,JYb,Cd! (OO Z) xs as,
JYc,λi=>MS! i [],JYd,PI! (n'=n/\u'=u) Z,JYe,Fj! (AE (Z) FB),
JYf,#[_,EJ _ Z (LA (FQ Z _)),(Obj.cls_mapFields ..).trans Z,Z],K9?,by have#[t,q]:=(show Z from ry);subst q;rfl,
JYg,by unfold E6;rw[FN,Z],JYh,AY! c (J6! t),JYi,Fk! rG S.dl,JYj,Ck! ej e1,JYk,(by rw[hj];simpa using ew),
JYl,min v D1!,JYm,(AE KD! hu),JYn,AA I.ok.dE I.sz,JYo,PV EI! X.w H Z,JYp,T! (W.keepIn K T5!),
JYq,EL! Z U0! (PP t),JYr,(Os A! r),LA?,by .change Z=Z;rw[Z,Z,QCa],JYs,MG! p QFS,JYt,(d! H3 l1 bN!),
JYu,(d! H3 x2 Kr!),JYv,(d! H3 vS (JD! po)),JYw,S1! (EY! Z (XV ys)) { s with heap:=Z,toks:=t' },
JYx,Td! { W with c:=Z,ls:=On!,IF:=UF! },JYy,(.ListComp elt [#[target,iter,ifs,0]] scope AG!),
JYz,∃o,PF! EH! d/\S1! (EY! d Z) s,JY0,KV! IN k3! Z,
JY1,#[λv H'=>Jti v H' Q,#[_,A!,p,CD,dx,_,_,A!,hp,g.TK.cl,g.TK.nW,D7,pw,RP,_,A!,RO,lf!,_,A!,r,_,0,_,A!,A!,TT!,A!,k],?_],
JY2,lj! (tgQ b h) Z,LB?,[q,G,Ry? i Z S Z],JY3,J29 X sc cl p,JY4,a9 λh o l r=>G=QAA AN! r,
LC?,by rw[AD (λz=>L4! CT! z.2)],JY5,MM! CS! ZP!,JY6,MM! ys.flatMap Ej,JY7,by unfold W.kitOne;rw[AF (by simp)],
JY8,by unfold Sg;rw[h2],JY9,(WP [l3!,II!]),JZA,(WP [ag!,TE!]),JZB,(WP [AM! n,AM! GC!]),JZC,(WP [AI! b,FS y]),
JZD,(WP [AM! GM!,oV!]),JZE,(WP [QC7,QFE]),JZF,Cd! (MZ H W.G_) L c,JZG,s.heap.Ns ii! m,JZH,Gi pb! m,
LD?,by show QZ PySem.F.entry_extend_loop ?_,JZI,lU! x (bn Z::r),LE?,by show AU (show KS! _ from x),
LF?,by show ZR (Gt! (Builtin.Tuple.tupleExact _) Z),JZJ,l1! Z (X.xe e s'),JZK,L2.Mk K CD Ws,JZL,L2.Mk K CI i',
JZM,ZQ Z Z d 0 OI! ep,JZN,OX (RM AK!) Z (Lr! G) [] Z,LG?,by change Aj (Ji! λq=>Z) t-Aj (kJ! Z) t+_=JzJ ls,
JZO,(Ev! SZ!:Eq!).lookup,JZP,(FX.FD Jb! ta),JZQ,(wp (BL! c)),JZR,(wp (Dm ws)),JZS,ab! (N8! Z).1 #[z,hz,Z],
LH?,by (have h1:j<acc.size:=U! ha.1 hj),LI?,by show l! ?_;show Bo?;show Z,JZT,mG! (λxs H1=>Z  xs H1 Q),
JZU,(Z++ww (Dp Z n u2).map++T).Perm (rg m),JZV,z! Nw! T oT,JZW,(d! H5 t PM!),JZX,T9! cs ds,
LJ?,by .have#[bs,_,sm,JJ,_]:=pv;show#[Z,JJ],LK?,by .have#[more,q]:=I.base.SW b ps e;show#[CV!,Z],
LL?,by .have h:OX!:=h;show#[MI!,Z],JZY,by have:=QBm hd;show I? Z;show this,JZZ,PI X tg iter wi,
JZa,aH! tb S1.dO b1 Z,JZb,B4! CW SQ! "World.house" Fi Gg! oA mR,JZc,T! (W.clsIn K C).isSome,
LM?,by change Gf! _ _ _ _ _ ({ s2 with heap:=s2.heap.push { cls:=B5! F7!,dict:=none,data:=.seq ([]:Y!).toArray } }:Shared),
JZd,(OH! #[λm=>Z m A!,Z]),JZe,AF (by show BU l),JZf,an! e oe,JZg,an! T oT,JZh,xs[j]?=D! (k,p),
JZi,Zq! (g! m) (g! sh),JZj,mg! y hy,JZk,JzB Ef Z (VX (Sg L)),JZl,JzB Ef Z (VX (PP (Z))),
JZm,W.mroIn K C Th!=D! AC,JZn,Kx! "NoRow" NR,
JZo,UO! ([(a,NameKind.local),(b,NameKind.local),(c,k)]:aD!).lookup ([(a,NameKind.local),(b,NameKind.local),(c,k)]:aD!).lookup,
JZp,mh! (1<1000),JZq,Bg! (JzT hl (s2 b o e)),LN?,by show Al? (wv _ e) FB,JZr,Cx! (λz=>Z) q2,JZs,KM kt.IV _ e,
JZt,by show p? Z;(.show Z Z h);.rw[ZK h];show Z,JZu,mo! Gh PN.1,JZv,EZ J2!++":"++bB!,
JZw,Z [FS pw,g! n] H (λv H'=>Z) E,JZx,M0 MV! P w K mg Bf! N qual scope f cd A EK! s H E,JZy,QAP wt 0,
JZz,B4! C "is_near" "House.is_near" Nk Gi! qO p_,
JZ0,WM Z Z (Bp! (WM Z Z (Bp! (WM Z Z (Bp! (WM Z Z #[ao!,Z])))))),JZ1,(LV l).filter,JZ2,(Sg! QJ!).filter,
JZ3,_+(IC Z).AL.length,JZ4,∀u,VC! AL!=mt!,JZ5,∀u,VD! AL!=Dp al n u,LO?,by rw[ZA,CO];simp only[BD,BZ];lia,
JZ6,(("holds ":Ag!)++A7 IZ!),JZ7,HM K jA! JWo Jmy Z Z,JZ8,HM K jA! JWr Jbp Z Z,JZ9,HM K jA! JXg Jbr Z Z,
JaA,GQ 4 Z Z [Bm!,"a"] Jmo,JaB,QAU (Z2! iter) (λv s1=>JzK (pyIter v) Z s1),
JaC,QAU Z (λ_ s'=>HN (LU! (a8!/\Q GF H'))),LP?,by rw[AF e,AF (h1.symm.trans e)],JaD,D4! (Lo! #[L2!,mq,Z]),
JaE,Tc! FdR H Z fo,JaF,QK! (tb σ H1 λy H2=>r x y H2 Z),
LQ?,by show CX? CU! (I.turned (t':=GB!) (λb ob hb e=>(sb.2 b hb).trans e) f0 f1 f3 f4 f5),JaG,qG G b (cf!),
JaH,Mz G b (pX!),JaI,ZQ Tk it d i OI! ep,JaJ,(F2 (Jb6 hu Z Aa!)),JaK,QP! (GS m b Z),JaL,Z it d xL OI! ep,
JaM,B4! C "need_in_hand" "House.need_in_hand" Ki Gi! qW qk,JaN,B4! CP "put" "Post.put" Pp aC! qR qC,
JaO,JC!/\HN λ(its:List Value)(n:Nat)=>Z,JaP,∀s',nT!->Q (Ar! Z) s',JaQ,Um! Ac! W.MY.map,
JaR,∀i σ H,i<=kvs.length->aA!->KC! (.IV ob (Z GE)),JaS,Jba (c:=Z) Ix Z,JaT,A8! (h q (Ec! hq)),JaU,(h1 a Ix),
LS?,by subst e;show I2.VD (ZG _) fresh,JaV,nR! Z a! QEg,JaW,#[b,Ab,QDW eb],JaX,(d! H' ex (yA ex C)),
JaY,EL! (Z Z) (tk FX!) (Z Z)=(Z).map Z,JaZ,nY! (AA z0 zn),LT?,by rw[BY!,AD (by simp)];lia,
LU?,by rw[AD (by simp),AF (by rfl)];lia,Jab,IN (IN #[k,Ed! e1]),Jac,GW H Ab! KP! (AC! (Cz! a)),
Jad,VH! XZ.map NF,Jae,∀h',h'.DictOfH knd d Z->X8! d Tk h'->QAX,
LV?,by show Rr? (i=xs.length) #[xs,q,Ay!] (FW! hd p),LW?,[_,A!,p,dx,_,A!,QA! hp,Z,_,A!,Z],
Jaf,(Xs! (Cs EI! X.w)),Jag,Pn (Lq) [] E0 (Dr (Cz 0) (Dr (Cz 1) Ht)),Jah,ih (GF! (h y (Ec! hy))),
JbA,(Kk a H!+Rs),JbB,mj!->J9! (Ck ii tb v).map,JbC,Ue! (QAj Z) Z/\Zw! (QAj Z) Z,
LX?,by .show(CQ _ _ (λz=>li! n t2)).trans q,JbD,Be! (u=1) 4 2,JbE,∀b ob,bJ! Z->Z->bJ! Z,
LY?,by have#[#[q,G],hq]:=QAD V.qs h k3! Z,LZ?,(by unfold Ck;by_cases h:Et!),JbF,(Classical.choose_spec (zZ k)),
JbG,qT (ZZ! 1),JbH,#[a,ha,AO! e hb],JbI,#[λi _=>Z,λi H x H'=>H'=H/\Z,λi _=>Z],JbJ,Z b=EH! b,
JbK,KM oP.extBut Z (oQ.extBut _ _ Z Z),JbL,KM JAw.extBut Z (JAx.extBut _ _ Z Z),
JbM,(Co Ia Ai (Pl! (aG! gCl g.pQ.mg g.pQ.fn.kp g.pQ.bd (Tn! Ai)))),JbN,Gx! YV! d LZ!,JbO,KB ((Z:Key)=BI! n),
JbP,UA X (binaryOp Z) (rI Z λi j=>En! Z),JbQ,{ G with holds:=Nf AK! WF l },JbR,{ G with holds:=LN AK! t l },
JbS,GQ 3 Iz Ke Gg! Z,JbT,Aj (FH! λq=>P9 H!) t,JbU,PV P w H' Hb!,JbW,R (.ok (.ret (Ar! Z))) Z,
JbX,(("found ":Ag!)++EZ lc),JbY,TR! (Zp! EQ) (Ca (pY! Z) HJ A! Z Z Z a! Ci Z),
JbZ,∀H2,BV H' H2->Q (wp (Dm (Ho! A7))) H2,Jb0,z! Ru! Z #[Z,SB,Z,Dc!],JcA,(hs.2 b (low e)).trans e1,
JcB,(S1.fld HX G.AY (Fb!)),JcC,(Z h ta tb G ha hb c2),JcD,B4! C "need_near" "House.need_near" Nj Gi! qX qm,
JcE,(OF n f c a S),La?,by show Ay? y (Fd! (show Ry! from hs) AR),JcF,LI.mpr (A8! (Tf! (Z q hq))),
JcG,T! ((Cs Da! w).is (Z Z) Z),JcH,AV CW CH CP H' p Z/\KX!,JcI,Be! BR! Rs 0,
Lb?,by have e1:DD! (op==CmpOp.In):=by cases op<;>first|rfl|show M? A! h,
Lc?,by have I3:S1! Z { s1 with heap:=lw! s1.heap.push Z Z }:=I2.kept (t':=s1.toks) (Yo! TO!),
JcJ,([r].filter λr=>! Gn! Dz! QBU),JcK,(AH! [(z,t)] GB! Z),Ld?,by .show#[o.slots,(CQ _ _ (λz=>Z)).trans q],
JcL,z! l.lookup v fs,JcM,CQ! (CQ! KE),JcN,#[(x.sd Z q G e).1.up,(x.sd Z q G e).2],JcO,#[Gw! (jp yk Z),Ab,Z,?_],
JcP,ww Z=Bj! BI!,JcQ,oU! (AA KD! (hl▸hz)),JcR,DR x5 (show TN! Z by lia),JcS,oY! [Bm!,Hu!,Z,Z,Z,Z] Z,
JcT,ob! (Yp! F7! (Bd! Db!).toArray n),JcU,Eh! (PD! pyNext z),JcV,S6! (D1 hu Aa! Br!) TI.cl Z Z HJ Z A9 Z,
JcW,oq! fa (C3 (IV!)) Z Z,JcX,or! d JzL Z Z,
Le?,by have#[b,ex,eb]:=id aE;show OU Z ex;show(run _ _ (λv dv W' D' al' EA H' tl ef OT fr fp eh=>lv! (Bp! (AH! v dv W' D' AL! EA H' t tl ef OT fr fp eh ht))) (λcls i xf ef=>#[AD!,Ao! xf.sub,λex hx=>Bp! #[AD!,i,A!,Ab,xf,λH4 s4=>lL! (λt5 h5=>Bp! (XD i H4 t5 ef (Af (Ah hx) s4) h5))]])) b eb,
Lf?,by show Bg? ZS (DT e2 f2 ?_),Lg?,by show Bg? ZS (DT g1 g3 ?_),JcY,bQ! (XV (iN (El n f c))),
JcZ,(.dT (E6 GE k)),Lh?,(by show#[oi,e,λv z=>by rw[q] at z;cases z]),Jc4,by change W.G_.length<=d+1;show CJ a2,
JdA,IH X (Cu! E7!) (Z Kx),JdB,∀w' s',QBG Z s'->Ea! v w'->Q w' s',
JdC,{ W with c:=CG!,ls:=OU!++[(CG!,t1)],G_:=Tg! },JdD,(EL! GE k y),JdE,(EL! GE H! Rs),JdF,F6 (KT!) AK! (TL! Z),
JdG,pd! at! Jan,JdH,#[BM!,th.1,xx,th,ET!],JdI,(.Slice lo hi SB p2),
JdJ,B4! CW "state" "World.state" Lr Gg! Mj Ms,Li?,by show#[_,A!,_,A!,Z,_,A!,Pb Z ha,?_],
JdK,(R3 hu Aa! EQ (KG! Jko Z) Fc (λ_ _ _=>rfl)),Lj?,by show#[o?,dx,_,A!,hp,Ff!,_,A!,p,h,W,A!,S,Z],
JdL,lN! (comprehension bV! sc o0 (firstIterPos [#[KA! x px,iter,ifs,0]] AG!) (newList []) IR (Z2! iter) use) RQ,
JdM,EC.mpr #[Z,ne!,Z],JdN,(show s.heap.IsTuple a CR! from p),JdO,Z hn hq (ow! #[_,BE Z,Z]),
Lk?,by show#[CZ?,FO? CI dx hp w! Z Z Z (JN.k (k:=oT!) Z (Hi (AA Z FB)))],JdP,∃u,us=[u]/\If!,
JdQ,λ_ _ _ H _ I h=>Z #[Z,H,I.tok _,BT!,h],
Ll?,by have e2:DD! (op==CmpOp.NotIn):=by cases op<;>first|rfl|show M? A! h2,
Lm?,by have cz:∀b∈CC Z,b∈Cg!\/BU!:=SZ (h! hb),JdR,(h1.extBut jx! D.i1z),JdS,(rR.extBut jx! D.l1z),
JdT,xs[j]?=D! x->ds[j]?=D! d->Z,JdU,xs[j]?=D! x->ys[j]?=D! y->R x y,JdV,max (v+D1!) 0,JdW,(d! H7 hd QEO),
JdX,(d! H7 v6 (Et ii)),JdY,(JN! CP vS []),
JdZ,by unfold Ih;rw[AD (by show JF (BQ h.symm)),AF (by show Z),Z,Z];lia,Jdd,(l.set i H9!)[j]?=D! (q',Z),
Jde,aT G sB l.x,Jdf,d! H5 d JzL,Jdg,PL! kT! Hx Do! Z Z,Jdh,PL! kU! K0 Do! Z Z,Jdi,QDR (QDG (isTrue e o0 Z)),
Jdj,Rd H d (.dT GE),Jdk,Rd H o (.dT CV!),Jdl,QDb AN! Z (Z i VW),Ln?,by show Bg? ZS (HK e2 f2 ?_),
Lo?,by show Bg? ZS (HK g1 g3 ?_),Jdm,PE X (.Name x AG!) (Cz i),Jdn,PE X (.Name x AG!) (tC v),
Lp?,by show DL! B2! #[b,hb,UJ! e ha] Z,Jdo,f b o e ?_ ?_,Jdp,QDy (tCB r t),Jdq,QD3 [b] b,
Jdr,te (QAV u v' v2 v3 v4) H4 Z,Lq?,by show Rw? H4 pv! zS,Jds,Found (Lb m c cV!) ts,
Jdt,∀t,RN t Z=if Oo! then sh else 0,Lr?,by (.have#[o',e1]:=QBA hx;show#[o',(hs.2 b (BP Z)).trans e1]),
Ls?,by (.show SC?;show#[sl,(hs.2 b (BP Z)).trans e1]),Jdu,by show Ax (nO!) Z;rw[Ae (bt! Z)];show e,
Lt?,by show OJ m.base m.xZ m.line DY NN PySem.F.type_dict_pop QBE,
Lu?,by show OJ m.base m.xZ m.line DY F_ VP QBE,Jdv,Found (K52F.IU (K52F.OF m f c a S)) ts,
Jdw,OH Z as (CD! EG!),Jdx,Pg Z as (CD! nt!),Jdy,(E3 (Y_ dd) (TZ dd)),
Lv?,by cases b;show#[Jx8 x (by rw[Jd!]),A!],Jdz,Paired R (as++cs) (bs++ds),
Jd0,(d! H9 p (av! gN { o7! with BG:=(keepR G R).BG+1 })),
Jd1,(d! H9 p (av! gN { Ay G ts with BG:=(Ay G ts).BG+1 })),Jd3,QFQ n5 mK,
Jd4,lc! "give_back" "House.give_back" yM qI p5,Jd5,lc! "give_back" "House.give_back" yM fG dG,
Jd6,l4! "need_holding" "House.need_holding" O1 f4 fd4,Jd7,l4! "need_holding" "House.need_holding" O1 qV qF,
Jd8,l5! "add_to_record" "House.add_to_record" yL f5 fd5,Jd9,l5! "add_to_record" "House.add_to_record" yL qH pq,
JeA,B4! C "lose" "House.lose" yN PT! qN p9,JeB,B4! C "lose" "House.lose" yN PT! fL dL,
JeC,B4! CW "give_back" "World.give_back" Tv at! f2 d2,JeD,B4! CW "give_back" "World.give_back" Tv at! N6 Og,
JeE,QFb N9 Oj,JeF,Gf! (model P w) X.A (PD! pyNext it) (λr s1=>r=none/\S1! H s1) E s,
Lw?,by show FG (T.item Z A! A! hc i [] s5 _ H5 JzS I5 (VB ae) jv go) ?_,JeG,Ok.sz s.ok hn,JeH,YV! Bs! LZ!,
JeI,¬(1<=k/\k<=ys.length)->Z,JeJ,Fv PassesOwn.never A! Z Z Z,JeK,mt!=[]/\nc! u,JeL,My fi h=DF!,
JeM,∃its:Y!,cX!/\Z/\JC!,JeN,KB OX! || TW! Z Z,Lx?,by have fin:bg! w s:=#[z,H,I,US,q],
JeO,λi j=>OK! (VU.getD i []) (VU.getD j []),Ly?,by have#[w',hw,US]:=Cs! Qa3 v v o (YO! vs k) Z,
JeP,∀i,Z->QFX (SE! i 0) k,JeQ,∃b,lU! x Z/\BW!,Lz?,by have s1:=aW! Z AT! hl,JeR,(.t bv lc),
L0?,by intro ht;show BO! _ (Nx! #[RA.mpr (Z Z),by rw[Sp!];simpa using ht]),JeS,Xr! (CQ! Arg),
JeT,y=BQ!/\DF Kx H a Z/\R (Z),L1?,by show B2! #[q,Nx! #[hq,?_],e],L2?,by rw[hb,Ab];rw[hb,S.ob] at e;show e,
JeU,x! #[A!,A!,A!,Z],JeV,by have e:=Cx! (λz=>z.cps.toList) e;simp only[join_one,Eh] at e;show Fd! Z Z,
JeW,Z Hm!=Db Hm!,JeX,lJ! ty (λy H1=>td σ H1 λx H2=>Z  x y H2 Q),JeY,List.Pairwise.map _ (λa b h z=>h (Z)) Z,
JeZ,(d! H1 B3! (.dK (Hs! (pQ!)))),Jea,by unfold Aj;rw[CM,AN e],
Jeb,by show N?;show SL?;show SA (h₀:=LS!) I.ok.mod.Z' Z (QAl (λus s1 #[vs,H1,I1,r,q]=>#[I1.PQ,?_])) he UT;show Z,
Jec,FG (O3! Z s2 H2 I2 q2) Z,Jed,Jn0 M3.fn T M1,
L3?,by rw[Es!] at e;show(Dd! b u e).PZ (Z) (λc q=>U! (Ae (ne q)) q) λc xs q=>U! (Ae (ne q)) q,
Jee,by rw[K5 _ Z];unfold kvsOf;rw[ZF];rfl,Jef,OH Tk as VU,Jeg,((FH! b).map f).sum,
Jek,(en::fi::iq::pd::po::QB9).Perm (Z),Jel,Kg! (QEH BA! (Kg! Z)),Jem,#[Z,?_,ot! (λc o e=>?_) Ab],
Jen,KX!->Z->kh!->nH!->IN!,Jeo,QAE Z Dp! G1 Z CY! Z,Jep,Gp! HC Bs! JR! ds,Jeq,k t VF! _ UX! (yh (i:=0) Ab) Z,
Jer,Pf (a:=.t bv lc) #[YV,eW],Jes,h AB s σ H Q I hw,Jet,(λt=>¬D t\/sR qs t),
Jeu,(Ae (λy=>by rw[y,ef] at z;cases z)),Jev,o! I.ok.glob (I.mod.glob.keeps I.bk),Jew,KM U' e (λz=>mO! S6.dr),
L4?,by show ZR (JT Z A! (ZR (wpAny_updateSeq_pair Z Z))),L5?,by rw[AN (show ¬(Z<Z) by show YY! (Z Z))],
L6?,by show FW? Z (QDd Z Z (ar! 4 Z b9! 5 Z Z Z)),Jex,Gk! (Fj (Au Cv b8! EQ (A4 _))),
Jey,∀w' s',nT!->RelV (o.getD Z) w'->Q w' s',Jez,Mg (V_ tf (V_ (uV K) (Cz 0) mw!) (Cz 1)),
Je0,QBf I.laid UF (.dT []) Z (Jo8 Tk I.big),L7?,by show#[Dn!,GO!,X9 M G x,?_,?_,FM!,Lq!],
L8?,by show Fc? Mb Z Z (λj σ H'=>Z) Z (λj σ H' _ h9=>Z),Je1,show TN! QDl by rw[ZA];show C0! MM,
Je2,(by induction p with | nil=>show q | cons h _ ih=>show A6? h),
L9?,by show Cp? Z Z (Z Oh! T);show Fb?;show pt! Z,Je3,(C_ (ZS (Bp! (ZS h))) dy),
MA?,by (have:FD hl t=[]:=by unfold FD;rw[BR.mpr (A8! (by have:H!≠t:=λz=>c (B2! (KF! z));show AQ?))];rfl),
Je4,by have:=L9 Z hb;show I? RG;show this,Je5,by show Am? (x=q);subst h;change Z=Z;lia,
Je6,k t (VL! Z) _ (Af s3 (G7! s5 s6 UX!)) (xm Ab) Z,Je7,x.2.AL.length+T6 l+r.2.AL.length,
MB?,by show k _ (S2.fld MJ G.AY (Fb!)) (QCc RF),MC?,by unfold LN;rw[AX];show BA?;change Z=Z;show z?,
Je8,QEW EK! [] Hb!,Je9,QEt hs he (Jy0 Z hd Z r9),MD?,by show SJ? v6 (Aj ii tb) (Sr S.dO hb fo),
JfA,(Af s1 (Af s3 (Af Z (Af s6 Z)))),ME?,[_,A!,p,C,Z,_,_,A!,Z,Fe? w! Z Z Z Z (tk t) a Z Z Z],
JfB,I.sk (its':=its++UM) hH e Ix (YM! r2) ?_,MF?,by rw[Oa (k:=j8!) (f:=Uk!)],
MG?,by have hl:us.length=ps.length:=AE! r.length (N6! _ _ _ _ Z),
MH?,by have i0:JR p W H Z:=Ov! (SN b o (wP s1 eb) hb),JfD,Z (q::qs) k=D! Rs,JfF,Tc! RecAt H' as rs,
JfG,lw! Z "tuple_iterator" (#[ZZZ,FS l1,nm!]),JfH,te (D! u::QC0) Z IT!,JfI,(ZB _ (ZB _ h)),
JfJ,Z Z AX! g.yt g.yr g.mQN g.mQG,JfK,cE! DZ ha.1 Cy! Aw!,JfL,QD7 W.MY n=D! (UV io),
MI?,by show ZR (FF (Z) (λ_ s' hq=>ZS (ZS hq)) λ_ _ e=>e),JfM,uO Hb! (λb=>Z) ex AD!,JfN,WtE ET! l G G' bs,
MJ?,by show#[x,_,_,A!,A!,zS,D3 (by change 0<=20000;decide),?_],MK?,by have:h=j:=Oq! (j2! t1.symm Z),
JfO,λm=>by have#[o,e',_,h]:=x.some_at m;show i?;cases e';show P! h A!,
JfP,∀(l:Addr)(H':Hp),Pb!->bQ! (XV (Z mH!))->TD->TC! l,JfQ,B4! C "is_spent" JW4 Jbn Gi! qe qw,
JfR,PL! Y5! O0 GR! fP fdP,JfS,PL! Y9! K2 Hw! f1 d1,JfT,Full I n f c a,
JfU,KW! (λ(x y:Addr×CU)=>HQ x.2 Bi!) W'.qs V'.qs,JfV,lc! EP! "House.make" Jmw kT kg,JfW,lc! GL! JW1 Jbu mZ lV,
JfX,lc! "tick" "House.tick" Jmt qg qx,JfY,To! JXO JXP Nh Nz Ob,JfZ,To! "pass_came" JXR Jbm N2 Oc,
Jfa,To! "ask_came" JXt Ky N8 Oi,Jfb,To! JXu JXv F9 N7 Oh,Jfc,To! "let_came" JXx Kw N4 Oe,
Jfd,l4! BM! "House.hold" Jmz oN mh,Jfe,l4! FC! "House.drop" Jm1 oH lr,Jff,l4! FD! "House.take" Jmu n8 mO,
Jfg,l5! "came" "House.came" Jm2 mY lU,Jfh,l5! "added" JWv Jbv mU lO,Jfi,l5! "given" JWx Jbt qJ p6,
Jfj,B4! C GS! "House.let" Jmx PT! nD my,Jfk,B4! C FE! "House.free" Jm0 PY! oJ l8,
Jfl,B4! C JW6 JW7 Jbo PY! qS qD,Jfm,B4! CI "still" JXn R0 BD! m_ ml,Jfn,B4! CI "result" JXo Np BD! nC mn,
Jfo,B4! CW "inquiry" "World.inquiry" Oy KJ! Ml Mt,Jfp,S6! Aa! TP.cl M3.mt G3 HJ M3.bd A9 Z,
Jfw,∀H2,Ei!->bL! (ma! (Ho! A7).map)->DK!,JgA,Lb m (λh=>Gn! (Lk Jt! h) (cf h)) (My Jt!),
JgB,B4! C "part" "House.part" Jmv U4! nZ mF,JgC,B4! C "passed" JW0 Ry VM! qU qE,
JgD,B4! CW "letters" JXM Kv BD! N3 Od,JgE,B4! CW "let_all" JXz Ni nv! N5 Of,
JgF,B4! CP "letters" JXJ K4 BD! qQ qB,JgG,B4! CP "taken" "Post.taken" Rz KJ! nY mE,
JgH,B4! CI "first" JXh R1 VQ! qK p7,JgI,B4! CI "second" JXm Nn U7! qM p8,JgJ,Kk! Y6! K3 Ob! am fR dR,
JgK,B4! CD "held_by" "Desk.held_by" T3 [Bm!,"a"] oF lZ,
ML?,by show wpAny_pyNext_list_item st i4! (x:=u) QCl QCU,
MM?,by show#[_,A!,_,A!,OM AT,OM ta,Z,cb! Z,Ll AT,Ll ta,_,A!,?_],
JgL,(GX! OT js nv.toNv kD.toNv (by rw[e,e2];show Jw2 x.qs _ h1) Z (QC! ey gE x.ys)).1,
MN?,by (·(have e1:mk! Am!=JzU:=W!);rw[e1,<-BH];show W4.keep (QCV (nl! xA))),
JgM,#[x.hn,Z,x.on,Z,x.ke,x.rn,Z,Z,x.new,x.hk,x.lk,FL!],
MO?,by show AO?;show Bn?;show CC?;have#[a,e,#[xs,hq],q]:=q1;subst e;cases r1;have#[its,rv,p,hz]:=I1.list hq;show UZ i4! ?_;show SM? (Z a _),
MP?,by show#[U?,p,C,dx,_,_,A!,hp,w!,Ai? Dq! (E5 _) _ A! v6 _ A! g1 _ A! _ Z],
JgN,SA (first:=Fl!) (h₀:=LS!) I.ok.mod.Z' hm.kp (l6! ha s1 H1 I1 q (λus s2 #[vs,H2,I2,r,q2]=>#[I2.PQ,?_])) rO UT,
JgO,Z λv hv=>(N8! nd).1 (LW hv).1,JgP,Cs EI! X.w,JgQ,AV.off W1 (Ov! Z),JgR,Kp.trans (Kp.trans (QA5 Z) Z) Z,
JgS,(LN l t h).map,JgT,QCh /\ (l.x=GW!->Z) /\ (l.x≠GW!->Z),JgU,n∈ns/\(u=1\/u=2),
JgV,oh! arrOf Z=aJ! q.map (λi=>vs.getD i GM),MQ?,by rw[exec_Assign_Name_used _ _ _ _ hsw],
JgW,De (Z JzA) (l! Z)=none,MR?,by change Fe!=FV! (Ck Ai! tb _)\/_,MS?,by change Be! (T! (OV (AT! v) Z)) _ _,
MT?,by ·(have e:Z:=by simpa using hb);subst e;show#[Z,Z,Z,Z],JgX,∀b o u,S3! ay!->Z6! ay!,
JgY,(zp1 Tk l1).objs.size,JgZ,(((Lb! a (R6! λ_=>(Dc!:Az!))).push (Yp! E7! OE! 0)).push (Yp! F7! Dc! 0)).get?,
MU?,by have e':b=a:=hA b (Tr! q),Jga,∀x,(CF! Z Rq!\/CF! Z Ha!)->∃c,Z,Jgb,∀(l:BF!),(QCX)->Z=l,
MV?,by have yo:∀b u,Tj!->Z:=λb u e z=>Z,Jgc,λo e=>Mk! kA4 e Z,Jgd,Cf! QDD-Cf! 0,Jge,(pO A9! k).toNat,
Jgf,(pO qs h).toNat,Jgg,{ s with heap:=lw! JM! Xt! (#[ZZZ,UK! lo,PP hi u,PP 1 v]),toks:=tk },
Jgh,[("h",1),(Bm!,0)],Jgj,∀h',Z->uS h' UF Z Z->(QDn)->Z,Jgk,if Z then Z else(Bf!,IR,t),Jgl,v*48271+k*7919,
Jgm,λu s1 #[x,H1,I1,rx,q1]=>QBI hi (λiv s2 #[y,H2,I2,ry,a,v,ex,g,q2]=>?_),
Jgn,λAB s σ H Q I h =>wpAny_Dict_empty #[MN!,_,Z,A!,h _ (X7! (ZG _))],Jgo,λx=>x.setIfInBounds 0 jF!,
Jgp,∀{xs:C!} {us:Y!},Ig!->Ej! xs.all Xr->Z,MW?,by have hsz:3<ts.size:=b4! t6,
MX?,by have hsz:EJ! (its.toArray.size+UM.toArray.size):=by rw[BO,BO];lia,
Jgq,∀(ER:Value) (A:Around) (outer:CL!) (s:Shared) (H:Hp) (vs:C!) (Q:VK) (E:XK),QFD (envOfC qual (Ak st) UF f ER) (PG! sp) Z,
MY?,by have#[z,lo,vs,rel,dd]:=Js3 Dd! hd,Jgr,λr=>Ti! k r k q,MZ?,by have oR:tn 0 s3.heap:=U! vI tY,
Ma?,by have yb:tn 0 h1:=T.keep 0 _ _ oR λb hb o e=>(yy.2 b (BP (AU e))).trans (ZT _ e),Jgs,λv H'=>D.nx p0! H',
Mb?,by simp only[Te! (¬(AN!<0)),GB,CL,Z hi],Jgt,∀(f a:Nat)(G:Z),1<=a->a+f<=n->Z,Jgu,∀i,Z->i<k->QBV k (SE! i 0),
Jgv,∀as:Z,Ct! (Bd! Z) (Z Db!),Mc?,by have#[z,lo,es,ep,as,raw,hz,ks,at_]:=Jlt I hd,
Md?,by have m0:G.h∈Cg!:=by simp[CC],Me?,by have m1:G.o∈Cg!:=by simp[CC],Mf?,by have m3:G.r∈Cg!:=by simp[CC],
Mg?,by have#[tZ,q2]:=a.slot b _ q hm,Mh?,by have#[o,e1,_]:=(I1.stack.mem (o! hU hb)).2,
Jgw,Value.builtin JPm == Value.builtin "object.__getattribute__",
Mi?,by have nw:FX!∉PB!:=λm=>T4! (x.new _ m).2 (CT! this (KN! (¬G.AY<G.AY) (Int.lt_irrefl _))),
Jgx,(es.filter λz=>z.hash==e.hash).size,Jgz,AZ! (Jf! i).filter b<=ts.length,
Jg0,OZ! (H2=G0! H p ys/\ys=Du! Z i Z),Jg1,Ak! (Z t (l! ht)).1,Jg2,(IU L).flatMap,Jg3,∀H,Gp! DF t Z QEb,
Mj?,by have#[kvs,vs,h1,h2,h3,h4,h5]:=Jsx (P:=P) Z Z,Jg4,{ G with BG:=Fb!,hand:=TV!,AL:=mr! (ja Ai! tb+wt) },
Mk?,by have ON:aX! (EY! G.h (C3 (C7 Bk! tb))):=λb' o e h1 h2=>Z8! (λe'=>JzP h2 e'),
Ml?,by have#[b1,b2,b3,b4]:=Fp! Z le hle,Mm?,(by have vB:d2≠d3:=λz=>by rw[<-z,Z,Ab] at h3;cases h3),
Jg5,Al! #[(em z hz).1,(em z hz).2.1],Jg6,λc=>AT! (BL! c),Mn?,by have zS:CF! H4 Zo!:=KM VZ (T7! ex) wm,
Mo?,by have tw:∀z∈A5!,NQ m z:=Al! (x.ok z (o! es (mem_mid hz))),Mp?,by have#[q',G',WD,e3,_]:=eR k (OJ! Z),
Mq?,by rw[Yt! ((Z:EF).hs=W.hs),<-z,Z] at this,Jg7,λb ob e n=>jp n (Ch! Z Z e),
Jg8,{ I with ss:=EL! I.ss (DC! s) (UV xs),fs:=EL! GZ! (DC! s) (PP FQ!) },
Jg9,∀(x xf:Addr)(as:S!)(ts:F!)(L:X!)(H':Hp),Z,Mr?,by have xb:YL p W I H H2:=λb o eb hb n1 n2 n3=>Z,
JhA,∀W',Z->W'.qs=JzO->R v W' Z ys H1,Ms?,by have hN:Cf! h.toNat=h:=BM i.1,Mt?,by have hN:Cf! g.toNat=g:=QL!,
JhB,λz hz t ht=>(Z t (IN #[z,hz,ht])).1,JhC,∀y L W' H' q G hs os rs,QCu->Bw!->QEu->Z->QD4->QDi Z,
Mu?,by have mo:∀{L:X!} {c:V!},Z:=Z,JhD,∀z,(z∈i1\/z∈i2)->Z,Mv?,by have hr5:DU 5 _:=JyS,
Mw?,by have hr6:DU 6 _:=JyS,Mx?,by have#[#[q,G],e]:=QAD A9! h k3! Z,
My?,by generalize VB! t1 [l3!,AS!]=H1 at s1,JhE,(intBits_le_64 h1 h2),JhF,(x.symm.P_ SR hi),
JhG,(Jnk Aa! Z KE!),Mz?,by have#[o,e]:=x.all c hc;show k c o e,JhH,G!->C!->lM! VK,JhI,(BI! (k r)),
JhJ,(fF (yC (QCT k))),JhK,by rintro rfl;show h v ZL,JhL,CC (KQ (YF G a)),JhM,JnS (TJ.mpr #[DI!,C0! hh]),
JhN,(by rw[ea,WY,x.al,Z]),M0?,by have ty:=hw.ty;have#[own,ok,ov,f,ho,e0]:=hw;have#[o2,e2,c2,f2]:=hm,
M1?,by (repeat (any_goals (first|assumption|wp_step))),
M2?,by (have li:(iN (List.range n)).length=n:=by unfold iN;rw[ZA,DV]),JhO,U! (AM A!) (C4 k),
M3?,by show AD λz=>TG! h z.1 k.1,JhP,(#[by rw[Z];decide,by rw[Z];decide,FI! (by rw[Z] at hl;cases hl)]),
JhQ,YW! (Z Sr!) ns,M4?,by show#[#[o,e,ex.1],λa e2=>?_],M5?,by show#[JP!,λb q=>?_,hd],
JhR,#[g0,g1,Kh! s.ip b hb,Z],JhS,AT! (fm Z)=AT! C1!,M6?,by rename_i e;injection e with e _;show Fd! (e▸a) FB,
M7?,by have e:KS! Z:=x;change O5! Nw! Z;show k a _ IK! e,JhT,W.takerIn K C Z=D! SB,JhU,o! (Z i (BL FB Z)) q,
JhV,Jls 10 (((c::r).reverse.dropWhile xy).reverse),JhW,jp (Z c Z r) r,
JhX,by have#[m,#[o,es,ep,ho,r],_]:=id I.loc;have#[sl,hL]:=u.any ho JF! Z;show Z,JhY,(WP [bn Dh!,bn Bl!,QBR]),
JhZ,ET 4 Z Z nv! (Ts),Jha,AV CW Z CP H pw W,Jhb,Ah (o:=Mf p d) hp,Jhc,Z! "held_by" "Desk.held_by" T3,
Jhd,al.filterMap (Z n u),M8?,by show M? qc.lt (DO! z2 (DN _)),
Jhe,AV CW C CP (EY! r Zo!) p { W with c:=mk! 0,ls:=W.ls++[] },Jhf,Ov [Cc!,Gh!,Dv!] H Q E,
Jhg,BX!/\Z/\cQ!/\Il! f/\Z,Jhh,T! (W.keepIn Kx ac!),Jhi,(Ei!/\Gr!/\ys=ll! (Jf! Z).map A7)->Z,
Jhj,Ch! s6 s5 (wP s4 hp),Jhk,(.ok _ _ c ef),Jhl,Z (A5!) y.n 2=[],Jhm,(Ag (TF! (QDp FM EQ) (Ao (pv 4)) A5)),
Jht,Zk! ha (λv s1 #[x,H1,I1,r1,q1]=>Z AB s1 σ H1 x v Q I1 r1 q1),Jhu,(RG fo Ac!).map,
Jhv,by simp only[PyData.depthAll];show Nat.max_le.mpr #[Z,Z],Jh1,Ci! E3 v as Z,Jh2,lU! e [g! FQ!,FS xs],
Jh3,PH! H' aa m6! Z Z,Jh4,E_ EI! X.w _ _ _ Z,JiA,Pi m i1+(Ih m Z+Pi m i2),JiB,PL! kX! Ng CX! Z Z,
JiC,PL! kY! Ku Hu! Z Z,JiD,PL! ka! Nl EQ! Z Z,M9?,by show#[y',CI! Dw!,U! en Z,Z],
JiF,KN! Z (AA (AA (BQ Z) Z) hn),JiG,IsTup h ka its,
JiH,by have:=GX.ND.pm.length_eq;show FY?;have:=(wi.wg.BX hq).1.ok.oz;lia,
NA?,by show Gt! (load S) (wpAny_load a3 (ZS ?_)),
JiI,(bi (EL! Z (l! s) (FU! FQ!)).length≠I.m->∀(x:Addr)(H':Hp),Td! { W with G_:=Lx! }->pa! Z->pj!->Tb! Zo!->IN!),
JiJ,(∃xs,Z/\k=!xs.isEmpty)\/(∃xs,Z/\k=!xs.isEmpty)\/∃kvs,Fi! KO!/\k=!kvs.isEmpty,JiK,X9! JB (Ny! Z o0)=Z,
JiL,[wp (EZ bv),bn ".",QBR],NB?,by show G? #[d,by change FV! (Ck Ai! tb _)=_;rw[put,AF d,d]],
NC?,by show#[_,A!,p,CI,dx,_,A!,Ps! Z Ab,w!,Z,Z,Z],ND?,by .show u i j WX (LY (HV hj) vM),JiM,lz! (i0! Z u Bs!),
JiN,((Lk! f).map ZX).sum,NE?,by obtain e|hb:=Z;(.show FB!);.show M? Z Z,JiO,(hs.2 y! ne).trans e,
NF?,by show Rr? (i=kvs.length) #[fz,Ay!] (FW! hd pv),JiP,((S.st q mq).keep ((JS Z).trans (JS Z))).keep Z,
JiQ,Tx! (g=f) (D! u) (mA g),JiR,(step y _ y7),JiS,Gw (AG _) (cB! Z Z Z),JiT,Kl! (call (GE! id) (v::us)),
JiU,Kl! (KM! call f us),JiV,(E4 (Jb2 Jwa SC Z Z)),JiW,Inv (QAg JL! Z) [] Z H1 { s1 with heap:=h',toks:=t' },
JiX,PI X tg (ly! (.Name Xt! p) Z) (Z ta),JiY,[bn Ah!,bn Str.empty,bn Str.empty],
JiZ,UD! { G with BG:=Fb!,holds:=Nf AK! ad Z },Jik,UE! (storeName o0 x u),Jiq,LL.MN g s n' u GM! Ph!,
Ji4,hc _ (lookup_mem h) (Z A!),JjA,#[j,hj,bj,A!],JjB,Bo! (.Dict [] [] AG!) Z,
NG?,by show Ca? ((Z Z).ask g (nY! Z) Z Z),JjC,#[BM!,AN!,g,b,JzW],JjD,#[H1!,AN!,b.1,b,g],
JjE,s.heap.IsTupleIter it t i,NH?,by show Cq #[_,A!,_,A!,Pa YV #[_,A!,A!,x! #[_,A!,_,A!,?_]]],
JjF,DA! (JzZ Rq (Em (Jsc Z)) (Cf (ED.or Hn) J5! g.TR.str CV lk!)),JjG,i6 h' h0.objs.size es PU,
JjH,UA X (binaryOp Z) (pI λi j=>En! Z),NI?,[FO? C dx hp w! Z Z Z (QDt Z)],
NJ?,[Z,Z,_,_,A!,Z,Z,Z,Z,_,A!,Z,_,A!,Z,aY!,Z],NK?,by show#[_,A!,Z,_,0,_,A!,A!,Z,QFZ,?_],
JjI,λh' eb=>Ao! (I.turned (t':=GB!) (λb ob hb e=>eb b ob hb e) f0 f1 f3 f4 f5),JjJ,[TP!,g! Dz!,FS hd],
NL?,by show#[mS! Z (Eb! (h! ?_)) (x.rc.less hi (λl h=>IS!) λt ht ne=>Z),st],
JjK,vo λa' u v' v2 v3 v4=>x=FS a'/\Z/\tt (QAV u v' v2 v3 v4) Z Z,JjL,(by unfold nums;rw[HZ! bk.OY];show bk.BX),
JjM,Mod Kx X.mg LS!,NM?,by show#[_,A!,x,_,Z,_,A!,A!,IE!,A!,?_],
JjN,Z->Pv i ys H2->(QAk)->tt (lH! Z) H2 λb H4 =>Z1! (te (lH! Z) H4 a0!) (N ys H4),
JjO,Gr (G1:=QD8 Z) (Jix g3) (by unfold CC;rw[Jbl]) A! S1 k,JjP,Ny! N1! o0=[MD! (lP! a),MD! (lP! b)],
JjQ,#[λi H=>KC! Z/\i<kvs.length,λi H x H'=>H'=H/\Z,λi H=>KC! Z/\kvs.length<=i],JjR,PW X (.BoolOp Z [a] AG!) tA,
NN?,by show Z (Zk! ha (λv s1 #[x,H1,I1,r1,q1]=>Z)) hm,JjS,cI! [g! k,bn Z,g! s,g! g,BQ!],
NO?,by have:=Cc Di! (UV d2) (A3 A4! (UV d1) QAw),JjU,De (Hs! ls) (BI! n),
JjV,Ew! (Eu! (Ep! (YA K a).stop DK! (YA K a).go (YA K a).SM (Kw! (Fv! VI!)))),
NP?,by have:as.length*19<=3*19:=EL _ Z,
JjW,f_ b' o' (IY! s3 s2 (JI b' o' e' LK)) (λz=>LK (Gq! (by rw[z];simp[Dl]))) λz=>LK (Gq! (by rw[z];simp[Dl])),
JjX,(La! (v<0) (D2! (v+D1!)) (min v.toNat n)),JjY,s.heap.IsTupleIter i1 l1 k,
NQ?,by rw[e1,Fg rs (λt=>! Z) t,Jc6 pm s.ok.rn],JjZ,RelV (kV k) u,Jjg,((∃z,b=ax z/\Z)\/∃i:Nat,b=RD i/\Z),
Jjm,FY! H2 v6 Et ii,JkA,FY! H2 Ab! Hd AK!,NR?,by show#[[],A3!,A!,λv hv=>by simp at hv],
JkB,ET 1 Z Z [Ob!,am] Tt,NS?,by change Fe!-FV! (Ck ii sB (oO!))+Dx t Z=JzJ ls,JkC,QAY w! ML.mt GL ML.bd Z,
NT?,by show Z p pw r V h A! S1 er #[pw,bv,V,A!,S1.wo,QAm iw (iw.at S1.wo) (λy H' s st=>#[hs,os,rs,s,st.rep,#[?_,Z],QFY k])],
JkD,PB m A' B' Z AL! ys,JkE,Gk! (Fj (Au Jnn ph! Ai (A4 _))),JkF,(YP! xs BK! MY! x.2.2),
JkG,Mg (V_ (pI λi j=>AI! (Rj! (j<i))) Z mw!),JkH,pf! M3.mt G3 M3.bd,
JkI,Z _ _ ha (S.tup_ne ha).1 (S.tup_ne ha).2,
JkJ,(AR! h.objs.size).filterMap λa=>if a=L\/Z then none else Du! LR! a (λo=>(a,o)),JkK,Pairs aV! es vs,
JkL,kvs.length<=sizeLine/\a5! /\ ∃xs,Ky!/\h.DictOfH (Xs! (Cs P w)) a xs,NU?,by have s1:=G2! l3! AS! h1,
JkM,(d! H4 Ab! (.dT (EL! (ON! Uq!) (tk FX!) (Cz! a)))),JkN,QCp (PP UC! GB!),JkO,by unfold TY;rw[I_,hf];show Z,
NV?,by .have#[a1,a2,a3]:=T8! hp;show#[a1,Z,a3],JkP,sp (Ko!::bp!) Z (λv H2=>v=AS!/\S5! x H2) E,
JkQ,KN! Z (AA Z (A_ hd)),NW?,by show D? ((En _ _ _).2.2 t h);(.show y?);.show Cm?,JkR,#[_,A!,TA!,QE4 Z Ab iF],
JkS,EZ J2!++":"++bB!++":"++EZ Mj!,JkT,SeqAt.EqAt A s u v Z,
NX?,[_,A!,p,CI,dx,_,_,A!,Z,w!,Z,Z,Z,_,A!,Z,_,A!,p,CI,Z,_,_,A!,Z,Z,Z,Z,A!,Z],
NY?,by .change M.AK.filter _=kJ! _;rw[show M.AK=G.AK from x.AK],
JkU,by (have:a≠p:=λz=>by subst z;show Z);rw[Ae this];show e,NZ?,by show Ru? A4! [.n h] DI! Z pR.1 pR.2.2.2.1,
Na?,by show Ru? EQ! [.n h] DI! Z pR.2.1 pR.2.2.2.2.1,JkV,UC ET! Z Z tb G G' l,
Nb?,(by (.have z:KC! (.IV ob v):=z;rw[S.ob] at z;cases z)),
JkW,swapsWith value (AC! (Z o Z pos')) pos.line o0=Hc! IR,
Nc?,by show R_ F_ JP! JP (wP PySem.F.args_dict_get_3 _) (Z Z a Z hd r) Z,
JkX,Jvw (Mg (V_ tf (Cz i) (as! c))) ta tb D σ H,
JkY,∀(X:Cx K),X.prog=P->X.w=w->A1!->∀(i:Nat)(AB:Ch)(s:Shared)(σ:St)(H:Hp)(E:NE),I!->(YF! (Md X AB H b))->tn i Tk->Z,
JkZ,∀(X:Cx K),X.prog=P->X.w=w->X.A.handled=oa!->∀(i:Nat)(AB:Ch)(s:Shared)(σ:L2.St)(H:Hp)(E:NE),I!->(YF! (Md X AB H b))->tn i Tk->Z,
JlA,∀base:F8!,K.In Bf!->mR! base.Ns->FY P w K mg Bf! Z Z fa fd Z Z,
Nd?,by show FG (ht _ _ _ _ _ _ s8 _ _ _ I8 Z) ?_,JlB,(by rw[Sy hr];change Z+B<=_;lia),
JlC,T! (l.all (λp=>AQ! != Rq!&&AQ! != Ha!)),Ne?,(by have zJ:b'≠r:=λz=>by rw[z] at e';rw[J'] at e';cases e'),
Nf?,by have kt:=YL.FV Cb! WR.at_ fr,Ng?,by show wv Z (by simpa using hx.symm) Z A!,JlD,(Jb3 (Hz (pv 6)) Z Ms!),
JlE,(x.above y c (LG h)),Nh?,by show#[R2? a ta ha],JlF,Pb!->Z->S5! l (EY! l Z),
Ni?,by (have ej:j=UU.size:=by show C? (j<UU.size);(.rw[Te! (UU.size-j=(UU.size-(j+1))+1),TQ] at hr;cases hr);.lia),
JlG,Z_ (Om! EG!) al,JlH,(meets_dict_get Ub! a bf! Z),JlI,gh Z b5! (EZ n),
JlJ,by rw[e];change Aj (Ck Ai! tb _) tb=_;rw[put,BY!],JlK,(BL h1 (UP h2)),
JlL,Z->fs[i]?=D! f->ws[i]?=D! w->Z->Z,
Nj?,by subst e';have#[its,r,pl,hz]:=Z hx;have hlen:=r.length;show Z Z (by simp only[BO];lia) #[H,I.tok _,U! (Jcz r) q],
JlM,0<=AV!/\AV!<12/\0<=A7!/\A7!<60,JlN,storedH_old (atKey_of_get nd hj),JlO,FY! H7 v6 Et ii,
JlQ,k (j+1) r bw! v!,Nk?,by .obtain e|h:=QAt;(.rw[e];show x! hi);.show O?,JlR,(Dm ((Z_ (S2! Z) al).map iE)),
JlS,TZ! R (xs.eraseIdx j) ys.eraseIdx j,JlT,TZ! (OO Z) xs TZ dd,
Nl?,by show Gt! (Pr! Builtin.SmallTypes.ownedTupleIsFree z) (ZR (DE hz A! (x:=GM) A! (ZS ?_))),
JlU,KW! (λ(y:Int×Addr) (l:LT)=>QFi H1) L ls,JlV,PS X (.AugAssign Z op value AG!) Z,JlW,QAY wE Jn! G2 GU! Z,
Nm?,by show ZR (HY i1 i3 Ix ?_),Nn?,by show Gf (λc=>lv! (out (B_.mp (BN c)) t ht)) (λc=>?_),
No?,by change C7 M.hand tb=TV!;rw[Jd!],Np?,by show FQ? W.c FJ! W3.po (Fh! zl) (λt1 H4 ht et S4 f_=>?_),
JlX,(Dy al n 2++o9! al++nS!).Perm (rg m),JlY,Dy al n 2=[]/\nc! 2/\se=[],
JlZ,QDO ZD! ((BP!/\Up!/\Z)\/(BP!/\HD!/\∃wt,QAx Jo! wt/\Z)),
Jlm,∀{l:R!},(Db wv).Nodup->∃s:R!,s.Perm l/\(s.map wv).Pairwise LB,Jlx,QFB Z (BI! (CG!):Key) e Tg!,
Jlz,RR m V V' bl WQ zs VS Z Z Z,Jl1,QFl (Eb! (h! (Jox (GJ! Z) ht))),Jl3,((Z jx! Z).extBut jy! Z).extBut SJ! Z,
Jl4,FG! (no r (O7! hl BS hr)),JmA,∀cls i,dQ AD! i->Z m W W al al ys ys H dd (RD i)->Zt! AD!,
JmB,JQ! (kD! 1) 0 (AC! 1),JmC,(Z O h h1 QDK u Z),JmD,f a _ e (no a _ e Z).1 (no a _ e Z).2,
JmE,((wt=0/\Zt! NW)\/(wt≠0/\Done p G H Z (Q (PP (Lf wt))))),
Nq?,by (have e:MO! Db nt!=(Db EG!).map QCY:=FZ! AX AX),
JmF,by unfold rg List.Nodup;rw[EY];show QFF (λz=>BP h (Oq! z)),JmG,GW H2 Z (FU! AN!) (AC! (PP (Z i))),
Nr?,by show Rt? dx hp Jl! (Hm G) G.h Z,JmH,(GE! "list.extend.loop" #[[FS S,FS h0.objs.size,FS S],[]]),
JmI,by have h1:Ci! Z Z r _:=Z r _;have h2:=Z;change Ci! Z Z r Z;lia,Ns?,by show Z (I.ok.hd hc) st Z QEq QBl,
Nt?,by show R? ZR (JU ty (ap! (wpAny_fieldsOf e0 A! ?_))),JmJ,StrLaws.occ_head z (BL! c) 1 B6!,
Nu?,by show#[_,A!,WF,_,Z,An! Z,A!,A!,Z,A!,Z,A!,#[_,Z],?_],
JmK,∀q:BF!,q.Perm (AR! as.length)->q.Pairwise (λi j=>T! (OK! (Z i []) (Z j [])))->∀h' c,(QDm)->O5! Nw! (ni! q.map (λi=>QA4 i GM) c)->P QER CU!,
JmL,Jtk P w K mg Bf! 1 Z Z [Oc!] Jr3,Nv?,[SE? A! _ A! CW MJ JJ wE TW.nS (M9 _) (λa2 rV=>?_)],
JmM,(λσ H R=>Jyg Kx tl σ H R\/J48 Kx tl σ H R),JmN,(Nf l a h).map,JmO,Slot T E9! id,JmP,Jr9 (wP s4 el) ec4 zQ,
JmQ,Calls.Name_function_global Rt! hg Z hd,JmR,Z Ub! d vs ep,JmS,Z Mt! st hx QBl,
Nw?,by show ZR (wpAny_fieldsOf i1 i3 ?_),Nx?,by show#[Dn!,GO!,A!,Jd!,?_,FM!,?_],
Ny?,by rw[Str.cps_append,Str.cps_append,LJ,LJ],JmT,λ_=>#[_,A!,TA!,Ak! (go t Z H6 _ (Af PY s6) ht Ab iF)],
JmU,E6! (MJ!->BU!->Z->b∉ex->Z),JmV,∀b ps,S3! (.rB ps)->∃more,Z6! (.rB (ps++more)),
Nz?,by rw[Yt! (IX!=Cf! 1),Jpe],N0?,by have hx:kvs[i]?=D! (kvs[i]):=by simp[hi],
JmW,λz=>S.VC (b:=Z) (by simp[CC]) OQ!,N1?,by have:its=its':=Tf! (Cx! Array.toList d1),
JmX,∀(AB:Ch)(s:Shared)(σ:St)(H:Hp)(D:Ends),l1! (t D σ H) (lN! (Z st o0) (SP X AB D)),
JmY,∀whole,Z=(do let v <-whole;standAt Z;holding [v] (truthy v)),
JmZ,Z (S:=λa b=>Rk!) λ{a b} h (e:a=b)=>by show x?;show Im _ h,Jmc,∀i h h',tn i h->(YF! (∀o,MJ!->mE!))->tn i h',
JnA,λx y H Q=>T! (J6f x y)/\Z,N2?,by have e:=JV Bl! (v::pG!),
JnB,([(a,NameKind.local),(b,NameKind.local)]:aD!).lookup,JnC,λb z=>CT! z (yn b),
JnD,((AD h1).trans (Z hf)).symm,N3?,(by cases Z with | none=>rfl | some v=>show Js9 v n Z),
JnE,∀(AB:Ch)(s:Shared)(σ:St)(H:Hp)(x:V)(xs:C!)(v:Value)(us:Y!)(Q:VK),I!->Tw!->Ig!->Z,
N4?,by have I2:S1! (EY! h'.objs.size Z) (N3! (QBT h'.push CR!)) :=I1.laid (t':=GB!) (l0!) B6! Z,
N5?,by show k? (Jvq I1 r1 ty),JnF,∀(w:World) (h:Heap),YP w h->(K Yf!).In h,
JnG,∀(w:World) (mg:wS) (fa:Addr) (h:Heap),(K Yf!).In h->mR! h.Ns->QDh d.name -> Z,JnH,λh=>Z (S:=Z) Z pS! Z t h,
N6?,by have g:z! (JM! { cls:=B5! Z,data:=Rn! #[ZZZ,Gz!] }).get? UF { cls:=B5! Z,data:=Rn! #[ZZZ,Gz!] }:=Dy!,
N7?,by have fpn:YF! (b≠s2.heap.objs.size):=λb hb z=>by have#[o,e,_]:=T.obj 0 _ pG b hb;show DL! AU e (o! z (DN _)),
N8?,(by obtain⟨hD5,stop|⟨go,step⟩⟩:=GC! i k ys H5 Z),N9?,by have I7':=I7.pinned (VB U') (wP T.obj uq),
OA?,by have#[v,qc]:=I1.cell y a z,OB?,by have cE:A0! (Builtin.Dict_items.ownsTuple jc!):=Au!,
JnI,λi h h' #[oi,e,r] k=>#[oi,k it Ix oi e,r],JnJ,∀q,Pm q n->Up lt q n->G q s,
OC?,by have#[e2,e3,e4]:=ha.2 j acc[j] (by simp[h1]),
OD?,by have g1:z! (h1.push (seqObj "list" (as.map Value.ref).toArray 0)).get? Hn! (Yp! F7! (Bd! Db!).toArray 0):=Dy!,
OE?,by have g1:GW H1 v6 Pd! (mm! Z):=Z,JnK,λb o hb=>kp2 b o (BP (AU hb)) (ZT _ hb),
JnL,λtk=>#[AI! b,H,I.tok tk,A!,q],JnM,[AM! 0,A2! (nw!-1),A2! (x / 3 % nw!)],
JnN,[AI! (n==Z),AI! (n==Z),AI! (n==Z),AI! (n==Z)],JnO,[(Bm!,0),("beginner",1),("n",2),("turn",3)],
OF?,by have hT:Gx! YV! z JJ!:=El! hz,OG?,by have L0:ce! (PD! typeOf x) T5!:=hc▸(W.Looks.ld hxo).andThen .now,
OH?,by have#[q,hq]:=mL! us (by have:=DH! eb;show yu▸this),
OI?,by have sub:∀z∈A5!,z∈ls:=Al! (U! es (mem_mid hz)),OJ?,by have s1:=L_ (B:=19) (Bd! Gj) Z,
OK?,(by have rH:d1≠d2:=λz=>by rw[<-z,Z,Ab] at h2;cases h2),
OL?,(by have vC:d1≠d3:=λz=>by rw[<-z,Z,Ae rH,Z,Ab] at h3;cases h3),OM?,by have#[vs,rel,lo,da]:=J25 I hg hd,
ON?,by have SS:s.heap.IsValIter it d i Lg! ep:=AE! hl st,JnP,λq2 G2=>MO W g q2 G2,
OO?,by have rP:=S.KW (b:=C5!) lT! (ZP be),
OP?,by have len:(a++b).length+1=ls.length:=by rw[es];simp only[ZE,BD];show A!,
JnQ,λX y=>y.next hi Z (Z) (kq! (h! #[r,AE! h2 hr,A!,ht])) (U! h3 Gu!),JnR,λe bb hs=>x.s2 e bb λh hh bh=>?_,
OQ?,by have s1:IW! Z Z Js! (.dK I.ss):=jp Z S.s,OR?,by have#[k1,k2,k3]:=k r xs _ Z Z (Ax (λ_ _ z=>Z) pa),
JnT,ZV! (0<=As!/\As!<=99000),JnU,λe o=>T4! (DH! e) (DN _ (AE (AA (BQ Z) o) this)),JnV,(Jtb I3 f3 I6),
JnW,(ZZ! j c1 c2),OS?,by .rw[AD hj,AD hj];show#[_,A!],
OT?,by obtain rfl:=Jr8 tl.rep;show#[j,A!,Dj sj,by rw[ez] at kq;show kq _ Kc!],
OU?,by rw[AD d,AD (Tk! d),AD (Tk! d)];try lia,JnX,(CC Z).Sublist (CC G),
OV?,by (have RF:aX! (d! H1 v6 (Et (Ck ii tb (Z)))):=λb' o' e h1 h2=>jp (λe'=>JzP h2 e') (mQ! ON)),
JnY,#[z.1,P! ht z.2.1,z.2.2],JnZ,Kn (CS! ZP!) z,Jne,Z g AN! (ts.filter QEf),
JoA,ItemsOf (λi v=>∃e,es[i]?=D! e/\v=e.key) acc OI!,JoB,(AA WX (A_ ha)),JoC,(AE KD! (BQ hk)),
JoD,PySem.Within mA (Rm! EG!),JoE,(Z (envOfC qual scope s.heap.objs.size f cd).kindOf (ps.zip us) R0!),
JoF,VA!->QEZ->BindsTo s fd args (ps.zip us)->QI!->Z,JoG,pk! Z GF->Cm!->T1!->CE EK! P w H s Q u s',
OW?,by show#[O7! ha hb x.t1,O7! ha hb x.t2,Z,Z,λe b hs=>st _ (x.s2 e b λh hh bh=>?_)],JoH,CT! (JO FB!) (YY! Z),
OX?,by show M? (Ck! q1 z) (Jks ey x.xD y0 Z),JoI,S.eI g3 (Z hl tb),JoJ,GQ 4 f1 d1 Zl! (Z),
JoK,Value.type F7!=Value.type E7!,JoL,S6! SC g.TK.cl Z (Z g) Z Z Ci QDI,
OY?,by (have:(vd n2 u2 ∘ λi:Nat=>Sn! g AN! n u)=Z:=Z),JoM,#[x.len,x.m12,Z,x.ok,Z,x.sh],
JoN,Fd! (U! (kE! h).1 H8!) n,OZ?,by show#[Zi! _ g,#[_,g],λh1 h2 #[o,e,r] k=>#[o,k o e,r]],
Oa?,(by .have z:AY! v6 (.IV o v):=z;rw[S.dO] at z;cases z),JoO,YK! (X6! (BP hb)),JoP,gh Z (Sg L) (Dm (QDk EZ)),
Ob?,by subst e e2 ea WY ey gE;show#[x,A!,.same A! A!],Oc?,by have#[b,h1,h2]:=h;show#[b,TK! h1,TK! h2],
Od?,by have#[_,_,_,_,o,_,_,e,ex,_]:=TY! p hk;show#[o,e,ex],
Oe?,by have#[t,rfl]:=r;cases (show Z from ty);show#[Z s Z t,λ_ e=>hl!],
Of?,by have#[jb,H7,I7,n7]:=q7;show again I7 n7,JoQ,#[o,QM! ho (by rw[eo];simpa using Z),eo],
JoR,TZ! (λ(y:Int×Addr)(i:Nat)=>Z) L AR! m,JoS,Pt en (λhz=>(JW! uB).2.2 _ hz _ Dw! A!) (λhz=>QDP _ hz _ Dw! A!),
Og?,by show Rq? gN rQ gN rQ,JoT,λz=>Z (Z j q G e r hr t ht z),JoU,x.rc _ q G hi t hd Z,
Oh?,by change QEc sB (QA7)+Dx t DN!=JzJ ls,
JoV,(Fw (lY! (A8 Fq J5! g.T.WM DA (Tn! (Ik (v:=FS Z) J5! Z A!))) (A8 Fq J5! g.T.WM DA (Tn! (Ik (v:=FS Z) J5! Z A!))) (A8 Fq J5! g.T.WM DA (Tn! (Ik (v:=FS Z) J5! Z A!))) (A8 Fq J5! g.T.WM DA (Tn! (Ik (v:=FS Z) J5! Z A!))))),
JoW,(JZ (QAl (λus s1 #[vs,H1,I1,r1,q1]=>?_)) (Ck! hs OW) (Ed! OW)),JoX,Kk! kW! K1 "form" Hw! Z Z,
Oi?,by .have#[bs,ey,sm,JJ,YE]:=pv;rw[ZA,lt,BS] at YE;show k H2 bs sm (AE! ey JJ) YE,
JoY,(d! H5 G.h (.dT (EL! (ZE! QCg) (tk FX!) nr!))),JoZ,WI H r V E m n d A B bl zs,Job,vp p W ys r V zs,
JpA,([(a,NameKind.local),(b,NameKind.local),(c,k1),(d,k2)]:aD!).lookup,
JpB,lG! (Jnt g.gy.fn AX! BB! g.U_ g.mHo (gHo g)).mono,JpC,lG! (Jnv g.g7.fn AX! BB! g.U_ g.mDr (gDr g)).mono,
JpD,lG! (Jno g.gu.fn AX! BB! g.U_ g.mTa (gTa g)).mono,JpE,lG! (Jnu g.gz.fn AX! BB! g.U_ g.mFr (gFr g)).mono,
JpF,lG! (Jnq g.xH.fn AX! BB! g.U_ g.mM (gMk g)).mono,JpG,ms! (Cx! (kw! Z) Z) AX AX,
Oj?,by have ht:t∈(G.AK++[((FX!,0):ES!)]).map (IJ!):=ht,
Ok?,by show X?;obtain⟨hy,e'⟩:Z/\k=(bi Z != 0):=e;subst e';show Z Z #[H,I.tok _,q],
JpH,#[?_,Du! p.map mv! Db!,c,Z,?_],JpI,lt (SE! i 0) (SE! j 0),Ol?,by show FS? (Rw! (.Name y py) o0 (UV Dd)),
JpJ,nR! Z (D5 Z (Os #[A!,Z,P! Z Z,Z Z] a!)) sm,JpK,Fg! hb (mU! g.X3 3 (Z h ta tb G ha c2 hb)),
JpT,#[λi H=>HN λxs x=>Z/\PP!,λi H x H'=>H'=H/\∀xs,Z->PP!,λi H=>QDX Z],JpU,Hy (Bd! sG) (Bd! Gj),
JpV,MG! v6 (.dT (EL! (OV! QCf) (tk FX!) (A2! 0))),JpW,(O6 Cv (A8 Wx J5! hl CT (DA! Aa!)) Aa! (A4 _)),
Om?,by show#[Z,#[d,o,_,ef,λob v z=>?_,A!],?_],
On?,(by show FT?;show d? Z;have#[p,h,W,rfl,S,k]:=h;show A?;show P?;show B?;show AS? (D4 (pl:=_) nN! w! Dp! G1 hr CY! a! Ci);show#[o?,dx,_,A!,hp,Ff!,_,A!,p,h,W,A!,S,?_];obtain k|⟨q,G,i,k⟩:=k),
JpX,(∀h' PU c',PU.length=es.size->PU.Nodup->Z->z! Nw! S (ni! PU.map Db! c')->Z->Z) -> Z,
JpY,Z -> YI! Z R7! (KM! .call fa QAs) (λr s'=>r=.ok (.ret (Ar! AC))/\OldK OF! Hb!/\s'.os=FC.os/\cS!) FC,
JpZ,Z n u (.w #[BA!,sn,g,th,xx]),Jpf,Z=Dp a n Z++Im!::Dp b n Z,
Oo?,by show Bg? TM (DE hz A! (x:=FS TO) A! (ZR (EE hz Ix λh₁ ot FC=>ZR ?_))),
Jpl,QAY w! M5.mt G5 M5.bd (ml! FM),Op?,by show#[m,hm.sameBut OW hCa,λh' kH=>#[_,H',Ti (s':=s') I1 I2 hn kH,q]],
Jpn,pl! E8 (M_ λhs os rs=>TD/\Ik! HC pz!/\Z/\QEE (Dm (Z A7))),Jpt,C4 (lL! (λt2 kG=>bad (Z) t2 kG)),
Oq?,by have e:((Db Z).map nB!)=Db Z:=Mo!,Jp6,MtR X Z (λx xs H Q=>HN λd kvs=>x=Gz!/\xs=[]/\Z/\az! Z),
JqA,(Ed aN! aP!++q.2.2.1),JqB,(d! (EY! a1 (XV (QAK 0 1 2 3))) a2 (XV (QAK 4 5 6 7))),
Or?,by show call_tuple_list LV! (λh' kp=>?_) (by simp only[BO]<;>show hlen▸hz),
JqC,Ax (SW! (by have#[a,e,s]:=h9;show#[a,e,s.keep kt])) Z,
Os?,by (·(have:=Z (H':=Z) λb' o' LK e'=>U! (PW! (li! wm LK)) e');show I? Z;show this),
JqD,(Ag (Cb (Zp! EQ) (aE! (mc! Aa! Ge! Z (Z g) Z QFO)) Z)),
JqE,Du! (Cr Bq! rs).map (λr=>(#[GV!,g,r.1.1,AT,r.2]:LT)) .w,
JqF,Du! (Cr Z rs).map (λr=>(#[GV!,Z,r.1.1,AT,r.2]:LT)) .w,JqG,RR m V V al al ys ys Z dd (RD i),
JqH,RR m V W' al AL! ys EA Z dd (VX dv),JqI,ho AB s2 σ H2 x y v u Q I2 rx ry q,
JqJ,#[pw,bv,V,A!,S1.wo,Fg! (Jqf x o) (kE H1 s1)],
JqK,∀base:F8!,(K Yf!).In Bf!->mR! base.Ns->FY l.prog w (K Yf!) mg Bf! Z Z fa fd Z Z,
Ot?,by show#[b,_,1,_,A!,A!,sb,A!,c,A!,#[_,sc],Z],JqL,E6! (X0!->Z->b∉ch->IC!->BU!->Z),
JqM,WI.start Z Z Z Z Z Z Z Z (m1) (m4) (o! Z sh2),JqN,subscriptTail_builtinR (x:=w) Z Z (Z) hs,
JqO,((items.toList.drop (KI items.size 0 lo)).take (QBi)).toArray,
JqP,∀(x:Addr)(as:S!)(H':Hp),(QBO (b∉Cg!) (b≠x))->Tb! Fr!->LO H' as Z->QG! (KQ (IC Z))->o4!->IN!,
JqQ,y!=H!/\AY! WF (WP (p.1.map kV))/\Ea! AQ! BS!,JqR,A3 Z (FU! y) (Df G)=Df Z,JqS,#[a2,b,b1! et,QAb Ab,QDs rq],
JqT,KM rX (U' _ _ e n) (Am e nh0),JqU,by rw[AX];show DH λi hi=>?_;have:=inr i hi;simp[this],
Ou?,by rw[AF d,AF d.symm,AF d.symm,d];lia,Ov?,by .obtain e|hq:=Jif hq;(.rw[e];show hv);.show x.nn q hq,
JqV,typeLookup (Cu! T) "__getitem__"=Hc! (AC! (GE! id)),JqW,FF (h AB s σ H D (I.UK _) hw) (Z) Z,
Ow?,by show Z? (Ac (QAZ (J8! Jsd EQ AF!) Ai) (QDA sV.nd (As Az (p2! Kp!) FM) Z (U5! (QC3 (QFk Z))))),
Ox?,by show#[MN!,_,QBf I.laid UF (Z UF d) l0! ?_,A!,q _ hn],JqX,(Cs! Fb f (λi:Nat=>Z) R (MZ H2 (Lx!)) c9.OY),
JqY,(if(Cf! (AZ! Bj! L2.V.int))<32 then Cf! (AZ! Bj! L2.V.int) else 32),
JqZ,σ=Z/\QDw/\L7! ws (Et aN!)/\L7! hd (Hd hl)/\Z/\QM H' hl/\L7! sl Fr!/\Z/\Z/\QFT,
Oy?,by show R8? a2 b1 Ab (oW! c1.symm) Z Z,JrA,JN H a Z v (EY! a (Z (EL! GE k v))),
JrB,(λx y H Q=>HN λi j=>x=bn i/\y=bn j/\Kt! (!(Builtin.Str.occurrences j i 0 j.length 1).isEmpty)),
JrC,PIH exx X (.Name x px) iter wi,Oz?,by have A:∀u,mt!=Ka! A5! u:=λu=>by rw[es,C9,Hq,C9];rfl,
JrD,PS X (.For tg iter body [] AG!) Z,
O0?,by show ZR (D_ (E9!:=R5! "__next__") hit.typeIs LU (DG LU hit.typeIs F.entry_tuple_iterator_next ?_ (F.args_tuple_iterator_next_1 _))),
JrE,by show N?;show FG (O3! hi s H I h) λiv s1 #[y,H1,I1,ry,q1]=>QBI ho ?_;rintro u s2 ⟨x,H2,I2,rx,a,ov,ex,g,q2⟩;subst ex;show t?;show Z hu I2 g ry λs3 I3=>#[Z,H2,I3,A!,q2],
O1?,[Ff!,_,A!,a,_,0,_,A!,A!,Z,A!,Z,Z,W,A!,Z,Z],
O2?,by show Gt! (checkCount "sorted" 1 1 _) (ap! (W.kdu_collect (Jkf lo (es:=es) (ep:=ep)) (IF! _ (I.ok.hd hc)) Z Z λh1 tk acc kp ha=>?_)),
O3?,by show C4 #[_,A!,ra,_,0,_,A!,A!,FF! (Ah WC _ _ f1),A!,Ab,W!,?_],
O4?,by show Oj! Z K K a Z xs Z tt Z te G4! AJ! Z (Z) Z (Z) ?_ ?_,
O5?,by show#[SA? UW UE,Fh _,CE!,gT,_,A!,vJ,MX!,_,A!,_,A!,_,A!,_,A!,aY!,Uo!],O6?,by first|show Jn6 _ FB FB|rfl,
JrF,(λ_ H'=>H'=G0! oO D (ys++[v])),JrG,(by have:=O4 Ai! sB (QA7);change(Ck Ai! sB _).length+_<=_;lia),
JrH,Z Z (by simp only[BO]<;>lia) #[g! jQ!,H,I.tok _,#[s.toks+1,AO! BO Df!],q],
JrI,g l (by show AA Aw! Aw!) lo λi a b=>Z,JrJ,PassesOwn (model EI! X.w) X.A o0 X.xe,JrK,Jic M4.fn T M1 M2 Z,
O7?,by rw[Yt! ((HO.dT ((C7 Bk! tb).map Kd!))=C3 (C7 Bk! tb))],JrL,∀x,foldedSetIterable iter o0 x=Hc! x,
JrM,∀b∈CC (KQ (IC Z)),Ul!,JrN,λz=>h _ (Lo! (KF! Z)) Z,
O8?,by have bp:DD! (X.env.scope.kind == .class || (X.env.scope.kind == .module&&X.env.locals != X.env.globals)):=Ed! Rt!,
JrO,∀(A:Around)(i:Nat)(s:Shared)(Q:NE)(E:NE),tn i Tk->S5! it s->Gf! (model P w) A (PD! pyIter it) Q E s,
JrP,λu s2 #[y,H2,I2,r2,q2] =>FG (ho AB s2 σ H2 x y v u _ I2 r1 r2 q2) Z,JrQ,N3! ((JM! LX!).push (h7! C UF)),
JrR,show IU (So! i++[q])=IU (So! i)++[BS!] by unfold IU;rw[ZF];rfl,
O9?,by have ox:¬Av! (!its.toArray.isEmpty&&Builtin.List.listTooLong (its.toArray.size+UM.toArray.size)):=O7! (Jn5 hsz) Bool.and_false AR,
JrS,(λob v z=>by have:=X3! d ob v z;show I? e;cases this),
PA?,by have nd:bP! Z:=by have h1:=(pm.nodup_iff).mpr (J2t m);show(JW! h1).2.1,
PB?,by have inr:∀i∈p,jr!:=λi hi=>OJ! (pp.mem_iff.mp hi),PC?,by rw[ZA,ZA,pp.length_eq,DV,CZ],
JrT,Tq (l:=Z) (k:=λq=>H!) (f:=Z) Z,PD?,by have G1:GQ 1 f1 rb Gi! (Jjt):=cA! Jkr Oh! T,
PE?,by have b1:=ON _ _ hb (S.tup_ne hb).1 (S.tup_ne hb).2,
JrU,∀{s:R!},(s.map wv).Pairwise LB->(∀y∈s,wv x≠wv y)->∃s':R!,s'.Perm (x::s)/\(s'.map wv).Pairwise LB,
PF?,by have WC:MT! Ab! (.IV ob (Hd AK!)):=Uv! Ab (rG S.dl),PG?,by have GG:Gj! fG dG BD! Jp0:=Jsf MG.fn T Tx,
PH?,by have#[s,nu]:=x.sd _ q G hi,
PI?,by have st:QDJ Z Z:=QBg OC.less (λt ht=>ht) (λl hl nb=>by show p? hl;(.show h);.have#[y,_,rfl]:=ZN h;show CT! A! nb) #[r,(JE! hr).1,A!,ht],
PJ?,by have sn:Z:=λz=>by rw[ZF] at nd;show o1! s z s m5! A!,
JrV,∀(x:Addr)(as:S!)(ts:F!)(H':Hp),TD->Tb! a6!->cU!->Found (IU Z) ts->IN!,
PK?,by have#[wg,st]:=Z be hb Gc! g0 g1 Z,JrW,∀k∈ks,zp Ac! (S k),PL?,by rw[ZE,ZE,ZA,ZA,Pz] at this,
PM?,by have#[m1,m2,m3]:=nv.two kv x.c Z (Al.len OT js h2),
JrX,∀(t:Addr)(dd:DD)(H':Hp),TD->RU H' t dd->om dd->(Z)->oi!,
PN?,by show#[len,Z];have hl:=len _ _ _ _ fk;have KX:Kv!:=e0.mod.Z'.keeps (Bg! (e0.bs b o e).1);have lim:s.heap.NoLimit:=e0.mod.nolimit.keeps (Bg! (e0.bs b o e).1),
PO?,by .show k? (Z ht);show#[h1,?_];change Fe!<=Aj (Ji! λq=>Z) t;rw[Fg Ai! (λt=>Z) t,AF h2];show AJ _,
JrY,(forIn ifs AC λc r=>if r=true then do let ok <-isTrue c Z Z;Hc! (ForInStep.yield ok) else Hc! (ForInStep.yield r)),
PP?,by show#[_,A!,_,A!,_,_,A!,A!,_,A!,?_],JrZ,z! (d! (EY! t0 (J6! QC6)) l0 (XV pe!)) Z Z,
PQ?,by (have za:∀{H2:Hp},QED->K52F.IG H2 y.io Z->VF H2 m Z:=λfr at2=>Z),Jri,U! Z (Jso (k:=Z) (f:=Z) (r:=Z) sn),
PR?,by rw[ho] at q;show#[MN!,_,I.laid (t':=Z) (o:=WP Z) (Yo! TO!) B6! ?_,A!,q _ Yd!];show#[QCv,_,ML! BT! (Tm! BT! BT!),oc!],
Jrj,(Au Jia AF! (Ce Z) A!),Jrm,(Fn x.lw (Ol! Cb! wf)),Jrq,(W.kas_ask Da! w A κ Z),
PS?,by subst e;show B?;show AH?;show S?;rw[M8 A!],JsA,Z it ty z t (Am!),JsB,Bo! bV! (Jmf wi AJ! tt te),
JsC,((Lb! a (R6! λ_=>(Dc!:Az!))).push (Yp! E7! OE! 0)).push (Yp! F7! Dc! 0),JsD,(BP (low b o e)),
JsE,a.keep b _ q hm (IH! hg),
JsF,by have#[a,b]:=t;have#[c,d]:=u;unfold OM;simp only[PyData.eqv,PyData.eqvAll,Prod.mk.injEq];by_cases h1:a=c<;>by_cases h2:b=d<;>simp[h1,h2,PyData.eqv],
JsG,by have eh:=x.hand;have en:=x.BX;have er:=x.AL;have eg:=x.FD;cases a<;>cases b<;>grind,
JsH,ET 12 dA dC nP! (Xg K),PT?,by show Cq #[_,A!,z,A!,W!,_,_,A!,A!,_,A!,?_],JsI,DoA p H Q E dd,
JsJ,by rw[Gc] at *;have:¬(a.1=b.1/\a.2=b.2):=λz=>h (OC! z.1 z.2);lia,JsK,RH K x st ps f fd,
JsL,X8! JL! (s1.heap.push o) h',JsM,B4! C Y4! "House.told" Jms Gi! qh qz,
PU?,by show ZR (HK go WJ (ZR (DT go WJ (ZR ?_)))),JsN,B4! CW EP! "World.make" Jj3 Gg! jS i_,
JsO,B4! CW GL! "World.clean" Jao Gg! Iz Ke,JsP,B4! CW AU! "World.ask" Jr4 Gg! Ka Kf,JsQ,GI K x st f fd,
JsR,S6! SC Ge! g.U_.mt (gHs g) QEk g.U_.bd Ci (DA! EQ),JsS,(p.map λi=>QA4 i GM)=(p.map mv!).map Db!,
PV?,by show Gt! (Gx! field z 2) (DE hz A! (x:=Ar! IR) A! (Gt! (Gx! field z 3) (DE hz A! (x:=FS TI) A! (ZR (JT hTI A! ?_))))),
JsT,E_ P w H (h.push { cls:=B5! LZ!,data:=.dict Dc! }) h.objs.size Z,
JsU,by rintro AB s σ H x y u v Q I rx ry ⟨i,j,rfl,rfl,q⟩;have#[t,rfl]:=(show VR! from rx);have#[t',rfl]:=(show ∃t',v=hg! j t' from ry);show Z (Md! (En! Z)),
JsV,PS X (.Assign [KA! y py] Z oS) (Nz! Z),JsW,LL.MN s g n' u FQ! S,
PW?,by have#[ck,H1,I1,q1]:=q;show#[ck,H1,Ld I1,q1],JsX,x.ma.has _ q G be _ Z,
PX?,by .rw[AF hj,AF hj];show#[_,A!],JsY,TH H Bi! BJ! Z s g n u,
PY?,by (have hl:EJ! (putK kvs k v).length:=by have:=Io GE k v;lia),
PZ?,by have#[j,hj,rfl]:=QB!;show wv j (OJ! hj),Pa?,by have#[g0,g1,F,sF,fD,ht]:=QES;show#[g0,g1,F,Z,Z,ht],
Pb?,by show wpAny_newFunctionEnv JH (by intro y hy;simp at hy) (λh1 hn1 yy=>?_) ID,
JsZ,Av! (Cf! QAJ==0&&IX!==1&&(QBi)==items.size),
Pc?,by show(Dd! b ob e).PZ (λc w' hc q=>(hs.2 c ?_).trans q) (λ_ q=>q) Xv!,
Pd?,by show R? JL (D_ (E9!:=R5! "__next__") ty J_ (DG J_ ty F.entry_dict_itemiterator_next (ZR (ap! ?_)) (F.args_dict_itemiterator_next_1 _))),
Pe?,by rw[AF h1] at h;have e:Z:=ZO h;show#[AO! Z e,W!,Z,Z],
Pf?,by show C? AW!;(.have#[q,G,hs,os,rs,hq,GX]:=at_ c;show Z);.have c:=Cy! c;show Z S x sm c λH' s=>kE _ _ H' g.X0 (Z h c) s,
JtA,B4! CW BM! "World.hold" Jj5 JyW Mn Mu,JtB,B4! CW FC! "World.drop" Jj7 JyW Mp Mx,
JtC,B4! CW FD! "World.take" Jj1 JyW Mi Mr,
Pg?,by .have:=O4 Ai! tb (ja Ai! tb+x);change 0+(Ck Ai! tb (ja Ai! tb+x)).length+1<=Ju! (1*2);lia,
JtD,B4! CD "move" "Desk.move" Jwl aI! nX mC,JtE,B4! CD "act" "Desk.act" J35 aI! mW lQ,
JtF,B4! CD "look" "Desk.look" Jj9 aI! nK m7,JtG,mc! SC w! M4.mt G4 M4.bd (ml! FM),
JtH,W.fnOf x qual (Tc st) (Kb st) (Ak st) GM kV doc pm an ER ct,
JtI,swapsWith Z (AC! (.Name y py)) oS.line o0=Hc! AC,JtJ,(Z c ib (BL FB (BL x1 (FU r0)))),
Ph?,by obtain e|hm:=ZM (Z (Ec! ht));(.show q?;show CT! Z (Im a));.show hm,
JtL,B4! CW "deliver" "World.deliver" Oz KJ! Iy Kd,Pi?,by show Bg? TM (HY ho hd Ix (ZR ?_)),JtM,Wz r V zs H H',
Pj?,by have cz:∀b∈CC (Z G ta tb),b∈Cg!\/BU!:=SZ (cG! (Jiw (G:=G) ta Z) hb),
JtN,(Hb FO PySem.F.slot_str_split PySem.F.type_str_split Jof EQ (DA! Ap)),
Pk?,by show#[_,A!,p,Z,dx,[],A!,Z,Z,Z,mh! (0<1000),?_],
JtO,Dl p W++(Da l1++Da (Z::l2))=(Dl p W++Da l1)++((q::Z)++Da l2),
JtP,Jvw (Mg (V_ tf (V_ (uV K) (Cz i) mw!) (as! c))) ta tb D σ H,
Pl?,[_,A!,_,_,A!,A!,pc!,_,_,A!,A!,_,_,A!,A!,aZ! 2147483647,?_],JtQ,Jrt C (QU) [] E0 UH!,
JtR,other O h Z v! v! e,Pm?,by have:y≠x:=λe=>hj (Jcc hN e1 (e▸hi)),
JtS,k t Z Z Z Z Z Z _ Z (WP (FF! Ab) (Tm! (.one (wp _)) Z)) Z ef Z (Z) Z Z,
JtT,(u i (j-1) v! (by show Nat.sub_lt Aw! FB)),
Pn?,(by show b?;have#[i,j,rfl,q]:=h;have#[u,w',rfl,#[t,rfl],#[t',rfl]]:=vals2 r;show Z (I.ok.hd hc) λh' tk k=>#[_,H,I.kept k,?_,q];by_cases hj:Z),
JtU,#[HR hu,k,xs,Nu Dd! eb,dd,KM h ae! ?_],JtV,k a p a1 v! h a3,JtW,.MN s g y.n u FQ! S,
JtX,W.fnOf x q (Tc st) (Kb st) (Ak st) GM kV doc pm an ER ct,
JtY,(f a _ e Z (ne e (λ_ z=>by cases z) y.s) (ne e (λ_ z=>by cases z) y.f) (ne e (λ_ z=>by cases z) y.c)),
Po?,by show mT! x.of (kC.IC.mono (DX n)) nu! (x! #[q,mq!,ht]) (A8! (x.nn q mq!)) QEG (λt ht hk=>?_),
JtZ,(lb! G4! cW! (Z (D1 hu EQ AF!)) Pf! UZ! Pg! (Gk! (Fj (F2 (Jb6 hu SC EQ)))) (pv 0)),
Pp?,[Z,wE,Sj!,Fh _,CE!,Z,_,A!,Z,MX!,_,A!,_,A!,Z,_,Z,Z,A!,A!,Z,A!,Z,Z,Z,_,Z,Z,Z,A!,Z,A!,?_],
Pq?,by (.rw[ZH] at hj;have#[aj,ph,rfl]:=JO! hj;show#[_,A!,aj,t,A!,Mc! s5 (A6 Z i aj t ph ht),pg! Z,qq]),
Jtn,yI CP "put" (Kh) [] E0 (sM K (Cz 1) Ah!) (Dr (as! AU!) (Dr (Cz 2) (Dr (Cz 0) (Dr (Jzv (Dr (Cz 3) (Dr (Cz 4) Ht))) Ht)))),
Jtz,FY P w K mg Bf! Z,Pr?,by rw[bF! (its.toArray.any (rj x)=its.any (rj x)),Jly r fs],
JuA,∀x:Ag!,bs!->mb x=bootBuiltins x,JuB,∀v u s2 x y H2,S1! H2 s2->Tw!->Cl!->R x y H2->JzK (f v u) Q s2,
JuC,[.ExceptHandler (AC! (.Name x np)) (AC! n) (JBb::ua) tG],JuD,∃od,Z/\∀name,W.lookIn E9! od=D! (mA E9!),
JuE,∀{binds:T6!} {m:wS},(∀v,(x,v)∉binds)->Z kindOf binds m x=m x,
JuF,∀{P:j!} {vs:Y!} {i:Nat} {m:wS},P.Nodup->P[i]?=D! x->vs[i]?=D! v->Z -> Z kindOf (P.zip vs) m x=D! v,
JuG,(λm=>by have:=Z c m;show EY?;(.show A4? this);.rw[this] at hc;cases hc),
Ps?,by cases Z with | none=>simp[sliceBounds,HT.KI] | some i =>simp only[sliceBounds,HT.KI,Option.getD_none,show IX! > 0 by decide,IA];by_cases h:i<0;(.simp only[h,IA]<;>lia);.simp only[h,GB]<;>lia,
JuH,λER A outer s H vs Q E hr z=>(h vs H Q E z).2 ER A EK! s hr,JuI,λj x d e1 e2=>ih j x d e1 e2,
JuJ,∀c o,c≠z->c≠TO->c≠i1->c≠i2->QDa->Z,
JuK,∀h' o es ep,PF! Nw! d->o.ExactDict->P6!->es.toList=QEL (Rl! knd)->X8! d Tk h'->Z,
Pt?,by have G5:Gj! f5 fd5 lO! Jp2:=Jsg M5.fn T,Pu?,by have GL:Gj! fL dL PT! Jpw:=Jse ML.fn T,
Pv?,by rw[Jh0 (Jtg (i.at Cb!).nd) (J45 s.ok) fd] at S1,
Pw?,by have e1:Dx t ((Cr Z rs).map (Li AN!))=Aj (Sg! λq=>! Z) t :=Jft AN! t (pM.sublist (List.filter_sublist.map _)) (FG! (s.nn r (ZK! (JE! hr).1))),
Px?,by have#[q,eq,rfl]:=Cs! Qat H H d d hi,Py?,by have#[r,hr,er,_,_,e4]:=Jax pf (Z' k hk),
JuL,∀(j:Nat) (x:V) (t:T2) (H2:Hp) (QQ:VK),xs[j]?=D! x->ts[j]?=D! t->Ei!->QQ QE0 H2->bd! te H2 QQ,
JuM,λi vs H4 _ h=>by rw[pi];show#[E7 (Ah WC) (FF! e2),Ab],JuN,IN (y.hand i q G hi Z hb),
Pz?,by show#[_,A!,Uc! Z,_,A!,Z,_,_,A!,A!,Z,Z,?_],JuO,(PIE X AB σ tg R),
P0?,by subst hj;rw[hi] at e1;cases e1;rw[JQ tH] at e2;cases e2;show#[u,r,Z],
P1?,by .have#[o,es,ep,ho,r]:=hm;show#[o,es,ep,k _ o Z ho,r],P2?,by show G? #[p,_,W,A!,Cb!,ow c,no c],
P3?,by show#[FS JL!,Z,I1.laid (t':=s1.toks) (λb u e=>TO!) B6! ?_,A!,q _ hf],
JuP,B4! CW FE! "World.free" Jj6 U3! Mo Mw,JuQ,B4! CW GK! "World.send" Jj2 nA! Iw Kc,
JuR,#[ip!,I.base.slot,λb ob e n hx=>Z,I.base.there,λb xs e=>?_,Z,λb ps e=>?_],
JuS,#[h1,h2,m3,m2,DM! nv.sh kv.sh x.sh,h3],
JuT,(by have#[dx,e']:=x.ob;show#[QEo hb e',Un!];have#[kvs,e]:=x.NA m;rw[hb] at e;cases e),
P4?,by have#[stop,q]:=stop;show FG (T.done Z A! A! hc i [] s5 _ H5 JzS I5 (VB ae) jv stop) ?_;rintro r s6 ⟨hr,I6⟩;subst hr;have#[mm,hnn,_]:=I6.loc;show Z,
JuU,(pe c z).2.2.1 x c e A!,
JuV,Gf! nb! X.A QFG (λ_ s2=>HN λx H'=>ou!/\If!/\Mv! J.SM/\tn (Am!) s2.heap/\YF! IP!) E s1,
JuW,(Hb FO NM NK Jas Ap lk!),JuX,typeOf (GE! id)=Hc! (Cu! "method_descriptor"),
P5?,by show AS? (Hb FO NM NK Jas Ap (DA! (JzZ Rq Z (Cf (ED.or Hn) J5! T.str CV lk!)))),
P7?,by .show#[i2!,r,Z,?_];have e:=r.length;simp only[DZ] at e;show e▸hz,
JuY,B4! CD "say" "Desk.say" J33 QCq n6 mL,JuZ,[bn (ZY! z 0 i),bn y,bn (ZY! z (i+y.length) EN!)],
P8?,by rw[ZE,ZA];show Fd? Z Z;have h2:=(pm.filter λq=>! Z).length_eq;have h3:=Sx (λq:T2×Int=>Z) Ai!;change AZ! Ji! (λq=>Z)+_<=_;lia,
Jus,([(a,NameKind.local),(b,NameKind.local),(c,k1),(d,k2),(e,k3),(f,k4)]:aD!).lookup,
Ju6,#[Z,Z,A!,IN (FF! Ab),A!,A!,_,A!,?_],
P9?,by .subst ey;show Cn?;show Z bf! hd dd.mapOf ?_;rw[<-(rel.val k).NX,<-l];show h _ ae!,
JvA,al=a++.MN s g n Z FQ! S::b,
QA?,by .show Ff? #[xs,xs[i],q,by simp[IP]] (xs.length-xL);have#[e,y]:=y;subst e;show hs i x σ _ (y xs q) p,
JvB,h h' Z #[λb o q m n=>k9 b o (λz=>nj! n ge) m Z,λb o q m=>k10 b o Z Z],JvC,Yi! (OM t) (OM u)=KB (t=u),
QB?,by .rw[BZ!,AF (show b=t from c.symm),AD Es,c];change _+(Z)=_;lia,
JvD,S6! Aa! TP.cl M3.mt G3 hr M3.bd A9 (lq! FM Z (QA8 Aa!)),
JvE,by show AP?;have#[d,e,r1,r2,o1,o2,q]:=h;have#[as,g1]:=r1.reads I rx;have#[bs,g2]:=r2.reads I ry;show Z g1 g2 o1.1 o2.1 (QF! o1.2) (cT! (AI! _)),
QC?,by have:(Fq! Z*100)<=5000*100:=EL _ z1,
JvF,I.laid (t':=tk) kp B6! (show E_ EI! X.w _ h' _ Z from#[Fj! Z,Z,Z,?_,oQ!]),
JvG,(La! (T! (Ti! O2! Z O2! AU!)) IX! 0),JvH,Inv (MK X sc cl C Tt! s1 H1 fp tq) PD Z H7 Z,
JvI,S6! Aa! TP.cl M3.mt G3 HJ M3.bd Ci (lq! EQ Z (QA8 Z)),
QD?,by show R? JL (D_ (E9!:=R5! "__next__") hT YD (DG YD hT F.entry_zip_next ?_ (F.args_zip_next_1 _))),
QE?,(by show#[λi m σ H=>m=i6!/\i<=xs.length/\aA!,#[Hd!,ci,Ax!,h0],?_];rintro i m σ H ⟨rfl,hi,p⟩;have q:=hl i σ H hi p;by_cases IP:i7!),
QF?,(by show#[λi m σ H=>m=kvs.length-i/\i<=kvs.length/\aA!,#[YS!,ci,Ax!,h0],?_];rintro i m σ H ⟨rfl,hi,pv⟩;have fz:=hf i σ H hi pv;by_cases IP:i<kvs.length),
QG?,by show#[_,A!,a,ns,Z,A!,hS.sq,Df!,Au!,Au!,Z],
QH?,by show#[_,A!,l,_,5,_,A!,A!,b6!,A!,_,A!,_,_,A!,A!,_,_,A!,A!,(show TN! Z by lia),?_],
QI?,by show Jih (lt:=Z) ho (o! pW YI) #[λi j k _ _ _=>Jk7,λi j hi hj WX e=>Jk8 (Z) e] (λh2 h' kp Q hQ=>?_) (o! pW h),
JvJ,#[_,_,A!,A!,aZ! Z,_,_,A!,A!,?_],
QJ?,by show BT?;(cases x with | GJ=>show J?;show Z a t' | bl b=>show J?;show Z a t' b | int b=>show Cc? (Z a t' b t) | str b=>show Cc? (Z a t' b t) | _=>show R4?),
QK?,by show#[MN!,_,I.laid (t':=GB!) (o:=Z (uU xs lo hi)) (λb ob q=>ZT _ q) B6! ?_,A!,q _ (X7! (ZG _))],
JvK,Z hl AB s σ H R I,QM?,by have uj:kh!:=λz=>nx _ _ S.hs rP.1 rP.2 OQ!,
JvL,by show N?;show KD (Wi I hg hm hv ?_ hn kP);show Z (QAl (λus s1 #[vs,H1,I1,r1,q1]=>hc AB s1 σ H1 vs us Q I1 r1 q1)) he UT,
QN?,by show#[Z,Z,.one r1,.one r2,ok,ok,_,A!,?_],
JvM,KW! (λa q=>Z/\HN λka t=>uS h1 a (UV ka) (PP Rs t)/\pU!) as L,
JvN,#[_,A!,q,HX,_,A!,hq,DJ!,_,A!,_,A!,q,b,G,tb,wt,A!,i.at S,e3,Z,dn],
JvO,J8! (Jqg (qj hr)) Z (Zs! gDu hr5 g.vE.mg g.vE.fn.kp g.vE.bd (lY! Br! Z EQ Gy!)),
JvP,(q _ #[_,_,Z,EJ _ g (RI (Z dat _)),Z _,Z,?_,Ie!,?_] lx!),
JvQ,QEx (aU! al!) Fo! (QFe (aG! gHb g.vD.mg g.vD.fn.kp g.vD.bd (QAp Fo!)) Us!),
JvR,(Jf! xL).filter b=(Jf! i).filter b++Tx! (T! (b t)) [t] [],
JvS,#[I.ok,I.os,JG!,QEr (λb o e n hb hx=>?_) Rr! X2! X3! I.base.SW,Z,Z,JF!,I.LF,DP!,tracked #[Z,Z,Z] hs,by simpa using I.len],
JvT,k x as yQ hx0 ex ba S11 (ZF! (wM _ _ (br _ _ Z h1 h2) h1 Z)),
JvU,λ_=>GX! hi (Sd.pass s KH ib sh Z) A! Z (aa!) ?_,
QO?,by have ID:∀y∈ps.zip us,z! jD! BJ! .local\/(z! jD! BJ! Rq!/\T! ((cellsFrom bq! scope.names []).lookup BJ!).isSome):=λ#[n,v] hy=>by obtain q|q:=S.par n (LW hy).1;(.show F? q);.show G? #[q,KM W.cellsFrom_some _ (DC! q)],
QP?,by have key:∀k,S7! l.lookup k->Av! (k != Rq!&&k != Ha!):=λk e=>T4! (OA.mp h (y,k) (lookup_mem e)) this,
JvV,Ji2 Z (l:=Z) (ks:=PB!) (R:=R) (A8! Z),
QQ?,by have sub:∀b,HC!->b∉Cy p (kB! Z):=λb hb m=>by obtain m|m:=ZI m;(.show hb on!);.have#[z,hz,hm]:=EB.mp m;have hz:z∈Z:=hz;obtain hz|rfl:=RB hz;(.show hb (D4! (Lo! #[z,hz,hm])));.show hb (D4! (Lo! #[L2!,ZP be,?_]));show hm.imp id λz=>Z b z,
JvW,∀q∈os,QBB G.AK.find?=D! (H!,WF)/\HN λa hl=>QBB JTl=D! (H!,a,hl)/\hl.length<64/\q.2.2.Perm hl/\q.2.2.Pairwise LB,
JvX,∀(v:V) (dv:PyData) (W':EF) (D':db) (al':V!) (EA:i!) (H':Hp),vh H' v dv->Z->Jzr Fc! Pp! 0->VS!->cZ!->k0!->T1!,
QR?,by have#[a10,ed,fx]:=RR.one T7.a T7.w yY T7.v Z rm tL,
QS?,(by show mT! x.of rF nu! ?_ x.nn be! ZJ!;obtain⟨_,e⟩|hq:=Si hq),QT?,by show#[Z ,p,Z,A!,A!,Mm!,?_,k _ Z],
QU?,by have#[l,rfl,sq]:=Jm6 tl.rep;show#[l,_,A!,sq,Fj! sL.1,sL.2,by rw[ez] at kq;show kq],
JvY,(hv _ #[a,A!,#[xs,hl 0 σ H MF! h0],Z Pv h0 hl hs hd]),
QV?,by show#[_,A!,_,A!,p,Z,dx,[],A!,hp,Z,Z,mh! (0<1000),?_],
Jvf,(Jw5 (Hb FO PySem.F.slot_str_partition PySem.F.type_str_partition Jsi Z (DA! Ap)) (Ly A! (Cu (Cj (i:=Z) XA.nd A! (R8! A!)) (Cu (Cj (i:=Z) XA.nd A! (R8! A!)) (Cu (Cj (i:=Z) XA.nd A! (R8! A!)) Hk))))),
QW?,by show ZR (C_ (Gt! (JII _ _) (QD (a:=jF!) (by first|rfl|(simp only[firstArgMember];rfl)) (pK! ?_))) QAM),
Jvg,mJ! y! AQ!/\Bn! y!/\y!≠X.env.locals/\y!∉X.fs/\∀v,p.2.data≠Rq! v,
QX?,by show Cq #[_,A!,t3,_,0,_,A!,A!,Mc! s4 e3,A!,A!,_,A!,?_],QY?,by show ZR (PL (T:=Hl!) (b:=AC) Z JIL ?_),
QZ?,by have sm:h<=1000:=sm;have YV:Ib!:=bS! sm;show SN? Z [.n bv] (λa ha=>U! (ZK ha) YV);show R9? Z;rw[R8 Z (.n bv) ZV];show R7? Z (wp (EZ bv));show FZ?,
Jvi,(yI C m sp UX E ta Z),JwA,(Z x hn hB i MF! cc! kk Z),
Qa?,by .rw[AD c];show D? (Mq! x.rc t (Jq6 (G:=G) A! A! ht) ne);(.show O?);.show IN (h.mono λl h=>IS!),
Qb?,by .show(Dd! b u e).PZ (λc v hc q=>k c v ?_ q) (λ_ q=>q) Xv!;obtain z|z:=hc;(.rw[z];show yo b u e);.show yo c _ z,
Qc?,by show Fo (K:=K) (a:=Z) (xs:=Z) (tt:=PR!) (te:=Z) (AJ!:=Z) (σ:=Z) Z Z Z ?_ ?_,
Qd?,by show#[_,A!,x! (lZ! (Ao! (h! #[_,Z]))),d,_,A!,A!,Z,DP!],
JwB,fr b o eb Z (λq=>Z (HU.mpr (lZ! q))) (λq=>Z (HU.mpr (IN (lZ! q)))) (λq=>Z (HU.mpr (IN (mp! q)))),
Qe?,by show CX? Z (I.turned (Bh! Z) f0 f1 f3 f4 f5),Qf?,[_,A!,a,_,A!,h! hS,_,_,A!,A!,_,A!,?_],
Qg?,by (have:=Jdb (f:=λS=>Z) (c:=60) (L:=R3! S) (Al! (by have#[k,hk,e2]:=ZN hz;subst e2;show Z)));show Ck?;have:ks.length*60<=12*60:=EL 60 kz;lia,
JwC,#[D,ys,v,A!,A!,wL,IP,A!],JwD,UW! #[ha,c2,mU! g.X2 2 (Z h ta tb G ha c2)],JwE,Z AB s σ H xs us Q I rs q,
Qh?,by show W.kat_kind (s:=CU!) (T:=Z) f1 Z (λv hv=>?_) A! Z,
Qi?,by rw[AN (λz=>c (by injection z))];show Cq #[Au!,Ie!];have s3:=aj! hx;show k1 c x _ (W2.same s3) (xq.same s3) (λb o eb hb n1 n2 n3=>HE! (xb b o eb hb n1 n2 n3)) Z,
Qj?,by show#[l,A!,#[_,el],A8! (Jid hq el z1 z2 λH2 s2 e2=>#[q,Bj! EZ,A!,e2,Fj! z1,Jcb z2,kq H2 s2])],
JwF,by show AW?;have#[s,p,q]:=sorts wv PN.2;have#[s',p',q']:=Rx wv x q λy hy e=>ab! PN.1 #[y,p.mem_iff.mp hy,FB!];show#[s',p'.trans (p.cons x),q'],
Qk?,by show#[_,A!,p,MJ,_,A!,JJ,C8 _ ZV,_,A!,_,A!,p,Z,Z,Z,_,A!,W2,z1,z2,Z],
JwG,by show AP?;have#[i,j,rfl,rfl,q]:=h;show X?;show BT?;show rule i j t t' s _ _ Z,
Ql?,by show pq! Z hd el es p1 p2 p3 (AA KD! (AA cB bH!)) Z,
JwH,YI! nb! Z (KM! .call f args) (CR Z EK! P w H s Q Z) s,
Qm?,by show l! #[h1,_,A!,p,dx,_,A!,hp,DJ!,_,A!,p,b,G,tb,A!,S,hb,_,A!,?_],
Qn?,by show GX! hi (s.wB hf Z Z) A! (O7 x.ok Z) (aa!) (by rw[ZE,GA,Sy (s.rk b (l! hb) hf)];show Ay!),
Qo?,by .subst ey;show Cq?;show FX?;show Z (HR hu) ps! hd dd ?_;have q:=(rel.val k).NX;rw[Option.isSome_map] at q;rw[<-q,<-l];show h _ ae!,
JwI,(λH2 a' u Q' sm' ha hu' q=>by have#[o,g,eo]:=Jlc (k:=KT!) (f:=am!) (DC! (sm' l (Hd hl) Z)) ha;show#[_,A!,_,A!,l,o,A!,g,?_];rw[eo];show L? q),
JwJ,["enumerate",JJ!,Rx!,"dict_reverseitemiterator","odict_iterator","itertools.zip_longest","itertools.pairwise"].contains,
JwK,Jp7 (us:=Z) (vs:=Z) F hr hb hd hx Z Z Z,
Qp?,by have ok:=Jzb (N:=Z) I3 f3 (SZ (let#[o,e,_]:=T.obj 0 _ oR b hb;#[o,e])) ID KH has,
JwL,∃fs:Y!,W.KatTups h (Bd! Db!) fs/\fs.length=as.length/\∀v∈fs,HN Z,
JwM,λA outer s H args us vs Q E hr he hb hv hs=>JE (N7! A EK! s H args us vs Q Z hr he hb hv hs) Z,
JwN,∀s g ts,Z->Fu!/\g<m/\∃F,TB A9! (LM al) F/\(Z)/\∀t,t∈ts↔(F t/\AV!=g),
JwO,λy L W' H' q G hs os rs hi tl nw e ey=>QEX #[l1,l2,t,a,_,b,el,es,ll,nw.toNv,A!,nw.fi,Z,Z,Z,Z,Z,Z,Z,Z,A!],
Qq?,by show hb wh AB s1 σ H1 Q I1 q1,Qr?,by show#[JL!,[s1.heap.objs.size],_,Z d GE o,_,A!,I3,Z,Z,KY!,hR o],
Qs?,by show codeAny_compStart_list (loop _ A!) (T.self _ 0 _ _ _ yb (loop _ A!)),
JwP,#[_,hv,x,_,0,_,A!,A!,IE!,Gw FB A!,A!,_,A!,Z],
Qt?,by .show Ak?;cases ea:as[i]? with | none=>show Bq? ea | some a =>rw[ea] at hx;have hx:MQ!=x:=ZO hx;subst hx;have#[t,et]:=mL! ts (by have:=DH! ea;show lt▸this);have ha:=A6 th i a t ea et;have#[bs,e0,sm,JJ,YE]:=id pv;show Qa4 hp hz ht pv et (wP sm ha) n,
Qu?,by have#[oi,i1,i2,i3]:=id hit;have#[ob,g1,g2,g3]:=id hm;have tI:=hit.typeIs;unfold pyNext;show R? JL (D_ (E9!:=R5! "__next__") tI KP (DG KP tI F.entry_dict_keyiterator_next ?_ (F.args_dict_keyiterator_next_1 _)));show R? ZS (ZR (ZR ?_)),
Qv?,by subst e;show B?;show AH?;show S?;rw[Gq ZV];show Q?;rw[M8 A!];show C4 #[ST?,RO,lf!,_,A!,r,_,0,_,A!,A!,TT!,A!,_,A!,r,_,SH?],
Qw?,by change Gf! _ X.A (do let _ <-comprehension Z sc o0 _ (newList []) IR (Z2! iter) (AC! (Rw! (.Name y py) o0))) _ _ s,
JwQ,(Ce (lQ! (Jnl (gCs g) HJ J5! g.vF.mg g.vF.fn.kp g.vF.bd (DA! AF!)))),
JwR,h h' PU _ a1 a0 (DO! hS (A_ lS)) a2 a4,
Qx?,by show Z (rj x) Z (λw hw=>Jcq rx fx r fs w (by simpa using hw)) #[AI! _,H,I,A!,?_],
Qy?,by .show A5?;show x! #[q,G,i,q,HX,_,A!,hq,DJ!,k],
Qz?,[U?,p,dx,_,A!,hp,DJ!,_,A!,_,A!,p,a,b,G,Z,Z,A!,Z,Z,Z,?_],JwS,WI Z pw W' D' m Fc! Pp! 0 B' AL! EA,
Q0?,by show WK _ (λrest _ s'=>HN λh' j=>s'=CU!/\rest=List.range' j (UU.size-j)/\j<=UU.size/\h'.DictOfH knd d (Fy xs (more.take j))/\X8! d Tk h') _ ?_ ?_ _ _ #[Tk,0,A!,ci,Ax!,hd,Heap.SameBut.refl _ _],
Q1?,by first|show K52.bd1 λ_ _ _ _ _ _ _=>rfl|show K52.bd2 λ_ _ _ _ _ _ _ _=>rfl|show K52.bd3 λ_ _ _ _ _ _ _ _ _=>rfl|show K52.bd4 λ_ _ _ _ _ _ _ _ _ _=>rfl|show K52.bd5 λ_ _ _ _ _ _ _ _ _ _ _=>rfl|show K52.bd0 λ_ _ _ _ _ _=>rfl|show K52.bd6 λ_ _ _ _ _ _ _ _ _ _ _ _=>rfl,
JwT,λm' hm=>by have#[o',ri,vQ,kM,r']:=hm;rw[ho] at kM;cases kM;show#[_,ri,vQ,hL,r'],
JwU,.QW h j q G hs os rs hq Z Z,
Q2?,by have loop:∀s4:Shared,s4={ s3 with heap:=h1,toks:=QEe } -> YI! (model EI! X.w) X.A (.compLoop Z 0 PS! Th! (compEnvC sc cl Yb! o0)) (compPost (model EI! X.w) X.A X.xe use RQ Th! Yb!) s4:=Z,
Q3?,by have lt:Z:=by show FE?;rw[ZE,ZE,ZA,ZA,Pz,ZE] at this;have e:[(Z:Z)].length=1:=rfl;show AA Uz! (e▸(BQ this)),
Q4?,(by have f3:YF! (mz! (d! H2 s2.heap.objs.size (XV []))):=SZ #[by rw[Ae (fpn b hb)];show(f2 b hb).1,(f2 b hb).2];have tY:tn 0 (s2.heap.push { cls:=B5! F7!,dict:=none,data:=.seq ([]:Y!).toArray }):=T.keep 0 _ _ pG λb hb o e=>TO!;obtain⟨D,hD⟩:∃D,D=s2.heap.objs.size:=BT!;obtain⟨H3,hH3⟩:∃H3,H3=G0! H2 s2.heap.objs.size []:=BT!;obtain⟨s3,vI⟩:∃s3:Shared,s3={ s2 with heap:=s2.heap.push { cls:=B5! F7!,dict:=none,data:=.seq ([]:Y!).toArray } }:=BT!),
Q5?,[U?,p,Z,Z,_,_,A!,Z,w!,Z,Z,Eg! (lZ! Z),Z,_,A!,A!,Z,λv hv=>?_],
Q6?,by show wpAny_assign_Name (Tr I' rW VW (DC! hy) (QCW (UV Dd) (UV Dd)) (λs2 I2 #[a,OW,ha]=>?_) (Eg! hy)),
Q7?,by .show AI?;(.show Z z hz);.have#[y,hy,rfl]:=ZN hz;have#[vH,rN]:=JE! hy;have vG:=ZK! (JE! vH).1;have im:=s.ir BJ! (B2! #[y,vG,A!]);show#[im.1.1,im.2,im,x! (lZ! #[A!,by have:=BN rN;change 1<=Bi!;show(BN rN),A!])],
JwV,(D4 SC w! MG.mt GG hr MG.bd a! A9),JwW,rn inv tl bl val 0 10 Z=val (Hk! Z),
JwX,RT Z p pw p0 m xL W8 xp D8 yU uN hX jn gp Z,
Q9?,by show KJ hp (FG (Z X A! A! hc i AB s3 iA H3 X.xe I3 (VB WO) tY Z) ?_),
RA?,by (have back:∀{yX:L2.St} {H9:Hp} {s9:Shared},Inv Z ([]++T9 fp s7.heap) yX H9 s9->tn (Am!) s9.heap/\YF! (Gl! H9):=λ{yX H9 s9} I9=>by show#[T.keep _ _ _ uq λb hb o e=>(I9.pin Ua! (ZC _ (ZC _ (Gu hb e)))).1,KY!];have#[o,e,d]:=T.obj _ _ uq b hb;show(I9.pin Ua! (ZC _ (ZC _ (Gu hb e)))).2.1),
RB?,by show#[_,A!,_,A!,p,CW,dx,_,Ai? _ A! hp wE Hz! (Ey W) C5! _ A! QDM _ A!],
RC?,[_,A!,Z,_,A!,p,CW,Z,_,_,A!,Z,wE,Sj!,Fh _,CE!,Z,_,A!,Z,MX!,_,A!,_,A!,t,_,_,_,A!,A!,DB! Z],
RD?,by have VB:∀{H':Hp},(YF! IP!)->YF! (Md Z [] H' b):=λhn b hb=>by show#[D5! hn,?_,λz=>ok.VE b hb z,h! hb,λy c e=>QEV (f3 b hb).2.2.2.2.1,DP!];(.show(ok.ag b hb).1);.show SD?;rw[AO] at WN;show(f3 b hb).2.2.2.2.2 p WN,
JwY,(hR v L Z _ _ _ A! #[A!,by unfold nums;rw[c9.len];show c9.BX,by change MK!=_;rw[c9.len,kU],A!] vP #[y,_,i1,i2,_,ey,A!,A!,A!,A!,Z]),
RE?,by show Jb1 K h hk u f Z Z G v! Z v! Z Z g,JwZ,[48,49,50,51,52,53,54,55,56,57],
RF?,by show AS? (lb! Z Z Z Z (λy h=>Z) Z TX! (Ar (pl:=_) Z TP.cl M3.mt G3 hr M3.bd a! A9 Z)),
RG?,[p,x,Z,_,as,_,A!,W1,ex,W1.XN ex uj,bk,zb,zl,λy L H2 W2 b2 SN ui uh ey=>?_],
JxB,#[_,_,_,_,H1,A!,I1.kept (t':=s1.toks) l0!,Z a _,QAa,fp,q],JxC,J28 a p pw p0 m sh ns i σ Hc,
RH?,by have#[iA,H3,I3,n3]:=q3;have#[m',hm,w3]:=hN iA H3 n3;show#[m',hm,iA,H3,I3,w3],
JxD,x! #[q,G,i,q,b,G,tb,A!,i.at Cb!,eb,Z],
JxE,Z value OA! AB s σ H x y v u Q I rx ry #[p,xs,i,z,e1,e2,hq,he,q] hs,JxF,(Zb! h j q G hs os rs r hq Z Z Z),
RI?,[t10,_,0,_,A!,A!,Z,A!,_,A!,t8,_,0,_,A!,A!,Z,A!,A!,_,A!,?_],JxG,VI ER A EK! s H vs Q E hr fk,
JxH,λr J'=>#[_,_,XV (GP! (Ah J' _ _ Z)) (Jok (Fn Z (JS (Ah J')))),XV (GP! Ab) a!,Jb8 (Jcx Z),Jxz,_,A!,?_],
RJ?,by show Z x hn hB el es p1 p2 p3 MF! (AA KD! (AA cB bH!)) kk Z,
RK?,by have pm:Z:=by show List.Perm.trans ?_ Z;rw[A,Z,C1];simp only[ZF,AI,GZ];generalize Z=P9;generalize Z=Q;generalize Z=R;generalize Z=T;(have h1:(P9++(Q++R)++(T++[s])).Perm (s::(P9++(Q++R)++T)):=AE! BH (JW (l₂:=[s])));(have h2:(P9++(Q++s::R)++T).Perm (s::(P9++(Q++R)++T)):=by (have:(P9++(Q++s::R)).Perm (s::(P9++(Q++R))):=by rw[<-BH,<-BH];show List.perm_middle);show this.append_right T);show h1.trans h2.symm,
RL?,by .show#[_,A!,bv,A!,Dj YV,_,_,A!,A!,?_,?_];(.change Z+Ki! bv<=_;lia);.have e:Z=qT (Z h):=J0g (a:=.n bv) A!;change U6! Z;rw[e];show k (Z h) H Kc! (Te! (h<=1000)),
JxI,by show FG (O3! ha s H I h) ?_;show CC?;show FG (JzM hb) ?_;rintro u s2 ⟨y,H2,I2,r2,q2⟩;show hf v u s2 x y H2 I2 r1 r2 q2,
RM?,by show I.step (g':=s.gens) (d':=s.drawn) (ch:=Z) os! (λb o _ _ hc e _=>Z) (λb o _ _ hc e _=>#[o.slots,Z]) (λ_ _ _ _ n=>n) (λb o hc e=>#[o,Z]) (λ_ _ e=>e) (λ_ _ _ e=>e) (λb ps e=>#[Dc!,Tr! e]) (λm hm=>?_) (nO!) JG!,
RN?,by .rintro i x ys H2 N hx ⟨s2,rfl,e2⟩ hN;have#[t,ht]:=me! ts i len hx;show C4 (pr i x t H2 _ hx ht s2 #[e2,?_,QFP hp s2]);(.show Bp?;show Ek! D3);.rw[CK,ht,ZF,ZF];rfl,
RO?,[G,n,Z,Z,Z,A!,i.at S,ok,zn,rL,rK,pm,pw,Z,Z,kC,λx as H1 nx ex bk S1 ON=>?_],
JxJ,by have h':=SF! h;by_cases e:LB (wv x) (wv y);(.show#[x::y::s,.refl _,EN.mpr #[ME!,h]];obtain rfl|hz:=ZM hz;(.show e);.show Jk4 e (h'.1 z hz));.have#[s',p,q]:=Rx wv x h'.2 (Al! (ne z mb!));show#[y::s',(p.cons y).trans (List.Perm.swap x y s),EN.mpr #[ME!,q]];have#[u,hu,rfl]:=ZN hz;obtain rfl|hu:=ZM (p.mem_iff.mp hu);(.show Jk5 (ne y Dw!) e);.show h'.1 _ (BJ hu),
RP?,by have st:=Ja8 (ls:=ls) (G':=Z) (l:=Z) hi hb A! A! A!;show#[mS! (Z hi hb hf g0 g1 Z) l9! (x.rc.next hi (λj t _ p=>p.mono λl h=>IS!) λt ht ne=>?_),st];change 1<=FV! (Ck Ai! b Z)\/_;rw[Eg];show C? (t=b),
JxK,Z (tt:=PR!) (te:=Pn (F5) [] E0 UH!) (AJ!:=[]) (OZ! (Ei!/\Gr!/\pn!)) #[Ah hp,Ab,A!] (λi ys H2 _ h=>#[Z,Pc!]) (λi x ys H2 N hx h hN=>C4 (step p hp i x ys H2 N hx h hN)) (λys H2 h=>AH! p ys H2 h),
JxL,AgI a p p0 m sh Z q u7 u8 u9 um Z σ H2,JxM,Z A EK! s H args us vs Q E hr e bd rv,
RQ?,by show#[o?,C,dx,_,_,A!,hp,w!,Hy!,Ei G,BN!,A!,T0! (h! S.dr),_,A!,_,Z,?_],
RR?,by have ne':Z:=λz=>ne (O7! Z ZS! Z);have fr:=frc RF;(have vV:UB! { W with c:=W.c,ls:=OU!++[],G_:=Lx!,IF:=W.IF }:=U! AO W2);have#[wi,wfr]:=QFp [] D Z PJ! x.wg (λ_ h=>h) a! Z A! (Al! (Fa! hz)) (λ_ _ _=>rfl) oI! (λ_ _ _ hz=>Fa! hz) (o! AO Z) (He! (h! he)) (CJ z5) Z;show k _ _ D _ _ H2 ?_ ?_ wi wfr A!;(.show hR v [] { W with c:=W.c,ls:=OU!++[],G_:=Lx!,IF:=W.IF } _ _ _ A! (Nv.zero (AO _) A! A!) vP #[y,_,i1,i2,[],ey,A!,A!,A!,A!,Z]);.show Jlp ey A! A!,
RS?,[h,_,A!,p,dx,_,A!,hp,DJ!,_,A!,p,a,G,ta,A!,S,ha,Z],
JxN,x.got i (ls:=Z) es p1 p3 W2 (JU! QD9) (SZ (h! hb)) JzY PJ! JzX (Eb! (h! (R4 mem t ht))) wg st Z Z Z Z mu (Eb! (Jow ht (x.ma.lt _ hl))) (λl h=>Z) (Nat.le_of_ble_eq_true A!) Z cA cB k _ λ_ c e=>hR _ _ _ _ q G _ _ hi (Eg! (Ao! Z)) c e ey,
JxO,(Gy (dd:=Z) g x1 hn hB hd m4 cB (λv dv W' D' al' EA H2 tl ef wi fr fp eh=>?_) bad b eb),
RT?,by show wpAny_comprehension_free A! hs KA ID II (Zk! hi (λv s1 h1=>FG h1 λxP s2 h2=>?_));have#[it,fp,tn,J,H2,e,I2,T,pG,f2,hW]:=h2;subst e;show C_ ?_;have cS:b3! s2.heap.objs.size:=I2.EK.fresh (ZG _);have I3:S1! (d! H2 s2.heap.objs.size (XV [])) { s2 with heap:=s2.heap.push { cls:=B5! F7!,dict:=none,data:=.seq ([]:Y!).toArray } }:=I2.sr (t':=s2.toks) (its:=[]) a! MF!;have#[W,#[m0,w0],turn]:=hW s2.heap.objs.size cS,
RU?,by show FG (Ly (X:=MK X sc cl C Z s1 H1 fp tq) hc Z A! A! _ s7 (v0::v1::Z) H7 y u (LU! (GF=Z/\H'=H7)) I7 r7 Z) ?_,
RV?,by show Bh? Z (Ce (lQ! Jxd)) (IQ! (Jnh (i:=3) A! A! A! Z A! A! A! g.cHE (λAB E ES kR=>Z) (λex=>Z)) (Ao (pv 2))),
RW?,by have lt:=od!;show Z (K:=K) (a:=l) (p:=p) (xs:=oy!) (AJ!:=AJ!) (OZ! (pR! i ys H2)) (MC.start hp) (λi ys H2 _ pv=>?_) (λi x ys H2 N hx pv n=>?_) λys H2 pv=>?_,
JxP,(h _ #[ge,oe,vs,a0,T,_,_,(CQ _ _ t3).trans Z,h2,h3,h4,t1,t2,t3,EJ _ t4 (LA (FQ t5 _)),FQ t5 _,by simp[hsz]] Z),
RX?,by show#[_,A!,p,wQ,_,A!,wH,Di _ ZV,p,KQ Z,n,rs,A!,lI,kC.KQ,zn,rL,A8! (rK q mq!),pm,pw,λx as yQ hx ex ba S11 wM=>?_],
JxQ,∀vs H Q E,PG! sp->Bd P w K mg Bf! Z Z N ps qual st f k vs H Q E,
RY?,by show#[_,A!,A!,_,A!,mP! (λ_=>#[_,A!,_,A!,_,A!,_,A!,#[x,y1,y2,y3,a,bs,os,ta,A!,P! PY ex,Ut! PY,pE! PY r2,smR,P! PY ea,λhd cs H6 e_ ehd each=>#[v? l,_,_,_,A!,A!,TS! e_ (wP PY el),A!,_,A!,hd,x4,_,cs,A!,IN (FF! ehd),#[ao!,Ak! (go t (Z h ta tb) H6 _ (Af PY e_) ht #[a,b,Ab,Ah ht _ _ (IY! e_ PY ea),Ah ht _ _ (IY! e_ PY eb)] #[iF,ye,yd])],JS! #[ao!,Ak! ((each c hc).elim λtc #[smc,ec]=>go t (Z h ta tc) H6 _ (Af PY e_) ht #[a,c,Ab,Ah ht _ _ (IY! e_ PY ea),Ah ht _ _ ec] #[iF,ye,smc])]]]])],
JxR,(Dk (tt:=Z) (te:=G4!) (AJ!:=Z) A! Z A! ZV A! ZV A! Pf! (λy h=>FX.S_ BT! h) Pg! ZV Z U2!),
RZ?,by show FG (Cj (X:=Z) (i:=0) hN A! (DC! iS) (Eg! iS) _ s7 (v0::O4!) H7 y u (LU! (GF=lH! y/\H'=H7)) Z r7 DQ!) ?_,
JxS,k v Z D Z ys H1 (hr Z #[#[A!,nu,ec,A!],A!] A!) (Jq7 be nw) (x.oj (AL!:=Z) be W1 wf nw tk md mk ou (o! e wg) (o! e st) Z Z (D5 Z (Cs! Fb f LL.w R (MZ H1 W.G_) lw)) ?_ ?_ hc ME!) (zq wf) A!,
Ra?,by show codeAny_call_function hr.depth (wP KX lk) A! S.co S.gen A! (W.codeRec_of KX UG) (hb _ _ _ _ ?_);show wpAny_newFunctionEnv_cells S.kind ID λenv he s1 x=>?_;subst he;show#[lim.keeps x.toInCall.keep,codeAny_func ?_];have#[t,ht,hq]:=Z;have I:Inv Z [] (start N vs) H s1:=Z;show FF (ht [] s1 (start N vs) H _ I hq) (λfl s' hs=>?_) Z;have fin:Z :=λ{GF H' v u} J rv q=>#[v,H',J.os,J.bare,J.base,J.EK,rv,q];cases fl with | ret u =>have#[v,GF,H',J,rv,q]:=hs;show AH! J rv q | next =>have#[GF,H',J,q]:=hs;show AH! (v:=V.GJ) (u:=jF!) J A! q | brk =>have#[_,_,_,q]:=hs;show False.elim q | cont =>have#[_,_,_,q]:=hs;show False.elim q,
Rb?,by rintro i rest b s' ⟨h',j,rfl,hr,hj,XY,sb⟩;(have lt:j<UU.size:=by show C? (j<UU.size);(.show c);.rw[VQ (Cy! c)] at hr;cases hr);(have er:i=j/\rest=List.range' (j+1) (UU.size-(j+1)):=by rw[Te! (UU.size-j=(UU.size-(j+1))+1),TQ] at hr;show kE! hr);have#[rfl,er]:=er;have go':z! Nw! o oo:=(sb.2 o ne.symm).trans go;have#[x,hx]:=QDZ CV!;show ZR (DT (s:=CU!) go' WJ ?_);rw[entry_at og i,hx];have kx:=knd.keeps (du x (ZP hx)) gd bt sb;(have zl:EJ! (Fy xs (more.take i)).length:=by have h1:=P5 (more.take i) xs;(have h2:AZ! more.take i<=more.length:=U! CO (NZ _ _));lia);show R? EO (Jbk (s:=CU!) room kx XY zl λh2 hd2 yf=>?_);have go2:z! Xu! o oo:=(yf.2 o ne.symm).trans go';show ZR (HK (s:=JQK) go2 WJ ?_);show AV?;show ZS #[h2,Am!,A!,er,lt,U! (Xm xs CV! hx) hd2,sb.trans yf],
JxT,by show N?;rw[eval_ListComp];show Z (use:=SB) hc hi KA JH ID II hx KH has MA hN ht he I h (?_) hs;rintro C D H' s1 s' H1 hC I1 I' hn ⟨m,hm⟩ q;subst hC;show#[m,hm,λh' kH=>#[by!,H',Ti (s':=s') I1 I' hn kH,A!,q]],
JxU,Ex8 λnm q N bs bm hdct sn sub=>yT λab col dd k0 k1 k2 k3=>HN λk5 mN=>an! C (excClassObj nm q C N bs bm hdct sn BO! ab col dd k0 k1 k2 k3 k5 "ValueError.__new__")/\h.Ns N mN/\EX! mN jA!/\OwnTail h x9 bm,
JxV,J75 a p pw p0 l t7 t8 m i sh x0 x1 x2 x3 x4 x5 x6 ns q W8 D8 uN jn GF H',
JxX,Gl (Z) w K mg C CW CP CI CD HE NH NG OD MI NW NL NI NR FA i4 jI Wr kT oJ nZ mY mU qJ qU mZ n5 qh qO qe qW qS qH qN qI oN oH n8 qX qV qg qR qQ nY jS Mo Iw Iz Iy Mj N3 oA Nz N2 N6 Mn Mp Mi Ml qP qY mX i' qK qM m_ nC nD Ka N8 N7 N4 N9 N5 n_ qZ Ws n6 nX mW nK oF nq qa qb oB qi nJ nG ny oC ng oK mf oE oG nV nQ nU ni n9 oM mV oI dA ki mD i9 kg l8 mF lU lO p6 qE lV mK qz p_ qw qk qD pq p9 p5 mh lr mO qm qF qx qC qB mE i_ Mw Kc Ke Kd Ms Od mR Ob Oc Og Mu Mx Mr Mt qA qr lR mj p7 p8 ml mn my Kf Oi Oh Oe Oj Of mQ qt i8 mL mC lQ m7 lZ mI qu qv mS q8 m6 mz mJ lX mG l9 lW lY lb mB m8 m9 mH mP l_ lP l7 dC,
JxY,J5y P w K mg Bf! C CW CP CI CD HE NH NG OD MI NW NL NI NR FA i4 jI Wr kT oJ nZ mY mU qJ qU mZ n5 qh qO qe qW qS qH qN qI oN oH n8 qX qV qg qR qQ nY jS Mo Iw Iz Iy Mj N3 oA Nz N2 N6 Mn Mp Mi Ml qP qY mX i' qK qM m_ nC nD Ka N8 N7 N4 N9 N5 n_ qZ Ws n6 nX mW nK oF nq qa qb oB qi nJ nG ny oC ng oK mf oE oG nV nQ nU ni n9 oM mV oI dA ki mD i9 kg l8 mF lU lO p6 qE lV mK qz p_ qw qk qD pq p9 p5 mh lr mO qm qF qx qC qB mE i_ Mw Kc Ke Kd Ms Od mR Ob Oc Og Mu Mx Mr Mt qA qr lR mj p7 p8 ml mn my Kf Oi Oh Oe Oj Of mQ qt i8 mL mC lQ m7 lZ mI qu qv mS q8 m6 mz mJ lX mG l9 lW lY lb mB m8 m9 mH mP l_ lP l7 dC]
def ZV{p:B!}(h:p:=by show BB?):p:=h
open PySem PySem.Spec PyProof.Rows in abbrev ZR:=@wpAny_bind
open PySem PySem.Spec PyProof.Rows in abbrev ZS:=@wpAny_pure
open PySem PySem.Spec PyProof.Rows in abbrev ZT:=@Heap.get?_push_of_some
open PySem PySem.Spec PyProof.Rows in abbrev ZU:=@Heap.get?_push_size
open T CXFyaZvtoMhl BhgfWYSOtBzY BbOBKghSBcmO BRtJipvJrhnR hXowizbQDAT jAAhNMAyRhE CLJoaFJZppbt BnSwNGcqWHft CVRnPkzWiBiD BHdxFZCubbLT BnGhiwgOUGZO BNsiyDoASWsj BEbybFwqGHAa ByXeBPliJslc DrlGlzQwyHn ogneViAUool CAnNKhbJYKyB BLmyfcdEjHjC EqiTpfyZQQR BCadAVxnPixn rypIIwilETG BJjQuyzyQbNa BCgnpqfDyNqG BgNiMCtLLVgG BPYRdNonndyF BPfdUAVPxLVG dvjlfnFBeua wmEwbEMAeJV BolSmBVAiGAm lAuCyEuPuju OjsgtpcxwyC SfMNBfshpdC BkIeZOjmMjpf BhizIPhJhbIY wbeimyqkkRz CAxfvGOkyuYM BYkadtcvCUwM CLkbLueocMqG CJlBsLQErUFM CDbpkidpGrMa BhrWUdornycV wUhumZcNuyh lirEPKUVzdV CBvZVLCIQzBV CGUkiPQTBYkO BzRuWOPseglY CUPKClJQYlmi BVbjpuuEotPA NeJSBUUkNXD BtSinNqGCmBI CSgZcteTXaVB CYjEdMFRpxH buOOzwBuos BeLWndtajdTJ gTLuvHCjsQR DVitqUtHsWM TKdCKYKWUAM VlJInvAjMNr ctfKRjTpvt GcWEzGECWAb BsNEeolxrplL BqMFuaSNQOMn BvrZIiknadaJ OhTuGtOhiNp CWIhWqhTzCWF ByHBFtbJpKrW CBFZaZfcjFwY dVufXnVMfSG enzXyIgxOwD BWDhHfWLRCQU gNryopRIQvk BIDGImLWuaJU BYLGVEFSqpKr BeOmasTIBUIT EnTXYkOSqcC BxeTQdiGaGyq CEOXwNzIrrQM BlZvpPWoCOtn tuomRjvcBGc BxsiFlwphest WgckKheWTBq BbnmqAGJmDdV CUBJhANBWaVi EJzamsVKSLo VBgynGCIdJb BKNpNeGjjmbo mNQYXoCnUJM peLXblvYfbw CEEfqgzSMOqv jFRWOiFNBZr BLZwGjpmreYK CGkaomYHdFGX vebZoUUiVYR dHKUvbDcjNK jUZdimsoprP lMVCjNcmagm CKksfPNNYiGD DFamcgzBWOD BUPMaSvxAXWb TmwJAqdvJeQ TRgRnDmvset zmEOzQWIWdV BRbEjpzIORhH BKHZiUNkdIkI BeSWDfIWvXZH kJjwNOhgDqr BAbNRpCmSDsO CKqlDZjePRDJ BPXFJLMLgxuo fdlrclDTKiD CXLpdRiXGILa jZhwIkEBZmo BTzFCYlwgKUG xGMlbSlrNGs PNdumwLifcF CBnIxceETWiT SgBvYjmidsy BxYSqrmIKqbi BZdHnstyytxW dnSMnYlVFtB BzOFUroxDGlH BBVdlljEXeNw BbPullZiUAeZ BltDuCFOFsaY CWrIqWSjgGQE CRtfSjXaQlmY zBJLHPoudgL rcisJbJVNhW IGEAPyuLLzG CORRQXrQjUGn BpaaVbIiPAkY BwENEDRmFZTv xKAFajDSkbJ BPxoUzQXPsfq CLTRKWnYvMKh XhZWIVUJvxw BrHfsfUympsq fesMKPRqHZe RqTRhoGnzAa CFaZzHXMzqAP juaHiIyQlGO tNMQAqULwYl BSgPIfoICMyK JvIqSCcOopg BtzVRSVpfUZR BAuPQLGpzake BMDUhdTCYgEx BWBUPjMhrNRV FXjdnsKQYNq nIjJdNsCwlz atRslkTbLSM eYJuPnmcHBh tSHDgSdanTY CUJlZBAZfFLN eKORFLPHJzD StfMFxiGXvB BwPxfeGZIXLC tDyDRXGOHFQ CJBBEKRvvrNE BYmiBfYMvAAx BYLFWOIijrjs JdFiTLgcOZL BCWrFBvsxbXt CYPYagatkLU khgHQDPzlCl CHpRfpjLshFL INDWdZbnOZn jenurTelkDg CPbUinqDTKhM BrxmNankhomh CLIBmqjuhkDe CBOYRpakmnip xuTPkeNQVcs BNspPnXzvfRL CFBmBFROBuJq msxaJEGJOXY BigngYqxCJv BcRryAfSFrJD BzEjmOUnVMoA xDWXnGjuyvS BnSWLpUhmJCY fMtSULaRALu BGosqjOlQydb BuaIXkcViFhG BJgxuHqIWLVV CLBXUbGqapoF BZpapIIlSJdK CAtdutewPfiN odnDlEUwmxl CLDMMpYqXgKZ CVfZsAXqeSbj CcgaSIaWvSY BNaAXOuYGghS NctBDLxNnDI GUCEcvreZDF kpLhfQeyZGe UDJTjWRqTOY CNueEIOxWSFN CEacnrnkFaXj TLWJWnORvPI CJtkArIYpmFU CJyUBROwczfs CFuxMWrPdRCo nlKzwtzbYat BfNdgPkWqXXt LYBWqfpcePv SapJUFzLVop wJTuyMpIuIO BUsLwfOyrNsQ CMsKubSajFJl xHMhBMDqBfz CKWGwkMyBKHz BpbUHOGVFRND BZccQIyOQrsL weTCdAtjupj ycWBdjbKAKN FRnYXYtqGCH QdLEeIMjsrI BkGuxmJZGXEd nFuXPWwBeDc CWXJHQtdgqMA qQvkQfQBQBU jdVLPeobZuN YVwgxOGjlDt CInqCvSCyvsb iBdvleeZKNy BohLspiILwTE BhNzceoGnHiA BsZODXrbAsGl rfDPcJNvUVa CWvzWAtLzJGn CXUSLSnhsXjU SEHpyDyoVlj CJcwHURwkRpm CVcuVVckEvkQ BhSmeHkbkkqE OJkJgJcbJYC BQBzhGmGIHXI CJbnwczEDMUe CQiwInZwFDfr BrSDZPWVHkPz XvZYmpyUBUB ZQRZaRAnVkF BCUGtmWAWfgU BWveoQEXzyWB BEJTmBouSFWY CLhdeSCnaSbk BCapbefTccxU gfsaWehNjKl UlKdoCkkHun hYCbcBjbLjN CBYwANROCOZy bPUsRrVZVhB ddIhQhvBEzp BZLftJhcGtqB BkbCIMxXYXkv KjJgWuQkInx BnSdhCIwBxpL BtCzuPKVIHDU CVMkNCEnkSrf NutuWkkCFCP SGhbMyNRnhk ZjdUZFzfbpa IAvpsVtyMmY BzoAantWbTn XgHHRRcifdq CMPRwzzhEwjj ucnSFckMXbi vQPyiqOnnxE BCIXUTeWwlnj CMJaqpWRLiKA CTRRbPyBEMDv CPGMevDuiWqr BfbdOodnJjiN JaxxegMxscT tMrnlnAdirf BehfKXFeEVYY ZlzSuAufeEP muWdVAxEZwz BaqqjsGlEdVi CQTlGtwUksUE BhUlwsWigeLq BUwhrYeIjqCW fvVYmIAzeXu IIdiLbWpZcE YRyFoDCCegq CGIuCnbFRIOo BdNqPYCaiYvm CEDUCnmOTREh GfNTeGEKrhz VTnMDudcABd BdDmsJMfhsBK CQyHysVFmxca lmXcrMNfFmo BoPBVwKWrImD BXcKaFnFeRWk BVZByybCFqo CFDLboqWDnJu BSzsBzJUmyIz QeiBigeMJlA CFsXAwXwQBYA BGlfJCmjcjfq COZSaOlhANnY CKquaQVlvovT cnyYAOrDtzz OoqtlmmVvUm BnMLeBGqpTMe ufsYCDTcpOw BBIFLdYkLUBk woLASvRgQRF BJGZnmMeWNuH CVEQsSuLDGkh BVVnRSTeEboD OErvgsmTprn xwsYyIbaQsv BwcOcHWbxZIK llCCieZsvUp CvWUBKalXfx XsnPxvLyPWR BTVPNLIsXmJp SlpWyJreKtU ByKbqYyijvmB lZCaBQUGgXJ BYDRTIuAtVac BRmrpyNylFzd UzLZfQCXNzv CDzeRPAMQZAp BQYvFfICiFMv BaImXTMvEAC CPCAalWuBIJz EQPntpTlOqG IqibvHpEuRJ BTpDORoUmtND CScVqiYvIvwK CGTFouiYvkSh gIaUwzqBdFK BnVHiYgbiiQG FxdWtGSchUM VKrijLqqweT BKGPfXIlQhQQ BBUZqaQwMiVv BGbXbOqGAxKs OJtBmszxTlM CXTrdrwhBoSB BhkzPvjgRcRs BcFJtiXFWHPJ OutbrlewfiJ ZDkYhmMdIrx HZYWIcJlQrs BCArdEeTPTTu BfdnaGButJfq BIqPaeAItEZe ByJzXZCimfZM vcdtTwhFJMj NfUnNmNsedO BKdjTkwHmeW CJySpuORENXl BnuHeFvlQypE rTroGAZdZYc zgwpVkqscHr BePxsLXlJNwf CPHDowxcETsD tbyOKSsxae CQblLAEqGDfY QywipypSkxi txGusBtDJAl BaSdgUyRUDaZ BaeFFtNYjrOD CAmQEnzeRDCG BLwbepriIwpQ BBCPAqMlQRtB pQyJqQxOzor nicgmJaKByF BQbBdAxlbQqR SkUppENDKD BETGJeJRUiJi BZMoVzAoiaLH WHTJSqWvSdx CByPqrFDbXuQ BUhHaGaIyQvB BCFtlCMaiGGi pYzbvLAFIxg pmqaCYpqwkb CQNAwIwAXeEY BIpwGfQGjtlx BDZFkotxWwyF EMDAosBLKXT uNkzKeNVGMT SKkHvLOOgZk BUhTdSYNJRGu BtnNdFSptEg KEqvsdnnyVz BxmBoQGAKMrK CNNfwEWzAxYX kPMZEnFZUub BQpBSawvaCKT kZqlAjOKXiu tnuEOeMpLEp RKlKyIuhdMQ BWmfmNlwBBQG CTbHOqdXIhwh bcNEjYJVgBz BrJjHvbyeSnu BUcrJnBLOOjY TECxMitXWMd olblJauXmFl FGcmFDxPGoS BEzupHLwhjhv CQPvTlqsbRiR kJSBSrkItVD WCcfoyEcuUS QzPWyjDdvjN rRgclPuxYgy ZjBJZleriWx CQzWHsCMNQYR HQkLaHRpNoz CHmbwnmQByxF BCVLezkTveYH LLyrDltzaoZ oGLhTkNZYGB LNeptfWECXz BitNWmJmdFSa waYwbhZESPK rnSErXrASCE KsgLTgMbFdu oBmLWjlJSNN TStyjYYCSNS BGXMLxFUJTnM CGCtlbAwZrXH ZSvaLTdTEND DxOYrTQOFwX gWYwuwOcpBd bzHfYTbZIhr BlbHvqHzySiT CWGNKlsbWgZo BLWAoUxJQurS CClSXPkWyUWw JoJLarTSJRV BDtmUktOQXvi BVbPcUzfNBiT BLNUBMtTgzvI CWtmFXwaUVnv BpzgffHhjGAu wWfUDnVFzZy BgXRTgQwYctO BvGmcIhhSfLN CKilQcpXBAFJ XUSHVcLBJgG vNblMybtLTy CJICeHVdqILA ByRSxxPLJCes BFYFqsIYTjgR ChRIKzHUPlN BJAsnFNWvnRI liucIotZUAk BmJMXBDDFBUJ nXEoDiFhzmd hUEastvLMUa lSkXyZttNvE LVVvdgMLnHL JlkAqIWHHes scnxsJZrEPD BnQJoMCBTkej BqhNZEaVMBWz BugyFpsUlYrA BrUooJlILsMh OfEobwoPwxX BXiIIgBNdddf RDLlkbksyLh xLTdcDLYZDb BsCcudIIsrdl BJLLTaVlNDIR CLXihvzYdagY PLUcbCbvzwO nAJlYCUZhYy BthdraCzMMMm UcrEdbqlLRd BpPkjClavEm QzaRJVkNHWV BaKXpOvxlKXX CVzzVHRbWbam xGcrXKxEjoE BvtEXXsEayrq BZFzgphaFzHB jYuMFaRfIyI BMEnPFgKpUTC BjtwHFnIPOLn hbQLuoWuzhB dCaCwEUxeiD CBctognpGYVq BeIdTRcvGENj oOWvFbMvPRM TKJhncNeDxm CCzMBiyNwHVu YcTxvRdKUeb BLFMRXylSoor CPSLAUglhHaW HtWQuuoPnWu BqDVgIKVnmZo
def ZA {α β : CP!} {as : R!} (f : gH!) : nU! f = as.length := List.length_map f
def ZB {α : CP!} {a : α} {as : R!} (bs : R!) (h : a ∈ as) : a ∈ Xo! := List.mem_append_left bs h
def ZC {α : CP!} {b : α} {bs : R!} (as : R!) (h : b ∈ bs) : b ∈ Xo! := List.mem_append_right as h
def ZD {α : CP!} (y : α) {a : α} {l : R!} (h : Xp!) : a ∈ y :: l := List.mem_cons_of_mem y h
def ZE {α : CP!} {as bs : R!} : Fq! Xo! = as.length + bs.length := List.length_append
def ZF {α β : CP!} {f : gH!} {as bs : R!} : (Xo!).map f = Bd! f ++ E4! f := List.map_append
def ZG (n : Nat) : n <= n := Nat.le_refl n
def ZH {α β : CP!} {f : gH!} {as : R!} {i : Nat} : (Bd! f)[i]? = as[i]?.map f := List.getElem?_map
def ZI {α : CP!} {a : α} {s t : R!} : a ∈ s ++ t -> a ∈ s \/ a ∈ t := OR.mp
def ZJ {α : CP!} {l : R!} {i : Nat} {a : α} : l[i]? = D! a -> ∃ h : i < l.length, l[i] = a := List.getElem?_eq_some_iff.mp
def ZK {α : CP!} {a b : α} : a ∈ [b] -> a = b := FH.mp
def ZL {α : CP!} {a : α} {l : R!} : a ∈ a :: l := List.mem_cons_self
def ZM {α : CP!} {a b : α} {l : R!} : a ∈ b :: l -> a = b \/ Xp! := BY.mp
def ZN {α β : CP!} {b : β} {f : gH!} {l : R!} : b ∈ Db f -> ∃ a, Xp! /\ f a = b := AQ.mp
def ZO {α : CP!} {a b : α} : D! a = D! b -> a = b := Option.some.inj
def ZP {α : CP!} {l : R!} {i : Nat} {a : α} : l[i]? = D! a -> Xp! := List.mem_of_getElem?
set_option autoImplicit true
set_option Elab.async false
set_option maxRecDepth 100000
set_option maxHeartbeats 4000000
inductive HN{α β:Go}(p:ED!):B!
 | mk (a:α) (b:β) (h:p a b):HN p
inductive M_{α β γ:Go}(p:α->BC! β γ):B!
 | mk (a:α) (b:β) (c:γ) (h:p a b c):M_ p
inductive a9{α β γ δ:Go}(p:α->β->BC! γ δ):B!
 | mk (a:α) (b:β) (c:γ) (d:δ) (h:p a b c d):a9 p
inductive sQ{α β γ δ ε:Go}(p:α->β->γ->BC! δ ε):B!
 | mk (a:α) (b:β) (c:γ) (d:δ) (e:ε) (h:p a b c d e):sQ p
inductive vo{α β γ δ ε ζ:Go}(p:α->β->γ->δ->BC! ε ζ):B!
 | mk (a:α) (b:β) (c:γ) (d:δ) (e:ε) (f:ζ) (h:p a b c d e f):vo p
inductive yT{α β γ δ ε ζ η:Go}(p:α->β->γ->δ->ε->BC! ζ η):B!
 | mk (a:α) (b:β) (c:γ) (d:δ) (e:ε) (f:ζ) (g:η) (h:p a b c d e f g):yT p
inductive Ex8{α β γ δ ε ζ η θ:Go}(p:α->β->γ->δ->ε->ζ->BC! η θ):B!
 | mk (a:α) (b:β) (c:γ) (d:δ) (e:ε) (f:ζ) (g:η) (h:θ) (h:p a b c d e f g h):Ex8 p
set_option linter.all false
open N Lake.L2
open PySem PySem.Spec PyProof.Rows
@[reducible]abbrev Key:=Sum KE Ag!
abbrev yF:Key->JB!->BH!
 | .inl k,v=>Value.isInt k v
 | .inr x,v=>Value.isStrOf x v
abbrev J68(w:World):Key->KE
 | .inl k=>hashInt k
 | .inr x=>hashStr w x
def D2:∀{k:Key} {v:Value},T! (yF k v)->(HN λi t=>k=BI! i/\v=hg! i t)\/(HN λx t=>k=E5! x/\v=Xq! x t)
 | .inl i,v,h=>JWz Value.isInt_shape k i (h! #[i,t,A!,e])
 | .inr x,v,h=>JWz Value.isStrOf_shape x x (x! #[x,t,A!,e])
def Juu(i:Int)(t:Tok):T! (yF (l! i) VP!):=by simp[yF,Value.isInt]
def Jut(x:Str)(t:Tok):T! (yF (IN x) (wp x t)):=by simp[yF,Value.isStrOf]
def J44(a b:Int):QFA BI! BI!=(a==b):=M9!
def J41(a b:Str):QFA E5! E5!=KB (a=b):=M9!
def J43(a:Int)(b:Str):zU! BI! E5!:=JPk
def J42(a:Str)(b:Int):zU! E5! BI!:=JPk
abbrev Cs(prog:Program)(w:World):PySem.KeyKind Da! w Key where
 is:=yF
 hash:=J68 w
 inj:=λv a b ha hb=>by
  show EE? (D2 ha)
  .show KK?
   .show Fl?;rw[e1]
   .show hl!
  .show KK?
   .show hl!
   .show Fl?;rw[e1]
 byValue:=λk v h=>by
  obtain⟨i,t,rfl,rfl⟩|⟨x,t,rfl,rfl⟩:=D2 h<;>rfl
 pyHash:=λhv h=>by
  show EE? (D2 hv)
  .show wpAny_pyHash_int h
  .show wpAny_pyHash_str h
 eqBool:=λhu hv h=>by
  show EE? (D2 hu)
  .show HK?
   .rw[J44] at h;show ho! h
   .rw[J43] at h;show yv! i t y u _ _ _ _ h
  .show HK?
   .rw[J42] at h;show yw! x t j u _ _ _ _ h
   .rw[J41] at h;show wpAny_eqBool_str h
 «strs»:=λk x t v h=>by
  obtain⟨i,u,rfl,e⟩|⟨y,u,rfl,e⟩:=D2 h
  .show hl!
  .show Fl?
   subst e1
   cases v<;>rfl
def Jog(prog:Program)(w:World)(i:Int)(t:Tok):JcG l! i VP!:=Juu i t
def Xl(prog:Program)(w:World)(x:Str)(t:Tok):JcG IN x (wp x t):=Jut x t
set_option genInjectivity true in
inductive V where
 | GJ|bl (b:Bool)|int (i:Int)|str (x:Str)|az (b:Array UInt8)|uH (b:UInt64)|ref (a:Addr)|ty (n:String)
 deriving DecidableEq
abbrev RelV:JXH
 | .GJ,u=>hr!
 | .bl b,u=>JLa
 | .int i,u=>VR!
 | .str x,u=>f6!
 | .az b,u=>JQL
 | .uH b,u=>JQM
 | .ref a,u=>JyV
 | .ty n,u=>zY!
@[reducible]abbrev Vals:BC! C! Y!:=Mw! RelV
def Vals.length(r:Ig!):xs.length=us.length:=sQ!
def Vals.get{xs:C!}{us:Y!}{i:Nat}{x:V}(p:Ig!):PP!->∃u,us[i]?=D! u/\If!:=by induction p generalizing i with | nil=>intro e;simp at e | cons r _ ih =>intro e;cases i with | zero=>cases e;show L? r | succ i=>show ih e
def Vals.append{xs ys:C!}{us ws:Y!}(p:Ig!)(q:Ct! ys ws):Ct! (xs++ys) (us++ws):=Je2
def Vals.take{xs:C!}{us:Y!}(n:Nat)(p:Ig!):Ct! (xs.take n) (us.take n):=by induction p generalizing n with | nil=>show Ay? n a! | cons r _ ih =>cases n with | zero=>show a? | succ n=>show Os r (ih n)
def Vals.drop:∀{xs:C!} {us:Y!} (n:Nat),Ig!->Ct! (xs.drop n) (us.drop n)
 | _,_,0,r=>r
 | _,_,_+1,.nil=>a!
 | _,_,n+1,.cons _ t=>Vals.drop n t
abbrev UO:BC! Uy! L5!
 | some v,some u=>Cm!
 | none,none=>True
 | _,_=>False
abbrev KV{κ:Go}:BC! BG! dZ!:=Mw! (λ(p:κ×V)(q:κ×Value)=>y!=H!/\Ea! AQ! Rs)
abbrev kV:Key->V
 | .inl i=>IM!
 | .inr x=>V3!
set_option genInjectivity true in
inductive HO where
 | BK (xs:List V)
 | BI (xs:List V)
 | dK (kvs:List (Key×V))|dT (kvs:List (List Key×V))
 | set (S:Int->Bool) (n:Nat)
 | ins (C dx:Addr) (fs:List (Str×V))
 | own (x:Addr)
 | xd (fs:List (Str×V))
 | met (f x:Addr)
 | rng (lo hi:Int)
 | IV (o:Obj) (u:HO)
 | rB (ps:Array Value)
 | ext (φ:Heap->Prop)
@[reducible]abbrev Hp:=G!->r0!
abbrev upd(H:Hp)(a:Addr)(o:HO):Hp:=λb=>Uj! (b=a) o (H b)
def Ab{H:Hp}{a:Addr}{o:HO}:d! H a o a=D! o:=by unfold upd;rw[AF A!]
def Ae(h:b≠a):d! H a o b=H b:=by unfold upd;rw[B9!]
def Hh:d! RJ! a u=d! H a u:=by funext b;unfold upd;split<;>rfl
def Xk{H:Hp}{a b:Addr}{o u:HO}(h:WF!)(h':Tj!)(d:o≠u):Rk!:=by intro e;subst e;rw[h] at h';show d (ZO h')
def Am{H:Hp}{a b:Addr}{o:HO}(h:WF!)(h':BU!):Rk!:=by intro e;subst e;rw[h] at h';cases h'
open S
variable (P:Program)(w:World)
abbrev E_(H:Hp)(h:Heap)(a:Addr):J7! HO
 | .BK xs=>JaO (cX!/\KS! { cls:=B5! F7!,data:=.seq CR! n })
 | .BI xs=>JC!/\∃its:Y!,cX!/\IsTup h a CR!
 | .dK kvs=>wu!
 | .dT kvs=>n1! a5! (∃xs:I5!,
  KW! (λ(p:List Key×V)(q:List Key×Addr×Value)=>JqQ) GE xs /\
  M_ λo es ep=>ov!/\o.ExactDict/\P6!/\es.toList=Cv! (Rl! (Xs! aV!))/\CH! Cv!)
 | .set S n=>h.SetOf (intKind P w) a S n
 | .ins C dx fs=>JXC/\zi!/\dx≠a/\KS! wx! /\
  ∃mA,ha!/\(ir!)/\JoD
 | .own _=>zk!
 | .xd fs=>∃mA,h.Ns1 a mA/\ir!
 | .rng lo hi=>M_ λt u v=>KS! { cls:=B5! Xt!,data:=Rn! #[ZZZ,UK! lo,PP hi u,PP 1 v] }
 | .IV o u=>ov!/\E_ H h a u
 | .rB ps=>KS! ht!
 | .met f x=>KS! (KM! W.methodObj f Is!)
 | .ext φ=>φ h/\(zk!)/\∀h1 h2:F8!,φ h1->(∀o,O5! Nv! o->O5! Xu! o)->φ h2
abbrev PV(H:Hp)(h:Heap):B!:=∀a o,WF!->ui!
open E
open S
variable {P:Program}{w:World}{H H':Hp}{h h':Heap}{a:Addr}{o:HO}
def E_.lt(x:ui!):yx!:=by cases o with | BK xs=>have#[_,_,_,_,e]:=x;show Bv! | BI xs=>have#[_,_,_,p]:=x;show p.lt | dK kvs=>show IT? | dT kvs=>show IT? | set S n=>have#[o,_,_,_,e,_]:=x;show Bv! | ins C dx fs=>have#[_,_,_,e,_]:=x;show Bv! | own y=>have#[_,e]:=x;show Bv! | xd fs=>show HE?;show Bv! | rng lo hi=>have#[_,_,_,e]:=x;show Bv! | IV ob u=>have#[e,_]:=x;show Bv! | rB ps=>show LE? | met f y=>show LE? | ext φ=>have#[_,#[_,e],_]:=x;show Bv!
def J6r{R:ED!}{S:BC! γ δ}{f:α->γ}{g:β->δ}(h:ff! (S (f a) (g b))){xs:R!}{ys:B8!}(p:HS!):TZ! S (Cv! f) CS! g:=JUS
def J2w{R:ED!}{S:lg! δ}{g:β->δ}(h:ff! (S a (g b))){xs:R!}{ys:B8!}(p:HS!):TZ! S xs CS! g:=JUS
def Jw7{R:ED!}{f:α->γ}{g:β->γ}(h:ff! (g b=f a)){xs:R!}{ys:B8!}(p:HS!):CS! g=Cv! f:=by induction p with | nil=>rfl | cons r _ ih=>rw[AI,AI,ih,P! h r]
def J0s{R:ED!}{as cs:R!}{bs ds:B8!}(p:gn!)(q:JZX):Jdz:=Je2
def J4g{R:ED!}{xs:R!}{ys:B8!}(p:HS!):∀j,JlS:=by induction p with | nil=>show λ_=>a! | cons r t ih =>intro j;cases j with | zero=>show t | succ j=>show Os r (ih j)
def Qa7{F G:ED!}{XC:R!}{l₂:B8!}(p:Cd! F XC l₂)(f:∀a b,F a b->G a b):Cd! G XC l₂:=by induction p with | nil=>show a? | cons r _ ih=>show A6? (wP f r)
def E_.PZ(x:ui!)(k:QDU (b=a\/JEj) (TJ! LR!))(ho:∀b,JEj->Z6! (JD! a))(ht:he!):t6! H' o:=by induction o with | BK xs=>have#[z,its,n,r,e]:=x;show#[z,its,n,r,E1!] | BI xs=>have#[z,its,r,ob,e,c]:=x;show#[z,its,r,ob,E1!,c] | dK kvs=>have#[z,y,vs,r,ob,es,ep,e,c]:=x;show#[z,y,vs,r,ob,es,ep,E1!,c] | dT kvs =>have#[z,y,xs,r,ob,es,ep,e,c]:=x;show#[z,y,xs,Qa7 r λp q z=>JnY,ob,es,ep,E1!,c] | set S n=>have#[ob,es,ep,t,e,c]:=x;show#[ob,es,ep,t,E1!,c] | ins C dx fs =>have#[d,z,ne,e,mA,#[od,es,ep,e2,c],r]:=x;show#[ho _ d,z,ne,E1!,mA,#[od,es,ep,Qy! d e2,c],r] | own y=>have#[ob,e]:=x;show#[ob,E1!] | xd fs=>have#[mA,#[od,es,ep,e,c],r]:=x;show#[mA,#[od,es,ep,E1!,c],r] | rng lo hi=>have#[t,u,v,e]:=x;show#[t,u,v,E1!] | IV ob u ih=>have#[e,q]:=x;show#[E1!,ih q] | rB ps =>show M7? ht! ht! | met f y =>show M7? JTB JTB | ext φ=>have#[p,#[o,e],st]:=x;show#[KM st p (λo q=>KM k IK! q),#[o,E1!],st]
def PV.lt(x:DX!)(e:WF!):yx!:=(x a o e).lt
def PV.fresh(x:DX!)(e:iJ!):NJ!:=by cases q:H a with | none=>rfl | some u=>show M? (CG (x.lt q) e) It!
def PV.kept(x:DX!)(k:fe!):PV P w H h':=λa o e =>(x a o e).PZ (λb u _ q=>fd!) (λ_ q=>q) Xv!
def PV.laid(x:DX!)(k:fe!)(hp:iJ!)(new:t6! RJ! o):vg! RJ!:=λb u e=>by have hn:=x.fresh hp;show Bu?;(.show Df? new);.rw[Es!] at e;show(x b u e).PZ (λc v _ q=>k c v q) (λc q=>hI!) λc xs q=>hI!
open E
abbrev Rd(H:Hp)(a:Addr)(u:HO):B!:=Ce! u\/∃o,Ce! ay!
def Rd.ok(r:Rd H a u)(x:DX!):JLV:=by
 obtain r|⟨o,r⟩:=r;.show x a u r
 .have#[_,q]:=x a _ r;show q
abbrev zu:J7! r0!
 | some (.BK _)=>True
 | some (.dK _)=>True
 | some (.dT _)=>True
 | some (.set _ _)=>True
 | some (.ins _ _ _)=>True
 | some (.ext _)=>True
 | _=>False
open S
variable {P:Program}{w:World}{H:Hp}{h h':Heap}{x e:Addr}{o':HO}
def PV.write(ok:DX!)(mu:yH!)(he:iH!)(k:JTi)(xV:xS!)(new:E_ P w (de! o') h' x o'):vg! (de! o'):=λb u q=>by (have JA4:∀c y,AY! c (JD! y)->c≠x:=λc y r z=>JUb);(have JI5:∀c xs,lU! c xs->c≠x:=λc xs r z=>JUb);by_cases hb:b=x;(.subst hb;rw[Ab] at q;cases q;show new);.rw[Es!] at q;by_cases vO:b=e;(·(have q':S3! bn!:=by obtain z|z:=he;(.show DL! vO.trans z hb);.rw[vO];show z);rw[q] at q';cases q';have#[v,hv]:=xV;show#[v,U! vO hv]);·(show(ok b u q).PZ (λc v hc r=>k c v ?_ r) (λc r=>JhW JA4 b) λc xs r=>JhW JI5 xs);show EY?;(.show vO);.rintro rfl;obtain z|z:=he;(.show JA4 c b hc z);.rw[hc] at z;cases z;show hb A!
open E
structure Un(fs ex:S!)(H H':Hp)(h h':Heap):B! where
 keep:JmU (b∉fs) mE!
 slot:JmU (b∈fs) gL!
 free:E6! (MJ!->BU!->b∉ex->IP!)
 there:JF6 (b∉ex) JVd
 SV:he!
 QA:JgX
 SW:JmV
open S
variable {fs pj ex ex':List Addr}{H H1 H2:Hp}{h h1 h2 h':Heap}{a x e:Addr}{o:HO}
def Un.any(u:Un fs ex H H1 h h1)(q:bJ! LR!)(n:BU!)(hx:b∉ex):∃sl,z! Nv! b { ob with slots:=sl }:=by
 by_cases hb:b∈fs;.show u.slot b ob q n hb hx
 .show#[ob.slots,Xw! b ob q n hb hx]
def Un.kept(k:fe!):xD! H :=#[yy! vK!,yy! #[ob.slots,vK!],λ_ _ _ n _=>n,λb ob q _=>#[ob,vK!],Xv!,λ_ _ _ q=>q,λ_ ps q=>#[Dc!,Tr! q]]
def Un.refl:Un fs ex H H h h:=Xx! Xv!
def Un.laid(k:fe!)(hp:iJ!)(hn:NJ!):xD! RJ! where
 keep:=λb u q _ _ _=>fd!
 slot:=λb u q _ _ _=>#[u.slots,fd!]
 free:=λb u q n _=>U! (Ae (BP (CG (AU q) hp))) n
 there:=λb u q _=>#[u,fd!]
 SV:=λb xs q=>hI!
 QA:=λb u xs q=>hI!
 SW:=JVe (Ae (Am q hn))
def Un.write(mu:yH!)(he:iH!)(k:JTi)(xV:xS!):xD! (de! o):=by
 have hx:tB! (b≠x):=λb n z=>by subst z;rw[n] at mu;show mu
 have hb:tB! Ro!:=λb n z=>by subst z;obtain r|r:=he;(.show hx b n r);.rw[n] at r;cases r
 have hm:∀b u,Tj!->¬zu (AC! u)->b≠x:=λb u q nm z=>by subst z;rw[q] at mu;show nm mu
 show#[λb u q n _ _=>JUL,λb u q n _ _=>#[u.slots,JUL],λb u q n _=>JEq (hx b n),λb u q _=>?_,λb xs q=>JKh,λb u xs q=>JKh,JVe (Ae (hm b _ q Xy!))];by_cases vO:b=e;.subst vO;show xV
 .show#[u,k b u vO q]
open E
abbrev trk(h:Heap)(H:Hp):S!:=(AR! h.objs.size).filter λa=>(H a).isSome
abbrev sI(h:Heap)(H:Hp):F8!:=W.hideAll h (trk h H)
def Juy(h:Heap)(H:Hp):(sI h H).objs.size=h.objs.size:=W.hideAll_size _ _
def Jyh(e:MJ!)(n:BU!):JEc :=W.hideAll_get _ e λhm=>by have q:T! (H b).isSome:=US! hm;rw[n] at q;simp at q
def J1b(e:JEc):MJ!/\BU!:=by have e':MJ!:=W.of_hideAll (trk h H) e;show#[e',?_];cases q:H b with | none=>rfl | some x =>have hm:b∈trk h H:=QM! (Rp! (AU e')) (by simp[q]);have z:Gl! (sI h H).get?:=W.hideAll_none (trk h H) hm;rw[z] at e;cases e
abbrev J2f(g h:Heap)(L:Addr):Ch:=JkJ (T! (g.get? a).isSome)
abbrev rest(g h:Heap)(L d:Addr):Ch:=(J2f g h L).filter λp=>KB (y!≠d)
structure Mod(K:W.Frag)(mg:wS)(base:Heap):B! where
 Z':K.In Bf!
 glob:mR! base.Ns
 blt:∃mb,base.Ns builtinsNs mb/\JuA
 nolimit:base.NoLimit
structure Cx(K:W.Frag) where
 prog:Program
 w:World
 mg:wS
 base:F8!
 A:Around
 N:j!
 JM:Shared
 VG:Hp
 env:Env
 outer:CL!
 stack:CL!
 ex:S!
 fn:Ag!->BH!
 calm:BH!
 pn:Ch
 xe:NE
abbrev TY(l:CL!):S!:=l.filterMap (·.frame)
@[reducible]abbrev Cx.fs(X:E!):S!:=TY Xz!
abbrev Vis(sc:Scope)(x:Str):B!:=HH!\/QDu\/CF! sc.names.lookup Ha!
abbrev Loc(sc:Scope)(x:Str):B!:=JVT
abbrev Look(env:Env)(h:Heap)(m:wS)(x:Str)(u:Value):B! :=
 (Zy! ic!/\CF! m u)\/((CF! ic! Rq!\/CF! ic! Ha!)/\∃c,Z4! env.cells.lookup/\h.IsCell c (AC! u))
structure Cx.Ok(X:E!):B! where
 mod:JjM
 kind:X.env.scope.kind=.function
 glob:X.env.globals=mainGlobals
 blt:X.env.builtins=builtinsNs
 above:X.JM.heap.objs.size<=X.env.locals
 inj:∀x y c,lr!->S7! id! c->x=y
 has:Jga ie! ie! lr!
 pk:∀x c,Ej! X.fn x->lr!->X.JM.heap.objs.size<=c
 hd:A1!->X.A.handled=none
 frames:zp! Cw!
 rC:X.stack=X.outer\/(zq!/\JVh)
 ag:∀b∈X.ex,X0!/\QB5
 bs:fX! (rp!/\Gl! X.VG)
 dE:X.base.objs.size<=X.JM.heap.objs.size
 WE:fX! (b∉X.ex)
 VE:∀b∈X.ex,X1!
 O_:yz! LS! Xz!
 ix:∀b∈X.fs,Gl! X.VG
structure Inv(X:E!)(AB:Ch)(σ:JTR)(H:Hp)(s:Shared):B! where
 ok:X.Ok
 os:s.os=X.JM.os
 bare:JKW
 base:Un X.fs X.ex X.VG H X.JM.heap Tk
 loc:∃m,JZG/\∀(i:Nat)(x:Str)(v:V),LD!->JMu->vF!->∃u,Cm!/\Look o0 Tk m x u
 cell:Ty! (∃v,JSY)
 free:Bn! ii!
 LF:Ty! (Bn! c)
 pin:m1! Jvg
 EK:JYo Tk
 len:σ.length=X.N.length
open S
variable {X:Cx Kx}{AB:List (Addr×Obj)}{σ:List (Option V)}{H H':Hp}{s:Shared}{h':Heap}
def Cx.Ok.JI7(ok:X.Ok){b:Addr}{o:Obj}(e:H6! X.base.get?):X1!:=λhb=>by have:=(ok.O_.mem hb).1;show I? e;cases this
def Inv.bs(I:I!):fX! JRk:=λb o e =>#[ip! b o JMB JVc (I.ok.JI7 e) JGu,Rr! b o JMB JVc JGu]
def Inv.bk(I:I!):fX! IC!:=Bg! (I.bs b o e).1
def Inv.mod{X:E!}(I:I!):JjM:=I.ok.mod
def Inv.PQ{X:E!}(I:I!):Kx.In Tk:=I.ok.mod.Z'.keeps I.bk
def Inv.lt(I:I!):X.env.locals<s.heap.objs.size:=let#[_,hn,_]:=I.loc;hn.lt
def Inv.sz(I:I!):X.JM.heap.objs.size<=s.heap.objs.size:=AA I.ok.above (A_ I.lt)
def Inv.JI6(I:I!)(h:Rs!):a∉X.fs:=λhb=>by show KM?;show Mx! (CG (AU ho) (AA I.sz h)) It!
def Inv.ko(I:I!):Ty! (c≠X.env.locals):=λx c e z=>by show HP?;have#[m,#[o',es,ep,kM,XY,_],_]:=I.loc;rw[z,kM] at ho;cases ho;rw[XY] at hd;cases hd
def Inv.O_(I:I!):JRh Xz!:=by
 have all:∀(l:CL!),(∀b∈TY l,b∈X.fs)->yz! LS! l->y0! LS! l:=by intro l;induction l with | nil=>intro _ _;trivial | cons env r ih =>intro hs hl;have#[hk,#[L,o,hf,hn,ho,hd],hr]:=hl;have hL:L∈X.fs:=hs L (JkO ZL);have#[sl,e]:=I.base.slot L o ho (I.ok.ix L hL) hL λz=>I.ok.VE L z hL;show#[hk,#[L,_,hf,hn,e,hd],ih (SZ (hs b (JkO (G9! hb)))) hr]
 show all Xz! (λ_ hb=>hb) I.ok.O_
def Inv.stack(I:I!):JRh Cw!:=by
 show HF?;.rw[e];show I.O_
 .rw[e];have#[m,hn,_]:=I.loc;show Os (by rw[Rt!];decide) hf hn ?_ I.O_;show y1! (AA I.ok.dE I.ok.above)
def Inv.XJ(I:I!):∀b∈TY Cw!,b∈X.env.locals::X.fs:=SZ (by show HF?;(.rw[e] at hb;show G9! hb);.rw[e] at hb;unfold TY at hb;rw[I_,hf] at hb;show hb)
def Inv.UY(I:I!):∀b∈TY Cw!,BU!:=SZ (by obtain e|hb:=ZM (I.XJ b hb);(.rw[e];show JF!);.show KM?;show Rr! b o ho (I.ok.ix b hb) λz=>I.ok.VE b z hb)
def Inv.step{g':Array GenState}{t':Nat}{d':Drawn}{ch:S!}(I:I!)(pe:ij!)(keep:JqL X1! mE!)(slot:JqL (b∈X.fs) gL!)(free:E6! (b∉ch->IC!->BU!->IP!))(there:JF7 (b∉ch) JVd)(SV:he!)(QA:JgX)(SW:JmV)(ns:∀m,JZG->h'.Ns ii! m)(EK:xG!)(hg:AllBare g') : JHO:=by
 have neL:nf! ik! X0!:=Bg! JRW;have neC:E6! (rp!->b∉X.ex->b∉ch):=λb o e hx hb=>by obtain z|z:=(pe b hb).1;(.show hx z);.show M? (CG (AU e) z) It!
 have cellK:Ty! (∀v,JSY->h'.IsCell c v):=λx c e v #[o,ho,hd]=>by have yp:c∉ch:=λz=>JuU;by_cases hc:c∈X.fs;(.have#[sl,q]:=slot c o (I.ko x c e) hc yp ho vd!;show#[_,q,hd]);.show#[o,keep c o (I.ko x c e) hc yp ho vd!,hd]
 show#[I.ok,I.os,hg,QEr (λb o e n hb hx=>?_) (λb o e n hx=>?_) (λb xs e=>SV b xs (X2! b xs e)) (λb o xs e=>QA b o xs (X3! b o xs e)) (λb ps e=>?_),?_,X4! ?_,?_,X4! ?_,DP!,EK,I.len];.show keep b o (IH! neL) hb hD! (ip! b o e n hb hx) xJ!
 .show SC?;have#[sl',e2]:=slot b _ (IH! neL) hb hD! e1 xJ!;show#[sl',e2]
 show H2? (free b o' hD! e1 xJ!)
 show H2? (there b o' hD! e1)
 .have#[m1,e1]:=I.base.SW b ps e;have#[m2,e2]:=SW b _ e1;show#[m1++m2,AO! e2 Array.append_assoc]
 .have#[m,hn,hl]:=I.loc;show#[m,ns m hn,λi x v e1 e2 e3=>?_];have#[u,r,l]:=hl i x v e1 e2 e3;show#[u,r,?_];obtain l|⟨k,c,e,z⟩:=l;(.show F? l);.show G? #[k,c,e,cellK x c e _ z]
 .have#[v,z]:=pO!;show#[v,cellK x c e v z]
 .have#[m,#[o,_,_,ho,_],_]:=I.loc;show free _ o (λz=>(pe _ z).2.1 A!) ho JF!
 .show HP?;show free c o (λz=>JuU) ho vd!
 .show Cs?;have yp:y!∉ch:=λz=>(pe y! z).2.2.2 p hp A!;show#[keep y! AQ! ne nf yp e n,free y! AQ! yp e n,ne,nf,d]
def Inv.un(I:I!)(u:Un X.fs [] H H' Tk h')(EK:xG!):S1! H' X5!:=JhX Ix (I.step (g':=s.gens) (d':=s.drawn) (ch:=[]) (λ_ z=>nomatch z) (JVH Xw!) (JVH u.slot) (λb o _ e n=>u.free b o e n Ix) (iv! (s7! Ix)) u.SV u.QA u.SW (JwT) EK JG!)
def Inv.call(I:I!)(u:QEW Cw! ch h')(EK:xG!)(hg:AllBare g')(pe:ij!) : JHO:=JhX (λz=>(pe _ z).2.1 A!) (I.step (ch:=ch) pe (λb o hL hb hc e n=>Xw! b o e n (λz=>(ZM (I.XJ b z)).elim hL hb) hc) (λb o _ _ hc e n=>u.any e n hc) (λb o hc e n=>u.free b o e n hc) (λb o hc e=>s7! hc) u.SV u.QA u.SW (JwT) EK hg)
def Inv.turned{t':Nat}{it:Addr}(I:I!)(k:QDn)(hn:Bn! it)(hL:it≠X.env.locals)(h1:it∈X.ex\/X.JM.heap.objs.size<=it)(h2:Ty! (c≠it))(h3:m1! (y!≠it)):rm!:=by
 show MV? (b≠it) (mO! hn)
 show RM? [it] ud! ud! ud!;show MT? (b=it) h1 hL h2 h3
 show P1? (O8! hL)
 show Qb?
def Inv.tok(I:I!)(t:Nat):S1! H { s with toks:=t }:=I.un (h':=Tk) (t':=t) Un.refl Dd!
def Inv.kept(I:I!)(k:JMX):rm!:=I.un (Xx! k) (I.EK.kept k)
def Inv.laid{a:Addr}{o:HO}{t':Nat}(I:I!)(k:JMX)(hp:Rs!)(new:JOW RJ! o) : JNW X5!:=I.un (Un.laid k hp (X7! hp)) (I.EK.laid k hp new)
def Inv.write{x e:Addr}{o:HO}{t':Nat}(I:I!)(mu:yH!)(he:iH!)(k:QDU Ro! (TJ! EH!))(xV:xS!)(new:E_ EI! X.w (de! o) h' x o):JHa x X5!:=I.un (Un.write mu he k xV) (I.EK.write mu he k xV new)
def Inv.eJ(I:I!)(h:∀p∈PD,Jvg):Inv X PD σ H s :=QA0 I.ok (F9! ((ZI hp).elim (λz=>T8! sk!) (h p)))
def Jcc{N:j!}(hN:N.Nodup){i j:Nat}{x:Str}(a:N[i]?=D! x)(b:N[j]?=D! x):i=j:=by have#[h1,e1]:=ZJ a;have#[h2,e2]:=ZJ b;show(N_ hN).mp (iw! e2.symm)
def Tr{M:Model}{A:Around}{E:NE}{i:Nat}{x:Str}{v:V}{u:Value}{Q:D9!}(I:I!)(hN:X.N.Nodup)(hi:LD!)(hx:fb!)(r:Cm!)(h:∀s',Inv X AB p0! H s'->(∃a,X8! a Tk Hb!/\(a=X.env.locals\/CF! id! a))->Q () s')(hf:gJ!:=by show Dw?):Jik:=by
 have#[m,hn,hl]:=id I.loc;show O8?
 show KN?
 have ko:=I.ko;have tracked:∀{a:Addr} {h':Heap},(∃o,ob! o/\NJ!)->JKC->JYo h':=λ{a h'} ha hs b ob e=>by have#[_,_,UB]:=ha;show Pc?;rintro rfl;show EY?;(.show A4? UB);.rw[UB] at hc;cases hc
 obtain hk|hk:=hx;.show wpAny_storeName_local hk hn (λh' hn' hs=>?_) bp;have#[oL,_,_,hoL,_]:=id hn;show h _ (JvS JXe qM! oL hoL JF!) #[_,hs,NI!];(.show K5? pA!);show Ls? pA!;show Lr? pA!;(.by_cases hj:j=i;(.show P0? (Fg! hk ci));.show Go?;show Ep?;show#[u',r',?_];show HG?;(.show DE? k;show Pm?;simp[this,e]);.show G? #[k,c,e,gu!]);(.have#[w',z]:=LT! y c e;show#[w',gu!]);.show Cs?;show#[JiO,n,ne,nf,d]
 ·(have hfn:Ej! X.fn x:=by obtain z|z:=hf;(.show z);.rw[z] at hk;cases hk);have#[c,hc]:=Kh! I.ok.has x hk;have#[w',z]:=LT! x c hc;show wpAny_storeName_cell Rt! hk hc z (λh' xW hs=>?_);have#[oc,xT,JJW]:=id z;show h CU! (JvS #[m,hn.sameBut hs (X6! (ko x c hc)),λj y v' e1 e2 e3=>?_] (λy c' e=>?_) oc xT (I.LF x c hc)) #[c,hs,x! hc];(.show K5? iq!);show Ls? iq!;show Lr? iq!;(.by_cases hj:j=i;(.show P0? (x! #[h! hk,c,hc,xW]));.show Go?;show Ep?;show#[u',r',?_];obtain q|⟨k,c',e,z'⟩:=q;(.show F? q);.show h? #[k,c',e,z'.sameBut hs ?_];rintro rfl;show hj (Jcc hN e1 (I.ok.inj _ _ _ e hc▸hi)));(.by_cases hcc:c'=c;(.subst hcc;show#[_,xW]);.have#[w2,z2]:=LT! y c' e;show#[w2,z2.sameBut hs hcc]);.show Cs?;show#[(hs.2 y! ?_).trans e,n,ne,nf,d];intro q;rw[q,xT] at e;have q':oc=AQ!:=ZO e;show d w' (DO! q' JJW)
def Ja9{M:Model}{A:Around}{E:NE}{i:Nat}{x:Str}{v:V}{u:Value}{Q:D9!}(I:I!)(hN:X.N.Nodup)(hi:LD!)(hx:fb!)(r:Cm!)(h:JQc p0!)(hf:gJ!:=by show Dw?):Jik :=Tr I hN hi hx r (λs' I' _=>h s' I') hf
def Inv.eC{s':Shared}{ch:S!}(I:I!)(ho:ix!)(u:QEW Cw! ch Hb!)(EK:PV EI! X.w H' Hb!)(hg:cS!)(pe:ij!):MZ!:=by have#[h',g',d',t',o']:=s';have e:o'=s.os:=ho;subst e;show I.call (g':=g') (t':=t') (d':=d') u EK hg pe
open E
@[reducible]abbrev XK:=JB!->Zc! Iu!
@[reducible]abbrev St:=JTR
@[reducible]abbrev VK:=oX!
@[reducible]abbrev TE:=St->lM! VK
@[reducible]abbrev TT:=fv! HB!
@[reducible]abbrev TA:=fv! Go!
structure Ends where
 nx:Bu!
 rt:VK
 bk:Bu!:=JH!
 ct:Bu!:=JH!
@[reducible]abbrev TS:=Ends->Bu!
inductive EP(X:E!)(AB:Ch)(σ:St)(Q:VK)(u:Value)(s':Shared):B!
 | mk v H' (_:MZ!) (_:Cm!) (_:T1!)
inductive TP(X:E!)(AB:Ch)(σ:St)(Q:HB!)(b:Bool)(s':Shared):B!
 | mk H' (_:MZ!) (_:Q b H')
inductive AP(X:E!)(AB:Ch)(σ:St)(Q:Go!)(us:Y!)(s':Shared):B!
 | mk vs H' (_:MZ!) (_:QI!) (_:Q vs H')
abbrev SP(X:E!)(AB:Ch)(D:Ends)(f:Flow)(s':Shared):B! :=
 match f with
 | .next=>vn! D.nx
 | .brk=>vn! D.bk
 | .cont=>vn! D.ct
 | .ret u=>M_ λv GF H'=>a8!/\Cm!/\D.rt v H'
abbrev PE(X:E!)(e:Expr)(t:TE):B! :=
 zx! (QDR (Kl! JHF))
abbrev PT(X:E!)(e:Expr)(t:TT):B! :=
 zy! HB! (Jdi JHF)
abbrev PW(X:E!)(e:Expr)(t:TT):B! :=
 ∀(whole:Sem JB!)(AB:Ch)(s:Shared)(σ:St)(H:Hp)(Q:HB!),Jdi whole
def r_(h:PW X e t):PT X e t:=h _
abbrev PA(X:E!)(es:Ih!)(t:TA):B! :=
 ∀(pos:Pos)(AB:Ch)(s:Shared)(σ:St)(H:Hp)(Q:Go!),QDR (lN! (spliced QAO) (AP X AB σ Q))
abbrev PS(X:E!)(st:Stmt)(t:TS):B! :=
 JmX exec
abbrev T_(X:E!)(st:QU!)(t:TS):B! :=
 JmX execs
def FG(h:UE! t)(hQ:∀a s,Q a s->Q' a s):Gf! M A t Q' E s:=FF h hQ YA!
open S
variable {X:Cx Kx}
def bin{a b:Expr}{ta tb:TE}(ha:EC!)(hb:HU!){AB:Ch}{s:Shared}{σ:St}{H:Hp}{R:JK0}(I:I!)(h:JTU){α:Go}{Q:H7! α}{f:JB!->JB!->Sem α}(hf:JuB) : JU2:=JxI
inductive J77(i:Nat)(σ:St)(H:Hp)(Q:VK):B!
 | mk (v) (e0:JMu) (e1:WO!)
abbrev Cz(i:Nat):TE:=YB! (J77 i σ H Q)
abbrev tC(v:V):TE:=la! v
def J4h(hN:LD!)(hv:vF!)(hd:Cp!:=by decide)(UG:JHf:=by decide):Jdm:=by
 show N?;have#[v,e,h]:=h;have#[m,hn,hl]:=I.loc;have#[u,r,l]:=hl i x v hN e hv;have fin:bg! u s:=yX!;obtain⟨hk,hm⟩|⟨hk,c,hc,JH⟩:=l;.show iy! (wpAny_loadName_local Rt! hk hn hm AH!) hd
 .obtain hk|hk:=hk;(.show iy! (wpAny_loadName_cell Rt! hk hc JH AH!) hd);.show iy! (wpAny_loadName_free Rt! hk hc JH AH! UG) hd
def Ai:yE! V8! (tC (PP i)):=JdQ wpAny_Constant_int IM!
def K8:yE! (Ar! b) (tC (AI! b)):=JPS Constant_bool (AI! b)
def Jxd:PE X (iz! GM j AG!) (tC AS!):=JPS zL! AS!
def Ap:yE! en! (as! x):=JdQ Calls.Constant_str V3!
abbrev Gl(X:E!)(x:Str):B!:=CF! ie! .globalImplicit
def Ip{E:NE}{AB:Ch}{s:Shared}{σ:St}{H:Hp}{x:Str}{u:Value}{pos:Pos}{Q:NE}(I:I!)(hg:E2!)(hm:JNC)(h:Q u s)(hd:Cp!:=by decide):JNz :=JmQ (Calls.loadGlobal_global Jev hm h)
def Wi(I:I!)(hg:E2!)(hm:fU!)(hv:JPw)(h:Q u s)(hn:bs!:=by decide)(hd:Cp!:=by decide):JNz:=by have#[mb,h1,h2]:=I.mod.blt;show JmQ (Calls.loadGlobal_builtin Jev hm (o! I.ok.blt (h1.keeps I.bk)) ((h2 x hn).trans hv) h)
def Ik{x:Str}{v:V}{u:Value}{pos:Pos}(hg:E2!)(hm:JNC)(r:Cm!)(hd:Cp!:=by decide):Jdn :=λ_ _ _ H _ I h=>Ip I hg hm yX! hd
def Jkl{x:Str}{v:V}{u:Value}{pos:Pos}(hg:E2!)(hm:fU!)(hv:JPw)(r:Cm!)(hn:bs!:=by decide)(hd:Cp!:=by decide):Jdn :=λ_ _ _ H _ I h=>Wi I hg hm hv yX! hn hd
abbrev t2I(ta tb:TE)(k:KE->Zc! KE):Bu!:=λσ H=>o0! (tb σ H1 λy H2=>HN λi j=>M2!/\Vd!/\k i j H2)
variable {a b:Expr}{ta tb:TE}{pos:Pos}
abbrev PC(X:E!)(op:CmpOp)(a b:Expr)(t:TE):B! :=
 zx! (VX! (bb! ->
  QAU (Z2! a) (λv FC=>QDQ (eval b o0) (λu NO=>JIU (i0! op v u) NO) FC)))
def Jn6(b:Expr)(h:op≠.In)(h2:op≠YC!):Re!:=by
 show Lb?
 show Ll?
 show KH?
abbrev vf(p:uh!)(ta tb:TE):TE:=YB! (t2I ta tb (λi j H2=>uB! (p i j)) σ H)
@[reducible]abbrev tLt:Rf!:=XP! (i<j)
@[reducible]abbrev tLe:Rf!:=XP! (i<=j)
@[reducible]abbrev tGt:Rf!:=XP! (j<i)
@[reducible]abbrev tGe:Rf!:=XP! (j<=i)
@[reducible]abbrev J8p:Rf!:=XP! (i=j)
@[reducible]abbrev Qao:Rf!:=vf λi j=>! KB (i=j)
def J4k{op:CmpOp}{p:uh!}(ha:EC!)(hb:HU!)(rule:∀(i j:Int) (t u:Tok) (Q:NE) (s:Shared),Q (Ar! (p i j)) s->lN! (i0! op VP! (PP j u)) Q):PC X op a b (vf p ta tb):=by show N?;show bin ha hb I h (zM! ?_);have#[i,j,rfl,rfl,q]:=q;show X?;show BT?;show rule i j t t' _ s2 #[AI! _,H2,I2,A!,q]
def J4l(ha:EC!)(hb:HU!):PC X .Eq a b (J8p ta tb):=J4k ha hb λ_ _ _ _ _ _ h=>KV! eq_int Bool.beq_eq_decide_eq h
abbrev J8o(ta:TE):TE:=QK! (Q (AI! (Rj! (x=AS!))) H1)
def RelV.pE(r:Tw!):(v==Value.none)=KB (x=AS!):=by grind [V,RelV]
def J4j(ha:EC!):PC X .Is a (iz! GM j pos') (J8o ta):=by show N?;show FG (O3! ha s H I h) ?_;show CC?;show zL! (is_none_gen #[AI! _,H1,I1,Ed! r1.pE,q1])
inductive ItB  (x:V) (H1:Hp) (Q:HB!):B!
 | mk (c) (e0:x=AI! c) (e1:Q c H1)
abbrev tB(t:TE):TT:=JHc (ItB  x H1 Q)
def J4i(h:JTn)(h1:Re!:=by show O6?):JEo t:=zN! (zO! (Jes) h1)
def F2(h:JTn)(h1:Re!:=by show O6?):JOO tB t:=by show Et?;show zP! (FG (gd!) λv s1 h1=>FG h1 λu s2 h2=>FG h2 λc s3 #[x,H1,I1,r1,q1]=>?_) h1;have#[d,rfl,q]:=q1;cases r1;show LC #[H1,I1,q]
def Hz(h:el!)(he:JmY (isTrue e o0 whole) e.pos:=by show Aa?):PT X e (tB t):=by
 show Et?
 show isTrue_plain (FG (gd!) λv s1 #[x,H1,I1,r1,q1]=>?_) (he _)
 have#[d,rfl,q]:=q1
 cases r1
 show LC #[H1,I1,q]
variable {tA tB':TT}{rest:List Expr}
abbrev J8s(t u:TT):TT:=wl! (eW! u) (Q IR H1)
abbrev tX(t u:TT):TT:=wl! (Q AC H1) (eW! u)
abbrev J8m(t:TT):TT:=mG! (λc H1=>Q (!c) H1)
def Jkh(ha:XM!):JjR .And:=by show CD?;show isTrue_and (FG (XB! ha Q) λc s1 e=>?_);cases c with | true=>show isTrue_and_nil e | false=>show e
def T8(ha:XM!):JjR .Or:=by show CD?;show isTrue_or (FG (XB! ha Q) λc s1 e=>?_);cases c with | false=>show isTrue_or_nil e | true=>show e
def Jqb(ha:XM!)(hb:JRF YD! tB'):JRF (a::YD!) (J8s tA tB'):=by show CD?;show Cl? isTrue_and ha;show HH?;cases c with | true=>show Qq? | false=>show#[H1,I1,q1]
def vk(ha:XM!)(hb:JRG YD! tB'):JRG (a::YD!) (tX tA tB'):=by show CD?;show Cl? isTrue_or ha;show HH?;cases c with | true=>show#[H1,I1,q1] | false=>show Qq?
def Jki(ha:XM!):PT X (.UnaryOp .Not a AG!) (J8m tA):=JGW isTrue_not (FG (XB! ha (λc H1=>Q (!c) H1)) λc s1 #[H1,I1,q1]=>#[H1,I1,q1])
abbrev tIf(t:TT)(ta tb:TE):TE:=wl! (eW! ta) (eW! tb)
def Jb3(hc:PT X c tA)(ha:EC!)(hb:HU!):Bo! (.IfExp c a b AG!) (tIf tA ta tb):=by show N?;show Cl? wpAny_IfExp hc;show HI?;cases d with | true=>show Dz? ha Q | false=>show Dz? hb Q
open E
abbrev DW(K:W.Frag)(H:Hp)(a:Addr)(xs:C!):B! :=
 Rd H a (XV xs) \/
  JGF (JP0/\o.cls=B5! F7!/\i1!/\JRm/\zR!/\JLm)
abbrev DF(K:W.Frag)(H:Hp)(a:Addr)(xs:C!):B! :=
 Rd H a (WP xs) \/
  JGF (JP0/\Ve!/\JRm/\zR!/\JLm)
abbrev Qag:JB!->Uy!
 | .none=>D! AS!
 | .bool b=>D! (AI! b)
 | .int i _=>JGM
 | .str x _=>D! en!
 | .bytes b _=>D! (.az b)
 | .float b _=>D! (.uH b)
 | .ref a=>Ks!
 | .type n=>D! (.ty n)
 | _=>none
def RelV.abs(r:If!):z! Qag u x:=by cases x with | GJ=>show BF? | bl _=>show BF? | int _=>show BE? | str _=>show BE? | az _=>show BE? | uH _=>show BE? | ref _=>show BF? | ty _=>show BF?
def RelV.inj(r:If!)(q:Cl!):x=y:=ZO (r.abs.symm.trans q.abs)
def Vals.inj{xs:C!}{us:Y!}(p:Ig!):∀{ys:C!},Zv! ys->xs=ys:=by induction p with | nil=>intro ys q;cases q;rfl | cons r t ih=>intro ys q;cases q with|cons r' t'=>rw[r.inj r',ih t']
open S
variable {X:Cx Kx}{AB:List (Addr×Obj)}{σ:St}{H:Hp}{s:Shared}{a:Addr}{xs ys:List V}
def DW.of{K:W.Frag}(h:JFa):DT!:=JHh
def DF.of{K:W.Frag}(h:dv!):DU!:=JHh
def Inv.list{X:E!}(I:I!)(h:wp!):JeM (eJ! PlainL CR!):=by
 obtain h|⟨o,its,n,hk,hc,hd,hs,hz,r⟩:=h;.have#[z,its,n,r,e]:=h.ok Dd!;show#[its,r,#[_,n,e,A!,A!,A!],z]
 show P7? #[o,n,De! a o hk,hc,hd,JDS]
def Inv.tuple{X:E!}(I:I!)(h:vf!):JeM (eJ! IsTup CR!):=by
 obtain h|⟨o,its,n,hk,hc,hs,hz,r⟩:=h;.have#[z,its,r,p]:=h.ok Dd!;show#[its,r,p,z]
 show P7? #[o,De! a o hk,hc,n,JDS]
def Inv.VN{X:E!}(I:I!)(h:wp!)(h':DW Kx H a ys):xs=ys:=by
 have#[its,r,#[o,n,e,_,_,d],_]:=GA! h;have#[its',r',#[o',n',e',_,_,d'],_]:=GA! h';show i?;cases e';rw[d] at d';injection d' with d1 _;show N1?
 subst this;show r.inj r'
def Inv.WT{X:E!}(I:I!)(h:vf!)(h':DF Kx H a ys):xs=ys:=by
 have#[its,r,#[o,e,_,n,d],_]:=JI! h;have#[its',r',#[o',e',_,n',d'],_]:=JI! h';show i?;cases e';rw[d] at d';injection d' with d1 _;show N1?
 subst this;show r.inj r'
open E
@[reducible]abbrev Cx.UK(X:E!)(E:NE):E!:={ X with xe:=E }
@[reducible]abbrev Cx.t_(X:E!):E!:=X.UK JH!
def Cx.Ok.UK{X:E!}(ok:X.Ok)(E:NE):(X.UK E).Ok :=ft!
def Cx.Ok.OE{X:E!}{E:NE}(ok:(X.UK E).Ok):X.Ok :=ft!
open S
variable {X:Cx Kx}{AB:List (Addr×Obj)}{σ:St}{H:Hp}{s:Shared}{E:Value->Shared->Prop}
def Inv.UK(I:I!)(E:NE):JRK:=QA0 (I.ok.UK E) I.pin
def Inv.OE(I:JRK):I!:=JMd I.ok.OE
def SP.OE(h:SP (X.UK E) AB D f s'):SP X AB D f s':=by cases f with | next=>show Ek? | brk=>show Ek? | cont=>show Ek? | ret u=>have#[v,GF,H',I,r,q]:=h;show#[v,GF,H',I.OE,r,q]
def T_.t_{st:QU!}{t:TS}(h:T_ X.t_ st t):T_ X st t:=λAB s σ H D I hw =>JqW (λ_ _ q=>q.OE) (λ_ _ z=>False.elim z)
open E
open S
variable {X:Cx Kx}{st:Stmt}{rest:List Stmt}{t u:TS}{e:Expr}{te:TE}{pos:Pos}
abbrev Jme:TS:=Nz! (KR! H)
abbrev J56(t u:TS):TS:=Nz! (t JVl σ H)
def A5:T_ X [] Jme:=λ_ _ σ H _ I h=>QY #[σ,H,I,h]
def Ac(h1:x1!)(h2:T_ X rest u):T_ X (st::rest) (J56 t u):=by show V?;show zX! (FG (XB! h1 JVl) qP!);cases f with | next =>have#[GF,H',I',q]:=q;show h2 AB s1 GF H' D I' q | ret v=>show q | brk=>show q | cont=>show q
def Ag(h1:x1!):T_ X [st] t:=by show V?;show zX! (FG (XB! h1 D) qP!);cases f with | next=>show QY q | ret v=>show q | brk=>show q | cont=>show q
def Inv.quiet(I:I!):A0! (interactive o0):=by simp[interactive,I.ok.kind]
abbrev J6a(te:TE):TS:=JMq (λ_ H1=>KR! H1)
def Cg(he:Nd!)(hs:JRI SB:=by rfl):PS X (.Expr e AG!) (J6a te):=by show V?;show wpAny_Expr_any (JP3 #[σ,H1,I1,q1]) I.quiet hs
abbrev J8l(te:TE):TS:=JMq D.rt
def Ao(he:Nd!):PS X (.Return (AC! e) AG!) (J8l te):=by show V?;show wpAny_Return_some (JP3 #[x,σ,H1,I1,r1,q1])
abbrev Jvw(c:TT)(t u:TS):TS:=Nz! (FW! c (λb H1=>Z1! (t D σ H1) (u D σ H1)))
def Cb(hc:PT X c tc)(ha:T_ X a t)(hb:T_ X b u):PS X (.If c a b AG!) (Jvw tc t u):=by show V?;show Cl? wpAny_If hc;show HI?;cases d with | true=>show Dz? ha D | false=>show Dz? hb D
abbrev J3g:TS:=YE!
def Fk:T_ X IU J3g:=λ_ _ _ _ _ _ h=>h.elim
open E
@[reducible]abbrev TG:=V->St->JKm
@[reducible]abbrev uQ:=C!->St->JKm
abbrev PG(X:E!)(target:Expr)(t:TG):B! :=
 ∀(AB:Ch)(s:Shared)(σ:St)(H:Hp)(v:V)(u:Value)(Q:Bu!),l1! Cm! (t v σ H Q ->
  JaC (Rw! target o0 u))
abbrev PGs(X:E!)(ts:Ih!)(t:uQ):B! :=
 ∀(AB:Ch)(s:Shared)(σ:St)(H:Hp)(vs:C!)(us:Y!)(Q:Bu!),l1! QI! (t vs σ H Q ->
  JaC (assignInOrder ((N0! ts o0).map B1!) us))
@[reducible]abbrev Qaq:=V->V->V->lM! (EA!)
@[reducible]abbrev TIp:=Wm!
open S
variable {X:Cx Kx}{pos:Pos}
abbrev J21(i:Nat):TG:=λv σ H Q=>Q p0! H
def Cj{i:Nat}{x:Str}(hN:X.N.Nodup)(hi:LD!)(hx:fb!)(hf:gJ!:=by show Dw?):PG X (.Name x AG!) (J21 i):=by intro AB s σ H v u Q I r h;show wpAny_assign_Name (Ja9 I hN hi hx r (λs' I'=>#[_,H,I',h]) hf)
abbrev J99:uQ:=λvs σ H Q=>vs=[]/\Q σ H
inductive J5x(t:TG)(u:uQ)(vs:C!)(σ:St)(H:Hp)(Q:Bu!):B!
 | mk (v r) (e0:vs=v::r) (e1:t v σ H (LU! (u r GF H' Q)))
abbrev J7u(t:TG)(u:uQ):uQ:=λvs σ H Q=>J5x t u vs σ H Q
def Hk:PGs X [] J99:=by show HL?;have#[e,h]:=h;subst e;cases r;show assignInOrder_nil #[σ,H,I,h]
def Cu(h1:PG X e t)(h2:PGs X es u)(hs:(N0! (e::es) o0).map B1!=Rw! e o0::(N0! es o0).map B1!:=by rfl):PGs X TM! (J7u t u):=by show HL?;have#[v,vr,e1,h]:=h;subst e1;cases r with | cons r rr =>rw[hs];show assignInOrder_cons (FG (h1 AB s σ H _ _ _ I r h) ?_);rintro _ s1 ⟨ck,H1,I1,q1⟩;show h2 AB s1 ck H1 _ _ Q I1 rr q1
inductive J8h(K:W.Frag)(n:Nat)(t:uQ)(v:V)(σ:St)(H:Hp)(Q:Bu!):B!
 | mk (a xs) (e0:Mz!) (e1:DU!) (e2:xs.length=n) (e3:t xs σ H Q)
abbrev J98(K:W.Frag)(n:Nat)(t:uQ):TG:=λv σ H Q=>J8h K n t v σ H Q
def Ly{X:E!}{es:Ih!}{k:Nat}{t:uQ}{n:Nat}(hc:A1!)(h:PGs X es t)(hn:(N0! es o0).length=n:=by rfl)(rO:ww (N0! es o0).findIdx?=none:=by rfl):PG X (.Tuple es k AG!) (J98 Kx n t):=by intro AB s σ H v u Q I r hw;have#[a,xs,e1,hq,hl,hw]:=hw;subst e1;cases r;have#[its,rv,ht,hz]:=JI! hq;show assign_Tuple_tuple (I.ok.hd hc) ht (by simp[hn,<-hl,rv.length]) rO λh' hx=>?_;show CX? CU! (I.kept (t':=GB!) (Bg! (KK! hx (BP (AU e)))));show h AB _ σ H xs _ Q I1 (by simpa using rv) hw
abbrev J6b(te:TE)(g:TG):TS:=z2! te (g x σ H1 D.nx)
def Jw5(he:Nd!)(hg:PG X tg g)(hs:swapsWithSole [tg] e pos.line o0=Hc! IR:=by rfl)(hw:swappedStores [tg] e o0=Hc! SB:=by rfl)(h1:(N0! [tg] o0).map B1!=[Rw! tg o0]:=by rfl):PS X (.Assign [tg] e AG!) (J6b te g):=by show V?;show wpAny_Assign_stores bT! hs hw;show CC?;rw[h1];show FG (hg AB s1 σ H1 x v _ I1 r1 q1) λ_ s2 q=>q
def Av{i:Nat}{x:Str}{e:Expr}{te:TE}{pos':Pos}(hN:X.N.Nodup)(hi:LD!)(hx:fb!)(he:Nd!)(hs:JRI (AC! (.Name x pos')):=by rfl)(hf:gJ!:=by show Dw?) : PS X (.Assign [KA! x pos'] e AG!) (J6b te (J21 i)):=by show V?;show wpAny_Assign_Name bT! hs;rintro v s1 ⟨y,H1,I1,r1,q1⟩;show Ja9 I1 hN hi hx r1 (λs2 I2=>#[_,H1,I2,q1]) hf
inductive J3e(c:TT)(tb:TS)(D:Ends)(σ:L2.St)(H:Hp):B!
 | mk (W:d3!) (_:(∃m,W m σ H)) (_:∀m σ H,W m σ H->FW! c (λb H1=>Z1! (∃N:Bu!,(mi! N (∃m',m'<m/\W m' GF H'))/\tb { D with nx:=N,ct:=N,bk:=D.nx } σ H1) (KR! H1)))
def Jw3(hp:JrJ)(hc:PT X c tc)(hb:T_ X body tb):PS X (.While c body [] AG!) (J3e tc tb):=by show V?;have#[W,#[m0,w0],turn]:=h;show wpAny_While (codeAny_whileLoop (λn s'=>HN (LU! (a8!/\W n GF H'))) ?_ m0 #[σ,H,I,w0]);rintro n s1 ⟨ck,H1,I1,w1⟩;show KJ hp (FG (hc AB s1 ck H1 _ I1 (GC! n ck H1 w1)) ?_);rintro b s2 ⟨H2,I2,q2⟩;cases b with | true =>have#[N,hN,q2]:=q2;rw[AF A!];show KJ hp (FG (hb AB s2 ck H2 _ I2 q2) λf s3 q3=>?_);(cases f with | next =>show RH? | cont =>show RH? | brk=>show q3 | ret v=>show q3) | false =>rw[AD AR];show QY #[ck,H2,I2,q2]
open E
structure It where
 go:r4!
 SM:ut->Hp->oX!
 stop:r4!
abbrev Md(X:E!)(AB:Ch)(H:Hp)(b:Addr):B! :=
 BU!/\X0!/\X1!/\(b∈X.ex\/X.JM.heap.objs.size<=b)/\(QB5)/\m1! (y!≠b)
def Inv.VD(I:I!)(hb:s.heap.objs.size<=b)(hn:IP!):mz! H':=by
 show#[hn,EM (CG I.lt hb),I.JI6 hb,x! (AA I.sz hb),λx c e z=>?_,λp hp z=>?_];.have#[v,q]:=pO!;show Mx! (CG q.lt JM9) It!
 show Al? (CG (AU JMo) JM9) It!
structure Turn(P:Program)(w:World)(K:W.Frag)(tg:Expr)(J:It)(fp:S!)(it:Addr)(tn:e4!):B! where
 mem:it∈fp
 obj:JVo
 keep:Jmc
 item:JkY (J.go i H ->
  JRQ (r=D! u /\
   JuV))
 done:JkY (J.stop i H ->
  JeF)
 self:JrO
@[reducible]abbrev TI:=fv! Qc!
inductive PIE(X:E!)(AB:Ch)(σ:St)(tg:Expr)(R:Qc!)(xP:Value)(s2:Shared):B!
 | mk (it:Addr) (fp:S!) (tn:e4!) (J:It) (H':Hp) (_:xP=FS it) (_:ou!) (_:Turn EI! X.w Kx tg J fp it tn) (_:tn 0 s2.heap) (_:JKX) (_:R J H')
abbrev PI(X:E!)(tg iter:Expr)(wi:TI):B! :=
 ∀(AB:Ch)(s:Shared)(σ:St)(H:Hp)(R:Qc!),VX! (FW! wi R ->
  JaB JuO)
def vj{M:Model}{A:Around}{E:NE}{s:Shared}{tg:Expr}{it:Addr}{u:Value}{o:Obj}{n:String}{vs:Az!}{Q:D9!}(ho:PF! EH! it)(hc:o.cls=B5! n)(hd:zf!)(hn:A0! (JwJ n))(hQ:Q () s):UE! QFG:=by unfold letOwnedTupleGo;cases tg<;>first | show ZS hQ | (cases u<;>first | show ZS hQ | (show AZ? wpAny_load ho;rw[hc,hd];change Gf! M A (YG! (Av! (JwJ n&&vs[0]?==D! (GD! _))) _ _) Q E s;rw[AD (by intro h;rw[hn,zr!] at h;cases h)];show ZS hQ))
abbrev VA(K:W.Frag)(a:Addr):It :=
 JpT DT! DT! DT!
abbrev YA(K:W.Frag)(a:Addr):It :=
 JpT DU! DU! DU!
abbrev q_(lo:Int)(n:Nat):It:=JbI (i<n) (x=En! (lo+i)) (n<=i)
def Jhs{P:Program}{w:World}{K:W.Frag}{tg:Expr}(a it:Addr):JN2 ld! i3! where
 mem:=ci
 obj:=JK! (by
  show At?
  subst e
  show CE?
  show HB?)
 keep:=hi!
 item:=by
  show m?
  show Y?
  show Eu?
  show DB?
  show DQ?
  show j?
  show ML?
  show GL?
  show Ct?
  show J9?
 done:=by
  show m?
  show Y?
  have#[xs,hq,hx]:=hg
  show DB?
  show j?
  show CF?
  show Ns? wpAny_pyNext_list_end i4!
 self:=JNn
def Ja3{P:Program}{w:World}{K:W.Frag}{tg:Expr}(a it:Addr):JN2 lm! zv! where
 mem:=ci
 obj:=JK! (by
  show At?
  subst e
  show CE?
  show HB?)
 keep:=hi!
 item:=by
  show m?
  show Y?
  show Eu?
  show IQ?
  show DQ?
  show j?
  show wpAny_pyNext_tuple_item st JdN (x:=u) QCl QCU
  show GL?
  show Ct?
  show#[u,A!,QEa d x ru (Ao! (λys hy=>U! (I.WT hy hq) hx))]
 done:=by
  show m?
  show Y?
  have#[xs,hq,hx]:=hg
  show IQ?
  show j?
  show CF?
  show Ns? wpAny_pyNext_tuple_end JdN
 self:=ca! wpAny_pyIter_tupleiter
def Jpp{P:Program}{w:World}{K:W.Frag}{tg:Expr}(it:Addr)(lo:Int)(n:Nat):QBq (q_ lo n) (IsRangeIter h it (lo+(i:ut)*1) (D1!-(i:ut)) 1) where
 mem:=ci
 obj:=JK! (by
  show At?
  subst e
  show#[_,st,λv z=>by
   have z':Data.fields _=Data.cell v:=z
   cases z'])
 keep:=λi h h' st k=>k it Ix _ st
 item:=by
  show m?
  show Y?
  show j?
  have W:=Walks.range (Da!:=EI!) (w:=X.w) Mt! it lo 1 n
  show W.item i s _ _ hg st λv h' tk hv SS kk=>?_
  have#[t,rfl]:=hv
  show Qe? zw! (KK! kk (by simpa using hb))
  show L? (vj (s:=zw!) (n:="range_iterator") SS A! A! FB (QBh (En! (lo+i)) #[t,?_] DQ!))
  rw[Int.mul_one]
 done:=by
  show m?
  show Y?
  show j?
  show wpAny_pyNext_range_end Mt! st (by have:n<=i:=hg;lia) QBl
 self:=ca! wpAny_pyIter_rangeiter
open S
variable {X:Cx Kx}{tg:Expr}
abbrev Jyg(K:W.Frag)(tl:TE):TI:=JUe ld!
abbrev J48(K:W.Frag)(tl:TE):TI:=pJ! (∃a,BX!/\(JVr)/\R lm! H1)
def Em{X:E!}{l:Expr}{tl:TE}(hl:RM!):yW! Jyg:=by
 show MO? Jhs;show Bz?
 show GQ?
def E4{X:E!}{l:Expr}{tl:TE}(hl:RM!):yW! J48:=by
 show AO?;show Bn?;show CC?;have#[a,e,#[xs,hq],q]:=q1;subst e;cases r1;show IR?;show i5! (JVt) ?_;show SM? (Ja3 a _);show Bz?
 show GQ?
def Jnd{AB:Ch}{σ:St}{H:Hp}{s:Shared}{R:Qc!}{E:NE}{lo hi:Int}{t u v:Tok}{tk:Nat}(I:I!)(h1:XE!<=lo)(h2:lo<UN!)(h3:XE!<=hi)(h4:hi<UN!)(q:R (q_ lo QDD) H):JHl (PD! pyIter UF) JuO Jgg:=by
 show wpAny_pyIter_range (IsRange.new ..) (small_one h1 h2 h3 h4) ?_;show CX? Jgg (I.kept l0!);show#[hf!,[hf!],_,_,H,A!,I1.kept (t':=tk) l0!,Jpp _ lo QDD,?_,KY!,q];·(have e1:JRq=lo:=ci);(have e2:Jgd=Builtin.Range.rangeSize lo hi 1:=JEb rangeSize_one);change IsRangeIter _ _ (JRq) (Jgd) 1;rw[e1,e2];show Dy!
 ·(have e:b=hf!:=by simpa using hb);subst e;show I1.VD (ZG _) oC!
abbrev J7b(ta:TA):TI:=xU! (∃j:Int,vs=[g! j]/\XE!<=j/\j<UN!/\R (q_ 0 j.toNat) H1)
abbrev J7a(ta:TA):TI:=xU! (HN λ(i:Int)(j:Int)=>vs=[IM!,g! j]/\(XE!<=i/\i<UN!/\XE!<=j/\j<UN!)/\R (q_ i (D2! (j-i))) H1)
def O5{a:Expr}{ta:TA}{p pos:Pos}(hg:Gl X Xt!)(hm:JMG)(ha:PA X [a] ta)(hs:QD3 [a] a:=by rfl):JiX [a] J7b:=by show AO?;show Ju? (JZ (QAl (λus s1 #[vs,H1,I1,r1,q1]=>?_)) hs A!);have#[j,e,q1,q2,q]:=q1;subst e;cases r1 with | cons r rr =>cases rr;have#[t,rfl]:=r;show call_range_1 (Jnd I1 v! v! q1 q2 (by simpa using q))
def Jt4(hg:Gl X Xt!)(hm:JMG)(ha:JTL)(hs:JjP:=by rfl)(OW:Jdq:=by rfl) : JiX N1! J7a:=by show AO?;show Ju? JoW;have#[i,j,e,#[q1,q2,q3,q4],q]:=q1;subst e;cases r1 with | cons r rr =>cases rr with | cons r' rr =>cases rr;have#[t,rfl]:=r;have#[t',rfl]:=r';show call_range_2 (Jnd I1 q1 q2 q3 q4 q)
abbrev J59(wi:TI)(g:TG)(tb:TS):TS:=Nz! (FW! wi (λJ H1=>lW! Bu! σ H1 (∀i m σ H,W i m σ H ->
 Rh! J.stop J.go Bu! (Mv! J.SM))))
abbrev T9(fp:S!)(h:Heap):Ch:=fp.filterMap λb=>Du! LR! b (λo=>Ua!)
def Gu(hb:b∈fp)(e:MJ!):Ua!∈T9 fp h:=y2! #[b,hb,d8!]
def Jug(hp:p∈T9 fp h):y!∈fp/\an! y! AQ!:=by have#[b,hb,e]:=List.mem_filterMap.mp hp;cases q:LR! b with | none=>show GH? | some o =>rw[q] at e;have e':Ua!=p:=ZO e;subst e';show#[hb,q]
def Inv.pinned(I:I!)(hf:z5!)(ho:YF! (∃o,IC!/\∀v,o.data≠Rq! v)):Inv X (AB++T9 fp Tk) σ H s :=I.eJ (F9! ((ZI hp).elim (λz=>T8! (D4! z)) λz=>by have#[hb,e]:=Jug z;have#[f0,f1,f2,_]:=hf y! hb;have#[o,e',d]:=ho y! hb;show i?;cases e';show#[e,f0,f1,f2,d]))
def Inv.ME(I:Inv X (AB++pl) σ H s):I!:=I.eJ (F9! (T8! (ZC _ (ZB _ hp))))
def Fv(hp:JrJ)(hc:A1!)(hi:JZZ)(hg:PG X tg g)(hb:T_ X body tb)(hs:JrL:=by show Aa?):JrD (J59 wi g tb):=by
 show V?;show JY? hi (λv s1 h1=>FG h1 λxP s2 h2=>?_);have#[it,fp,tn,J,H2,e,I2,T,pG,f2,W,#[m0,w0],turn]:=h2;subst e;have VB:∀{H':Hp},(YF! IP!)->YF! (mz! H'):=λhn b hb=>#[D5! hn,(f2 b hb).2];show codeAny_forLoop_any (λn s'=>JGG a8! Hb! (W i n GF H')) ?_ m0 #[0,σ,H2,I2,pG,QAB f2,w0];rintro n s3 ⟨i,iA,H3,I3,tY,WO,w3⟩;obtain⟨stop,qn⟩|⟨go,N,hN,step⟩:=GC! i n iA H3 w3;.show Q9? T.done stop;rintro r s4 ⟨hr,I4⟩;subst hr;show QY #[iA,H3,I4,qn]
 .show Q9? T.item go;rintro r s4 ⟨u,hr,h4⟩;subst hr;show KJ hp (FG h4 ?_);rintro _ s5 ⟨x,H5,I5,r5,y5,jv,ae⟩;have I5':=I5.pinned (VB ae) (wP T.obj jv);show KJ hp (FG (hg _ s5 iA H5 x u _ I5' r5 (step x H5 y5)) ?_);rintro _ s6 ⟨σ6,H6,I6,q6⟩;show KJ hp (FG (hb _ s6 σ6 H6 _ I6 q6) λf s7 q7=>?_);(have again:∀{jb:St} {H7:Hp},Inv X (AB++T9 fp s5.heap) jb H7 s7->N jb H7->∃m,m<n/\JGG (aS! H' s7) s7.heap (W i m GF H'):=λ{jb H7} I7 n7=>by have#[m',hm,w7]:=hN jb H7 n7;show#[m',hm,Am!,jb,H7,I7.ME,T.keep _ _ _ jv λb hb o e=>(I7.pin Ua! (ZC _ (ZC _ (Gu hb e)))).1,KY!,w7];have#[o,e,d]:=T.obj _ _ jv b hb;show(I7.pin Ua! (ZC _ (ZC _ (Gu hb e)))).2.1);cases f with | next=>show Of? | cont=>show Of? | brk=>have#[jb,H7,I7,q7]:=q7;show#[jb,H7,I7.ME,q7] | ret v=>have#[x7,jb,H7,I7,r7,q7]:=q7;show#[x7,jb,H7,I7.ME,r7,q7]
open E
def Su{K:W.Frag}{a:Addr}{xs:C!}{g:TG}{tb:TS}{D:Ends}{σ:St}{H:Hp}(Pv:d3!)(h0:Qz!)(hl:fS! DT!)(hs:hj!)(hd:vl!) : XR! Bu! (VU! (Rh! (VA K a).stop (VA K a).go Bu! (Mv! (VA K a).SM))):=by
 show QE?;show QA?
 show LV?
def Mb{K:W.Frag}{a:Addr}{xs:C!}{g:TG}{tb:TS}{D:Ends}{σ:St}{H:Hp}(Pv:d3!)(h0:Qz!)(hl:fS! DU!)(hs:hj!)(hd:vl!) : XR! Bu! (VU! (Rh! (YA K a).stop (YA K a).go Bu! (Mv! (YA K a).SM))):=by
 show QE?;show QA?
 show LV?
def Wn{lo:Int}{n:Nat}{g:TG}{tb:TS}{D:Ends}{σ:St}{H:Hp}(Pv:d3!)(h0:Qz!)(hs:∀i σ H,i<n->aA!->oH! wZ!)(hd:∀σ H,Pv n σ H->KR! H) : XR! Bu! (VU! (Rh! (q_ lo n).stop (q_ lo n).go Bu! (Mv! (q_ lo n).SM))):=by
 show#[λi m σ H=>m=n-i/\i<=n/\aA!,#[n,ci,Ax!,h0],?_];rintro i m σ H ⟨rfl,hi,p⟩;by_cases IP:i<n;.show Ff? IP (n-xL);have#[e,y]:=y;subst e y;show hs i σ _ IP p
 show JW? (FW! hd p)
@[reducible]abbrev R2:=Wm!
abbrev UA(X:E!)(f:XO!)(r:R2):B! :=
 ∀(AB:Ch)(s:Shared)(σ:St)(H:Hp)(x y:V)(v u:Value)(Q:VK),JQZ (f8! y ->
  Kl! (f v u))
abbrev UnR(X:E!)(f:JKY)(r:uT!):B! :=
 ∀(AB:Ch)(s:Shared)(σ:St)(H:Hp)(x:V)(v:Value)(Q:VK),JIX (r x H Q ->
  Kl! (f v))
abbrev IH(X:E!)(f:Value)(r:JVQ):B! :=
 ∀(AB:Ch)(s:Shared)(σ:St)(H:Hp)(xs:C!)(us:Y!)(Q:VK),l1! Ig! (W8! r ->
  Kl! (call f us))
abbrev Qah(X:E!)(r:V->lM! (HB!)):B! :=
 ∀(AB:Ch)(s:Shared)(σ:St)(H:Hp)(x:V)(v:Value)(Q:HB!),JIX (r x H Q ->
  QDG (truthy v))
abbrev V_(r:R2)(ta tb:TE):TE:=JaF Q
abbrev tUn(r:uT!)(ta:TE):TE:=QK! (r x H1 Q)
inductive IrI(C:xi!)(g:fI!)(x:V)(y:V)(H:Hp)(Q:VK):B!
 | mk (i j) (e0:M2!) (e1:Vd!) (e2:C i j) (e3:Q UC! H)
abbrev rI(C:xi!)(g:fI!):R2:=λx y H Q=>IrI C g x y H Q
inductive Qal(g:fI!)(x:V)(y:V)(H:Hp)(Q:VK):B!
 | mk (i j) (e0:M2!) (e1:Vd!) (e2:Q UC! H)
abbrev pI(g:fI!):R2:=λx y H Q=>Qal g x y H Q
inductive IrU(g:KE->V)(x:V)(H:Hp)(Q:VK):B!
 | mk (i) (e0:M2!) (e1:Q (g i) H)
abbrev rU(g:KE->V):uT!:=λx H Q=>IrU g x H Q
open S
variable {X:Cx Kx}{a b c:Expr}{ta tb tc:TE}{pos:Pos}
def J5p(ha:EC!)(hb:HU!){AB:Ch}{s:Shared}{σ:St}{H:Hp}{R:JK0}(I:I!)(h:JTU){Q:NE}{f:XO!}(hf:JuB) : JU2:=JxI
def Co{op:Operator}{r:R2}(ho:UA X (binaryOp op) r)(ha:EC!)(hb:HU!):Bo! (.BinOp a op b AG!) gg!:=JSA wpAny_BinOp JqI
def J6t(ho:UnR X (unaryOp op) r)(ha:EC!):Bo! (.UnaryOp op a AG!) (tUn r ta):=JGW UnaryOp_ (Jht ho)
def opI{f:XO!}{C:xi!}{g:JLR}(rule:∀(i j:Int) (t u:Tok) (s:Shared) (Q:NE) (E:NE),C i j->JkN->QBn (f VP! (PP j u))) : UA X f (rI C z0!):=by show AP?;have#[i,j,rfl,rfl,hc,q]:=h;show X?;show BT?;show rule i j t t' s _ _ hc JKP
def J6x{f:XO!}{g:JLR}(rule:JTw JkN) : UA X f (pI z0!):=JwG JKP
def J0u{f:XO!}{g:uh!}(rule:JTw (Q (Ar! UC!) s)) : UA X f (pI λi j=>AI! UC!):=JwG (cT! (AI! UC!))
abbrev Qan(i j:Int):B!:=0<j/\j<1073741824
abbrev wX(i j:Int):B!:=(-(em!)<i/\i<em!)\/(-(em!)<j/\j<em!)
def wX.ok(h:wX i j):IntMulOk i j:=by
 obtain⟨h1,h2⟩|⟨h1,h2⟩:=h;.show .of_left JhE
 .show .of_right JhE
def Ia:JjH .Add (i+j):=JNp add_int
def Jko:JjH .Sub (i-j):=JNp sub_int
def P2:JbP .Mult wX (i*j):=opI λ_ _ _ _ _ _ _ hc q=>mul_int q hc.ok
def Jar:JbP .FloorDiv Qan (i / j):=JRX (by have h1:L6!<j:=hc.1;have h2:j<1073741824:=hc.2;show floordiv_int (KZ h1) (JhU Int.fdiv_eq_ediv_of_nonneg h1) (PO! PyProof.noPylong_small v!))
def Er:UA X (binaryOp .Mod) (rI (λ_ j=>0<j) λi j=>En! (i % j)):=JRX (by have h1:L6!<j:=hc;show mod_int' (KZ hc) (JhU Int.fmod_eq_emod_of_nonneg hc))
def unI{f:JKY}{g:KE->KE}(rule:∀(i:Int) (t:Tok) (s:Shared) (Q:NE) (E:NE),QCp (PP (g i) GB!)->QBn (f VP!)) : UnR X f (rU λi=>PP (g i)):=by show HU?;have#[i,rfl,q]:=h;show X?;show rule i t s _ _ (Md! (PP (g i)))
def J3c:UnR X (unaryOp .USub) (rU λi=>En! (-i)):=unI λ_ _ _ _ _ q=>neg_int q
open E
abbrev J6f:V->V->BH!
 | .GJ,.GJ=>true|.GJ,.int _=>true|.int _,.GJ=>true|.GJ,.bl _=>true|.bl _,.GJ=>true|.GJ,.str _=>true|.str _,.GJ=>true
 | .int _,.int _=>true|.bl _,.bl _=>true|.str _,.str _=>true|.az _,.az _=>true
 | .int _,.str _=>true|.str _,.int _=>true|.bl _,.str _=>true|.str _,.bl _=>true
 | _,_=>false
abbrev tf:R2:=JnA (sf! (x=y))
abbrev rNe:R2:=JnA (Kt! (! KB (x=y)))
def Td:QAP i j=(i==j):=th!
def Jy4:Ti! E8! i E8! j=(i==j):=th!
def Js5:Ti! AT! i AT! j=(i==j):=th!
def Js6:Ti! V.az i V.az j=(i.toList==j.toList):=by rw[OS];cases i;cases j;simp
open S
variable {X:Cx Kx}{a b c:Expr}{ta tb tc:TE}{pos:Pos}
def Dc(I:I!)(q:Kt! k)(e:k=k'):bg! (Ar! k') s:=by subst e;show#[AI! k,H,I,A!,q]
def Cv:nE! .Eq tf:=by show AP?;have#[hs,q]:=h;cases x with | GJ =>show J?;(cases y with | GJ=>show s? PySem.EqNone.eq_none_none | bl j=>show s? PySem.EqNone.eq_none_bool | int j=>show AA? PySem.EqNone.eq_none_int | str j=>show AA? PySem.EqNone.eq_none_str | _=>show AD?) | bl i =>show J?;(cases y with | GJ=>show s? PySem.EqNone.eq_bool_none | bl j=>cases ry;show eq_bool (Dc I q Jy4) | str j=>show AA? PySem.EqMixed.eq_bool_str | _=>show AD?) | int i =>show X?;(cases y with | GJ=>show s? PySem.EqNone.eq_int_none | int j=>show FV? eq_int Td | str j=>show AA? PySem.EqMixed.eq_int_str | _=>show AD?) | str i =>show X?;(cases y with | GJ=>show s? PySem.EqNone.eq_str_none | bl j=>show s? PySem.EqMixed.eq_str_bool | int j=>show AA? PySem.EqMixed.eq_str_int | str j=>show FV? eq_str Js5 | _=>show AD?) | az i =>show X?;(cases y with | az j=>show FV? W.eq_bytes Js6 | _=>show AD?) | _=>show La?
def Xi:nE! .NotEq rNe:=by show AP?;have#[hs,q]:=h;cases x with | GJ =>show J?;(cases y with | GJ=>show s? PySem.EqNone.ne_none_none | bl j=>show s? PySem.EqNone.ne_none_bool | int j=>show AA? PySem.EqNone.ne_none_int | str j=>show AA? PySem.EqNone.ne_none_str | _=>show AD?) | bl i =>show J?;(cases y with | GJ=>show s? PySem.EqNone.ne_bool_none | bl j=>cases ry;show ne_bool (Dc I q (Cx! not Jy4)) | str j=>show AA? PySem.EqMixed.ne_bool_str | _=>show AD?) | int i =>show X?;(cases y with | GJ=>show s? PySem.EqNone.ne_int_none | int j=>show GX? ne_int Td | str j=>show AA? PySem.EqMixed.ne_int_str | _=>show AD?) | str i =>show X?;(cases y with | GJ=>show s? PySem.EqNone.ne_str_none | bl j=>show s? PySem.EqMixed.ne_str_bool | int j=>show AA? PySem.EqMixed.ne_str_int | str j=>show GX? ne_str Js5 | _=>show AD?) | az i =>show X?;(cases y with | az j=>show GX? W.ne_bytes Js6 | _=>show AD?) | _=>show La?
def Sa:gt! .Lt (i<j):=fp! lt_int
def J2y:gt! .LtE (i<=j):=fp! le_int
def Jnn:gt! .Gt (j<i):=fp! gt_int
def Jsd:gt! .GtE (j<=i):=fp! ge_int
def Jt8:JLz JrB:=by show AP?;have#[i,j,rfl,rfl,q]:=h;show X?;show BT?;show in_str (Dc I q A!)
def A4(b:Expr)(h:op≠.In:=by decide)(h2:op≠YC!:=by decide):Re!:=by
 show Lb?
 show Ll?
 show KH?
def O6{op:CmpOp}{r:R2}(ho:yO!)(ha:EC!)(hb:HU!)(hm:Re!):JEo gg!:=by show N?;show zO! (J5p ha hb I h (zM! JqI)) hm
inductive J5t  (x:V) (H':Hp) (Q:HB!):B!
 | mk (k) (e0:x=AI! k) (e1:Q k H')
abbrev Mg(t:TE):TT:=mG! (λx H'=>J5t  x H' Q)
def Au(ho:yO!)(ha:EC!)(hb:HU!)(hm:Re!):JOO Mg gg!:=by show N?;show NN? zP! (QBI hb (JrP (λc s3 #[z,H3,I3,r3,k,e,q3]=>?_)));subst e;cases r3;show LC #[H3,I3,q3]
abbrev J3q(r r':R2)(ta tb tc:TE):TE:=JaF (λz H3=>∃k,z=AI! k /\
 Tx! (k=true) (tc σ H3 λw' H4=>r' y w' H4 Q) (Q (AI! IR) H3))
def Jw1(ho:yO!)(kM:nE! op' r')(ha:EC!)(hb:HU!)(hc:Bo! c tc)(hm:A0! (lastMarks [op,op'] [b,c]):=by with_unfolding_all rfl):PT X (.Compare a [op,op'] [b,c] AG!) (Mg (J3q r r' ta tb tc)):=by show N?;show NN? isTrue_chain (test_link (FG (JzM hb) (JrP (λd s3 #[z,H3,I3,r3,k,e,q3]=>?_))));subst e;cases r3;show LC ?_;cases k with | false =>have#[k',e',q']:=q3;cases e';show ite_ff #[H3,I3,q'] | true =>show ite_tt (test_last (FG (O3! hc s3 H3 I3 q3) λw' s4 #[z',H4,I4,r4,q4]=>FG (kM AB s4 σ H4 y z' u w' _ I4 r2 r4 q4) λd' s5 #[z2,H5,I5,r5,k2,e2,q5]=>?_));subst e2;cases r5;show LC #[H5,I5,q5]
abbrev J71(K:W.Frag)(x:V)(H:Hp)(k:Bool):B! :=
 match x with
 | .GJ=>k=false
 | .bl b=>k=b
 | .int i=>k=(i != 0)
 | .str y=>JAU/\k=(bi i8! != 0)
 | .az y=>JAV/\k=(bi y.size != 0)
 | .ref p=>JiJ W9! fa!
 | _=>False
def Jq3(r:D7!):(!vs.isEmpty)=!kvs.isEmpty:=rT! r
def Jcz(r:cX!):(!its.toArray.isEmpty)=!xs.isEmpty:=by cases r<;>simp
def Wf:(sizeLine:ut)<2 ^ 63:=by rw[CZ];decide
def J3d{X:E!}:Qah X (λx H Q=>∃k,J71 Kx x H k/\Q k H):=by show HU?;have#[k,e,q]:=h;have hl:=Wf;have hs:sizeLine=16777216:=CZ;cases x with | GJ =>show J1? (k=false) truthy_none | bl b =>show J1? (k=b) LC | int i =>show X?;have e':k=(i != 0):=e;subst e';show PySem.P.truthy_int #[H,I,q] | str y =>show Ok? JAU i8! PySem.P.truthy_str v! | az y =>show Ok? JAV y.size W.truthy_bytes (AA (hs▸hy) FB) | ref p =>show J?;have e':JiJ (DW Kx H p xs) (DF Kx H p xs):=e;obtain⟨xs,hx,e'⟩|⟨xs,hx,e'⟩|⟨kvs,hx,e'⟩:=e';(.show Nj? GA! wpAny_truthy_list LV!);(.show Nj? JI! truthy_tuple pl);.subst e';obtain⟨hz,hS,vs,r,m⟩:n1! (DD! (p==sysModules)) (∃vs,D7!/\s.heap.DictOf Ub! p vs):=TY! p hx;have hlen:i9!:=sQ!;show wpAny_truthy_dict hS m v! #[H,I.tok _,U! (Jq3 r) q] | _=>show(show False from e).elim
def Jng{X:E!}(ha:EC!)(he:JmY (isTrue a o0 whole) a.pos) :
 PT X a (lJ! ta (λx H'=>∃k,J71 Kx x H' k/\Q k H')):=by
 show N?
 show isTrue_plain (Jht J3d) (he _)
def C6:JNa (λx y H Q=>HN λi j=>x=bn i/\y=bn j/\EJ! (i.length+j.length)/\U6! (i++j)):=by show AP?;have#[i,j,rfl,rfl,hz,q]:=h;show X?;show BT?;show add_str (λt' tk=>Md! (wp (i++j))) hz
def vals1(r:Zv! [x]):JdP:=by cases r with | cons r1 r2=>show Ch? r2 r1
def vals2(r:JGt):HN λu w'=>us=[u,w']/\If!/\Ea! y w':=by cases r with | cons r1 r2 =>cases r2 with | cons r3 r4=>show GE? r4 r1 r3
inductive Jro(xs:C!)(H:Hp)(Q:VK):B!
 | mk i j (_:JAC) (_:JOa (j > i))
def Jve(hc:A1!):mu! "max" Jro:=by
 show Pn? max_two_ints (j > i);show PX?
 show OS?
inductive Jrn(xs:C!)(H:Hp)(Q:VK):B!
 | mk i j (_:JAC) (_:JOa (j<i))
def Jvd(hc:A1!):mu! "min" Jrn:=by
 show Pn? min_two_ints (j<i);show PX?
 show OS?
def Jja:JMP (λxs H Q=>(∃i,xs=[IM!]/\Kf! i)\/∃k,xs=[AI! k]/\o2! JV0):=by
 show b?;obtain⟨i,rfl,q⟩|⟨k,rfl,q⟩:=h;.show Bv?;show call_int_int #[IM!,H,I,BT!,q]
 .have#[u,rfl,r1]:=vals1 r;cases r1;show call_int_bool (Md! (En! JV0))
inductive Gz(xs:C!)(H:Hp)(Q:VK):B!
 | mk i (_:xs=[IM!]) (_:JAD) (_:Q (wp (YH! i)) H)
def ED:JMQ Gz:=by show b?;have#[i,rfl,hz,q]:=h;show Bv?;show PySem.P.str_of_int hz (Md! (wp _))
open E
structure bu(h:Heap)(x dx C:Addr)(mA:wS):B! where
 obj:CF! LR! wx!
 ns:ha!
 ne:dx≠x
def Juo{h:Heap}{dx:Addr}{mA:wS}(n:ha!):JuD (an! dx od):=by
 have#[o,es,ep,ho,hd,hk,_,hm]:=n;show#[o,ho,λname=>?_];have e:=hm E9!;unfold nsFind findBy at e;rw[<-Array.find?_toList] at e;unfold W.lookIn;rw[hd];show AE?;split;.rename_i y q;rw[q] at e;show Cx! AC! e
 .rename_i q;rw[q] at e;(have a:A0! (JAn (·.refKey)):=by rw[JAo];intro y hy;have#[z,t,hV]:=hk y (Array.mem_toList_iff.mp hy);simp[DictEntry.refKey,hV]);(have a':¬Ej! JAn (·.refKey):=U! a AR);rw[AD a'];show Cx! AC! e
def bu.look(I:bu h x dx C mA):JuD (W.InstAt h x wx! C (AC! od)) :=let#[od,ho,hl]:=Juo I.ns;#[od,#[I.obj,A!,A!,ho],hl]
open S
variable {prog:Program}{w:World}{A:Around}{E:Value->Shared->Prop}{s:Shared}{K:W.Frag}{x dx C f:Addr}{mA:Str->Option Value}{name:Str}{v:Value}
def J1w{expr:Bool}{Q:NE}(X:Kv!)(I:xF!)(hg:JO3)(hh:e5!)(ha:Ij! E9!)(hv:z! mA E9! v)(hv':JGq v)(h:Q v bC!) : JYT getAttr expr:=JDd (W.get_value X J JXb (W.findObj_own hh ha A! (Ck! hl hv)) hv' h)
def Jyn{pl:tV!}{Q:H7! (Value×Y!)}(X:Kv!)(I:xF!)(hg:JO3)(hf:pZ! E9!)(ht:fj!)(hv:EX! mA E9!)(h:Q (FS f,[Ko!]) s) : JYT getMethod pl:=JDd (W.method_fn X J JXb (W.plainGet_of hg).2 hf (NT.mp ht) (by change z! (W.lookIn E9! od).map (·.isSome) IR;rw[hl,hv];rfl) h)
def Jz5{ns:j!}{Q:D9!}(X:Kv!)(I:xF!)(hs:hy!)(hp:uO!)(ht:JhT E9!)(hh:e5!)(hw:PySem.Within mA ns)(hsz:JAq)(h:∀h',bu h' x dx C (λy=>Uj! (y=name) v (mA y))->X8! dx Tk h'->Q () { s with heap:=h',toks:=s.toks+2 }) : Eh! (setAttr Is! E9! v):=by have#[od,J,hl]:=I.look;show W.set_plain X J hs (W.osa_open (s:=bC!) (r:=SB) X J hp ht λb=>?_);have#[cd,hc,XY]:=W.any_some hh;have hx:CF! EH! #[MU!,D! dx,.plain,Dc!]:=I.obj;show R? ZS (ZR (ZR (JAr hx (ZR (W.Looks.here (s:=bC!) (W.looks_clsIn X hc) ?_)))));rw[XY];show ZS (a:=D! dx) (ZR (ap! ?_));show wpAny_nsSet1 (s:=bC!) I.ns λh' uF OW=>?_;have#[oD,esD,epD,hoD,hdD,hcD]:=uF.count (PySem.Within.cons E9! v hw);show ZR (wpAny_lookBehind hoD (o! hdD (pastItsLine_dict (AA hcD (o! BD (L4! AE hsz))))) ?_);show ZS (h _ #[(OW.2 _ (O8! I.ne)).trans I.obj,uF,I.ne] OW)
def Jx4{R:dq!}{vs:Y!}{kw:T6!}(X:Kv!)(hm:uP!)(hi:JO0)(hf:W.typeIn K ac!=D! (Cu! "function"))(h:YI! MA! (QFN #[MU!::vs,kw]) (KM! .call f #[mY! .ref::vs,kw]) (W.InitBack (KI!) R) JrQ) : g6! (KM! .call C #[vs,kw]):=by have#[hh,g,d,t,os]:=s;show W.make_core (W.makes_of X hm) (W.looks_findIn X hi) (λself=>W.bind_fn X self hf) IK! h
open E
abbrev A3(f:Str)(v:V):Eq!->Eq!
 | []=>Ev! f
 | (g,x)::r=>if g=f then(g,v)::r else(g,x)::A3 f v r
def Cp(f g:Str)(v:V):qY! ((A3 f v fs).lookup g=Uj! (g=f) v (fs.lookup g))
 | []=>by change YJ! g (Ev! f)=_;by_cases h:g=f;(.have hb:Av! (g==f):=NT.mpr h;simp only[List.lookup,hb,Bz!]);.show Iy? (DD! (g==f)) B9!
 | (k,x)::r=>by have ih:=Cp f g v r;show AX? (uU! (yq! gN!));by_cases hk:k=f;(.rw[AF hk];by_cases h:g=k;(.show Jw? (AF (h.trans hk)));.show Iy? (DD! (g==k)) (AD (λe:g=f=>h (e.trans hk.symm))));.rw[AD hk];by_cases h:g=k;(.show Jw? (AD (λe:g=f=>hk (h.symm.trans e))));.have hb:DD! (g==k):=YK! h;simp only[List.lookup,hb];show ih
def Wj(f:Str)(v:V):qY! (f∈JHJ/\∀g,g∈ww Rm!->g∈JHJ)
 | []=>#[by simp[A3],λg h=>B7!]
 | (k,x)::r=>by have#[i1,i2]:=Wj f v r;show AX? (uU! (yq! gN!));by_cases hk:k=f;(.rw[AF hk];subst hk;show#[ci,λg h=>aR!]);.rw[AD hk];show#[?_,λg h=>?_];(.rw[AI];show G9! i1);.rw[AI] at h ⊢;obtain e|e:=K4!;(.show Rz! (l! e));.show G9! (i2 g e)
def Cc(f:Str)(v:V):qY! ((A3 f v fs).length<=fs.length+1)
 | []=>by simp[A3]
 | (k,x)::r=>by have ih:=Cc f v r;show AX? (uU! (yq! gN!));by_cases hk:k=f;(.rw[AF hk,BD,BD];show QE!);.rw[AD hk,BD,BD];show EX ih
def Qa3{v:V}{o:L5!}(r:UO (AC! v) o):∃u,o=D! u/\Cm!:=by cases o with | none=>show BN? | some u=>show#[u,A!,r]
def Qau(r:UO SB o):o=none:=by cases o with | none=>rfl | some u=>show BN?
def Ju2(r:Cm!):JGq u:=by cases v with | GJ=>show DX? hr! | bl b=>show DX? JLa | int i=>show Da? VR! | str x=>show Da? f6! | az b=>show Da? JQL | uH b=>show Da? JQM | ref a=>show DX? JyV | ty n=>show DX? zY!
open S
def Jau(EK:DX!)(e:WG!):∃mA,bu h a dx C mA/\(ir!)/\JoD/\zi!/\JXC:=by have#[d,z,ne,ob,mA,n,r,q]:=JSc lp! EK;show#[mA,#[ob,n,ne],r,q,z,d]
open E
structure YB(K:W.Frag)(C:Addr):B! where
 pg:JO4
 hd:e5!
 po:uO!
 sa:hy!
def YB.get{K:W.Frag}{C:Addr}(c:cQ!)(f:Str):T! (W.plainGet K C f):=c.pg
abbrev GN(K:W.Frag)(C:Addr)(f:Str):B!:=JKL
def GN.JBg{K:W.Frag}{C:Addr}{f:Str}(n:Il! f):JhT f:=by unfold W.takerIn;rw[show JKL from n];rfl
structure vX(K:W.Frag)(C:Addr)(m:Str)(f:Addr):B! where
 at_:pZ! m
 fn:fj!
 kp:JNT
open S
def Jc5{X:E!}(I:I!)(e:WG!)(c:Nt!)(n:GN Kx C f)(l:yt!)(h:∀u s',nT!->Cm!->Q u s'):tl! getAttr f b:=by show HT?;have#[u,hu,ru]:=Cs! Qa3 v v o (mA f) (DO! l (r f));show J1w De! O (c.get f) c.hd n hu (Ju2 ru) (h u _ ae! ru)
def Ma{X:E!}(I:I!)(e:WG!)(c:Nt!)(k:vX Kx C m g)(l:fC!)(h:Q (FS g,Fl!) s):tl! getMethod m pl:=by show HT?;have hn:UR! mA:=TG! Qau l (r m);show Jyn De! O (c.get m) k.at_ k.fn hn h
def Jbj{X:E!}(I:I!)(e:WG!)(c:Nt!)(n:GN Kx C f)(hl:JAG)(ry:Cl!)(h:∀s',QBG JG0 s'->Q () s'):lz! (setAttr Bs! f u):=by
 have#[mA,O,r,wi,_,ho]:=TU! Jau;have hz:EJ! (Rm! (·.1)).length:=JX9 CZ hl
 show Jz5 De! O c.sa c.po n.JBg c.hd wi hz λh' O' sb=>h _ ?_;have hd:∃o,tD! dx:=let#[o,_,_,e',_]:=O'.ns;#[o,e'];show I.write (x:=a) (e:=dx) (o! e YL!) (Eg! ho) (λb q hb z=>(sb.2 b hb).trans z) hd ?_;show#[jp O.ne ho,?_,O.ne,O'.obj,_,O'.ns,λg=>?_,λg hg=>?_];.have:=Cc f y fs;lia
 .change UO ((A3 f y fs).lookup g) JiQ;rw[Cp];by_cases q:g=f;(.rw[AF q,AF q];show ry);.rw[AD q,AD q];show r g
 .by_cases q:g=f;(.rw[q];show(Wj f y fs).1);.show(Wj f y fs).2 g (wi g λz=>hg ?_);change JiQ=none;rw[AD q];show z
def Inv.AY(I:I!):S1! (V0! UF (JD! (KI!)) bq! (JN! C UF [])) JrQ:=by
 have e1:z! (JM! LX!).get? UF LX!:=ZU Tk A!;have e2:mY! ((JM! LX!).push (h7! C UF)).get?=D! (h7! C UF):=pC! (ZU (JM! LX!) (o:=h7! C UF) A!) LP
 have e3:(JM! LX!).Ns UF (R0!):=#[LX!,Dc!,_,e1,A!,(He! (Mx! he Ix)),LY!];have I1:=I.laid (a:=UF) (o:=mY! JD!) (h':=JM! LX!) (t':=GB!) (zl!) B6! #[_,e1];show I1.laid (a:=KI!) (o:=JN! C UF []) (t':=GB!) (zl!) (BQ (xz LP)) ?_;have ne:s.heap.objs.size≠KI!:=BP (TN _);show#[AO! (Ae ne) Ab,Ax!,ne,e2,R0!,(Heap.Ns1.of_empty e3).at λo q=>ZT _ q,λ_=>True.intro,GF! (Mx! A! hy)]
def J2b(hb:JCC e f env (VN! e)=eval e env)(h:JNt (VN! e) (W5! (getAttr o f AC) FC)):JYR N4! e f :=Attribute_any_ h (Ck! arm_eval_Attribute hb)
open E
inductive J8a(K:W.Frag)(f:Str)(x:V)(H1:Hp)(Q:VK):B!
 | mk (a C dx fs v) (e0:BX!) (e1:XZ!) (e2:cQ!) (e3:Il! f) (e4:yt!) (e5:fD!)
abbrev sM(K:W.Frag)(ta:TE)(f:Str):TE:=QK! (J8a K f x H1 Q)
abbrev J9f(K:W.Frag)(ta tv:TE)(f:Str):TS:=JMr (λy H1=>ta σ H1 λx H2=>a9 λa C dx fs=>Jhg (m7! lp!) (JAG /\
 KR! (MG! a JG0)))
abbrev J2m(X:E!)(op:Operator)(rd:Wm!):B! :=
 ∀(AB:Ch)(s:Shared)(σ:St)(H:Hp)(x y:V)(u v:Value)(Q:VK),I!->If!->Ea! y v->rd x y H Q->Kl! (inplaceOp op u v)
abbrev J0d(K:W.Frag)(ta tv:TE)(rd:Wm!)(f:Str):TS:=Nz! (o0! (sQ λa C dx fs v=>Jhg XZ! (yt! /\
 tv σ H1 λy H2=>rd v y H2 λz H3=>HN λdx' pj=>sP! (JN! C dx' pj)/\pj.length<1000/\KR! (d! H3 a (JN! C dx' (A3 f z pj))))))
open S
def Aq{X:E!}(he:Bo! e ta)(hb:JCC e f o0 (Z2! e)=lP! e):Bo! (N4! e f AG!) (sM Kx ta f):=by show N?;show J2b hb bT!;rintro u s1 ⟨x,H1,I1,rx,a,C,dx,fs,v,ex,ea,c,n,l,q⟩;subst ex;show t?;show Jc5 I1 ea c n l λu' s2 I2 ru=>#[v,H1,I2,ru,q]
def Eo{X:E!}(ha:Nc!)(hv:gW!)(hs:JkW N4! f):JTm (N4! o f pos') (J9f Kx ta tv f):=by show V?;show plainObj_wpAny_Assign_Attribute (Zk! hv ?_) hs;rintro u s1 ⟨y,H1,I1,ry,q⟩;show FG (O3! ha s1 H1 I1 q) ?_;rintro ov s2 ⟨x,H2,I2,rx,a,C,dx,fs,ex,ea,c,n,l,q2⟩;subst ex;show KP?;show Jbj I2 ea c n l ry λs3 I3=>#[σ,_,I3,q2]
def Du{X:E!}(ha:Nc!)(hv:gW!)(hop:J2m X op rd):JlV (N4! o f JIc) (J0d Kx ta tv rd f):=by show V?;show Ip? wpAny_AugAssign_AttributeAny;rintro ov s1 ⟨x,H1,I1,rx,a,C,dx,fs,v,ex,ea,c,n,l,q⟩;subst ex;show KP?;show Jc5 I1 ea c n l λu s2 I2 ru=>FG (O3! hv s2 H1 I2 q) ?_;rintro w3 s3 ⟨y,H2,I3,ry,q3⟩;show FG (hop AB s3 σ H2 v y u w3 _ I3 ru ry q3) ?_;rintro w4 s4 ⟨z,H3,I4,rz,dx',pj,gL,l',q4⟩;show Jbj I4 gL c n l' rz λs5 I5=>#[σ,_,I5,q4]
inductive J9s(x:V)(y:V)(H:Hp)(Q:VK):B!
 | mk i j (_:M2!) (_:Vd!) (_:o2! (i+j))
inductive J9g(x:V)(y:V)(H:Hp)(Q:VK):B!
 | mk i j (_:M2!) (_:Vd!) (_:o2! (i-j))
def Fc:J2m X .Add J9s:=JsU PyProof.Rows.iadd_int (i+j)
def Jyf:J2m X .Sub J9g:=JsU PyProof.Rows.isub_int (i-j)
open E
open S
inductive W9(K:W.Frag)(H:Hp):JXH where
 | GJ:ax! AS! "NoneType"
 | bl (x:Bool):JKr AI! "bool"
 | int (i:Int):ax! V8! LW!
 | str (x:Str):ax! en! N2!
 | uH (x:UInt64):JKr .uH "float"
 | BK {a:Addr} {xs:C!} (e:JFa):JOf
 | IV {a:Addr} {o:Obj} {xs:C!} (e:Ce! tj!):JOf
 | BI {a:Addr} {xs:C!} (e:dv!):ax! Bs! E7!
 | dK {a:Addr} {kvs:Bb!} (e:NM!):JOg
 | dT {a:Addr} {kvs:Aq!} (e:Qn!):JOg
 | ins {a C dx:Addr} {fs:Eq!} (e:WG!) (cl:cQ!) (ha:JLU)
  (hn:iV!) (htk:iY!)
  (hm:JLH):W9 K H Bs! T5!
def Juw{X:E!}(I:I!)(rx:If!)(ty:W9 Kx H x t)(e:jC! Kx t c=D! b)(h:∀tk,Q (Ar! b) { s with toks:=tk }) : QBN "isinstance" [u,c]:=by cases ty with | GJ=>show Kz? hr! W.kitx_none | bl y=>show Kz? (u=LQ! y) W.kitx_bool | int i=>show EM? VR! W.kitx_int | str y=>show EM? (∃t,u=Xq! y t) W.kitx_str | uH y=>show EM? (∃t,u=Value.float y t) W.kitx_float | @BK a xs ea =>show BM?;have#[_,_,n,_,h1]:=Xj! Tu!;show Po! W.kitx_list (El! h1) | @IV a ob xs ea =>show BM?;have#[_,_,_,n,_,h1]:=Xj! (.IV ob Tu!);show Po! W.kitx_list (El! h1) | @BI a xs ea =>show BM?;have#[_,_,_,p]:=Xj! PM!;have#[o,h1,h2,_]:=p;show Po! W.kitx_tuple #[o,h1,h2] | @dK a kvs ea =>show BM?;have#[_,_,vs,_,p]:=Xj! KO!;have#[o,es,ep,h1,h2,_]:=p;show Po! W.kitx_dict #[o,h1,h2.1] | @dT a kvs ea =>show BM?;have#[_,_,xs,_,o,es,ep,h1,h2,_]:=Xj! KU!;show Po! W.kitx_dict #[o,h1,h2.1] | @ins a C dx fs ea cl ha hn htk hm =>show BM?;have#[mA,O,_]:=Jau Dd! ea;have#[od,J,_]:=O.look;show Po! (W.kitx_own (cl.get _) cl.hd ha hn htk hm) J
open E
structure DU(k:Nat)(A:Around):B! where
 hd:Hf!
 dp:A.depth+3*k+5<recursionLimit
 un:A.units+16*k+200<cLine
def DU.mono(r:VA!)(h:j<=k):DU j A:=#[r.hd,JFl,JFm]
def DU.deeper(r:DU (k+1) A)(env:Env):QBe env :=#[r.hd,by have:=r.dp;change A.depth+1+3*k+5<_;lia,by have:=r.un;change A.units+3+16*k+200<_;lia]
def Jqt{A:Around}{C:Addr}{us:Y!}{kw:T6!}:(A.under (.builtin "type.__call__" fT!)).depth=A.depth+1:=by first|rfl|simp[Around.under,Code.weight,Code.isCreation,Code.isGuard,Code.isCaller,Code.frames,Code.isFrame,guardIds]
def Jqs{A:Around}{C:Addr}{us:Y!}{kw:T6!}:(A.under (.builtin "type.__call__" fT!)).units=A.units+1:=by first|rfl|simp[Around.under,Code.cUnits,Code.frames,Code.isFrame]
def DU.make(r:DU (k+1) A)(C:Addr)(us:Y!)(kw:T6!):DU k (A.under (GE! "type.__call__" fT!)) :=#[r.hd,by have:=r.dp;rw[Jqt];lia,by have:=r.un;rw[Jqs];lia]
def DU.depth(r:VA!):A.depth<recursionLimit:=JFl
def DU.units(r:VA!):JKd:=JFm
abbrev Ht:TA:=la! []
abbrev Dr(ta:TE)(tr:TA):TA:=QK! (tr σ H1 λxs H2=>Q (x::xs) H2)
open S
def Ad:PA X [] Ht:=λ_ _ _ _ H Q I h=>LD #[[],H,I,a!,h]
def Aa(ha:Nd!)(hr:uE!)(hs:I8!:=by rfl):PA X TM! (Dr te t):=by intro pos AB s σ H Q I h;rw[hs];show Bf? (spliced (Jzl::X9! AG! (Ny! es o0)));show Ip? IM;show Hg?;show FG (hr AG! AB s1 σ H1 _ I1 q1) λus s2 #[xs,H2,I2,r2,q2]=>#[x::xs,H2,I2,ML! r1 r2,q2]
inductive J78  (xs:C!) (H1:Hp) (Q:VK):B!
 | mk  (e0:JC!) (e1:JKD (d! H1 p PM!))
abbrev Jzv(t:TA):TE:=JZT J78
inductive J79  (xs:C!) (H1:Hp) (Q:VK):B!
 | mk  (e0:JC!) (e1:JKD (Zj! H1 xs))
abbrev J8n(t:TA):TE:=JZT J79
def Ce(h:uE!):PE X (.Tuple es x1 AG!) (Jzv t):=by intro AB s σ H Q I hq;show wpAny_Tuple_spliced (l6! h s H I hq JV5);show KQ?;show P3? (d2! H1 JL! xs);show#[z,us,r,#[_,Dy!,A!,_,A!]]
def Fw(h:uE!):PE X (.List es AG!) (J8n t):=by intro AB s σ H Q I hq;show wpAny_List_spliced (l6! h s H I hq JV5);show KQ?;show P3? (G0! H1 JL! xs);show#[z,us,0,r,Dy!]
open E
@[reducible]abbrev Sp:=C!->Hp->BC! VK XK
@[reducible]abbrev gm:=CL!->Hp->Shared->XK->NE
structure YO(P:Program)(w:World)(K:W.Frag)(mg:wS)(base:Heap)(A:Around)(outer:CL!)(s:Shared)(H:Hp):B! where
 frames:A.frames=D! EK!
 mod:Mod K mg Bf!
 bs:nf! base.get? JRk
 dE:base.objs.size<=s.heap.objs.size
 O_:y0! Bf! EK!
 ix:∀b∈TY EK!,BU!
 EK:PV P w H Tk
 bare:JKW
inductive CE(outer:CL!)(P:Program)(w:World)(H:Hp)(s:Shared)(Q:VK)(u:Value)(s':Shared):B!
 | mk v H' (_:ix!) (_:cS!) (_:Je8) (_:JbU) (_:Cm!) (_:T1!)
abbrev CR(CX:gm)(outer:CL!)(P:Program)(w:World)(H:Hp)(s:Shared)(Q:VK)(E:XK)(r:Result)(s':Shared):B! :=
 match r with
 | .ok (.ret u)=>CE EK! P w H s Q u s'
 | .ok _=>False
 | .error e=>JTt s'
structure FY(P:Program)(w:World)(K:W.Frag)(mg:wS)(base:Heap)(CX:gm)(k:Nat)(f:Addr)(fd:FuncData)(ps:j!)(sp:Sp):B! where
 len:fh!
 run:∀(A:Around)(outer:CL!)(s:Shared)(H:Hp)(args:Args)(us:Y!)(vs:C!)(Q:VK)(E:XK),JoF (PG! sp ->
  JwH A CX E)
def FY.mono{P:Program}{w:World}{K:W.Frag}{mg:wS}{base:Heap}{CX:gm}{j k:Nat}{f:Addr}{fd:FuncData}{ps:j!}{sp:Sp}(F:FY P w K mg Bf! CX j f fd ps sp)(h:j<=k) : QFf CX:=#[N6!,λA outer s H args us vs Q E hr=>N7! A EK! s H args us vs Q E (hr.mono h)]
def YO.make{P:Program}{w:World}{K:W.Frag}{mg:wS}{base:Heap}{A:Around}{outer:CL!}{s:Shared}{H:Hp}(e:QEZ)(C:Addr)(us:Y!)(kw:T6!) : YO P w K mg Bf! (QFN fT!) EK! s H:=#[by first|show e.frames|(simpa [Around.under,Code.envs,Code.isFrame,pushEnvs] using e.frames),e.mod,e.bs,e.dE,e.O_,e.ix,e.EK,e.bare]
open S
def Inv.tK{X:E!}(I:I!):YO EI! X.w Kx X.mg LS! X.A Cw! s H :=#[I.ok.frames,I.ok.mod,I.bs,JYn,I.stack,I.UY,Dd!,JG!]
def Inv.after(I:I!)(h:CE Cw! EI! X.w H s Q u s'):bg! u s':=by have#[v,H',os,bare,un,EK,r,q]:=h;have#[hh,g,d,t,os']:=s';obtain rfl:os'=s.os:=os;show#[v,H',I.call (h':=hh) (g':=g) (d':=d) (t':=t) (ch:=[]) un EK bare (λb z=>CT! z Ix),r,q]
open E
abbrev Pn(sp:Sp)(UX:C!)(E:XK)(t:TA):TE:=ey! (sp (vs++UX) H1 Q E)
inductive J5u(C:Addr)(m:Str)(sp:Sp)(UX:C!)(E:XK)(t:TA)(σ:St)(x:V)(H1:Hp)(Q:VK):B!
 | mk (a dx fs) (e0:BX!) (e1:XZ!) (e2:fC!) (e3:eV! (λvs H2=>sp (x::bp!) H2 Q E))
abbrev yI(C:Addr)(m:Str)(sp:Sp)(UX:C!)(E:XK)(ta:TE)(t:TA):TE:=QK! (J5u C m sp UX E t σ x H1 Q)
abbrev Jrt(C:Addr)(sp:Sp)(UX:C!)(E:XK)(t:TA):TE:=ey! (∀x dx,af! x->af! dx->dx≠x ->
 JkP (d! (d! H1 dx bn!) x tE!))
abbrev Binds(K:W.Frag)(fd:FuncData)(ps:j!)(ds:Y!):B! :=
 ∀(s:Shared)(us:Y!),Kv!->JRu->BindsTo s fd QH! (ps.zip (us++ds))
def Binds.all{K:W.Frag}{fd:FuncData}{ps:j!}(h:∀us:Y!,us.length=ps.length->bindArgs fd QH!=QE8):Xc!:=λs us _ hl=>by rw[AO] at hl ⊢;show .of_eq (h us hl)
abbrev Kl(CX:gm)(X:E!)(E:XK):B!:=∀(AB:Ch)(σ:St)(H:Hp)(s:Shared)(e:Value)(s':Shared),JZJ (CX Cw! H s E e s')
open S
def Jp7{X:E!}{AB:Ch}{σ:St}{H:Hp}{s:Shared}{Q:VK}{us:Y!}{vs:C!}(F:Nm!)(hr:Q9!)(hb:Nj!)(hd:Np!)(hx:Nq!)(I:I!)(r:QI!)(h:sp bp! H Q E):JiU:=by
 have r2:Ct! (vs++UX) (us++ds):=YM! hd;have hl:JRu:=AE! r2.length (N6! _ _ _ _ h)
 show XH (f2! (N7! X.A Cw! s H QH! p9! bp! Q E hr I.tK (hb s us De! hl) r2 h));cases r with | error e=>show hx AB σ H s e s' I hq | ok fl =>cases fl with | ret u=>show I.after hq | next=>show BL? | brk=>show BL? | cont=>show BL?
def Ca{X:E!}(F:Nm!)(hr:Q9!)(hg:E2!)(hm:CF! X.mg ac!)(hk:Jhh)(hb:Nj!)(hd:Np!)(hx:Nq!)(ha:LH!)(kP:Cp!:=by decide)(he:I8!:=by rfl)(UT:Ni!:=by rfl) : QDy (Pn sp UX E t):=Jeb hk (Jp7 F hr hb hd hx I1 r q)
def Ar{X:E!}{pl:tV!}(he:Nc!)(c:Nt!)(hm:gF!)(F:Nm!)(hr:Q9!)(hb:Nj!)(hd:Np!)(hx:Nq!)(ha:LH!)(rO:I8!:=by rfl)(UT:Ni!:=by rfl)(ht:wO! (do
  let ov <-UT!
  XC!
  let(f,first) <-Xk!
  w2!):=by rfl) :
 vH! (Jvi t):=by
 show N?
 show D1?
 show CG?
 subst ex
 show t?
 show En?
 show JgN
 show JwK (BQ!::us) (BQ!::vs) I2 JYr q2
def D4{X:E!}{pl:tV!}(he:Nc!)(c:Nt!)(hm:gF!)(F:Nm!)(hr:Q9!)(hb:Nj!)(hd:Np!)(hx:Nq!)(ht:QCP [] (do
  let ov <-UT!
  XC!
  let(f,first) <-Xk!
  QCQ (X9! AG! (Ny! [] o0))):=by rfl) :
 JKi [] (Jvi Ht):=by
 show N?
 show D1?
 show CG?
 subst ex
 show t?
 show En?
 show JCf (first:=Fl!) I1.PQ hm.kp (JwK Fl! Fl! I1 JKA q)
structure Mk(K:W.Frag)(C f:Addr):B! where
 makes:uP!
 init:JO0
 fn:fj!
 kp:JYp
def Jm3{X:E!}{AB:Ch}{σ:St}{H:Hp}{s:Shared}{Q:VK}{us:Y!}{vs:C!}(M:wM!)(F:Nm!)(hr:wH!)(hb:Nj!)(hd:Np!)(hx:Nq!)(I:I!)(r:QI!)(h:∀x dx,rs!->Bn! dx->dx≠x->JkP (V0! dx bn! x tE!)) : Kl! (KM! call C us):=by
 have hq:=h bq! UF (X7! (DX _)) (X7! (ZG _)) (BP (TN _));have I2:=Inv.AY (C:=C) I;have r2:Ct! (JKg::bp!) (QB6::p9!):=V2! A! YM! hd;have hl:Fq! (qZ!++ds)=ps.length:=by have e:=r2.length;rw[N6! _ _ _ _ hq] at e;show FB!
 show XH (Jx4 (f:=f) De! M.makes M.init (NT.mp M.fn) (JE (N7! _ Cw! _ _ #[qZ!,[]] (QB6::p9!) _ _ E (hr.make C us []) (I2.tK.make C us []) (hb _ (qZ!) I2.PQ hl) r2 hq) λr s' kL=>?_));cases r with | error e=>show hx AB σ _ _ e s' I2 kL | ok fl =>cases fl with | ret u =>have#[v,H',I3,rv,ev,q3]:=I2.after kL;subst ev;show#[rv,#[JKg,H',I3,A!,q3]] | next=>show GI? | brk=>show GI? | cont=>show GI?
def R7{X:E!}(M:wM!)(F:Nm!)(hr:wH!)(hg:E2!)(hm:JND)(hb:Nj!)(hd:Np!)(hx:Nq!)(ha:LH!)(kP:Cp!:=by decide)(he:I8!:=by rfl)(UT:Ni!:=by rfl) : QDy (Jrt C sp UX E t):=Jeb M.kp (Jm3 M F hr hb hd hx I1 r q)
def Jxf{X:E!}(M:wM!)(F:Nm!)(hr:wH!)(hg:E2!)(hm:JND)(hb:Nj!)(hd:Np!)(hx:Nq!)(kP:Cp!:=by decide):Bo! (ly! bU! []) (Jrt C sp UX E Ht):=by show N?;show SL?;show JCf De! M.kp (Jm3 (us:=[]) M F hr hb hd hx I a! h)
open E
open S
open E
structure An(N P:j!)(sc:Scope):B! where
 kind:Ex!:=by rfl
 co:sc.isCoroutine=false:=by rfl
 gen:sc.isGenerator=false:=by rfl
 nd:N.Nodup:=by show BB?
 pre:N.take P.length=P:=by rfl
 par:∀x∈P,JVT:=by show BB?
 wb:∀y∈sc.names,Bi!≠Ha!:=by show BB?
def Jjb{kindOf:eC!}{x:Str}:JuE R1!
 | [],_,_=>rfl
 | (n,v)::r,m,h=>by unfold bindL;rw[Jjb hk!];split;(·(have:x≠n:=JhK);simp[this]);.rfl
def Jjd{kindOf:eC!}{x:Str}:JuE R2!
 | [],_,_=>rfl
 | (n,v)::r,m,h=>by unfold bindC;rw[Jjd hk!];split;(.rfl);·(have:x≠n:=JhK);simp[this]
def Jjc{kindOf:eC!}{x:Str}{v:Value}:JuF (Zy! kindOf) R1!
 | [],_,_,_,_,h,_,_=>B7!
 | _::_,[],_,_,_,_,h,_=>B7!
 | p::P,w::vs,0,m,nd,h1,h2,hk=>by show BU?;subst h1;subst h2;show JG? R1!;unfold bindL;rw[JgO Jjb,AF hk];simp
 | p::P,w::vs,i+1,m,nd,h1,h2,hk=>by show SP? R1! x;unfold bindL;show Jjc (i:=i) (N8! nd).2 JDh JDi hk
def Jje{kindOf:eC!}{x:Str}{v:Value}:JuF (kindOf x≠D! .local) R2!
 | [],_,_,_,_,h,_,_=>B7!
 | _::_,[],_,_,_,_,h,_=>B7!
 | p::P,w::vs,0,m,nd,h1,h2,hk=>by show BU?;subst h1;subst h2;show JG? R2!;unfold bindC;rw[JgO Jjd,AD hk];simp
 | p::P,w::vs,i+1,m,nd,h1,h2,hk=>by show SP? R2! x;unfold bindC;show Jje (i:=i) (N8! nd).2 JDh JDi hk
abbrev start(N:j!)(vs:C!):St:=N9! AC!++YN! (N.length-vs.length) SB
abbrev M0(CX:gm)(P:Program)(w:World)(K:W.Frag)(mg:wS)(base:Heap)(N:j!)(qual:Str)(scope:Scope)(f:Addr)(cd:Value)(A:Around)(outer:CL!)(s:Shared)(H:Hp)(E:XK):Cx K where
 prog:=P
 w:=w
 mg:=mg
 base:=base
 A:=A.deeper (QFh)
 N:=N
 JM:=s
 VG:=H
 env:=QFh
 outer:=outer
 stack:=JAH
 ex:=[]
 calm:=true
 fn:=λ_=>true
 pn:=[]
 xe:=λe s'=>Gf! nb! (A.deeper QEA) (leaving QEA e) (λ_ s''=>JTt s'') (λe' s''=>CX EK! H s E e' s'') s'
def Jph{sc:Scope}{n:Nat}{x:Str}(h:QDu):∃c,Z4! (cellsFrom n sc.names []).lookup:=by have q:=W.cellsFrom_some sc.names n [] U0!;show LR.mp q
def Jio{CX:gm}{P:Program}{w:World}{K:W.Frag}{mg:wS}{base:Heap}{N ps:j!}{qual:Str}{scope:Scope}{f:Addr}{cd:Value}{A:Around}{outer:CL!}{s s1:Shared}{H:Hp}{E:XK}{us:Y!}{vs:C!}(S:iL!)(hd:Hf!)(e0:QEZ)(hl:JCV)(r:QI!)(x:InCallC s UF (JoE R1!) (cellsFrom bq! scope.names []) (JoE R2!) s1) : Inv (QA2 CX cd) [] (start N vs) H s1:=by
 have UT:ps.length<=N.length:=by show AU? S.pre;show I? CO;show this▸xz NZ
 have#[h1,tk,rfl,hk]:=x.done;have yn:∀b:G!,b∉(M0 CX P w K mg base N qual scope f cd A outer s H E).ex:=λb z=>JP2;show#[#[e0.mod,S.kind,A!,A!,Ay!,λy z c h1 h2=>?_,Io!,λy c _ h=>?_,λ_=>hd,Around.frames_deeper e0.frames,x! DQ!,JnC,e0.bs,e0.dE,λb _ _=>yn b,JnC,e0.O_,e0.ix],A!,e0.bare,Xx! hk,#[_,x.toInCall.ns,λi y v h1 h2 h3=>?_],λy c h=>#[_,x.cell y c h],e0.EK.fresh (ZG _),λy c h=>?_,F9! (Fd! (show p∈([]:Ch) from hp) Ix),e0.EK.kept hk,?_];.show name_of_addr x.apart (LG h1) (LG h2)
 .have hy:UO! jD! jD!:=hy;obtain hy|hy:=hy;(.show Jph hy);.show M? A! (S.wb _ (LG hy))
 .show A_ JlE
 ·(have hi:jE!:=by unfold start at h2;by_cases hi:jE!;(.show hi);.rw[JEV KL] at h2;rw[JC6] at h2;split at h2<;>cases h2);(have ha:vs[i]?=D! v:=by unfold start at h2;rw[JEV IK,ZH] at h2;cases e:vs[i]? with | none=>rw[e] at h2;cases h2 | some a=>rw[e] at h2;cases h2;rfl);have#[u,hu,rv]:=r.get ha;(have hp:ps[i]?=D! y:=by rw[<-S.pre,List.getElem?_take_of_lt (hl▸hi)];show h1);(have ndP:ps.Nodup:=rv! S.pre S.nd.sublist (xz List.take_sublist));show#[u,rv,?_];obtain k|k:=Fp! S.par y hp;(.show F? #[k,Jjc ndP hp hu k]);.have#[c,e]:=Jph (n:=KI!) k;show h? #[h! k,c,e,?_];have q:=x.cell y c e;rw[Jje ndP hp hu (by change jD! y≠_;rw[k];decide)] at q;show q
 .show e0.EK.fresh (A_ JlE)
 .unfold start;change _=N.length;rw[ZE,ZA,JX];lia
def J22{CX:gm}{P:Program}{w:World}{K:W.Frag}{mg:wS}{base:Heap}{k:Nat}{f:Addr}{name qual:Str}{params:Arguments}{body:QU!}{scope:Scope}{dV kV doc pm ER ct oc:Value}{an od:Iu!}{pK:hA!}{N ps:j!}{sp:Sp}(lk:JUw)(UG:h4!)(S:iL!)(len:fh!)(VI:∀(A:Around) (outer:CL!) (s:Shared) (H:Hp) (vs:C!) (Q:VK) (E:XK),QFD JNi (PG! sp) (T_ (M0 CX P w K mg Bf! N qual scope f ER A EK! s H E) body t)) : FY P w K mg Bf! CX (k+1) f zH! ps sp:=by
 show PN? (λA outer s H args us vs Q E hr e0 hb r fk=>?_);show QO?
 show Ra? (VI A EK! s H vs Q E JEC fk) JQi (Jio S hr.hd e0 hl r x) (λe s' hs=>hs) (∀{GF:St} {H':Hp} {v:V} {u:Value},JoG JQi)
open S
variable {X:Cx Kx}{x:Str}{p pos:Pos}{e:Expr}{es:List Expr}{t:TA}{id T:String}{r:List V->Hp->VK->Prop}
abbrev tCB(r:JVQ)(t:TA):TE:=ey! (r vs H1 Q)
def A8(hc:mu! id r)(hg:E2!)(hm:fU!)(hv:QCs JOE)(ha:LH!)(hn:bs!:=by decide)(kP:Cp!:=by decide)(he:I8!:=by rfl)(UT:Ni!:=by rfl):Jdp:=JvL PyProof.Rows.callWith_builtin1
def Cf(hc:IH X (Cu! T) r)(hg:E2!)(hm:fU!)(hv:QCs (Cu! T))(ha:LH!)(hn:bs!:=by decide)(kP:Cp!:=by decide)(he:I8!:=by rfl)(UT:Ni!:=by rfl):Jdp:=JvL JZ
open E
open S
variable [DecidableEq κ]
abbrev De(kvs:BG!)(k:κ):Uy!:=oh! kvs.find? ns!
abbrev putK(kvs:BG!)(k:κ)(v:V):BG! :=
 YG! (T! QEK) (GG! (QEd (Hg!,v))) (kvs++Ev! k)
abbrev E6(kvs:BG!)(k:κ):BG!:=kvs.filter λkv=>KB (Hg!≠k)
def Rn{p:κ×V}{r:BG!}{k:κ}(e:Tz!):De (p::r) k=D! AQ!:=JDT
def Ro{p:κ×V}{r:BG!}{k:κ}(e:¬Tz!):De (p::r) k=De r k:=JDT
def Rp(k:κ):∀kvs:BG!,zT! (De GE k).isSome
 | []=>rfl
 | p::r=>by rw[SD];show Ao?;(.simp only[Rn e,AM e,Bool.true_or,Option.isSome_some]);.rw[Ro e,AN e,Bool.false_or];show Rp k r
def Io(kvs:BG!)(k:κ)(v:V):(putK kvs k v).length<=kvs.length+1:=by
 unfold putK;split;.rw[ZA];show QE!
 .rw[ZE,BD,BZ];show Ay!
def K5{kvs:BG!}{k:κ}(v:V)(h:nF!=none):EL! GE k v=kvs++Ev! k:=by unfold putK;rw[Rp,h];show bM!
def UO.NX(r:UO o u):o.isSome=u.isSome:=by cases o with | none=>(cases u with | none=>rfl | some _=>show BN?) | some _=>cases u with | none=>show BN? | some _=>rfl
def UO.getD(r:UO o u)(rd:Ea! d d'):RelV (o.getD d) (u.getD d'):=by cases o with | none=>(cases u with | none=>show rd | some _=>show BN?) | some _=>cases u with | none=>show BN? | some _=>show r
def KV.val(r:D7!)(k:κ):UO (De GE k) (YO! vs k):=by unfold KV at r;induction r with | nil=>show YL! | @cons p q ps qs h t ih =>show CH?;show Ao?;(.have e':Vh!:=rl!;(have b:JfD YO!:=by simp[valueAt,CM,e']);rw[Rn e,b];show h2);.have e':¬Vh!:=o3!;(have b:YO! (q::qs) k=YO! qs k:=by simp[valueAt,CM,e']);rw[Ro e,b];show ih
def KV.any(r:D7!)(k:κ):QEK=vs.any ns!:=by unfold KV at r;induction r with | nil=>rfl | cons h t ih=>rw[SD,SD,ih,pi]
def KV.wA(r:D7!)(k:κ)(ry:Cl!) : KV (GG! JTp) (N9! (QEd (Hg!,u))):=by unfold KV at r ⊢;induction r with | nil=>show a? | @cons p q ps qs h t ih =>rw[AI,AI];show Os ?_ ih;show CH?;show Ao?;(.show LP?;show#[h1,ry]);.show Ik?;show#[h1,h2]
def KV.put{kvs:BG!}{vs:dZ!}(r:D7!)(k:κ){y:V}{u:Value}(ry:Cl!):KV JdD (stored vs k u):=by
 unfold putK stored;rw[r.any k];by_cases e:T! (vs.any ns!);.rw[AF e,K7!];show r.wA k ry
 .rw[AD e,AD e];show Paired.snoc r (Ao! ry)
def KV.drop{kvs:BG!}{vs:dZ!}(r:D7!)(k:κ):KV (E6 GE k) (without vs k):=by unfold KV at r ⊢;unfold E6 without;induction r with | nil=>show a? | @cons p q ps qs h t ih =>show CH?;rw[FN,FN];show Ao?;(·(have a:zn! y!:=rV!);(have b:zn! H!:=by simp[rl!]);rw[AD a,AD b];show ih);.have e':¬Vh!:=o3!;(have a:QD2 y!:=rV!);(have b:QD2 H!:=by simp[e']);rw[AF a,AF b];show A6? #[h1,h2]
def KV.length(r:D7!):i9!:=sQ!
def Jyz(kvs:BG!)(k:κ):(E6 GE k).length<=kvs.length:=BC _ _
open E
def So(r:JjZ):JSU u:=by cases k with | inl i=>show I6? VR! (Jog P w i t) | inr x=>show I6? f6! (Xl P w x t)
def Jim:∀{ks:Gm!} {us:Y!},cp! R3! kV (ItemsAre aV! ks us)
 | [],_,r=>by rw[GZ] at r;cases r;show a!
 | k::ks,_,r=>by rw[AI] at r;cases r with | cons h t=>show Os (So h) (Jim t)
@[reducible]abbrev KT(H:Hp):BC! Aq! I5!:=Mw! (λp q=>JqQ)
def KT.val(r:Ky!)(k:Gm!):UO (De GE k) ((GH! xs k).map B1!):=by induction r with | nil=>show YL! | @cons p q ps qs h t ih =>have#[h1,_,h2]:=h;show Ao?;(.have e':Vh!:=rl!;(have b:JfD GH!:=by simp[atKey,CM,e']);rw[Rn e,b];show h2);.have e':¬Vh!:=o3!;(have b:GH! (q::qs) k=GH! qs k:=by simp[atKey,CM,e']);rw[Ro e,b];show ih
def KT.wA(r:Ky!)(k:Gm!)(ry:Cl!) : KT H (GG! JTp) (Cv! (putAt k u)):=by induction r with | nil=>show a? | @cons p q ps qs h t ih =>rw[AI,AI];show Os ?_ ih;have#[h1,h2,h3]:=h;unfold putAt;show Ao?;(.show LP?;show#[h1,h2,ry]);.show Ik?;show#[h1,h2,h3]
def KT.put{H:Hp}{kvs:Aq!}{xs:I5!}(r:Ky!)(k:Gm!){b:Addr}{y:V}{u:Value}(hb:Qa!)(ry:Cl!) : KT H JdD (YP! xs k b u):=by
 have e:zT! (GH! xs k).isSome:=by rw[Rp,(r.val k).NX,Option.isSome_map]
 unfold putK storedH;rw[e];by_cases q:T! (GH! xs k).isSome;.rw[AF q,AF q];show r.wA k ry
 .rw[AD q,AD q];show Paired.snoc r #[A!,hb,ry]
def KT.keeps(r:Ky!)(ht:∀b ys,S3! Kr!->Z6! Kr!):KT H' GE xs :=Qa7 r λ_ _ z=>JnY
open S
def J2v(ok:DX!)(e:Rd H a u):JLV:=e.ok ok
def Tb(ok:DX!)(e:fc!):wu! :=FA! (E_ P w H h a KO!) (J2v ok e)
def Js3(ok:DX!)(e:NM!):wu!:=Kh! Tb ok e
def Nu(ok:DX!)(e:Ce! JIK):JHY ks a:=by have#[_,its,r,o,h1,h2,n,h3]:=JSc JIK ok;show#[o,CR!,n,h1,h2,h3,Tf! (Jim r)]
def Ta(ok:DX!)(e:vJ!):JkL:=by
 have#[z,y,xs,r,o,es,ep,h1,h2,h3,h4,h5]:=IF! (E_ P w H h a KU!) (J2v ok e);show#[z,y,xs,r,o,es,ep,h1,h2,h3,h4,Ie!,h5];have all:∀{l:Aq!} {m:I5!},KT H l m->∀x∈m,JHY BK! MY!:=by intro l m q;induction q with | nil=>intro x hx;show nomatch hx | @cons p q ps qs hq t ih =>intro x hx;obtain e|hx:=ZM hx;(.subst e;show Nu ok (AE! hq.1 hq.2.1));.show ih x hx
 show all r x hx
def yG(ok:DX!)(e:Qn!):JkL:=Kh! Ta ok e
open E
abbrev GW(H:Hp)(a:Addr)(y:V)(r:Uy!):B! :=
 (HN λkvs k=>fc!/\gM!/\r=nF!)\/M_ λkvs k b=>vJ!/\Vc!/\Qa!/\r=nF!
abbrev JN(H:Hp)(a:Addr)(y v:V)(H':Hp):B! :=
 (HN λkvs k=>NM!/\gM!/\YQ!/\H'=FY! H a .dK QCN) \/
 M_ λkvs k b=>Qn!/\Vc!/\Qa!/\YQ!/\H'=FY! H a .dT QCN
def GW.k{H:Hp}{a:Addr}{kvs:Bb!}{k:Key}(e:NM!):JLt (kV k):=h! #[GE,k,h! e,A!,A!]
def GW.t{H:Hp}{a b:Addr}{kvs:Aq!}{k:Gm!}(e:Qn!)(eb:Qa!):JLt Pd!:=x! #[GE,k,b,h! e,A!,eb,A!]
def JN.k{H:Hp}{a:Addr}{kvs:Bb!}{k:Key}{v:V}(e:NM!)(hl:YQ!):JrA (kV k) .dK:=h! #[GE,k,e,A!,hl,A!]
def JN.t{H:Hp}{a b:Addr}{kvs:Aq!}{k:Gm!}{v:V}(e:Qn!)(eb:Qa!)(hl:YQ!) : JrA Pd! .dT:=x! #[GE,k,b,e,A!,eb,hl,A!]
open S
def Inv.big(I:I!):sysModules<s.heap.objs.size:=by have h:mainGlobals<s.heap.objs.size:=(I.mod.glob.keeps I.bk).lt;show KY FB h
def Ji7(hu:LI!)(I:I!)(g:GW H a y (AC! v))(ry:Cl!)(h:∀w' s',nT!->Ea! v w'->Q w' s') : lz! (YR! Bs! u):=by
 show Br?;.subst ey;show Cn?;show Ly? JXY;show wpAny_getItem_of bf! dd.mapOf hw (h w' _ ae! US)
 .subst ey;show Cq?;show FX?;have#[w',hw,US]:=Cs! Qa3 v v o ((GH! xs k).map B1!) JXY;have#[p,hp,JJ]:=JO! hw;show wpAny_getItem_heap (HR hu) ps! dd hp ?_;rw[JJ];show h w' _ ae! US
def Qaf(hu:LI!)(I:I!)(g:XN!)(ry:Cl!)(h:JaP o.isSome) : JiM .In:=by
 show Br?;show P9? wpAny_in_of
 show Qo? wpAny_in_heap
def J19(hu:LI!)(I:I!)(g:XN!)(ry:Cl!)(h:JaP (!o.isSome)) : JiM YC!:=by
 show Br?;show P9? wpAny_notIn_of
 show Qo? wpAny_notIn_heap
def Tf(I:I!)(mu:zu (H a))(hs:JKC)(he:∃q,O5! Nw! q)(new:JOW (EY! a ob) ob) : QBG ob X5! :=I.write (x:=a) (e:=a) mu IK! (λb q hb z=>(hs.2 b hb).trans z) he new
def Jy0(z:kvs.length<=sizeLine)(hd:a5!)(rel:D7!)(dd:h'.DictOf aV! a vs) : t6! H' KO!:=#[z,hd,vs,rel,dd]
def Ji6{H':Hp}{Q:D9!}(hu:LI!)(I:I!)(g:JN H a y v H')(ry:Cl!)(rv:Ea! v r)(h:∀s',MZ!->Q () s') : tl! setItem u r:=by
 obtain⟨kvs,k,e,ey,l,eH⟩|⟨kvs,k,b,e,ey,eb,l,eH⟩:=g;.subst ey eH;show IW?;(show Fn? (vs.length<=sizeLine) jG!);show PY?;show wpAny_setItem_pairs (hsz:=hz) bf! dd JAJ;show KT?;show Je9 hl (rel.put k rv)
 .subst ey eH;show Cq?;show Ih?;(show Fn? JC! U1!);show PY?;show wpAny_setItem_heap (hsz:=hz) (HR hu) ps! dd JAJ;have#[q,es,ep,hq,h2,h3,h4,_,h5]:=r9;show QEt hs #[q,hq] #[hl,hd,_,(rel.put k eb rv).keeps qa!,q,es,ep,hq,h2,h3,h4,h5];rw[Ae (Xk ec e JzG)];show ec
open E
open S
def J7x(I:I!)(e:NM!)(ry:JjZ)(l:WX!)(hm:more=[]\/∃x,more=[x])(h:JdB JFf):JNb (BQ!::u::more):=by
 show IW?;show Ly? (DO! l (rel.val k));have hp:T! (keyPart u).isSome:=by cases k with | inl i=>show K9? VR! | inr x=>show K9? f6!
 have ha:argsOk "dict.pop" #[BQ!::u::more,[]]:=by obtain q|⟨x,q⟩:=hm;(.subst q;show JDQ _ _);.subst q;show P! PySem.F.args_dict_pop_3 _
 show R_ NN JP! JDR ha (meets_dict_pop_there Ub! a bf! CV! hm hp) #[vs,w',dd,JMI,hw,λh' r9 hs=>h w' _ ?_ US];show KT?;show Je9 (AA (Jyz GE k) z) (rel.drop k)
def J7y(I:I!)(e:fc!)(h:∀t s',nT!->Q (PP YS! t) s'):QBN "len" Fl!:=by show Cn?;show call_len_dict hd dd (by rw[<-jG!];rw[CZ] at z;show QDN z) ?_;rw[<-jG!];show P! h ae!
open E
abbrev J73(i:Expr):B!:=∀ov iv,YT! i IR ov iv=xp! [ov,iv] ov iv
def Jzy{prog:Program}{w:World}{A:Around}{E:NE}{s:Shared}{env:Env}{value slice:Expr}{pos:Pos}{T id:String}{Q:NE}(hl:JqV)(hs:J73 OA!)(h:JNt (VN! value) (JLJ (VN! OA!) (λi NO=>NO.TypeIs o T/\W5! (YR! o i) NO) FC)) : JYR YU! value OA!:=by
 show jH! (FF h (λo FC h₁=>FF h₁ (λi NO bg=>?_) YA!) YA!);have#[hT,bg]:=bg;unfold subscriptTail;show AY?;rw[getitemInPython_of_ne hT.not_modules];show ZR (jI! hT hl ?_);have fin:JLJ (YT! OA! IR o i) (λr UL=>W5! (letTemporaryGo value o r >>= λ_=>Hc! r) UL) NO:=U! (hs o i) (wpAny_operating (FF bg (λr UL s_=>ZR (wpAny_letTemporaryGo (ZS s_))) YA!))
 first | show ZS (ZR AH!) | show ZR (ap! AH!) | show ZR AH!
def Jpc(I:I!)(g:XN!):JeH:=by
 obtain⟨kvs,k,e,_,_⟩|⟨kvs,k,b,e,_,_,_⟩:=g;.have#[_,_,vs,_,dd]:=TU! Tb;show JP!
 .have#[_,_,xs,_,dd]:=TU! Ta;show JP!
inductive J5v  (x:V) (y:V) (H2:Hp) (Q:VK):B!
 | mk (a v) (e0:BX!) (e1:JOx) (e2:Q v H2)
abbrev yH(td ty:TE):TE:=QB3 (oA! (J5v  x y H2 Q))
inductive J8b  (x:V) (y:V) (H2:Hp) (Q:VK):B!
 | mk (a o) (e0:BX!) (e1:wE!) (e2:uB! o.isSome)
abbrev J8q(ty td:TE):TE:=JeX J8b
inductive Jzm  (x:V) (y:V) (H2:Hp) (Q:VK):B!
 | mk (a o) (e0:BX!) (e1:wE!) (e2:uB! (!o.isSome))
abbrev Jzx(ty td:TE):TE:=JeX Jzm
inductive J5w  (x:V) (y:V) (v:V) (H3:Hp) (σ:St) (D:Ends):B!
 | mk (a H4) (e0:BX!) (e1:JN H3 a y v H4) (e2:KR! H4)
abbrev J6l(td ty tv:TE):TS:=JMr (λv H1=>td σ H1 λx H2=>ty σ H2 λy H3=>J5w  x y v H3 σ D)
abbrev J6m(td ty tv:TE)(rd:Wm!):TS:=z2! td (oA! (HN λa v=>BX!/\JOx /\
 tv σ H2 λy2 H3=>rd v y2 H3 λz H4=>∃H5,JN H4 a y z H5/\KR! H5))
open S
def D1(hu:HQ!)(ho:I3!)(hi:XX!)(hs:J73 i:=by show λ_ _=>rfl):uL! o i (yH td ty):=by show N?;show Jzy PySem.F.slot_dict_getitem.lookup hs (Zk! ho Jgm);subst ex;show t?;show#[Jpc I2 g,Ji7 hu I2 g ry (jJ! #[v,H2,I3,US,q2])]
def Jb6(hu:HQ!)(hi:XX!)(ho:I3!):PC X .In i o (J8q ty td):=JrE Qaf (AI! ov.isSome)
def Fl(hu:HQ!)(hi:XX!)(ho:I3!):PC X YC! i o (Jzx ty td):=JrE J19 (AI! (!ov.isSome))
def Dw(hu:HQ!)(ho:I3!)(hi:XX!)(hv:gW!)(hs:JkW YU! i) : JTm (YU! o i pos') (J6l td ty tv):=by show V?;show wpAny_Assign_Subscript (Zk! hv (λr s1 #[v,H1,I1,rv,q1]=>QBI ho (λu s2 #[x,H2,I2,rx,q2]=>Jec hi (λiv s3 #[y,H3,I3,ry,a,H4,ex,g,q3]=>?_)))) hs;subst ex;show t?;show Ji6 hu I3 g ry rv λs4 I4=>#[σ,H4,I4,q3]
def R3(hu:HQ!)(ho:I3!)(hi:XX!)(hv:gW!)(hop:J2m X op rd)(ha:∀ov iv new,augStore i ov iv new=(do holding [new,ov,iv] (setItem ov iv new);release [new,ov,iv] [];Hc! .next)):JlV (YU! o i JIc) (J6m td ty tv rd):=by
 show V?
 show wpAny_AugAssign_SubscriptAny (Zk! ho Jgm) ha
 subst ex
 show t?
 show Ji7 hu I2 g ry (jJ! (FG (O3! hv s3 H2 I3 q2) λw2 s4 #[y2,H3,I4,ry2,q3]=>FG (hop AB s4 σ H3 v y2 w' w2 _ I4 US ry2 q3) ?_))
 rintro w3 s5 ⟨z,H4,I5,rz,H5,g5,q4⟩
 show Ji6 hu I5 g5 ry rz λs6 I6=>#[σ,H5,I6,q4]
open E
def Jy1(h:Heap)(hb:JDb):JsT HN! :=#[Ax!,JoO,[],a!,Heap.DictOf.new h]
def Jo8(h:Heap)(hb:JDb):JsT P2! :=#[Ax!,JoO,[],a!,_,Dc!,0,Dy!,uX!,A!,A!,EH]
abbrev J3l:TE:=zz! HN!
abbrev J3k:TE:=zz! P2!
open S
def Ha:JjB J3l:=Jgn (QBf I.laid UF (.dK []) qb! (Jy1 Tk I.big))
def G9:JjB J3k:=Jgn (Je0 qb!)
open E
@[reducible]abbrev VV:BC! (CQ! (V×V)) (CQ! (Value×Value)):=Mw! (λp q=>Ea! y! H!/\Ea! AQ! Rs)
structure M1(X:E!)(o:Expr)(m:Str)(apos:Pos)(e:Expr)(JB:Pos):B! where
 base:JRO
 xZ:Av! (iP! [e]
  && JU5 [e])
 line:d5!
 trees:JiK [e] [(IR,lP! e)]
structure M2(X:E!)(o:Expr)(m:Str)(apos:Pos)(e f:Expr)(JB:Pos):B! where
 base:JRO
 xZ:Av! (iP! [e,f]
  && JU5 [e,f])
 line:d5!
 trees:JiK [e,f] [Jzl,MD! (lP! f)]
abbrev IsD(H:Hp)(a:Addr):B!:=(∃kvs,fc!)\/∃kvs,vJ!
def Jlj(I:I!)(d:IsD H a) : JeH/\(∀b,Db! a=Dv!->JRx (bJ! EH!))/\a5!:=by
 obtain⟨kvs,e⟩|⟨kvs,e⟩:=d;.have#[_,hd,vs,_,dd]:=TU! Tb;show M5?;cases q;have#[ob,_,_,h1,h2,_]:=dd;show#[ob,h1,h2.2.1]
 .have#[_,hd,xs,_,dd]:=TU! Ta;show M5?;cases q;have#[ob,_,_,h1,h2,_]:=dd;show#[ob,h1,h2.2.1]
open S
def J5m(hu:LI!)(I:I!)(g:XN!)(ry:Cl!)(h:Jey AS!) : JNc [BQ!,u]:=by
 show Br?;.subst ey;show Cn?;show JF? (JlH hd) JXf;rw[l];show JKF
 .subst ey;show Cq?;show FX?;show JF? (meetsH_dict_get Jaf a b hd) JtU;rw[l];show JKF
def J5l(hu:LI!)(I:I!)(g:XN!)(ry:Cl!)(rd:Ea! d r)(h:Jey d) : JNc [BQ!,u,r]:=by
 show Br?;.subst ey;show Cn?;show Nc? meets_dict_get_default Ub! bf! JXf;rw[l];show JVG
 .subst ey;show Cq?;show FX?;show Nc? meetsH_dict_get_default Jaf b JtU;rw[l];show JVG
open E
abbrev J3o(td ty:TE):TE:=iG! (∃o,wE!/\Q (o.getD AS!) H2)
inductive J2l(ty tx:TE)(x:V)(H1:Hp)(σ:St)(Q:VK):B!
 | mk (a) (e0:BX!) (e1:IsD H1 a) (e2:oA! (tx σ H2 λz H3=>∃o,GW H3 a y o/\Q (o.getD z) H3))
abbrev J3n(td ty tx:TE):TE:=QB3 (J2l ty tx x H1 σ Q)
abbrev J3j(td ty:TE):TE:=iG! (M_ λkvs k v=>m7! KO!/\gM!/\WX!/\Q v (MG! a JFf))
open S
def Jxh(hu:HQ!)(ho:I3!)(he:Wd!)(m:M1 X o OB! apos e JB):QBb OB! [e] (J3o td ty):=by show N?;show Lu?;show CI?;subst ex;show t?;show Dm?;show DZ?;rw[R4!];show DP? (λiv s2 #[y,H2,I2,ry,ov,g,q2]=>Wb!);show J5m hu I2 g ry (jJ! #[_,H2,I3,US,q2])
def Jb4(hu:HQ!)(ho:I3!)(he:Wd!)(hf:Bo! f tx)(m:M2 X o OB! apos e f JB):QBb OB! [e,f] (J3n td ty tx):=by show N?;show Lu?;show CI?;subst ex;show t?;show Dm?;show DZ?;rw[R4!];show DP? (λiv s2 #[y,H2,I2,ry,q2] =>IM (FG (O3! hf s2 H2 I2 q2) λfv s3 #[z,H3,I3,rz,ov,g,q3]=>Wb!));show J5l hu I3 g ry rz λw' s4 I4 US=>#[_,H3,I4,US,q3]
def Jnk(ho:I3!)(he:Wd!)(m:JU1):JUM J3j:=by show N?;show Lt?;show CI?;subst ex;show t?;show Dm?;show DZ?;rw[R4!];show DP? (λiv s2 #[y,H2,I2,ry,kvs,k,v,ea,ey,l,q2]=>Wb!);subst ey;show J7x I2 ea ry l IK! JUk
open E
open S
variable {X:Cx Kx}{AB:List (Addr×Obj)}{σ:St}{H:Hp}{s:Shared}{a:Addr}{kvs:List (Key×V)}{A:Around}{E:Value->Shared->Prop}
open E
open S
variable {X:Cx Kx}{AB:List (Addr×Obj)}{σ:St}{H:Hp}{s:Shared}{a:Addr}{y:V}{u:Value}{A:Around}{E:Value->Shared->Prop}
open E
open E Lake.L2
open N Lake.HT
open PySem PyProof.Rows
abbrev lexLt:q!->q!->BH!
 | [],[]=>false
 | [],_::_=>true
 | _::_,[]=>false
 | x::xs,y::ys=>Be! (x=y) (GI! xs ys) rg!
def IX(x y:Int)(xs ys:q!):GI! (x::xs) (y::ys)=Be! (x=y) (GI! xs ys) rg!:=A!
def QN:A0! (GI! [] []):=A!
def Jcv(y:Int)(ys:q!):T! (GI! [] (y::ys)):=A!
def Jcw(x:Int)(xs:q!):A0! (GI! (x::xs) []):=A!
def Jyu(A:Around)(s:Shared)(a:Int)(t:Tok)(c:Int)(u:Tok):∃e,SeqAt.EqAt A s vC! wb! e/\(e=true↔a=c) :=#[(a==c),JDn a t c u,ci]
def Jwy(A:Around)(s:Shared)(a:Int)(t:Tok)(c:Int)(u:Tok)(prog:Program)(w:World)(E:NE)(Q:NE)(h:Q (Ar! (Rj! (a<c))) s) : Eh! (richCompare .Lt vC! wb!) :=(PyProof.Rows.lt_int h:JYS vC! wb!)
open S
open PySem.SeqAt
open PySem.AutoSeq1 (wpAny_loadPart')
open PySem.MeetsSeq PySem.MeetsSeq2 PySem.MeetsSeq3
def Jfz(l b:Addr)(items OG:Az!)(n n2:Nat)(dd dd2:Iu!)(sl tZ:hA!)(ns ms:q!)(hi:JJx)(hj:JSl) : Meets (Builtin.«tuple.__lt__» #[[IR!,Dv!],[]]) (λ_ R s=>mJ! l { cls:=a3!,dict:=dd,data:=.seq items n,slots:=sl }/\z! EH! b { cls:=a3!,dict:=dd2,data:=.seq OG n2,slots:=tZ } /\ JbW (GI! ns ms) s) :=JRa (by show Ev?;have#[hl,hb,h]:=h;have f2:=AutoSeq1.sub_tuple_tuple;(have z1:items.size=ns.length:=by rw[<-hi.length];simp);(have z2:OG.size=ms.length:=by rw[<-hj.length];simp);wp_walk using JDq hl,JDq hb,WK _ (λrest b s'=>b.1=none/\s'=RS!/\a9 λ(vs:List Value)(ws:List Value)(vA:List Int)(xG:List Int)=>rest=vs.zip ws /\ YW! vs vA/\YW! ws xG/\vA.length+OG.size=xG.length+items.size/\JbW (GI! vA xG) RS!) _;(case turn =>rintro⟨y,x⟩ rest b s' ⟨LK,rfl,vs,ws,vA,xG,hz,hvi,hwi,hlen,hR⟩;cases hvi with | nil=>show Gw? JDs | cons a t JJS =>cases hwi with | nil=>show Gw? JDt | cons c u JJR =>rw[jK!] at hz;injection hz with hyx JBl;injection hyx with hy hx;subst hy hx;rw[IX] at hR;simp only[BD] at hlen;have#[e,he,JBL]:=Jyu A.in1 RS! a t c u;show ZR (he Da! w _ _ ?_);cases e with | true =>rw[AF (JBL.mp A!)] at hR;wp_walk;show#[A!,A!,_,_,_,_,JBl,JJS,JJR,W!,hR] | false =>rw[AD (λq=>DL! JBL.mpr q AR)] at hR;have hri:=Jwy A.in1 RS! a t c u Da! w;wp_walk using hri;show L? (by simpa using hR));(case fin =>rintro⟨b1,b2⟩ s' ⟨LK,rfl,vs,ws,vA,xG,hz,hvi,hwi,hlen,hR⟩;simp only at LK;subst LK;(have hv:GI! vA xG=KB (items.size<OG.size):=by cases hvi with | nil =>(cases hwi with | nil =>simp only[BZ] at hlen;rw[QN];show Fk! AN v! | cons c u hw =>show Jr? Jcv AM) | cons a t hv =>cases hwi with | nil =>show Jr? Jcw AN | cons c u hw =>show Gw? jK!);rw[hv] at hR;wp_walk;show L? (by simpa [Builtin.Tuple.tupleCompareSizes] using hR));case h =>show#[A!,A!,items.toList,OG.toList,ns,ms,A!,hi,hj,W!,h])
open E
open S
variable {prog:Program}{w:World}{A:Around}{E:Value->Shared->Prop}{s:Shared}
def cb(hl:JSt l)(hb:IsTup Tk b OG)(hi:JJx)(hj:JSl)(hu:YX!)(h:JQd):JYS (UV l) Pd!:=by have#[#[cls,dd,data,sl],ho,hc,n,hd]:=id hl;have#[#[JpS,dd2,data2,tZ],zC,hc2,n2,hd2]:=id hb;simp only at hc hd hc2 hd2;subst hc hd hc2 hd2;show richCompare_meets_room (op:=.Lt) (El! ho) (El! zC) PySem.F.slot_tuple_lt PySem.F.entry_tuple_lt (xz PySem.F.args_tuple_lt_2) (Jfz l b items OG n n2 dd dd2 sl tZ ns ms hi hj) #[ho,zC,show LQ! (GI! ns ms)≠Value.notImplemented/\JQd from#[(λx=>nomatch x),h]] hu
abbrev KI(n d:Nat):CJ!->ut
 | none=>d
 | some v=>La! (v<0) (D2! (v+D1!)) (min v.toNat n)
def tT(n d k:Nat):KI n d (AC! Ac!)=min k n:=by change(if Ac!<0 then D2! (Ac!+D1!) else min (k:Int).toNat n)=min k n;rw[AD (YY! (AG _)),CL]
def J34(n d:Nat)(hd:d<=n)(o:CJ!):KI n d o<=n:=by cases o with | none=>show hd | some v =>change JjX<=n;by_cases hv:v<0;(.rw[AF hv];lia);.rw[AD hv];show NZ _ _
def Js9(v:Int)(n d:Nat):(Be! (v<0) JdV JYl)=Cf! (KI n d (AC! v)):=by
 change Tx! (v<0) JdV JYl=Cf! JjX;by_cases hv:v<0;.simp only[AF hv];lia
 .simp only[AD hv];lia
def Jrl(lo hi:CJ!)(n:Nat):JD2 lo hi 1 D1!=(dw!,JFd):=by
 have h1:¬(IX!<0):=W!
 unfold Builtin.Slice.sliceAdjust;simp only[h1,GB];show OC! ?_ ?_;.show N3? lo 0
 .show N3? hi n
def Jqd(i j:Nat):JVR AN! lc=j-i:=by
 unfold Builtin.Slice.slicePlaces;have h1:IX! > 0:=W!
 simp only[h1,IA,Int.ediv_one];split<;>lia
def Jbi(p:IsPart v o)(h:Q o s):Eh! (Builtin.Slice.slicePartIndex v):=by cases p with | none=>show JD3 h | int i t=>show slicePart_int h
def Tu{sl:Addr}{vl vu:Value}{lo hi:CJ!}{n:Nat}{Q:H7! (Int×Int×Nat)}(hs:ig!)(pl:yQ!)(pu:yR!)(h:Q (dw!,1,KI n n hi-KI n 0 lo) s):Eh! (Builtin.Slice.sliceApplied rZ! (Hc! D1!)):=by show KU?;unfold Builtin.Slice.sliceApplied Builtin.Slice.sliceFields;show R? ZR (DE vL hds (x:=vl) A! (JOM vu (JOM GM (ZS ?_))));show R? JD3 ?_;show R3? (Av! (IX!==0));show Cr?;show ZR (Jbi pl (ZR (Jbi pu (ZR (ZS ?_)))));show Bf? (match JD2 lo hi 1 D1! with|(lo,hi)=>Hc! (lo,IX!,Builtin.Slice.slicePlaces lo hi 1));rw[Jrl lo hi n];show H7? (dw!,IX!,JVR dw! JFd);rw[Jqd];show ZS h
def Jxa(xs:Az!)(i k:Nat):aJ! (AR! k).filterMap JV8=((xs.toList.drop i).take k).toArray:=by
 have e:(JV8)=JAN:=by funext m;have:D2! (AN!+BV!*1)=i+m:=(Nat.add_assoc _ _ _).symm;show K?
 rw[e];have:=pick_run xs i k;show I? JD4;have e2:((λx=>xs[x]?) ∘ λx=>i+x)=JAN:=rfl;show I? e2;show K?
def SK{t sl:Addr}{items:Az!}{vl vu:Value}{lo hi:CJ!}{Q:NE}(ht:JSt t)(hs:ig!)(pl:yQ!)(pu:yR!)(hw:¬(QAJ=0/\QAf=items.size))(h:oZ! (N3! (QBT JM! JqO)))(hsz:items.size<=sizeLine):JGQ YR! t rZ!:=by
 have dy:sizeOk (.seq JqO):=by change EJ! ((items.toList.drop (KI items.size 0 lo)).take (QBi)).toArray.size;rw[BO,CO,jL!,DZ];lia
 have hj:QAf<=items.size:=KM J34 B6! hi;show KU?;have hTs:Gx! YV! sl "slice":=#[os,vL,hcs];unfold getItem;try with_reducible show EO ?_
 first|show ZR (ZS ?_)|skip
 show ZR (wpAny_sequenceKey YZ! FB ?_);show ZR (D_ (E9!:=R5! "__getitem__") YZ! JD6 (DG JD6 YZ! entry_tuple_getitem ?_ (xz args_tuple_getitem)));show FP? (Pr! Builtin.Tuple.tupleItemsOf t);show AZ? tupleItemsOf_ ht;show AZ? Ya! hTs;rw[lG! AF];show ZR (Tu hs pl pu ?_);have pV:¬(JsZ):=by intro q;rw[HH,HH] at q;have q1:Cf! QAJ=0:=p7! q.1.1;have q2:QBi=items.size:=p7! Rs;show hw JM3
 show R3? JsZ;rw[AD pV,Jxa];first | show Hr? Je3 | show Hr? (C_ (ZR JQR) dy) | show LF? (C_ JQR dy) | show LF? Je3
open E
open E Lake.HT
open N Lake.L2
open PySem PySem.Spec PyProof.Rows
@[reducible]abbrev TO:=fv! JEz
abbrev PO(X:E!)(e:L1! Expr)(t:TO):B! :=
 zy! JEz (VX! (bb! ->
  QAU (evalPart e o0) (λu s'=>HN λo H'=>MZ!/\IsPart u o/\Q o H')))
abbrev Jzw:TO:=la! SB
abbrev J57(t:TE):TO:=JHc (∃i,M2!/\Q (AC! i) H1)
def intsAre_of{ns:q!}:∀{us:Y!},cp! Bj! A2! JJw:=by induction ns with | nil=>intro us r;rw[GZ] at r;cases r;show a! | cons n ns ih =>intro us r;rw[AI] at r;cases r with | cons r1 r2 =>have#[t,e]:=r1;subst e;show Os n t (ih r2)
open S
variable {X:Cx Kx}{e:Expr}{te:TE}{lo hi:Option Expr}{tl th:TO}{pos p2:Pos}
def Jkk:PO X SB Jzw:=by show N?;rw[JEB];show ZS #[SB,H,I,GM,h]
def Jkj(h:Nd!):PO X (AC! e) (J57 te):=by show Et?;rw[evalPart_some];show FG (gd!) ?_;show Hg?;have#[i,rfl,q]:=q1;have#[t,rfl]:=r1;show#[D! i,H1,I1,UK! i,q]
abbrev SlR(X:E!)(r:iF!):B! :=
 ∀(AB:Ch)(s:Shared)(σ:St)(H:Hp)(x:V)(v vl vu:Value)(lo hi:CJ!)(sl:Addr)(Q:VK),I!->Tw!->ig!->yQ!->yR!->r x lo hi H Q ->
  HN λT id=>JqV/\YV! v T/\Kl! (YR! v rZ!)
abbrev tSl(r:iF!)(te:TE)(tl th:TO):TE:=lJ! te (λx H1=>tl σ H1 λl H2=>th σ H2 λu H3=>r x l u H3 Q)
def Jb2{r:iF!}(hr:SlR X r)(he:Nd!)(hl:PO X lo tl)(hu:PO X hi th):uL! e JdI (tSl r te tl th):=by show N?;show jH! bT!;show CC?;show wpAny_Slice (FG (JzM hl) λvl s2 #[l,H2,I2,pl,q2]=>Jec hu (λvu s3 #[u,H3,I3,pu,q3]=>?_));rw[JEB];show Ab?;have I4:S1! H3 iR!:=I3.kept (t':=s3.toks) λb ob q=>ZT _ q;have#[T,id,hT,ht,hg]:=hr AB iR! σ H3 x v vl vu l u Yb! Q I4 r1 (Heap.IsSliceOf.new ..) pl pu q3;change JIU (JEF e JdI v (UV Yb!)) iR!;show tail_any (ops:=[FS Yb!,v]) ht hT hg (by with_unfolding_all rfl)
abbrev uU(xs:C!)(lo hi:CJ!):C!:=(xs.drop (JQ! Hd! 0 lo)).take (QE6-QE5)
def Xv(xs:C!)(lo hi:CJ!):(uU xs lo hi).length<=xs.length:=by unfold uU;rw[CO,jL!];lia
inductive J9h(K:W.Frag)(x:V)(lo:CJ!)(hi:CJ!)(H:Hp)(Q:VK):B!
 | mk a xs (_:BX!) (_:DU!) (_:¬(QE5=0/\QE6=xs.length)) (_:JKt QFs)
def Jwa{X:E!}:SlR X (J9h Kx):=by
 show Ht?;have#[a,xs,rfl,hx,hw,q]:=h;show J?;have#[its,r,ht,hz]:=JI! hx;have hlen:its.toArray.size=xs.length:=U! BO r.length.symm
 show#[E7!,_,PyProof.Rows.slot_tuple_getitem.lookup,YZ!,?_];show HT.SK ht hs pl pu (df! hw) ?_ (df! hz);rw[Df!];show QK? WP;show#[JQI,_,JUn,oc!]
open E
abbrev xO(n:Nat)(i:Int):r1!:=La! K0! (aL! (i<n) i.toNat) (PI! qS! (D2! (i+n)))
abbrev WZ{α:Go}(xs:R!)(i:Int):L1! α:=(xO Hd! i).bind λj=>xs[j]?
def J1s(h:xO n i=D! j):JMz n/\j<n/\qS!/\i<n:=by
 unfold xO at h;by_cases h0:K0!;.rw[AF h0] at h;by_cases h1:i<n;(.show Pe? (i.toNat=j) (seqIndex_of h0 h1) W! h1);.show As? (AD h1)
 .rw[AD h0] at h;by_cases h1:qS!;(.show Pe? (D2! (i+n)=j) (JW9 h1) h1 W!);.show As? (AD h1)
def Jlw(h:Xa!):∃j,JMz Hd!/\JHE/\OD!/\-bi Hd!<=i/\i7!:=by unfold WZ at h;cases e:xO Hd! i with | none=>show Ad? | some j =>show x?;have#[h1,h2,h3,h4]:=J1s e;show#[j,h1,h,h2,h3,h4]
def J2c{α:Go}{xs:R!}{j:Nat}{v:α}(h:JHE):WZ xs lc=D! v:=by
 have hj:OD!:=DH! h;have e:xO Hd! lc=D! j:=by unfold xO;rw[AF (AG _),AF (C0! hj)];simp
 unfold WZ;rw[e];show h
abbrev J2i(b:Expr):B!:=∀o i,YT! b IR o i=xp! [o,i] o i
abbrev IxR(X:E!)(r:R2):B! :=
 ∀(value slice:Expr)(AB:Ch)(s:Shared)(σ:St)(H:Hp)(x y:V)(v u:Value)(Q:VK),JQZ (f8! y ->
  YT! OA! IR v u=xp! [v,u] v u->Kl! (JEF value OA! v u))
abbrev MtR(X:E!)(id:String)(r:Nh!):B! :=
 JnE (f8! xs ->
  JiT)
open S
variable {X:Cx Kx}{a b:Expr}{ta tb:TE}{pos:Pos}
def As{r:R2}(hr:IxR X r)(ha:EC!)(hb:HU!)(hs:J2i b:=by show λ_ _=>rfl):uL! a b gg!:=JSA jH! (hr a b AB s2 σ H2 x y v u Q I2 rx ry q (xz hs))
inductive J8f(K:W.Frag)(x:V)(y:V)(H:Hp)(Q:VK):B!
 | mk (p xs i v) (e0:cw!) (e1:cx!) (e2:W9!) (e3:Xa!) (e4:WO!)
abbrev J9n(K:W.Frag):R2:=gE! J8f
inductive J8e(K:W.Frag)(x:V)(y:V)(H:Hp)(Q:VK):B!
 | mk (p xs i v) (e0:cw!) (e1:cx!) (e2:fa!) (e3:Xa!) (e4:WO!)
abbrev uV(K:W.Frag):R2:=gE! J8e
inductive J9l(x:V)(y:V)(H:Hp)(Q:VK):B!
 | mk z i c (_:Vb!) (_:cx!) (_:jN!) (_:WZ Hh! i=D! c) (_:U6! #[#[ZZZ,c]])
def Cd{X:E!}:wI! J9n:=by
 show CJ?;show Hu?;show J?;have#[t,rfl]:=ry;show HR?;show Gp?;have#[w,ew,US]:=r.get h2;have hl:=r.length;have hn:=Wf;show Lx?;by_cases h0:K0!;·(have hj:i.toNat=j:=by rw[seqIndex_of h0 h5] at h1;show ZO h1);show item_listR LV! h0 v! JYk AH! hs
 ·(have hj:D2! (i+bi JEO)=j:=by rw[JW9 h4] at h1;rw[BO,<-hl];show ZO h1);show JqN JEP JEQ (wpAny_getItem_list_neg (Q:=JWB) LV! ((NU.mp h0)) (by rw[BO]<;>show hl▸h4) v! JYk (Ao! AH!))
def Az{X:E!}:wI! uV:=by show CJ?;show Hu?;show J?;have#[t,rfl]:=ry;show HS?;show Gp?;have#[w,ew,US]:=r.get h2;have hl:=r.length;have hn:=Wf;show Lx?;show JqN pl.typeIs slot_tuple_getitem.lookup (getItem_tuple (j:=j) (Q:=JWB) pl v! v! (by rw[BO,<-hl];show h1) (by simpa using ew) (Ao! AH!))
def J46:IxR X J9l:=by
 show CJ?;have#[z,i,c,rfl,rfl,hz,he,q]:=h;show X?;show BT?;show Gp?;have hl:jO!:=rW!
 rw[hl] at h1 h4 h5;have hn:=Wf;show tail_any (XI s z t) slot_str_getitem.lookup (getItem_str (c:=c) (by have e1:oL! (i < -bi (2 ^ 63)):=Ek! AN;have e2:oL! (i ≥ 2 ^ 63):=Ek! AN;rw[e1,e2,Bool.or_false]) (by rw[h1];simpa using h2) (Md! JEZ)) hs
def Jj0(lo hi:CJ!)(n:Nat):(jP! lo hi SB n).1=Cf! (JQ! n 0 lo)/\(jP! lo hi SB n).2.1=Cf! (JQ! n n hi)/\(jP! lo hi SB n).2.2=1:=by
 show#[?_,?_,A!];.show Ps? lo
 .show Ps? hi
def Jf0(its:Y!)(lo hi:CJ!):slicePick CR! lo hi SB=((its.drop (JQ! Yc! 0 lo)).take (JQ! Yc! Yc! hi-JQ! Yc! 0 lo)).toArray:=by have#[h1,h2,h3]:=Jj0 lo hi JEO;unfold slicePick;rw[h1,h2,h3];simp only[sliceRange_one,pick_run,BO]<;>rfl
inductive J9i(K:W.Frag)(x:V)(lo:CJ!)(hi:CJ!)(H:Hp)(Q:VK):B!
 | mk a xs (_:BX!) (_:DT!) (_:az! (XV QFs))
def Jz2{X:E!}:SlR X (J9i Kx):=by show Ht?;have#[a,xs,rfl,hx,q]:=h;show J?;have#[its,r,ht,hz]:=GA! hx;have hlen:=r.length;show#[F7!,_,JEQ,ht.isList.typeIs,?_];show wpAny_getItem_list_slice ht.isList hs pl pu GM Ix ?_ (by rw[BO]<;>show hlen▸hz);rw[Jf0,<-Df!];show QK? XV;show#[JQI,_,0,JUn,Dy!]
abbrev Xr:V->BH!
 | .GJ=>true
 | .bl _=>true
 | .int _=>true
 | .str _=>true
 | _=>false
abbrev uI:V->V->BH!
 | .GJ,.GJ=>true
 | .bl a,.bl b=>a==b
 | .bl a,.int b=>(if a then 1 else 0)==b
 | .int a,.bl b=>a==(JWD)
 | .int a,.int b=>a==b
 | .str a,.str b=>a==b
 | _,_=>false
def J5f(ry:Cl!)(rx:Tw!)(fy:Ej! Xr y)(fx:ua!):JkT (uI y x):=by cases y with | GJ =>cases ry;(cases x with | GJ=>show J?;show SeqAt.EqAt.same _ | bl b=>show J?;show SeqAt.EqAt.none_bool b | int b=>show Cc? (SeqAt.EqAt.none_int b t) | str b=>show Cc? (SeqAt.EqAt.none_str b t) | _=>show R4?) | bl a =>cases ry;(cases x with | GJ=>show J?;show SeqAt.EqAt.bool_none a | bl b=>show J?;show SeqAt.EqAt.bool_bool a b | int b=>show Cc? (SeqAt.EqAt.bool_int a b t) | str b=>show Cc? (SeqAt.EqAt.bool_str a b t) | _=>show R4?) | int a =>show QJ? SeqAt.EqAt.int_none SeqAt.EqAt.int_bool JDn yv! | str a =>show QJ? SeqAt.EqAt.str_none SeqAt.EqAt.str_bool yw! SeqAt.EqAt.str_str | _=>show Fd! (show Ry! from fy) AR
abbrev rj(x:V)(u:Value):BH!:=match u with
 | .none=>uI AS! x
 | .bool b=>uI (AI! b) x
 | .int i _=>uI (PP i) x
 | .str z _=>uI (wp z) x
 | _=>false
def Jyt(r:Cl!)(f:Ej! Xr y):rj x u=uI y x:=by cases y with | GJ=>show BF? | bl b=>show BF? | int i=>show BE? | str z=>show BE? | _=>show Fd! (show Ry! from f) AR
def Jly:Jgp (us.any (rj x)=xs.any λy=>uI y x)
 | _,_,.nil,_=>rfl
 | y::xs,u::us,.cons r t,f=>by rw[JEW,HH] at f;rw[SD,SD,Jyt r f.1,Jly t f.2]
def Jcq(rx:Tw!)(fx:ua!):Jgp (∀u∈us,JkT (rj x u))
 | _,_,.nil,_=>JWE
 | y::xs,u::us,.cons r t,f=>λu' hu=>by rw[JEW,HH] at f;obtain rfl|hu:=ZM hu;(.rw[Jyt r f.1];show J5f r rx f.1 fx);.show Jcq rx fx t f.2 u' hu
abbrev OV(x:V)(xs:C!):BH!:=xs.any λy=>uI y x
inductive rIn(K:W.Frag)(neg:Bool)(x:V)(y:V)(H:Hp)(Q:VK):B!
 | mk p xs (_:y=Cc!) (_:(W9!\/fa!)) (_:ua!) (_:Ej! xs.all Xr) (_:Kt! (if neg then ! OV x xs else OV x xs))
def Jia{X:E!}:JLz (rIn Kx IR):=by
 show AP?;have#[p,xs,rfl,hq,fx,fs,q]:=h;cases ry;obtain hq|hq:=hq;.show HR?;show Qx? SeqAt.in_listAt LV!;show Pr?;show q
 .show HS?;show Qx? SeqAt.in_tupleAt pl;show Pr?;show q
inductive Jho(K:W.Frag)(xs:C!)(H:Hp)(Q:VK):B!
 | mk p ys (_:ep!) (_:(uv!\/Ia! p ys)) (_:Kf! jQ!)
def Cm{X:E!}:IH X (GE! "len") (Jho Kx):=by
 show b?;have#[p,ys,rfl,hq,q]:=h;show Ap?;show J?;have hn:=Wf;obtain hq|hq:=hq;.show Fo?;show CK?;show JrH Calls.call_len_list LV!
 .show HW?;show CK?;show JrH len_tuple pl
inductive Jhn(xs:C!)(H:Hp)(Q:VK):B!
 | mk z (_:tY!) (_:jN!) (_:Kf! EN!)
def Mc:JLI Jhn:=by show b?;have#[z,rfl,hz,q]:=h;show Bv?;have hn:=Wf;show len_str (NU.mpr (GK (EM! hz) (C0! hn))) (Md! (g! EN!))
def IH.or(h:IH X f r)(h':IH X f r'):IH X f (λxs H Q=>W8! r\/W8! r'):=by
 intro AB s σ H xs us Q I rs q;obtain q|q:=q;.show JwE h
 .show JwE h'
inductive Jfx(K:W.Frag)(xs:C!)(H:Hp)(Q:VK):B!
 | mk p ys (_:ep!) (_:((uv!/\iS! Kr!)\/(Ia! p ys/\sA! p)))
def F0{X:E!}:JdA Jfx:=by
 show b?;have#[p,ys,rfl,h]:=h;show Ap?;show J?;obtain⟨hq,q⟩|⟨hq,q⟩:=h;.show Fo?;show CK?;show Or?;show Jt?;show N4? Kr! (show Jh4 Kr! from#[hz,its,r',oc!]);show#[JDu,_,I2,A!,q _ oC!]
 .show HW?;show call_tuple_same pl (cT! Cc!)
abbrev tyV(K:W.Frag)(T:String)(x:V)(H:Hp):B!:=match x with
 | .str _=>T=N2!
 | .int _=>T=LW!
 | .ref p=>(T=F7!/\∃xs,W9!)\/(T=E7!/\∃o,do! Ru!/\Ve!/\i1!) \/
  (T=LZ!/\((∃kvs,Fi! KO!)\/∃kvs,Fi! KU!))\/(T="set"/\HN λS n=>Fi! (.set S n))
 | _=>False
def Jvq{X:E!}(I:I!)(r:Tw!)(ty:tyV Kx T x H) : YV! v T/\∀a,Mz!->JRx (ob! ob):=by cases x with | str z =>show Oe? (T=N2!) XI z | int i =>show Oe? (T=LW!) typeIs_int i | ref p =>cases r;obtain⟨rfl,xs,hq⟩|⟨rfl,o,hk,hc,hd⟩|⟨rfl,hk⟩|⟨rfl,S,n,hk⟩:=ty;(.have#[its,_,pl,_]:=GA! hq;show#[JEP,λa e=>?_];cases e;have#[o,n,e,c,hd,_]:=pl;show#[o,e,hd]);(.show#[#[o,De! p o hk,hc],λa e=>?_];cases e;show#[o,De! _ o hk,hd]);(·(have z:∃o,do! EH!/\o.ExactDict:=by obtain⟨kvs,hk⟩|⟨kvs,hk⟩:=hk;(.show Od?);.show Od?);have#[o,e,ex]:=z;show M4?;cases e2;show Gk?);.have#[o,_,_,_,e,ex,_]:=TY! p hk;show M4?;cases e2;show Gk? | _=>show False.elim ty
inductive J8c(K:W.Frag)(T:String)(r:Nh!)(x:V)(H1:Hp)(Q:VK):B!
 | mk  (e0:tyV K T x H1) (e1:r x [] H1 Q)
abbrev J8r(K:W.Frag)(T:String)(r:Nh!)(to:TE):TE:=JHd (J8c K T r x H1 Q)
inductive Qak(K:W.Frag)(T:String)(r:Nh!)(t:TA)(σ:St)(x:V)(H1:Hp)(Q:VK):B!
 | mk  (e0:tyV K T x H1) (e1:eV! (λxs H2=>r x xs H2 Q))
abbrev tBM(K:W.Frag)(T:String)(r:Nh!)(to:TE)(t:TA):TE:=JHd (Qak K T r t σ x H1 Q)
variable {o e:Expr}{es:List Expr}{to:TE}{t:TA}{name:Str}{apos JB:Pos}{T id:String}{r:V->List V->Hp->VK->Prop}
def Jb5{X:E!}(pa:PlainAttrs T)(slot:JmO)(pT:JuX)(hm:MtR X id r)(ho:Bo! o to)(o6:JRP:=by rfl)(oy:d5!:=by rfl):JNo [] (J8r Kx T r to):=by show N?;show wpAny_Call_method0_late o6 oy QBE;show Hv?;show N5?;show#[T,id,pa,slot,pT,h1,h2,HG A! (PySem.evalArgs_none (hm AB s1 σ H1 x [] v [] Q I1 r1 a! q1))]
def Hb{X:E!}(pa:PlainAttrs T)(slot:JmO)(pT:JuX)(hm:MtR X id r)(ho:Bo! o to)(ha:LH!)(o6:JRP:=by rfl)(JJZ:Av! (iP! TM! && KB ((e::es).length+([]:CQ! Keyword).length+(YG! ([]:CQ! Keyword).isEmpty 0 1)<30)):=by rfl)(oy:d5!:=by rfl)(hs:I8!:=by rfl)(cK:JKZ es:=by rfl) : JNo TM! (tBM Kx T r to t):=by show N?;show wpAny_Call_method_late o6 JJZ oy A! QBE;show Hv?;show N5?;show#[T,id,pa,slot,pT,h1,h2,?_];have hA:=ha JB AB s1 σ H1 _ I1 q1;rw[hs] at hA ⊢;show HG (by change DD! (false || ww (X9! JB (Ny! es o0)).any);rw[cK]<;>rfl) (HZ ?_);show FG hA λus s2 #[vs,H2,I2,r2,q2]=>hm AB s2 σ H2 x vs v us Q I2 r1 r2 q2
open E
abbrev sC(X:E!)(id:String)(r:Nh!):B! :=
 JnE (f8! xs ->
  JiT)
def Vals.one{x:V}{us:Y!}(h:Zv! [x]):JdP:=by cases h with|cons r t=>show Ch? t r
def Vals.two{x y:V}{us:Y!}(h:JGt):HN λu v=>us=[u,v]/\If!/\Ea! y v:=by cases h with | cons r t=>cases t with | cons q t=>show GE? t r q
def Vals.zero:∀{us:Y!},Zv! []->us=[]
 | _,.nil=>rfl
def Vals.dropLast(h:Ig!):Ct! xs.dropLast us.dropLast:=by induction h with | nil=>show a? | cons r t ih =>cases t with | nil=>show a? | cons q t'=>show A6? r
def Jq8(l:R!):l.eraseIdx (l.length-1)=l.dropLast:=M9!
open S
variable {X:Cx Kx}{AB:List (Addr×Obj)}{σ:St}{H:Hp}{s:Shared}{l b:Addr}{xs ys zs:List V}
def Inv.sk{its its':Y!}{n:Nat}{f:Az!->Az!}{t':Nat}(I:I!)(hH:Nk!)(e:JSy)(hf:f CR!=its'.toArray)(hv:Ct! ys its')(hz:JEh) : JYw l (Lb! l (R6! f)):=by have q:=PySem.IsL.update e f;rw[hf] at q;show I.write (x:=l) (e:=l) (o! hH A3!) IK! (λb' u hb hu=>(CQ Tk (R6! f) mn!).trans hu) #[_,q] ?_;show#[hz,its',_,hv,q]
def Inv.sr(I:I!)(hv:Ct! ys its)(hz:JEh) : JYw UF (yK! CR!) :=I.laid (qb!) B6! #[hz,its,0,hv,Dy!]
def Inv.fresh(I:I!):Bn! UF:=JHV
def Inv.YM(I:I!)(hH:Nk!):JaO (cX!/\JEl/\JSy):=by have#[z,its,n,r,e]:=TY! l hH;show#[z,its,n,r,r.length,e]
def Jn5(h:n<=sizeLine):A0! (Builtin.List.listTooLong n):=by unfold Builtin.List.listTooLong;show AN (CF.mpr h)
open E
open S
variable {X:Cx Kx}
inductive Jzn  (x:V) (vs:C!) (H:Hp) (Q:VK):B!
 | mk (l xs y) (e0:QS!) (e1:vs=[y]) (e2:Nk!) (e3:xs.length<sizeLine) (e4:Q AS! (EY! l (XV (xs++[y]))))
abbrev J0m:Nh!:=λx vs H Q=>Jzn  x vs H Q
def Gs:sC X JEn J0m:=by show AF?;have#[l,xs,y,rfl,rfl,hH,hz,q]:=h;show J?;show BV?;show Bw?;show PH F.slot_list_append Q1! F.entry_list_append (xz F.args_list_append_2) (PySem.list_append l CR! n u (oU! (hl▸(A_ hz)))) #[e,?_];show#[AS!,_,I.sk (its':=its++[u]) hH e Ix (YM! (Os ru a!)) ?_,A!,q];rw[ZE,GA];lia
inductive J0l(x:V)(vs:C!)(H:Hp)(Q:VK):B!
 | mk l b xs zs (_:QS!) (_:vs=[Dv!]) (_:Nk!) (_:JEk) (_:qU!) (_:JTg)
def Jul:sC X JEs J0l:=by
 show AF?;show Ew?;show J?;show BV?;cases ru;show Bw?;show KV?;show MX?
 show O9?
 show PH JEv Q1! JEw (xz JEx) (AutoSeq1.list_extend_list_list_0 l CR! n b UM.toArray n2 ox JcQ (nY! hsz)) #[e,e2,?_];show#[AS!,_,JfB,A!,q];rw[ZE];show hz
inductive J9j(x:V)(vs:C!)(H:Hp)(Q:VK):B!
 | mk l xs y (_:QS!) (_:vs=[]) (_:Nk!) (_:xs[xs.length-1]?=D! y) (_:Q y (EY! l (XV xs.dropLast)))
def J4q:sC X "list.pop" J9j:=by
 show AF?;have#[l,xs,y,rfl,rfl,hH,hy,q]:=h;show J?;have hus:=rv.zero;subst hus;show Bw?;have#[u,hu,ru]:=r.get hy;have xS:JR9 JAO:=by change JR9 (its.length-1);rw[<-JEy,<-hl];show hu
 show PH F.slot_list_pop Q1! F.entry_list_pop (F.args_list_pop_1 _) (MeetsSeq.list_pop_last l CR! n u xS (oU! (hl▸z))) #[e,?_];show#[y,_,I.sk (its':=its.dropLast) hH e ?_ r.dropLast ?_,ru,q];.change its.toArray.eraseIdxIfInBounds (JAO)=its.dropLast.toArray;rw[BO,List.eraseIdxIfInBounds_toArray,Jq8]
 .rw[List.length_dropLast];show AA (xz Nat.sub_le) z
inductive J9r(x:V)(y:V)(H:Hp)(Q:VK):B!
 | mk l b xs zs (_:QS!) (_:Vc!) (_:Nk!) (_:JEk) (_:qU!) (_:az! (XV (xs++zs)))
def Jqh:JNa J9r:=by
 show AP?;show Ew?;show J?;cases ry;show Bw?;show KV?;show PySem.P.add_list e e2 ?_ (QC! BO BO (AA (MT (BQ hl.symm) (BQ pY.symm)) hz));have ea:JE4=(its++UM).toArray:=ci
 rw[ea];show#[FS _,_,I.sr (t':=GB!) (YM! r2) (o! ZE hz),A!,q _ Yd!]
open E
open S
open E
open S
variable {X:Cx Kx}
open E
open E Lake.L2
open N Lake.Att
open PySem PySem.W PySem.Calls PyProof.Rows
def Jaa:∀(ns:q!)(vs:Y!),WellAll P h vs (Bj! WData.int)->RC!:=by intro ns;induction ns with | nil =>intro vs w;rw[GZ] at w;cases w;show a! | cons n ns ih =>intro vs w;rw[AI] at w;cases w with | cons a b =>cases a;show P! Os (ih _ b)
def Jtv{l:OpenLaw}{n:Nat}(hn:wR!){P:Params}{h:Heap}{args:CQ! WData}{vals:Y!}(tF:Ej! l.row.toRowW.claim.pre args)(hwl:WellAll P h vals args) : M_ λa vs ns=>vals=[Db! a]/\args=[WData.list (Bj! WData.int)]/\KS! pm!/\RC!/\Ye!:=by
 have hsh:T! (WShape.hasAll [] args [EO! PP]):=(pre_splitW tF).1;have hc:T! (l.pre.holds [] { args:=args }):=(pre_splitW tF).2;have#[d,r,rfl,h1,h2]:=hasAllW_cons hsh;obtain rfl:=hasAllW_nil h2;have#[xs,rfl,h3]:=hasW_list h1;have#[ns,rfl]:=items_int h3;have hlen:Ye!:=by unfold OpenLaw.pre at hc;(have h4:T! ((WTm.not (.lt (.lit (PP D1!)) (.len (.arg 0)))).holds [] { args:=[EO! (Bj! PP)] }):=by have h4:=(holds_andW hc).1;rw[hn] at h4;show h4);have h5:=condW_of h4 (w_not (w_lt w_lit (w_len_list (w_arg A!))));rw[ZA] at h5;show JFK cq!;(have q':D1!<Cf! ns.length:=W!);first | (rw[AM q'] at h5;show L4! CT! h5) | (simp at h5;lia)
 cases hwl with | cons w1 w2 =>cases w2;cases w1 with | list ho JJi=>show#[_,_,ns,A!,A!,ho,Jaa ns _ JJi,Df!]
def Jt3(l:OpenLaw)(args:CQ! WData):T! (l.row.toRowW.claim.post args (Ar! AC) args) :=postW_of (r:=l.row.toRowW) (X:=(true==true)) (show T! (WShape.has [] (Ar! AC) Ar!) by first|rfl|decide|simp[WShape.has,WShape.arms,WShape.armsAll]) (show(WTm.eq .res (.lit (Ar! AC))).value [] { args:=args,res:=D! (Ar! AC),after:=args }=D! (Ar! (true==true)) from w_eq_bool (w_res A!) w_lit) A!
def YU{l:OpenLaw}{n:Nat}{q:Program}{loose:j!}{XP:uK!}{YP:uJ!}{d:DefRec}(hn:wR!)(zH:qf!)(call:∀(w:World) (JM FC:Shared) (mg mb:wS) (fa:Addr) (o:Obj) (pm cd doc:Value) (a:Addr) (vs:Y!) (ns:q!),Ground q loose [] XP w JM mg mb OF!->YP w OF! -> PF! jR! fa->o.data=.func (docDef d.name d.params d.body d.scope pm cd doc)->FC.heap.CodeRec cd d.name->QDh d.name -> JX3->RC!->Ye!->JpY JAQ (model l.prog w)) : WalkO q loose XP YP l.row.toRowW d [] (λf vs=>PySem.call f vs):=by intro w JM FC mg mb G Y fa o pm cd doc dV kV ho hd UG hD hmg hg args vals as tF JpP hrd hwl hlo;obtain rfl:dV=GM:=Dflts.none hD zH;obtain rfl:kV=GM:=Dflts.noKw hD;have#[a,vs,ns,rfl,rfl,wI,hints,hlen]:=Jtv hn tF hwl;show enter_call (f2! (call w JM FC mg mb fa o pm cd doc a vs ns G Y ho (fd_plain hd) UG hmg wI hints Df! hg));have#[rfl,h2,h3,h4]:=hq;show#[h! #[eB!,eB!,[],A!,LY!,eB!,Jt3 l _,λ_=>#[JFU,λ_ hm=>(nomatch hm)]],h2,h3,h4]
open S
variable {prog:Program}{w:World}{A:Around}{E:Value->Shared->Prop}{s:Shared}{K:Frag}
abbrev ledger(h:Heap)(L d:Addr):Ch:=JkJ (a=d)
open E
open E Lake.Att
open N Lake.L2
open PySem PySem.Spec PyProof.Rows
def Jhr{vs:Y!}{ns:q!}(p:RC!):Ct! (Bj! A2!) vs:=by induction p with | nil=>show a? | cons n t _ ih=>show A6? Wh!
abbrev J2j(H:Hp):B!:=∀b,BU!\/HN λo xs=>S3! tj!
def Jx9{P:Program}{w:World}{K:W.Frag}{mg mb:wS}{CX:gm}{k:Nat}{fa a:Addr}{fd:FuncData}{x:Str}{sp:Sp}{FC:Shared}{vs:Y!}{ns:q!}(KX:K.In OF!)(hns:mR! jS!)(hb:jS! builtinsNs mb)(hbb:JuA)(JJY:FC.heap.NoLimit)(hg:JAQ)(ha:JX3)(hi:RC!)(hl:JAq)(hr:DU k R7!)(F:JlA CX k [x] sp)(JBo:JTy)(fk:∀H:Hp,J2j H->wa!->sp Fl! H (JAR) YE!)(hCX:∀H e s',CX [] H FC y8! e s'->Lc!) : YI! nb! R7! (KM! .call fa QAs) (λr s'=>r=.ok (.ret (Ar! AC))/\OldK OF! Hb!/\s'.os=FC.os/\cS!) FC:=by
 have rv:=Jhr hi;have JJI:=hi.length;have core:∀H:Hp,J2j H->wa!->PV P w H OF!->(∀b,H b≠none->b=a)->JpY (H a≠none->EX! Ru! a) nb!:=by intro H hO hS EK hA hK;have eQ:JFZ (H6! jR!->BU!->H6! (sI FC.heap H).get?):=λe n=>Jyh e n;(have yn:∀{b:Addr} {o:Obj} {es:EB!} {ep:Nat},H6! jR!->P6!->BU!:=λ{b o es ep} e d=>by cases q:H b with | none=>rfl | some u =>show MU?;subst e';rw[ha] at e;cases e;have d':Data.seq OE! _=Data.dict es ep:=d;cases d');have nsK:∀{b:Addr} {m:wS},jS! b m->(sI FC.heap H).Ns b m:=λ{b m} #[o,es,ep,e,d,r]=>#[o,es,ep,eQ e (yn e d),d,r];have hKb:K.In (sI OF! H):=Bg! (eQ (IH! KX) (by cases q:H b with | none=>rfl | some u =>show MU?;subst e';rw[tK! hK q] at e;cases e));have hM:Mod K mg QFL:=#[hKb,nsK hns,#[mb,nsK hb,hbb],let#[mc,h1,h2]:=JJY;#[mc,nsK h1,h2]];have e0:YO P w K mg QFL R7! [] FC H:=#[A!,hM,Bg! (J1b e),BQ (xz Juy),A3!,SZ (Fd! (show b∈([]:S!) from hb) Ix),EK,.of_eq hg];show JE ((F _ hKb (nsK hns)).run R7! [] FC H QAs Fl! Fl! _ _ hr e0 (JBo FC Bs!) JKA (fk H hO hS)) λr s' h=>?_;cases r with | error e=>show(hCX H e s' h).elim | ok fl =>cases fl with | next=>show C6? | brk=>show C6? | cont=>show C6? | ret u =>have#[v,H',os,bare,un,JJV,r',q]:=h;have q':v=oj!:=q;subst q';obtain rfl:u=LQ! AC:=r';show#[A!,OldK.of_keep In!,os,bare];cases q:H b with | none=>show un.keep b o e q (by intro z;show JP2) Ix | some u =>obtain z|⟨ob,xs,z⟩:=hO b;(.rw[q] at z;cases z);.have z2:=un.QA b ob _ z;have#[e1,_]:=EK b _ z;have#[e2,_]:=JJV b _ z2;rw[e] at e1;cases e1;show e2
 cases hk:Ru! a with | some o =>have e:=KX a o hk;rw[ha] at e;cases e;show core (R0!) (λ_=>NI!) (Eg! #[_,OE!,_,hk,A!,A!,A!,O7! BO JJI hl,by simpa using rv]) (λb u z=>by have z':(SB:r0!)=D! u:=z;cases z') (λb z=>CT! A! z) λz=>CT! A! z | none =>show core (λb=>PI! (b=a) (.IV pm! (r3! Bj!))) (λb=>?_) (ow! #[pm!,BY!]) (λb u z=>?_) (λb z=>?_) λ_=>hk;(.show Bu?;(.show G? #[_,_,AF hb]);.show l! (AD hb));(.show Bu?;(.have z':=(AF hb).symm.trans z;cases z';subst hb;show#[ha,Fj! hl,vs,_,rv,ha]);.have z':=(AD hb).symm.trans z;cases z');.show Bu?;(.show hb);.show DL! AD hb z
@[reducible]abbrev KOf{K:W.Frag}{h:Heap}(_:V1!):W.Frag:=K
def tR{l:W.OpenLaw}{n k:Nat}{q:Program}{loose:j!}{XP:uK!}{YP:uJ!}{d:DefRec}{K:JVP}{CX:World->gm}{sp:World->Sp}{x:Str}(hn:wR!)(uF:n<=sizeLine)(zH:qf!)(hr:DU k R7!)(hY:JnF)(F:JnG (jT! ((JTy) /\ JqK (CX w) k [x] (sp w))))(fk:∀(w:World) (H:Hp) (a:Addr) (ns:q!),Ye!->J2j H->DW (K Yf!) H a QB8->sp w Fl! H (JAR) YE!)(hCX:∀(w:World) (H:Hp) (s:Shared) (e:Value) (s':Shared),CX w [] H s y8! e s'->Lc!) : JVB:=by show Att.YU hn zH λw JM FC mg mb fa o pm cd doc a vs ns G Y ho hd UG hmg wI hints hlen hg=>?_;have KX:=hY w _ Y;have#[fd,hb,hF]:=F w mg fa _ KX G.T.g hmg;show Jx9 KX G.T.g G.T.b G.T.builtins G.T.nolimit hg wI hints (AA Df! uF) hr hF hb (λH hO hS=>fk w H a ns Df! hO hS) λH e s'=>hCX w H FC e s'
abbrev inClass(s:Stmt)(j:Nat):J!:=match s with
 | .ClassDef _ _ _ body _ _ _ _ _ _ _=>body.getD j (.Pass hw!)
 | _=>.Pass hw!
abbrev Tc(s:Stmt):Arguments:=match s with
 | .FunctionDef _ a _ _ _ _ _ _ _ _=>a
 | _=>{ posonlyargs:=[],args:=[],vararg:=none,kwonlyargs:=[],kw_defaults:=[],kwarg:=none,defaults:=[] }
abbrev Kb(s:Stmt):QU!:=match s with
 | .FunctionDef _ _ b _ _ _ _ _ _ _=>b
 | _=>[]
abbrev Ak(s:Stmt):Scope:=match s with
 | .FunctionDef _ _ _ _ _ _ sc _ _ _=>sc
 | _=>{ kind:=.function,names:=[],isGenerator:=false,isCoroutine:=false }
@[reducible]abbrev YC:gm:=λ_ _ _ _ _ _=>False
@[reducible]abbrev E0:XK:=YE!
def A9:Kl YC X E0:=λ_ _ _ _ _ _ _ h=>h.elim
structure HM(K:W.Frag)(x qual:Str)(st:Stmt)(f:Addr)(fd:FuncData):B! where
 ex:yT λ(oc:Value)(od:Option Addr)(kV:Value)(doc:Value)(pm:Value)(an:Option Addr)(ER:Value)=>HN λ(ct:Value)(pK:Array (Option Value)) =>
  fd=JtH/\z! Ru! f #[oc,od,.func fd,pK]/\h4!
 kp:JNT
open S
variable {P:Program}{w:World}{K:W.Frag}{mg:Str->Option Value}{base:Heap}
def HM.ok{x qual:Str}{st:Stmt}{f:Addr}{fd:FuncData}{N ps:j!}{k:Nat}{sp:Sp}(F:RK!)(S:hB!)(len:fh!)(VI:Jgq (T_ (JAS YC) (Kb st) t)):JQ0:=by show Hx?;show J22 lk UG S len (JFk ?_);have#[t,h,q]:=JxG;show#[t,h.t_,q]
abbrev Bd(P:Program)(w:World)(K:W.Frag)(mg:wS)(base:Heap)(CX:gm)(b:Bool)(N ps:j!)(qual:Str)(st:Stmt)(f:Addr)(k:Nat)(vs:C!)(H:Hp)(Q:VK)(E:XK):B! :=
 JCV/\∀(ER:Value)(A:Around)(outer:CL!)(s:Shared),QBe (envOfC qual (Ak st) UF f ER) ->
  ∃t,T_ (bif b then JAS CX else QEz CX) (Kb st) t/\t { nx:=λ_ H'=>KQ!,rt:=Q } (start N vs) H
def HM.KG{x qual:Str}{st:Stmt}{f:Addr}{fd:FuncData}{N ps:j!}{k:Nat}{sp:Sp}(F:RK!)(S:hB!)(h:JxQ YC AC):JQ0 :=F.ok S (JAT) JuH
def HM.binds{x qual:Str}{st:Stmt}{f:Addr}{fd:FuncData}{ps:j!}(F:RK!)(h:∀(kV doc pm:Value) (an:Iu!) (ER ct:Value) (us:Y!),JRi JtH):Xc!:=JDe (.all (h kV doc pm an ER ct))
open E
def Ds(hr:VA!):LI!:=AE (LH (Au!:1<=64) _) hr.units
def C5(h:n<=1000):Yg!:=We!
open S
variable {X:Cx Kx}
def pv(i:Nat)(hN:LD!:=by rfl)(hv:vF!:=by first|show R8! A!|show OG! (R8! A!)|show OG! (OG! A!))(hd:Cp!:=by decide)(UG:JHf:=by decide):Jdm:=J4h hN hv hd UG
inductive Jrp(xs:C!)(H:Hp)(Q:VK):B!
 | mk a kvs (_:xs=[MQ!]) (_:NM!) (_:Kf! YS!)
def Wx:JLI Jrp:=by show b?;have#[a,kvs,rfl,ha,q]:=h;have#[u,rfl,ru]:=vals1 r;cases ru;show J7y I (DC! ha) λt s' I'=>#[g! YS!,H,I',Wh!,q]
open E
def Cq{A B:B!}(h:B):if Ry! then A else B:=rd! (AD AR)
def C4{A B:B!}(h:A):if true=true then A else B:=rd! BY!
def Gf{c A B:B!}[Decidable c](h1:c->A)(h2:¬c->B):if c then A else B:=by
 by_cases h:c;.rw[Bz!];show h1 h
 .rw[B9!];show h2 h
abbrev BV(H H':Hp):B!:=E6! (Ee!->Mb!)
def BV.refl(H:Hp):Ds! H:=λ_ _ h=>h
def BV.seq{K:W.Frag}{H H':Hp}{a:Addr}{xs:C!}(e:TD)(h:DT!):ub! a:=by
 obtain (h|⟨o,h⟩)|h:=h;show An? (wP e h)
 show Fk? (P! e h)
 show BC?
open S
variable {κ:Type}[DecidableEq κ]
def Il:∀{l:CQ! κ} {k:κ},R9!->¬k∈l->M0! (l++[k])
 | [],k,_,_=>ci
 | a::r,k,h,hk=>by show k? (N8! h);change M0! (a::(r++[k]));show OH! #[Un!,Il h2 λm=>hk (Rz! (OG! m))];obtain q|q:=ZI m;(.show h1 q);.show hk (Rz! (R8! (Fk! ZK q)))
def Ju9{p:κ×V}{r:BG!}{k:κ}(e:Tz!):E6 (p::r) k=E6 r k:=JYg (AD (by simp[e]))
def Ji5{p:κ×V}{r:BG!}{k:κ}(e:¬Tz!):E6 (p::r) k=p::E6 r k:=JYg (AF (by simp[e]))
def Jei:∀{kvs:BG!} {k:κ},¬k∈ww GG!->E6 GE k=kvs
 | [],_,_=>rfl
 | p::r,k,h=>by (have h':¬k∈ww r.map:=λm=>by have#[q,hq,e]:=Ey!;show ab! h #[q,Rz! (OG! hq),e]);rw[Ji5 λe=>ab! h #[p,Rz! (R8! A!),e],Jei h']
open E
open E Lake.L2
set_option maxHeartbeats 4000000
open N Lake.FX
open PySem PySem.Spec PyProof.Rows L2
inductive HC(K:W.Frag)(H:Hp):u4!
 | GJ:Pe! AS! GM
 | bl (b:Bool):Gp! HC (AI! b) Ar! b
 | int (i:Int):Pe! V8! V8!
 | str (x:Str):Gp! HC en! wp x
 | BI {a:Addr} {xs:C!} {ds:Ir!}:DU!->JFs->(∀(j:Nat)(x:V)(d:PyData),JdT (Pe! x d))->Jep
inductive Rep(K:W.Frag)(H:Hp):u4!
 | one {x:V} {d:PyData}:Pe! x d->yZ!
 | BK {a:Addr} {xs:C!} {ds:Ir!}:DT!->wd!->Gp! Rep Bs! EO! ds
def A6{xs:R!}{ys:B8!}(p:HS!):∀(j:Nat)(x:α)(y:β),JdU:=by induction p with | nil=>intro j x y h;simp at h | cons r _ ih =>intro j x y h h';cases j with | zero=>cases h;cases h';show r | succ j=>show ih j x y h h'
def Fm{xs:R!}{ys:B8!}(hl:JFz)(h:∀(j:Nat) (x:α) (y:β),JdU):HS!:=by induction xs generalizing ys with | nil=>(cases ys with|nil=>show a?|cons=>cases hl) | cons x xs ih=>cases ys with | nil=>cases hl | cons y ys=>show Os (h 0 x y A! A!) (ih (Yh! hl) λj=>h (j+1))
def HC.tupP{K:W.Frag}{H:Hp}{a:Addr}{xs:C!}{ds:Ir!}(h:DU!)(r:wd!):Jep :=WP h (HZ! r) λj x d e1 e2=>A6 r j x d e1 e2
structure DM(H H':Hp):B! where
 BI:∀a xs,dv!->WI! PM!
 IV:∀a o u,Ce! ay!->WI! ay!
def DM.refl(H:Hp):DM H H:=#[λ_ _ e=>e,λ_ _ _ e=>e]
def DM.trans(a:DM H H1)(b:DM H1 H2):DM H H2:=#[λc xs e=>b.BI c xs (a.BI c xs e),λc o u e=>b.IV c o u (a.IV c o u e)]
def JS(s:TD):Ae!:=#[SA! (s a _ e),λa o u e=>s a _ e]
def DM.sq{K:W.Frag}{H H':Hp}(k:Ae!){a:Addr}{xs:C!}(h:DU!):W3! a:=by
 show Fg?;show An? (k.BI a xs e)
 show Fk? (k.IV a o _ e)
 show AK? z
def X_(h:∀o',Fi! o'->(∀xs,o'≠WP xs)/\∀b u,o'≠.IV b u):DM H sb! :=#[SA! (JkU ((h _ e).1 xs A!)),λa b u e=>JkU ((h _ e).2 b u A!)]
def HC.keep{K:W.Frag}{H H':Hp}(k:Ae!){v:V}{d:PyData}(r:HC K H v d):Ik! HC d:=by induction r with | GJ=>show AS! | bl b=>show AI! b | int i=>show PP i | str x=>show wp x | BI h hl _ ih=>show WP (Hi! h) hl JuI
open S
def Xh{xs:C!}{us:Y!}{ds:Ir!}(p:Ig!)(hl:JFs)(f:∀(j:Nat) (x:V) (d:PyData),JdT (JAW If! h)):∃as,ReadsAll h us ds as:=by induction p generalizing ds with | nil=>(cases ds with|nil=>show#[[],a!]|cons=>cases hl) | cons r t ih=>cases ds with | nil=>cases hl | cons d ds =>have#[as,r1]:=f 0 _ d A! A! _ r;have#[bs,r2]:=ih (Yh! hl) λj=>f (j+1);show#[as++bs,ML! r1 r2]
def HC.reads{X:E!}(I:I!)(r:HC Kx H v d):JAW Cm! Tk:=by induction r with | GJ=>intro u e;cases e;show#[_,GM] | bl b=>intro u e;cases e;show#[_,Ar! b] | int i=>show I8? (UK! i) | str x=>show I8? (wp x t) | BI h hl _ ih =>intro u e;cases e;have#[its,rv,#[o,ho,hc,n,hd],_]:=JI! h;have#[as,ra]:=Xh rv hl JuI;show#[as,JR! ho hc hd JDj]
def Rep.reads{X:E!}(I:I!)(r:Rep Kx H v d)(e:Cm!):∃as,Reads Tk u d as:=by cases r with | one r=>show r.reads I u e | BK h p =>cases e;have#[its,rv,pl,_]:=GA! h;have#[o,ho,hc,n,hd]:=pl.isList;have#[as,ra]:=Xh rv (HZ! p) λj x d e1 e2=>(A6 p j x d e1 e2).reads I;show#[_,EO! ho hc hd JDj]
abbrev df(d:PyData):B!:=QBZ 40
inductive J8g(K:W.Frag)(x:V)(y:V)(H:Hp)(Q:VK):B!
 | mk (d e) (e0:yZ!) (e1:Rep K H y e) (e2:df d) (e3:df e) (e4:Kt! (Yi! d e))
abbrev J9p(K:W.Frag):R2:=gE! J8g
inductive J8d(K:W.Frag)(x:V)(y:V)(H:Hp)(Q:VK):B!
 | mk (d e) (e0:yZ!) (e1:Rep K H y e) (e2:df d) (e3:df e) (e4:Kt! (! Yi! d e))
abbrev J9k(K:W.Frag):R2:=gE! J8d
def Jkp{X:E!}(hu:Wg!):JTG J9p:=JvE PySem.SeqAt.compareEq_reads
def Jqg{X:E!}(hu:Wg!):UA X (i0! .NotEq) (J9k Kx):=JvE PySem.SeqAt.compareNe_reads
def Jo6(h:df d):T! (Yi! d d):=PySem.SeqAt.eqv_refl d pi
def qj(r:VA!):JKd:=r.units
open E
abbrev Mf(p d:Addr):HO:=.ext λh=>h.IsValuesView p d
open S
def J1p{kvs:BG!}{vs:dZ!}(p:D7!):Ct! (GG! B1!) (N9! B1!):=fz! J6r r.2
def We:Jp6 "dict.values" WU! P5!:=by show Hy?;show Hz?;show J?;cases rs;show MY?;show JF9 LQ JP! PySem.F.entry_dict_values (PySem.F.args_dict_values_1 _) (meets_dict_values Ub! d lo) #[#[vs,dd],?_];show B3?;show Ox? Mf;show N6? JGB JGB;show OZ?
inductive To(xs:C!)(H:Hp)(Q:VK):B!
 | mk p d kvs (_:ep!) (_:Fi! P5!) (_:WU!) (_:iS! JXk)
def Ww(hc:A1!):JMO To:=by show b?;have#[p,d,kvs,rfl,hp,hd,q]:=h;show Ap?;show J?;show MY?;have#[ep,da]:=dd.dictAt;have hv:s.heap.IsValuesView p d:=fw! p hp;show W.kdl_call (W.kdl_values (knd:=JgP) (r:=p) (d:=d) (GE:=vs) (ep:=ep)) Mt! #[hv,da] (JMI) λh' tk wR c' kp e ha=>?_;show B3?;have e1:wR.toList=N9! B1!:=W.kdl_vals_eq wR.toList (o! DZ ha.1) λj v hj=>ha.2 j v (AE! JEy hj);show#[MN!,_,JvF JXk z wR.toList c',A!,q _ hn];rw[e1];show J1p rel
open E
open S
open E
def Ah(hp:G1!):Ds! sb!:=λb u e=>Z8! (Am e hp)
def Af(a:K8!)(b:RG!):Ei!:=λc o h=>b c o (a c o h)
def Ea(e:TD)(h:a1! l):Pb!:=by cases q:H l with | none=>rfl | some o=>show As? (e l o q)
def Jkn{xs:R!}{ys:B8!}(j:Nat)(p:HS!):JlS:=J4g p j
def Fa{α β:Go}{R:ED!}{x:α}{y:β}(r:R x y){xs:R!}{ys:B8!}(p:HS!):Paired R (xs++[x]) (ys++[y]):=JPx
def Ax{α β:Go}{R S:ED!}(f:ff! (S a b)):∀{xs:R!} {ys:B8!},HS!->Cd! S xs ys
 | _,_,.nil=>a!
 | _,_,.cons q t=>Os (wP f q) (Ax f t)
def Gw(h0:K0!)(h:xs[i.toNat]?=D! v):Xa!:=pC! (J2c h) (BM h0)
def Aw{α:Go}{xs:R!}{j:Nat}(h:OD!):∃x,xs[j]?=D! x:=#[xs[j],List.getElem?_eq_some_iff.mpr #[h,A!]]
def J6z(h:JAY):JYY/\JMf<=20:=by induction ds with | nil=>show#[JDU,JDV] | cons d ds ih =>have#[a,b]:=ih (He! (h e (Ec! he)));have#[c,g]:=Ft! d;show#[by simp[PyData.canLayAll0,a,c],Jhv g b]
def Jb8(h:JAY):df (EO! ds):=by have#[a,b]:=J6z h;show#[by simp only[PyData.canLay0];show a,JWy b]
open S
open E
abbrev k_(K:W.Frag)(H:Hp)(a:Addr)(xs:C!):B!:=(∃o,Ce! tj!)\/∀H':Hp,ub! a
def k_.sq{K:W.Frag}{H:Hp}{a:Addr}{xs:C!}(h:ss!):DT!:=Ld! (λ#[o,e]=>sd! #[o,e]) λz=>z H
def k_.keep{K:W.Frag}{H H':Hp}{a:Addr}{xs:C!}(h:ss!)(kt:Ae!):k_ K H' a xs:=Ld! (λ#[o,e]=>Fg! o JZs) λz=>V6!
def k_.of{K:W.Frag}{H:Hp}{a:Addr}{xs:C!}(hO:J2j H)(h:DT!):ss!:=by
 show Fg?;.obtain q|⟨o,ys,q⟩:=hO a;(.show GH?);.show GH?
 show w? #[o,e]
 show AK? (λH'=>V6!)
open E Lake.FX
open N Lake.FX
open PySem PySem.Spec PyProof.Rows L2 PySem.Builtin PySem.Builtin.Str
def Jhq:∀{l:JDv},Ct! ((Db EG!).map AT!) (strValues l)
 | []=>a!
 | (x,t)::r=>ML! Wh! Jhq
def Ja7:∀{ys:j!} {us:Y!},cp! CS! AT! (StrsAre us ys)
 | [],_,.nil=>a!
 | y::r,_,.cons #[t,e] q=>by cases e;show Os y t (Ja7 q)
open S
variable {X:Cx Kx}
inductive J4a(x:V)(vs:C!)(H:Hp)(Q:VK):B!
 | mk z y (_:Vb!) (_:so! y) (_:JFr) (_:EJ! (z.length+2)) (_:iS! (ma! (Hj! z y).map))
def Jof:sC X "str.split" J4a:=by
 show AF?;show H0?;show X?;show H1?;have hle:=split_le z y;have fin:∀(l:JDv)(k:Nat),ww Db=Hj! z y->bg! JDf { s with heap:=yK! (aJ! strValues l),toks:=k }:=λl k e =>#[FS _,_,I.sr (t':=k) (ys:=(Hj! z y).map AT!) (DO! e Jhq) (PE! (AA hle hz)),A!,q _ Yd!];have e2:EJ! (partsBetween z (jU! z y 0 EN! (qh!)) i8!).length:=by have:=StrLaws.occ_length_le z y 0 EN! (qh!);rw[len_partsBetween];show AE this hz
 have ar:=F.args_str_split_2 (wp z t) (wp y u);have en:=F.entry_str_split;by_cases h1:Av! (KB (z.length<y.length) || KB (strKind z<strKind y));.show PH jV! ea! en ar (meets_str_split_cannot_occur z y t u h1) (JcK (Fk! AF h1))
 .have ik:=Yj! h1;by_cases hf:T! (jU! z y 0 EN! (qh!)).isEmpty;(.show PH jV! ea! en ar (meets_str_split_not_found z y t u ik hy hf) (JcK (JnD AF)));.show PH jV! ea! en ar (meets_str_split_sep z y t u ik hy (Yj! hf) (AA KD! hz) e2) ?_;dsimp only [wants];rw[strsFrom_eq];show AH! (numbered GB! _) _ ((numbered_texts _ _).trans (JnD AD))
inductive rJoin(K:W.Frag)(x:V)(vs:C!)(H:Hp)(Q:VK):B!
 | mk z l ys (_:Vb!) (_:sp!) (_:Gp! DW l CS! AT!) (_:(CS! (·.length)).sum+ys.length*z.length<=16777216) (_:U6! (Dg! z ys))
def Jas{X:E!}:sC X "str.join" (rJoin Kx):=by show AF?;have#[z,l,ys,rfl,rfl,hl,hz,q]:=h;show X?;have#[_,rfl,ru]:=rv.one;cases ru;have#[its,r,pl,_]:=GA! hl;show join_list LV! (Ja7 r) hz λt' k=>#[wp _,H,I.tok _,BT!,?_];rw[FA! (Txt.join z ys=Dg! z ys) (StrLaws.glued_eq_join z ys)];show q
inductive Pr(xs:C!)(H:Hp)(Q:VK):B!
 | mk z (_:tY!) (_:U6! z)
def Hn:JMQ Pr:=by show b?;have#[z,rfl,q]:=h;show Bv?;show PySem.P.str_of_str #[II!,H,I,BT!,q]
open E
abbrev yO(z:Str):It:=JbI (i<z.length) (∃c,Yk!=D! c/\x=JEZ) (z.length<=i)
def Jvs{P:Program}{w:World}{K:W.Frag}{tg:Expr}(z:Str)(t:Tok)(it:Addr)(ty:String)(pT:JAa\/JAb):QBq (yO z) (h.IsStrIter it ty z t i) where
 mem:=FH.mpr A!
 obj:=JK! (by
  show At?
  subst e
  show CE?
  show#[o,e,λv q=>u6! d])
 keep:=λi h h' #[o,ho,r] k=>#[o,k it Ix o ho,r]
 item:=by
  show m?
  show Y?
  have hx:Yk!=D! (z.cps[i]'hg):=RC hg
  show j?
  have fin:wm! (JsA h'.IsStrIter) (∃u,D! (Xq! #[#[ZZZ,z.cps[i]'hg]] GB!)=D! u/\JHl QFG (λ_ s2=>HN λx H'=>ou!/\If!/\Mv! (yO z).SM/\JsA s2.heap.IsStrIter/\∀b∈[it],IP!) qV!):=λh' SS sb=>by
   show Qe? qV! ((sb.2 b hb).trans e)
   show Ct?
   show L? (vj (s:=qV!) e c d ?_ (QBh (wp _) BT! #[A!,_,hx,A!]))
   obtain rfl|rfl:=pT<;>decide
  show Ex?
  .show wpAny_pyNext_ascii_item st hx AH!
  .show wpAny_pyNext_wide_item st hx AH!
 done:=by
  show m?
  show Y?
  show j?
  have hx:Yk!=none:=UR hg
  show Ex?
  .show JmS wpAny_pyNext_ascii_end
  .show JmS wpAny_pyNext_wide_end
 self:=λ_ _ _ _ _ st h=>by
  show Ex?
  .show wpAny_pyIter_striter_ascii st h
  .show wpAny_pyIter_striter_wide st h
abbrev J90(tl:TE):TI:=pJ! (∃z,Vb!/\R (yO z) H1)
def J4e{X:E!}{tg l:Expr}{tl:TE}(hl:RM!):vG! J90 tl:=by
 show AO?;show Bn?;rintro v s1 ⟨x,H1,I1,r1,z,rfl,q⟩;have#[t,rfl]:=r1;have fin:∀ty,(JAa\/JAb)->PIE X AB σ tg R (UV JL!) { s1 with heap:=lw! s1.heap.push ty (#[ZZZ,wp z t,nm!]) }:=λty pT=>by show SM? (Jvs z t _ ty pT);show Iq?;subst e;show JNg
 by_cases ha:Ej! z.cps.all (· < 128);.show wpAny_pyIter_ascii ha (AH! _ IK!)
 .show wpAny_pyIter_wide (Yj! ha) (AH! _ (IN A!))
abbrev Hg(c:Nat):BH!:=XV! 48 57
abbrev numOf(l:BF!):ut:=Yl! (λa c=>a*10+(c-48)) 0
abbrev J5d(c:Nat):r1!:=Uj! (XV! 48 57) (c-48) (Uj! (XV! 97 122) (c-87) (PI! (XV! 65 90) (c-55)))
abbrev xy(c:Nat):BH!:=c==32 || (XV! 9 13)
abbrev Jaw(base:Nat)(p:JAc)(c:Nat):Xr! (JAc) :=
 match p with
 | (ds,ad)=>La! (c==95) (JAd (ds,IR)) (match J5d c with
   | some d=>PI! (d<base) (ds.push d,AC)
   | none=>none)
abbrev Jls(base:Nat)(cs:BF!):Xr! (Array ut):=(cs.foldlM (Jaw Bf!) ((Dc!:Kj!),IR)).bind λp=>match p with
 | (ds,ad)=>JAd ds
abbrev J0o:BF!->r1!
 | 48::c::_=>JMA 120 88 16 (JMA 111 79 8 (PI! (c==98 || c==66) 2))
 | _=>none
abbrev rn{α:Go}(inv:α)(tl:ut->α)(bl:α)(val:KE->α)(limit base:Nat)(text:BF!):α :=
 let t:=text.dropWhile xy
 let(negative,t):=match t with
  | 45::r=>(AC,r)
  | 43::r=>MD! r
  | _=>MD! t
 let ap:=match t.drop 2 with
  | 95::r=>r
  | r=>r
 let(b,o_,t):=match J0o t with
  | some p=>Jgk (base==0 || base==p) (p,IR,ap)
  | none=>Jgk (base==0) (10,t.head?==D! 48,t)
 match Jls b (t.reverse.dropWhile xy).reverse with
 | none=>inv
 | some ds =>
   if ![2,4,8,16,32].contains b&&limit != 0&&ds.size > limit then tl ds.size else
   if b==10&&ds.size > 6000 then bl else
   let n:=ds.foldl (λacc d=>acc*b+d) 0
   if o_&&n != 0 then inv else val (if negative then -D1! else n)
def Ig(h:T! (Hg c)):48<=c/\c<=57:=by simpa [Hg] using h
def Ji3:∀(l:BF!)(ds:Kj!)(ad:Bool),(QCX)->l≠[]->l.foldlM (Jaw 10) (ds,ad)=D! (ds++(Db jW!).toArray,AC)
 | [],_,_,_,h=>RW!
 | c::r,ds,ad,hd,_=>by show DN?;(have e:Jaw 10 (ds,ad) c=D! (JWs,AC):=by (have e1:DD! (c==95):=by simp;show BP (AE b FB));(have e2:z! J5d c (c-48):=by unfold J5d;rw[AF (by simp;show#[a,b])]);change(YG! (Av! (c==95)) _ _)=_;rw[e1,e2];simp;lia);rw[List.foldlM_cons,e];change List.foldlM (Jaw 10) (JWs,AC) r=_;cases r with | nil=>simp | cons x r' =>rw[Ji3 (x::r') _ AC (JS! JYN) Ix];simp
def Jpa:Jgb (l.dropWhile xy)
 | [],_=>rfl
 | c::r,hd=>by show DN?;rw[List.dropWhile_cons,AD (by simp[xy];lia)]
def J36{α:Go}(inv:α)(tl:ut->α)(bl:α)(val:KE->α)(l:BF!)(hd:QCX)(hn:l≠[])(h9:l.length<=9):JwW l l:=by
 have#[c,r,rfl]:=KO hn;show DN?;have e1:J0o (c::r)=none:=by cases r with | nil=>unfold J0o;split<;>simp_all | cons x r' =>have#[a',b']:=Ig (hd x Ix);unfold J0o;split;(.rename_i y _ e;injection e with _ e2;injection e2 with e3 _;rw[sX!,sX!,sX!]);.rfl
 have e2:(match (c::r:BF!) with|45::r=>(AC,r)|43::r=>MD! r|_=>MD! (c::r))=MD! (c::r):=by split;(.show M6?);(.show M6?);.rfl
 have e3:JhV=D! (aJ! (c::r).map jW!):=by rw[Jpa _ (JS! (hd c (List.mem_reverse.mp hc))),List.reverse_reverse];unfold Jls;rw[Ji3 _ _ _ hd hn];simp
 unfold rn;simp only[Jpa _ hd,e2,e1];change(match JhV with|none=>inv|some ds=>_)=_;rw[e3];have h10:¬(((c::r).map jW!).toArray.size > 6000):=by simp;simp at h9;show AA h9 FB
 simp only[bne_self_eq_false,Bool.and_false,Bool.false_and,DS,GB,AN h10];congr 1;unfold numOf;simp[List.foldl_map]
def J1c:ib! "__int__":=hq!
def Juj:ib! "__index__":=hq!
def Jui:ib! "__trunc__":=hq!
def Jmd:Jgb (l.takeWhile (λx=>x != 0))
 | [],_=>rfl
 | c::r,hd=>by show DN?;rw[List.takeWhile_cons,AF (by simp;show EM (CG FB a)),Jmd r (JS! JYN)]
def Jcs(z:Str)(t:Tok)(hd:c3!)(h1:c4!)(h9:Vk!):Meets (Builtin.«int.__new__» #[[B5! LW!,wp z t],[]]) (Made.int (Hk! Hh!)).spec :=Meets.of_wp λprog w A R s hs=>by show Ev?;have f1:=F.conv_sub_int;have f2:=F.madeHere_int;have hT:(RS!:Shared).TypeIs (wp z t) N2!:=rfl;have f3:=J1c;have f4:=Juj;have f5:=Jui;show M1?;(have ha:T! (z.cps.all λx=>KB (x<128)):=by rw[<-Array.all_toList,OA];intro c hc;have#[a,b]:=Ig (hd c hc);simp;show AE b FB);(have hl:jO!:=rW!);(have WW:JAe:=λe=>by rw[e] at hl;simp at hl;show M? h1 (gU! hl.symm));rw[AF ha,Jmd _ hd,AF (AA (hl▸h9) FB)];show BJ?;have key:∀{α:Go} (inv:α) (tl:ut->α) (bl:α) (val:KE->α),JwW Hh! Hh!:=λinv tl bl val=>J36 inv tl bl val _ hd WW (hl▸h9);show AE?;split;show K2?;show K2?;(.rename_i h;have e:=QFI h;injection e with e;subst e;simp only[NY,IA];show M1?;all_goals first|show L? hs|trace_state);.rename_i h;show DL! QFI h (QDv)
open S
variable {X:Cx Kx}
inductive Ps(xs:C!)(H:Hp)(Q:VK):B!
 | mk z (_:tY!) (_:c3!) (_:c4!) (_:Vk!) (_:Q (PP (Hk! Hh!)) H)
def Fs:JMP Ps:=by show b?;have#[z,rfl,hd,h1,h9,q]:=h;show Bv?;show call_int_1 (Jcs z t hd h1 h9) (show(Made.int (Hk! Hh!)).post _ s from#[A!,PP _,H,I.tok _,BT!,q])
open E
@[reducible]abbrev one(c:Nat):Ag!:=#[#[ZZZ,c]]
def Js8{c:Nat}:∀{a b x y:BF!},c∉a->c∉b->a++c::x=b++c::y->a=b/\x=y
 | [],[],_,_,_,_,e=>Ao! oQ!
 | [],d::b,_,_,_,hb,e=>JWw zu!
 | d::a,[],_,_,ha,_,e=>JWw (λz=>ha (by simp[<-z]))
 | d::a,f::b,x,y,ha,hb,e=>by simp at e;show k? (Js8 (eE! ha) (λz=>hb nX!) e.2);show#[AO! e.1 h1,h2]
def Eh(c:Nat)(a b:Str)(r:j!):(Dg! (BL! c) (a::b::r)).cps.toList=a.cps.toList++c::(Dg! (BL! c) (b::r)).cps.toList:=by change((a++BL! c++Dg! (BL! c) (b::r))).cps.toList=_;show Ny?;simp
def join_one(s a:Str):VW! s [a]=a:=A!
def Lm{a b:Str}(h:a.cps.toList=b.cps.toList):a=b:=Str.ext' (Array.toList_inj.mp h)
def Joq{c:Nat}:∀{ps qs:j!},ps≠[]->qs≠[]->(JAh)->(∀p∈qs,c∉p.cps.toList)->Dg! (BL! c) ps=Dg! (BL! c) qs->ps=qs
 | [],_,h,_,_,_,_=>RW!
 | _,[],_,h,_,_,_=>RW!
 | [a],[b],_,_,_,_,e=>by rw[join_one,join_one] at e;rw[e]
 | [a],b::d::r,_,_,h1,_,e=>JeV (Tr! e) JaU
 | a::d::r,[b],_,_,_,h2,e=>JeV (by rw[<-e];simp) JXs
 | a::d::r,b::f::t,_,_,h1,h2,e=>by have e:=Cx! (λz=>z.cps.toList) e;simp only[Eh] at e;have#[q1,q2]:=Js8 JaU JXs e;rw[Lm q1,Joq Ix Ix (wQ! h1) (wQ! h2) (Lm q2)]
def Jv3(x y:Str):Hj! x y≠[]:=λe=>by have:=split_pos x y;show I? e;show Az?
def Jba{c:Nat}{ps:j!}(hn:ps≠[])(h:JAh):Hj! (Dg! (BL! c) ps) (BL! c)=ps :=Joq (xz Jv3) hn (StrLaws.split_free _ c) h (xz StrLaws.join_split)
abbrev Jn1(z:Str):BH!:=JGx Hg&&KB c4!&&KB Vk! && !(KB JAi&&KB (z≠"0"))
inductive Arg where
 | n (i:Int)
 | t (a b:Int)
abbrev Ij(z:Str):CJ!:=PI! (T! (Jn1 z)) (Hk! Hh!)
abbrev Lw(z:Str):L1! Arg:=match vz! with
 | [a,b]=>(Ij a).bind λi=>Du! Ij b JWA
 | _=>none
abbrev Lv(f:Bool)(z:Str):L1! Arg:=La! (f=true) (Du! Ij z Arg.n) (Lw z)
abbrev Hy:D3!->j!->JeS
 | f::fs,w::ws=>(Lv f w).bind λa=>(Hy fs ws).map λr=>a::r
 | _,_=>D! []
abbrev FT:QY!:=[M1! EP!,qL! BM!,qL! FC!,qL! FD!,(FE!,[true,false]),(GK!,[true,true,false]),M1! GL!,M1! AU!,M1! JT!,M1! A4!,M1! EQ!,(am,[false]),(Ah!,[]),M1! Dh!]
abbrev Jap(v:Str)(ws:j!):JeS:=match Ym! v with
 | none=>none
 | some fs=>JV9
def Jh6:∀{fs:D3!} {ws:j!} (i:Nat) {f:Bool} {w:Str},JlL (fs.length=ws.length) (Lv f w=none) (Hy fs ws=none)
 | [],_,i,_,_,_,h,_,_=>B7!
 | _::_,[],_,_,_,h,_,_,_=>B7!
 | f0::fs,w0::ws,0,f,w,_,h1,h2,h3=>by show BU?;subst h1 h2;unfold Hy;rw[h3];rfl
 | f0::fs,w0::ws,i+1,f,w,hl,h1,h2,h3=>by simp at h1 h2 hl;unfold Hy;rw[Jh6 i hl h1 h2 h3];cases hb!<;>rfl
structure tQ(z:Str):B! where
 d:c3!
 n:JAe
 l:Vk!
def Jyr{c:Nat}(h:T! (Hg c)):c≠32/\c≠46:=by have#[a,b]:=Ig h;lia
def tQ.free(h:tQ z):32∉z.cps.toList/\46∉z.cps.toList:=#[λm=>(Jyr (h.d _ m)).1 A!,λm=>(Jyr (h.d _ m)).2 A!]
def Jy9(a b:Str):(a++"."++b).cps.toList=a.cps.toList++46::b.cps.toList:=by show Ny?;simp;rfl
def len_list(z:Str):z.length=z.cps.toList.length:=rW!
def Jst:∀{l:QY!} {v:Str} {fs:D3!},JcL->(v,fs)∈l
 | [],_,_,h=>B7!
 | (a,b)::l,v,fs,h=>by rw[IE] at h;cases e:v==a with | true =>show x?;cases h;rw[jM! e];show H8! | false =>show x?;show G9! (Jst h)
def Jsu{v:Str}{fs:D3!}(h:z! Ym! v fs):JAj/\v.length<=6/\h5! 3:=by have:=Jst h;simp only[FT,BY,CN,GY,Prod.mk.injEq] at this;obtain⟨rfl,rfl⟩|⟨rfl,rfl⟩|⟨rfl,rfl⟩|⟨rfl,rfl⟩|⟨rfl,rfl⟩|⟨rfl,rfl⟩|⟨rfl,rfl⟩|⟨rfl,rfl⟩|⟨rfl,rfl⟩|⟨rfl,rfl⟩|⟨rfl,rfl⟩|⟨rfl,rfl⟩|⟨rfl,rfl⟩|⟨rfl,rfl⟩:=this<;>decide
def Jor(s:Str):∀{a b:j!},a≠[]->b≠[]->wY! A5!=VW! s a++s++Dg! s b
 | [],_,h,_=>RW!
 | [x],b,_,hb=>by have#[y,r,rfl]:=KO hb;rfl
 | x::y::r,b,_,hb=>by change x++s++wY! ((y::r)++b)=x++s++wY! (y::r)++s++Dg! s b;rw[Jor s (a:=y::r) Ix hb];simp only[Str.append_assoc]
open E Lake.FX
open N Lake.FX
open PySem PySem.Spec PyProof.Rows L2
def Ny(n:Nat):(R5! (YH! (Cf! n))).cps.toList=fr! Le!:=by change(cpsOfBytes 0 0 _).toArray.toList=_;rw[List.toList_toArray,cpsOfBytes_string];congr 1;change(Nat.repr n).toList=_;unfold Nat.repr;simp
def Jpb{i:Int}(h0:K0!)(h1:i<1000000000):tQ (R5! (YH! i)):=by
 show HX? h0;show#[Vj!,QR!,?_];.rw[Ny] at hc;have#[d,hd,rfl]:=ZN hc;have:=Nat.isDigit_of_mem_toDigits FB FB hd;simp only[Char.isDigit,HH,decide_eq_true_eq] at this;have#[a,b]:=this;have a':48<=d.toNat:=a;have b':d.toNat<=57:=b;simp[Hg,a',b']
 .rw[Ny] at e;have:=(JG9 (b:=10) (n:=n) (k:=9) FB FB);(have:(jX! 10 n).length=0:=by rw[jY! e];rfl);show DL! jY! e (JHA)
 .rw[ER!,Ny,ZA];show(JG9 FB FB).mpr (by change n<1000000000;show CY.mp h1)
def Ji8{prog:Program}{w:World}{A:Around}{R:dq!}{s:Shared}{elt target iter:Expr}{ifs:Ih!}{scope:Scope}{pos:Pos}{it acc:Value}{env:Env}(J:r9!)(turn:∀k s0,J k s0->ci! (pyNext it) (λr s1=>match r with
  | none=>R (.ok .next) s1
  | some v=>JNu letOwnedTupleGo it (λ_ sg=>JNu Rw! env (λ_ s2 =>
   ci! (JrY env (eval c env)) (λok s3 =>
    if ok=true then ci! (VN! elt) (λx s4 =>
     ci! (call (GE! JEn) [acc,x]) (λ_ s5=>∃m,m<k/\J m s5) s4) s3
    else ∃m,m<k/\J m s3) s2) sg) s1) s0)(k:Nat)(h:J k s):g6! (.compLoop JYy 0 it acc env):=by
 show codeAny_loop A! J (λk s0 hI=>?_) k h
 change Gf! _ A ((compTurn JYy 0 it acc env).onRaise (λx=>do noteFrame x env;theTreesLotGoes x)) _ _ s0
 have no:∀{E:NE} (e:Value) (s':Shared),Lc!->notedBy MA! A env E e s':=jZ!
 show wpAny_noted ?_
 rw[compTurn_list]
 show Bg? wpAny_standAt (FF (GC! k s0 hI) (λr s1 h1=>?_) no)
 cases r with
 | none=>show ZS h1
 | some v =>
   show ZR (FF h1 (λ_ sg hg=>ZR (FF hg (λ_ s2 h2=>ZR (FF h2 (λok s3 h3=>?_) no)) no)) no)
   cases ok with
   | false =>
     simp only[DS,GB] at h3 ⊢
     show ZS (Ao! h3)
   | true =>
     simp only[IA] at h3 ⊢
     show ZR (ZR (FF h3 (λx s4 h4=>ZR (FF h4 (λ_ s5 h5=>ZS (ZS (Ao! h5))) no)) no))
abbrev MK(X:E!)(sc:Scope)(cl:Bc!)(C:Addr)(N:j!)(s1:Shared)(H1:Hp)(fp:S!)(AB:Ch):E! where
 prog:=X.prog
 w:=X.w
 mg:=X.mg
 base:=X.base
 A:=X.A
 N:=N
 JM:=s1
 VG:=H1
 env:=compEnvC sc cl C o0
 outer:=X.stack
 stack:=X.stack
 ex:=fp
 fn:=ja!
 calm:=X.calm
 pn:=X.pn++AB
 xe:=JH!
abbrev HW(cells:Bc!):J7! Bc!
 | []=>True
 | (x,c)::r=>Z4! cells.lookup/\HW cells r
def HW.look{cells:Bc!}:∀{cl:Bc!} {x:Str} {c:Addr},HW cells cl->JHL->Z4! cells.lookup
 | [],_,_,_,e=>dR!
 | (y,d)::r,x,c,h,e=>by rw[IE] at e;cases q:x==y with | true =>rw[q] at e;have e1:x=y:=jM! q;cases e;rw[e1];show pi | false =>rw[q] at e;show HW.look A6! e
structure J29(X:E!)(sc:Scope)(cl:Bc!)(p:Str×Nat):B! where
 n:X.N[AQ!]?=D! y!
 k:z! y4! y! Rq!
 l:cl.lookup y!=id! y!
 f:z! Zm! y! Rq!
abbrev JK(X:E!)(sc:Scope)(cl:Bc!):J7! By!
 | []=>True
 | p::r=>JY3/\JK X sc cl r
def JK.at{X:E!}{sc:Scope}{cl:Bc!}:∀{caps:By!} {j:Nat} {p:Str×Nat},EE!->caps[j]?=D! p->JY3
 | [],_,_,_,e=>dR!
 | q::r,0,p,h,e=>by simp at e;subst e;show pi
 | q::r,j+1,p,h,e=>JK.at A6! (by simpa using e)
@[reducible]abbrev Do(caps:By!):j!:=caps.map λp=>y!
abbrev Cw(σ:L2.St)(caps:By!):L2.St:=caps.map λp=>JAk
open S
variable {X:Cx Kx}{sc:Scope}{cl:List (Str×Addr)}{AB:List (Addr×Obj)}{σ:L2.St}{H1:Hp}{s1:Shared}{fp:List Addr}{N:List Str}
def Jzb(I:Pn!)(hf:JN8)(ho:YF! (∃o,H6! jb!))(hk:Ex!)(KH:EF!)(has:Jga Zm! Zm! JHL):qO! N where
 mod:=I.ok.mod
 kind:=hk
 glob:=I.ok.glob
 blt:=I.ok.blt
 above:=Ay!
 inj:=λx y c e1 e2=>I.ok.inj x y c (KH.look e1) (KH.look e2)
 has:=has
 pk:=λx c e _=>by cases e
 hd:=I.ok.hd
 frames:=I.ok.frames
 rC:=NI!
 ag:=SZ #[λz=>by
  have#[o,e]:=D5! ho
  show BP (AU e) z,X4! (JKb x c (KH.look e))]
 bs:=Bg! (I.bs b o e)
 dE:=JYn
 WE:=JU! (by
  obtain z|z:=JEU
  .show IG! I.ok.WE z
  show Al? (CG (CG (AU e) I.ok.dE) z) It!)
 VE:=λb hb z=>by
  obtain q|q:=ZM (I.XJ b z)
  .show JEK q
  .show(hf b hb).2.2.1 q
 O_:=I.stack
 ix:=JVk
def Jtc{ow:j!}{caps:By!}{h':Heap}{m:wS}{t':Nat}{o:Obj}(I:Pn!)(ok:qO! Tt!)(KH:EF!)(MA:EE!)(hn:JSs)(hs:JsL) : JiW Tt! (YN! ow.length SB++O4!):=by
 have kp:∀b u,TJ! jb!->TJ! Nw!:=λb u e=>(hs.2 b (BP (AU e))).trans (ZT _ e);have UB:af! JL!:=JHV;show#[ok,A!,JG!,Xx! kp,#[m,hn,λi y v e1 e2 e3=>?_],qM!,UB,λy c e=>QEV I.LF,DP!,I.EK.kept kp,?_];.have e1:(ow++Do caps)[i]?=D! y:=e1;by_cases lt:i<ow.length;(.rw[KV! IK JX lt,JC6,AF lt] at e2;cases e2);.have ge:ow.length<=i:=JFK lt;rw[KL ge] at e1;rw[KV! KL JX ge,JX] at e2;generalize i-ow.length=j at e1 e2;have vR:=e1;have xk:=e2;rw[ZH] at vR;unfold Cw at xk;rw[ZH] at xk;cases q:caps[j]? with | none=>rw[q] at vR;cases vR | some p =>rw[q] at vR xk;have e4:y!=y:=ZO vR;have e5:JAk=D! v:=ZO xk;have hc:=MA.at q;(have e6:σ[AQ!]?=D! (AC! v):=by cases z:σ[AQ!]? with | none=>rw[z] at e5;cases e5 | some w' =>rw[z] at e5;have:w'=D! v:=e5;show K?);have#[mm,hnn,hl]:=I.loc;have#[u,r,lk]:=hl AQ! y! v hc.n e6 (lZ! hc.k);show#[u,r,x! #[cG! e4 hc.f,?_]];obtain⟨k1,_⟩|⟨_,c,hcl,ce⟩:=lk;(.have:JGg y!:=k1;show I? hc.k;cases this);.have#[oc,xT,hd]:=ce;show#[c,rv! e4 hc.l.trans hcl,oc,P! kp xT,hd]
 .have#[v,oc,xT,hd]:=QEV LT!;show#[v,oc,P! kp xT,hd]
 .show SD?;rw[AO] at WN;have#[a1,a2,a3,a4,a5]:=T8! WN;show#[P! kp a1,a2,BP (AU a1),Fw!,a5];obtain q|q:=ZM (I.XJ _ z);(.show a3 q);.show a4 q
 .change(YN! ow.length SB++O4!).length=Fq! (ow++TB!);simp[Cw]
def J5o{x:Str}{caps:By!}{h':Heap}{m:wS}{t':Nat}{o:Obj}(I:Pn!)(ok:qO! lX!)(KH:EF!)(MA:EE!)(hx:Zy! Zm!)(hn:JSs)(hs:JsL) : JiW lX! (none::O4!):=Jtc (ow:=[x]) I ok KH MA hn hs
def Jtb{PD:Ch}{GF:L2.St}{H':Hp}{s':Shared}(I:Pn!)(hf:JN8)(I':Inv (QAg JL! N) PD GF H' s'):MZ! :=I.eC (ch:=fp) I'.os I'.base I'.EK I'.bare (SZ #[JEU,JEK,JKb,(hf b hb).2.2.2.2.2])
def Ti{H':Hp}{s':Shared}{h':Heap}{TV:L2.St}{sA:Shared}(I:Pn!)(I2:Inv X AB TV H' sA)(hn:a1! JL!)(hs:X8! JL! sA.heap h'):Inv X AB TV H' { sA with heap:=h' } :=I2.turned (it:=JL!) (t':=sA.toks) (Bh! ((hs.2 b hb).trans e)) hn (EM I.lt) (Eg! I.sz) (λx c e z=>by have#[v,q]:=pO!;show Mx! q.lt (o! z (DN _))) λp hp z=>by have:=AU JMo;show I? z;show M? this It!
open E
abbrev i7(X:E!)(ifs:Ih!)(t:TT):B! :=
 ∀(AB:Ch)(s:Shared)(σ:L2.St)(H:Hp)(Q:HB!),VX! (bb! ->
  QDG (JrY o0 (Z2! c)))
def D0{X:E!}:i7 X [] (PR!):=λAB s σ H Q I h=>wpAny_tests_nil #[H,I,h]
def Fj{X:E!}{c:Expr}{t:TT}(h:PT X c t):i7 X [c] t:=zN! (wpAny_tests_one (Jes))
abbrev Jmf(wi:TI)(caps:By!)(tt:TT)(te:TE):TE:=hC! (Gr! /\
 hL! (Kw! (λb H4 =>
   if Rv! then VI!
   else aB!)))
abbrev J3p(wi:TI)(bd:JS6)(tt:TT)(te:TE):TE:=hC! (Gr! /\
 hL! (bd x H3 λτ=>tt τ H3 λb H4 =>
   if Rv! then te τ H4 IT!
   else aB!))
def Rc{X:E!}{elt iter tg:Expr}{pos:Pos}{ifs:Ih!}{sc:Scope}{cl:Bc!}{caps:By!}{wi:TI}{tt:TT}{te:TE}{ow:j!}{bd:JS6}{AB:Ch}{σ:L2.St}{H:Hp}{s:Shared}{Q:VK}{use:XF!}{RQ:NE}(hc:A1!)(hi:JZZ)(KA:HV!)(JH:HT!)(ID:Ex!)(II:HW!)(KH:EF!)(has:HX!)(MA:EE!)(rO:∀C s1 H1 fp tq PD s7 (ws:L2.St) H7 y u (R:J7! L2.St),JHU->JvH JVI s7->Cl!->bd y H7 R->Gf! (model EI! X.w) X.A (Rw! tg (compEnvC sc cl C o0) u) (λ_ s8=>∃ws',ws'.length=ow.length/\JvH (JAm) s8/\R (JAm)) JzS s7)(ht:JyY i7 Tt! ifs tt)(he:JyY PE Tt! elt te)(I:I!)(h:J3p wi bd tt te σ H Q)(fin:Xm!)(hs:HY!) : lN! (comprehension JHz sc o0 (firstIterPos [#[tg,iter,ifs,0]] AG!) (newList []) IR (Z2! iter) use) RQ:=by
 show RT?;show N7?
 show Q4?;show MZ?
 rw[<-hH3] at I3 f3 w0;rw[<-vI] at I3;rw[<-hD] at turn;show LM?;rw[<-vI,<-hD];show Pb?;show Qp? (ow++TB!);have J4:=Jtc (t':=QEe) I3 ok KH MA hn1 yy;show Ma?;show RD? W2!
 show Q2? JHz (by rintro s4 rfl;show Ji8 (λk s'=>a9 λi ws ys H'=>JHU/\pk! W2! JVI/\tn i Hb!/\QDg/\W i k ys H') ?_ m0 #[0,_,[],H3,JX,J4,yb,JKc,w0];rintro k s5 ⟨i,ws,ys,H5,wl,I5,jv,ae,w5⟩;show N8? w5;(.show P4? W2! (AH! _ D H5 s3 s6 H3 A! I3 JnV I6.free #[mm,hnn] q));.show Lw? W2!;rintro r s6 ⟨u,hr,h6⟩;subst hr;show FG h6 ?_;show IE?;show N9?;show FG (rO _ _ _ _ _ _ s7 ws H7 y u _ wl I7' r7 JiR) ?_;rintro _ s8 ⟨ws8,wl8,I8,JBh⟩;show RA? W2!;show Nd? JBh;show IG?;cases ok with | false =>show IH?;have#[m',hm,w9]:=q9;show#[m',hm,Am!,ws8,ys,H9,wl8,I9.ME,dg! I9,eA! I9,w9] | true =>simp only[IA] at q9 ⊢;show JH? s9 I9 q9;show II?;show FG (Gs (X:=MK X sc cl Yb! Tt! s3 H3 fp AB) _ cp _ oO Th! [v] Th! [xv] JrF I10 A! JKB JwC) ?_;show IJ?;subst e11;show#[m',hm,Am!,ws8,ys++[v],_,wl8,vm.ME,dg! vm,eA! vm,w10])
 show Qs?
open S
variable {X:Cx Kx}{elt iter:Expr}{x:Str}{px pos:Pos}{ifs:List Expr}{sc:Scope}{cl:List (Str×Addr)}{caps:List (Str×Nat)}{wi:TI}{tt:TT}{te:TE}
def D6{α:Go}{n:Nat}{xs:R!}(h:xs.length=n+1):HN λa ys=>xs=a::ys/\ys.length=n:=by cases xs with | nil=>cases h | cons a ys=>show#[a,ys,A!,Yh! h]
def Ji9{AB:Ch}{σ:L2.St}{H:Hp}{s:Shared}{Q:VK}{use:XF!}{RQ:NE}(hc:A1!)(hi:vM!)(KA:HV!)(JH:HT!)(ID:Ex!)(II:HW!)(hx:HH!)(KH:EF!)(has:HX!)(MA:EE!)(hN:VY!)(ht:W0!)(he:Wz!)(I:I!)(h:JUX)(fin:Xm!)(hs:HY!) : JdL:=by show DR?;show Rc (ow:=[x]) (bd:=λy _ R=>R (lH! y)) hc hi KA JH ID II KH has MA ?_ ht he I h AH! hs;show Ey?;.show Gq?;show DH? l0;show RZ? (MK X sc cl C lX! s1 H1 fp tq) I7;show Ez?;show#[[D! y],A!,I8,b7]
def Dk(hc:A1!)(hi:vM!)(KA:HV!)(JH:HT!)(ID:Ex!)(II:HW!)(hx:HH!)(KH:EF!)(has:HX!)(MA:EE!)(hN:VY!)(ht:W0!)(he:Wz!)(hs:HY!:=by show Aa?):JsB:=JxT Ji9
def Lx{i:Nat}{y:Str}{py oS:Pos}(rW:X.N.Nodup)(VW:JKe)(hy:JX1)(hsw:JtI bV!)(hc:A1!)(hi:vM!)(KA:HV!)(JH:HT!)(ID:Ex!)(II:HW!)(hx:HH!)(KH:EF!)(has:HX!)(MA:EE!)(hN:VY!)(ht:W0!)(he:Wz!)(hs:HY!:=by show Aa?) :
 JsV bV! (Jmf wi AJ! tt te σ H Jgs):=by
 show V?
 show MQ?
 show JU?
 show Qw? bV!
 show MI? (Ji9 (use:=JDP) (RQ:=JVm) hc hi KA JH ID II hx KH has MA hN ht he I h JVJ hs)
 subst hC
 show Ol?
 show Q6?
 have hCa:JH0:=by
  obtain z|z:=ha
  .rw[z];show EM I1.lt
  .intro z2
   show OA?
   show M8?
 show Op?
open E
abbrev QB(h:Heap)(d:Addr)(es:EB!)(ep:Nat):B!:=∃o,JLA/\o.ExactDict/\P6!
def QB.at(x:tg!)(k:∀o,JLA->PF! Nw! d):lt! h':=let#[o,e,r]:=x;#[o,k o e,r]
open S
def Jnc(nos:WL!)(hm:I1!)(hQ:oZ! (JAF jc! JUl)):JOQ d:=by have#[ob,g1,g2,g3]:=id hm;have tD:JbN:=#[ob,g1,g2.1];show JH2 tD JH3 (DG JH3 tD F.entry_dict_iter ?_ (F.args_dict_iter_1 _));unfold Builtin.«dict.__iter__»;show AY?;unfold Builtin.Dict.dictSlotNone;show AZ? K' tD;show Bf? (Hc! (Db! d));show Ab?;show IS?;show IK?;show C9? nos;show BJ?;show ZR (DT g1 g3 (ZR (HK g1 g3 ?_)));show ZR (C_ (ZS (JQx jc! F.slot_dict_keyiterator_next.lookup (by simpa [rawInt] using hQ))))
def Jnb(hit:JTN)(hm:I1!)(hx:es[i]?=D! e)(hQ:wm! (JaL h'.IsKeyIter) (Q (AC! e.key) CU!)):WS!:=by
 show Qu?;show Dl?
 show Nw?;show OB?
 simp only[cE,DS,GB];show I7?;show DL?;show Lg?;show AV?;show Lo?;show AV?;show Ab?;have lt:jd!:=b4! hx;have ee:es[i]=e:=(FJ.mp hx).2;show KY? (RC lt);show AY?;show Dl?
 show AZ? JIB tI;show FP? (JTq 1);show Nm?;have JBK:JaL (Lb! it (SC! JIC)).IsKeyIter :=JYf i1 i3 i2 (by rw[FQ i3];simp[rawInt]);show R? EO ?_;show ZR (JIB (s:=N3! (Lb! it (SC! JIC))) JBK.typeIs ?_);show FS? (Hc! es[i].key);rw[ee];show ZS (ZS (Bp! (JVE JBK)))
def Jsa(hh:Hf!)(hit:JTN)(hm:I1!)(hx:es.size<=i)(hQ:JV1):WS!:=by
 show Qu?;show Dl?
 show Nw?;show OB?
 simp only[cE,DS,GB];show I7?;show DL?;show Lg?;show AV?;show Lo?;show AV?;show Ab?;show KY? (UR hx);show AY?;show Dl?
 show FP? (Yn! PS! 0 GM);show Nm?;show GM? (newExc (Cu! Hl!) []);show AY?;show E0?;show ZR (pK! ?_);show Gt! (JII _ _) (QD (a:=jF!) (by first|rfl|(simp only[firstArgMember];rfl)) ?_);show C_ ?_ QAM;show E1?;show GF?;show JJ?;show ZR (ZS (je! ?_));show QY? op!;show ZS (hQ _ JXG)
open E
abbrev Kys(H:Hp)(kvs:Aq!)(as:S!):B!:=KW! (λ(p:List Key×V)(a:Addr)=>Ce! (WP (p.1.map kV))) GE as
open S
def J1q{kvs:Aq!}{xs:I5!}(p:Ky!):Kys H GE (Cv! Hm!):=fz! J2w Dz!
def Jlt(I:I!)(e:Jdj):n1! WL! (M_ λ(es:Array DictEntry)(ep:Nat)(as:List Addr)=>I1!/\JIO/\Kys H GE as/\JWF):=by
 have#[z,lo,xs,rel,o,es,ep,g1,g2,g3,g4,g5]:=IF! (le! H d KU!) (e.ok Dd!);have hl:es.size=xs.length:=JHr g4
 show#[z,lo,es,ep,Cv! Hm!,h6!,Kq! hl (Fk! HZ! rel),J1q rel,λj h=>?_];have hj:OD!:=hl▸h;have e1:JPi:=by simp[h]
 rw[g4,ZH] at e1;have e2:xs[j]?=D! (xs[j]):=by simp[hj]
 rw[e2] at e1;show#[xs[j].2.1,l7! e2,?_];have e3:Rl! (Xs! Ub!) xs[j]=es[j]:=ZO e1;rw[<-e3];rfl
open E
open S
def P6(I:I!)(hd:∃o,KC! o)(nt:∀xs,vi! PM!)(no:∀y,vi! (JD! y))(nf:JTz)(ntb:∀ps,vi! (.rB ps))(new:le! (EY! d u) d u):JQn:=by
 have#[o,hd]:=hd;have fr:tB! (Gl! (EY! d u)):=λb n=>JEq (λz=>by rw[z,hd] at n;cases n)
 show#[I.ok,I.os,JG!,JuR (fr b (Rr! b ob e n hx)) (λb ob v e=>?_),I.loc,LT!,fr _ JF!,λy c e=>fr _ (I.LF y c e),DP!,λb v e=>?_,I.len];.have:=X2! b xs e;rw[Ae λz=>nt xs (dj! this)];show this
 .have:=X3! b ob v e;rw[Ae λz=>nf ob v (dj! e)];show this
 show LK? (jp (λz=>ntb _ (DO! z q)) q)
 show NV? (fr _ a2)
 .by_cases hb:b=d;(.show Df? new);.rw[Es!] at e;show(Dd! b v e).PZ (SD!) (ct!) cu!;(.show IX? no);.show IX? nt
def Jq4(I:I!)(e:eK!):JYz no!:=by
 have ok:=TY! d e;have#[_,_,xs,_,o,es,ep,g,_]:=id ok;show#[o,g,P6 I #[_,e] xO! xP! (JrS) (qi!) #[g,?_]];show ok.PZ (SD!) (ct!) cu!;show Fj?
 show F4?
def Jos(I:I!)(e:JGU)(nf:JTz):JQn:=by
 have#[g,ok]:=nx! ay! e;show P6 I #[_,e] xO! xP! nf (qi!) ?_;show ok.PZ (SD!) (ct!) cu!;show Fj?
 show F4?
inductive J72(VG H H':Hp):B!
 | mk d o u (_:JGU) (_:(∀o v,VG d≠D! (.IV o v))) (_:H'=d! H d u)
def PE.a_(h:el!):Bo! e (mG! (λv H1=>∃H2,J72 X.VG H1 H2/\Q v H2)):=λAB s σ H Q I hw =>FG (gd!) λu s' #[v,H1,I1,r,H2,#[d,o,w',e1,e2,e3],q]=>#[v,H2,U! e3 (Jos I1 e1 e2),r,q]
def T_.a_(h:T_ X IU t):T_ X IU (Nz! (∃H2,J72 X.VG H H2/\t D σ H2)):=λAB s σ H D I #[H2,#[d,o,w',e1,e2,e3],q]=>by subst e3;show h AB s σ _ D (Jos I e1 e2) q
open E
abbrev sN(d:Addr)(kvs:Aq!)(o:Obj):It :=
 JjQ no! (M_ λa k v=>BX!/\vI!/\JFb) no!
def Jtq{P:Program}{w:World}{K:W.Frag}{tg:Expr}(d it:Addr)(kvs:Aq!)(o:Obj)(es:EB!)(ep:Nat)(ho:o.ExactDict)(hd:P6!)(hz:JIO):JN1 sN (h.IsKeyIter it d i OI! ep) where
 mem:=ci
 obj:=JK! (by
  show At?
  subst e
  have#[oi,e,c,q]:=st
  show Lh?)
 keep:=JnI
 item:=by
  show CL?
  show Y?
  show j?
  show KW?
  have#[_,_,ri,vQ,as,#[o',g',q1,q2],z',ks,at_]:=Jlt I (IN #[o,hg])
  rw[g] at g';cases g'
  rw[hd] at q2
  injection q2 with q2 q3
  subst q2;subst q3
  have lt:jd!:=hz▸hi
  have#[a,ha,hk]:=at_ i lt
  show N0?
  show Jnb st #[o,g,ho,hd] (e:=es[i]) (by simp[lt]) QCU
  show LQ?
  have#[oi,e,c,q]:=id SS
  show L? (QEa q BQ! hk #[A!,a,kvs[i].1,kvs[i].2,A!,hx,A6 ks i kvs[i] a hx ha])
 done:=by
  show CL?
  show Y?
  show j?
  show KW?
  show Jsa Mt! st #[o,g,ho,hd] (hz▸hi) JjI
 self:=ca! JIZ
open S
abbrev J7c(td:TE):TI:=JMC (HN λd kvs=>x=Gz!/\NA! d KU!/\∀o,R (sN d GE o) JNM)
def Jaq{l:Expr}{td:TE}(hl:Bo! l td):vG! J7c td:=by
 show AO?;show Bn?;rintro v s1 ⟨x,H1,I1,r1,d,kvs,ex,hd,hR⟩;subst ex;cases r1;have#[o,g,I2]:=Jq4 I1 hd;have#[_,lo,es,ep,as,#[o',g',q1,q2],z,ks,at_]:=Kh! Jlt I1 hd;rw[g] at g';cases g';show Jnc lo #[o,g,q1,q2] ?_;show HY?;show Lc? JNM jc! JUl;show Qr? sN (Jtq d _ GE o es ep q1 q2 z) QAa;show Bz?
 show LS?
open E
open E Lake.FX
open N Lake.FhS
open PySem PyProof.Rows PySem.W
abbrev QC(cmp:ut->ut->H7! (dp!))(lt:eM!)(n:Nat)(s:Shared):B! :=
 ∀i j,i<n->j<n->∀C:dp!,C (lt i j) s->cmp i j C s
structure JBe(lt:eM!)(n:Nat):B! where
 tr:∀i j k,i<n->j<n->k<n->T! (lt i j)->T! (lt j k)->T! (lt i k)
 tot:∀i j,i<n->j<n->i≠j->A0! (lt i j)->T! (lt j i)
structure Pm(p:Kj!)(n:Nat):B! where
 pm:ul! p.toList.Perm
def Pm.size(h:E3!):p.size=n:=by have:=h.pm.length_eq;show AQ?
def Pm.lt(h:E3!)(hi:i<n):o6!<n:=by
 have hs:=h.size;have VW:jf!:=hs▸hi;have e:JPN:=by simp[Array.getD,VW]
 rw[e];have:p[i]∈AR! n:=h.pm.mem_iff.mp (by simp);show OJ! this
def Pm.inj(h:E3!)(hi:i<n)(hj:j<n)(e:o6!=SE! j 0):i=j:=by
 have hs:=h.size;have VW:jf!:=hs▸hi;have rS:j<p.size:=hs▸hj;have nd:p.toList.Nodup:=h.pm.nodup_iff.mpr List.nodup_range;have e1:JPN:=by simp[Array.getD,VW]
 have e2:SE! j 0=p[j]:=by simp[Array.getD,rS]
 rw[e1,e2] at e;have:=(N_ (xs:=p.toList) (i:=i) (j:=j) (h₀:=by simpa using VW) (h₁:=by simpa using rS) nd).mp (by simpa using e);show this
def Pm.eP(h:E3!)(hq:q.Perm p):Pm q n:=#[WQ! Array.perm_iff_toList_perm.mp hq h.pm]
def Jw8(n:Nat):Pm (List.toArray (AR! n)) n:=#[ci]
abbrev Up(lt:eM!)(p:Kj!)(m:Nat):B!:=∀i j,i<j->j<m->T! JpI
abbrev Dn(lt:eM!)(p:Kj!)(m:Nat):B!:=∀i j,i<j->j<m->JQq
open S
variable (O:JBe lt n)
include O
def other(h:E3!)(hi:i<n)(hj:j<n)(WX:i≠j)(e:A0! JpI):JQq :=O.tot _ _ (h.lt hi) (h.lt hj) (λz=>WX (h.inj hi hj z)) e
def Up.snoc(h:E3!)(h1:1<=a)(ha:a<n)(u:RH! a)(e:QFX fq! a):Up lt p (a+1):=by
 show Kw?;.subst vM;by_cases hi:i=j-1;(.rw[hi];show e);.show SO? (h.lt JoB) ha JtT e
 show ND?
def Dn.snoc(h:E3!)(h1:1<=a)(ha:a<n)(u:Dn lt p a)(e:QBV a fq!):Dn lt p (a+1):=by
 show Kw?;.subst vM;by_cases hi:i=j-1;(.rw[hi];show e);.show Jm? ha JoB JtT
 show ND?
def Jrk(K:Ri!)(h:E3!):Jgt r9! (RH! a -> (∀m,a<=m->m<=a+f->RH! m->(m=a+f\/QBV m (SE! (m-1) 0))->G m s)->(kas_asc p f a).kasWp cmp G s)
 | 0,a,G,_,_,u,k=>k a B6! B6! u IK!
 | f+1,a,G,h1,hn,u,k=>by unfold kas_asc;show SB? iX!;cases e:lt (aw! a) fq! with | true =>simp only[IA];show k a B6! JOS u (Eg! e) | false =>simp only[DS,GB];show Jrk K h f (a+1) G JMN v! (JmC Up.snoc (other O h QDK v! v! e)) λm a1 a2 a3 a4=>k m fW! v! a3 (a4.imp (λz=>W!) Xy!)
def Js4(K:Ri!)(h:E3!):Jgt (H7! (Kj!×Nat×Nat)) (Dn lt p a -> (∀m,a<=m->m<=a+f->Dn lt p m->G (p,m,0) s)->(kas_desc f p a 0).kasWp cmp G s)
 | 0,a,G,_,_,u,k=>k a B6! B6! u
 | f+1,a,G,h1,hn,u,k=>by unfold kas_desc;show SB? iX!;cases e:lt (aw! a) fq! with | true =>simp only[IA,DN,gt_iff_lt,GB];show Js4 K h f (a+1) G JMN v! (JmC Dn.snoc e) λm a1 a2 a3=>k m fW! v! a3 | false =>simp only[DS,GB];show K _ _ QAF iX! _ ?_;simp only[JtR QDK,IA];show k a B6! JOS u
omit O in
def Jav{p q:Array Nat}{i j:Nat}(e:p[i]?=q[j]?):p.getD i 0=q.getD j 0:=by
 rw[Array.getD_eq_getD_getElem?,Array.getD_eq_getD_getElem?,e]
omit O in
def J37{p:Array Nat}{m:Nat}(hm:m<=p.size)(d:Dn lt p m):Up lt (kas_rev p 0 m) m:=by
 intro i j WX hj
 have g:∀k,k<m->(kas_rev p 0 m).getD k 0=p.getD (m-1-k) 0:=λk hk=>by
  show Jav ?_
  unfold kas_rev
  rw[getElem?_mirror_all hm,AF #[AZ _,hk]]
  congr 1;lia
 rw[g i (AA WX (A_ hj)),g j hj]
 show d _ _ (by lia) (by lia)
def Jy6(K:Ri!)(hn:1<=n)(h:E3!)(G:H7! (Nat×Kj!))(k:∀m q,1<=m->m<=n->Pm q n->Up lt q m->G (m,q) s):(kas_count n p).kasWp cmp G s:=by
 unfold kas_count;rw[SE];have up1:RH! 1:=λi j h1 h2=>W!
 show Jrk O K h (n-1) 1 _ B6! v! up1 λa a1 a2 a3 a4=>?_;by_cases ha:Av! (a==n);.rw[AF ha];show JtV
 .rw[AD ha];(have zL:a≠n:=by simpa using ha);by_cases h1:a > 1;(.rw[AF h1];show JB? JDg;simp only[a3 0 (a-1) (jg! (Nat.max_le.mpr #[a1,h1])) (by show Nat.sub_lt Aw! FB),IA];show JtV);.rw[AD h1];have e1:a=1:=DP (Cy! h1) a1;subst e1;unfold kas_descPart;rw[SE];have e2:QFX (aw! 1) 0:=a4.elim (λz=>W!) Xy!;(have d2:Dn lt p (1+1):=by intro i j WX hj;have e3:i=0:=VQ (AE WX hj);(have e4:j=1:=W!);rw[e3,e4];show e2);show Js4 O K h (n-(1+1)) (1+1) _ (by show DX _) v! d2 λm q2 q3 q4=>?_;simp only[gt_iff_lt,DN,GB];unfold kas_tail3;rw[SE];have hr:Pm (kas_rev p 0 m) n:=h.eP (KM mirror_perm _ _);show Jrk O K hr (n-m) m _ fW! v! (J37 (a2! h.size) q4) λb b1 b2 b3 _=>?_;show k b _ (AA (A_ q2) b1) v! hr b3
def Jb1(K:Ri!)(h:E3!)(hk:k<n)(u:RH! k):∀(f l r:Nat)(G:r9!),l<=r->r<=k->r-l<=f->(JeP (i<l))->(Jgu (r<=i)) -> (∀m,m<=k->(JeP (i<m))->(Jgu (m<=i))->G m s)->(kas_place p k f l r).kasWp cmp G s
 | 0,l,r,G,h1,h2,h3,lo,hi,g=>JrI (hi i v! b)
 | f+1,l,r,G,h1,h2,h3,lo,hi,g=>by unfold kas_place;by_cases q:l ≥ r;(.rw[AF q];show JrI (hi i (by show AA Aw! Aw!) b));.rw[AD q];show JB? hk;cases e:lt (aw! k) (SE! (Wa!) 0) with | true =>simp only[IA];show RE? l (Wa!) v! lo (λi a b=>?_);by_cases z:i=Wa!;(.rw[z];show e);.show Jm? hk (AE (A_ b) hk) (u _ _ v! b) | false =>simp only[DS,GB];have e':=JtR hk;show RE? (Wa!+1) r h2 (λi a=>?_) hi;by_cases z:i=Wa!;(.rw[z];show e');.show SO? QAF hk (u _ _ (LY (HV a) z) v!) e'
omit O in
def J5n{p:Array Nat}(h:Pm p n){k l:Nat}(hk:k<n)(hl:l<=k)(u:Up lt p k)(lo:∀i,i<l->lt (p.getD i 0) (p.getD k 0)=true)(hi:∀i,l<=i->i<k->lt (p.getD k 0) (p.getD i 0)=true) :
 Up lt (bubble p k (k-l)) (k+1):=by
 have g:∀j,j<k+1->(bubble p k (k-l)).getD j 0=if j=l then p.getD k 0 else if l<j then p.getD (j-1) 0 else p.getD j 0:=λj hj=>by
  have e:=getElem?_bubble (xs:=p) (src:=k) (by rw[h.size];show hk) (k-l) (Nat.sub_le _ _) j
  rw[show k-(k-l)=l by lia] at e
  by_cases c1:j=l
  .rw[AF c1] at e ⊢;show Jav e
  .rw[AD c1] at e ⊢
   by_cases c2:l<j
   .rw[AF #[c2,by show HV ‹_›]] at e;rw[AF c2];show Jav e
   .rw[AD (by lia)] at e;rw[AD c2];show Jav e
 intro i j WX hj
 rw[g i (AA WX (A_ hj)),g j hj]
 repeat' split
 all_goals first
  | (exfalso;lia)
  | show lo _ (by lia)
  | show hi _ (by lia) (by lia)
  | show u _ _ (by lia) (by lia)
def Jzc(K:Ri!):∀(f:Nat)(p:Kj!)(k:Nat)(G:JFD),E3!->k+f=n->RH! k->(JnJ)->JMZ f p k
 | 0,p,k,G,h,hk,u,g=>by (have e:k=n:=by assumption);subst e;show g p h u
 | f+1,p,k,G,h,hk,u,g=>by unfold kas_bin;rw[SE];show Jb1 O K h (k:=k) JoC u k 0 k _ MF! B6! (by show ZG _) (λi a=>by contradiction) (λi a b=>by show M? Aw! (JF Aw!)) λm c1 c2 c3 =>Jzc K f _ (k+1) G (h.eP (wP bubble_perm _)) v! (J5n h JoC c1 u c2 c3) g
def tS(K:Ri!)(hn:1<=n)(G:JFD)(g:JnJ):(kas_sort n).kasWp cmp G s:=by
 unfold kas_sort;rw[SE];show Jy6 O K hn (Jw8 n) _ λm q h1 h2 h3 h4=>?_;show C? (m<n);.rw[AF c];(have e2:max m 1=m:=W!);change JMZ (n-max m 1) q (max m 1);rw[e2];show Jzc O K _ q m G h3 v! h4 g
 .rw[AD c];have e2:m=n:=DP h2 (Cy! c);subst e2;show g q h3 h4
open E
open E Lake.FhS
open N Lake.FX
open PySem PySem.Spec PyProof.Rows L2
open S
def Jt1(hh:Hf!)(I d:Addr)(WW:d≠I)(es:EB!)(ep:Nat):Walks Da! w A I [I,d] [I] OI! zG! (λi h=>h.IsKeyIter I d i OI! ep/\tg!) where
 sub:=SZ (by simp at hb;simp[hb])
 frame:=λ_ _ _ st hk=>#[let#[o,e,r]:=st.1;#[o,hk I Ix o e,r],st.2.at λo e=>hk d Ix o e]
 item:=λi s0 Q E0 hi st hQ=>Jnb st.1 st.2 (e:=es[i]) (by simp[hi]) λh' it' sb =>
  hQ _ h' s0.toks #[es[i],by simp[hi],A!] #[it',st.2.at λo e=>(sb.2 d WW).trans e] (Bh! ((sb.2 b zu!).trans e))
 done:=λs0 Q E0 st hQ=>Jsa hh st.1 st.2 B6! λh' eb=>hQ h' s0.toks (Bh! (KK! eb (λz=>hb (by simp[z]))))
 self:=λ_ _ _ _ st hQ=>JIZ st.1 hQ
def Jkf(lo:WL!):W.KdlSrc Da! w LZ! d d OI! zG! (λh=>tg!) where
 type:=λ_ #[o,e,x,_]=>#[o,e,BK!]
 there:=λ_ #[o,e,_]=>#[Bv!,Bv!]
 keep:=λ_ _ hm hk=>hm.at λo e=>hk d IK! o e
 notList:=Au!
 notTuple:=Au!
 hint:=λ_ _ _ _ #[o,e,x,_] hq=>W.kdl_hint_dict #[o,e,BK!] hq
 iter:=λ_ s0 hh hm=>#[_,_,(λ_ _ hq=>Jnc lo hm hq),Jt1 hh _ d (let#[o,e,_]:=hm;BP (AU e)) es ep,#[QAa,hm.at λo e=>TO!]]
open E
def T4:Jgv S! Cz! Bd!
 | []=>a!
 | _::as=>V2! A! T4 as
def Jpk{es:EB!}{acc:Az!}{as:S!}(ha:JoA)(uG:JKV)(at_:JWF):acc.toList=Bd! Db!:=by
 show Kx?;·show LH?;show OC?;have#[a,e5,e6]:=at_ j hj;(have e7:e2=es[j]:=by (have:JPj:=by simp[hj]);rw[this] at e3;show Fk! ZO e3);rw[ZH,e5];(have:JWp:=by simp[h1]);rw[this,e4,e7,e6];rfl
 ·(have h1:acc.toList.length<=j:=JfK);(have h2:fV!<=j:=Fj! (uG▸(Cy! hj)));rw[EW h1,EW h2]
open S
variable {X:Cx Kx}
inductive Jaj(xs:C!)(H:Hp)(Q:VK):B!
 | mk d kvs (_:eq!) (_:Jdj) (_:∀l as,JlF (Kys H GE as) Fr!)
def Jfs(hc:A1!):JMO Jaj:=by show b?;have#[d,kvs,rfl,hd,q]:=h;show Ap?;show J?;show Mc?;show W.kdl_call (Jkf lo (es:=es) (ep:=ep)) Mt! raw JSI λh' tk acc c kp e ha=>?_;show B3?;have uG:as.length=kvs.length:=JSi;show HQ? (Jpk ha (hz▸uG) at_);show#[MN!,_,JvF Fr! (uG▸z) acc.toList c,A!,q _ as hn ks];rw[e1];show T4 as
open E
def Jat:∀xs:q!,A0! (OK! xs xs)
 | []=>rfl
 | x::xs=>cE! Lf! BY! Jat xs
def Jk7:∀{xs ys zs:q!},Qr! xs ys->Qr! ys zs->Qr! xs zs
 | [],[],_,h,_=>Ic!
 | [],_::_,[],_,h=>Ic!
 | [],_::_,_::_,_,_=>rfl
 | _::_,[],_,h,_=>Ic!
 | _::_,_::_,[],_,h=>Ic!
 | x::xs,y::ys,z::zs,h1,h2=>by rw[Lf!] at h1 h2 ⊢;by_cases e1:x=y;(.rw[AF e1] at h1;by_cases e2:y=z;(.rw[AF e2] at h2;rw[AF (iw! e2)];show Jk7 h1 h2);.rw[AD e2] at h2;rw[AD (da! e2),e1];show h2);.rw[AD e1] at h1;have h1:=BN h1;by_cases e2:y=z;(.rw[AD (JEm e1),<-e2];show AM h1);.rw[AD e2] at h2;have h2:=BN h2;rw[AD (Int.ne_of_lt JlK)];show AM JlK
def Jk8:∀{xs ys:q!},xs≠ys->A0! (OK! xs ys)->Qr! ys xs
 | [],[],h,_=>RW!
 | [],_::_,_,h=>Ic!
 | _::_,[],_,_=>rfl
 | x::xs,y::ys,WW,h=>by rw[Lf!] at h ⊢;by_cases e:x=y;(.rw[K7!] at h;rw[AF FB!];show Jk8 (λz=>WW (by rw[e,z])) h);.rw[AD e] at h;have h:=of_decide_eq_false h;rw[AD (X6! e)];show Ek! AM
def Py{α:Go}{lt:lg! α}(irr:∀a,¬lt a a)(JBd:∀a b,lt a b->¬lt b a):∀{XC l₂:R!},XC.Perm l₂->XC.Pairwise lt->l₂.Pairwise lt->XC=l₂
 | [],l₂,p,_,_=>(List.Perm.nil_eq p)
 | a::XC,[],p,_,_=>by have:=p.length_eq;show Az?
 | a::XC,b::l₂,p,h1,h2=>by have ik:=SF! h1;have YJ:=SF! h2;(have e:a=b:=by have ha:a∈b::l₂:=p.mem_iff.mp (H8!);have hb:b∈a::XC:=jh! (H8!);obtain e|ha:=ZM ha;(.show e);.show NE? (ZM hb) (YJ.1 a ha) (wP JBd (ik.1 b hb)));subst e;rw[Py irr JBd (List.Perm.cons_inv p) ik.2 YJ.2]
open S
def Jih(ho:ob! (Yp! F7! OE! n))(YI:vs.length<64)(O:FhS.JBe lt Lg!)(K:2<=vs.length->∀h',(QDm)->∀Q:H7! SortKind,(∀κ,FhS.QC (Jrq vs) lt Lg! CU!->JzE κ)->W5! (keyKind' OE!) CU!)(h:∀q:BF!,q.Perm (AR! Lg!)->wG!->∀h' c,(QDm)->O5! Nw! (ni! q.map (λi=>vs.getD i GM) c)->P QER CU!) :
 iD!:=by
 rw[list_sort_plain]
 have al:a<s.heap.objs.size:=AU ho
 have small:∀{k:Nat},k<=63->k<=sizeLine:=λhk=>JD0 CZ Aw!
 show ZR (ji! ho A! (ZR (jj! ho A! ?_ (oU! JWt) MF!)))
 obtain⟨e1,g1⟩:∃e1,JX4 (Lb! a (R6! λ_=>(Dc!:Az!))).get?:=#[_,OP ho λ_=>Dc!]
 show ZR (seqEpoch_at g1 A! (ZR (jk! (ZR (JKy (EO ?_) MF!)) (by change vs.length<=_;show JWt))))
 have g2:JX4 JgZ:=sg! g1
 have kp:lK! (b≠a) IC! JgZ:=λb o hb e =>
  sg! (fA! e)
 change JLK _ (N3! JsC)
 generalize JsC=hh at g2 kp
 show AE?
 have fin:∀(st:SortSt)(q:BF!),JgV st->EX! jl! st->JOk->wG! ->
  JLK (do
   let touched:=(<-seqEpoch a) != e1
   Builtin.List.listUpdate Bs! λ_=>oh! arrOf st
   if let D! e:=jl! st then rule "list.sort.comparison-raised";throw e
   if touched then rule "list.sort.modified";raiseError Lh! "list modified during sort"
   ret GM) JKz:=λst q ea ef qp qo=>by
  have hl:q.length=vs.length:=AO! qp.length_eq DV
  show ZR (seqEpoch_at g2 A! ?_)
  rw[ea]
  show ZR (jj! g2 A! ?_ MF! (by change(q.map λi=>vs.getD i jF!).toArray.size<=qk!;rw[BO,ZA,hl];show CJ (small (by show HV Aw!))))
  rw[ef]
  simp only[bne_self_eq_false,DS,GB]
  show ZS (h q qp qo _ _ (Bh! (fA! (KK! kp hb))) (OP g2 _))
 by_cases h2:vs.toArray.size<2
 .rw[AF h2,AF h2]
  show BJ?
  rw[StateT.run_pure]
  show BJ?
  have YJ:vs.length<2:=rU!
  show AH! (SortSt.mk' general' (JK1 OE!) Dc! 7 SB) (AR! Lg!) ?_ A! (List.Perm.refl _) ?_
  .change oh! JK1 OE!=_
   show IU?
   .simp
   .simp
   show Al? YJ Ix
  .show IU?
   .show JFU
   .show List.pairwise_singleton _ _
   show Al? YJ Ix
 .rw[AD h2,AD h2]
  have YJ:2<=vs.length:=rU!
  show ZR (K YJ hh kp _ λκ ask=>?_)
  show ZR (FF (W.kat_run (E:=E) (vs:=vs) (ks:=vs) (κ:=κ) (s:=JKz) (Q:=λSS s'=>JAK/\∃q:BF!,JgV SS/\EX! jl! SS/\JOk/\wG!)
   (G:=λp s'=>JAK/\FhS.Pm p Lg!/\FhS.Up lt p Lg!) A! YJ YI (λp SS s' hp ha hf #[e,pm,up]=>?_) (FhS.tS O ask fW! _ λq pm up=>#[A!,pm,up])) (λr s' hr=>?_) λ_ _ e=>e)
  .show#[e,p.toList,W.kat_snds A! ha,hf,pm.pm,?_]
   rw[List.pairwise_iff_getElem]
   intro i j hi hj WX
   have hs:=pm.size
   have:=up i j WX (by rw[<-hs];simpa using hj)
   have gi:o6!=p.toList[i]:=by simp[Array.getD,show jf! by simpa using hi]
   have gj:SE! j 0=p.toList[j]:=by simp[Array.getD,show j<p.size by simpa using hj]
   show n? gi gj
   show this
  .have#[u,SS]:=r
   have#[e,q,q1,q2,q3,q4]:=hr
   dsimp only at e q1 q2 ⊢
   subst e
   show AH! SS q q1 q2 q3 q4
open E
open S
def Jyd{us ws:Y!}{ns ms:q!}(i:Nat)(s:Shared)(p:JJw)(q:YW! ws ms)(hf:fin=KB (ns.length<ms.length))(h:Q (OK! ns ms) s):W.KatLex Da! w A b AH! Q (us.zip ws) i s:=by induction p generalizing ws ms i with | nil =>rw[JDs];show jm! ?_;rw[hf];show Ay? q h | cons n t r ih =>cases q with | nil=>rw[JDt];show jm! ?_;rw[hf];show h | cons m u q =>rw[jK!];show jn! (ho! (jo! (λe=>jp! ?_) λe=>W.kat_no ?_));(·show GC? (n=m);rw[Lf!,K7!] at h;show ih xL q (Tr! hf) h);·show GC? (n≠m);rw[Lf!,AD e] at h;cases hb:(b&&i==0) with | true=>show oneLt_int h | false=>show P! W.kat_one (lt_int h)
abbrev OH(h:Heap):db! JcM:=Mw! (λa ns=>ns≠[]/\∃its,JTA/\tv!)
def Jma{as:S!}{VU:JcM}(p:OH h as VU):JwL (λn t=>v=hg! n t):=by induction p with | nil=>show NR? | cons r t ih =>have#[fs,a1,a2,a3]:=ih;have#[WW,its,#[o,ho,hc,n,hd],hi]:=r;cases hL:i2! with | nil=>rw[hL] at hi;cases hi;show M? A! WW | cons f fr =>rw[hL] at hi;cases hi with | cons n0 t0 hr =>show#[hg! n0 t0::fs,JLF ho hc hd ?_ a1,by simp[a2],λv hv=>?_];(·(have:its[0]?=its.toList[0]?:=ci);rw[this,hL];rfl);.obtain rfl|hv:=ZM hv;(.show#[_,_,A!]);.show a3 v hv
def OH.keep(k:JJ5 (HN λts n=>o.data=.seq ts n/\Ve!))(t:OH h as VU):OH h' as VU :=Ax (λa ns #[h1,its,#[o,ho,hc,n,hd],hi]=>#[h1,its,#[o,k a o ho #[_,_,hd,hc],hc,n,hd],hi]) t
def Jtr(hκ:∃b,κ=tuples' b)(t:Jef) : FhS.QC (Jrq (Bd! Db!)) (JeO) fV! s:=by
 have#[b,rfl]:=hκ;intro i j hi hj C hC;rw[ZA] at hi hj;have get:∀k,k<as.length->M_ λa ns its=>QA4 k GM=BQ!/\VU.getD k []=ns/\eJ! IsTup its/\tv!:=OL! (by have hl:=HZ! t;(have h1:as[k]?=D! (as[k]):=by simp[hk]);(have h2:VU[k]?=D! (VU[k]' v!):=JPh);have#[_,its,q1,q2]:=A6 t k _ _ h1 h2;show#[as[k],_,its,by simp[hk],JPh,q1,q2])
 have#[a,ns,its,e1,e2,#[o,ho,hc,n,hd],hi1]:=get i hi;have#[a',vA,its',vR,xk,#[o',kM,xW,n',XY],JBM]:=get j hj;unfold W.kas_ask;rw[e1,vR];show W.kat_lt ho hd kM XY (Jyd 0 s hi1 JBM ?_ (by dsimp only at hC;rw[e2,xk] at hC;show hC));have l1:=hi1.length;have l2:=JBM.length;simp only[DZ] at l1 l2;rw[l1,l2]
def Jqv(ho:JcT)(YI:as.length<64)(t:Jef)(nd:VU.Nodup)(h:JmK VU.getD VU.getD) : iD!:=by
 have hl:=HZ! t;have pW:jq! fV!:=Vg!;show QI? JeO (λz=>WX ?_);·(have VW:i<VU.length:=W!);(have rS:j<VU.length:=W!);(have e1:VU[i]=VU[j]:=by simpa [VW,rS] using z);show(N_ nd).mp e1
 .have t':OH h' as VU:=t.keep λb o e #[ts,k,q,qc]=>ec! (λz=>by rw[z,ho] at e;cases e;have qc:JoK:=qc;injection qc with qc;show M? qc FB);have#[fs,f1,f2,f3]:=Jma t';show Qh? (B5! LW!) (by rw[f2];rw[pW] at h2;show A_ Aw!) (hQ _ (Jtr BT! t'));have#[m,tk,rfl]:=f3 v hv;show W.Looks.of_pure A!
open E
def Jbx(g:F1!)(f:α->G!)(h:∀x,g x=Cz! (f x)):Jgv R! g (Bd! f).map
 | []=>a!
 | a::as=>Os (U! (h a) A!) (Jbx g f h as)
open S
variable {X:Cx Kx}
inductive Tn(xs:C!)(H:Hp)(Q:VK):B!
 | mk d (L:CQ! (q!×V)) (_:eq!) (_:Rd H d (.dT (CD! λp=>(QEw,AQ!)))) (_:L.length<64) (_:sV!) (_:(∀p∈L,y!≠[])) (_:∀(l:Addr)(M:CQ! (q!×Addr)),Pb!->JOG OM! CD!->M.Pairwise (λp q=>Qr! y! H!)->(∀p∈M,JD5 AQ! p.1.map)->S5! l (EY! l (XV (OM! JVg))))
def Wv(hc:A1!):fH! Tn:=by
 show b?;have#[d,L,rfl,hd,YI,nd,WW,q]:=h;show Ap?;show J?;show Mc?;have hlL:AZ! CD! JRn=L.length:=Vg!;have uG:JLf:=by rw[<-hlL];show JSi
 have key:∀(j:Nat)(p:q!×V),L[j]?=D! p->∃a,as[j]?=D! a/\Ce! (WP (p.1.map A2!)):=λj p hp=>by have hj:Yq!:=DH! hp;have#[a,ha]:=JF2 as j;have:=A6 ks j ((QEw:Gm!),AQ!) a (Ui! hp) ha;show#[a,ha,?_];rw[this,AX];rfl
 have t0:Jdw Tk:=Fm (Ck! ZA uG) λj a ns e1 e2=>by rw[ZH] at e2;cases hp:L[j]? with | none=>show Cj? hp | some p =>rw[hp] at e2;have e3:y!=ns:=ZO e2;have#[a',h1,h2]:=wv j p hp;rw[e1] at h1;cases h1;have#[its,rv,it,_]:=JI! (FF! h2);show#[AE! e3 (Fp! WW p hp),CR!,it,by rw[<-e3];simpa using intsAre_of rv]
 show im! (by show E2?;show O2? raw JSI;show HQ? (Jpk ha v! at_);rw[e1];show Jq?;show Jy?;show OD?;have t1:Jdw QEB:=t0.keep λb o e _=>ZT _ (IH! kp);show J6? (Jqv g1 v! t1 nd JAs);show G8?;show PB?;(have eM:JsS:=JqU);show Ej? (I1.laid (a:=Hn!) (o:=JSB (λi=>(MS! i [],as.getD i 0)) (λq=>An! Rs)) (t':=tk) (JnK) B6! (JpH ?_)) (q _ _ hn ?_ ?_ ?_);(.show PC?;lia);(.rw[AX];show Jbx _ (mv!) (LY!) p);(.rw[<-eM];show e);(.rw[AX];(have e2:JOI (JYc)=b2!:=by show RK λj=>?_;rw[ZH];by_cases hj:Yq!;(·(have h3:JMy:=by simp[uG,hj]);rw[h3];simp[hj]);·(have h3:zc!:=by simp[uG];show Cy! Aw!);rw[h3,EW (Fj! (Cy! Aw!))];rfl);have e7:=pp.map JYc;rw[e2] at e7;show e7);(.rw[EY];show po);.intro r hr;have#[i,hi,e3]:=ZN hr;have IP:=inr i hi;have#[p0,hp0]:=QDZ L;have#[a,h3,h4]:=wv i p0 hp0;rw[<-e3];(have e5:as.getD i 0=a:=FZ! KN h3);(have e6:gx! p0.1:=cB! KN ZH hp0);change JD5 JKj (MS! i []).map;rw[e5,e6];show h4)
open E
open S
inductive J9o(K:W.Frag)(xs:C!)(H:Hp)(Q:VK):B!
 | mk x n t b (_:xs=[x,.ty n]) (_:W9 K H x t) (_:JWq t n b) (_:Kt! b)
def Jpi{X:E!}:JTZ J9o:=by
 show b?;have#[x,n,t,b,rfl,ty,e,q]:=h;obtain⟨u1,u2,rfl,r1,r2⟩:HN λu1 u2=>us=[u1,u2]/\Ea! x u1/\RelV (.ty n) u2:=by cases r with | cons r1 t1=>cases t1 with | cons r2 t2=>show GE? t2 r1 r2
 cases (show u2=Value.type n from r2);show Juw I r1 ty e JnL
def Jon{K:W.Frag}{n:String}:jC! K (Cu! n) (Cu! n)=D! AC:=JY7
open E
@[reducible]abbrev T2:=js!
abbrev tk(t:T2):Gm!:=[h! AV!,h! A7!]
abbrev tv(t:T2):C!:=QCJ
def Jvt(t:T2):(tk t).map kV=tv t:=A!
def Jpr(h:tk a=tk b):a=b:=by have#[a1,a2]:=a;have#[b1,b2]:=b;unfold tk at h;simp only[List.cons.injEq,Sum.inl.injEq,and_true] at h;rw[pi,A6!]
structure CU where
 BX:KE
 AY:KE
 BG:KE
 h:G!
 o:G!
 l:G!
 r:G!
 hand:F!
 AK:Q!
 holds:NB!
 AL:Q!
def Lc{k:Str}{v:V}{r:Eq!}:YJ! k ((k,v)::r)=D! v:=by rw[IE];have:Av! (k==k):=NY k;show K?
def C0{k j:Str}{v:V}{r:Eq!}(h:¬k=j):YJ! k ((j,v)::r)=YJ! k r:=by rw[IE];have:DD! (k==j):=YK! h;show K?
def F3:A3 f v []=Ev! f:=A!
def J2x:A3 f v ((f,x)::r)=(f,v)::r:=JDW
def Dh(h:¬k=f):A3 f v ((k,x)::r)=gN!:=JDW
def Kj:Qi! C2!:=ZV
def Nr:Qi! C3!:=ZV
def Jf4:Qi! A4!:=ZV
def Jf3:Qi! Di!:=ZV
def Jck:Qi! am:=ZV
def Wc:Qi! C4!:=ZV
def Jf5:Qj! C1!:=ZV
def Sh:Qj! C3!:=ZV
def Joc:Qj! A4!:=ZV
def Joa:Qj! Di!:=ZV
def Jky:Qj! am:=ZV
def Jcl:Qj! C4!:=ZV
def Jcf:Qk! C1!:=ZV
def Jku:Qk! C2!:=ZV
def Jkv:Qk! A4!:=ZV
def Jkt:Qk! Di!:=ZV
def Jf1:Qk! am:=ZV
def Xx:Qk! C4!:=ZV
def Jf7:Qg! C1!:=ZV
def Joe:Qg! C2!:=ZV
def Jk2:Qg! C3!:=ZV
def Jod:Qg! Di!:=ZV
def Jk3:Qg! am:=ZV
def Jcn:Qg! C4!:=ZV
def Jf2:Ql! C1!:=ZV
def Jn8:Ql! C2!:=ZV
def Jkw:Ql! C3!:=ZV
def Jn9:Ql! A4!:=ZV
def Jkx:Ql! am:=ZV
def Jcj:Ql! C4!:=ZV
def Jcm:Qh! C1!:=ZV
def Jk0:Qh! C2!:=ZV
def Jf6:Qh! C3!:=ZV
def Jk1:Qh! A4!:=ZV
def Jkz:Qh! Di!:=ZV
def X7:Qh! C4!:=ZV
def Wb:Qm! C1!:=ZV
def Jch:Qm! C2!:=ZV
def Xy:Qm! C3!:=ZV
def Jci:Qm! A4!:=ZV
def Jcg:Qm! Di!:=ZV
def Xz:Qm! am:=ZV
abbrev Df(G:CU):Eq!:=[(C1!,g! G.BX),(C2!,g! G.AY),(C3!,g! GM!),Id! A4! G.h,Id! Di! v6,Id! am Ab!,Id! C4! BN!]
def Jis(G:CU):vo! C1! G.BX:=by unfold Df;rw[Lc]
def Jsq(G:CU):vo! C2! G.AY:=by unfold Df;rw[C0 Jf5,Lc]
def Dt(G:CU):vo! C3! GM!:=by unfold Df;rw[C0 Jcf,C0 Jku,Lc]
def Hm(G:CU):ex! A4! G.h:=by unfold Df;rw[C0 Jf7,C0 Joe,C0 Jk2,Lc]
def E5(G:CU):ex! Di! v6:=by unfold Df;rw[C0 Jf2,C0 Jn8,C0 Jkw,C0 Jn9,Lc]
def Gg(G:CU):ex! am Ab!:=by unfold Df;rw[C0 Jcm,C0 Jk0,C0 Jf6,C0 Jk1,C0 Jkz,Lc]
def Ei(G:CU):ex! C4! BN!:=by unfold Df;rw[C0 Wb,C0 Jch,C0 Xy,C0 Jci,C0 Jcg,C0 Xz,Lc]
def Jou(G:CU)(y:Int):JqR C2! { G with AY:=y }:=by unfold Df;rw[Dh Kj,J2x]
def Ct(G:CU)(y:Int):JqR C3! { G with BG:=y }:=by unfold Df;rw[Dh Nr,Dh Sh,J2x]
def J5a(G:CU):e0! C4! BN! (A3 am (UV Ab!) (JX7 v6 G.h (A3 C3! (PP GM!) (A3 C2! (PP G.AY) (Zg! C1! G.BX)))))=Df G:=by unfold Df;rw[F3];rw[Dh Kj,F3];rw[Dh Nr,Dh Sh,F3];rw[Dh Jf4,Dh Joc,Dh Jkv,F3];rw[Dh Jf3,Dh Joa,Dh Jkt,Dh Jod,F3];rw[Dh Jck,Dh Jky,Dh Jf1,Dh Jk3,Dh Jkx,F3];rw[Dh Wc,Dh Jcl,Dh Xx,Dh Jcn,Dh Jcj,Dh X7,F3]
def Di(G:CU){m:Str}(h:JVb [C1!,C2!,C3!,A4!,Di!,am,C4!]):UR! (Df G).lookup:=by show Ig?;have#[h1,h2,h3,h4,h5,h6,h7,_]:=h;unfold Df;rw[C0 h1,C0 h2,C0 h3,C0 h4,C0 h5,C0 h6,C0 h7];rfl
def Fe(G:CU):AZ! Df G<1000:=by change 7<1000;decide
abbrev C3(l:F!):HO:=xf! JPY
abbrev Et(l:Q!):HO:=xf! F4!
abbrev Hd(l:NB!):HO:=xf! LF!
def F1(l:R!)(k:CA!)(f:F1!)(t:T2):tU! w0! JEg f:=by
 unfold De;rw[QG,QE];congr 1;congr 1;funext q;change KB (tb!=tk t)=KB (k q=t);by_cases e:k q=t;.rw[e];simp
 .rw[AN e,AN (Gs! e Jpr)]
def Jjh{α:Go}{l:R!}{k:CA!}{f:F1!}{t:T2}(h:JAt):w0!=none:=FZ! F1 (Mf! (A8! (Tf! er!)))
def O3{α:Go}{l:R!}{k:CA!}{f:F1!}{t:T2}(v:V)(h:JAt):EL! JG1 (tk t) v=JG1++Ev! (tk t):=K5 v (Jjh h)
abbrev CC(G:CU):S!:=xY! JPE
structure BF(C:Addr)(H:Hp)(p:Addr)(G:CU):B! where
 ob:ql! JGz
 dh:AY! G.h tQ!
 dO:JXD
 dl:JSD
 dr:JXE
 hl:SG! (AY! WF (C3 BS!))
 nd:(CC G).Nodup
abbrev a8(p:Addr)(G:CU)(H H':Hp):B!:=QBO (b∉Cg!) Mb!
open S
variable {C p:Addr}{H H':Hp}{G:CU}
def BF.keep(x:Op)(k:JOe (b=p) Ul!):QG! G:=by
 show Md?
 show Me?
 show KZ?
 show Mf?
 show#[Kn! E1!,Qy! m0 x.dh,Qy! m1 x.dO,Qy! m2 x.dl,Qy! m3 x.dr,A8! (Qy! ?_ (x.hl q hq)),Aj!];unfold CC;show xC!
def BF.same(x:Op)(s:TD):QG! G:=JPD
def BF.NA(x:Op)(hb:Ul!):∃kvs,S3! KU!:=by
 unfold CC at hb;show Bk?;.show#[_,x.dh]
 show Fi?;.show#[_,x.dO]
 show Fi?;.show#[_,x.dl]
 show Fi?;.show#[_,x.dr]
 show Cu? hb;rw[<-e];show#[_,x.hl q hq]
def BF.VC(x:Op)(hb:Ul!):b≠p:=by have#[kvs,e]:=x.NA hb;have#[dx,e']:=x.ob;show QEo e e'
def BF.tup_ne(x:Op)(hb:JEi):JRl:=JuT
def BF.XO(x:Op)(hb:ru!):JRl:=JuT
def BF.fN(x:Op):(G.h≠G.o/\G.h≠G.l/\G.h≠G.r)/\(G.o≠G.l/\G.o≠G.r)/\G.l≠G.r/\SG! (WF≠G.h/\WF≠G.o/\WF≠G.l/\WF≠G.r):=by have nd:=x.nd;unfold CC at nd;simp only[BB,BY,not_or] at nd;have#[#[a1,a2,a3,a4],#[b1,b2,b3],#[c1,c2],d1,_]:=nd;show#[#[a1,a2,a3],#[b1,b2],c1,Ba!];have m:WF∈JPE:=Qt!;show#[ev! a4,ev! b3,ev! c2,ev! d1]
def BF.fld(x:Op)(dx:Addr)(m t:Int):ID! (Zh! (Zx! (Df JMK))) JMK:=by
 have n:∀{b},Ul!->b≠p:=λhb=>x.VC hb;show Md?
 show Me?
 show KZ?
 show Mf?
 show#[Gw! Ab,fy! m0 x.dh,fy! m1 x.dO,fy! m2 x.dl,fy! m3 x.dr,Ba!,Aj!];rw[Ae (n (by unfold CC;show xC!))];show x.hl q hq
def BF.OI(x:Op)(l:Q!):JH6 v6 { G with AK:=l }:=by show BW?;show B6? v6;show AG?;show#[Gw! QBH,jp a1 x.dh,Ab,ry! b1.symm,oW! b2.symm,wS! (d1 q hq).2.1,Aj!]
def BF.RV(x:Op)(l:F!):JH7 G.h jt!:=by show BW?;show B6? G.h;show AG?;show#[Gw! QBH,Ab,jp a1.symm x.dO,ry! a2.symm,oW! a3.symm,wS! (d1 q hq).1,Aj!]
def BF.XR(x:Op)(l:Q!):JH6 BN! { G with AL:=l }:=by show BW?;show B6? BN!;show AG?;show R8? a3 b2 (ry! c1) Ab (wS! (d1 q hq).2.2.2) Aj!
def BF.tV(x:Op)(t:T2)(ha:Ce! (C3 []))(hf:a∉Cg!):JH5 (Hd (G.holds++[(t,a,[])])) JBw:=by
 show BW?;show B6? Ab!;show AG?;show Oy? Ba! ?_;.show BO?;(.rw[Ae (d1 q hq).2.2.1];show x.hl q hq);·(have e2:q=(t,a,[]):=by simpa using hq);subst e2;have:a≠G.l:=λz=>JzP hf z;rw[Ae this];show ha
 ·(have e2:CC JBw=Cg!++[a]:=by simp[CC]);rw[e2];show Il Aj! hf
open E
abbrev OM(t:T2):CW!:=Kg! QCJ
abbrev yB(q:Ef!):CW!:=Kg! [OM H!,g! WF,vx! q.2.2.map]
abbrev J39(q:ES!):CW!:=Kg! [OM H!,g! Rs]
abbrev ya(hs:F!)(os:sK)(rs:Q!):CW!:=Kg! [vx! Lj!,JR! (Dj! yB),JR! (Lk! J39)]
def Ja5(t:T2):T! (OM t).canLay0/\(OM t).depth<=2:=by
 unfold OM;show g?;.simp[PyData.canLay0,PyData.canLayAll0]
 .show E3?
def Ll(t:T2):df (OM t):=#[(Ja5 t).1,Fh! (Ja5 t).2]
abbrev CB(H:Hp):db! F!:=Mw! (λa t=>tP!)
def Kg{K:W.Frag}{H:Hp}{a:Addr}{t:T2}(e:tP!):Gp! HC Bs! OM t:=QO! e (Tm! Er! Er!)
def Jji{K:W.Frag}{H:Hp}{as:S!}{ts:F!}(p:F5!):Q5! JGw Ho! OM:=J6r (λ_ _ e=>Kg e) p
abbrev LB(a b:T2):B!:=Qr! [a.1,a.2] [b.1,b.2]
def Gc(a b:T2):WY!↔(a.1<b.1\/(a.1=b.1/\a.2<b.2)):=by
 unfold LB;rw[Lf!,Lf!];by_cases h1:a.1=b.1;.rw[AF h1];by_cases h2:a.2=b.2;(.rw[AF h2,HT.QN];show g?;(.intro z;cases z);.intro z;lia);.rw[AD h2];show g?;(.intro z;show Cj! h1 (BN z));.intro z;show Ek! AM
 .rw[AD h1];show g?;(.intro z;show l! (BN z));.intro z;show Ek! AM
open S
inductive Pj(xs:C!)(H:Hp)(Q:VK):B!
 | mk d (l:CQ! (T2×V)) (ss:F!) (_:eq!) (_:wL! Db) (_:l.length<64) (_:ss.Perm (Db EG!)) (_:ss.Pairwise LB) (_:∀(r:Addr)(as:S!),V7!->PQ! ss->S5! r (EY! r Fr!))
def D9(hc:A1!):fH! Pj:=by
 show E4?;have#[d,l,ss,rfl,hd,YI,pm,pw,q]:=h;show Wv hc AB s σ H _ us Q I rv #[d,QQ! (λq=>(JVy,Rs)),A!,?_,Fj! YI,?_,?_,λr M hr mp mw ma=>?_];·(have e:((Db nt!).map JRn)=Db nB!:=Mo!);rw[e];show hd
 ·(have nd:ss.Nodup:=pw.imp λ{a b} h z=>by rw[Gc,z] at h;lia);have YX:WM!:=JGn;show Nq?;rw[e];show JeY (by have#[a1,a2]:=a;have#[b1,b2]:=b;simp at z;rw[z.1,z.2]) YX
 .intro p hp;have#[q,_,e]:=ZN hp;rw[<-e];simp
 ·show Nq?;rw[e] at mp;(have e2:ww OM!=ss.map QCY:=by show Py (lt:=λa b=>T! (OK! a b)) (λa z=>by rw[Jat] at z;cases z) (λa b h1 h2=>by have:=Jk7 h1 h2;show I? Jat;cases this) (mp.trans (pm.symm.map _)) ?_ ?_;(.rw[EY];show mw);.rw[EY];show pw);(have hl:M.length=ss.length:=JHr e2);(have e3:(OM! JVg)=(OM! B1!).map Cz!:=Mo!);rw[e3];show q r _ hr (Fm (PE! hl) λj a t e4 e5=>?_);rw[ZH] at e4;cases hm:M[j]? with | none=>rw[hm] at e4;cases e4 | some m =>rw[hm] at e4;cases e4;(have e6:(OM! (·.1))[j]?=D! m.1:=l7! hm);rw[e2,ZH,e5] at e6;have e7:[AV!,A7!]=m.1:=ZO e6;have:=Fp! ma m hm;rw[<-e7] at this;show this
open E
def Jss(h:JGV):wL! (Db JPX).map:=by
 show Oq? JPX JPY
 rw[e];show MI!
def Jye(h:sq!):wL! (Db QDY).map:=by
 show Oq? QDY F4!
 rw[e];show MI!
def Fo{K:W.Frag}{a p:Addr}{xs:C!}{tt:TT}{te:TE}{caps:By!}{σ:L2.St}{H:Hp}{Q:EA!}(Pv:LA!)(h0:LP!)(hl:JQt)(hs:g5!)(hd:RN!) : Ew! (Eu! (Ep! (VA K a).stop DK! (VA K a).go (VA K a).SM (Kw! (Fv! VI!)))):=by
 show DM?;show B9?
 show B5?
def Jfq{lo:Int}{n:Nat}{p:Addr}{tt:TT}{te:TE}{caps:By!}{σ:L2.St}{H:Hp}{Q:EA!}(Pv:LA!)(h0:LP!)(hl:JL4 (i<=n))(hs:∀i ys H2 (N:Go!),JjN (i<n) wZ! wZ!)(hd:QAe n) : Ew! (Eu! (Ep! (q_ lo n).stop DK! (q_ lo n).go (q_ lo n).SM (Kw! (Fv! VI!)))):=by
 show Ce? (n-i) (i<=n) n;show BX?;show H4?;by_cases IP:i<n;.show Ib?;have#[e,y]:=y;subst e y;show hs i ys _ (nM! (n-i) (n-xL) (Am!<=n)) IP pv a9!
 show JW? nL!
open S
variable {X:Cx Kx}{sc:Scope}{cl:List (Str×Addr)}{AB:List (Addr×Obj)}{σ:L2.St}{H1:Hp}{s1:Shared}{fp:List Addr}{N:List Str}
open E
abbrev Jvy(K:W.Frag)(wi:TI)(caps:By!)(tt:TT)(te:TE):TE:=hC! (Gr! /\
 hL! (M_ λa u v=>BX!/\yB! [u,v]/\tt (D! u::QC0) H3 λb H4 =>
   if Rv! then JfH H4
   else aB!))
open S
variable {X:Cx Kx}{elt iter:Expr}{x y0:Str}{px cx pt pos:Pos}{kt:Nat}{ifs:List Expr}{sc:Scope}{cl:List (Str×Addr)}{caps:List (Str×Nat)}{wi:TI}{tt:TT}{te:TE}
def Jrg{X:E!}{AB:Ch}{σ:L2.St}{H:Hp}{s:Shared}{Q:VK}{use:XF!}{RQ:NE}(hc:A1!)(hi:JQh)(KA:HV!)(JH:HT!)(ID:Ex!)(II:HW!)(hx:HH!)(iP:ej!)(KH:EF!)(has:HX!)(MA:EE!)(hN:zg!)(ht:JKw)(he:JKu)(I:I!)(h:Jvy Kx wi AJ! tt te σ H Q)(fin:Xm!)(hs:HY!) : JPC JNZ [KA! x px,KA! y0 cx]:=by show DR?;have xS:JOT:=FR iP;show KG? [x,y0] (M_ λa u v=>JeT [u,v] (D! u::QC0));show Ey?;have#[ay,uu,vv,ey,rP,q]:=b7;.show Gq?;show Ha?;show DH? l1;show RU? (x::y0::TB!) (Cu (br! 0 iS iS) (Cu (JMl xS xS) Hk)) O4! (D! uu::lH! vv) #[ay,_,ey,rP,A!,_,_,A!,_,_,A!,A!,A!,A!];show Ez?;show#[[D! uu,D! vv],A!,I8,q]
def Jxj{X:E!}(hc:A1!)(hi:JQh)(KA:HV!)(JH:HT!)(ID:Ex!)(II:HW!)(hx:HH!)(iP:ej!)(KH:EF!)(has:HX!)(MA:EE!)(hN:zg!)(ht:JKw)(he:JKu)(hs:HY!:=by show Aa?):Bo! JNZ (Jvy Kx wi AJ! tt te):=by show N?;rw[eval_ListComp];show Jrg (use:=SB) hc hi KA JH ID II hx iP KH has MA hN ht he I h (?_) hs;rintro C D H' s1 s' H1 hC I1 I' hn ⟨m,hm⟩ q;subst hC;show#[m,hm,λh' kH=>#[by!,H',Ti (s':=s') I1 I' hn kH,A!,q]]
open E
abbrev Jli(p d:Addr):HO:=.ext λh=>h.IsItemsView p d
def X8(d:Addr)(hd:WL!) : MeetsIn Da! w (Builtin.«dict.items» #[[Gz!],[]]) (λ_ R s=>JbN/\vh! UF (JAF Yr! (#[ZZZ,Gz!]))) :=.of_wp λA R s #[ht,h]=>by unfold Builtin.«dict.items»;show AY?;unfold Builtin.Dict.noArgs;show AZ? K' ht;show H7? d;show Ab?;show IS?;show IK?;show C9? hd;show BJ?;show ZR (C_ (ZS (Bp! h)))
open S
def Jx2:Jp6 "dict.items" eK! (Jli p d):=by show Hy?;show Hz?;show J?;cases rs;show Hb? KU!;show JF9 JMn #[o,g1,g2.1] PySem.F.entry_dict_items (PySem.F.args_dict_items_1 _) (X8 d lo) #[#[o,g1,g2.1],?_];show B3?;show Ox? Jli;show N6? Yr! Yr!;show OZ?
open E
abbrev Cn(vs:Az!)(a0:Value):B!:=a0=GM/\vs[2]?=D! a0
abbrev uP(h:Heap)(g:ds!)(e:Addr)(cls:Value):B!:=g e/\M_ λoe vs a0=>JZf/\oe.cls=cls/\c6!/\ye! /\
 (vs[1]?=D! GM\/M_ λT oT ts=>JTI/\g T/\T≠e/\JZg/\gP!/\ts[3]?=D! GM)
def uP.mono(x:uP h g e AD!)(k:∀b,g b->g' b):uP h g' e AD!:=by have#[g1,oe,vs,a0,h1,h2,h4,h5,h6]:=x;show#[k _ g1,oe,vs,a0,h1,h2,h4,h5,h6.imp (Xy!) ?_];rintro⟨T,oT,ts,t1,t2,t3⟩;show#[T,oT,ts,t1,k _ t2,t3]
abbrev zk(h:Heap)(g:ds!)(e:Addr)(cls fl:Value):B!:=g e/\vo λoe vs a0 T oT ts=>JZf/\oe.cls=cls/\c6!/\ye!/\JTI/\g T/\T≠e/\JZg/\gP!/\ts[3]?=D! fl
abbrev uO(h:Heap)(g:ds!)(e:Addr)(cls:Value):B!:=pu! h GM
def uO.at(x:pB! h):uP h g e AD!:=by have#[g1,oe,vs,a0,T,oT,ts,h1,h2,h3,h4,h5]:=x;show#[g1,oe,vs,a0,h1,h2,h3,h4,x! #[T,oT,ts,h5]]
abbrev ZW(P:Program)(w:World):gm:=λouter H s E e s'=>M_ λex cls H'=>e=dY!/\JfM (Gl! EH!/\IP!)/\JKs/\ix!/\cS!/\Je8/\JbU
def Wm(ok:DX!)(e:WF!):∃ob,KS! ob:=by have x:=ok a o e;cases o with | BK xs=>have#[_,_,_,_,e]:=x;show#[_,e] | BI xs=>have#[_,_,_,o,e,_]:=x;show#[_,e] | dK kvs=>show H9? | dT kvs=>show H9? | set S n=>have#[o,_,_,_,e,_]:=x;show#[_,e] | ins C dx fs=>have#[_,_,_,e,_]:=x;show#[_,e] | own y=>have#[_,e]:=x;show#[_,e] | xd fs=>show HE?;show#[_,e] | rng lo hi=>have#[_,_,_,e]:=x;show#[_,e] | IV ob u=>have#[e,_]:=x;show#[_,e] | rB ps=>show IL? | met f y=>show IL? | ext φ=>have#[_,#[_,e],_]:=x;show#[_,e]
structure NS(fr:S!)(g:ds!)(h h':Heap):B! where
 keep:E6! (MJ!->b∉fr->¬g b->mE!)
 slot:JF6 Ys! gL!
def NS.trans(a:NS fr g h h1)(b:NS fr g h1 h2):NS fr g h h2 :=#[ju! (b.keep c o (a.keep c o e n1 n2) n1 n2),λc o e m=>by have#[sl,e1]:=a.slot c o e m;have#[tZ,e2]:=b.slot c _ e1 m;show#[tZ,e2]]
open S
variable {M:Model}{A:Around}{E:Value->Shared->Prop}{s:Shared}{base:Heap}{env:Env}{outer:List Env}{L e:Addr}{cls:Value}{g:Addr->Prop}
def Js1{head:Value}{hn:Bool}{oe:Obj}{vs:Az!}{Q:D9!}(ij:fx!)(hl:Xh!)(hf:gQ!)(he:JSz)(hd:c6!)(hsz:1<vs.size)(h:∀h' T oT ts u_,z! Nw! e u_->u_.cls=oe.cls->u_.data=Rn! (JM2 1 (UV T))->EX! EH! T->T≠e->JZV->gP!->ts[3]?=D! (GD! L) ->
  JVO Ro! (b∉JM0)->(JF7 Ro! gL!)->QAX) :
 UE! (do let a <-PySem.frameOf env;let pl <-entryPlaceOf L hn;let b <-EntryCells.newEntry head a GM (GD! L) GM pl;Yn! dW! 1 b):=by
 have JJa:e∉(env::outer).filterMap (·.frame):=λhm=>by
  have#[_,o,ho,zE]:=hl.mem hm
  rw[he] at ho;cases ho
  show zE vs hd
 show ZR (wpAny_frameOf_fun ij hl hf λh1 s1=>ZR (wpAny_entryPlaceOf λpl UT=>?_))
 unfold EntryCells.newEntry newFields
 show ZR (C_ ?_ (UT.sizeOk5 _ _ _ _ _))
 obtain⟨ob,zB⟩:∃ob:Obj,ob={ cls:=B5! "traceback",dict:=none,data:=Rn! ([head,FS L,GM,GD! L,GM]++(if pl.isEmpty then YN! 6 jF! else pl)).toArray }:=BT!
 have e1:z! Nv! e oe:=(s1.2.1 e JJa).trans he
 have e2:z! (h1.push ob).get? e oe:=ZT _ e1
 have Te:h1.objs.size≠e:=EM (AU e1)
 rw[<-zB]
 show HY e2 hd hsz (h _ Hn! ob _ _ (EJ _ e2 (LA (FQ hd _))) (xz Obj.cls_mapFields) (FQ hd _) ?_ Te ((CQ _ _ (O8! Te)).trans (ZU h1 (Ed! zB))) (by rw[zB]) Ix (λb o hb hm q=>?_) λb o hb q=>?_)
 .cases q:EH! Hn! with
  | none=>rfl
  | some o =>
    have#[sl,q2]:=s1.2.2 _ o q
    show DL! AU q2 It!
 .show JNJ ((s1.2.1 b hm).trans q)
 .have#[sl,q2]:=s1.2.2 b o q
  show#[sl,JNJ q2]
def Cn.set{vs:Az!}{a0 v:Value}(c:ye!):Cn (JM2 1 v) a0:=#[c.1,U! (lG! Array.getElem?_setIfInBounds_ne) c.2]
def J4n{Q:D9!}(ij:fx!)(hl:Xh!)(hf:gQ!)(x:v5!)(fresh:yi!)(h:JOo (GD! L) QEN):QDe jv! env:=by
 have#[ge,oe,vs,a0,h1,rfl,h3,h4,h5]:=x;unfold noteFrame;simp only[hf];obtain h5|⟨T,oT,ts,t1,t2,t3,t4,t5,t6⟩:=h5;.have z1:=b4! h5;show D8? h5;show Cr?;show Js1 ij hl hf h1 h3 z1 λh' T oT ts u_ k1 k2 k3 k4 k5 k6 k7 k8 k9 k10=>JvB #[ge,u_,_,a0,T,oT,ts,k1,k2,k3,h4.set,by simp[z1],fresh T k4,k5,k6,k7,k8] q WK! q;show Hc?;rw[z,h1] at e';cases e';show hn vs h3
 .have z1:=b4! t1;show D8? t1;show ES?;show ZR (DE t4 t5 t6 ?_);rw[AD (show ¬(Av! (Value.none==GD! L)) by simp[rawInt])];show ZR (HY t4 t5 (b4! t6) ?_);have other:∀b,b≠T->JbJ (Lb! T (SC! (·.setIfInBounds 3 Value.none))).get?:=SZ (P! CQ mn!);(have nr:E6! (IC!->(∀vs,o.data≠Rn! vs)->b≠T):=λb o hb zE q=>by rw[q,t4] at hb;cases hb;show zE ts t5);(have nfr:∀b∈TY (env::outer),Ro!/\b≠T:=λb m=>by show Hc?;show#[Fw!,nr b o' e' hn];rw[z,h1] at e';cases e';show hn vs h3);show Js1 (Bf!:=Bf!) ij (hl.of_keeps λb o hb zE=>#[o,(other b (nr b o hb zE)).trans hb,A!]) hf ((other e (X6! t3)).trans h1) h3 z1 λh' T' oT' ts' u_ k1 k2 k3 k4 k5 k6 k7 k8 k9 k10 =>JvB #[ge,u_,_,a0,T',oT',ts',k1,k2,k3,h4.set,by simp[z1],?_,k5,k6,k7,k8] (JS7 (λz=>nj! n t2)) (nfr b m).1 (JS7 (nfr b m).2);by_cases z:T'=T;(.rw[z];show t2);.show fresh T' (DO! (other T' z) k4)
def J7w{Q:D9!}{fl:Value}{fo:Iu!}{fr:S!}(x:pu! Tk fl)(hg:JBy)(h:JOo (fo.elim GM λf=>GD! f) fr):JQU fo:=by
 have#[ge,oe,vs,a0,T,oT,ts,h1,h2,h3,h4,t1,t2,t3,t4,t5,t6]:=x;show MW?;unfold setFlight;show D8? t1;show ES?;show HY t4 t5 hsz (JxP h1 #[JBz,λb o q m=>?_]);show LX?
 show Ld? (hg b m (dj! t2))
def J4z{Q:D9!}(x:pB! Tk)(hg:JBy)(h:∀h',pB! h'->ba! fr Tk->QAX):JQU SB:=J7w (fo:=SB) x hg h
def J7v(hl:Xh!)(x:pu! h' fl)(a:ba! QEN Tk):∀T oT ts,JZV->gP!->T∉JM0:=λT oT ts k1 k2 m=>by have#[_,o,e1,hn]:=hl.mem m;have#[sl,e2]:=a.slot T o e1 m;rw[k1] at e2;cases e2;show hn ts k2
def Jx6{Q:D9!}(ij:fx!)(hl:Xh!)(hf:gQ!)(x:v5!)(fresh:yi!)(h:JTY):Gf! M A (KM! jv! e env) (λ_ s2=>Gf! M A (KM! setFlight e SB) Q E s2) E s:=by
 show J4n ij hl hf x fresh λh1 x1 a1=>?_;have fr:=J7v hl x1 a1;have#[ge,oe,vs,a0,T,oT,ts,ik,h2,h3,h4,t1,t2,t3,t4,t5,t6]:=x1;show MW?;unfold setFlight;show ZR (DE (s:=Hp!) ik h3 t1 ?_);show ES?;show HY (s:=Hp!) t4 t5 hsz (JxP ik (a1.trans #[JBz,λb o q m=>?_]));show LX?
 show Ld? (fr T oT ts t4 t5 (o! z m))
def J1m{Q:D9!}(ij:fx!)(hl:Xh!)(hf:gQ!)(x:v5!)(fresh:yi!)(h:JTY):UE! (leaving env dW!):=ZR (Jx6 ij hl hf x fresh h)
open E
open S
variable {X:Cx Kx}{AB:List (Addr×Obj)}{σ:L2.St}{H H1:Hp}{s s1:Shared}{h':Heap}{g:Addr->Prop}{ex:Addr}{cls:Value}
def Jir(ok:PV P w H1 h)(a:ba! fr h)(hf:JBx)(hg:∀b,g b->cF!):vg! H1:=λb o e =>(ok b o e).PZ (λc u hc q=>a.keep c u q (JuG hf) (JuG hg)) (λ_ q=>q) Xv!
def Jl8(u:Un fs [] H0 H1 s0 h)(a:ba! fr h)(hg:nf! s0.get? (¬g b))(ij:E6! (H6! s0.get?->Ys!->b∈fs))(hH:JBx):Un fs [] H0 H1 s0 h' where
 keep:=λb o e n1 n2 n3=>a.keep b o (Xw! b o e n1 n2 n3) (λm=>n2 (IG! ij m)) (IH! hg)
 slot:=λb o e n1 m n3=>by
  have#[sl,q]:=u.slot b o e n1 m n3
  by_cases hm:Ys!
  .show Mg?
   show#[tZ,q2]
  .show#[sl,JsE]
 free:=u.free
 there:=λb o e n=>by
  have#[o',q]:=s7! n
  by_cases hm:Ys!
  .show Mg?
   show#[_,q2]
  .show#[_,JsE]
 SV:=u.SV
 QA:=u.QA
 SW:=u.SW
open E
abbrev Jzj(X:E!)(E:XK):B!:=∀(AB:Ch)(σ:L2.St)(H1:Hp)(s1:Shared)(ex:Addr)(cls:Value),Pn!->uP s1.heap (λb=>JN5 cF!) ex AD!->E AD! SB H1->Gx! X.xe ex s1
open S
variable {P:Program}{w:World}{K:W.Frag}{mg:Str->Option Value}{base:Heap}{N:List Str}{qual:Str}{scope:Scope}{f:Addr}{cd:Value}{A:Around}{outer:List Env}{s:Shared}{H:Hp}{E:XK}
def Hj:Jzj (JZx) E:=by
 intro AB σ H1 s1 ex cls I x hE;have LV:mf! (∃o',z! jb! b o'):=Bg! (QBA JDl);show J1m (Bf!:=Bf!) (L:=UF) I.ok.frames I.stack A! x (λb q=>?_) λh' x' as=>?_;.show g?;(.cases q2:EH! b with | none=>show q2 | some o =>have#[o',e]:=LV b o q2;rw[q] at e;cases e);.cases q2:H1 b with | none=>rfl | some o =>have#[ob,e]:=Wm Dd! q2;rw[q] at e;cases e
 .have UB:∀b∈TY (JAH),cF!:=JVk;show#[ex,AD!,H1,A!,x',hE,I.os,JG!,Jl8 (fs:=TY EK!) I.base as (λb o e z=>?_) (λb o e m=>?_) UB,Jir Dd! as UB λb z=>z.2];(.have:=z.1;have e':IC!:=e;show n? (Yt! (JbJ (M0 MV! P w K mg base N qual scope f cd A outer s H E).JM.heap.get?)) e';cases this);.obtain z|z:=ZM (show b∈s.heap.objs.size::TY EK! from m);(.have:=AU (show IC! from e);show I? z;show M? this It!);.show z
def Ci:Kl MV! (JZx) E:=by intro AB σ H0 s0 e s' I #[ex,cls,H',he,x,hE,ho,hg,u,ok];subst he;have I':Inv (QA2 MV! cd) AB σ H' s':=I.eC (ch:=[]) ho u ok hg tG!;show Hj AB σ H' s' ex AD! I' (x.at.mono λb z=>#[?_,z.2]) hE;cases q:EH! b with | none=>show q | some o =>have#[o',e]:=I.base.there b o q JDl;rw[z.1] at e;cases e
open E
open S
variable {P:Program}{w:World}{K:W.Frag}{mg:Str->Option Value}{base:Heap}
def ok1{x qual:Str}{st:Stmt}{f:Addr}{fd:FuncData}{N ps:j!}{k:Nat}{sp:Sp}(F:RK!)(S:hB!)(len:fh!)(VI:Jgq (T_ (QEz MV!) (Kb st) t)):JQ1:=JDe (J22 lk UG S len (JFk JxG))
def F7{x qual:Str}{st:Stmt}{f:Addr}{fd:FuncData}{N ps:j!}{k:Nat}{sp:Sp}(F:RK!)(S:hB!)(h:JxQ MV! IR):JQ1 :=ok1 F S (JAT) JuH
def FY.VT{k:Nat}{f:Addr}{fd:FuncData}{ps:j!}{sp:Sp}(F:QFf YC):JRR :=#[N6!,JwM E (λr s' h=>by cases r with | ok fl=>show Ay? fl h | error e=>show C6?)]
open E
abbrev x9:Y!:=[Jzh,B5! "Exception",B5! SI!,B5! "object"]
structure Wy(K:W.Frag)(mg:wS)(x:Str)(C:Addr):B! where
 mg:CF! mg T5!
 ex:JSx
open S
variable {X:Cx Kx}{x:Str}{C:Addr}{E:XK}{np JB pos p1:Pos}{msg:Str}{j:Nat}
def XCa{P:B!}(F:Iu!->ClassData->hA!->BH!){o:L1! Obj}(q:T! (W.excIn.match_6 (λ_=>Bool) o F (ja!)))(k:∀dd cd sl,o=D! #[B5! "type",dd,.cls cd,sl]->T! (F dd cd sl)->P):P:=by
 obtain _ | ⟨ty,dd,dat,sl⟩:=o
 .cases q
 show Cw? ty
 rename_i ty;by_cases e:ty="type"
 .subst e;show Cw? dat
  show k _ _ _ A! q
 .delta W.excIn.match_6 at q;cases ((Cx! (·=true) (dif_neg e)).mp q:Ry!)
def XCb{P:B!}(F:G!->Y!->L5!->L5!->L5!->L5!->String->L5!->BH!){l:Y!}{m:CQ! (Xr! JB!)}(q:T! (W.excIn.match_1 (λ_ _=>Bool) l m F (λ_ _=>false)))(k:∀C' bm k0 k1 k2 k3 n k5,l=FS C'::bm->m=JB0 (GE! n)->T! (F C' bm k0 k1 k2 k3 n k5)->P):P:=by
 obtain _ | ⟨v,bm⟩:=l
 .cases q
 show Cw? v
 obtain _ | ⟨k0,_ | ⟨k1,_ | ⟨k2,_ | ⟨k3,_ | ⟨_ | n,sl⟩⟩⟩⟩⟩:=m<;>try show Rx?
 show Cw? n
 obtain _ | ⟨k5,_ | _⟩:=sl<;>try show Rx?
 show k _ _ _ _ _ _ _ _ A! A! q
def XCi{K:W.Frag}{C:Addr}{bmB:Y!}{id:String}{P:B!}(q:T! (W.excIn K C bmB id))(k:∀dd nm bs bm ns qn hd sn sub ab col k0 k1 k2 k3 k5,z! Ru! C #[B5! "type",dd,.cls #[nm,bs,MU!::bm,ns,qn,hd,sn,BO!,ab,col,IR],#[JB0 JOE]]->T! (W.tailIn K bmB bm)->T! (W.nsOkIn K ns)->W.nsIn K ns jA!=D! SB->P):P:=XCa _ q λdd cd sl ho q=>XCb _ q λC' bm k0 k1 k2 k3 n k5 hm hs q=>by
 simp only[Bool.and_eq_true,beq_iff_eq,Bool.not_eq_true'] at q
 have#[#[#[#[#[rfl,rfl],h],ht],f],g]:=q
 show k dd cd.name cd.bases bm cd.ns cd.qualname cd.hasDict cd.slotNames cd.subclasses cd.abstract cd.collection k0 k1 k2 k3 k5 ?_ ht f g
 rw[ho,<-h,<-hm,<-hs]
def Js0{K:W.Frag}{h:Heap}{C:Addr}(XK:V1!)(q:JSx):JxU:=XCi q λdd nm bs bm ns qn hd sn sub ab col k0 k1 k2 k3 k5 ho ht f g=>#[nm,qn,ns,bs,bm,hd,sn,BO!,ab,col,dd,k0,k1,k2,k3,k5,_,P! XK ho,.of_isNs (W.isNs_of_in XK f),W.nsMap_none_of_in XK f g,W.tail_of_in XK ht]
def Jvk{X:E!}{h:Heap}{mg:wS}(XK:Kx.In h)(c:Wy Kx mg x C):JxU:=Js0 XK c.ex
def G8{X:E!}(hc:A1!)(hg:E2!)(c:Wy Kx X.mg x C)(hx:Jzj X E)(hex:X.ex=[]:=by rfl)(hd:Cp!:=by decide)(cK:JKZ hN!:=by rfl)(hs:QD3 hN! (iz! (wp msg) j p1):=by rfl) : PS X (.Raise (AC! (.Call (.Name x np) hN! [] JB)) SB AG!) (λ_ _ H=>Zt! C):=by
 show V?;have#[nm,q,N,bs,bm,hdct,sn,sub,ab,col,dd,k0,k1,k2,k3,k5,mN,hC,hN,zD,tl]:=Jvk (X:=X) I.mod.Z' c;show wpAny_Raise_call_subU (C:=C) (nm:=nm) (q:=q) (N:=N) (bs:=bs) (bm:=bm) (hdct:=hdct) (sn:=sn) (BO!:=BO!) (ab:=ab) (col:=col) (dd:=dd) (k0:=k0) (k1:=k1) (k2:=k2) (k3:=k3) (k5:=k5) JN3 (bmB:=x9) ZV JN3 (tl.hasType ZV) Mt! cK zD ?_;show Ip I hg c.mg HF! hd;have ha:PA X hN! (Dr (as! msg) Ht):=Aa Ap Ad hs;have hA:=ha JB AB s σ H (λvs H1=>so! msg/\H1=H) I DQ!;rw[hs] at hA ⊢;show HZ (FG hA ?_);rintro us s2 ⟨vs,H2,I2,r2,e1,e2⟩;subst e1 e2;show#[A!,by change us.length<=sizeLine;rw[<-r2.length];change EJ! 1;decide,P! I2.bk hC,(let#[o,es,ep,e,r]:=hN;#[o,es,ep,KH! I2.bk,r]),tl.keeps I2.bk,λh' e hm=>?_];have#[t,ht,_]:=hm.there;have none_:∀b,Gl! s2.heap.get?->JN5 (Gl! H2):=λb q=>by show g?;(.cases q2:ik! b with | none=>rfl | some o =>have#[o',e']:=I2.base.there b o q2 JSj;rw[q] at e';cases e');.cases q2:H2 b with | none=>rfl | some o =>have#[ob,e']:=Wm I2.EK q2;rw[q] at e';cases e'
 have I3:S1! H2 { s2 with heap:=h' }:=I2.kept (t':=s2.toks) hm.keeps;show hx AB σ H2 _ e T5! I3 #[none_ e hm.new,_,_,_,ht,A!,A!,DQ!,NI!] h
open E
open S
variable {X:Cx Kx}{AB:List (Addr×Obj)}{σ:L2.St}{H:Hp}{s:Shared}
def Qa8{t':Nat}{fp:S!}{h':Heap}(I:I!)(k:JzV (b∉fp) IC!)(hf:z5!):rm!:=by
 show MV? (b∉fp) (by rw[(hf b z).1] at e;cases e)
 show RM? fp uc! uc! uc!;.have#[_,h1,_,h2,h3,h4]:=D5! hf;show#[h2,h1,h3,h4]
 show P1? (λz=>(hf _ z).2.1 A!)
 show Qb?
def Qaw{T:Addr}{o:HO}{ob:Obj}(I:I!)(hf:Md X AB H T)(ho:JKJ T)(new:JHj (EY! T o) T):JHa T s:=by
 have#[h0,h1,YJ,h2,h3,h4]:=hf;have ne:∀{b u},Tj!->b≠T:=qN! h0;show I.step (s:=s) (h':=Tk) (t':=GB!) (g':=s.gens) (d':=s.drawn) (ch:=[T]) os! (λb o _ _ _ e _=>e) (λb o _ _ _ e _=>#[o.slots,e]) (λb o hc _ n=>?_) (iv! #[o,e]) (λb xs e=>?_) (λb o u e=>?_) (λb ps e=>#[Dc!,?_]) (λm hm=>hm) (nO!) JG!;show MT? (b=T) h2 h1 h3 h4
 .rw[PW! (hc (by simp[z]))];show n
 .rw[v3!];show e
 .rw[v3!];show e
 .rw[v3!,e];simp
 .by_cases hb:b=T;(.show Df? new);.show L3? (λc v _ q=>q)
open E
open S
variable {prog:Program}{w:World}{A:Around}{E:Value->Shared->Prop}{s:Shared}
def Jqo{it t:Addr}{i:Nat}{items:Az!}{x:Value}{Q:NE}(hit:JjE)(ht:JXS)(hx:items[i]?=D! x)(hQ:wm! (jw! it t (Am!)) (JzE x)):JYQ:=by show Fq?;have#[ol,zA,_,nl,zG]:=ht;show Ka?;show O0?;show Ga?;show Ja?;show JT?;rw[AD WW];show GZ?;show EP?;simp only[CL,hx];show ZR (HY ho hd Ix (ZS #[x,A!,JVE (JYf ho hd hc ?_)]));rw[FQ hd];simp[rawInt]
def Jn7{it t:Addr}{i:Nat}{items:Az!}{Q:NE}(hh:Hf!)(hit:JjE)(ht:JXS)(hx:za!)(hE:∀h' e,Heap.ExtBut it Tk h'->(∃o,tD! e/\o.cls=B5! Hl!)->Gx! E e CU!):JYQ:=by show Fq?;have#[ol,zA,_,nl,zG]:=ht;show Ka?;show O0?;show Ga?;show Ja?;show JT?;rw[AD WW];show GZ?;show EP?;simp only[CL,hx];show Pi?;show E0?;show QW?;show E1?;show GF?;show JJ?;show ZR (ZS (je! (hE _ _ JXG op!)))
def Jtm{z TI TO i1 i2 l1 l2:Addr}{k:Nat}{xs ys:Az!}{x y a b:Value}{Q:Qe!}(D:iu!)(hz:JS4)(hTI:JUc)(hTO:wK! Tk)(h1:JjY)(h2:JOB i2 l2 k)(rR:fo!)(pY:yp!)(hx:xs[k]?=D! x)(hy:ys[k]?=D! y)(hQ:∀h',IsZip h' z TI TO (GD! UF)->gq! h' TO->jw! i1 l1 (k+1)->JOD i2 l2 (k+1)->gq! h' UF -> (JuJ uD!)->JHt):JcU:=by
 show OF?;show QD?;show PV?;show Nl?;simp only[IA];show Oo?;show Kb?;show Iu?;show J5? (Jqo JdR JdS hx λbg j1 NO=>ZS ?_);have o2:wK! bg:=KM jy! D.TOi1 (jx! _ _ D.TOz hTO);show L4? o2 o2 (λs_ o3' UL=>ZR (Yu! (ZS ?_)));have o3:OO! s_ TO x b:=o3';have j2:=Jl3 h2.extBut D.i2z D.i12.symm D.TOi2.symm;have m2:=Jl3 pY.extBut D.l2z D.l2i1 D.l2TO;show ZR (ZR (wpAny_onRaise (Gt! (Pr! Builtin.SmallTypes.nextOf i2) (wpAny_nextOf_list_item j2 m2 hy λJJQ j2' oQ=>ZS ?_))));have o4:OO! JJQ TO x b:=KM oQ.extBut D.TOi2 o3;show L4? o4 o4 (λSY o5' oP=>ZR (Yu! (ZS (ZS ?_))));have o5:gq! SY TO:=o5';show ZR (JT o5 A! (ZR (jk! ?_)));have hsz:SY.objs.size=s.heap.objs.size:=by rw[oP.1,oQ.1,UL.1,NO.1,FC.1]
 have z5:QDj SY:=JbK D.TOz.symm D.i2z.symm (SJ! _ _ D.TOz.symm (jy! _ _ D.i1z.symm z1));have k5:JuJ JKM:=λc o c1 c2 c3 c4 e=>JbK c2 c4 (SJ! _ _ c2 (jy! _ _ c3 (jx! _ _ c1 e)));have a1:SY.IsTupleIter i1 l1 (k+1):=((j1.extBut SJ! D.TOi1.symm).extBut oQ.extBut D.i12).extBut oP.extBut D.TOi1.symm;have a2:SY.IsListIter i2 l2 (k+1):=j2'.extBut oP.extBut D.TOi2.symm;have zl:SY.objs.size≠z:=EM (AU z5);show Gt! (Gx! Builtin.SmallTypes.ownedTupleHandOut z (UV SY.objs.size)) ?_;have z6:IsZip (SY.push (um! (#[ZZZ,x,y]))) z TI TO .ellipsis:=ZT _ z5;show G2? z6 (λJJP z7' JAx=>?_);have z7:JS5 JJP:=z7';show EE z7 Ix λsv z8' JAw=>?_;have z8:JS5 sv:=z8';have up:∀c o,c≠z->JKM->PF! sv.get? c:=λc o c1 e=>JbL c1 c1 (ZT _ e);have t8:gq! sv SY.objs.size:=JbL zl zl VT!;rw[hsz] at z8 t8;show ZS (Bp! (ZS ?_));rw[hsz];show hQ sv z8 (up _ _ D.TOz o5) (let#[o,e,r]:=a1;#[o,up _ o D.i1z e,r]) (a2.at λo e=>up _ o D.i2z e) t8 λc o c1 c2 c3 c4 e=>up c o c1 (k5 c o c1 c2 c3 c4 e)
def Jvj{z TI TO i1 i2 l1 l2:Addr}{k:Nat}{xs:Az!}{Q:Qe!}(hh:Hf!)(D:iu!)(hz:JS4)(hTI:JUc)(h1:JjY)(rR:fo!)(hx:xs[k]?=none)(hQ:JRr (∀c o,c≠z->c≠i1->QDa->uD!)):JcU:=by
 show OF?;show QD?;show PV?;show Nl?;simp only[IA];show Oo?;show Kb?;show Iu?;show J5? (Jn7 hh JdR JdS hx λbg e NO he=>?_);have#[oe,hoe,hce]:=he;have z2:QDj bg:=KM NO D.i1z.symm z1;have hez:e≠z:=λq=>by subst q;rw[z2] at hoe;cases hoe;simp at hce
 show EE z2 Ix λs_ _ UL=>?_;show ZR (PL (T:=Hl!) (b:=AC) #[oe,KM SJ! hez hoe,hce] JIL (ZS (hQ _ λc o c1 c2 q=>KM SJ! c1 (NO _ _ c2 (jx! _ _ c1 q)))))
open E
@[reducible]abbrev zp1(h:Heap)(l1:Addr):F8!:=JfG h.push
@[reducible]abbrev zp2(h:Heap)(l1 l2:Addr):F8!:=lw! (zp1 h l1).push "list_iterator" (#[ZZZ,FS l2,nm!])
@[reducible]abbrev zp3(h:Heap)(l1 l2:Addr):F8!:=JNh zp2 (#[ZZZ,FS h.objs.size,FS (zp1 h l1).objs.size])
@[reducible]abbrev zp4(h:Heap)(l1 l2:Addr):F8!:=JNh zp3 (#[ZZZ,GM,GM])
@[reducible]abbrev wj(h:Heap)(l1 l2:Addr):F8!:=lw! (zp4 h l1 l2).push JJ! (#[ZZZ,GM,Ar! IR,Ar! IR,JSC zp2,JSC zp3])
def Jqr(l1 l2:Addr)(xs ys:Az!):Meets (Builtin.«zip.__new__» #[[B5! JJ!,FS l1,FS l2],[]]) (λ_ R s=>fo!/\yp!/\vh! (zp4 Tk l1 l2).objs.size (N3! (wj Tk l1 l2))) :=JRa (by show Ev?;have#[rR,pY,h]:=h;have tE:=sub_zip;have a1:Heap.IsTuple (Shared.heap RS!) l1 xs:=rR;have a2:Heap.IsList (Shared.heap #[JfG hp.push,g,d,tk,os]) l2 ys:=Heap.IsList.push pY _;wp_walk using i5! a1,UZ a2;show L? h)
open S
variable {prog:Program}{w:World}{A:Around}{E:Value->Shared->Prop}{s:Shared}
def Jvc{l1 l2:Addr}{xs ys:Az!}{Q:NE}(rR:fo!)(pY:yp!)(h:∀h',IsZip h' zI! (qW!) (qX!) GM->OO! h' (qW!) JDf (UV bq!)->OO! h' (qX!) GM GM->jw! UF l1 0->JOD (KI!) l2 0 -> (∀c o,QDa->uD!)->JFG zI!):Eh! (call (Cu! JJ!) [FS l1,FS l2]):=by
 show callType_new F.called_zip FB (xz F.typeCall_zip_2) (xz F.newCall_zip_2) (λobj=>F.args_object_init_3 obj _ _) F.entry_zip_new (Jqr l1 l2 xs ys) #[rR,pY,?_];have z1:JgY=KI!:=LP ..;have z2:qD! zp2 qW!:=sh! z1
 have z3:qD! zp3 qX!:=sh! z2
 have z4:qD! zp4 (s.heap.objs.size+4):=sh! z3
 have p:∀{h:Heap} {o:Obj} {c:Addr} {u:Obj},an! c u->z! (h.push o).get? c u:=λe=>TO!;have g5:wN! zp4:=Dy!;have g4:wN! zp3:=p VT!;have g3:wN! zp2:=p (p VT!);have g2:QCO JgY:=p (p (p VT!));have g1:QCO UF:=p (p (p (p VT!)));change _/\_;rw[z2,z3,z4] at g5;rw[z1,z2] at g3;rw[z3] at g4;rw[z1] at g2;rw[z4];show#[El! g5,h _ g5 g3 g4 (Zi! _ g1) (Zi! _ g2) λc o x=>p (p (p (p (p x))))]
open E
abbrev Itz(K:W.Frag)(l1 l2:Addr):It :=
 #[λi H=>a9 λxs ys x y=>vE!/\DW K H l2 ys/\PP!/\JKf,
  λi H v H'=>M_ λT x y=>Bn! T/\v=FS T/\H'=VB! T [x,y]/\(∀xs,vE!->PP!)/\∀ys,DW K H l2 ys->JKf,
  λi H=>QDX vE!]
abbrev tnZ(z TI TO i1 i2 l1 l2:Addr)(i:Nat)(h:Heap):B!:=IsZip h z TI TO GM/\OO! h TI (UV i1) (UV i2)/\(HN λa b=>wK! h)/\zv! i1 l1 i/\i3! i2 l2 i
def Jvr{P:Program}{w:World}{K:W.Frag}{es:Ih!}{kt:Nat}{pt:Pos}{z TI TO i1 i2 l1 l2:Addr}(D:iu!):Turn P w K JNy QCI [z,TI,TO,i1,i2] z (tnZ z TI TO i1 i2 l1 l2) where
 mem:=H8!
 obj:=JK! (by
  have#[hz,hI,#[a,c,hO],#[o1,e1,_,d1],#[o2,e2,_,d2]]:=st
  show E5?
  show Iw?
  show Gi? hz
  show Gi? hI
  show Gi? hO
  .show#[_,e1,λv q=>u6! d1]
  .show#[_,e2,λv q=>u6! d2])
 keep:=λi h h' st k=>by
  have#[hz,hI,#[a,c,hO],#[o1,e1,r1],#[o2,e2,r2]]:=st
  show#[Wl! z hz,Wl! TI hI,#[a,c,Wl! TO hO],#[o1,Wl! i1 e1,r1],#[o2,Wl! i2 e2,r2]]
 item:=by
  show m?
  show Y?
  show Ix?
  have#[xs,ys,x,y,q1,q2,hx,hy]:=hg
  show Kc?
  show DQ?
  have#[jts,US,p',_]:=GA! q2
  have#[u',hu',ru']:=US.get hy
  show Jtm D hz hI hO h1 h2 JPH p'.isList (x:=u) (y:=u') QCl (by simpa using hu') λh' a1 a2 a3 a4 a5 a6=>oe!
  show wpAny_letOwnedTupleGo_zip a1 λYJ b1 b2=>?_
  have IP:zs! JOw:=SZ (by
   show E5?
   show Iw?
   .show AU hz
   .show AU hI
   .show AU hO
   .have#[_,e,_]:=h1;show Bv!
   .have#[_,e,_]:=h2;show Bv!)
  have Tne:zs! (b≠s.heap.objs.size):=SZ (BP (IP b hb))
  show CX? { s with heap:=YJ,toks:=s.toks } (Qa8 I (qQ! jz! Wq! (a6 b o Wq! Wq! Wq! Wq! e)) hf)
  have hT:OO! YJ UF u u':=rk! (Tne z Ix).symm a5
  have fT:Md X AB H UF:=I.VD (ZG _) Yd!
  have I2:=Qaw (o:=WP [x,y]) I1 fT hT (JXL TA! [u,u'] ru ru' hT)
  have kp:∀{b o},b≠z->b≠TO->b≠i1->b≠i2->IC!->H6! YJ.get?:=λn1 n2 n3 n4 e=>rk! n1 (a6 _ _ n1 n2 n3 n4 e)
  show#[MN!,_,I2,A!,#[_,x,y,Yd!,A!,A!,λxs' e=>U! (I.WT e q1) hx,λEA e=>U! (I.VN e q2) hy],#[b1,kp D.TIz D.TITO D.TIi1 D.TIi2 hI,#[u,u',rk! D.TOz a2],a3.extBut jz! D.i1z,a4.extBut jz! D.i2z],KY!]
  rw[Ae (Tne b hb)]
  show(hf b hb).1
 done:=by
  show m?
  show Y?
  show Ix?
  have#[xs,q1,hx]:=hg
  show Kc?
  show CF?
  show Jvj Mt! D hz hI h1 JPH QEq λh' kp=>Ao! (Qa8 (t':=GB!) I (Bh! (kp b o (zW!) (zW!) e)) hf)
 self:=λ_ _ _ _ _ st h=>JO5 st.1 h
abbrev J9z(K:W.Frag)(ta:TA):TI:=xU! (a9 λl1 l2 xs ys=>vs=[FS l1,FS l2]/\DF K H1 l1 xs/\DW K H1 l2 ys/\R QCI H1)
def J4d{X:E!}{a b:Expr}{ta:TA}{p pos:Pos}{es:Ih!}{kt:Nat}{pt:Pos}(hg:Gl X JJ!)(hm:EX! X.mg JJ!)(ha:JTL)(hs:JjP:=by rfl)(OW:Jdq:=by rfl) : PI X JNy (ly! (.Name JJ! p) N1!) (J9z Kx ta):=by
 show AO?;show Call_ (Wi I hg hm boot_zip JoW);have#[l1,l2,xs,ys,e,q1,q2,q]:=q1;subst e;have#[u,u',rfl,ru,ru']:=r1.two;cases ru;cases ru';have#[its,rv,pt,_]:=I1.tuple q1;have#[jts,US,pl,_]:=I1.list q2;have b1:l1<s1.heap.objs.size:=by have#[_,e,_]:=pt;show Bv!
 have b2:l2<s1.heap.objs.size:=by have#[_,e,_]:=pl.isList;show Bv!
 show Jvc (show s1.heap.IsTuple l1 CR! from pt) LV! λh' a1 a2 a3 a4 a5 kp=>JO5 a1 ?_;show#[_,_,_,_,H1,A!,I1.kept (t':=s1.toks) kp,Jvr (zipApart_new b1 b2),#[a1,a2,#[_,_,a3],a4,a5],KY!,q];have:s1.heap.objs.size<=b:=by show E5?;obtain rfl|rfl|rfl|rfl|rfl:=hb<;>first|show ZG _|show QE!
 show I1.VD this (I1.EK.fresh this)
abbrev XB(B:E!)(E:XK)(fp:S!):NE:=λe s'=>a9 λex cls H' GF=>e=dY!/\pk! B GF/\JfM ((Gl! B.JM.heap.get?\/b∈fp)/\b≠B.env.locals/\IP!)/\JKs
@[reducible]abbrev Qap(X:E!)(E:XK)(sc:Scope)(cl:Bc!)(C:Addr)(N:j!)(s1:Shared)(H1:Hp)(fp:S!)(AB:Ch):E!:=(MK X sc cl C N s1 H1 fp AB).UK (XB (QAg C N) E fp)
open S
variable {P:Program}{w:World}{K:W.Frag}{mg:Str->Option Value}{base:Heap}{N0:List Str}{qual:Str}{scope:Scope}{f:Addr}{cd:Value}{A:Around}{outer:List Env}{s0:Shared}{H0:Hp}{E:XK}
variable {elt iter:Expr}{x y0:Str}{px cx pt pos:Pos}{kt:Nat}{sc:Scope}{cl:List (Str×Addr)}{caps:List (Str×Nat)}{wi:TI}{te:TE}
open E
open S
def Pc(I:I!)(hN:X.N.Nodup)(hi:LD!)(hk:Zy! y4!)(h:JQc (σ.set i SB)):UE! (do bindName o0 x GM;unbindBehindTheSuite o0 x AG!):=by
 have#[m,hn,hl]:=id I.loc
 show O8?
 show KN?
 have ko:=I.ko
 show wpAny_nameGoes_keeps hk hn bp λh' v hn' hs=>?_
 have low:JFZ (rp!->X0!):=λe=>JRW
 show h _ #[I.ok,I.os,JG!,QEr (λb o e n hb hx=>(hs.2 b (low e)).trans (ip! b o e n hb hx)) Rr! X2! X3! I.base.SW,JXe,qM!,JF!,I.LF,DP!,Yo! ?_,JDy I.len]
 .show SC?
  show#[sl,JcA]
 .have#[o',e1]:=QBA hx
  show#[o',JcA]
 .have hj:SK!:=λz=>by
   subst z
   rw[JQ tH] at e2
   cases e2
  show Go?
  show Ep?
  show#[u',r',?_]
  show HG?
  .show DE? k
   show Pm?
   simp[this,e]
  show AK? #[k,c,e,gu!]
 .have#[w',z]:=LT! y c e
  show#[w',gu!]
 .show Cs?
  show#[JiO,n,ne,nf,d]
 .show Pc?
  rintro rfl
  show EY?
  .rw[JF!] at e;cases e
  .rw[JF!] at hc;cases hc
open E
abbrev yE(X:E!)(AB:Ch)(E:NE):E!:={ X with pn:=X.pn++AB,xe:=E }
abbrev iO(X:E!)(ex:Addr):E!:={ X with A:=X.A.mark sr!,calm:=false,xe:=JH! }
open S
def Cx.Ok.toTry(ok:X.Ok):z1!:=ft!
def Cx.Ok.JBi(ok:z1!):X.Ok:=ft!
def Cx.Ok.toX(ok:X.Ok):(iO X ex).Ok:=QBr (λz=>(by cases z))
def Jux(I:I!):Inv cd! [] σ H s:=wt! Cx.Ok.toTry (F9! (I.pin p (by show SD?;rwa [AO] at WN)))
def Ld(I:Inv cd! PD σ H s):I!:=wt! Cx.Ok.JBi (F9! (T8! (Gq! hp)))
def Jlk(I:I!):JRJ:=wt! Cx.Ok.toX I.pin
def Sq(I:JRJ)(ok:X.Ok):I!:=JMd ok
def Jin(I:I!)(hn:NJ!)(h0:JSE)(h1:JPF)(h2:JJ1)(h3:JLe)(ok:JHj RJ! a):JNW s:=by
 have ne:∀{b:Addr} {u:HO},Tj!->b≠a:=qN! hn;show#[I.ok,I.os,JG!,JuR ?_ (λb ob u e=>?_),I.loc,LT!,NC! h1 JF!,X4! (jp (h2 x c e) (I.LF x c e)),DP!,nO!,I.len];.rw[PW! (mO! h0)];show Rr! b ob e n hx
 .have:=X2! b xs e;rw[Ae (ne this)];show this
 .have:=X3! b ob u e;rw[Ae (ne this)];show this
 show LK? (U! (Ae (ne q)) q)
 show NV? (jp (h3 p hp) a2)
 .show Bu?;(.show Df? ok);.show L3? SD!
open E
abbrev yA(a C:Addr):HO:=.ext λh=>HN λo vs=>ov!/\o.cls=MU!/\zf!/\JTJ
abbrev Jl0(X:E!)(ES:XU!):B!:=∀(AB:Ch)(σ:L2.St)(H:Hp)(s:Shared)(e:Value)(s':Shared),JZJ (ZW EI! X.w Cw! H s gT! e s')
open S
def J0e{X:E!}(F:JLY)(hr:Q9!)(hb:uR!)(hx:Jl0 X ES)(I:I!)(r:QI!)(h:sp vs H Q gT!):JiU:=by
 show MG? h
 show XH (f2! (N7! X.A Cw! s H QH! us vs Q gT! hr I.tK (JVN (hb s us De! JNA)) r h));cases r with | error e=>show hx AB σ H s e s' I hq | ok fl =>cases fl with | ret u=>show I.after hq | next=>show Yv! | brk=>show Yv! | cont=>show Yv!
inductive J2k(C:Addr)(m:Str)(sp:Sp)(ES:XU!)(t:TA)(σ:L2.St)(x:V)(H1:Hp)(Q:VK):B!
 | mk (a dx fs) (e0:BX!) (e1:XZ!) (e2:fC!) (e3:eV! (λvs H2=>sp (x::vs) H2 Q gT!))
abbrev J3h(C:Addr)(m:Str)(sp:Sp)(ES:XU!)(ta:TE)(t:TA):TE:=QK! (J2k C m sp ES t σ x H1 Q)
def Fz{X:E!}(he:Nc!)(c:Nt!)(hm:gF!)(F:JLY)(hr:Q9!)(hb:uR!)(hx:Jl0 X ES)(ha:LH!)(rO:I8!:=by rfl)(UT:Ni!:=by rfl)(ht:wO! (do let ov <-UT!;XC!;let(f,first) <-Xk!;w2!):=by rfl) :
 vH! (J3h C m sp ES ta t):=by
 show N?
 show D1?
 show CG?
 subst ex
 show J?
 show Ma I1 ea c hm l (JgN)
 show J0e (us:=BQ!::us) (vs:=BQ!::vs) F hr hb hx I2 JYr q2
open E
def J3a{M:Model}{A:Around}{E:NE}{s:Shared}{K:W.Frag}{C D e:Addr}{oe:Obj}{Q:dp!}(XK:Kv!)(cD:T! (W.excIn K D x9 "ValueError.__new__"))(tE:JZm)(he:JSz)(bp:oe.cls=MU!)(hq:Q AC s):QDe excMatches Th!:=by
 have#[h,g,d,t,os]:=s
 have#[nm,q,N,bs,bm,hdct,sn,sub,ab,col,dd,k0,k1,k2,k3,k5,mN,hD,hN,zD,tl]:=Js0 XK cD
 have hB:T! ((Pw! D::bm).contains (Cu! SI!)):=DM! QI (tl.hasType (b:=AC) ZV) Bool.or_true
 have f:=tc_notTuple
 have LS:=j0! (M:=M) XK tE
 unfold excMatches
 repeat (first|(with_reducible show JPM he ?_;rw[bp])|with_reducible show JPM hD ?_|(with_reducible show wpAny_isSubtype_exc hD ?_;rw[hB])|with_reducible show LS.at ?_|wp_step)
 show hq
abbrev gone(D:Ends)(i:Nat):Ends:={ nx:=xT! D.nx,bk:=xT! D.bk,ct:=xT! D.ct,rt:=D.rt }
abbrev J5z(K:W.Frag)(D:Addr)(cls:Value)(C:Addr):B!:=cls=MU!/\JZm
abbrev J3f(K:W.Frag)(D:Addr)(i:Nat)(tb:(XU!)->TS)(ts:G!->TS):TS:=λE σ H =>
 tb (λGF cls _ H'=>∃C,J5z K D AD! C/\∀ex,a1! ex->ts ex (gone E i) (GF.set i sr!) JaX) E σ H
open S
def Jnh{X:E!}(hU:zq!)(ij:JVh)(hex:X.ex=[])(hN:X.N.Nodup)(hi:X.N[i]?=D! n)(hn:JGg n)(hg:E2!)(cD:Wy Kx X.mg x D)(hb:∀(AB:Ch) (E:NE) (ES:XU!),Jl0 cd! ES->T_ cd! body (tb ES))(hs:∀ex,T_ (iO X ex) (JBb::ua) (ts ex))(hd:Cp!:=by decide) : PS X (.Try body JuC [] [] AG!) (J3f Kx D i tb ts):=by
 intro AB s σ H E I h;show wpAny_Try_except (FF (hb AB (λe s1=>JzK (jv! e o0) (λ_ s2=>QDQ (setFlight e SB) (λ_ s3=>JzK (handleBy e o0 JuC) (SP X AB E) s3) s2) s1) _ ?_ [] s σ H E (Jux I) h) (qP!) λe s1 q=>q);· rintro PD GF H0 s0 e s' I0 ⟨ex,cls,H',he,xt,⟨C,⟨bp,tE⟩,hE⟩,ho,hga,u,ok⟩;subst he bp;have I1:aS! H0 s0:=Ld I0;(have frn:JPQ IP!:=SZ (by have:=I1.UY b (o! hU hb);show Mh?;show u.free b o e1 this Ix));(have frg:JPQ (¬(Gl! s0.heap.get?/\IP!)):=λb hb z=>by show Mh?;rw[e1] at z;cases z.1);have I2:a8!:=I1.eC (ch:=[]) ho u ok hga tG!;(have fl:s'.heap.FunFrames LS! (ih!):=by have:=I2.stack;rwa [hU] at this);(have hfm:zp! (ih!):=AO! I1.ok.frames hU);(have none_:∀b,Gl! s'.heap.get?->JTO:=λb q=>by show g?;(.cases q2:s0.heap.get? b with | none=>rfl | some o =>have#[o',e1]:=u.there b o q2 Ix;rw[q] at e1;cases e1);.cases q2:H' b with | none=>rfl | some o =>have#[ob,e1]:=Wm ok q2;rw[q] at e1;cases e1);(have back:∀{h':Heap} (t:Nat),NS (TY (ih!)) (λb=>JTO) Hb! h'->aS! H' JPU:=λ{h'} t as=>by show I1.eC (s':=JPU) (ch:=[]) ho ?_ (Jir ok as frn λb z=>z.2) hga tG!;have u':Un (TY Cw!) [] H0 H' s0.heap Hb!:=u;show Jl8 u' as (λb o e1 z=>by rw[e1] at z;cases z.1) (λb o e1 m=>U! hU m) frn);show Jx6 (Bf!:=LS!) (L:=ii!) hfm fl ij xt.at none_ λh1 x1 MM=>?_;have J1:=back s'.toks MM;have#[oe,vs,a0,T,oT,ts',b1,b2,b3,_]:=x1.2;show wpAny_handleBy_cons (codeAny_handlers_test (Ip (X:=iO X ex) (Jlk J1) hg cD.mg ?_ hd)) (QDv);show J3a J1.PQ cD.ex tE b1 b2 ?_;show codeAny_handlers_suite_as (J4z (s:={ s' with heap:=h1 }) x1 frg λh2 x2 XZ=>?_);have J2:=back s'.toks (MM.trans XZ);have#[oe2,vs2,a2,T2,oT2,ts2,c1,c2,c3,#[c4,c5],_]:=x2.2;subst c4;(have J3:aS! JaX { s' with heap:=h2,toks:=s'.toks }:=by show Jin J2 x2.1.2 ?_ WK! (λy c e1 z=>?_) (λp hp z=>?_) #[#[oe2,vs2,c1,c2,c3,c5],#[oe2,c1],λha hb #[o,vs,q1,q2] k=>#[o,vs,k o q1,q2]];(.cases q2:ik! ex with | none=>rfl | some o =>have#[o',e1]:=I1.base.there ex o q2 JSj;rw[cr!] at e1;cases e1);(.have#[m,#[o,_,_,e1,_],_]:=I1.loc;rw[<-z,cr!] at e1;cases e1);(.have#[v,o,e2,_]:=I1.cell y c e1;rw[z,cr!] at e2;cases e2);.have:=(I1.pin p hp).1;show n? z cr!;cases this);show Ja9 (X:=X) J3 hN hi (DC! hn) (QCW (UV ex) (UV ex)) (λs4 J4=>?_) (Eg! hn);show FF (hs ex AB s4 _ _ (gone E i) (Jlk J4) (hE ex x2.1.2)) (λf s5 q=>?_) jZ!;cases f with | next=>show EW? | brk=>show EW? | cont=>show EW? | ret v=>have#[v5,σ5,H5,J5,r5,q5]:=q;show Pc (Sq J5 J4.ok) hN hi hn λs6 J6=>#[v5,_,H5,J6,r5,q5]
 .cases f with | next=>have#[ck,H1,I1,q1]:=q;show QY #[ck,H1,Ld I1,q1] | brk=>show PW? | cont=>show PW? | ret v=>have#[v1,ck,H1,I1,r1,q1]:=q;show#[v1,ck,H1,Ld I1,r1,q1]
open E
open E Lake.FX
open N Lake.FX
open PySem PySem.Spec PySem.Calls PyProof.Rows L2 Builtin Builtin.ObjectAttr Builtin.Getset_descriptor
set_option maxHeartbeats 400000
structure z_(K:W.Frag)(C:Addr):B! where
 ga:LN! C
 gb:Ij! JPn
 ha:JLU
 hn:iV!
 ht:iY!
 hm:JLH
 hb:LG! C
 hc:JZc
def Jzd:JDc builtinKind .slot:=ZV
def Jvh:JDc splitId (SI!,j1!):=ZV
open S
variable {prog:Program}{w:World}{A:Around}{E:Value->Shared->Prop}{s:Shared}{K:W.Frag}{x C:Addr}
def Jpg{R:dq!}{tp:Value}(X:Kv!)(hx:JSp)(f:e3!)(h:vh! C s):g6! (.call (GE! jB!) #[[JRY,Ko!,tp],[]]):=by
 have#[hh,g,dr,t,os]:=s;have#[o,hxo,hc]:=hx;show OG?;have L1:=j0! (M:=model Da! w) X f.hm;show JPo W.KF.slot_gs.plain W.KF.entry_gs (W.KF.slot_gs.check _ _ _ _ _ _ _ _ W.KF.type_class (wP W.KF.args_gs _) ?_);unfold Builtin.«getset_descriptor.__get__» descrGet;rw[W.dga_obj];show BJ?;unfold descrGetter descrCheckInstance descrNameAndClass isInstance;simp only[W.KF.owner_class];repeat lk
 show#[Code.quiet_builtin _ ZV,QZ W.KF.entry_class ?_];unfold Builtin.«object.__class__» shownTypeOf;repeat lk
 show h
def Ju5{Q:Qe!}(X:Kv!)(hx:JSp)(f:e3!)(h:QCp (AC! (.ref C))):JGQ getAttr? x N5!:=by
 have#[hh,g,dr,t,os]:=s;have#[o,hxo,hc]:=id hx;show OG?;have L1:=xE! f.ga;have L2':=xE! f.gb;have L3:ce! (isInstance Is! (Cu! SI!)) AC:=L0.andThen (j0! X f.hb);have L4:=xE! f.ha;have L5:ce! (getOf JGh) QB1:=W.looks_specialIn X f.hn;have L6:ce! (dataDescriptor? JGh QB1) (AC! (GE! jB!,JRY)):=(W.looks_takesIn X f.ht).andThen .now;have L7:ce! (find (UV x) T5! N5!) (.bind (GE! jB!) (GE! "object.__class__")):=L4.andThen (L5.andThen (L6.andThen (W.Looks.tag .now)));unfold getAttr? getAttrBy? getAttrBy;show Bg? wpAny_mkText (JL (EO (ZR (L0.at (ZR (L1.at ?_))))));have WW:DD! (onTheHeap (Db! C)&&(Jgw)):=AO! (show DD! Jgw from by show u?) Bool.and_false
 show AE?;show C9? WW;unfold getAttrByItsOwn;show ZR (FA! (Gf! _ _ (KM! typeLookup C JPn) _ _ _) (L2'.at ?_));show ZR (JL (EO ?_));unfold callGetattribute;rw[AD (to! (¬(Av! (false&&_))) zr! AR)];unfold boundAndCalled;show AZ? QD (PD! F.excAttr_ValueError.ga.bind x);show FS? (call (GE! JPm) [Ko!,vU!]);show XH (JPo F.excAttr_ValueError.ga.plain F.entry_bexc_ga (@W.check_slot MA! _ _ _ JPm SI! j1! Is! [vU!] [] _ Jzd Jvh L3 (F.args_bexc_ga Is! (wp N5! t)) ?_));unfold Builtin.«object.__getattribute__»;show J2? (slotArgs j1! 1 #[[Ko!,vU!],[]]) (Db! x,[Xq! N5! t]);show AE?;show J2? (attrName (wp N5! t)) (N5!:Ag!);show R? L0.at (ZR (L7.at ?_));show AE?;unfold bindTo;show AE?;show ZR (EO (XH (Jpg (A:=A.in1) X hx f ?_)));show Ab?;show QD (a:=Pw! C) (W.handedOut_of A!) ?_;show ZS h
def Jyc(f:e3!):W.KitX K Is! T5! (λh=>∃o,CF! LR! o/\o.cls=MU!) where
 ty:=λ_ _ _ #[o,h1,h2]=>h2▸(W.Looks.ld h1).andThen .now
 it:=λ_ _ X _=>by
  have#[cd,UG]:=LR.mp f.hc
  unfold W.clsIn at UG
  split at UG
  .rename_i c' d' cd' sl' ho
   intro A' Q' E' s' k q
   unfold isType loadHead
   show ZR (JAr (IY! k X ho) (ZS q))
  .cases UG
 ne:=λh tp dd its n sl X htp=>by
  have#[cd,UG]:=LR.mp f.hc
  show Yj! cq!
  have e:C=tp:=Value.ref.inj (NT.mp q)
  subst e
  unfold W.clsIn at UG
  split at UG
  .rename_i c' d' cd' sl' ho
   have z:=(X _ _ ho).symm.trans htp
   cases z
  .cases UG
 ca:=λX I k=>Ju5 X I f k
open E
open S
inductive Jfy(K:W.Frag)(xs:C!)(H:Hp)(Q:VK):B!
 | mk a C c cv b (_:xs=[BQ!,c]) (_:Ea! c cv) (_:Ce! (yA a C)) (_:e3!) (_:JyR C cv b) (_:Kt! b)
def Fq{X:E!}:JTZ Jfy:=by
 show b?;have#[a,C,c,cv,b,rfl,rc,ha,f,e,q]:=h;have#[u1,u2,rfl,r1,r2]:=r.two;cases r1;have:u2=cv:=by cases c with | ref p=>show Do? | ty n=>show Do? | GJ=>show Do? | bl b=>show Do? | int i=>show Dy? | str i=>show Dy? | az i=>show Dy? | uH i=>show Dy?
 subst this;have#[o,vs,g1,g2,g3]:=fw! a ha;show KS (Jyc f) De! #[o,g1,g2] e JzG JnL
open E
open E Lake.FX
open N Lake.FX
open PySem PySem.Spec PyProof.Rows L2
def FY.no{P:Program}{w:World}{K:W.Frag}{mg:wS}{base:Heap}{k:Nat}{f:Addr}{fd:FuncData}{ps:j!}{sp:Sp}(F:JRR):FY P w K mg Bf! YC k f fd ps (QEh sp) :=#[λvs H Q E q=>N6! vs H Q E0 q,JwM E0 (λr s' h=>by cases r with | ok fl=>show Ay? fl h | error e=>have#[_,_,_,_,_,z,_]:=h;show OP!)]
def Ie{K:W.Frag}{v:Value}:jC! K v v=D! AC:=JY7
def J2a:z! bootBuiltins Lh! (Cu! Lh!):=ZV
open E Lake.FX
open N Lake.FX
open PySem L2
def F4(h:W.mroIn K C b=D! r):JZc:=by have#[cd,a,_]:=JD7;rw[a];rfl
open E Lake.FX
open N Lake.FX
open PySem PySem.Spec PyProof.Rows L2
inductive ZQ(h:Heap)(it d:Addr)(i n ep:Nat):B!
 | mk (own ok ov:Value) (f:Bool) (_:(own=GM\/∃a:Nat,own=GD! a)) (_:an! it { cls:=B5! Rx!,dict:=none,data:=Rn! #[ZZZ,own,Ar! f,Gz!,PP i 0,PP n 0,PP ep 0,ok,ov],slots:=Dc! })
abbrev uS(h:Heap)(a:Addr)(k v:Value):B!:=KS! (um! (#[ZZZ,k,v]))
open S
variable {prog:Program}{w:World}{A:Around}{E:Value->Shared->Prop}{s:Shared}{it d:Addr}{i n ep:Nat}
def ZQ.ty(x:JNk):Gx! YV! it Rx!:=let#[_,_,_,_,_,e]:=x;Q1!
def ZQ.to(x:ZQ h it d i n ep)(k:∀o,PF! LR! it->tD! it):JNj:=let#[a,b,c,f,g,e]:=x;#[a,b,c,f,g,k _ e]
def J2g(h:Q (EH! a) s):Eh! (loadIfAlive a):=λ_ _ _=>h
def Jv0(h:∀h' e,JQA CU! dW! Hl!->(QB7)->JFG e):Eh! (newExc (Cu! Hl!) []):=by
 have first:JII (Cu! Hl!) []=Hc! GM:=by unfold firstArgMember;cases (Manifest.find? Hl!).elim IR λt=>JQC Hl! || JQC "SystemExit" <;> rfl
 unfold newExc newTuple;rw[first];show ZR (pK! (ZR (ZS (pK! (h _ _ op! (Bg! (sg! e)))))))
def Jxl(hw:JNk)(hQ:Jgj JNj k v JOK) :
 JGR Builtin.Dict_items.pairFromOwner PS! 6 k:=by
 have#[own,ok,ov,f,ho,e0]:=hw
 have il:JQF:=AU e0
 have JJO:s.heap.objs.size≠it:=EM il
 obtain⟨h1,eh⟩:∃h1,h1=QBT JM! ([k,v]:Y!).toArray:=BT!
 have p1:uS h1 UF k v:=rb! Dy!
 have k1:JKp:=Bg! (rb! TO!)
 have e1:=k1 it _ e0
 have fin:∀h2,ZQ h2 it d i n ep->X8! it h1 h2->oZ! JQK:=λh2 x y =>
  hQ h2 x ((Bi! _ JJO).trans p1) (Bh! ((Bi! b hb).trans (k1 b o e)))
 have free:W5! (do
  let old:=[<-Gx! field it 6,<-field PS! (6+1)]
  Yn! PS! 6 k;Yn! PS! (6+1) v
  QEm 0 GD! UF;QEm 1 Ar! IR
  letGo old [MN!]
  return MN!) Hp!:=by
  show ZR (QFa ok (ZR (QFa ov ?_)))
  show G2? e1 (λg2 q2 b2=>yU! q2 (λg3 q3 b3=>yU! q3 (λg4 q4 b4=>yU! q4 (λg5 q5 b5=>?_))))
  show ZR (Yu! (ZS (AH! g5 #[_,_,_,_,Cj! UF A!,q5] #[?_,KY!])))
  .rw[b5.1,b4.1,b3.1,b2.1]
  .rw[D5! b5.2,D5! b4.2,D5! b3.2,D5! b2.2]
 unfold Builtin.Dict_items.pairFromOwner
 show R? jk! ?_
 rw[<-eh]
 show AY?
 unfold Builtin.Dict_items.ownedTupleIsFree
 show JR? own
 obtain rfl|⟨a,rfl⟩:=ho
 .show ZS free
 .show GM? (loadIfAlive (z8!))
  show R? J2g ?_
  cases ha:Nv! z8! with
  | none=>show ZS free
  | some oa =>
    show JR? (Ar! f)
    cases f with
    | true=>show ZS (ZS (JU4 h1 e1 JFT))
    | false=>show ZR (EE e1 Ix λg2 q2 b2=>ZS (ZS (JU4 g2 q2 b2)))
def Jq2(hv:wg!)(hm:I1!)(hQ:∀h',JZM h' UF->(QB7)->JOK):JOQ v:=by
 have#[o1,e1,c1,f1]:=id hv;have#[o2,e2,c2,f2]:=hm;show JH2 hv.typeIs JQV (DG JQV hv.typeIs F.entry_dict_items_iter ?_ (F.args_dict_items_iter_1 _));unfold Builtin.«dict_items.__iter__» Builtin.Dict_items.dictOf Builtin.Dict_items.newIterator;show R? ZS (ZR (ZR (DE (x:=Gz!) e1 f1 A! (ZS (ZR (ZR (DT e2 f2 (ZR (HK e2 f2 ?_)))))))));have own:Ej! Builtin.Dict_items.ownsTuple Rx!:=Au!
 simp only[own,IA,DS,GB];show C_ (ZS (JQx Rx! F.slot_dict_itemiterator_next.lookup ?_)) (by simp[sizeOk,Builtin.Dict_items.ownedTupleFields,CZ]);show hQ _ #[GM,GM,GM,IR,NI!,(ZU _ rfl).trans (by simp[rawInt,Builtin.Dict_items.ownedTupleFields])] l0!
def Jq1{es:EB!}{Q:Qe!}(hw:JaI)(hm:I1!)(hi:jd!)(hQ:Jgj (JS1 h') es[i].key es[i].val JHt):WS!:=by
 show M0?;show Kd?
 unfold pyNext;show Pd?;show Nt?;simp only[wC,IA];show J8?;show DL?;show Lf?;show AV?;show Ln?;show AV?;show Ab?;show Mb? RC;show R? ZR (JU ty (ap! (XW ty ?_)));show IF! (QEp _ (JTq 3 >>= _) _ _) ?_;show G2? e0 JB1;have w1:JS1 h1:=#[own,ok,ov,f,ho,by rw[show Cf! Am!=AN!+1 by rfl];simpa [rawInt] using q1];have ty1:JQA Hp! PS! Rx!:=ZQ.ty (s:=Hp!) w1;show Bg? EO (XW ty1 (ZR (XW ty1 ?_)));show Jxl (s:=Hp!) w1 λh2 w2 p2 k2=>?_;have z1:h1.objs.size=s.heap.objs.size:=b1.1;dsimp only at p2 k2 ⊢;rw[z1] at p2 ⊢;show ZS (Bp! (ZS (hQ h2 w2 p2 (qQ! k2 hb (JPR e)))))
def Juv{es:EB!}{Q:Qe!}(hh:Hf!)(hw:JaI)(hm:I1!)(hi:es.size<=i)(hQ:JRr QDn):WS!:=by
 show M0?;show Kd?
 unfold pyNext;show Pd?;show Nt?;simp only[wC,IA];show J8?;show DL?;show Lf?;show AV?;show Ln?;show AV?;show Ab?;show Mb? UR;show R? ZR (JU ty (ZS ?_));show ZR (EE (k:=2) e0 Ix JB1);show ZR (Jv0 λh2 x t2 k2=>wpAny_raiseNew_none hh (ZR (PL t2 JIL (ZS (hQ h2 (Bh! (k2 b o (JPR e))))))))
open E
abbrev i6(h:Heap)(it:Addr)(es:EB!)(as:S!):B!:=∀(j:Nat)(a:Addr),as[j]?=D! a->it<a/\∃e:DictEntry,es[j]?=D! e/\uS h a e.key e.val
def i6.to(x:JOp)(k:JzV (it<b) MJ!):pP! h' :=λj a e=>let#[l,d,e1,e2]:=x j a e;#[l,d,e1,k a _ l e2]
def i6.more(x:JOp)(hi:JQf)(l:it<a)(p:uS h a es[as.length].key es[as.length].val):i6 h it es (c7!):=λj b e=>by obtain hj|hj|hj:=Nat.lt_trichotomy j as.length;(.rw[IK hj] at e;show x j b e);(.subst hj;(have e':a=b:=oQ!);subst e';show#[l,_,by simp[hi],p]);.show A4? (EW (by simp;assumption))
open S
def Jcy(hh:Hf!)(l1:S<it)(n1:d≠S)(n2:d≠it)(hz:JQl)(res:Value) : ∀(k:Nat)(s:Shared)(as:S!)(c:Nat),as.length+k=es.size->ZQ Tk it d as.length OI! ep->I1!->mJ! S (Yp! F7! (Bd! Db!).toArray c)->pP! Tk->as.Nodup -> JpX (JVO (b≠S) (b≠it)) (i6 h' it es PU) (R (.ok (.ret res)) CU!) (g6! (GE! "list.extend.loop" #[[FS S,FS it,res],[]]))
 | 0,s,as,c,hk,iw,rd,hS,ps,nd,q=>by show LD?;rw[QJ IJ _];show(Gt! (Pr! pyNext it) (Juv hh iw rd ((BQ hk.symm)) λh' kp=>ZS (q h' as c JDg nd (λb o _ hb e=>KK! kp hb) (kp S _ (BP l1) hS) (ps.to (Bh! (ec! (EM hb)))))))
 | k+1,s,as,c,hk,iw,rd,hS,ps,nd,q=>by have hi:JQf:=AE KD! (BQ hk);have al:JQF:=let#[_,_,_,_,_,e]:=iw;Bv!;show LD?;rw[QJ IJ _];show Gt! (Pr! pyNext it) (Jq1 iw rd hi λh1 iw1 p1 k1=>?_);have hS1:=k1 S _ (BP l1) hS;(have sz:jq! (Bd! Db!).toArray.size:=ci);show Gt! (xR! j3!) (JSn hS1 (o! sz (AA KD! (hk▸hz))) (by rw[Array.size_push,sz];lia));have up:JYO (h1.update S (R6! j3!)).get?:=Bh! ((CQ _ _ mn!).trans e);show Jcy hh l1 n1 n2 hz res k (N3! (h1.update S (R6! j3!))) (as++[s.heap.objs.size]) (c+1) (by simp;lia) (o! ZE (iw1.to λo e=>up it o (EM l1) e)) (rd.at λo e=>up d o n1 (k1 d o n2 e)) ?_ ?_ ?_ (JQw (q h' PU c' a1 a0 (λb o hb hc e=>a2 b o hb hc (up b o hb (k1 b o hc e))) a3 a4));(.show(OP hS1 _).trans ?_;simp[seqObj]);(.show i6.more (ps.to (qQ! up (EM (KY l1 hb)) (k1 b o (EM hb) e))) hi al (up _ _ (EM (KY l1 al)) p1));.show SL! #[nd,ci,λa ha b hb z=>?_];(have e:b=s.heap.objs.size:=by simpa using hb);have#[j,hj]:=SM! ha;have#[_,_,_,e2]:=ps j a hj;show DL! AU e2 (QC! z e (DN _))
open E
open S
def Jf9(hh:Hf!)(hv:wg!)(hm:I1!)(hz:JQl)(h:∀h' as it,JKV->as.Nodup->s.heap.objs.size<=it->qA!->pP! h'->R (Bd! Db!) CU!) : Gf! (model Da! w) A (PD! collect v) R E s:=by
 have lv:v<s.heap.objs.size:=let#[_,e,_]:=hv;Bv!;have ld:d<s.heap.objs.size:=let#[_,e,_]:=hm;Bv!;unfold collect;show R? wpAny_runValue (QZ PySem.F.entry_proto_collect ?_);rw[QJ PySem.F.plain_proto_collect _];show Gt! (newList []) (C_ (ZS #[JQv JQ2 _,QZ PySem.F.entry_list_iadd ?_]) QAM);rw[QJ JQ2 _];generalize hS0:yK! ([]:Y!).toArray=h0;have gS:z! h0.get? UF (ox! 0):=AE! hS0 Dy!
 have k0:mf! (H6! h0.get?):=Bg! (AE! hS0 TO!)
 have hv0:h0.IsItemsView v d:=let#[o,e,r]:=hv;#[o,k0 v o e,r];have hm0:lt! h0:=hm.at λo e=>k0 d o e;have z0:h0.objs.size=KI!:=UJ! hS0 LP
 have low:mf! JOw:=Bg! Bv!;obtain⟨S,hS⟩:∃S:Addr,S=s.heap.objs.size:=BT!;rw[<-hS] at gS z0 lv ld low ⊢;have lS:S<h0.objs.size:=U! z0 (TN _)
 show IF! (Gf! MA! _ (JIG S Vz! (UV S)) _ _ j4!) ?_;have fin:∀(R':dq!),JpX qA! JjG (R' (.ok (PD! .ret S)) CU!) (∀h1 c1,JZM h1 h0.objs.size->lt! h1->z! Nv! S (ox! c1)->(JKp)->YI! MA! A JmH R' Hp!):=λR' q h1 c1 a1 a2 a3 a4 =>Jcy hh lS (BP ld) (BP (KY ld lS)) hz _ OI! Hp! [] c1 Ix a1 a2 (by simpa using a3) (λj a e=>dR!) EH λh' PU c' q1 q0 q2 q3 q4=>q h' PU c' q1 q0 (Bg! (q2 b o JsD (BP (KY (IH! low) lS)) (IH! a4))) q3 q4;show JC?;show ZR (Ya! (T:=Yr!) (Heap.IsItemsView.typeIs (s:=j4!) hv0) ?_);have n1:A0! (Gx! Builtin.List.listSameRef S Vz!):=by simp[Builtin.List.listSameRef,EM lv]
 have n2:JX5 F7!:=Au!
 have n3:JX5 E7!:=Au!
 simp only[n1,n2,n3,Bool.or_false,DS,GB];show ZR (Jq2 (s:=j4!) hv0 hm0 λh1 iw k1=>?_);show R? EO (W.kdx_hint (s:=Hp!) (let#[o,e,c,_]:=hv0;#[o,k1 v o e,c]) ?_);have gS1:=P! k1 gS;have loop:∀h2 c2,(JYO Xu!)->z! Xu! S (ox! c2) -> YI! MA! A JmH (λq s'=>M_ λh' PU c'=>q=.ok (.ret (.ref S))/\s'=CU!/\PU.length=es.size/\PU.Nodup/\qA!/\z! Nw! S (ni! PU.map Db! c')/\JjG) JQK:=λh2 c2 k2 g2 =>AH! _ (JQw #[h',PU,c',A!,A!,a1,a0,a2,a3,a4]) h2 c2 (iw.to λo e=>k2 _ o (EM lS) e) (hm0.at λo e=>k2 d o (BP ld) (k1 d o e)) g2 (Bg! (k2 b o JsD (k1 b o (IH! k0))));show wpAny_ite_split (PK!) (λ_=>ZS #[JQv IJ _,?_]);.show R? TM (Gt! (xR! (·.push .none) >>= λ_=>xR! (·.pop)) (ZR (wpAny_updateSeq gS1 A! (JSn (OP gS1 _) ?_ ?_) ?_ ?_)));(.show JE (KM loop (Bh! (fA! (fA! e))) (OP (OP gS1 _) _)) λq s' y=>?_;show JE?;show NA?;show JwR);all_goals (simp[seqObj,CZ])
 .show JE (loop h1 0 (λb o _ e=>e) gS1) λq s' y=>?_;show JE?;show NA?;show JwR
open E
open S
def Jq5{vs:Y!}{ns:q!}(p:RC!):ItemsAre JP5 ns vs:=by induction p with | nil=>show a? | cons n t _ ih=>show Os (intKind_is Da! w n t) ih
def Jrs(x:JTA)(y:tv!):IsTupleKey JP5 h ns a :=let#[o,ho,hc,n,hd]:=x;#[o,its,n,ho,hc,hd,Jq5 y]
inductive QX(h:Heap)(a:Addr)(q:q!×Int):B!
 | mk ka its t (_:uS h a (UV ka) (PP Rs t)) (_:JiG) (_:YW! i2! H!)
def QX.to(k:JJ5 Ve!)(x:QX h a q):QX h' a q :=let#[ka,its,t,e1,#[o,ho,hc,r],e3]:=x;#[ka,its,t,KM k e1 A!,#[o,k ka o ho hc,hc,r],e3]
def J0t(hu:YX!)(x:eJ! QX p)(y:QX Tk b q)(same:y!=H!->AQ!=Rs)(h:C (OK! y! H!) s) : QEp A (keyLt' (tuples' IR) Bs! Pd!) C JzS:=by
 have#[ka,its,t,e1,e2,e3]:=x;have#[kb,jts,u,f1,f2,f3]:=y;show W.kat_lt e1 A! f1 A! (jn! (wpAny_eqBool_tuple hu (Jrs e2 e3) (Jrs f2 f3) (jo! (λe=>jp! (jn! (ho! (jo! (λ_=>jp! (jm! ?_)) Fw!)))) λe=>W.kat_no (wP W.kat_one (HT.cb e2 f2 e3 f3 hu h)))));.have e:=BN e;rw[e,Jat] at h;show h
 .rw[same (BN e)] at z;simp at z
abbrev Pg(h:Heap):db! JDx:=Paired (QX h)
def Jkm{as:S!}{L:JDx}(p:Pg h as L):JwL (λka its=>v=Pw! ka/\JiG):=by induction p with | nil=>show NR? | cons r _ ih =>have#[ka,its,t,e1,e2,e3]:=r;have#[fs,a1,a2,a3]:=ih;show#[bz!::fs,JLF e1 A! A! A! a1,by simp[a2],λv hv=>?_];obtain rfl|hv:=ZM hv;(.show#[ka,its,A!,e2]);.show a3 v hv
def Jh9(x:Pg h as L)(hi:jr!):HN λa q=>as[i]?=D! a/\L[i]?=D! q/\QA4 i GM=BQ!/\gx! H!/\QX h a q:=by
 show A7? x;have#[a,ha]:=mL! as hi;have#[q,hq]:=cJ! L (hl▸hi);show#[a,q,ha,hq,?_,?_,A6 x i a q ha hq];.rw[KN,ZH,ha];rfl
 .rw[KN,ZH,hq];rfl
def Joh(hu:YX!)(ho:JcT)(YI:as.length<64)(x:Pg Tk as L)(nd:sV!)(h:JmK MS! MS!) : iD!:=by
 show A7? x;have pW:jq! fV!:=Vg!;have key:∀i,jr!->∃h:i<(CD! (·.1)).length,gx! ((CD! (·.1))[i]):=λi hi=>#[a2! ZA,QCk j5!];have one:∀i j,jr!->j<as.length->gx! (MS! j [])->i=j:=λi j hi hj e=>by have#[l1,e1]:=wv i hi;have#[l2,e2]:=wv j hj;rw[e1,e2] at e;show(N_ nd).mp e
 show QI? (λi j=>OK! (MS! i []) (MS! j [])) (λz=>WX (BL! i j (by show pW▸hi) (by show pW▸hj) z));have x':Pg h' as L:=Ax (λb q y=>y.to λb o e c=>ec! (λz=>by rw[z,ho] at e;cases e;show Fd! (show JoK from c) FB)) x;have#[fs,f1,f2,f3]:=Jkm x';show Qh? a3! (o! f2 (pW▸(A_ h2))) (hQ _ λi j hi hj C hC=>?_);.have#[ka,its,rfl,o,e,c,_]:=f3 v hv;have z:W.Looks MA! h' (PD! typeOf ka) o.cls:=(W.Looks.ld e).andThen .now;rw[c] at z;show z
 .rw[pW] at hi hj;have#[a1,q1,g1,g2,g3,g4,g5]:=Jh9 x' hi;have#[a2,q2,k1,k2,k3,k4,k5]:=Jh9 x' hj;unfold W.kas_ask;rw[g3,k3];dsimp only at hC;rw[g4,k4] at hC;show J0t (s:=CU!) hu g5 k5 WK! hC;have e:=BL! i j hi hj (by rw[g4,k4,z]);subst e;rw[g2] at k2;cases k2;rfl
open E
abbrev lay(H:Hp):oS!->Hp
 | []=>H
 | p::r=>d2! vB! y! AQ!
def Jla:JR4 (b∉JEH) (lay H ps b=H b)
 | [],_=>rfl
 | p::r,h=>by have h1:b≠y!:=JVj h;change(d! vB! y! dk!) b=_;rw[Ae h1];show Jla (eE! h)
def Jsk:JR4 JFt (∀p∈ps,lay H ps y!=D! dk!)
 | [],_,p,hp=>Fa! hp
 | q::r,nd,p,hp=>by show AW?;show DS?;(.show Ab);.have ne:y!≠H!:=uM! #[p,hp,z];change(d! vB! H! (WP Rs)) y!=_;rw[Ae ne];show Jsk PN.2 p hp
open S
abbrev J74(X:E!)(AB:Ch)(a:Addr):B!:=JSE/\JPF/\(JJ1)/\JLe
def Qay(I:I!)(h:Rs!):J74 X AB a :=let x:=I.VD (H':=R0!) h A!;#[y1! (AA I.sz h),MY!,x.2.2.2.2.1,x.2.2.2.2.2]
def Jsn:∀{ps:oS!},I!->JFt->(∀p∈ps,J74 X AB y!/\Bn! y!/\∀H',le! H' y! dk!)->JER s
 | [],I,_,_=>I
 | p::r,I,nd,h=>by show AW?;have#[#[a1,a2,a3,a4],a5,a6]:=Ft! p;show Jin (Jsn I PN.2 JaT) (o! (Jla PN.1) a5) a1 a2 a3 a4 (a6 _)
open E
inductive RecAt(H:Hp)(a:Addr)(q:ES!):B!
 | mk ka (_:JPz bz!) (_:pU!)
def J4y{P:Program}{w:World}{H:Hp}{h1:Heap}{n:Nat}{as:S!}{L:Q!}(p:JvM (n<=a)) : ∃ps:oS!,JEH=as/\(∀p∈ps,n<=y!/\∀H',E_ P w H' h1 y! dk!)/\KW! (λp q=>∃ka,AQ!=JP4/\pU!) ps L:=by induction p with | nil=>show#[[],A!,F9! (by(cases hp)),a!] | @cons a q _ _ r _ ih =>have#[la,ka,t,e1,e2]:=r;have#[ps,b1,b2,b3]:=ih;show#[(a,JP4)::ps,AO! AI b1,DP!,ML! #[ka,A!,e2] b3];show DS?;(.show#[la,λH'=>JXL (to! (EJ! 2) CZ Ke!) [bz!,UK! Rs] A! Wh! e1]);.show b2 p hp
open S
variable {X:Cx Kx}
inductive Rg(xs:C!)(H:Hp)(Q:VK):B!
 | mk v d (L rs:Q!) (_:xs=[FS v]) (_:AY! v (Jli v d)) (_:KC! (Et L)) (_:L.length<64) (_:rs.Perm L) (_:F6!) (_:∀(r:Addr)(as:S!)(H':Hp),TD->V7!->Qs! Fr!->JfF->TC! r)
def Tg(hc:A1!)(hu:Wg!):fH! Rg:=by
 show E4?;have#[v,d,L,rs,rfl,hv,hd,YI,pm,pw,q]:=h;have#[u,rfl,rx]:=vals1 rv;show J?;show Hb? (Et L);have vw:wg!:=fw! v hv;have hes:es.size=ys.length:=NB g4;have hyl:ys.length=L.length:=by have:=U1!;show Ck?;show this.symm
 have ent:∀(j:Nat)(e:DictEntry)(q:ES!),es[j]?=D! e->L[j]?=D! q->HN λka t=>e.key=bz!/\e.val=UK! Rs/\pU!:=λj e q h1 h2=>by rw[entry_at g4 j] at h1;cases hy:ys[j]? with | none=>rw[hy] at h1;cases h1 | some y =>rw[hy] at h1;cases h1;have#[r1,r2,r3]:=A6 rel j nk! y (Ui! h2) hy;have#[t,r3]:=r3;show#[y.2.1,t,A!,r3,r2]
 have ndL:sV!:=(SN! (·.1)).nodup_iff.mp (j6! (JB2) pw);show im! (by show E2?;show Gt! (checkCount "sorted" 1 1 _) (ap! (Jf9 (IF! _ (I.ok.hd hc)) vw h6! (by rw[hes,hyl,CZ];show ef!) λh1 as it hl nda hit kp prs=>?_));show CX? JRg (I.kept kp);(have tJ:JLf:=W!);(have fct:JvM Rs!:=Fm tJ λj a q e1 e2=>by have#[la,e,e3,e4]:=prs j a e1;have#[ka,t,k1,k2,k3]:=ent j e q e3 e2;rw[k1,k2] at e4;show#[A_ (AE hit la),ka,t,e4,k3]);have#[ps,b1,b2,b3]:=Cs! J4y P EI! w X.w fct;have pV:∀a,Rs!->NJ!:=λa ha=>X7! ha;have I2:JER JRg:=Jsn I1 JXZ (F9! #[Qay I (b2 p hp).1,JXB,(b2 p hp).2]);(have sm:Ds! (lay H ps):=Yo! (by rw[Jla (λz=>?_)];(.show e);.have#[p,hp,rfl]:=ZN z;rw[JXB] at e;cases e));(have JIo:Cd! (RecAt (lay H ps)) as L:=by rw[<-b1];show Fm (Fj! (AA! b3)) JB3;rw[ZH] at e1;cases hp:ps[j]? with | none=>rw[hp] at e1;cases e1 | some p =>rw[hp] at e1;cases e1;have#[ka,k1,k2]:=A6 b3 j p q hp e2;show#[ka,AO! (Jsk JXZ p (ZP hp)) k1,P! sm k2]);(have JIr:Jdx h1:=Fm (Fj! tJ) λj a q e1 e2=>by rw[ZH] at e2;cases hq:L[j]? with | none=>show Cj? hq | some q0 =>rw[hq] at e2;cases e2;have#[_,ka,t,k1,k2]:=A6 fct j a q0 e1 hq;have#[its,rv,it2,_]:=I1.tuple (FF! k2);show#[ka,CR!,t,k1,it2,Tf! (intsAre_of (ns:=[q0.1.1,q0.1.2]) rv)]);(have eK:MO! CD! nt!=CD! λq=>JVy:=Mo!);(have ndK:JFx CD! nt!:=by (have e:(CD! λq=>([q.1.1,q.1.2]:q!))=(CD! EG!).map QCY:=Mo!);rw[eK,e];show JeY (by have#[a1,a2]:=a;have#[c1,c2]:=b;simp at z;rw[z.1,z.2]) ndL);show Jy?;show OD?;have JIq:Jdx QEB:=Ax (λa q y=>y.to λb o e _=>TO!) JIr;show J6? (Joh (Px! (JEt<cLine)) g1 v! JIq ndK JAs);show G8?;have uF:lay H ps Hn!=none:=I2.EK.fresh (ZG _);show PB?;(have eR:JDa p.map=rs:=by show Py (lt:=λa b:T2×Int=>LB a.1 b.1) (λa z=>by rw[Gc] at z;lia) (λa b h1 h2=>JFo) ?_ ?_ (DO! (EY (f:=IJ!) (R:=LB)) pw);(·(have e2:JDa JOI=L:=by show RK λj=>?_;rw[ZH];by_cases hj:Yq!;(.rw[show JMy by simp[tJ,hj]];simp[hj]);.rw[show zc! by simp[tJ];show Cy! Aw!,EW (QA3 Cy!)];rfl);have e7:=pp.map λi=>L.getD i ((0,0),0);rw[e2] at e7;show e7.trans pm.symm);.rw[EY];show List.Pairwise.imp_of_mem (λ{i j} hi hj z=>?_) po;have li:=inr i hi;have lj:=inr j hj;rw[eK] at z;simpa [LB,Te! j5!,Te! Yq!] using z);(have eV:JsS:=JqU);(have JIn:Tc! RecAt (d! (lay H ps) Hn! (S9! (p.map mv!).map)) JPe rs:=by rw[<-eR];show Fm (Ck! ZA ZA) JB3;rw[ZH] at e1 e2;cases hp:p[j]? with | none=>rw[hp] at e1;cases e1 | some i =>rw[hp] at e1 e2;cases e1;cases e2;have li:=Fp! inr i hp;have#[ka,k1,k2]:=A6 JIo i JKj (L.getD i ((0,0),0)) (by simp[li]) (by simp[Te! j5!]);show#[ka,Ah uF _ _ k1,Ah uF _ _ k2]);show Ej? (QBf I2.laid Hn! (JSB mv! Cz!) JnK (JpH (T4 _))) (q _ JPe _ (Af sm (Ah uF)) hn Ab JIn);(.show PC?;lia);.rw[<-eV];show e)
open E
def Jct(f:α->β):∀(xs:R!)(j:Nat),(Cv! f).eraseIdx j=QEL f
 | [],_=>rfl
 | _::_,0=>rfl
 | x::xs,j+1=>Cx! (f x :: ·) (Jct f xs j)
open S
variable {prog:Program}{w:World}{K:Type}[DecidableEq K]{knd:HeapKind prog w K}{A:Around}{E:Value->Shared->Prop}{s:Shared}
def Jjl{d a:Addr}{xs:Ii!}{k:K}{p:h1!}{j:Nat}{Q:H7! (L1! DictEntry)}(hu:gG!)(hV:g4!)(hm:gr!)(hz:JC!)(hj:JZh)(hQ:JuK (Q (AC! (Rl! knd (k,p))) JAE)) : Eh! (Builtin.Dict.takeOut d Bs!):=by
 have#[o,es,ep,ho,hc,hd,he,his,hn]:=hm;unfold Builtin.Dict.takeOut;show EO (ZR (knd.pyHash hu hV (ZR (JRs (s:=qT!) hu hV ho hd he his hn (λno=>CT! hj (no j p)) λi q hi=>?_))));obtain rfl:=idxH_unique hn hi hj;rw[hj] at hi;cases hi;show ZR (DT (s:=qT!) ho hd ?_);rw[entry_at he i,hj];show ZR (JRt (hz:=U! (NB he) hz) (s:=qT!) ho hd (ZS (hQ _ _ _ _ (EJ _ ho (RI (JG hd _))) (hc.mapDictKeys _) (JG hd _) ?_ lx!)));have e1:(es.eraseIdxIfInBounds i).toList=es.toList.eraseIdx i:=ci
 rw[e1,he];show P! Jct _
def Jw6{d a:Addr}{xs:Ii!}{k:K}{p:h1!}{j:Nat}{Q:JFC}(hu:gG!)(hV:g4!)(hm:gr!)(hz:JC!)(hj:JZh)(hQ:JuK (Q (.done (.ret AQ!)) JAE)) : Eh! (Builtin.«dict.pop» #[[Gz!,BQ!],[]]):=by
 have ty:=hm.typeIs;have#[o,es,ep,ho,hc,hd,he,his,hn]:=id hm;have ne:es.isEmpty=false:=by have h1:=NB he;have h2:OD!:=DH! hj;cases h3:es.isEmpty with | false=>rfl | true=>rw[OB] at h3;lia
 unfold Builtin.«dict.pop» Builtin.Dict.keyAndDefault;show R? ZR (K' ty (ZS ?_));show AE?;rw[AD (show ¬T! (keyPart (Db! a)).isSome from AR)];show ZR (DT ho hd (ZR (ZS ?_)));show C9? ne;show ZR (Jjl hu hV hm hz hj λh' o' ri vQ a1 a2 a3 a4 a5=>?_);show ZR (Yu! (ZS (hQ h' o' ri vQ a1 a2 a3 a4 a5)))
open E
open S
variable {κ:Type}[DecidableEq κ]
def Jeh:∀{kvs:BG!} {k:κ} {v:V} {j:Nat},CH! GG!->JMS->E6 GE k=kvs.eraseIdx j
 | [],_,_,j,_,h=>B7!
 | p::r,k,v,0,nd,h=>by show Am? (p=(k,v));show AW?;rw[Uu! Ju9 h,Jei (by rw[h] at PN;show PN.1)];rfl
 | p::r,k,v,j+1,nd,h=>by show Am? (r[j]?=D! (k,v));show AW?;have ne:¬Tz!:=uM! #[(k,v),ZP h,OQ!];rw[Ji5 ne,Jeh PN.2 h];rfl
def Jrr:∀{kvs:BG!} {k:κ} {v:V},WX!->∃j:Nat,JMS
 | [],k,v,h=>Ic!
 | p::r,k,v,h=>by show Ao?;(.rw[Rn e] at h;show#[0,by rw[<-e,<-ZO h];rfl]);.rw[Ro e] at h;have#[j,hj]:=Jrr h;show#[j+1,by simpa using hj]
open E
open S
variable {X:Cx Kx}{AB:List (Addr×Obj)}{σ:L2.St}{H:Hp}{s:Shared}{A:Around}{E:Value->Shared->Prop}{a b:Addr}
def Jom{kvs:Aq!}{xs:I5!}(p:Ky!):Fs! Cv! GG!:=fz! Jw7 r.1.symm
def J5k{kvs:Aq!}{k:Gm!}{v:V}{Q:NE}(hu:LI!)(I:I!)(e:Qn!)(eb:Qa!)(l:WX!)(h:JdB JcZ):JNb [BQ!,Dv!]:=by
 show Ih?;show Fn? JC! U1!
 have#[j,hj]:=Jrr l;have hjx:OD!:=Z0! U1! hj
 have#[x,hx]:=Aw hjx;have#[r1,r2,r3]:=A6 rel j _ _ hj hx;have#[k',p]:=x;have r1:k=k':=r1;subst r1;have nd:CH! GG!:=by have#[_,_,_,_,_,_,_,_,nd]:=id dd;rw[<-Jom rel];show nd
 have pL:CH! QEL:=by rw[<-Jct,Jom rel];show nd.sublist (xz List.eraseIdx_sublist)
 show DG NN JP! JDR (Jw6 (HR hu) ps! dd hz hx λh' o es ep a1 a2 a3 a4 a5=>Bp! (KM h ?_ r3)) (xz JDQ);rw[Jeh nd hj];show QEt a5 #[o,a1] #[?_,hd,xs.eraseIdx j,KT.keeps (Jkn j rel) qa!,o,es,ep,a1,a2,a3,a4,pL];.show AA (JEb List.length_eraseIdx) z
 .show K8? e
abbrev J3i(td ty:TE):TE:=iG! (a9 λkvs k v b=>m7! KU!/\Vc!/\z! H2 b (WP (k.map kV))/\WX!/\Q v (MG! a JcZ))
def Nq(hu:HQ!)(ho:I3!)(he:Wd!)(m:JU1):JUM J3i:=by show N?;show Lt?;show CI?;subst ex;show t?;show Dm?;show DZ?;rw[R4!];show DP? (λiv s2 #[y,H2,I2,ry,kvs,k,v,b,ea,ey,eb,l,q2]=>Wb!);subst ey;obtain rfl:iv=Db! b:=ry;show J5k hu I2 ea eb l JUk
open E
abbrev Nf(l:NB!)(a:Addr)(h:F!):NB!:=QQ! (λq=>QFJ)
def Jbl(l:NB!)(a:Addr)(h:F!):JeW JmN:=by
 unfold Nf;rw[AX];show BA?;change JEM=WF;by_cases e:WF=a;.rw[AF e];show FB!
 .rw[AD e]
def Jwb(l:NB!)(a:Addr)(h:F!):JmN (LF!)=Db LF!:=by
 unfold Nf;rw[AX];show BA?;change(tk (QFJ).1,An! JEM)=_;by_cases e:WF=a;.rw[K7!,<-e]
 .rw[AD e]
def Jx3(m:q∈Nf l a h):(∃q0∈l,q0.2.1=a/\q=(q0.1,a,h))\/(OR!/\WF≠a):=by
 unfold Nf at m;have#[q0,h0,e]:=Ey!;by_cases e1:q0.2.1=a;.rw[AF e1] at e;show h! #[q0,h0,e1,FB!]
 .rw[AD e1] at e;rw[<-e];show G? #[h0,e1]
open S
def BF.eI(x:Op)(hq:j7!)(l:F!):JH7 WF JbQ:=by
 have#[_,_,_,d1]:=x.fN;have#[n1,n2,n3,n4]:=d1 q hq;have mem:WF∈Cg!:=by unfold CC;show xC!
 have np:=x.VC mem;show AG?;show R8? n1.symm n2.symm ?_ (oW! n4.symm) K2! ?_;.rw[Ae n3.symm];change AY! Ab! (.dT ((Nf AK! WF l).map LF!));rw[Jwb];show x.dl
 .obtain⟨q0,_,e1,e2⟩|⟨h1,h2⟩:=Jx3 hr;(.rw[e2];show Ab);.rw[Ae h2];show x.hl r h1
 ·(have e2:Xe! JbQ:=by unfold CC;rw[Jbl]);rw[e2];show Aj!
open E
abbrev C7(l:F!)(t:T2):F!:=if Hq! then l else l++[t]
abbrev Lh(l:F!)(t:T2):F!:=FH! JIE
def Ju3(l:F!)(t:T2):JVa (m8! (q=t)) t:=by
 by_cases h:Hq!;.rw[Bz!];cases e:WZ! (q=t) with | none=>show M? (BR.mp e t h) Ix | some u =>have:=FL e;(have:u=t:=by show AQ?);show K?
 .rw[B9!];show Mf! (GJ! (by have:¬u=t:=λz=>h (z▸hu);show AQ?))
def On(l:F!)(t:T2):JVa (De (Db Kd!) (tk t)) nr!:=by
 rw[F1 (k:=j8!) (f:=Uk!),Ju3];by_cases h:Hq!;.rw[Bz!,Bz!];rfl
 .rw[B9!,B9!];rfl
def Ho(l:F!)(t:T2):rj! (JSb Kd! E8! AC) (C7 l t).map:=by
 unfold C7;by_cases h:Hq!;.rw[Bz!];unfold putK;rw[Rp,On,Bz!,AF (Yt! (T! (AC! (E8! AC)).isSome)),AX];show BA?;change(if tk q=tk t then QBP else QBP)=_;by_cases e:tk q=tk t;(.rw[AF e]);.rw[AD e]
 .rw[B9!,O3 (k:=j8!) (f:=Uk!) _ (λq hq z=>li! h hq),ZF];rfl
def Oa(l:R!)(k:CA!)(f:F1!)(t:T2):x6! Db nK! t FH! (EZ! (k q≠t)) nK!:=by
 unfold E6;rw[LX];congr 1;show FZ λq _=>?_;change KB (tb!≠tk t)=KB (k q≠t);by_cases e:k q=t;.rw[e];simp
 .have e2:¬tb!=tk t:=JIa;simp[e,e2]
abbrev Ck(l:Q!)(t:T2)(v:Int):Q!:=zZ! (QQ! vu!) (l++Ev! t)
def Ga(l:Q!)(t:T2)(v:Int):JSb F4! A2! v=qB! F4!:=by
 show LZ?;.rw[Bz!];unfold putK;(have e1:T! ((Db F4!).any λkv=>KB (Hg!=tk t)):=by have#[q,hq,e]:=ZN h;show N'.mpr #[nk!,Qt!,rV!]);rw[e1,BY!,AX,AX];show BA?;change(if O6!=tk t then(O6!,AM! v) else nk!)=(tk JPO,AM! (mD! (H!,v)).2);show z?;(.rw[AF e,AF (by rw[e])]);.rw[AD e,AD JIa]
 .rw[B9!,O3 (k:=IJ!) (f:=G6!) _ JWK,ZF];rfl
open S
open E
abbrev isT (H:Hp) (tb:T2):JB!->BH!
 | .ref a=>@decide (Ce! JyT) (Classical.propDecidable _)
 | _=>false
open S
open E
open S
variable {prog:Program}{w:World}{A:Around}{R:Result->Shared->Prop}{s:Shared}{l:Addr}{items:Array Value}{n:Nat}{x:Value}
open E
open S
open E
open S
open E
open S
open E
def J6w:Ze! JV! Ll!:=ZV
abbrev Gm(c:Int)(d:Addr):Eq!:=e0! Ll! d (Zg! JV! c)
def R6(c:Int)(d:Addr):Gm c d=([(JV!,AM! c),(Ll!,An! d)]:Eq!):=by grind [A3,V,J6w,Gm]
def Hl(c:Int)(d:Addr):bi! (Gm c d).lookup JV! (FU! c):=by unfold Gm;rw[Cp,AD J6w,Cp,BY!]
def Gx(c:Int)(d:Addr):z! (Gm c d).lookup (Ll!:Ag!) (UV d):=by unfold Gm;rw[Cp,BY!]
def Ep(c:Int)(d:Addr){m:Str}(h1:¬m=Ll!)(h2:¬m=JV!):UR! (Gm c d).lookup:=by unfold Gm;rw[Cp,AD h1,Cp,AD h2];all_goals rfl
def Jt5(c y:Int)(d:Addr):A3 JV! (FU! y) (Gm c d)=Gm y d:=by grind [R6,V,A3,Gm]
abbrev kvsOf(ls:X!):Bb!:=Hr! λl=>(Uh! As!,An! l.2)
structure KU(C:Addr)(H:Hp)(p d:Addr)(c:Int)(ls:X!):B! where
 ob:ql! (Zx! (Gm c d))
 dc:KC! s9!
 le:OS! (As!<=c)
 nd:CH! Hr!
def KU.keep(x:JPB)(h1:∀o,Fi! o->do! H')(h2:∀o,KC! o->na! o):KU C H' p d c ls :=#[Kn! (h1 _ e),h2 _ x.dc,x.le,Aj!]
def KU.ne(x:JPB):SO!:=by show AG?;show QEo e x.dc
def Sl(ls:X!):AZ! Hs! ls=ls.length:=Vg!
def Ir:JjU=(j9! Vp!).map λl=>An! l.2:=by
 unfold De kvsOf;rw[QG,QE];congr 1;congr 1;funext l;change JbO (Uh! As!)=KB Pa!;by_cases e:Pa!;.rw[e];simp
 show Jh?
def Jya(h:qo!):JjU=none:=vy! JSq
def Jo4{l1 l2:X!}{n:Int}{t:Addr}(nd:JLl):(QBM).find? (Vp!)=D! (n,t):=by
 rw[ZF,AI] at nd;have h:JB7:=OT! (T4! (o1! As! (BJ hl) n Dw!) (this e))
 rw[JSJ];have e1:l1.find? (Vp!)=none:=Mf! (FI! JSq)
 rw[e1];simp
def Jo9(nd:JLl):E6 (Hs! zD!) (BI! n)=Hs! (OU!):=by
 rw[ZF,AI] at nd;have h1:JB7:=OT! (o1! As! (BJ hl) n Dw! e);have h2:∀l∈l2,¬Pa!:=OT! ((N8! JXK).1 (by have m:=BJ (f:=λx:Int×Addr=>BK!) hl;rw[e] at m;show m));have all:∀ls:X!,(OS! (¬Pa!))->E6 (Hs! ls) Jzi=Hs! ls:=λls h=>by show Jei Un!;unfold kvsOf at m;rw[AX] at m;have#[l,hl,e]:=Ey!;show h l hl (Yw! e)
 unfold kvsOf;rw[ZF,AI,ZF];unfold E6;rw[LZ,FN];have e0:oL! (((Uh! (n,t).1,An! (n,t).2):Key×V).1≠Z7!):=ci
 rw[e0];have a1:=all l1 h1;have a2:=all l2 h2;unfold E6 kvsOf at a1 a2;rw[a1,a2];rfl
def Jlb(h:qo!):QFB ls Jzi t (ls++[(n,t)]):=Jee (Jya h)
structure EF where
 share:KE
 hs:G!
 po:G!
 iq:G!
 fi:G!
 en:G!
 pd:G!
 c:KE
 ls:X!
 qs:No
 MY:X!
 IF:X!
 G_:X!
def Na:Ze! Dk! Dl!:=ZV
def Rj:JFV Dl!:=ZV
def Pk:JFV Dk!:=ZV
def Xb:sI! Dl!:=ZV
def Rk:sI! Dk!:=ZV
def Ja1:sI! Ah!:=ZV
def Pl:dt! Dl!:=ZV
def Nb:dt! Dk!:=ZV
def Rl:dt! Ah!:=ZV
def Xc:dt! GN!:=ZV
def Xd:WE! Dl!:=ZV
def Rm:WE! Dk!:=ZV
def Ja2:WE! Ah!:=ZV
def Jhp:WE! GN!:=ZV
def Xe:WE! JX!:=ZV
abbrev Gk(W:EF):Eq!:=[(Dl!,g! ET!),Id! Dk! C5!,Id! Ah! CE!,Id! GN! B3!,Id! JX! Dm!,Id! Ln! EU!]
def M9(W:EF):bi! (Gk W).lookup Dl! (FU! ET!):=by unfold Gk;rw[Lc]
def Ey(W:EF):Wk! Dk! C5!:=by unfold Gk;rw[C0 Na,Lc]
def Fh(W:EF):Wk! Ah! CE!:=by unfold Gk;rw[C0 Rj,C0 Pk,Lc]
def Tp(W:EF):Wk! GN! B3!:=by unfold Gk;rw[C0 Xb,C0 Rk,C0 Ja1,Lc]
def Ja0(W:EF):Wk! JX! Dm!:=by unfold Gk;rw[C0 Pl,C0 Nb,C0 Rl,C0 Xc,Lc]
def Jvn(W:EF):Wk! Ln! EU!:=by unfold Gk;rw[C0 Xd,C0 Rm,C0 Ja2,C0 Jhp,C0 Xe,Lc]
def C8(W:EF)(h:JVb [Dl!,Dk!,Ah!,GN!,JX!,Ln!]):UR! (Gk W).lookup:=by show Ig?;have#[h1,h2,h3,h4,h5,h6,_]:=h;unfold Gk;rw[C0 h1,C0 h2,C0 h3,C0 h4,C0 h5,C0 h6];rfl
def J3b(W:EF):e0! Ln! EU! (lI! JX! Dm! GN! B3! (lI! Ah! CE! Dk! C5! (Zg! Dl! ET!)))=Gk W:=by unfold Gk;rw[F3];rw[Cn! Na,F3];rw[Cn! Rj,Cn! Pk,F3];rw[Cn! Xb,Cn! Rk,Cn! Ja1,F3];rw[Cn! Pl,Cn! Nb,Cn! Rl,Cn! Xc,F3];rw[Cn! Xd,Cn! Rm,Cn! Ja2,Cn! Jhp,Cn! Xe,F3]
abbrev Da:qC! S!
 | []=>[]
 | q::l=>JV6
def Le:∀(l m:No),Da (l++m)=Da l++Da m
 | [],m=>rfl
 | q::l,m=>by change QE3++Da (l++m)=(QE3++Da l)++Da m;rw[Le l m,BH]
def EB:∀{l:No},b∈Da l↔∃q∈l,b=H!\/b∈CC Rs
 | []=>#[λh=>by simp[Da] at h,λ#[q,h,_]=>B7!]
 | q::l=>by change b∈JV6↔_;rw[OR,BY,EB];show g?;(.rintro(h|⟨r,hr,h⟩);(.show#[q,H8!,h]);.show#[r,G9! hr,h]);.rintro⟨r,hr,h⟩;obtain rfl|hr:=ZM hr;(.show O?);.show G? #[r,hr,h]
abbrev Dl(p:Addr)(W:EF):S!:=[p,W.hs,W.po,W.pd,W.iq,W.fi,W.en]
abbrev Cy(p:Addr)(W:EF):S!:=Dl p W++Da A9!
structure AV(CW CH CP:Addr)(H:Hp)(p:Addr)(W:EF):B! where
 ob:ql! (S8! CW (Gk W))
 hs:AY! C5! (XV (kA! Ug!))
 ho:∀q∈W.qs,BF CH H H! Rs
 po:KU CP H CE! W.pd W.c FJ!
 iq:rf! B3! W.MY
 fi:rf! Dm! W.IF
 en:rf! EU! W.G_
 nd:(Cy p W).Nodup
abbrev JR(p:Addr)(W:EF)(H H':Hp):B!:=cP! HC!
open S
variable {CW CH CP p:Addr}{H H':Hp}{W:EF}
def AV.keep(x:Cq!)(k:o8! cv!):JHk:=by have t:∀{b},Va!->cv!:=λh=>IS!;show#[Kn! (KM k JzR e),eS! x.hs,pT! (KM k (D4! (Lo! (KF! hb))) e),ol! z6! z6!,eS! FK!,eS! x.fi,eS! JY!,Aj!]
def AV.same(x:Cq!)(s:TD):JHk:=JPD
def AV.some_at(x:Cq!)(hb:cv!):∃o,Ee!/\(JRp)/\JB8:=by
 show BP?;.show CM?;show CN?;(.show AG?;show#[_,e,O9!,PC!]);(.show B4? x.hs);(.have#[dx,e]:=x.po.ob;show#[_,e,O9!,PC!]);(.show B4? x.po.dc);(.show B4? FK!);(.show B4? x.fi);.show B4? JY!
 .show Cx?;show E6?;(.show JM?;show#[_,e,O9!,PC!]);.show Jf?;show#[_,e,O9!,PC!]
def AV.o9(x:Cq!)(e:JEi):HC!:=λm=>by have#[o,e',h,_]:=x.some_at m;show i?;cases e';show h _ A!
def AV.RZ(x:Cq!)(e:BU!):HC!:=λm=>by have#[o,e',_]:=x.some_at m;show i?;cases e'
def JR.FV(x:Cq!)(f:KX!):Ae! :=#[SA! (f a _ e (x.o9 e)),λa ob u e=>f a _ e JfO]
def J4p{A X X' B:S!}(h:M0! (A++(X++B)))(hx:X'.Nodup)(k:∀b∈X',b∈X\/(b∉A/\b∉B)):M0! (A++(X'++B)):=by
 have#[a1,a2,a3]:=JW! h;have#[b1,b2,b3]:=JW! a2;show SL! #[a1,SL! #[hx,b2,JB9],JB9];.show D? (k y hy);(.show b3 y h z hz e);.show A6! (e▸hz)
 .show AI?;(.show D? (HG! k);(.show a3 y hy z (Gq! h) e);.show pi (e▸hy));.show a3 y hy z (D4! hz) e
def AV.step(x:Cq!){i:Nat}{q:Addr}{G G':CU}(hi:dm!)(S:BF CH H' q G')(f:a8 q G H H')(nw:Nl!) : JcH (kB! ch!):=by
 have#[IP,_]:=ZJ hi;have e1:W.qs=s4!++L2!::tC!:=by have:=HF i A9!;rw[<-this];congr 1;(.rw[HF]);.rw[HF];show(List.drop_eq_getElem?_toList_append (l:=A9!) (i:=i)).trans (Ed! hi)
 have e2:ch!=s4!++H9!::tC!:=AO! List.set_eq_take_append_cons_drop (AF IP)
 generalize s4!=l1 at e1 e2;generalize tC!=l2 at e1 e2;have hm:L2!∈W.qs:=ZP hi;have nd:=x.nd;unfold Cy at nd;rw[e1,Le] at nd;have eA:JtO L2! Cg!:=d9!
 rw[eA] at nd;have#[a1,a2,a3]:=s5!;have#[b1,b2,b3]:=JW! a2;have apart:∀b,(Va!\/hS!)->b≠q/\b∉Cg!:=SZ (by (have no:b∉q::Cg!:=λm=>by obtain hb|hb|hb:=hb;(.show RX! a3 (Gq! hb) on!);(.show RX! a3 (D4! hb) on!);.show RX! b3 m hb);show#[JVj no,eE! no])
 have kp:JOe Va! hS!:=Bh! (f b o e (apart b hb).1 (apart b hb).2);have t:∀{b},Va!->b∈Dl p W\/hS!:=λh=>MI!;have hsm:kA! (Ug!)=(Lp! i H9!).map Ug!:=by rw[e2,e1,ZF,ZF];rfl
 show#[#[Kn! (KM kp JzR e),?_,K2!,ol! z7! z7!,wX! FK!,wX! x.fi,wX! JY!,?_],JU! ?_];.have:=KM kp (t (b:=C5!) lT!) x.hs;show I? hsm;show this
 .have hr:r∈ch!:=hr;rw[e2] at hr;(have oth:r∈l1\/r∈l2->BF CH H' AT r.2:=λh=>by (have hW:r∈W.qs:=da! (Ld! (λz=>BE! z) λz=>CI! nX!));show(x.ho r hW).keep (Bh! (ec! (Ld! (λz=>x! (PO! Lo! #[r,z,hb])) λz=>x! (IN (Lo! #[r,z,hb]))))));show BQ?;(.show oth (l! hr));.obtain rfl|hr:=ZM hr;(.show S);.show oth (IN hr)
 .change(Dl p W++Da (Lp! i H9!)).Nodup;rw[e2,Le];(have eB:JtO H9! (CC G'):=d9!);rw[eB];show J4p nd (JZd S.VC S.nd) KY!;show Bk?;(.show l! (H8!));.show D? (D5! nw);(.show F? (Ec! h));.have no:=x.RZ h;unfold Cy at no;rw[e1,Le] at no;show h? #[λm=>no ?_,λm=>no ?_];(.obtain m|m:=ZI m;(.show BE! m);.show CI! on!);.show CI! (ZC _ (ZC (q::Cg!) m))
 .have LK:b∉Da A9!:=λm=>hb (D4! m);show f b o e (λz=>LK (Lo! #[_,hm,h! z])) λz=>LK (Lo! #[_,hm,V6!])
def AV.sS(x:Cq!):(W.po≠W.pd/\W.po≠p/\W.po≠W.hs/\W.po≠W.iq/\W.po≠W.fi/\W.po≠W.en)/\(W.pd≠p/\W.pd≠W.hs/\W.pd≠W.iq/\W.pd≠W.fi/\W.pd≠W.en)/\(W.iq≠p/\W.iq≠W.hs/\W.iq≠W.fi/\W.iq≠W.en)/\(W.fi≠p/\W.fi≠W.hs/\W.fi≠W.en)/\(W.en≠p/\W.en≠W.hs):=by have nd:=V4! Aj!;simp only[Dl,BB,BY,CN,GY,not_or,EH,and_true,not_false_eq_true] at nd;have#[#[a1,a2,a3,a4,a5,a6],#[b1,b2,b3,b4,b5],#[c1,c2,c3,c4],#[d1,d2,d3],#[e1,e2],f1]:=nd;show#[#[c1,HJ! a2,HJ! b1,c2,c3,c4],#[HJ! a3,HJ! b2,d1,d2,d3],#[HJ! a4,HJ! b3,e1,e2],#[HJ! a5,HJ! b4,f1],#[HJ! a6,HJ! b5]]
def AV.KW(x:Cq!)(hb:Va!)(hq:q∈W.qs):b≠H!/\b∉CC Rs:=by have h:=D5! (JW! Aj!).2.2;show#[JrN NI! z,JrN V6! A!]
def AV.MB(x:Cq!)(S:KU CP H' CE! W.pd c ls)(f:JKN (b≠W.po) (b≠W.pd)) : JcH { W with c:=c,ls:=ls }:=by
 have#[#[a1,a2,a3,a4,a5,a6],#[b1,b2,b3,b4,b5],_]:=x.sS;show#[#[Kn! (Xi! e a2 b1),Xi! x.hs a3 b2,pT! Jdo,S,Xi! FK! a4 b3,Xi! x.fi a5 b4,Xi! JY! a6 b5,Aj!],JU! Jdo];show CA? CE!
 show CA? W.pd
 .rintro rfl;show hb (Gq! lT!)
 show DY?
def AV.JJN(x:Cq!):yf! B3! { W with MY:=l } B3!:=by
 have#[#[a1,a2,a3,a4,a5,a6],#[b1,b2,b3,b4,b5],#[c1,c2,c3,c4],_]:=x.sS;show EB? (b≠W.iq) B3!
 show#[#[Kn! (KM f e (O8! c1)),KM f x.hs (O8! c2),pT! (UU! ?_),ol! (λo e=>KM f e a4) (λo e=>KM f e b3),Ab,KM f x.fi (O8! c3),JNY c4,Aj!],JU! (UU! ?_)];show CA? B3!
 show DY?
open E
abbrev Xa(W:EF)(h:Int):B!:=h<0\/qr!
abbrev MO(W:EF)(h:Int)(q:Addr)(G:CU):B!:=0<=h/\Zd! (W.qs[h.toNat]?)
def MO.at(i:Bt!)(x:Cq!):BF CH H q G:=Fp! x.ho L2! be
def MO.lt(i:Bt!):0<=h/\h<W.qs.length:=by have#[z,_]:=ZJ be;have:=i.1;show#[i.1,W!]
def MO.WZ(i:Bt!):L2.WZ (kA! Ug!) h=D! (Cz! q):=xk! i.1 be
def lookup_mem:∀{l:aD!},S7! l.lookup k->(y,k)∈l
 | [],h=>B7!
 | (a,b)::l,h=>by rw[IE] at h;by_cases e:y=a;(·(have q1:Av! (y==a):=b0! (NY a));rw[q1] at h;have h:b=k:=ZO h;rw[e,h];show H8!);.have q1:DD! (y==a):=YK! e;rw[q1] at h;show G9! (lookup_mem h)
def Jln{l:aD!}{cl:Bc!}{y:Str}(hc:∀p∈l,AQ!=Rq!\/AQ!=Ha!->my! y!)(h:yG!):I4!:=by
 show Bs?;.show Ji4 l!
 .show Ji4 IN
def J92{a b c:Str}{cl:Bc!}{y:Str}(h:UO! JN0 JN0):I4! :=gz! (by show CO?;obtain rfl|rfl|rfl:=hp<;>obtain hk|hk:=hk<;>cases hk)
def J93{a b c d e f:Str}{k1 k2 k3 k4:NameKind}{cl:Bc!}{y:Str}(hc:fK!)(hd:JLW)(he:my! e)(hf:my! f)(h:UO! Jus Jus):I4! :=gz! (by show CO?;obtain rfl|rfl|rfl|rfl|rfl|rfl:=hp;show C2?;show C2?;(.show hc);(.show hd);(.show he);.show hf)
inductive vY(K:W.Frag)(H:Hp):u4!
 | BI {a:Addr} {xs:C!} {ds:Ir!}:DU!->Cd! (Rep K H) xs ds->Gp! vY Bs! JR! ds
open S
open E
structure Lies(H:Hp)(L:S!):B! where
 nd:L.Nodup
 all:∀b∈L,qI!
def Lies.keep(x:f1!)(k:g2!):JZ! H' L:=#[Aj!,SZ (let#[o,e]:=D5! x.all;k b o e)]
def Lies.new(x:f1!)(h:BU!)(h':zj!)(k:g2!):JZ! H' (b::L) :=#[OH! #[λm=>(by have#[o,e]:=x.all b m;rw[h] at e;cases e),Aj!],JS! (by obtain rfl|hc:=ZM hc;(.show h');.show Mz?)]
open S
def Jxe(he:Nc!)(ht:QCP es (do
  let ov <-UT!
  XC!
  let(f,first) <-Xk!
  QCQ QAO):=by rfl) :
 JKi es (λσ H _=>FW! ta JH!):=by
 show N?
 show Q_ (pl:=pl) (QC2 (λu s1 #[x,H1,I1,rx,q]=>q.elim)) ht
def Jt6{X:E!}(he:Nc!)(c:Nt!)(hm:gF!)(ha:LH!)(rO:I8!:=by rfl)(UT:Ni!:=by rfl)(ht:wO! (do
  let ov <-UT!
  XC!
  let(f,first) <-Xk!
  w2!):=by rfl) :
 vH! (λσ H _=>o0! (M_ λa dx fs=>BX!/\XZ!/\fC!/\eV! JH!)):=by
 show N?
 show D1?
 show CG?
 subst ex
 show t?
 show En?
 show SA (first:=Fl!) (h₀:=LS!) I.ok.mod.Z' hm.kp (l6! ha s1 H1 I1 q (λus s2 #[vs,H2,I2,r,q2]=>q2.elim)) rO UT
open E
def Lies.add(x:f1!)(nd:X.Nodup)(h:∀b∈X,BU!)(h':∀b∈X,zj!)(k:g2!):JZ! H' (X++L) :=#[SL! #[nd,Aj!,λb hb c hc e=>by have#[o,z]:=x.all c hc;rw[<-e,D5! h] at z;cases z],JS! (by obtain hc|hc:=ZI hc;(.show h' c hc);.show Mz?)]
def Lies.perm(x:f1!)(p:L.Perm L'):JZ! H L':=#[p.nodup_iff.mp Aj!,SZ (x.all b (jh! hb))]
abbrev Kp(p:Addr)(H H':Hp):B!:=JNd
def Kp.trans(a:Kp p H H1)(b:Kp p H1 H2):Kp p H H2:=λc o e h=>b c o (a c o e h) h
def xr:Kp p H sb!:=λb o' e h=>l2! (Ae h)
def Kp.ex(k:Kp p H H')(hp:∃o,do! H'):g2!:=Bg! (by by_cases z:b=p;(.rw[z];show hp);.show#[o,IG! k z])
def J6k(h:¬x=y):qE!:=AN (Gs! h kC!)
def fF(k:tb D σ H)(hv:JMv wd:=by rfl)(ne:¬wd=c:=by show BB?):JkX:=JVW (U! (J6k ne) (Cq k))
def yC(k:ta D σ H)(hv:JMv c:=by rfl):JkX:=JVW JhO
def AV.XN(x:Cq!)(e:ru!)(h:b≠W.hs):HC!:=λhb=>by show BP?;(.show CM?;show CN?;(.have#[dx,e']:=x.ob;show i?;cases e');(.show h A!);(.have#[dx,e']:=x.po.ob;show i?;cases e');(.have e':=x.po.dc;show i?;cases e');(.have e':=x.iq;show i?;cases e');(.have e':=x.fi;show i?;cases e');.have e':=x.en;show i?;cases e');.show Cx?;have ne:=(x.ho q hq).XO e;show hb.elim ne.1 ne.2
abbrev J63(G:CU):Bb!:=[uz! SQ! G.BX,eu! A4! G.h,eu! am Ab!,eu! Di! v6,eu! C4! BN!,uz! C2! G.AY,uz! C3! GM!]
inductive LstAt(H:Hp)(b:Addr)(ts:F!):B!
 | mk (as:S!) (_:S3! Fr!) (_:F5!)
def CB.keep(k:Ae!)(x:F5!):cU!:=Ax (λ_ _ e=>TK! e) x
structure JET(H:Hp)(p:Addr)(G:CU):B! where
 ob:Fi! (.dK (J63 G))
 dh:LstAt H G.h Bk!
 dO:JXD
 dl:JSD
 dr:JXE
 hl:SG! (LstAt H WF BS!)
 nd:M0! (p::Cg!)
open S
variable {p:Addr}{H H':Hp}{G:CU}
def Ic{α β:Go}{f:α->β}:∀{l:R!},(Db f).Nodup->∀{a b:α},a∈l->b∈l->f a=f b->a=b
 | [],_,_,_,ha,_,_=>Fa! ha
 | x::l,nd,a,b,ha,hb,e=>by show Bx?;obtain ha|ha:=ZM ha<;>obtain hb|hb:=ZM hb;(.rw[ha,hb]);(.show Lp? nd.1);(.show DL! B2! JbH nd.1);.show Ic nd.2 ha hb e
open E
@[reducible]abbrev HL:=NB!
abbrev LV(l:HL):CQ! (T2×F!):=QQ! RF!
abbrev LN(l:HL)(t:T2)(h:F!):HL:=QQ! (QBu pr!)
abbrev FD(l:HL)(t:T2):F!:=((Li! (EZ! BR!)).map Ja!).getD []
def Jc0(l:HL)(t:T2):tU! (L9! (LV l).find? BR!) (EZ! BR!) RF!:=QDB QG
def Jo0(l:HL)(t:T2):FD l t=(((LV l).find? (EZ! BR!)).map B1!).getD []:=by unfold FD;rw[Jc0,QE];rfl
def Jmq(l:HL)(t:T2)(h:F!):LV (LN l t h)=(LV l).map (QBu (H!,h)):=by
 unfold LV LN;rw[AX,AX];show BA?;change(JPP,(mD! pr!).2.2)=if BR! then(H!,h) else(H!,BS!);show z?;.rw[AF e,K7!]
 .rw[AD e,AD e]
def Jwd(l:HL)(t:T2)(h:F!):JeW JgS:=by
 show MC? (mD! pr!).2.1 WF;.rw[AF e]
 .rw[AD e]
def Jwc(l:HL)(t:T2)(h:F!):JHi JgS:=by
 show MC? JPP H!;.rw[AF e]
 .rw[AD e]
def Si(m:q∈LN l t h):(BR!/\BS!=h)\/OR!:=by
 have#[q0,h0,e]:=Ey!;show C? (q0.1=t);.rw[BZ!] at e;subst e;show F? #[c,A!]
 .rw[Ez!] at e;subst e;show G? h0
def Jlq(h:Et!):∃a,pH!=D! (t,a,FD l t):=by cases e:WZ! BR! with | none =>show Fu?;show Dg?;show M? e2 JDk | some q =>(have h1:BR!:=JHs);show#[WF,?_];(have:FD l t=BS!:=by unfold FD;rw[e];rfl);rw[this,<-h1]
def Jh0(ka:(Db Hm!).Nodup)(kt:WM!)(f:pH!=D! (t,a,hl))(h:F!):Nf l a h=LN l t h:=by
 have m:=BE f;unfold Nf LN;show DH Ba!;show z?;.have:=Ic kt hq m e;rw[this,BY!,BY!]
 .have:¬WF=a:=λz=>Uu! e (Ic ka hq m z);rw[AD this,AD e]
structure HQ(M G:CU):B! where
 BX:M.BX=G.BX
 AY:M.AY=G.AY
 BG:M.BG=G.BG
 hand:M.hand=G.hand
 AK:M.AK=G.AK
 AL:M.AL=G.AL
 holds:LV Jb!=LV AK!
def HQ.FD(x:Af!)(t:T2):FX.FD Jb! t=FX.FD AK! t:=DM! Jo0 Jo0 Lq!
structure Ok(G:CU)(n:Nat):B! where
 hn:G.hand.Nodup
 hz:G.hand.length<=n
 on:JFu
 oz:G.AK.length<=n
 ke:x0!
 rn:JFv
 rz:G.AL.length<=n
 ln:SG! (q.2.2.Nodup/\q.2.2.length<=n)
 new:QCZ (mj!/\c9!)
 hk:SR! QD1
 lk:QAn QD1
 rk:JK2 dB!
def Ok.mono(x:sw)(h:n<=m):Ok G m :=JgM (AA x.hz h) (AA x.oz h) (AA x.rz h) (A8! #[(Jc! q hq).1,AA ze! h])
abbrev KQ(G:CU):CU:={ G with BG:=Fb! }
abbrev YF(G:CU)(a:Addr):CU:={ G with AY:=Dx!,hand:=Pj!,AK:=Nf!,holds:=a7! }
def EG:u∈C7 l t↔u∈l\/u=t:=by
 unfold C7;by_cases h:Hq!;.rw[Bz!];show#[l!,λz=>OP! id λz=>rd! z]
 .rw[B9!];simp
def JC:u∈Lh l t↔u∈l/\u≠t:=by unfold Lh;rw[AH];simp
def Jcd(t:T2)(h:l.Nodup):(C7 l t).Nodup:=by
 unfold C7;by_cases e:Hq!;.rw[AF e];show h
 .rw[AD e];show Il h e
def O9(l:F!)(t:T2):Ci! C7 l t qs!:=by
 unfold C7;by_cases e:Hq!;.rw[AF e];show DX _
 .rw[AD e];simp
open S
def Ok.KQ(x:sw):Ok (KQ G) n:=JgM x.hz x.oz x.rz Jc!
def Ok.hand(x:sw)(h1:l.Nodup)(h2:l.length<=n)(h3:JCA):Ok jt! n:=#[h1,h2,x.on,x.oz,x.ke,x.rn,x.rz,Jc!,x.new,h3,x.lk,FL!]
def Ok.holds(x:sw)(h1:l.Nodup)(h2:l.length<=n)(h3:JCA):Ok JbR n:=by
 show#[x.hn,x.hz,x.on,x.oz,(Jwc ..).trans x.ke,x.rn,x.rz,Ba!,x.new,x.hk,Ba!,FL!];.obtain⟨_,e⟩|hq:=Si hq;(.rw[e];show#[h1,h2]);.show Jc! q hq
 .obtain⟨_,e⟩|hq:=Si hq;(.rw[e];show h3);.show x.lk q hq
def Ok.YF(x:sw)(a:Addr):VO! (YF G a):=by
 show Mi?
 have eo:JEJ=PB!++[(G.BX,G.AY)]:=Qq!
 show#[?_,?_,?_,?_,?_,x.rn,by have:=x.rz;change G.AL.length<=n+1;show CJ Aw!,Ba!,?_,?_,?_,FL!];.show Il x.hn λm=>nw (x.hk _ m A!)
 .change(Pj!).length<=n+1;rw[ZE];have:=x.hz;change G.hand.length+1<=n+1;show EX Aw!
 .change bP! bW!;rw[eo];show Il x.on nw
 .change(bW!).length<=n+1;rw[ZE];have:=x.oz;change G.AK.length+1<=n+1;show EX Aw!
 .change(G.holds++[(FX!,a,([]:F!))]).map (λ(q:T2×Addr×List T2)=>H!)=JEJ;rw[eo,ZF,x.ke];rfl
 .show BO?;(.show#[(Jc! q hq).1,CJ ze!]);·(have:q=(FX!,a,[]):=by simpa using hq);show K?;show#[EH,Ax!]
 .intro t ht;have ht:J9! (bW!).map:=ht;change mj!/\A7!<Dx!;rw[eo] at ht;show B2?;(.have:=x.new t ht;show#[OW!,by have:=this.2;show CA this]);·show G3?;show K?;show#[A!,KN! (G.AY<Dx!) Gu!]
 .intro t ht e;show HM?;rw[eo];show B2?;(.show BE! (x.hk t ht e));.show CI! ht
 .intro q hq t ht e;show HM?;rw[eo];show BO?;(.show BE! (x.lk q hq t ht e));·show D7?
def Ok.fresh(x:sw):JL8/\(JCB)/\JBv:=by
 show Mi?
 show#[λt ht e=>JK8 (x.hk t ht (by rw[e])),λq hq e=>JK8 Qt!,λq hq e=>nw (by rw[<-e,<-x.ke];show Qt!)]
def Ok.P'(x:sw):G.holds.length<=n:=by show AU? x.ke;show FY?;show K?;show x.oz
def Ok.get(x:sw)(t:T2):(FD AK! t).Nodup/\(FD AK! t).length<=n/\∀u∈uA!,u.1=G.BX->u∈PB!:=by unfold FD;cases e:JHN BR! with | none=>show#[EH,Ax!,JWE] | some q =>have m:=BE e;show#[(Jc! q m).1,(Jc! q m).2,x.lk q m]
def Ok.find(x:sw)(h1:OX!)(h2:mj!):∃a,L9! JTl BR!=D! (t,a,uA!):=KV! Jlq x.ke (x.hk t h1 h2)
def HQ.LN(x:Af!)(t:T2)(l:F!):HQ { M with holds:=LN Jb! t l } JbR :=#[Dn!,GO!,x.BG,Jd!,C6!,FM!,by change LV (FX.LN Jb! t l)=LV (FX.LN AK! t l);rw[Jmq,Jmq,Lq!]]
def HQ.mk2(x:Af!)(a b:Addr):HQ (KQ (YF M a)) (KQ (YF G b)):=by
 show#[Dn!,?_,?_,?_,?_,FM!,?_];.change M.AY+1=Dx!;rw[GO!]
 .change M.BG+1=Fb!;rw[x.BG]
 .change M.hand++_=G.hand++_;rw[Jd!,Dn!,GO!]
 .change M.AK++_=G.AK++_;rw[C6!,Dn!,GO!]
 .change LV (M.holds++[((M.BX,M.AY),a,[])])=LV (G.holds++[(FX!,b,[])]);unfold LV;rw[ZF,ZF,show M.holds.map (RF!)=ON! RF! from x.holds,Dn!,GO!];rfl
open E
abbrev Aj(l:Q!)(t:T2):KE:=xt!
def K6(l:Q!)(t:T2)(v:Int):ww qB!=zZ! bI! (bI!++[t]):=by
 show LZ?;.rw[Bz!,Bz!,AX];show BA?;change JPO=H!;show z?;(.rw[AF e]);.rw[AD e]
 .rw[B9!,B9!,ZF];rfl
def Ok.JBY(x:sw)(hf:HD!)(v:Int):VO! JWM:=by
 have x1:=x.mono (DX n);show#[Jcd _ x.hn,by have:=Zu! O9;have:=x.hz;change Ci! C7 Bk! tb (n+1);lia,x1.on,x1.oz,x1.ke,?_,?_,x1.ln,x1.new,M5!,x1.lk,?_];.change CH! (Ck Ai! tb v).map;rw[K6];show Fm?;(.rw[Bz!];show x.rn);.rw[B9!];show Il x.rn h
 .have h0:=Cx! List.length (K6 Ai! tb v);have:=x.rz;change(Ck Ai! tb v).length<=n+1;rw[ZA] at h0;rw[h0];show Fm?;(.rw[Bz!,ZA];show CJ Aw!);.rw[B9!,ZE,ZA];change G.AL.length+1<=n+1;show EX Aw!
 .show A9?;(.show x.hk t ht e);.show Fd! JXd hf
 .change ∀t∈ww (Ck Ai! tb v).map,dB!;rw[K6];intro t ht;show Fm?;(.rw[Bz!] at ht;show FL! t ht);.rw[B9!] at ht;show B2?;(.show FL! t ht);·(have:Je!:=by simpa using ht);show K?;show hf
open S
def Jyp(G:CU)(a:Addr):JhL=Cg!++[a]:=by unfold CC YF KQ;simp
open E
def Sw(h:Et!):JUU:=by cases e:WZ! BR! with | none =>show Fu?;show Dg?;show M? e2 JDk | some q =>(have h1:BR!:=JHs);(have:Ml!=Rs:=by unfold Aj;rw[e];rfl);rw[this,<-h1]
def Jsb(h:Et!)(v:Int):JHi qB!:=AO! K6 Bz!
def Jnf(h:Et!)(v:Int):(Ck l t v).length=l.length:=JLG (Cx! List.length (Jsb h v)) ZA
open S
def Ok.AK(x:sw)(h:Fz!)(v:Int):Ok JCD n:=by
 have e:=Jsb h v;show#[x.hn,x.hz,by change CH! (Ck ii tb v).map;rw[e];show x.on,by change(Ck ii tb v).length<=n;rw[Jnf h];show x.oz,by change JEG=ww (Ck ii tb v).map;rw[e];show x.ke,x.rn,x.rz,Jc!,?_,?_,?_,FL!];.change ∀t∈ww (Ck ii tb v).map,_;rw[e];show x.new
 .change SR! JbB;rw[e];show x.hk
 .change QAn JbB;rw[e];show x.lk
abbrev KR(M G:CU):B!:=HQ { M with BG:=G.BG } G
open E
def Jdc(f:d6!):∀{l:R!} (x:Int),(Db f).Nodup->Fn! FH! (λe=>f e==x) 1
 | [],_,_=>Ax!
 | a::l,x,nd=>by show Bx?;rw[FN];by_cases e:f a=x;(.have no:(FH! λe=>f e==x)=[]:=List.filter_eq_nil_iff.mpr λb hb z=>ab! nd.1 #[b,hb,by rw[e];simpa using z];rw[AF (by simpa using e),no];show ZG _);.rw[AD (by simpa using e)];show Jdc f x nd.2
open S
variable {prog:Program}{w:World}{K:Type}[DecidableEq K]{knd:HeapKind prog w K}{A:Around}{E:Value->Shared->Prop}{s:Shared}
abbrev Tame(knd:HeapKind Da! w K):B!:=∀{A:Around} {E:NE} {s:Shared} {k:K} {a:Addr} {Q:dp!},g4!->(∀b,Q b s)->Eh! (PD! Builtin.Dict.quietEq a)
def Jq9{id:String}{d:Addr}{ob:Obj}{es:EB!}{ep:Nat}{xs:Ii!}{Q:H7! EB!}(tm:Tame knd)(g:JKJ d)(dat:ob.data=.dict es ep)(ent:es.toList=Cv! (Rl! knd))(keys:∀x∈xs,knd.is Tk BK! MY!)(hh:MM! Cv! JRw)(q:Q es s):Eh! (Builtin.Dict.entriesForEmpty id d):=by
 have hn:MM! SS! (λe=>e.hash):=O7! ent AX hh
 unfold Builtin.Dict.entriesForEmpty;show ZR (DT g dat (ZR ?_));rw[<-Array.forIn_toList];show WK _ (λrest _ s'=>s'=s/\∀e∈rest,e∈es.toList) _ ?_ ?_ _ _ (Ao! (λe he=>he));.rintro e rest b s' ⟨rfl,sub⟩;have me:=Ta! BO! e;rw[ent] at me;have#[x,hx,ex]:=ZN me;(have ek:e.key=FS MY!:=by rw[<-ex];rfl);rw[ek];show ZR (tm (keys x hx) λbq=>?_);(have small:¬Jgx > 1:=by have h1:=Jdc (λz:DictEntry=>z.hash) e.hash hn;(have h2:Jgx=AZ! es.toList.filter (λz=>z.hash==e.hash):=UJ! DZ Array.toList_filter);rw[h2];show CF.mpr h1);cases bq with | true =>show Jp?;show ZS JXq | false =>simp only[Bool.not_false,IA];rw[AD small];show ZS JXq
 .rintro b s' ⟨rfl,_⟩;show ZS q
def Jbk{d a:Addr}{xs:Ii!}{k:K}{v:Value}{Q:D9!}(room:gG!)(key:g4!)(m:gr!)(z:JC!)(q:Jae (YP! xs k a v)):JGR dictSetHashed d Bs! (knd.hash k):=by
 have#[ob,es,ep,g,ex,dat,ent,keys,nd]:=m;have sz:=NB ent;unfold dictSetHashed;show EO (ZR (JRs room wv g dat ent keys nd (λno=>?_) λj p hj=>?_));.show R? TM (JRt (hz:=U! sz z) g dat (JvP (ep+1) JG ex.mapDictKeys (JG dat _)));(.rw[hp!,ZF,<-ent];simp[entryOfKey]);(.rw[hp!] at hx;obtain hx|hx:=ZI hx;(.show hv! (keys x hx));·(have e:x=(k,a,v):=by simpa using hx);rw[e];show hv! wv);.rw[hp!,ZF];show Il nd (not_mem_keys_of_get no)
 .show Bg? TM (wpAny_updateDict g dat (wpAny_point (JvP ep JUC ex.mapDict (JUC dat _))));(.rw[storedH_old (atKey_of_get nd hj)];have e:=modify_map_putAt (Rl! knd) (λe:DictEntry=>{ e with val:=v }) k v oI! nd hj;rw[<-ent] at e;rw[<-e];simp);(.rw[JlN] at hx;have#[y,hy,e]:=ZN hx;(have e1:BK!=BJ!/\MY!=y.2.1:=by rw[<-e];unfold putAt;show C? (BJ!=k);(.rw[AF c];show#[A!,A!]);.rw[AD c];show#[A!,A!]);rw[e1.1,e1.2];show hv! (keys y hy));.rw[JlN,keys_map_putAt];show nd
abbrev Fy(xs more:Ii!):Ii!:=more.foldl (λacc x=>xB! acc) xs
def Xm(xs more:Ii!){i:Nat}{x:K×h1!}(h:more[i]?=D! x):Fy xs (more.take xL)=xB! (Fy xs (more.take i)):=by unfold Fy;rw[Yx!,h,RJ];rfl
def Jmk(xs:Ii!)(k:K)(a:Addr)(v:Value):(YP! xs k a v).length<=kD! 1:=by cases e:GH! xs k with | none=>rw[storedH_new e,ZE];show Ay! | some p=>rw[storedH_old e,ZA];show DX _
def P5:JCF (Ci! Fy xs CV! JUK)
 | [],xs=>Ay!
 | x::r,xs=>JmI Fy JkF P5 (Jmk xs BK! MY! x.2.2) Fy JkF (kD! (r.length+1))
def Jcp:JCF (bP! (xs++more)->Fy xs CV!=xs++more)
 | [],xs,_=>Fk! AO xs
 | x::r,xs,nd=>by (have e:GH! xs BK!=none:=by cases c:GH! xs BK! with | none=>rfl | some p =>exfalso;unfold atKey at c;cases f:xs.find? (λy=>Gn! BJ! BK!) with | none=>rw[f] at c;cases c | some y =>(have h1:BJ!=BK!:=Tf! (FL f));have h2:=BE f;rw[ZF,AS] at nd;show nd.2.2 _ (BJ h2) _ (BJ (H8!)) h1);change Fy (xB! xs) r=xs++x::r;rw[storedH_new e];(have e2:xs++[(BK!,MY!,x.2.2)]++r=xs++x::r:=d9!);rw[JXF Jcp r,e2]
def Jqq{id:String}{d o:Addr}{xs more:Ii!}{Q:D9!}(tm:Tame knd)(room:gG!)(ne:d≠o)(lo:DD! (o==sysModules))(hd:gr!)(ho:s.heap.DictOfH knd o CV!)(z:EJ! JUK)(hh:xs=[]->QDL JRw)(q:Jae (Fy xs CV!)):Eh! (Builtin.Dict.mergeDict id d o):=by
 have#[od,esd,epd,gd,exd,bt,JJp,JR0,ndd]:=_root_.id hd;have#[oo,UU,epo,go,exo,WJ,og,du,ndo]:=_root_.id ho;have so:=NB og;unfold Builtin.Dict.mergeDict Builtin.Dict.showsAll;rw[AD (by simpa using ne),AD (U! lo AR)];show Bg? ZS (DT go WJ ?_);show AE?;split;.show ZR (DT gd bt ?_);split;(.rename_i em;(have ex:xs=[]:=by have h1:=NB JJp;rw[OB.mp em] at h1;show SB! h1.symm);subst ex;have em':Fy [] CV!=more:=Jcp CV! [] ndo;rw[em'] at q;show ZR (Jq9 tm go WJ og du (hh A!) ?_);split;(·(have zz:UU.size<=qk!:=by rw[so];have:EJ! (0+more.length):=z;show AA Uz! (AA z bH!));show ZR (wpAny_updateDictKeysTo gd bt (ZS (q _ #[_,_,epd+1,EJ _ gd (RI (JG bt _)),exd.mapDictKeys _,JG bt _,og,Ie!,ndo] lx!)) zz);show knd.keeps (du x hx) gd bt lx!);.rename_i nz;(have e0:more=[]:=by have:UU.size=0:=OB.mp (by simpa using nz);show I? so;show SB! this);subst e0;show ZS (q _ hd JFT));.show PU?;rw[WL];show J0?;show Q0?;(.show Rb?);.show J3?;show Ni?;rw[ej,so,BS] at XY;show ZS (q h' XY sb)
 .show PU?;rw[WL];show J0?;show Q0?;(.show Rb?);.show J3?;show Ni?;rw[ej,so,BS] at XY;show ZS (q h' XY sb)
open E
def Jps{prog:Program}{w:World}{K:Go}[DecidableEq K](knd:KeyKind Da! w K):Tame (Xs! knd):=λhk q=>by unfold Builtin.Dict.quietEq;show ZR (jI! (IsTupleKey.typeIs hk) F.slot_tuple_eq.lookup (ZS (q _)))
abbrev Ss(w:World)(k:Gm!):KE:=reduceHash (JUd (k.map (J68 w)))
abbrev Hf(kvs more:Aq!):Aq!:=more.foldl (λacc kv=>EL! acc Hg! kv.2) GE
def Jyb{more:Aq!}{ms:I5!}(p:KT H CV! ms):∀{kvs:Aq!} {xs:I5!},Ky!->KT H (Hf GE CV!) (Fy xs ms):=by induction p with | nil=>show id | @cons p q _ _ h t ih =>intro kvs xs r;have e:H!=y!:=h.1.symm;have r1:=KT.put r y! Pc! h.2.2;change KT H (Hf (EL! GE y! AQ!) _) (Fy (YP! xs H! WF BS!) _);rw[e];show ih r1
def J1r{kvs:Aq!}{xs:I5!}(p:Ky!):(Cv! λx=>(Xs! (Cs P w)).hash BK!)=GG! QEQ:=fz! Jw7 (Ed! AT)
def Jco:∀(more kvs:Aq!),Ci! Hf GE CV! (kvs.length+more.length)
 | [],_=>Ay!
 | q::r,kvs=>JmI Hf JdE Jco (Io GE H! Rs) Hf JdE (kvs.length+(r.length+1))
open S
variable {X:Cx Kx}{AB:List (Addr×Obj)}{σ:L2.St}{H:Hp}{s:Shared}{A:Around}{E:Value->Shared->Prop}
def Jiv{id:String}{d o:Addr}{kvs more:Aq!}{Q:JFC}(hu:YX!)(I:I!)(ed:eK!)(eo:Jdk)(ne:d≠o)(z:JAB)(hh:kvs=[]->QDL (λq=>Ss X.w H!))(q:∀s',JNX s'->Q QER s'):lz! (Builtin.Dict.updateFrom id d (UV o) [] GM):=by
 have#[zd,ld,xs,rd,dd]:=yG Dd! ed;have#[zo,lo,ms,ro,dO]:=Ta Dd! eo;show Fv? rd;have l2:=AA! ro;unfold Builtin.Dict.updateFrom;show AZ? Ya! kF!;show Cr?;show AY?;unfold Builtin.Dict.merge Builtin.Dict.readDirectly;show R? ZR (PL kF! isSubtype_dict_dict ?_);show Jp?;show ZR (jI! kF! F.slot_dict_iter.lookup (ZS ?_));simp only[NY,IA];show R? ZS (Jqq (Jps _) hu ne lo dd dO v! (QR!) λh' r9 sb=>?_);.rw[J1r ro];show hh ?_;rw[e] at l1;show SB! l1
 .have#[ob,es,ep,g,h2,h3,h4,_,h5]:=r9;(have I':JNX CU!:=by show Tf (t':=GB!) I (o! ed YL!) sb #[ob,g] #[?_,ld,_,(Jyb ro rd).keeps qa!,ob,es,ep,g,h2,h3,h4,h5];(.have:=Jco CV! GE;show AA Aw! Aw!);.show K8? ed);show GM? (Builtin.Dict.addKeywords d []);show ZR (ZS (ZS (q _ I')))
open E
open S
variable {X:Cx Kx}
inductive J6o(w:World)(x:V)(vs:C!)(H:Hp)(Q:VK):B!
 | mk (d o:Addr) (kvs more:Aq!) (_:x=Gz!) (_:vs=[FS o]) (_:eK!) (_:Jdk) (_:d≠o) (_:JAB) (_:(kvs=[]->JQP)) (_:Q AS! (EY! d (.dT (Hf GE CV!))))
def J1e(hu:HQ!):sC X JUp (J6o X.w):=by show AF?;have#[d,o,kvs,more,rfl,rfl,ed,eo,ne,z,hh,q]:=h;show J?;show BV?;cases ru;have#[_,_,xs,rd,dd]:=yG Dd! ed;show DG JUr JP! PySem.F.entry_dict_update ?_ (xz PySem.F.args_dict_update_2);unfold Builtin.«dict.update» Builtin.Dict.selfAndRest;show Ji?;show Jiv (id:=JUp) (IF! (X.A.in1.units<cLine) (HR (knd:=JgP) hu)) I ed eo ne z hh λs' I'=>#[_,A!,AS!,_,I',A!,q]
inductive Jpm(w:World)(xs:C!)(H:Hp)(Q:VK):B!
 | mk (o:Addr) (more:Aq!) (_:xs=[FS o]) (_:AY! o (.dT CV!)) (_:JQP) (_:az! (.dT (Hf [] CV!)))
def Jrh(hu:Wg!):IH X (Cu! LZ!) (Jpm X.w):=by
 show b?;have#[o,more,rfl,eo,hh,q]:=h;show Ap?;show J?;show callType_codes (Q₁:=λobj FC=>obj=MN!/\FC=N3! (JM! { cls:=B5! LZ!,data:=.dict Dc! })) F.kt_called_dict (F.kt_typeCall_dict_1 _) F.entry_dict_init (kt_code_dict_new _ DQ!) ?_;rintro obj FC ⟨rfl,rfl⟩;show B3?;have I1:=Je0 (λ_ _ z=>ZT _ z);show GV? UF UF P2!;have#[_,_,xs,rd,dd]:=yG I1.EK e1;show#[JP!,F.args_dict_init_2 _ _,?_];unfold Builtin.«dict.__init__» Builtin.Dict.selfAndRest;show Ji?;have ne:s.heap.objs.size≠o:=λz=>by rw[<-z,hn] at eo;cases eo
 have eo1:IW! UF P2! o (.dT CV!):=jp ne.symm eo
 have#[zo,_]:=yG Dd! eo;have yx:X.A.in1.in1.units<cLine:=by (have h1:X.A.in1.in1.units=JEt:=by first|rfl|simp[units_in1]);lia
 show Jiv (id:="dict.__init__") yx I1 e1 (DC! eo1) ne (o! BZ (LH zo _)) (λ_=>hh) λs' I'=>#[A!,MN!,_,by rw[Hh] at I';show I',A!,q _ hn]
open E
abbrev hN(a b:Nat):KE:=JT3 (bi a) (bi b)
def Lz{as:R!}{bs:B8!}(p:gn!){a:α}{b:β}(r:R a b):Paired R (c7!) (bs++[b]):=JPx
def Xs{α:Go}(b:Qp!){ts:R!}{i:Nat}{t:α}(h:fB!):JvR:=by rw[Yx!,h,LZ];cases e:b t<;>simp[e]
def Mh(b:Qp!)(ts:R!)(i:Nat):Jgz:=M9!
inductive MC(p:Addr)(b:ux!)(ts:F!)(H:Hp)(i:Nat)(ys:C!)(H2:Hp):B!
 | mk (bs:S!) (_:ys=IU! E4!) (_:Ei!) (_:Gr!) (_:VJ! H2 (Jf! i).filter b)
open S
variable {p:Addr}{b:T2->Bool}{ts:List T2}{H:Hp}{tt:TT}{caps:List (Str×Nat)}{σ:L2.St}{Q:Hp->Prop}
def MC.start(hp:G1!):pR! 0 [] (Zh! Zo!):=#[[],A!,Ah hp,Ab,a!]
def Qa4(hp:G1!)(hz:dD!)(ht:xK!){i:Nat}{ys:C!}{H2:Hp}{a:Addr}{t:T2}{N:Go!}(pv:pR! i ys H2)(hi:fB!)(ha:QCA)(n:∀ys H',pR! xL ys H'->N ys H') : QCD (λc H4=>Be! (c=true) (hK! Bs! a0!) (N ys H4)):=by
 have#[bs,ey,sm,JJ,th]:=pv;have e1:=Xs b hi;have ln:ys.length<=ts.length:=by rw[ey,ZA,od!];show Mh b ts i
 show ht H2 a t _ sm ha (ZP hi) ?_;cases c:b t with | false =>rw[c] at e1;show Cr?;show n ys H2 #[bs,ey,sm,JJ,by rw[e1];simpa using th] | true =>rw[c,BY!] at e1;rw[AF A!];(have s2:Ds! JYK:=λd o e=>JzT hp (sm d o e));(have kt:DM H2 JYK:=Kb! JJ);show#[_,A!,JJ,QAG (AA ln hz),P! n #[bs++[a],bk! ey,s2,Ab,?_]];rw[e1];show Lz (Jg! kt th) (wP ST! ha)
def Wp{K:W.Frag}{l:Addr}{as:S!}(hp:G1!)(hz:dD!)(hl:JME)(th:F5!)(ht:xK!)(k:JUz) : Ew! (Eu! (Ep! (VA K l).stop DK! (VA K l).go (VA K l).SM (Kw! (Fv! (hK! x IT!))))):=by
 show RW? Fo;show LJ? (TS! sm hl)
 show Qt?
 show Oi?
def Wq{α:Go}{d:Addr}{l:R!}{key:CA!}{val:F1!}{ob:Obj}(hp:G1!)(hz:l.length<=900)(hd:KC! (.IV ob (.dT (Db gl!))))(ht:∀(H2:Hp) (a:Addr) (t:T2) (Q':HB!),Ei!->QCA->t∈QQ! wv->Q' (b t) H2->QCD Q')(k:∀(H2:Hp) (bs:S!),Ei!->bL! QCx->VJ! H2 (Db wv).filter b->DK!) : Ew! (Eu! (Ep! (sN d (Db gl!) ob).stop DK! (sN d (Db gl!) ob).go (sN d (Db gl!) ob).SM (Kw! (Fv! (hK! x IT!))))):=by
 have fg:Fn! Db wv 900:=Fj! hz
 show#[λi m ys H2=>m=l.length-i/\i<=l.length/\JMb i ys H2,#[l.length,ci,Ax!,MC.start hp],?_];show BX?;have#[bs,ey,sm,JJ,YE]:=id pv;have hd2:=P! sm hd;show#[JJ,?_];by_cases IP:kG!;.show h? #[JW2 IP,λx H3 y=>?_];have#[e,a,kk,v,ex,ek,ha]:=y;subst e ex;rw[ZH] at ek;have#[q,hq]:=Aw IP;rw[hq] at ek;have ek:(tk (wv q),val q)=(kk,v):=ZO ek;have e1:kk=tk (wv q):=qc! ek;rw[e1,Jvt] at ha;show Qa4 (N:=λzs H'=>∃m',m'<l.length-i/\(m'=l.length-xL/\Am!<=l.length/\JMb xL zs H')) hp fg ht pv JL9 ha a9!
 .have e:i=l.length:=DP hi (Cy! IP);subst e;show DE? (JW2 Ay!);(have e2:(Db wv).take l.length=Db wv:=UJ! (ZA (f:=wv)) BS);rw[e2] at YE;show k H2 bs sm (AE! ey JJ) YE
open E
abbrev OX(nx:uy!):ut->F!->BC! F! F!
 | 0,ahead,found,R=>ahead=[]/\R=found
 | n+1,ahead,found,R=>HN λa t=>ahead=Vl!/\((t∈found/\OX nx n a Jh! R)\/(t∉found/\OX nx n (a++nx t) (IV!) R))
def OX.len:JPa (ahead.length<=n)
 | 0,_,_,_,h=>n2! Ay!
 | n+1,_,_,_,#[a,t,e,h]=>by rw[e,ZE];obtain⟨_,h⟩|⟨_,h⟩:=h;(.have:=h.len;change Vr!<=n+1;show EX Aw!);.have:=h.len;show I? ZE;change Vr!<=n+1;lia
def OX.sub:JPa ((kH! C7!)/\Yz! C7!)
 | 0,_,_,_,h=>by rw[pi,A6!];show#[λ_ z=>z,λ_ z=>by cases z]
 | n+1,_,_,_,#[a,t,e,h]=>by rw[e];show E7?;(.show#[Y0!,M3!];show BR?;(.show h.sub.2 u hu);·(have:u=t:=by simpa using hu);show K?;show Y0! t ht);.show#[JOA Y0!,M3!];show BR?;(.show h.sub.2 u (Gq! hu));.show Y0! u (D4! hu)
def OX.closed:QCb (pV!->(kH! (dC! (u∈found\/u∈ahead)))->SU! (dC! (u∈R)))
 | 0,_,_,_,h,c=>by rw[A6!];rw[pi] at c;show λt ht u hu=>(c t ht u hu).elim id λz=>by cases z
 | n+1,_,found,_,#[a,t,e,h],c=>by rw[e] at c;show E7?;(.show K4?;obtain z|z:=c s hs u hu;(.show F? z);.obtain z|z:=ZI z;(.show G? z);·(have:u=t:=by simpa using z);show K?;show F? ht);.show K4?;obtain hs|hs:=ZI hs;(.obtain z|z:=c s hs u hu;(.show F? sk!);.obtain z|z:=ZI z;(.show G? sk!);.show F? (D4! z));·(have:s=t:=by simpa using hs);rw[this] at hu;show G? (D4! hu)
def OX.least{nx:uy!}{S:db}(cl:∀t,S t->dC! (S u)):QCb (pV!->(kH! (S t))->(Yz! (S t))->SU! (S t))
 | 0,_,_,_,h,f,_=>U! A6! f
 | n+1,_,_,_,#[a,t,e,h],f,g=>by rw[e] at g;have gt:=g t (D4! Ix);show E7?;(.show h.least cl f (JOA g));.show h.least cl (M3!) M3!;(.show BR?;(.show f u hu);·(have:u=t:=by simpa using hu);show K?;show gt);.show BR?;(.show g u (Gq! hu));.show cl t gt u hu
def Pu:∀{l:R!},l≠[]->HN λa t=>l=Vl!
 | [],h=>RW!
 | [x],_=>#[[],x,A!]
 | x::y::l,_=>by have#[a,t,e]:=Pu (l:=y::l) Ix;show#[x::a,t,d8!]
def OX.ex{nx:uy!}{keys:F!}{B:Nat}(sub:∀t,dC! (u∈keys))(sz:∀t,AZ! nx t<=B):∀(m:Nat)(ahead found:F!),(Yz! (t∈keys))->AZ! kI! (TL! (t∉found))*(B+1)+ahead.length<=m->HN λn R=>n<=m/\pV!
 | m,ahead,found,ha,hm=>by by_cases e:ahead=[];(.show#[0,Jh!,Ax!,e,A!]);have#[a,t,ea]:=Pu e;(have l1:ahead.length=Vr!:=FZ! ea ZE);have zL:∀u∈a,u∈keys:=GJ! (ha u (o! ea (BE! hu)));have ht:t∈keys:=ha t (o! ea sZ!);match m,hm with | 0,hm=>show M? hm v! | m+1,hm =>by_cases hf:t∈found;(.have#[n,R,h1,h2]:=OX.ex BO! sz m a Jh! zL (jg! (l1▸hm));show#[n+1,R,JMm,a,t,ea,Fg! hf h2]);·(have lt:wC!<JOr:=by (have e1:(kI! λu=>KB (u∉IV!))=(kI! λu=>KB (u∉found)).filter JIE:=by rw[JVS];show FZ λu _=>?_;show KI? (u∈found) (u=t));rw[e1];show List.length_filter_lt_length_iff_exists.mpr #[t,QM! ht (by simpa using hf),ci]);have l2:=sz t;(have key:wC!*(B+1)+Fq! (a++nx t)<=m:=by rw[ZE];have:(wC!+1)*(B+1)<=JOr*(B+1):=EL _ lt;show n? Nat.add_mul Nat.one_mul;lia);have#[n,R,h1,h2]:=OX.ex BO! sz m (a++nx t) (IV!) (GJ! ((ZI hu).elim (zL u) (BO! t u))) wv;show#[n+1,R,JMm,a,t,ea,Cj! hf h2]
abbrev RM(hl:HL)(t:T2):F!:=(FD hl t).filter JIF
abbrev Pq(G:CU):F!:=e9! s0!
abbrev startT(G:CU):F!:=(xZ!).filter (TL! sL!)
abbrev keepR(G:CU)(R:F!):CU:=JWN (H!∈R) (H!∈R)
abbrev DL(G:CU)(t:T2):BH!:=JeN kK! UQ!
abbrev IC(G:CU):CU:=kL! (Ji! zV!)
open S
def Jc9(s:JRc):JnX JVU:=by unfold CC;show((((s.map _).cons₂ _).cons₂ _).cons₂ _).cons₂ _
def BF.pB(x:Op){hl:HL}(s:JRc):JH5 (Hd hl) JVU:=by show BW?;show B6? Ab!;show AG?;show Oy? (A8! (jp (d1 q (s.subset hq)).2.2.1 (x.hl q (s.subset hq)))) (x.nd.sublist (Jc9 s))
open E
def Jyo{d:Addr}{kvs:Aq!}{ob:Obj}{g:TG}{tb:TS}{D:Ends}{σ:L2.St}{H:Hp}(Pv:sU!)(h0:Qz!)(hf:JaR .dT)(hs:∀i a k v σ H,vI!->JFb->aA!->oH! Bs!)(hd:JNq) : XR! Pz! (VU! (Rh! (sN d GE ob).stop (sN d GE ob).go Pz! (Mv! (sN d GE ob).SM))):=by
 show QF?;.show Ff? #[fz,IP] JCI;have#[e,a,k,v,ex,ek,ha]:=y;subst e ex;show hs i a k v σ _ ek ha pv
 show NF?
abbrev Gi(l m:F!):F!:=m.foldl C7 l
def Jcr:∀{m l:F!} {t:T2},t∈Gi l m↔Hq!\/t∈m
 | [],l,t=>by simp[Gi]
 | u::m,l,t=>by change t∈JZH↔_;rw[Jcr,EG,BY,or_assoc]
def Jfv:qt! (Ci! Gi l m (l.length+m.length))
 | [],l=>Ay!
 | u::m,l=>by have h1:Ci! Gi pb! m _:=Jfv m (C7 l u);have h2:=O9 l u;change Ci! Gi pb! m (l.length+(m.length+1));lia
def Jfu:qt! (M0! (l++m)->Gi l m=l++m)
 | [],l,_=>Fk! AO l
 | u::m,l,nd=>by (have nu:u∉l:=λz=>by rw[AS] at nd;show nd.2.2 u z u Dw! A!);(have e2:l++[u]++m=l++u::m:=d9!);change JZH=_;(have e3:C7 l u=l++[u]:=by unfold C7;rw[AD nu]);rw[e3,JXF Jfu m,e2]
def Nt:qt! (rj! (Hf (Db Kd!) (m.map Kd!)) (Gi l m).map)
 | [],l=>rfl
 | u::m,l=>by change JXQ (EL! (Db Kd!) (tk u) nr!) m.map=_;rw[Ho];show Nt m pb!
def Xo{α:Go}{l:R!}{k:CA!}{f:F1!}{t:T2}:((Li! JEg).map f).isSome=KB qm!:=M9!
def Jlc{H:Hp}{d a:Addr}{α:Go}{l:R!}{k:CA!}{f:F1!}{t:T2}(hd:Rd H d (.dT (Db nK!)))(ha:tP!):∃o,GW H d Bs! o/\o.isSome=KB qm! :=#[_,JUq hd A!,U! F1 Xo]
def J1n(a:R!)(t:α):(Vl!)[Fq! Vl!-1]?=D! t:=Tr! ZE
def Jvu(th:CB H as (Vl!)):HN λ(bs:List Addr)(c:Addr)=>as=bs++[c]/\CB H bs a/\JYh:=by
 show A7? th;have ne:as≠[]:=λz=>by rw[z] at hl;simp at hl
 have#[bs,c,e]:=Pu ne;subst e;have l2:bs.length=a.length:=by rw[ZE,ZE] at hl;simpa using hl
 show#[bs,c,A!,?_,?_];·(have go:∀{xs:S!} {ys:F!} {x:Addr} {y:T2},JFz->CB H (xs++[x]) (ys++[y])->CB H xs ys:=by intro xs;induction xs with | nil=>intro ys x y h _;(cases ys with | nil=>show a? | cons _ _=>simp at h) | cons x0 xs ih=>intro ys x y h q;cases ys with | nil=>simp at h | cons y0 ys =>cases q with | cons h1 q=>show Os h1 (ih bw! q));show go l2 th
 .show A6 th kM! c t Ix (by rw[l2];simp)
def Jjj{as:S!}{ts:F!}{bs:S!}{us:F!}(p:F5!)(q:CB H bs us):CB H (as++bs) (ts++us):=J0s p q
def Nx{α:Go}(k:CA!)(l:R!){ts:F!}{i:Nat}{t:T2}(h:fB!):JM6 (Jf! (Am!)) (FH! λq=>decide (k q∉Jf! i)).filter (k q≠t):=by rw[JVS,Yx!,h];show FZ λq _=>?_;show KI? (k q∈Jf! i) (k q=t)
def F6(k:CA!)(l:R!)(f:ux!):(FH! λq=>f (k q)).map k=(Db k).filter f:=sc!
def Tq{α:Go}{l:R!}{k:CA!}{f:F1!}{t:T2}(h:qm!):∃v,w0!=D! v:=by rw[F1];have:=Xo (l:=l) (k:=k) (f:=f) (t:=t);show I? (AM h);show LR.mp this
abbrev Ay(G:CU)(ts:F!):CU:=JWN mX! mX!
def Jra(G:CU):Ay G []=G:=by
 have a1:L9! kJ! JIV=G.AK:=vt!
 have a2:L9! SV! JIV=G.holds:=vt!
 unfold Ay;rw[a1,a2]
def JD{α:Go}{k:CA!}{l:R!}(nd:(Db k).Nodup){q:α}(hq:OR!):Li! (Jgr)=D! q:=by cases e:Li! Jgr with | none=>show Dg?;show Az? | some r =>(have h1:k r=k q:=Q7!);rw[Ic nd (BE e) hq h1]
abbrev Ee(hand:F!)(qs:HL):F!:=qs.foldl (λl q=>Gi l BS!) hand
def NC:∀{qs:HL} {hand:F!} {t:T2},t∈Ee hand qs↔t∈hand\/∃q∈qs,UQ!
 | [],hand,t=>by simp[Ee]
 | q::qs,hand,t=>by change t∈Ee hn! qs↔_;rw[NC,Jcr,or_assoc];simp
def Xq:∀{qs:HL} {hand:F!},(∀q∈qs,q.2.2.length<=B)->Ci! Ee hand qs (hand.length+qs.length*B)
 | [],hand,_=>by simp[Ee]
 | q::qs,hand,h=>by have h1:Ci! Ee hn! qs _:=Xq (JR5 h);have h2:=Jfv BS! hand;have h3:=Ft! q;change Ci! Ee hn! qs (hand.length+(qs.length+1)*B);rw[Nat.add_mul,Nat.one_mul];lia
def Jlo(hand:F!){qs:HL}{i:Nat}{q:QAR}(h:qs[i]?=D! q):Ee hand (qs.take xL)=Gi (Ee hand (qs.take i)) BS!:=by unfold Ee;rw[Yx!,h,RJ];rfl
def Juz(G:CU)(t:T2):(Rj! (gv!))=DL G t:=by
 unfold DL;by_cases h:gv!;.rw[AM h];obtain h|⟨q,hq,h⟩:=NC.mp h;(.simp[h]);.show SG? kK! (KF! aR!);show K?;simp
 .rw[AN h];have h1:t∉G.hand:=λz=>h (NC.mpr (l! z));(have h2:A0! (mI! kK! UQ!):=by rw[JAo];intro q hq z;show h (NC.mpr (IN (KF! rX!))));simp[h1,h2]
def Jlr{α:Go}{b:Qp!}{ts:R!}{i:Nat}{t:α}(h:fB!):JvR:=Xs b h
def Wh(b:Qp!)(ts:R!)(i:Nat):Jgz:=Mh b ts i
def Xj:∀{l:R!} {i:Nat} {t:α},R9!->l[i]?=D! t->t∉l.take i
 | [],_,_,_,h=>B7!
 | x::l,0,t,_,_=>ci
 | x::l,i+1,t,nd,h=>by show Bx?;show Am? (l[i]?=D! t);rw[kN!];intro z;obtain z|z:=ZM z;(.show JHw (ZP h));.show Xj nd.2 h z
abbrev LO(H:Hp):db! Q!:=Mw! (λa q=>∃c,JPz (FS c)/\AY! c (J6! H!))
def LO.keep(k:Ae!)(x:LO H as bs):LO H' as bs:=Ax (SW! (by have#[c,e1,e2]:=h9;show#[c,su!,WV!])) x
def Jsl{H:Hp}{val:T2->V}:∀{l:F!} {as:S!},Kys H (Db λq=>(tk q,val q)) as->PQ! l
 | [],as,h=>by cases h;show a!
 | t::l,as,h=>by cases h with | cons h1 h2=>show Os (AE! Jvt h1) (Jsl h2)
def Ji2{α:Go}(k:CA!){l:R!}{ks R:F!}(h:∀q∈l,k q∈ks):JM6 xM! FH! (k q∈R):=FZ (A8! (by show C? (k q∈R);(·(have:k q∉xM!:=λz=>by have:=US! z;simp[c] at this);simp[c]);.have:k q∈xM!:=QM! er! QBy;simp[c,er!]))
def Jlu{G:CU}{R:F!}(ke:x0!):Ay G (e9! n5!)=o7!:=by
 have h1:=JvV y9! ii Qt!;have h2:=JvV (KT!) AK! (AE! ke Qt!)
 unfold Ay keepR;rw[h1,h2]
def Qa1(ts:F!)(h:b∈CC Bq!):Ul!:=by have:JnX Bq!:=Jc9 (G:={ G with AK:=(Ay G ts).AK }) IZ;show this.subset h
open S
def Jw0(h:dF!)(v:Int):Ck l t v=l++Ev! t:=by unfold Ck;rw[B9!]
def Gh(h:dF!):Ml!=0:=by unfold Aj;rw[BR.mpr yg!];rfl
def Jx0:∀{l m:F!},R9!->(∀x∈l,x∈m)->l.length<=m.length
 | [],_,_,_=>Ax!
 | x::l,m,nd,h=>by show Bx?;have hx:=Ft! x;have ih:l.length<=AZ! m.erase x:=Jx0 nd.2 (GF! ((JVp (λ(z:y=x)=>JHw hy)).mpr (h y (ZD _ hy))));rw[JVq hx] at ih;have:0<m.length:=JVs hx;change qs!<=m.length;lia
open E
def Jtg(h:(CC G).Nodup):MM! ON! Hm!:=by unfold CC at h;simp only[BB] at h;show h.2.2.2.2
open S
variable {p:Addr}{H H':Hp}{G:CU}
open E
def Joo(l:HL):Fs! Db (LV l).map:=QDB AX
def Jc1(l:HL)(R:F!):vS! FH!=JZ1 UL!:=JQG
open S
variable {G M:CU}{n:Nat}{R:List T2}
def KR.keys(x:I6!):Fs! M.holds.map ON!:=DM! Joo Joo QCa
def KR.nx(x:I6!):RM Jb!=RM AK!:=by funext t;unfold RM;rw[FA! (FD Jb! t=uA!) (HQ.FD x t),x.keys]
def KR.start(x:I6!):Lr! M=Lr! G:=by unfold startT Pq;rw[JCK,show M.AK=G.AK from x.AK,x.keys]
def KR.keepR(x:I6!)(R:F!):KR (FX.keepR M R) (FX.keepR G R):=by
 show Nx?;show NY?
 show LA? (vS! JVz) (vS! SV!) Jc1 Jc1
def Jit(G:CU)(t:T2):DL G t=(JeN (LV AK!).any (t∈Rs)):=by unfold DL LV;rw[List.any_map];rfl
def KR.DL(x:I6!)(t:T2):FX.DL M t=FX.DL G t:=by rw[Jit,Jit,JCK,QCa]
def KR.IC(x:I6!):KR (FX.IC M) (FX.IC G):=by show#[Dn!,GO!,A!,Jd!,C6!,?_,Lq!];change M.AL.filter (λq=>FX.DL M H!)=Ji! (λq=>FX.DL G H!);rw[show M.AL=G.AL from x.AL];show FZ λq _=>x.DL H!
def J4r(ok:sw){q:QAR}(hq:j7!){t:T2}(ht:UQ!)(e:sL!):t∈RM AK! H!:=by
 have nd:d4!:=xh!
 have f:=JD (k:=KT!) nd hq;have:FD AK! H!=BS!:=JG5 f
 unfold RM;show K?;show Nx! #[ht,oQ!]
def Ok.keepR(ok:sw)(st:∀t∈Lr! G,C7!)(cl:SU! (∀u∈RM AK! t,u∈R)):JIN:=by
 have mem:∀t,Fm!->C7!->JX0:=λt h1 h2=>U! JUR (QM! h1 rU!)
 have sub:∀t,JX0->Fm!:=λt h=>JD8;show#[SX!,ok.hz,se! JV3,ek! ok.oz,?_,Oa!,ok.rz,A8! (Ls! q mq!),Ak! (SY! t (BO! t ht)),M5!,λq hq t ht e=>?_,ok.rk];.show Gy? UL! UL!;rw[JdF C7!,JUR,Ht!]
 .have h1:=v6!;show mem t h1 (st t ?_);unfold startT;show Nx! #[BE! ht,by rw[Ht!];simpa using h1]
 .have#[kK,QO]:=JE! hq;have h1:=ok.lk q kK t ht e;show mem t h1 (cl H! (by simpa using QO) t (J4r ok kK ht (o! Ht! h1)))
def Ok.IC(ok:sw):Ok (FX.IC G) n :=#[SX!,ok.hz,ok.on,ok.oz,Ht!,se! ok.rn.sublist,ek! ok.rz,Ls!,SY!,ok.hk,ok.lk,Ak! (ok.rk t (QAH ht))]
def Jts(G:CU):∀t∈Lr! G,sL!:=JCM
def Jxy(hl:HL)(t:T2):∀u∈RM hl t,u∈QCn:=GJ! (QDH hu)
open E
open S
open E
open S
open E
def Jbh(h:n<=100000):Yg!:=We!
abbrev wx:q!->BH!
 | []=>true
 | [_]=>true
 | x::y::l=>rg!&&wx (y::l)
def Jvp:∀{l:q!} {x:Int},T! (wx (x::l))->∀y∈l,x<y
 | [],_,_,y,hy=>by simp at hy
 | z::l,x,h,y,hy=>by unfold wx at h;rw[HH] at h;have h1:=BN pi;obtain rfl|hy:=ZM hy;(.show h1);.show Int.lt_trans h1 (Jvp A6! y hy)
def Jvo:∀{l:q!},T! (wx l)->R9!
 | [],_=>EH
 | [x],_=>ci
 | x::y::l,h=>by have h':=h;unfold wx at h';rw[HH] at h';show OH! #[λm=>Int.lt_irrefl _ (Jvp h x m),Jvo h'.2]
abbrev ue:CQ! (Nat×Nat):=JRb (λn=>JNI (λj=>(n,j)))
abbrev o7:q!:=ue.map λp=>hN y! AQ!
abbrev J1t(x:Int):JRj
 | []=>[x]
 | y::l=>Be! (x<y) (x::y::l) (y::J1t x l)
def Jip(x:Int):∀l:q!,(J1t x l).Perm (x::l)
 | []=>.refl _
 | y::l=>by unfold J1t;split;(.show .refl _);.show((Jip x l).cons y).trans (List.Perm.swap x y l)
abbrev Jz0:JRj
 | []=>[]
 | x::l=>J1t x (Jz0 l)
def Jhy:∀l:q!,(Jz0 l).Perm l
 | []=>.refl _
 | x::l=>(Jip x (Jz0 l)).trans ((Jhy l).cons x)
def J0p:T! (wx (Jz0 o7)):=ZV
def J0q:o7.Nodup:=(Jhy o7).nodup_iff.mp (Jvo J0p)
abbrev a7(t:T2):B!:=JlM
def Ju0(ht:a7 t)(hu:a7 u)(e:Ss w (tk t)=Ss w (tk u)):t=u:=by
 have rW:∀v:T2,0<=v.1->0<=v.2->Ss w (tk v)=hN cz! c0!:=λv h1 h2=>by change JT3 v.1 v.2=reduceHash (JUd [hashInt (bi cz!),hashInt (bi c0!)]);rw[BM h1,BM h2]
 have#[a0,a1,a2,a3]:=ht;have#[b0,b1,b2,b3]:=hu;rw[rW t a0 a2,rW u b0 b2] at e;have m:∀v:T2,0<=v.1->v.1<12->0<=v.2->v.2<60->(cz!,c0!)∈ue:=λv h0 h1 h2 h3 =>JdM cz! (mg! c0! ne!);have:=Ic (f:=λp:Nat×Nat=>hN y! AQ!) J0q (m t a0 a1 a2 a3) (m u b0 b1 b2 b3) e;have e1:=Cx! Prod.fst this;have e2:=Cx! Prod.snd this;simp only at e1 e2;show OC! v! v!
def Jov:∀{ts:F!},kO!->(Y1! (a7 t))->MM! Ho! (λt=>Ss w (tk t))
 | [],_,_=>EH
 | t::ts,nd,hr=>by show Bx?;show OH! #[Un!,Jov nd.2 (GJ! (hr u (Ec! hu)))];have#[u,hu,e]:=Ey!;show nd.1 ((Ju0 (hr t Dw!) (hr u (ZD _ hu)) FB!)▸hu)
def Jc3{w:World}{l:F!}(nd:l.Nodup)(hr:∀t∈l,a7 t):((Db Kd!).map QEQ).Nodup:=U! AX (Jov nd hr)
abbrev Jzk(o:Obj):B!:=Ve!/\i1!/\HN λxs k=>o.data=.seq xs k
open S
inductive Jai(K:W.Frag)(xs:C!)(H:Hp)(Q:VK):B!
 | mk p ys (_:ep!) (_:uv!) (_:∀l o,JlF (Jzk o) (.IV o (WP ys)))
def Jfr{X:E!}:JdA Jai:=by show b?;have#[p,ys,rfl,hq,q]:=h;show Ap?;show J?;show Fo?;show CK?;show Or?;show Jt?;show N4? (.IV (um! CR!) (WP ys)) (show Jh4 (.IV _ Kr!) from#[Dy!,hz,its,r',oc!]);show#[JDu,_,I2,A!,KM q oC! #[A!,A!,_,_,A!]]
open E
open S
open E
open S
open E
open S
variable {X:Cx Kx}
open E
def Jy8{z:Str}{p:Addr}{tt:TT}{te:TE}{caps:By!}{σ:L2.St}{H:Hp}{Q:EA!}(Pv:LA!)(h0:LP!)(hl:JL4 (i<=z.length))(hs:∀i c ys H2 (N:Go!),JjN (Yk!=D! c) JZQ JZQ)(hd:QAe EN!) : Ew! (Eu! (Ep! (yO z).stop DK! (yO z).go (yO z).SM (Kw! (Fv! VI!)))):=by
 show Ce? (z.length-i) (i<=z.length) EN!;show BX?;show H4?;by_cases IP:i<z.length;.show Ib?;have#[e,c,hc,ex]:=y;subst e ex;show hs i c ys _ (nM! (z.length-i) (z.length-xL) (Am!<=z.length)) hc pv a9!
 show Rr? (i=z.length) Ay! nL!
def J1u(c:Nat):(!(Builtin.Str.occurrences (Y2!:Ag!) (BL! c) 0 (Str.length Y2!) 1).isEmpty)=Hg c:=by rw[StrLaws.found_one,OS];rw[decide_eq_true_iff];have e:(Y2!:Ag!).cps.toList=JwZ:=rfl;rw[e,show JwZ=List.range' 48 10 from rfl,List.mem_range'_1];simp only[Hg,HH,decide_eq_true_eq];lia
def JJh{a b:Str}{cl:Bc!}{y:Str}(h:UO! JnB JnB):I4!:=by
 simp only[IE,List.lookup_nil] at h;split at h;.simp at h
 .split at h<;>simp at h
abbrev J2n(P:Program)(w:World)(K:W.Frag)(a:Addr)(kvs:Bb!):B!:=a5!/\∃vs,D7!/\∀h:F8!,V1!->h.DictOf aV! a vs
open S
variable {X:Cx Kx}{x:Str}{a:Addr}{kvs:List (Key×V)}{e:Expr}{ty:TE}{p apos JB:Pos}
abbrev J3m(kvs:Bb!)(ty:TE):TE:=lJ! ty (λy H2=>∃k,gM!/\Q ((De GE k).getD AS!) H2)
def Jxg{X:E!}(hu:HQ!)(hg:E2!)(hm:CF! X.mg Bs!)(D:J2n EI! X.w Kx a GE)(he:Wd!)(m:M1 X bU! OB! apos e JB)(hd:Cp!:=by decide):Bo! (.Call (N4! bU! OB! apos) [e] [] JB) (J3m GE ty):=by
 show N?;have#[hn,vs,rel,dk]:=D;show OJ m.base m.xZ m.line DY F_ VP (Ip I hg hm ?_ hd);have dd:=dk Tk De!;show#[JP!,λb eb=>?_,?_];.cases eb;have#[o,_,_,e,ex,_]:=dd;show Gk?
 rw[R4!];show HG A! (HZ (IM (QC2 (λiv s2 #[y,H2,I2,ry,k,ey,q2]=>Wb!))));subst ey;have d2:=dk s2.heap I2.PQ;show R_ F_ d2.typeIs JP (xz TU) (JlH hn) #[_,d2.mapOf,#[_,H2,I2.tok _,(rel.val k).getD (QCW AS! GM),q2]]
open E
abbrev fm(b:Bool):Ag!:=Z1! C1! CX!
abbrev Jpo(K:W.Frag)(p:Str×D3!)(q:Key×V):B!:=H!=E5! y!/\∃t,Rs=TP!/\Jg3 p.2.map
def Jsw{K:W.Frag}:∀{l:QY!} {kvs:Bb!} {v:Str} {fs:D3!},JO7->JcL->∃t,De GE (E5! v)=D! KP!/\Jg3 Rm!
 | _,_,_,_,.nil,h=>B7!
 | (a,gs)::l,q::kvs,v,fs,.cons #[e,t,e2,k] r,h=>by rw[IE] at h;cases c:v==a with | true =>rw[c] at h;cases h;show#[t,?_,k];unfold De;rw[CM,AM (show JT5 by rw[e,jM! c])];change D! Rs=_;rw[e2] | false =>rw[c] at h;(have ne:¬JT5:=λz=>by rw[e] at z;show CT! (Fk! Sum.inr.inj z) (ne_of_beq_false c));have#[t',q1,q2]:=Jsw r h;show#[t',?_,q2];unfold De at *;rw[CM,AN ne];show q1
abbrev OO(H:Hp)(v:V)(a:Arg):B!:=match a with
 | .n i=>v=IM!
 | .t i j=>∃t,v=TP!/\JzI RO!
def OO.same{H H':Hp}(s:TD){v:V}{a:Arg}(h:OO H v a):OO H' v a:=by cases a with | n i=>show h | t i j=>have#[t,e1,e2]:=h;show#[t,e1,Ut! s]
def OO.put{H:Hp}{v:V}{a:Arg}{p:Addr}{ys zs:C!}(h:OO H v a)(hp:Fi! (XV ys)):OO (Zh! (XV zs)) v a:=by cases a with | n i=>show h | t i j =>have#[t,e1,e2]:=h;show#[t,e1,jp (Xk e2 hp (QBC)) e2]
def Jbz:∀(i:Nat){fs:D3!}{ws:j!}{as:dT!}{f:Bool}{w:Str}{a:Arg},JlL JMx (Lv f w=D! a) (QE9 xL xL=D! (c7!))
 | 0,f0::fs,w0::ws,as,f,w,a,h,h1,h2,h3=>by show BU?;subst h1 h2;simp[Hy] at h ⊢;subst h;rw[h3];rfl
 | 0,[],_,_,_,_,_,_,h1,_,_=>JDX
 | 0,_::_,[],_,_,_,_,_,_,h2,_=>JDY
 | i+1,[],_,_,_,_,_,_,h1,_,_=>JDX
 | i+1,_::_,[],_,_,_,_,_,_,h2,_=>JDY
 | i+1,f0::fs,w0::ws,as,f,w,a,h,h1,h2,h3=>by show BU?;rw[kN!,kN!] at h ⊢;unfold Hy at h ⊢;cases e:hb! with | none=>show Ad? | some b =>show x?;cases e2:QE9 i i with | none=>show As? e2 | some bs =>rw[e2] at h;cases h;rw[Jbz i e2 h1 h2 h3];rfl
def Ff{l:aD!}{cl:Bc!}{y:Str}(h:JlC)(h2:yG!):I4!:=by
 show QP?
 obtain e|e:=h2;show KJ?
 show LN?
def Jy7{K:W.Frag}{l1 l2 p:Addr}{xs zs:C!}{te:TE}{caps:By!}{σ:L2.St}{H:Hp}{Q:EA!}(Pv:LA!)(h0:LP!)(hlen:xs.length=zs.length)(hl:QBY (DF K H2 l1 xs/\DW K H2 l2 zs/\Gr!))(hs:∀i x z ys H2 T (N:Go!),PP!->zs[i]?=D! z->Pv i ys H2->b3! T->(QAk) -> te (D! x::lH! z) (MG! T (WP [x,z])) a0!)(hd:RN!) : Ew! (Eu! (Ep! (Itz K l1 l2).stop DK! (Itz K l1 l2).go (Itz K l1 l2).SM (M_ λa u v=>BX!/\yB! [u,v] /\ JfH H3))):=by
 show Ce? i6! (i<=xs.length) Hd!;show BX?;show Hd?;show#[q3,?_];by_cases IP:i7!;.have#[x,hx]:=Aw IP;have#[z,hz]:=QDZ zs;show h? #[#[xs,zs,x,z,q1,q2,hx,hz],λv H3 y=>?_];have#[T,x',z',hT,rfl,rfl,y1,y2]:=y;have ex:=y1 xs q1;have ez:=y2 zs q2;show#[T,x',z',A!,mZ!,hs i x' z' ys H2 T (nM! i6! (xs.length-xL) (Am!<=xs.length)) ex ez pv hT a9!]
 show B5?
abbrev J91(K:W.Frag)(tl:TE):TI:=pJ! (∃a,BX!/\(((∃xs,DW K H1 a xs)/\R ld! H1)\/((JVr)/\R lm! H1)))
def J4f{X:E!}{tg l:Expr}{tl:TE}(hl:RM!):yW! J91:=by
 show AO?;show Bn?;rintro v s1 ⟨x,H1,I1,r1,a,e,q⟩;subst e;cases r1;have fp:∀b∈[s1.heap.objs.size],mz! H1:=SZ (by show Iq?;subst e;show JNg)
 obtain⟨⟨xs,hq⟩,q⟩|⟨⟨xs,hq⟩,q⟩:=q;.have#[its,rv,p,hz]:=I1.list hq;show UZ i4! (JxB Jhs)
 .show IR?;show i5! (JVt) (JxB Ja3)
def Pd{K:W.Frag}{a p:Addr}{xs:C!}{tt:TT}{te:TE}{caps:By!}{σ:L2.St}{H:Hp}{Q:EA!}(Pv:LA!)(h0:LP!)(hl:JQu)(hs:g5!)(hd:RN!) : JjV:=by
 show DM?;show B9?
 show B5?
abbrev EZ(i:Int):Ag!:=(YH! i:String)
abbrev A7(t:T2):Ag!:=VW! "." gO!
abbrev Dm(ws:j!):Ag!:=Be! (ws=[]) "none" (VW! Bl! ws)
abbrev de(K:W.Frag)(H:Hp)(v:V)(t:T2):B!:=∃a,Mz!/\u8!
def E7{K:W.Frag}{H H':Hp}(s:TD){a:Addr}{xs:C!}(h:DU!):W3! a:=(JS s).sq h
def de.same{K:W.Frag}{H H':Hp}(s:TD)(h:yA!):Ik! de t:=let#[a,e,q]:=h;#[a,e,E7 s q]
abbrev Sm(i:Int):B!:=K0!/\i<=100000
def Dg(i:Int)(h:Sm i):Fn! EZ i 9:=(Jpb pi (by have:=A6!;show JSS)).l
def Dj{i:Int}(h:Sm i):JAD:=by
 have h1:i.natAbs<2 ^ 20:=by have:=pi;have:=A6!;lia
 obtain e|e:=JWJ i.natAbs;.rw[e];decide
 .show CG ((Nat.log2_lt (EM e)).mpr h1) FB
abbrev Jvm(n:Int)(k:Str)(h g:Int):Ag!:=VW! ":" [EZ n,k,EZ h,EZ g]
def PS.t_{X:E!}{st:Stmt}{t:TS}(h:PS X.t_ st t):x1!:=λAB s σ H D I hw=>JqW (λ_ _ z=>z.OE) jZ!
def J6v{P:Program}{w:World}{X:E!}:Kl MV! X E0:=by rintro AB σ H s e s' I ⟨ex,cls,H',_,_,hE,_⟩;show hE.elim
def uR{K:W.Frag}{H:Hp}{v:V}{ds:Ir!}(h:uN! JR! ds):HN λa xs=>Mz!/\DU!/\wd!:=by cases h with | BI s l r=>show#[_,_,A!,s,Fm l r]
def HC.th{K:W.Frag}{H:Hp}{v:V}{t:T2}(h:uN! OM t):yA!:=by have#[a,xs,rfl,s,p]:=uR h;cases p with | cons r1 p=>cases p with | cons r2 p=>cases p;cases r1;cases r2;show#[a,A!,s]
def Jke{K:W.Frag}{H:Hp}:∀{xs:C!} {ts:F!},Q5! xs Ho! OM->JQE
 | _,[],.nil=>a!
 | _,_::_,.cons r p=>V2! r.th Jke p
def Jp8{K:W.Frag}{H:Hp}{v:V}{hs:F!}{os:sK}{rs:Q!}(h:HC K H v pz!):a9 λb x1 x2 x3=>v=Dv!/\Ia! b [x1,x2,x3]/\tz! x1 Lj! OM/\tz! x2 Dj! yB/\tz! x3 Lk! J39:=by have#[b,xs,rfl,sb,pb]:=uR h;cases pb with|cons z1 pb=>cases pb with|cons z2 pb=>cases pb with|cons z3 pb=>cases pb;show#[b,_,_,_,A!,sb,z1,z2,z3]
def Jjk(t u:T2):JvC:=JsF
def AV.tU{CW CH CP CD pw p dx:Addr}{H:Hp}{W:EF}{v:V}(x:Jha CH)(hp:np! (Ev! SZ!)):p∉Cy pw W:=λhb=>by show BP?;(.show CM?;show CN?;(.show AG?;rw[hp] at e;cases e);(.have e:=x.hs;rw[hp] at e;cases e);(.have#[dx,e]:=x.po.ob;rw[hp,R6] at e;cases e);(.have e:=x.po.dc;rw[hp] at e;cases e);(.have e:=x.iq;rw[hp] at e;cases e);(.have e:=x.fi;rw[hp] at e;cases e);.have e:=x.en;rw[hp] at e;cases e);.show Cx?;show E6?;(.show JM?;rw[hp] at e;cases e);.show Jf?;rw[hp] at e;cases e
inductive FmL(K:W.Frag)(w:World):BC! QY! dS!
 | nil:FmL K w [] []
 | cons {v:Str} {fs:D3!} {r:QY!} {es:dS!} {t:Addr} {tk:Tok} {its:Az!} {n:Nat}:Jb0 t a3! (.seq its n)->Ct! (Rm! QEb) i2!->gY! r es->gY! ((v,fs)::r) (#[PyData.keyHash Yf! v,wp v tk,TP!]::es)
def Jsx{P:Program}{w:World}{K:W.Frag}:∀{l:QY!} {es:dS!},(∀p∈l,p.2.length<=10)->gY! l es->HN λ(kvs:List (Key×V))(vs:List (Key×Value))=>D7!/\JkK/\(∀e∈es,∃k,JSU e.key/\e.hash=(Cs P w).hash k)/\ww N9!=Db (λp=>(E5! y!:Key))/\JO7
 | _,_,_,.nil=>#[[],[],a!,a!,pS!,A!,a!]
 | (v,fs)::l,_,hl,.cons (t:=t) (tk:=tk) (its:=its) lk hv r=>by show Mj? (wQ! hl) r;have hk:T! ((Cs P w).is (E5! v) (wp v tk)):=Xl P w v tk;have hle:=Ta! hl (v,fs);show He?;show#[JVf::kvs,JVf::vs,ML! DQ! h1,Os hk A! h2,K1!,DM! AI AI h4,ML! #[A!,t,A!,λH=>?_] h5];(.obtain rfl|he:=ZM he;(.show#[E5! v,hk,A!]);.show h3 e he);·(have e:fs.length=its.size:=by simpa using AA! hv);have JpO:h5! 10:=hle;show G? #[_,_,_,lk,A!,A!,by omega,hv]
def forms_mk{w:World}{K:W.Frag}{FA:Addr}{es:EB!}{ep:Nat}(lk:Jb0 FA (B5! LZ!) (.dict es ep))(h:gY! FT es.toList)(hs:DD! (FA==sysModules))(P:Program):is!:=by show Mj? ZV h;show#[GE,#[hs,vs,h1,λhp X=>#[_,es,ep,P! X lk,uX!,A!,He! (h3 e (by simpa using he)),h2,?_]],h5];rw[h4];show u?
abbrev fmB:D3!->Y!->BH!
 | [],[]=>true
 | b::fs,.str x _::us=>x==fm b&&fmB fs us
 | _,_=>false
def fm_vals:∀{fs:D3!} {us:Y!},T! (fmB fs us)->Ct! (Rm! QEb) us
 | [],[],_=>a!
 | b::fs,.str x t::us,h=>by have h:=OL.mp h;have e:x=fm b:=p7! pi;subst e;show Os Wh! (fm_vals A6!)
def Jgy:entryFor table "proto.unchain"=D! Builtin.«proto.unchain»:=entryFor_of_tree (by kernel_rfl)
open S
variable {prog:Program}{w:World}{A:Around}{E:Value->Shared->Prop}{s:Shared}
def Jup{it l ex:Addr}{i:Nat}{items:Az!}{oe:Obj}{vs:Az!}{Q:Qe!}(hh:A.handled=oa!)(aE:mJ! ex oe)(yw:c6!)(hx3:JTJ)(WW:ex≠it)(hit:JOB it l i)(hl:s.heap.IsList l items)(hx:za!)(hQ:JV1):WS!:=by
 show Fq?;have#[ol,zA,_,nl,zG]:=hl;show R? JL (D_ (E9!:=R5! "__next__") hit.typeIs JWQ (DG JWQ hit.typeIs entry_listiter_next ?_ (args_listiter_next _)));show Ga?;show ZR (DE ho hd (x:=IR!) A! ?_);show Bf? (ite (JIM) _ _);rw[AD (show ¬(JIM) from AR)];show GZ?;show EP?;simp only[CL,hx];show Pi?;show E0?;show QW?;show E1?;show GF?;rw[show A.in1.handled=oa! from hh];obtain⟨h2,eh2⟩:∃h2,h2=(Lb! it (SC! Jgo)).push { cls:=mV! E7!,data:=Data.seq Dc! }:=BT!;have eb2:Heap.ExtBut it Tk h2:=Kq! eh2 ((Heap.SameBut.update ..).extBut.push _)
 rw[<-eh2];have x2:z! Xu! ex oe:=eb2 ex oe WW aE;have nx:ex≠h2.objs.size:=BP (AU x2);obtain⟨vn,evn⟩:∃vn,vn=(#[ZZZ,Pw! (Lb! it (SC! Jgo)).objs.size,Value.none,Value.none,Value.none,LQ! IR,Value.none]++ownMembersOf (Value.type Hl!) []):=BT!;have vn2:2<vn.size:=O7! evn JWS (CG (bE! (2<6)) (AW 6 _))
 rw[<-evn];show FS? (ite (Av! (Pw! ex != Pw! kP!)) _ _);rw[AF (by simp[bne_iff_ne,nx])];have x3:=ZT iI! x2;have y3:z! (h2.push iI!).get? kP! iI!:=Dy!;show R? EO (runValue_entry Jgy ?_);show Gt! (Gx! field ex 2) (DE x3 yw hx3 ?_);show ZS (Bp! (ZR (HY (a:=kP!) y3 A! vn2 (je! ?_))));show QY? (El! (EJ _ y3 A!));show ZS (hQ _ λb o' hb e=>?_);have e2:=eb2 b o' hb e;show((Heap.SameBut.update ..).2 b (BP (AU e2))).trans (ZT _ e2)
open E
structure J27(ex:Addr)(P:Program)(w:World)(K:W.Frag)(tg:Expr)(J:It)(fp:S!)(it:Addr)(tn:e4!):B! where
 mem:it∈fp
 obj:JVo
 keep:Jmc
 item:JkZ (J.go i H ->
  JRQ (r=D! u /\
   JuV))
 done:JkZ (J.stop i H ->
  JeF)
 self:JrO
inductive Qai(ex:Addr)(X:E!)(AB:Ch)(σ:L2.St)(tg:Expr)(R:Qc!)(xP:Value)(s2:Shared):B!
 | mk (it:Addr) (fp:S!) (tn:e4!) (J:It) (H':Hp) (_:xP=FS it) (_:ou!) (_:J27 ex EI! X.w Kx tg J fp it tn) (_:tn 0 s2.heap) (_:JKX) (_:R J H')
abbrev PIH(ex:Addr)(X:E!)(tg iter:Expr)(wi:TI):B! :=
 ∀(AB:Ch)(s:Shared)(σ:L2.St)(H:Hp)(R:Qc!),VX! (FW! wi R ->
  JaB (Qai ex X AB σ tg R))
abbrev zy(ex:Addr)(K:W.Frag)(a:Addr):It:=#[(VA K a).go,(VA K a).SM,λi H=>(QDX DT!)/\∃C,AY! ex (yA ex C)]
def Jpq{ex:Addr}{P:Program}{w:World}{K:W.Frag}{tg:Expr}(a it:Addr):J27 ex P w K tg (zy ex K a) [it] it (λi h=>i3! it a i) where
 mem:=ci
 obj:=JK! (by
  show At?
  subst e
  show CE?
  show HB?)
 keep:=hi!
 item:=by
  show m?
  show Y?
  show Eu?
  show DB?
  show DQ?
  show j?
  show ML?
  show GL?
  show Ct?
  show J9?
 done:=by
  show m?
  show Y?
  have#[#[xs,hq,hx],C,hC]:=hg
  show DB?
  show j?
  show CF?
  have#[o,vs,g1,g2,g3,g4]:=fw! ex hC
  show Jup hc g1 g3 g4 (λz=>by rw[z,f0] at hC;cases hC) st i4! QEq QBl
 self:=JNn
abbrev J49(ex:Addr)(K:W.Frag)(tl:TE):TI:=JUe (zy ex K a)
def Jxb{ex:Addr}{X:E!}{tg l:Expr}{tl:TE}(hl:RM!):PIH ex X tg l (J49 ex Kx tl):=by
 show MO? Jpq;show Bz?
 show GQ?
open S
variable {exx:Addr}{X:Cx Kx}{elt iter:Expr}{x:Str}{px pos:Pos}{ifs:List Expr}{sc:Scope}{cl:List (Str×Addr)}{caps:List (Str×Nat)}{wi:TI}{tt:TT}{te:TE}
def Jre{AB:Ch}{σ:L2.St}{H:Hp}{s:Shared}{Q:VK}{use:XF!}{RQ:NE}(hc:JWO)(hi:JrC)(KA:HV!)(JH:HT!)(ID:Ex!)(II:HW!)(hx:HH!)(KH:EF!)(has:HX!)(MA:EE!)(hN:VY!)(ht:W0!)(he:Wz!)(I:I!)(h:JUX)(fin:Xm!)(hs:HY!) : JdL:=by
 show RT?;show N7?
 show Q4?;show MZ?
 rw[<-hH3] at I3 f3 w0;rw[<-vI] at I3;rw[<-hD] at turn;show LM?;rw[<-vI,<-hD];show Pb?;show Qp? (x::TB!);show DR?;have J4:=J5o (t':=QEe) I3 ok KH MA iS hn1 yy;show Ma?;show RD? W1!
 show Q2? bV! (by rintro s4 rfl;show Ji8 (λk s'=>a9 λi v0 ys H'=>pk! W1! (v0::O4!)/\tn i Hb!/\QDg/\W i k ys H') ?_ m0 #[0,SB,[],H3,J4,yb,JKc,w0];rintro k s5 ⟨i,v0,ys,H5,I5,jv,ae,w5⟩;show N8? w5;(.show P4? W1! (AH! _ D H5 s3 s6 H3 A! I3 JnV I6.free #[mm,hnn] q));.show Lw? W1!;rintro r s6 ⟨u,hr,h6⟩;subst hr;show FG h6 ?_;show IE?;show N9?;show RZ? JUs I7';rintro _ s8 ⟨σ8,H8,I8,e8,e8'⟩;subst e8;subst e8';show RA? W1!;show Nd? JiR;show IG?;cases ok with | false =>show IH?;have#[m',hm,w9]:=q9;show#[m',hm,Am!,D! y,ys,H9,I9.ME,dg! I9,eA! I9,w9] | true =>simp only[IA] at q9 ⊢;show JH? s9 I9 q9;show II?;show FG (Gs (X:=JUs) _ cp _ oO Th! [v] Th! [xv] JrF I10 A! JKB JwC) ?_;show IJ?;subst e11;show#[m',hm,Am!,D! y,ys++[v],_,vm.ME,dg! vm,eA! vm,w10])
 show Qs?
def Jxi(hc:JWO)(hi:JrC)(KA:HV!)(JH:HT!)(ID:Ex!)(II:HW!)(hx:HH!)(KH:EF!)(has:HX!)(MA:EE!)(hN:VY!)(ht:W0!)(he:Wz!)(hs:HY!:=by show Aa?):JsB:=JxT Jre
open E
structure Jtk(P:Program)(w:World)(K:W.Frag)(mg:wS)(base:Heap)(k:Nat)(f:Addr)(fd:FuncData)(ps:j!)(sp:JhH):B! where
 len:JWP
 run:∀(ex:Addr)(A:Around)(outer:CL!)(s:Shared)(H:Hp)(args:Args)(us:Y!)(vs:C!)(Q:VK),JoF (sp ex vs H Q ->
  JwH (A.mark sr!) YC E0)
open S
variable {P:Program}{w:World}{K:W.Frag}{mg:Str->Option Value}{base:Heap}{sp:Addr->List V->Hp->VK->Prop}
def J5c{k:Nat}{f:Addr}{name qual:Str}{params:Arguments}{body:QU!}{scope:Scope}{dV kV doc pm ER ct oc:Value}{an od:Iu!}{pK:hA!}{N ps:j!}(lk:JUw)(UG:h4!)(S:iL!)(len:JWP)(VI:∀(ex:Addr) (A:Around) (outer:CL!) (s:Shared) (H:Hp) (vs:C!) (Q:VK),QFD JNi (sp ex vs H Q) (T_ iZ! body t)) : Jtk P w K mg Bf! (k+1) f zH! ps sp:=by
 show PN? (λex A outer s H args us vs Q hr e0 hb r fk=>?_);show QO?
 show Ra? (VI ex A EK! s H vs Q JEC fk) iZ! (Jlk (Jio S hr.hd e0 hl r x)) (λe s' hs=>hs.elim) (∀{GF:L2.St} {H':Hp} {v:V} {u:Value},JoG iZ!)
def Cx.Ok.ofX{Y:E!}{ex:Addr}(ok:(iO Y ex).Ok)(h:Y.A.handled=none):Y.Ok:=QBr (λ_=>h)
abbrev J3r(sp:JhH)(ex:Addr)(t:TA):TE:=ey! (sp ex vs H1 Q)
def Jnl{Y:E!}{k:Nat}{f ex:Addr}{fd:FuncData}{ps:j!}{x:Str}{e:Expr}{es:Ih!}{t:TA}{p pos:Pos}(F:Jtk Y.prog Y.w Kx Y.mg Y.base k f fd ps sp)(hr:DU k Y.A)(hg:Gl p3! x)(hm:CF! Y.mg ac!)(hk:Jhh)(hb:uR!)(ha:PA p3! (e::es) t)(kP:Cp!:=by decide)(he:Ny! (e::es) Y.env=MD! (eval e Y.env)::Ny! es Y.env:=by rfl)(UT:A0! (ww (X9! AG! (Ny! es Y.env)).any):=by rfl) : PE p3! (ly! bU! TM!) (J3r sp ex t):=by
 show N?;show SL?;show SA (h₀:=Y.base) I.ok.mod.Z' hk (QAl (λus s1 #[vs,H1,I1,r,q]=>#[I1.PQ,?_])) he UT;show MG? q
 show XH (f2! (N7! ex Y.A Y.stack s1 H1 QH! us vs Q hr (Sq I1 (Cx.Ok.ofX I1.ok hr.hd)).tK (JVN (hb s1 us I1.PQ JNA)) r q));cases r with | error e=>show Yv! | ok fl =>cases fl with | ret u=>show I1.after hq | next=>show BL? | brk=>show BL? | cont=>show BL?
open E
inductive J0k(x:V)(vs:C!)(H:Hp)(Q:VK):B!
 | mk l (bs:D3!) (n:Nat) (_:QS!) (_:vs=[oj!]) (_:AY! l (XV (E4! E8!))) (_:bs.idxOf AC=n) (_:n<bs.length) (_:Kf! n)
def Jl7:∀{bs:D3!} {us:Y!},cp! E4! E8! (us=E4! LQ!)
 | [],_,.nil=>rfl
 | b::r,_,.cons e q=>by cases e;rw[Jl7 q];rfl
def Juk{X:E!}:sC X "list.index" J0k:=by
 show AF?;have#[l,bs,n,rfl,rfl,hH,hi,hn,q]:=h;show J?;show BV?;cases ru;have#[z,its,k,r,hl,e]:=I.YM hH;have ei:=Jl7 r;subst ei;have hz:bs.length<=sizeLine:=rX!
 show He?;show PH F.slot_list_index Q1! F.entry_list_index (xz F.args_list_index_2) (PySem.SeqAt.list_indexAt l (aJ! E4! LQ!) k SB Dc! (Ar! AC) (λy=>y == eB!) n (by simpa using hn) v! ?_ ?_) #[e,?_,Md! IO!];.subst hi;have:=List.getElem_idxOf hn;simp only[List.getElem_toArray,List.getElem_map,this];rfl
 .intro m hm hmn;(have pX:m<bs.length:=by simpa using hm);have:=List.not_of_lt_findIdx (p:=(· == true)) (xs:=bs) (i:=m) (by rw[<-hi] at hmn;show hmn);simp only[List.getElem_toArray,List.getElem_map];cases c:bs[m] with | false=>rfl | true=>show I? c;show Az?
 .intro y hy;(obtain⟨b,_,rfl⟩:∃b,b∈bs/\LQ! b=y:=by simpa using hy);have:=PySem.SeqAt.EqAt.bool_bool (A:=X.A.in1) (s:=s) b AC;show Ay? b this
def Jrc{ex:Addr}{C:Addr}{K:W.Frag}{a p:Addr}{xs:C!}{tt:TT}{te:TE}{caps:By!}{σ:L2.St}{H:Hp}{Q:EA!}(Pv:LA!)(h0:LP!)(hl:QBY (DW K H2 a xs/\Gr!/\MT! ex (yA ex C)))(hs:g5!)(hd:RN!) : Ew! (Eu! (Ep! (zy ex K a).stop DK! (zy ex K a).go (zy ex K a).SM (Kw! (Fv! VI!)))):=by
 show Ce? i6! (i<=xs.length) Hd!;show BX?;show Hd?;show#[q2,?_];by_cases IP:i7!;show B9?
 show Rr? (i=xs.length) #[#[xs,q1,Ay!],C,q3] nL!
open E Lake.FX
open N Lake.K52
open PySem L2 FX
abbrev top(i:Nat):J!:=PySem.Challenge.pw_farhold_k52_desk_asks.main.body.getD i (.Pass hw!)
@[reducible]abbrev Jmy:J!:=AP! 0
@[reducible]abbrev Jmw:J!:=AP! 1
@[reducible]abbrev Jmz:J!:=AP! 2
@[reducible]abbrev Jm1:J!:=AP! 3
@[reducible]abbrev Jmu:J!:=AP! 4
@[reducible]abbrev Jm0:J!:=AP! 5
@[reducible]abbrev Jmv:J!:=AP! 6
@[reducible]abbrev Jm2:J!:=AP! 7
@[reducible]abbrev Jbv:J!:=AP! 8
@[reducible]abbrev Jbt:J!:=AP! 9
@[reducible]abbrev Ry:J!:=AP! 10
@[reducible]abbrev Jmt:J!:=AP! 13
@[reducible]abbrev Tz:J!:=AP! 14
@[reducible]abbrev Jms:J!:=AP! 15
@[reducible]abbrev Nk:J!:=AP! 16
@[reducible]abbrev Ki:J!:=AP! 18
@[reducible]abbrev Nj:J!:=AP! 19
@[reducible]abbrev O1:J!:=AP! 20
@[reducible]abbrev Jbo:J!:=AP! 21
@[reducible]abbrev yL:J!:=AP! 22
@[reducible]abbrev O0:J!:=wT 13
@[reducible]abbrev K3:J!:=wT 11
@[reducible]abbrev Hx:J!:=wT 17
@[reducible]abbrev K0:J!:=wT 18
@[reducible]abbrev Jbr:J!:=WJ! 0
@[reducible]abbrev R1:J!:=WJ! 1
@[reducible]abbrev Nn:J!:=WJ! 2
@[reducible]abbrev R0:J!:=WJ! 3
@[reducible]abbrev Np:J!:=WJ! 4
@[reducible]abbrev Jmx:J!:=AP! 12
@[reducible]abbrev Jr4:J!:=Ad! 8
@[reducible]abbrev Ky:J!:=Ad! 17
@[reducible]abbrev F9:J!:=Ad! 18
@[reducible]abbrev Kw:J!:=Ad! 19
@[reducible]abbrev Kz:J!:=Ad! 20
@[reducible]abbrev Ni:J!:=Ad! 21
@[reducible]abbrev Jbn:J!:=AP! 17
@[reducible]abbrev Jbu:J!:=AP! 11
@[reducible]abbrev yN:J!:=AP! 23
@[reducible]abbrev yM:J!:=AP! 24
@[reducible]abbrev Jbp:J!:=dy! 0
@[reducible]abbrev Pp:J!:=dy! 1
@[reducible]abbrev K4:J!:=dy! 2
@[reducible]abbrev Rz:J!:=dy! 3
@[reducible]abbrev Jj4:J!:=Ad! 0
@[reducible]abbrev Jj3:J!:=Ad! 1
@[reducible]abbrev Jj5:J!:=Ad! 2
@[reducible]abbrev Jj7:J!:=Ad! 3
@[reducible]abbrev Jj1:J!:=Ad! 4
@[reducible]abbrev Jj6:J!:=Ad! 5
@[reducible]abbrev J9e:J!:=Ad! 11
@[reducible]abbrev Jj2:J!:=Ad! 6
@[reducible]abbrev Jao:J!:=Ad! 7
@[reducible]abbrev Oz:J!:=Ad! 9
@[reducible]abbrev Lr:J!:=Ad! 10
@[reducible]abbrev Kv:J!:=Ad! 12
@[reducible]abbrev Fi:J!:=Ad! 14
@[reducible]abbrev Nh:J!:=Ad! 15
@[reducible]abbrev Jbm:J!:=Ad! 16
@[reducible]abbrev Tv:J!:=Ad! 22
@[reducible]abbrev Oy:J!:=Ad! 13
@[reducible]abbrev Jkc:J!:=Qo! 0
@[reducible]abbrev J33:J!:=Qo! 1
@[reducible]abbrev Jwl:J!:=Qo! 2
@[reducible]abbrev J35:J!:=Qo! 3
@[reducible]abbrev Jj9:J!:=Qo! 4
@[reducible]abbrev T3:J!:=Qo! 5
@[reducible]abbrev Lu:J!:=wT 28
@[reducible]abbrev K1:J!:=wT 29
@[reducible]abbrev K2:J!:=wT 30
@[reducible]abbrev Ng:J!:=wT 31
@[reducible]abbrev Ku:J!:=wT 32
@[reducible]abbrev O2:J!:=wT 33
@[reducible]abbrev Nl:J!:=wT 34
@[reducible]abbrev Jr5:J!:=wT 36
@[reducible]abbrev Jj8:J!:=wT 37
@[reducible]abbrev Jkd:J!:=wT 38
@[reducible]abbrev Jwk:J!:=wT 39
@[reducible]abbrev Jkb:J!:=wT 40
@[reducible]abbrev Jwq:J!:=wT 41
@[reducible]abbrev Jwp:J!:=wT 42
@[reducible]abbrev Jwo:J!:=wT 43
@[reducible]abbrev Jka:J!:=wT 44
@[reducible]abbrev Jbq:J!:=wT 45
@[reducible]abbrev Jwm:J!:=wT 46
@[reducible]abbrev Jp5:J!:=wT 47
@[reducible]abbrev Tw:J!:=wT 49
@[reducible]abbrev Jbs:J!:=wT 50
@[reducible]abbrev Jwr:J!:=wT 51
@[reducible]abbrev Jwn:J!:=wT 52
@[reducible]abbrev vg:J!:=wT 53
structure DK(K:W.Frag)(C:Addr)(x qual:Str)(st:Stmt)(ps:j!)(f:Addr)(fd:FuncData):B! where
 fn:RK!
 bd:Xc!
 mt:vX K C x f
structure NJ(K:W.Frag)(mg:wS)(x:Str)(st:Stmt)(ps:j!)(f:Addr)(fd:FuncData):B! where
 fn:JLS
 bd:Xc!
 mg:CF! mg ac!
structure MeI(K:W.Frag)(C:Addr)(x q:Str)(st:Stmt)(f:Addr)(fd:FuncData):B! where
 a:pZ! x
 i:fj!
 fn:Z! x q st
structure GI(K:W.Frag)(x:Str)(st:Stmt)(f:Addr)(fd:FuncData):B! where
 a:CN! x f
 fn:JLS
structure RH(K:W.Frag)(x:Str)(st:Stmt)(ps:j!)(f:Addr)(fd:FuncData):B! extends JsQ where
 b:Xc!
def RH.SU{K:W.Frag}{mg:wS}{hp:Heap}{x:Str}{st:Stmt}{f:Addr}{fd:FuncData}{ps:j!}(m:JsK)(X:K.In hp)(G:mR! hp.Ns):L8! x st ps f fd:=#[m.fn,m.b,KC X G m.a]
structure CIf(K:W.Frag)(C:Addr):B! where
 pg:JO4
 hd:e5!
 po:uO!
 sa:hy!
 mm:uP!
 kc:JYp
abbrev Bd(x q:Str)(st:Stmt)(ps:j!):B!:=∀(kV doc pm:Value)(an:Iu!)(ER ct:Value)(us:Y!),JRi JtX
def el0{P:NL!}{us:Y!}(h:Lt! 0)(k:P []):P us:=by
 obtain _|⟨a,us⟩:=us;.show k
 .cases h
def zW{P:NL!}{n:Nat}{us:Y!}(h:Lt! (n+1))(k:∀a vs,vs.length=n->P (a::vs)):P us:=by
 obtain _|⟨a,us⟩:=us;.cases h
 .show k a us (Yh! h)
def el1{P:NL!}{us:Y!}(h:Lt! 1)(k:∀u0,P [u0]):P us:=Xl! el0
def zX{P:NL!}{us:Y!}(h:Lt! 2)(k:∀u0 u1,P [u0,u1]):P us:=Xl! el1
def aw{P:NL!}{us:Y!}(h:Lt! 3)(k:∀u0 u1 u2,P [u0,u1,u2]):P us:=Xl! zX
def i5{P:NL!}{us:Y!}(h:Lt! 4)(k:∀u0 u1 u2 u3,P JWj):P us:=Xl! aw
def el5{P:NL!}{us:Y!}(h:Lt! 5)(k:∀u0 u1 u2 u3 u4,P JWl):P us:=Xl! i5
abbrev BA(x q:Str)(st:Stmt)(ps:j!)(us:Y!):B!:=∀(kV doc pm:Value)(an:Iu!)(ER ct:Value),bindArgs (JtX) QH!=QE8
def bd1{a:Str}(h:∀u0,UP! [a] [u0]):RR! [a]:=Xn! el1 [a]
def bd2{a b:Str}(h:∀u0 u1,UP! N1! [u0,u1]):RR! N1!:=Xn! zX N1!
def bd3{a b c:Str}(h:∀u0 u1 u2,UP! Y3! [u0,u1,u2]):RR! Y3!:=Xn! aw Y3!
def bd4{a b c d:Str}(h:∀u0 u1 u2 u3,UP! kQ! JWj):RR! kQ!:=Xn! i5 kQ!
def bd5{a b c d e:Str}(h:∀u0 u1 u2 u3 u4,UP! kR! JWl):RR! kR!:=Xn! el5 kR!
def MeI.mth{K:W.Frag}{C:Addr}{x q:Str}{st:Stmt}{f:Addr}{fd:FuncData}{ps:j!}(m:MeI K C x q st f fd)(h:RR! ps:=by show Q1?):B4! C x q st ps f fd:=#[m.fn,m.fn.binds h,#[m.a,m.i,m.fn.kp]]
def GI.gdi{K:W.Frag}{x:Str}{st:Stmt}{f:Addr}{fd:FuncData}{ps:j!}(m:JsQ)(h:Bd x x st ps:=by show Q1?):JsK:=#[m,m.fn.binds h]
inductive Xg(K:W.Frag)(vs:C!)(H:Hp)(Q:VK)(E:XK):B!
 | mk (a:Addr) (ns:q!) (_:WT!) (_:k_ K H a QB8) (_:JCO) (_:∀H',Q (AI! AC) H')
abbrev Gl(R:B!)(w:World)(K:W.Frag)(mg:wS)(C CW CP CI CD HE NH NG OD MI NW NL NI NR FA i4 jI Wr kT oJ nZ mY mU qJ qU mZ n5 qh qO qe qW qS qH qN qI oN oH n8 qX qV qg qR qQ nY jS Mo Iw Iz Iy Mj N3 oA Nz N2 N6 Mn Mp Mi Ml qP qY mX i' qK qM m_ nC nD Ka N8 N7 N4 N9 N5 n_ qZ Ws n6 nX mW nK oF nq qa qb oB qi nJ nG ny oC ng oK mf oE oG nV nQ nU ni n9 oM mV oI dA:Addr)(ki mD i9 kg l8 mF lU lO p6 qE lV mK qz p_ qw qk qD pq p9 p5 mh lr mO qm qF qx qC qB mE i_ Mw Kc Ke Kd Ms Od mR Ob Oc Og Mu Mx Mr Mt qA qr lR mj p7 p8 ml mn my Kf Oi Oh Oe Oj Of mQ qt i8 mL mC lQ m7 lZ mI qu qv mS q8 m6 mz mJ lX mG l9 lW lY lb mB m8 m9 mH mP l_ lP l7 dC:FuncData):B!:=∀⦃h:Heap⦄ (X:V1!) (G:JKT)
 (Ja:CN! "House" C)
 (Jb:CN! "World" CW)
 (Jc:CN! "Post" CP)
 (Jd:CN! "Inquiry" CI)
 (Je:CN! "Desk" CD)
 (Jf:CN! "HoldError" HE)
 (Jg:CN! "NoHouse" NH)
 (Jh:CN! "NotHeld" NG)
 (Ji:CN! "NotNear" OD)
 (Jj:CN! "Missing" MI)
 (Jk:CN! "NoWeight" NW)
 (Jl:CN! "NoLetter" NL)
 (Jm:CN! "NoInquiry" NI)
 (Jn:CN! "NoRow" NR)
 (Jo:iV!)
 (Jp:iY!)
 (Jq:I2! NH)
 (Jr:I2! NG)
 (Js:I2! OD)
 (Jt:I2! MI)
 (Ju:I2! NW)
 (Jv:I2! NL)
 (Jw:I2! NI)
 (Jx:I2! NR)
 (Jy:I2! HE)
 (Jz:LJ! NH)
 (J0:LN! NH)
 (J1:NZ! NH)
 (J2:Mu! NH)
 (J3:Mp! NH)
 (J4:LG! NH)
 (J5:NQ! NG)
 (J6:NQ! OD)
 (J7:NQ! MI)
 (J8:NQ! NW)
 (J9:NQ! NL)
 (Qa:NQ! NI)
 (Qb:NQ! NR)
 (Qc:LO! NH)
 (Qd:LJ! NG)
 (Qe:LN! NG)
 (Qf:NZ! NG)
 (Qg:Mu! NG)
 (Qh:Mp! NG)
 (Qi:LG! NG)
 (Qj:NR! NH)
 (Qk:NR! OD)
 (Ql:NR! MI)
 (Qm:NR! NW)
 (Qn:NR! NL)
 (Qo:NR! NI)
 (Qp:NR! NR)
 (Qq:LO! NG)
 (Qr:LJ! OD)
 (Qs:LN! OD)
 (Qt:NZ! OD)
 (Qu:Mu! OD)
 (Qv:Mp! OD)
 (Qw:LG! OD)
 (Qx:NS! NH)
 (Qy:NS! NG)
 (Qz:NS! MI)
 (Q0:NS! NW)
 (Q1:NS! NL)
 (Q2:NS! NI)
 (Q3:NS! NR)
 (Q4:LO! OD)
 (Q5:LJ! MI)
 (Q6:LN! MI)
 (Q7:NZ! MI)
 (Q8:Mu! MI)
 (Q9:Mp! MI)
 (Ua:LG! MI)
 (Ub:NT! NH)
 (Uc:NT! NG)
 (Ud:NT! OD)
 (Ue:NT! NW)
 (Uf:NT! NL)
 (Ug:NT! NI)
 (Uh:NT! NR)
 (Ui:LO! MI)
 (Uj:LJ! NW)
 (Uk:LN! NW)
 (Ul:NZ! NW)
 (Um:Mu! NW)
 (Un:Mp! NW)
 (Uo:LG! NW)
 (Up:NU! NH)
 (Uq:NU! NG)
 (Ur:NU! OD)
 (Us:NU! MI)
 (Ut:NU! NL)
 (Uu:NU! NI)
 (Uv:NU! NR)
 (Uw:LO! NW)
 (Ux:LJ! NL)
 (Uy:LN! NL)
 (Uz:NZ! NL)
 (U0:Mu! NL)
 (U1:Mp! NL)
 (U2:LG! NL)
 (U3:NV! NH)
 (U4:NV! NG)
 (U5:NV! OD)
 (U6:NV! MI)
 (U7:NV! NW)
 (U8:NV! NI)
 (U9:NV! NR)
 (Va:LO! NL)
 (Vb:LJ! NI)
 (Vc:LN! NI)
 (Vd:NZ! NI)
 (Ve:Mu! NI)
 (Vf:Mp! NI)
 (Vg:LG! NI)
 (Vh:NW! NH)
 (Vi:NW! NG)
 (Vj:NW! OD)
 (Vk:NW! MI)
 (Vl:NW! NW)
 (Vm:NW! NL)
 (Vn:NW! NR)
 (Vo:LO! NI)
 (Vp:CN! "FORMS" FA)
 (Vq:∀P:Program,is!)
 (Vr:XL! C JWo Jmy i4 ki)
 (Vs:XL! CP JWr Jbp jI mD)
 (Vt:XL! CW kS! Jj4 Wr i9)
 (Vu:JfV)
 (Vv:Jfk)
 (Vw:JgB)
 (Vx:Jfg)
 (Vy:Jfh)
 (Vz:Jfi)
 (V0:JgC)
 (V1:JfW)
 (V2:Jd3)
 (V3:JsM)
 (V4:JZz)
 (V5:JfQ)
 (V6:JaM)
 (V7:Jfl)
 (V8:Jd9)
 (V9:JeA)
 (Ya:Jd4)
 (Yb:Jfd)
 (Yc:Jfe)
 (Yd:Jff)
 (Ye:JcD)
 (Yf:Jd7)
 (Yg:JfX)
 (Yh:JaN)
 (Yi:JgF)
 (Yj:JgG)
 (Yk:JsN)
 (Yl:JuP)
 (Ym:JuQ)
 (Yn:JsO)
 (Yo:JtL)
 (Yp:JdJ)
 (Yq:JgD)
 (Yr:JZb)
 (Ys:JfY)
 (Yt:JfZ)
 (Yu:JeD)
 (Yv:JtA)
 (Yw:JtB)
 (Yx:JtC)
 (Yy:Jfo)
 (Yz:E0! Y5! O0 GR! qP qA)
 (Y0:Iy! Y6! K3 Ob! am qY qr)
 (Y1:Iy! Y7! Jr5 FN! Jj! mX lR)
 (Y2:XL! CI JXg Jbr i' mj)
 (Y3:JgH)
 (Y4:JgI)
 (Y5:Jfm)
 (Y6:Jfn)
 (Y7:Jfj)
 (Y8:JsP)
 (Y9:Jfa)
 (Za:Jfb)
 (Zb:Jfc)
 (Zc:JeE)
 (Zd:JgE)
 (Ze:E0! kT! Hx Do! n_ mQ)
 (Zf:E0! kU! K0 Do! qZ qt)
 (Zg:XL! CD kV! Jkc Ws i8)
 (Zh:JuY)
 (Zi:JtD)
 (Zj:JtE)
 (Zk:JtF)
 (Zl:JgK)
 (Zm:Iy! Y8! Lu Sa! Hv! nq mI)
 (Zn:Iy! kW! K1 "form" Hw! qa qu)
 (Zo:E0! Y9! K2 Hw! qb qv)
 (Zp:E0! kX! Ng CX! oB mS)
 (Zq:E0! kY! Ku Hu! qi q8)
 (Zr:E0! kZ! O2 Hv! nJ m6)
 (Zs:E0! ka! Nl EQ! nG mz)
 (Zt:Iy! JX8 Jj8 Sb! FO! ny mJ)
 (Zu:E0! ZA! Jkd Oc! oC lX)
 (Zv:RH K "_law_pick" Jwk Xg! ng mG)
 (Zw:Iy! JYA Jkb Od! Lu! oK l9)
 (Zx:Iy! "_law_come" Jwq C8! Sc! mf lW)
 (Zy:RH K "_law_deed" Jwp fP! oE lY)
 (Zz:Iy! "_law_done" Jwo C8! FP! oG lb)
 (Z0:E0! "_law_thing" Jka Lv! nV mB)
 (Z1:E0! JYE Jbq Oe! nQ m8)
 (Z2:Iy! "_law_say" Jwm Of! Jk! nU m9)
 (Z3:E0! JYI Jp5 FP! ni mH)
 (Z4:RH K JYJ Tw hE! n9 mP)
 (Z5:RH K JYM Jbs fO! oM l_)
 (Z6:RH K "_law_ask" Jwr fQ! mV lP)
 (Z7:RH K "_law_due" Jwn fR! oI l7)
 (Z8:GI K Lw! vg dA dC)
 (Z9:CIf K C)
 (Ba:Ij! C1!)
 (Bb:Ij! C2!)
 (Bc:Ij! C3!)
 (Bd:Ij! A4!)
 (Be:Ij! Di!)
 (Bf:Ij! am)
 (Bg:Ij! C4!)
 (Bh:CIf K CW)
 (Bi:Qw! Dl!)
 (Bj:Qw! Dk!)
 (Bk:Qw! Ah!)
 (Bl:Qw! GN!)
 (Bm:Qw! JX!)
 (Bn:Qw! Ln!)
 (Bo:CIf K CP)
 (Bp:JGZ JV!)
 (Bq:JGZ Ll!)
 (Br:CIf K CI)
 (Bs:eL! Og!)
 (Bt:eL! Do!)
 (Bu:eL! GT!)
 (Bv:eL! Hx!)
 (Bw:CIf K CD)
 (Bx:W.findIn K (UV CD) SZ!=D! SB)
 (By:DV! "len")
 (Bz:DV! Xt!)
 (B0:DV! E7!)
 (B1:DV! "sorted")
 (B2:DV! "isinstance")
 (B3:DV! F7!)
 (B4:DV! LZ!)
 (B5:DV! "max")
 (B6:DV! LW!)
 (B7:DV! "bool")
 (B8:DV! "min")
 (B9:DV! Lh!)
 (Eb:DV! JJ!)
 (Ec:DV! N2!),R
abbrev J5y(P:Program)(w:World)(K:W.Frag)(mg:wS)(base:Heap)(C CW CP CI CD HE NH NG OD MI NW NL NI NR FA i4 jI Wr kT oJ nZ mY mU qJ qU mZ n5 qh qO qe qW qS qH qN qI oN oH n8 qX qV qg qR qQ nY jS Mo Iw Iz Iy Mj N3 oA Nz N2 N6 Mn Mp Mi Ml qP qY mX i' qK qM m_ nC nD Ka N8 N7 N4 N9 N5 n_ qZ Ws n6 nX mW nK oF nq qa qb oB qi nJ nG ny oC ng oK mf oE oG nV nQ nU ni n9 oM mV oI dA:Addr)(ki mD i9 kg l8 mF lU lO p6 qE lV mK qz p_ qw qk qD pq p9 p5 mh lr mO qm qF qx qC qB mE i_ Mw Kc Ke Kd Ms Od mR Ob Oc Og Mu Mx Mr Mt qA qr lR mj p7 p8 ml mn my Kf Oi Oh Oe Oj Of mQ qt i8 mL mC lQ m7 lZ mI qu qv mS q8 m6 mz mJ lX mG l9 lW lY lb mB m8 m9 mH mP l_ lP l7 dC:FuncData):B!:=JxX (FY P w K mg Bf! YC 12 dA dC nP! (Xg K))
@[reducible]abbrev Ev:Go:=Program×World×W.Frag×QBs×Heap×Addr×Addr×Addr×n9! (n9! (n9! ((NP!)×(ut->K!))))
abbrev Jtj(e:Ev):B!:=J5y e.1 e.2.1 e.2.2.1 e.2.2.2.1 e.2.2.2.2.1 e.2.2.2.2.2.1 e.2.2.2.2.2.2.1 e.2.2.2.2.2.2.2.1 e.2.2.2.2.2.2.2.2.1 e.2.2.2.2.2.2.2.2.2.1 e.2.2.2.2.2.2.2.2.2.2.1 e.2.2.2.2.2.2.2.2.2.2.2.1 e.2.2.2.2.2.2.2.2.2.2.2.2.1 e.2.2.2.2.2.2.2.2.2.2.2.2.2.1 e.2.2.2.2.2.2.2.2.2.2.2.2.2.2.1 e.2.2.2.2.2.2.2.2.2.2.2.2.2.2.2.1 e.2.2.2.2.2.2.2.2.2.2.2.2.2.2.2.2.1 e.2.2.2.2.2.2.2.2.2.2.2.2.2.2.2.2.2.1 e.2.2.2.2.2.2.2.2.2.2.2.2.2.2.2.2.2.2.1 e.2.2.2.2.2.2.2.2.2.2.2.2.2.2.2.2.2.2.2.1 (N! 0) (N! 1) (N! 2) (N! 3) (N! 4) (N! 5) (N! 6) (N! 7) (N! 8) (N! 9) (N! 10) (N! 11) (N! 12) (N! 13) (N! 14) (N! 15) (N! 16) (N! 17) (N! 18) (N! 19) (N! 20) (N! 21) (N! 22) (N! 23) (N! 24) (N! 25) (N! 26) (N! 27) (N! 28) (N! 29) (N! 30) (N! 31) (N! 32) (N! 33) (N! 34) (N! 35) (N! 36) (N! 37) (N! 38) (N! 39) (N! 40) (N! 41) (N! 42) (N! 43) (N! 44) (N! 45) (N! 46) (N! 47) (N! 48) (N! 49) (N! 50) (N! 51) (N! 52) (N! 53) (N! 54) (N! 55) (N! 56) (N! 57) (N! 58) (N! 59) (N! 60) (N! 61) (N! 62) (N! 63) (N! 64) (N! 65) (N! 66) (N! 67) (N! 68) (N! 69) (N! 70) (N! 71) (N! 72) (N! 73) (N! 74) (N! 75) (N! 76) (N! 77) (N! 78) (N! 79) (N! 80) (N! 81) (N! 82) (N! 83) (N! 84) (N! 85) (N! 86) (N! 87) (N! 88) (N! 89) (L! 0) (L! 1) (L! 2) (L! 3) (L! 4) (L! 5) (L! 6) (L! 7) (L! 8) (L! 9) (L! 10) (L! 11) (L! 12) (L! 13) (L! 14) (L! 15) (L! 16) (L! 17) (L! 18) (L! 19) (L! 20) (L! 21) (L! 22) (L! 23) (L! 24) (L! 25) (L! 26) (L! 27) (L! 28) (L! 29) (L! 30) (L! 31) (L! 32) (L! 33) (L! 34) (L! 35) (L! 36) (L! 37) (L! 38) (L! 39) (L! 40) (L! 41) (L! 42) (L! 43) (L! 44) (L! 45) (L! 46) (L! 47) (L! 48) (L! 49) (L! 50) (L! 51) (L! 52) (L! 53) (L! 54) (L! 55) (L! 56) (L! 57) (L! 58) (L! 59) (L! 60) (L! 61) (L! 62) (L! 63) (L! 64) (L! 65) (L! 66) (L! 67) (L! 68) (L! 69) (L! 70) (L! 71) (L! 72) (L! 73) (L! 74) (L! 75) (L! 76) (L! 77) (L! 78) (L! 79) (L! 80) (L! 81) (L! 82) (L! 83) (L! 84) (L! 85) (L! 86) (L! 87) (L! 88) (L! 89)
def J24:Nonempty Ev:=#[default,#[λ_ _=>0,{ strHash:=VZ!,shareClass:=VZ!,mergeTok:=id,idOf:=VZ!,idOfShared:=λ_ _=>0,followText:=ja!,idOfImm:=VZ! }],[],R0!,default,0,0,0,0,0,0,0,0,0,0,0,0,0,0,0,VZ!,λ_=>default]
@[irreducible] noncomputable abbrev e0:Ev:=JYW Ev J24 λe=>¬Jtj e
def J11{α:Go}(ne:Nonempty α)(p:J7! α)(x:α)(e:x=JYW α ne λa=>¬p a)(h:p x)(a:α):p a:=y3! (λn=>by subst e;show Classical.epsilon_spec (p:=λa=>¬p a) #[a,n] h)
def Jym(h:Jtj e0)(e:Ev):Jtj e:=J11 J24 Jtj e0 (by unfold e0;rfl) h e
noncomputable section
abbrev P:Program:=e0.1
abbrev w:World:=e0.2.1
abbrev K:W.Frag:=e0.2.2.1
abbrev mg:QBs:=e0.2.2.2.1
abbrev base:F8!:=e0.2.2.2.2.1
abbrev C:G!:=e0.2.2.2.2.2.1
abbrev CW:G!:=e0.2.2.2.2.2.2.1
abbrev CP:G!:=e0.2.2.2.2.2.2.2.1
abbrev CI:G!:=e0.2.2.2.2.2.2.2.2.1
abbrev CD:G!:=e0.2.2.2.2.2.2.2.2.2.1
abbrev HE:G!:=e0.2.2.2.2.2.2.2.2.2.2.1
abbrev NH:G!:=e0.2.2.2.2.2.2.2.2.2.2.2.1
abbrev NG:G!:=e0.2.2.2.2.2.2.2.2.2.2.2.2.1
abbrev OD:G!:=e0.2.2.2.2.2.2.2.2.2.2.2.2.2.1
abbrev MI:G!:=e0.2.2.2.2.2.2.2.2.2.2.2.2.2.2.1
abbrev NW:G!:=e0.2.2.2.2.2.2.2.2.2.2.2.2.2.2.2.1
abbrev NL:G!:=e0.2.2.2.2.2.2.2.2.2.2.2.2.2.2.2.2.1
abbrev NI:G!:=e0.2.2.2.2.2.2.2.2.2.2.2.2.2.2.2.2.2.1
abbrev NR:G!:=e0.2.2.2.2.2.2.2.2.2.2.2.2.2.2.2.2.2.2.1
abbrev FA:G!:=e0.2.2.2.2.2.2.2.2.2.2.2.2.2.2.2.2.2.2.2.1
abbrev i4:G!:=O! 0
abbrev jI:G!:=O! 1
abbrev Wr:G!:=O! 2
abbrev kT:G!:=O! 3
abbrev oJ:G!:=O! 4
abbrev nZ:G!:=O! 5
abbrev mY:G!:=O! 6
abbrev mU:G!:=O! 7
abbrev qJ:G!:=O! 8
abbrev qU:G!:=O! 9
abbrev mZ:G!:=O! 10
abbrev n5:G!:=O! 11
abbrev qh:G!:=O! 12
abbrev qO:G!:=O! 13
abbrev qe:G!:=O! 14
abbrev qW:G!:=O! 15
abbrev qS:G!:=O! 16
abbrev qH:G!:=O! 17
abbrev qN:G!:=O! 18
abbrev qI:G!:=O! 19
abbrev oN:G!:=O! 20
abbrev oH:G!:=O! 21
abbrev n8:G!:=O! 22
abbrev qX:G!:=O! 23
abbrev qV:G!:=O! 24
abbrev qg:G!:=O! 25
abbrev qR:G!:=O! 26
abbrev qQ:G!:=O! 27
abbrev nY:G!:=O! 28
abbrev jS:G!:=O! 29
abbrev Mo:G!:=O! 30
abbrev Iw:G!:=O! 31
abbrev Iz:G!:=O! 32
abbrev Iy:G!:=O! 33
abbrev Mj:G!:=O! 34
abbrev N3:G!:=O! 35
abbrev oA:G!:=O! 36
abbrev Nz:G!:=O! 37
abbrev N2:G!:=O! 38
abbrev N6:G!:=O! 39
abbrev Mn:G!:=O! 40
abbrev Mp:G!:=O! 41
abbrev Mi:G!:=O! 42
abbrev Ml:G!:=O! 43
abbrev qP:G!:=O! 44
abbrev qY:G!:=O! 45
abbrev mX:G!:=O! 46
abbrev i':G!:=O! 47
abbrev qK:G!:=O! 48
abbrev qM:G!:=O! 49
abbrev m_:G!:=O! 50
abbrev nC:G!:=O! 51
abbrev nD:G!:=O! 52
abbrev Ka:G!:=O! 53
abbrev N8:G!:=O! 54
abbrev N7:G!:=O! 55
abbrev N4:G!:=O! 56
abbrev N9:G!:=O! 57
abbrev N5:G!:=O! 58
abbrev n_:G!:=O! 59
abbrev qZ:G!:=O! 60
abbrev Ws:G!:=O! 61
abbrev n6:G!:=O! 62
abbrev nX:G!:=O! 63
abbrev mW:G!:=O! 64
abbrev nK:G!:=O! 65
abbrev oF:G!:=O! 66
abbrev nq:G!:=O! 67
abbrev qa:G!:=O! 68
abbrev qb:G!:=O! 69
abbrev oB:G!:=O! 70
abbrev qi:G!:=O! 71
abbrev nJ:G!:=O! 72
abbrev nG:G!:=O! 73
abbrev ny:G!:=O! 74
abbrev oC:G!:=O! 75
abbrev ng:G!:=O! 76
abbrev oK:G!:=O! 77
abbrev mf:G!:=O! 78
abbrev oE:G!:=O! 79
abbrev oG:G!:=O! 80
abbrev nV:G!:=O! 81
abbrev nQ:G!:=O! 82
abbrev nU:G!:=O! 83
abbrev ni:G!:=O! 84
abbrev n9:G!:=O! 85
abbrev oM:G!:=O! 86
abbrev mV:G!:=O! 87
abbrev oI:G!:=O! 88
abbrev dA:G!:=O! 89
abbrev ki:K!:=M! 0
abbrev mD:K!:=M! 1
abbrev i9:K!:=M! 2
abbrev kg:K!:=M! 3
abbrev l8:K!:=M! 4
abbrev mF:K!:=M! 5
abbrev lU:K!:=M! 6
abbrev lO:K!:=M! 7
abbrev p6:K!:=M! 8
abbrev qE:K!:=M! 9
abbrev lV:K!:=M! 10
abbrev mK:K!:=M! 11
abbrev qz:K!:=M! 12
abbrev p_:K!:=M! 13
abbrev qw:K!:=M! 14
abbrev qk:K!:=M! 15
abbrev qD:K!:=M! 16
abbrev pq:K!:=M! 17
abbrev p9:K!:=M! 18
abbrev p5:K!:=M! 19
abbrev mh:K!:=M! 20
abbrev lr:K!:=M! 21
abbrev mO:K!:=M! 22
abbrev qm:K!:=M! 23
abbrev qF:K!:=M! 24
abbrev qx:K!:=M! 25
abbrev qC:K!:=M! 26
abbrev qB:K!:=M! 27
abbrev mE:K!:=M! 28
abbrev i_:K!:=M! 29
abbrev Mw:K!:=M! 30
abbrev Kc:K!:=M! 31
abbrev Ke:K!:=M! 32
abbrev Kd:K!:=M! 33
abbrev Ms:K!:=M! 34
abbrev Od:K!:=M! 35
abbrev mR:K!:=M! 36
abbrev Ob:K!:=M! 37
abbrev Oc:K!:=M! 38
abbrev Og:K!:=M! 39
abbrev Mu:K!:=M! 40
abbrev Mx:K!:=M! 41
abbrev Mr:K!:=M! 42
abbrev Mt:K!:=M! 43
abbrev qA:K!:=M! 44
abbrev qr:K!:=M! 45
abbrev lR:K!:=M! 46
abbrev mj:K!:=M! 47
abbrev p7:K!:=M! 48
abbrev p8:K!:=M! 49
abbrev ml:K!:=M! 50
abbrev mn:K!:=M! 51
abbrev my:K!:=M! 52
abbrev Kf:K!:=M! 53
abbrev Oi:K!:=M! 54
abbrev Oh:K!:=M! 55
abbrev Oe:K!:=M! 56
abbrev Oj:K!:=M! 57
abbrev Of:K!:=M! 58
abbrev mQ:K!:=M! 59
abbrev qt:K!:=M! 60
abbrev i8:K!:=M! 61
abbrev mL:K!:=M! 62
abbrev mC:K!:=M! 63
abbrev lQ:K!:=M! 64
abbrev m7:K!:=M! 65
abbrev lZ:K!:=M! 66
abbrev mI:K!:=M! 67
abbrev qu:K!:=M! 68
abbrev qv:K!:=M! 69
abbrev mS:K!:=M! 70
abbrev q8:K!:=M! 71
abbrev m6:K!:=M! 72
abbrev mz:K!:=M! 73
abbrev mJ:K!:=M! 74
abbrev lX:K!:=M! 75
abbrev mG:K!:=M! 76
abbrev l9:K!:=M! 77
abbrev lW:K!:=M! 78
abbrev lY:K!:=M! 79
abbrev lb:K!:=M! 80
abbrev mB:K!:=M! 81
abbrev m8:K!:=M! 82
abbrev m9:K!:=M! 83
abbrev mH:K!:=M! 84
abbrev mP:K!:=M! 85
abbrev l_:K!:=M! 86
abbrev lP:K!:=M! 87
abbrev l7:K!:=M! 88
abbrev dC:K!:=M! 89
open E
structure Txt:B! where
 cl:cQ!
 nN:Il! C1!
 nM:Il! C2!
 nT:Il! C3!
 nH:Il! A4!
 nO:Il! Di!
 nL:Il! am
 nR:Il! C4!
 pN:Pu! "House" C
 JBa:Kx! "NotHeld" NG
 JBZ:Kx! "NotNear" OD
 cMI:Kx! "Missing" MI
 cNW:Kx! "NoWeight" NW
 len:Qx!
 range:JGb
 tuple:sw!
 sorted:eN!
 WM:JGf
structure Tj:B! where
 cl:YB K CP
 nL:GN K CP JV!
 nW:GN K CP Ll!
 pN:Pu! "Post" CP
 cNL:Kx! "NoLetter" NL
 list:sv!
structure He:B! where
 cl:YB K CW
 nS:Q3! Dl!
 nH:Q3! Dk!
 nP:Q3! Ah!
 nI:Q3! GN!
 nF:Q3! JX!
 nE:Q3! Ln!
 pN:Pu! "World" CW
 cNH:Kx! "NoHouse" NH
structure J2h:B! where
 dict:Zr! LZ!
 list:sv!
 max:JGc
structure J70:B! where
 tuple:sw!
 sorted:eN!
structure sE:B! where
 cl:YB K CI
 nM:eb! Og!
 nS:eb! Do!
 nF:eb! GT!
 nT:eb! Hx!
 pN:Pu! "Inquiry" CI
structure dQ(cls:Addr)(n:Nat):B! where
 lt:n<8
 sub:LJ! AD!
 isX:z_ K AD!
 k0:LK! NH 0
 k1:LK! NG 1
 k2:LK! OD 2
 k3:LK! MI 3
 k4:LK! NW 4
 k5:LK! NL 5
 k6:LK! NI 6
 k7:LK! NR 7
 kV:LO! AD!
structure uT:B! where
 cNR:JZn
 len:Qx!
 int:JGd
 zip:Zr! JJ!
 str:JGe
structure z9:B! where
 cl:YB K CD
 nW:GN K CD SZ!
 pN:Pu! "Desk" CD
structure Jzp:B! where
 mg:Pu! "FORMS" FA
 at_:is!
def D3{n:Nat}(h:n<=20000):Yg!:=We!
@[reducible]abbrev ET := Jtz YC
@[reducible]abbrev GQ := Jtz MV!
structure GG:B! where
 T:Txt
 TW:He
 TP:Tj
 TI:sE
 TF:J70
 Tx:J2h
 TR:uT
 TK:z9
 FK:Jzp
 y5:sv!
 y1:JGb
 y7:JGc
 y0:Qx!
 y2:sw!
 y3:eN!
 y10:Zr! "min"
 y11:Zr! Lh!
 y8:JGd
 y4:JGf
 y13:JGe
 FI:JZ7 i4 ki
 bI:Tp! ki NG!
 zv:tm! i4
 FPI:JZ8 jI mD
 bPI:JIA mD
 wU:JSv
 FWI:HM K jA! kS! Jj4 Wr i9
 bWI:tf! i9
 tP:JSu
 mM:JfV
 mFr:Jfk
 mPa:JgB
 mCa:Jfg
 mAd:Jfh
 mGi:Jfi
 mPs:JgC
 mCl:JfW
 mSt:Jd3
 mTo:JsM
 yt:JZz
 mSp:JfQ
 yr:JaM
 mPR:Jfl
 mAR:Jd9
 mLo:JeA
 mGb:Jd4
 mHo:Jfd
 mDr:Jfe
 mTa:Jff
 mQN:JcD
 mQG:Jd7
 mTi:JfX
 xI:JaN
 mPL:JgF
 mPT:JgG
 xH:JsN
 gz:JuP
 gx:JuQ
 hG:JsO
 g_:JtL
 RS:JdJ
 WG:JgD
 U_:JZb
 JA8:JfY
 JA9:JfZ
 si:JeD
 gy:JtA
 g7:JtB
 gu:JtC
 sZ:Jfo
 mP1:PL! Y5! O0 GR! qP qA
 mR1:Kk! Y6! K3 Ob! am qY qr
 pQ:Kk! Y7! Jr5 FN! Jj! mX lR
 FII:JZ9 i' mj
 bII:Tp! mj NH!
 wV:JZL
 mIF:JgH
 mIS:JgI
 mIL:Jfm
 mIR:Jfn
 mLH:Jfj
 hJ:JsP
 JBD:Jfa
 JBC:Jfb
 JBA:Jfc
 wF:JeE
 JBB:JgE
 mUn:Jdg n_ mQ
 mRc:Jdh qZ qt
 FDI:HM K jA! kV! Jkc Ws i8
 bDI:tf! i8
 wW:JZK
 mSy:JuY
 mMo:JtD
 mAt:JtE
 mLk:JtF
 mDh:JgK
 mRw:Kk! Y8! Lu Sa! Hv! nq mI
 mRd:JoX qa qu
 mRn:PL! Y9! K2 Hw! qb qv
 yq:JiB oB mS
 mWl:JiC qi q8
 rJ:hx! nJ m6
 mLg:JiD nG mz
 mSm:Kk! JX8 Jj8 Sb! FO! ny mJ
 vF:PL! ZA! Jkd Oc! oC lX
 fe:L8! "_law_pick" Jwk Xg! ng mG
 vD:Kk! JYA Jkb Od! Lu! oK l9
 mCo:Kk! "_law_come" Jwq C8! Sc! mf lW
 mDe:L8! "_law_deed" Jwp fP! oE lY
 mDn:Kk! "_law_done" Jwo C8! FP! oG lb
 WV:PL! "_law_thing" Jka Lv! nV mB
 YY:PL! JYE Jbq Oe! nQ m8
 pP:Kk! "_law_say" Jwm Of! Jk! nU m9
 mRo:PL! JYI Jp5 FP! ni mH
 mTg:L8! JYJ Tw hE! n9 mP
 mHf:L8! JYM Jbs fO! oM l_
 mAk:L8! "_law_ask" Jwr fQ! mV lP
 vE:L8! "_law_due" Jwn fR! oI l7
 FW:HM K Lw! Lw! vg dA dC
 X0:dQ NH 0
 X1:dQ NG 1
 X2:dQ OD 2
 X3:dQ MI 3
 X4:dQ NW 4
 X5:dQ NL 5
 X6:dQ NI 6
 cHE:Kx! "HoldError" HE
 cNI:Kx! "NoInquiry" NI
 cNR:JZn
def J7d(k:GG->JsH):JxY:=by intro h X Gn Ja Jb Jc Jd Je Jf Jg Jh Ji Jj Jk Jl Jm Jn Jo Jp Jq Jr Js Jt Ju Jv Jw Jx Jy Jz J0 J1 J2 J3 J4 J5 J6 J7 J8 J9 Qa Qb Qc Qd Qe Qf Qg Qh Qi Qj Qk Ql Qm Qn Qo Qp Qq Qr Qs Qt Qu Qv Qw Qx Qy Qz Q0 Q1 Q2 Q3 Q4 Q5 Q6 Q7 Q8 Q9 Ua Ub Uc Ud Ue Uf Ug Uh Ui Uj Uk Ul Um Un Uo Up Uq Ur Us Ut Uu Uv Uw Ux Uy Uz U0 U1 U2 U3 U4 U5 U6 U7 U8 U9 Va Vb Vc Vd Ve Vf Vg Vh Vi Vj Vk Vl Vm Vn Vo Vp Vq Vr Vs Vt Vu Vv Vw Vx Vy Vz V0 V1 V2 V3 V4 V5 V6 V7 V8 V9 Ya Yb Yc Yd Ye Yf Yg Yh Yi Yj Yk Yl Ym Yn Yo Yp Yq Yr Ys Yt Yu Yv Yw Yx Yy Yz Y0 Y1 Y2 Y3 Y4 Y5 Y6 Y7 Y8 Y9 Za Zb Zc Zd Ze Zf Zg Zh Zi Zj Zk Zl Zm Zn Zo Zp Zq Zr Zs Zt Zu Zv Zw Zx Zy Zz Z0 Z1 Z2 Z3 Z4 Z5 Z6 Z7 Z8 Z9 Ba Bb Bc Bd Be Bf Bg Bh Bi Bj Bk Bl Bm Bn Bo Bp Bq Br Bs Bt Bu Bv Bw Bx By Bz B0 B1 B2 B3 B4 B5 B6 B7 B8 B9 Eb Ec;have y0:=DW! By;have y1:=DW! Bz;have y2:=DW! B0;have y3:=DW! B1;have y4:=DW! B2;have y5:=DW! B3;have y6:=DW! B4;have y7:=DW! B5;have y8:=DW! B6;have y9:=DW! B7;have y10:=DW! B8;have y11:=DW! B9;have y12:=DW! Eb;have y13:=DW! Ec;have gC:=Co! Ja;have#[pgC,hdC,poC,saC,mkC,kcC]:=Z9;have gCW:=Co! Jb;have#[JIw,JJb,JIs,JIf,JJC,JJJ]:=Bh;have gCP:=Co! Jc;have#[JIx,JJc,JIt,JIg,JJD,JJK]:=Bo;have gCI:=Co! Jd;have#[JIy,JJd,JIu,JIh,JJE,JJL]:=Br;have gCD:=Co! Je;have#[JIz,JJe,JIv,JIi,JJF,JJM]:=Bw;have gHE:=Co! Jf;have gNH:=Co! Jg;have JJl:=Co! Jh;have JJk:=Co! Ji;have gMI:=Co! Jj;have gNW:=Co! Jk;have gNL:=Co! Jl;have gNI:=Co! Jm;have gNR:=Co! Jn;have gFA:=Co! Vp;have#[aI,iI,FI]:=Vr;have bI:=py! NG! aI iI FI;have zv:tm! i4:=#[mkC,aI,iI,kcC];have#[aPI,iPI,FPI]:=Vs;have bPI:=py! BD! aPI iPI FPI;have wU:JSv:=#[JJD,aPI,iPI,JJK];have#[aWI,iWI,FWI]:=Vt;have bWI:=JO9 aWI iWI FWI;have tP:JSu:=#[JJC,aWI,iWI,JJJ];have#[aII,iII,FII]:=Y2;have bII:=py! NH! aII iII FII;have wV:JZL:=#[JJE,aII,iII,JJL];have#[aDI,iDI,FDI]:=Zg;have bDI:=JO9 aDI iDI FDI;have wW:JZK:=#[JJF,aDI,iDI,JJM];show k #[#[#[pgC,hdC,poC,saC],Ba,Bb,Bc,Bd,Be,Bf,Bg,gC,#[JJl,Jr],#[JJk,Js],#[gMI,Jt],#[gNW,Ju],y0,y1,y2,y3,y4],#[#[JIw,JJb,JIs,JIf],Bi,Bj,Bk,Bl,Bm,Bn,gCW,#[gNH,Jq]],#[#[JIx,JJc,JIt,JIg],Bp,Bq,gCP,#[gNL,Jv],y5],#[#[JIy,JJd,JIu,JIh],Bs,Bt,Bu,Bv,gCI],#[y2,y3],#[y6,y5,y7],#[#[gNR,Jx],y0,y8,y12,y13],#[#[JIz,JJe,JIv,JIi],Bx,gCD],#[gFA,Vq P],y5,y1,y7,y0,y2,y3,y10,y11,y8,y4,y13,FI,bI,zv,FPI,bPI,wU,FWI,bWI,tP,Vu,Vv,Vw,Vx,Vy,Vz,V0,V1,V2,V3,V4,V5,V6,V7,V8,V9,Ya,Yb,Yc,Yd,Ye,Yf,Yg,Yh,Yi,Yj,Yk,Yl,Ym,Yn,Yo,Yp,Yq,Yr,Ys,Yt,Yu,Yv,Yw,Yx,Yy,AB! Yz.SU,AB! Y0.SU,AB! Y1.SU,FII,bII,wV,Y3,Y4,Y5,Y6,Y7,Y8,Y9,Za,Zb,Zc,Zd,AB! Ze.SU,AB! Zf.SU,FDI,bDI,wW,Zh,Zi,Zj,Zk,Zl,AB! Zm.SU,AB! Zn.SU,AB! Zo.SU,AB! Zp.SU,AB! Zq.SU,AB! Zr.SU,AB! Zs.SU,AB! Zt.SU,AB! Zu.SU,AB! Zv.SU,AB! Zw.SU,AB! Zx.SU,AB! Zy.SU,AB! Zz.SU,AB! Z0.SU,AB! Z1.SU,AB! Z2.SU,AB! Z3.SU,AB! Z4.SU,AB! Z5.SU,AB! Z6.SU,AB! Z7.SU,Z8.fn,Nu! Jz J0 J1 J2 J3 J4 J3 Ie J5 J6 J7 J8 J9 Qa Qb Qc,Nu! Qd Qe Qf Qg Qh Qi Qh Qj Ie Qk Ql Qm Qn Qo Qp Qq,Nu! Qr Qs Qt Qu Qv Qw Qv Qx Qy Ie Qz Q0 Q1 Q2 Q3 Q4,Nu! Q5 Q6 Q7 Q8 Q9 Ua Q9 Ub Uc Ud Ie Ue Uf Ug Uh Ui,Nu! Uj Uk Ul Um Un Uo Un Up Uq Ur Us Ie Ut Uu Uv Uw,Nu! Ux Uy Uz U0 U1 U2 U1 U3 U4 U5 U6 U7 Ie U8 U9 Va,Nu! Vb Vc Vd Ve Vf Vg Vf Vh Vi Vj Vk Vl Vm Ie Vn Vo,#[gHE,Jy],#[gNI,Jw],#[gNR,Jx]]
inductive Jjt(vs:C!)(H:Hp)(Q:VK)(E:XK):B!
 | mk (p t:Addr) (G:CU) (th:T2) (_:HP!) (_:Op) (_:HR!) (_:sf! (th.1=G.BX))
inductive Rw(vs:C!)(H:Hp)(Q:VK)(E:XK):B!
 | mk (p t:Addr) (G:CU) (th:T2) (_:HP!) (_:Op) (_:HR!) (_:((th∈G.hand/\Q AS! H)\/(th∉G.hand/\Zt! NG)))
inductive Jjs(vs:C!)(H:Hp)(Q:VK)(E:XK):B!
 | mk (p t:Addr) (G:CU) (th:T2) (_:HP!) (_:Op) (_:HR!) (_:((th.1=G.BX/\Q AS! H)\/(th.1≠G.BX/\JGk)))
abbrev Jl2(G:CU)(ta tb:T2)(good:BC! G! F!)(nh nn mi:B!):B! :=
 (ZC!/\nh)\/(At!/\Vq!/\nn)\/(At!/\G8!/\HN λ(a:Addr)(hl:List T2)=>JOP=D! (ta,a,hl)/\((tb∉hl/\mi)\/(tb∈hl/\good a hl)))
inductive Jbg(vs:C!)(H:Hp)(Q:VK)(E:XK):B!
 | mk (p a b:Addr) (G:CU) (ta tb:T2) (_:gh!) (_:Op) (_:G5!) (_:BW!) (_:JU9 (Q AS! H))
open S
def scN:XY! Nk:={}
def Jkr(F:Z! "is_near" "House.is_near" Nk)(T:Txt):tJ! Jjt:=by show E? scN;show CP?;show A?;show B?;show C3? (Ao (J4i (J4l DG! (Aq SC A!))));show L? #[t,_,0,_,A!,A!,DB! ht,A!,_,A!,p,C,dx,_,_,A!,hp,w!,T.nN,Jis G,_,_,A!,A!,k]
def Pb(hd:JGV)(ht:HR!):fY! (aL! (th∈l) nr!):=JZY On
def J87:XY! Ki:={}
def Sb(F:Z! "need_in_hand" "House.need_in_hand" Ki)(T:Txt):tH! Gi! Rw:=by
 show d? J87;show CP?;show A?;show H?;show B?;show C3? (hV! T.JBa);show F6? C w! Jl! (Hm G) G.h (Pb Jm! ht);show E8?;.rw[Bz!];show Cq k
 .rw[B9!];show C4 k
open E
open S
def J86:XY! Nj:={}
def Jn0(F:Z! "need_near" "House.need_near" Nj)(T:Txt)(M1:Nr!):KL! 2 Gi! Jjs:=by
 show PD?;show d? J86;show CP?;show A?;show H?;show B?;show C3? (bm! (Jki (Hz (pf! Dp! G1 CY!))) T.JBZ);show#[o?,dx,_,A!,hp,DJ!,_,A!,p,t,G,th,A!,S,ht,_,A!,?_];show E8?;.rw[AM h];show Cq k
 .rw[AN h];show C4 k
def J6g:gZ! O1:={}
def Wk(S:Op)(ht:HR!)(f:JTK):Jac/\JPy/\(th,a,hl)∈G.holds:=by have:=QBm S.dl;show n? QE1 f;show#[this,S.hl _ (BE f),BE f]
def Jic(F:Z! "need_holding" "House.need_holding" O1)(T:Txt)(M1:Nr!)(M2:Rc!)(M3:gw!):JNP Jbg:=by
 show Dx?;have G3:P0! f3 zP Gi! Jjs:=Jed;show d? J6g;show E9?;show A?;show H?;show P?;show B?;show Ec? (IQ! (Cg JkH) (bm! (F2 (Fl hu FM Ng!)) T.cMI));show Nh?;obtain⟨h,k⟩|⟨h,h2,k⟩|⟨h,h2,ad,hl,RG,k⟩:=k;.show C8? h
 show w? #[RS? (Cj! h2 k)]
 .show EX?;show l! #[RS? (h! #[h2,?_])];show#[U?,Ge?,hp,w!,CZ!,Gg G,_,A!,Ab!,_,A!,g1,ad,_,A!,Pb g2 hb,_,A!,?_];obtain⟨h3,k⟩|⟨h3,k⟩:=k;(.rw[AD h3];show C4 k);.rw[AF h3];show Cq k
open E
open S
abbrev Done(p:Addr)(G:CU)(H:Hp)(G':CU)(k:EA!):B!:=∀H',QG! G'->o4!->k H'
inductive Jjv(vs:C!)(H:Hp)(Q:VK)(E:XK):B!
 | mk (p a b:Addr) (G:CU) (ta tb:T2) (_:gh!) (_:Op) (_:G5!) (_:BW!) (_:QDO (¬(At!/\BP!)) ((At!/\BP!/\Vq!/\JGk)\/(At!/\BP!/\G8!/\HN λ(ad:Addr)(hl:List T2)=>JOP=D! (ta,ad,hl)/\hl.length<=500/\JiZ uq!)))
inductive Jjx(vs:C!)(H:Hp)(Q:VK)(E:XK):B!
 | mk (p a b:Addr) (G:CU) (ta tb:T2) (_:gh!) (_:Op) (_:G5!) (_:BW!) (_:Jl2 G ta tb (λad hl=>JiZ vZ!) (m0! NG) (m0! OD) (m0! MI))
inductive Jjr(vs:C!)(H:Hp)(Q:VK)(E:XK):B!
 | mk (p a b:Addr) (G:CU) (ta tb:T2) (_:gh!) (_:Op) (_:G5!) (_:BW!) (_:Vt!) (_:JU9 (JKR TV!))
inductive Jjw(vs:C!)(H:Hp)(Q:VK)(E:XK):B!
 | mk (p b:Addr) (G:CU) (tb:T2) (_:JGT) (_:Op) (_:BW!) (_:QDO ZD! (BP!/\JKR (Zu! Lh)))
def Gr(hd:d∈Cg!)(hf:Xe! G1)(e:H1=d! H d o)(S1:ID! H1 G1)(D:Done p G H JCR k) : k (d! H1 p (Zx! (Df JCR))):=by show D _ (S1.fld dx G1.AY (G1.BG+1)) λb o' e1 h1 h2=>?_;rw[Ae h1,e,PW! (nj! h2 hd)];show e1
def scH:gZ! Jmz:={}
def Jix(h:j7!):WF∈Cg!:=by unfold CC;show G9! (Ec! (ZD _ (ZD _ (BJ h))))
def J05(F:Z! BM! "House.hold" Jmz)(T:Txt)(M1:Nr!)(M2:Rc!)(M3:gw!):JNP Jjv:=by
 show Dx?;have G3:P0! f3 zP Gi! Jjs:=Jed;show d? scH;show E9?;show A?;show H?;show P?;show B?;show Ec? (JOz w! Jn! G2 GU! (Ac (Cg JkH) (Ac (Tl! Ng! FM K8) (Ag (Du SC Ai Fc)))));show Nh?;by_cases h1:At!;.show Ii? h1 b tb hb;by_cases h2:BP!;(.show Ii? h2 a ta ha;obtain⟨h,k⟩|⟨_,_,h,k⟩|⟨_,_,h,ad,hl,RG,z,k⟩:=k;(.show M? #[h1,h2] h);(.show C8? h);.show EX?;show l! #[h,Ge?,hp,w!,CZ!,Gg G,_,A!,Ab!,_,A!,g1,_,A!,ad,_,A!,QDt g2,?_];rw[Ho];have S1:ln! ad (C3 (C7 hl tb)) (QD8 uq!):=JoI C7;show W?;show Ag?;rw[Ct];show JjO uq!);.obtain⟨h,k⟩|⟨_,h,_⟩|⟨_,h,_⟩:=k;(.show C8? h2);(.show Ar? h2);.show Ar? h2
 .obtain⟨h,k⟩|⟨h,_⟩|⟨h,_⟩:=k;(.show C8? h1);(.show Ar? h1);.show Ar? h1
def scD:gZ! Jm1:={}
def J07(F:Z! FC! "House.drop" Jm1)(T:Txt)(M1:Nr!)(M2:Rc!)(M3:gw!)(M4:Jd6) : JNQ Jjx:=by
 have G4:GQ 3 f4 fd4 Zl! (Jbg):=JrK M3;show d? scD;show E9?;show A?;show H?;show B?;show Bm? JtG (JQJ (QBa Nq Ng! FM));show#[Qz? ta tb S ha hb];show LR?;show AB?
 .show Bj? k
 .show AC? #[h1,h2,ad,hl,RG,?_];show FA?;(.show F? k);.show EX?;show IN #[h3,_,A!,p,C,dx,_,_,A!,hp,w!,CZ!,Gg G,_,A!,Ab!,Fe? _ A! g1 ad g2 (tk tb) b g2 hb (Ck! On (AF h3))];show MF?;have S1:ln! ad (C3 (Lh hl tb)) (QD8 vZ!):=JoI Lh;show W?;show Ag?;rw[Ct];show JjO vZ!
def J8x:gZ! Jmu:={}
def J00(F:Z! FD! "House.take" Jmu)(T:Txt)(M1:Nr!)(M2:Rc!)(M3:gw!)(M4:Jd6) : JNQ Jjr:=by
 have G4:GQ 3 f4 fd4 Zl! (Jbg):=JrK M3;show d? J8x;have#[p,a,b,G,ta,tb,rfl,S,ha,hb,z,k]:=h;show A?;show H?;show B?;show Bm? JtG (JHW (uF! K8));show#[Qz? ta tb S ha hb];show LR?;show AB?
 .show Bj? k
 .show AC? #[h1,h2,ad,hl,RG,?_];show FA?;(.show F? k);.show IN #[h3,U?,NI? Jl! (Hm G) G.h Jm!];rw[Ho];show EV?;show W?;show Ag?;rw[Ct];show QCK UI!
def scF:JFF PY! Jm0:={}
def J06(F:Z! FE! "House.free" Jm0)(T:Txt)(M2:Rc!) : JQH Jjw:=by
 show Dx?;show d? scF;have#[p,b,G,tb,rfl,S,hb,k]:=h;show A?;show H?;show B?;show Bm? (pf! Jn! G2 GU!) (JQJ (QET EQ));show#[R2? b tb hb];obtain k|⟨h,k⟩:=k;.show G? k
 .show l! #[h,_,A!,p,C,dx,_,_,A!,hp,Fe? w! Jl! (Hm G) G.h Jm! (tk tb) b Jm! hb (Ck! On Bz!)];show MF?;have S1:ln! G.h (C3 (Lh Bk! tb)) qv!:=S.RV (Lh Bk! tb);show W?;show Ag?;rw[Ct];show QCK qv!
open E
open S
abbrev Lf(n:Int):KE:=Be! (n=1) 1 (n / 2)
inductive Jmm(vs:C!)(H:Hp)(Q:VK)(E:XK):B!
 | mk (n:Int) (_:vs=[IO!]) (_:az! (WP [En! (n-Lf n),PP (Lf n)]))
def scP:Tv! [GR!,"goes"] GR! O0:={}
def Jud(F:Z! Y5! Y5! O0):ET 1 f fd [GR!] Jmm:=by
 show E? scP;have#[n,rfl,k]:=h;show A?;show IO? (lo! (aU! SC) (FT! Ai Ai)) (Zf! 1 scP.nd (KG! Jar SC)) (FT! (Co Jko SC EQ) EQ);show S?;show JV?;.have c1:n=1:=V.int.inj (BN c1);subst c1;show#[bE! (EJ! 2),F9! (k p hp)]
 ·(have c1:¬n=1:=λz=>by rw[z] at c1;simp at c1);show G7? _ A! XG!;show#[_,A!,_,A!,_,_,A!,A!,_,A!,JMk,DP!];have:=k p hp;unfold Lf at this;show I? (AD c1);show this
abbrev ja(l:Q!)(t:T2):KE:=xt!
inductive Jrx(vs:C!)(H:Hp)(Q:VK)(E:XK):B!
 | mk (p b:Addr) (G:CU) (tb:T2) (wt:Int) (_:JGT) (_:Op) (_:BW!) (_:QAx Jo! wt) (_:M4!) (_:JmE JCH)
def L9(hd:sq!)(ht:HR!):fY! ((Li! (EZ! P8!)).map G6!):=JZY gp!
def v8:JFF [Bm!,"b",GR!,"halves"] Jbo:={}
def Jxs(F:Z! JW6 JW7 Jbo)(T:Txt)(MP:JfR):JQH Jrx:=by
 have GP:GQ 1 fP fdP [GR!] Jmm:=kd! (Jud MP.fn);show d? v8;have#[p,b,G,tb,wt,rfl,S,hb,RG,z,k]:=h;show A?;show H?;show B?;show SJ? BN! wt (Je4 S.dr)
 show Bh? v8.nd Ng! (Ac (bm! tt! T.cNW) (Zz! 3 v8.nd (Ca GP hr J5! MP.mg MP.fn.kp MP.bd a! Ci JD9) (cR! sB!) (KB! sB!)));show Rt? dx hp Hy! (Ei G) BN! g1;show S?;show E8?;.rw[FA! (T! JZy) (Uu! AM h)];show C4 k
 .rw[FA! (A0! JZy) (AN λe=>h (V.int.inj e))];show e?;show#[_,A!,wt,A!,D0!];have s1:=G2! QC7 QFE ht;show r?;have t1:IW! t JZE t JZE:=Ab;have b1:=QA! hb;generalize VB! t [QC7,QFE]=H1 at s1 S1 t1 b1;show W?;show#[_,A!,t,_,0,_,A!,A!,DB! t1,A!,_,A!,FO? C HX JA w! Hy! (Ei G) BN! (aH! tb S1.dr b1 (QAG z))];rw[Ga];have S2:ID! (d! H1 BN! (Et (Ck Ai! tb (wt-Lf wt)))) JCH:=S1.XR _;have tr:t≠G.r:=λe=>JzP (S1.tup_ne t1).2 e;show#[_,A!,t,_,1,_,A!,A!,FF! (jp tr t1),A!,?_];show k _ S2 JCT;show H3?;show KH! s1
open E
open S
inductive Jp2(vs:C!)(H:Hp)(Q:VK)(E:XK):B!
 | mk (p b:Addr) (G:CU) (tb:T2) (wt:Int) (_:f9!) (_:Op) (_:BW!) (_:M4!) (_:UD! (kL! (mr! (ja Ai! tb+wt))))
def J9d:ga! yL:={}
def Jsg(F:Z! "add_to_record" "House.add_to_record" yL)(T:Txt):JHC Jp2:=by
 show E? J9d;show FB?;show A?;show H?;show B?;show Z? (Ag (QFc (JNK Aa! EQ FM)));have ei:((Jo! (EZ! aQ!)).map G6!).getD (A2! 0)=A2! (ja Ai! tb):=by unfold ja;cases TW! Jo! aQ!<;>rfl
 show RQ? (L9 S.dr hb);rw[ei];show#[_,A!,_,_,A!,A!,_,A!,NI? Hy! (Ei G) BN! S.dr];rw[Ga];show k _ (S.XR _) JCT;show H3?;show e
inductive Jjz(vs:C!)(H:Hp)(Q:VK)(E:XK):B!
 | mk (p b:Addr) (G:CU) (tb:T2) (wt:Int) (_:f9!) (_:Op) (_:BW!) (_:M4!) (_:UD! JOC)
def J9c:ga! Jbv:={}
def Jxx(F:Z! "added" JWv Jbv)(T:Txt)(M5:Jd8):JKE Jjz:=by show Pt?;show E? J9c;show FB?;show A?;show B?;show Z? (Ac (Cg Jpl) (Ag MW!));show#[_,A!,p,dx,_,A!,hp,DJ!,_,A!,_,A!,p,b,G,tb,wt,A!,S,hb,z,T3!];show W?;show Ag?;rw[Ct];show k _ JcB (QCc ON)
inductive Jp1(vs:C!)(H:Hp)(Q:VK)(E:XK):B!
 | mk (p b:Addr) (G:CU) (tb:T2) (wt:Int) (_:f9!) (_:Op) (_:BW!) (_:Vt!) (_:M6!) (_:M4!) (_:((Up!/\tX! (JKQ TV! JIQ))\/(HD!/\UD! Jg4)))
def scC:ga! Jm2:={}
def J09(F:Z! "came" "House.came" Jm2)(T:Txt)(M1:Nr!)(M5:Jd8) : JKE Jp1:=by
 have G1:Gj! f1 rb Gi! Jjt:=Jkr Oh! T;show Pt?;show E? scC;have#[p,b,G,tb,wt,rfl,S,hb,z1,z2,z3,k]:=h;show A?;show H?;show B?;show Ah? (QFc K8) (JHW (TF! (Hz (QAY w! Dp! G1 CY! Kp!)) JTc (aE! Jpl)));show Nr? (QAd Jm! z1);rw[Ho];show EV?;show Mk?
 show PE?;show O7?;show Hf?;show W?;show#[o?,HX,_,A!,JA,Di _ ZV,_,A!,p,b,_,tb,A!,S1,b1,_,A!,?_];obtain⟨h,o,RG,k⟩|⟨h,k⟩:=k;.rw[FA! (T! (Gn! tb.1 JCU)) (AM h)];show f?;(show OE? o (by have:=L9 S1.dO b1;show n? (Yt! ((UI!:CU).AK=G.AK)) RG;show this));show#[U?,p,C,HX,_,_,A!,JA,w!,Ai? Dq! (E5 _) _ A! v6 _ A! g1 _ A! _ (JZa JTb)];rw[Ga];have S2:=S1.OI (Ck ii tb (o-wt));show OV? (o-wt);show A1?;show EZ?;rw[Ct];show MB?
 .rw[FA! (A0! (Gn! tb.1 JCU)) (AN h)];show e?;show#[_,A!,p,HX,_,A!,JA,Di _ ZV,_,A!,_,A!,p,b,_,tb,wt,A!,S1,b1,z3,λH2 S2 RF=>?_];show A1?;show EZ?;rw[Ct];show k _ (S2.fld MJ G.AY (Fb!)) λb' o e h1 h2=>jp h1 (RF _ _ (ON _ _ e h1 h2) h1 h2)
inductive Jpv(vs:C!)(H:Hp)(Q:VK)(E:XK):B!
 | mk (p b:Addr) (G:CU) (tb:T2) (sh:Int) (_:Zq! Dv! (g! sh)) (_:Op) (_:BW!) (_:M6!) (_:M4!) (_:JlZ (tX! (Done p G H (JPb (o+sh)) (Q (PP sh)))) (JmE { G with BG:=Fb!,AL:=mr! (wt-Lf wt) }))
def v7:Ap! [Bm!,"b",Dl!,"goes"] U4! Jmv:={}
def J01(F:Z! "part" "House.part" Jmv)(T:Txt)(M1:Nr!)(M2:Rc!)(M6:B4! C JW6 JW7 Jbo PY! f6 fd6)(MP:JfR) : KL! 3 U4! Jpv:=by
 show PD?;show Dx?;have G6:P0! f6 fd6 PY! Jrx:=Jxs M6.fn T MP;show d? v7;have#[p,b,G,tb,sh,rfl,S,hb,z1,z2,k]:=h;show A?;show H?;show P?;show B?;show Ec? (QCz (Cb (Hz (JzQ w! Dp! G1 CY!)) (IQ! (R3 hu Aa! EQ FM Fc (λ_ _ _=>rfl)) (JSQ FM)) (Ag (JSQ (pf! M6.mt G6 M6.bd)))) MW! 3);show#[R2? b tb hb];obtain k|⟨h1,h2,o,RG,k⟩|⟨h1,h2,wt,RG,k⟩:=k;.show G? k
 .show Qm?;rw[AM h2];show f?;(show SJ? v6 o (Je4 S.dO));show MP? JTC;rw[Ga];show Ea? (o+sh) (o+sh);show W?;show#[U?,Rp? HX JA T.nT (Dt _) HX JA (Fe _)];rw[Ct];show Z? A!;show Gu? (o+sh)
 .show Qm?;rw[AN h2];show e?;show#[F8?,_,A!,hp,DJ!,_,A!,p,b,G,tb,wt,A!,S,hb,RG,z2,?_];show FA?;(.show F? k);.show GD? h3;show W?;show Ag?;rw[Ct];show L? (k _ JcB (QCc ON))
open E
inductive QU(vs:C!)(H:Hp)(Q:VK)(E:XK):B!
 | mk (p dx:Addr) (n:Int) (_:Qv!) (_:Fi! tE!) (_:∀(h o l r:Addr)(H':Hp),H h=none->Bn! o->Pb!->V7!->QG! (QAA n r)->JPJ->KQ!)
inductive Jju(vs:C!)(H:Hp)(Q:VK)(E:XK):B!
 | mk (p:Addr) (G:CU) (_:HO!) (_:Op) (_:Vt!) (_:M6!) (_:JbV 500) (_:JL8) (_:(JCB)) (_:(JBv)) (_:∀(t a:Addr)(H':Hp),di!->NJ!->JON->QG! { G with AY:=Dx!,BG:=Fb!,hand:=Pj!,AK:=Nf!,holds:=a7! }->o4!->oi!)
inductive Jv5(vs:C!)(H:Hp)(Q:VK)(E:XK):B!
 | mk (p:Addr) (G:CU) (_:HO!) (_:Op) (_:Kf! GM!)
inductive UN(H:Hp)(v:V)(r:Ef!):B!
 | mk (a t hd:Addr) (cs:S!) (_:Mz!) (_:Ce! (WP JjJ)) (_:JIS) (_:AY! hd JHQ) (_:JOV)
def UN.keep(x:UN H v r)(k:Ae!):UN H' v r:=by have#[a,t,hd,cs,e,e1,e2,e3,e4]:=x;show#[a,t,hd,cs,e,su!,WV!,TK! e3,eI! e4]
def UN.rep(x:UN H v r):uN! yB r:=by have#[a,t,hd,cs,rfl,e1,e2,e3,e4]:=x;show QO! e1 (Os (Kg e2) (Tm! Er! (w6! e3 e4)))
inductive tM(H:Hp)(x:Addr)(hs:F!)(os:sK)(rs:Q!):B!
 | mk (y1 y2 y3:Addr) (as:S!) (bs:C!) (ds:S!) (_:JIP) (_:AY! y1 a6!) (_:PQ! hs) (_:JYZ) (_:h9!) (_:(∃ob,AY! y3 (.IV ob (WP (ds.map Cz!)))/\Jzk ob)) (_:Tc! RecAt H ds rs)
def Jm8:∀{as:S!} {rs:Q!},JUH->Q5! JGw Lk! J39
 | _,_,.nil=>a!
 | _,_,.cons #[ka,e1,e2] t=>V2! (.tupP (FF! e1) (Tm! (Kg e2) Er!)) Jm8 t
def Jm5:∀{bs:C!} {os:sK},h9!->Q5! bs Dj! yB
 | _,_,.nil=>a!
 | _,_,.cons r t=>V2! r.rep Jm5 t
def tM.rep{H:Hp}{x:Addr}{hs:F!}{os:sK}{rs:Q!}(h:JUt):Pe! Is! pz!:=by have#[y1,y2,y3,as,bs,ds,e,e1,t1,e2,r2,#[ob,e3,_],r3]:=h;show QO! e (Os (w6! e1 t1) (Tm! (.tupP (FF! e2) (Jm5 r2)) (.tupP (ow! #[_,e3]) (Jm8 r3))))
inductive Jpu(vs:C!)(H:Hp)(Q:VK)(E:XK):B!
 | mk (p t:Addr) (G:CU) (th:T2) (w:Int) (a:Addr) (hl hs:F!) (_:HP!) (_:Op) (_:HR!) (_:L9! G.AK.find? P8!=D! (th,w)) (_:JTK) (_:hl.length<64) (_:hs.Perm hl) (_:eH!) (_:JWR (UN H' Is! (th,w,hs)))
structure Rows(G:CU)(os:sK):B! where
 pm:JOG Dj! OV!
 pw:JH8
 at_:JvW
inductive Rv(vs:C!)(H:Hp)(Q:VK)(E:XK):B!
 | mk (p:Addr) (G:CU) (hs:F!) (os:sK) (rs:Q!) (_:HO!) (_:Op) (_:qx!) (_:qy!) (_:qz!) (_:xN!) (_:eH!) (_:fL!) (_:DY!) (_:F6!) (_:JWR (tM H' x hs os rs))
open S
def scI:Ap! NG! NG! Jmy:={}
def XU(F:WD! JWo Jmy)(T:Txt):IL! NG! QU:=by
 show E? scI;have#[p,dx,n,rfl,hp,k]:=h;show A?;show Z? (Ac (Eo SC EQ A!) (Ac x9! (JK5 x9! uI! uI! uI! G9)));show QV? C w! T.nN;show Ir? T.nM JZp;rw[Hh];show Ir? T.nT (by rw[F3,Dh Kj,F3];change 2<1000;decide);rw[Hh];have step:∀{H1:Hp} {d:Addr} {fs:Eq!} {o:HO},JFA H1->QCS H1->af! d->JFA (d! H1 d o)/\QCS (d! H1 d o)/\d≠p/\rr!:=λ{H1 d fs o} e1 e2 e3=>by have ndp:SO!:=Am e1 e3;show#[jp ndp e1,Sd! (jp (Am (e2 b u e hb) e3) (e2 b u e hb)),ndp.symm,?_];cases q:H d with | none=>rfl | some u=>rw[e2 d u q ndp.symm] at e3;cases e3
 have a0:mx! (Zh! (Zx! QAw)):=Sd! (Z8! hb)
 intro d1 h1;have#[b1,b2,b3,b4]:=step (o:=.dT []) Ab a0 h1;show Co? b1 Jl! ?_;.show De?;show Dd?;show Dt?;show CQ?;show Ke!
 have c0:∀{H1:Hp} {fs:Eq!},JGC H1 (mx! (d! H1 p lp!)):=λe b u e1 hb=>jp hb (e b u e1 hb)
 intro d2 h2;have#[b5,b6,b7,b8]:=xI! b2 h2;show Co? b5 Dq! ?_;.show EN?;show De?;show Dd?;show Dt?;show CQ?;show Ke!
 intro d3 h3;have#[b9,b10,b11,b12]:=xI! b6 h3;show Co? b9 CZ! ?_;.show NO?;show EN?;show De?;show Dd?;show Dt?;show CQ?;show Ke!
 intro d4 h4;have#[b13,b14,b15,b16]:=xI! b10 h4;show Co? b13 Hy! ?_;.have:=Cc am (UV d3) (JX7 d2 d1 QAw);show NO?;show EN?;show De?;show Dd?;show Dt?;show CQ?;show Ke!
 show OK? HM!
 show OL? HM! HM!
 show Mm? QZ!
 have n14:d1≠d4:=λz=>by rw[<-z,HM!,Ae vC,HM!,Ae rH,HM!,Ab] at h4;cases h4
 have n24:d2≠d4:=λz=>by rw[<-z,QZ!,Ae vB,QZ!,Ab] at h4;cases h4
 have n34:d3≠d4:=λz=>by rw[<-z,Ae b11,Ab] at h4;cases h4
 show k d1 d2 d3 d4 _ b4 b8 b12 b16 #[#[dx,?_],?_,?_,?_,?_,JWH,?_] (c0 b14);.rw[Ab,<-J5a]
 .rw[HM!,Ae n14,HM!,Ae vC,HM!,Ae rH,HM!,Ab];rfl
 .rw[QZ!,Ae n24,QZ!,Ae vB,QZ!,Ab];rfl
 .rw[Ae b11,Ae n34,Ae b11,Ab];rfl
 .rw[Ae b15,Ab];rfl
 .simp[CC,rH,vC,n14,vB,n24,n34]
def scM:UM! Gi! Jmw:={}
def J02(F:Z! EP! "House.make" Jmw)(T:Txt):Q4! Jju:=by
 show E? scM;have#[p,G,rfl,S,z1,z2,z3,f1,f2,f3,k]:=h;show A?;show H?;show IY? scM.nd (eQ! Aa! Aa!) MW! (P1! (cR! Ai) (cR! G9) JNf MW! (bR! 1));show B?;show#[_,A!,p,C,dx,_,_,A!,hp,SE? w! T.nN (Jis G) C dx hp w! T.nM (Jsq G) D0!];have s1:=G2! rn! ro! ht;show r?;have t1:IW! t (WP [rn!,ro!]) t (J6! FX!):=Ab;generalize VB! t [rn!,ro!]=H1 at s1 S1 t1;show W?;show#[Rp? HX JA T.nM (Jsq G) HX JA (Fe G)];rw[Jou];have S2:=S1.fld HX (Dx!) GM!;have RF:lK! (H6! H1) (b≠p) JLr:=JAl
 have tp:=S1.tup_ne t1;have t2:=KM RF t1 tp.1;have S2:ID! JLr QCe:=S2;generalize Ku! H1 (av! HX QCe)=H2 at S2 RF t2;show A1?;show Rt? MJ JJ Dq! (E5 _) v6 (aH! FX! S2.dO t2 JTb);have e3:JaY OV! QCf A2! 0 Nf! QCf:=u7! IJ! G6! f2
 have S3:=S2.OI (Nf!);unfold Et at S3;rw[<-e3] at S3;have tn2:=S2.tup_ne t2;have WO:vX! H2 JpV:=xW!
 have t3:=KM WO t2 tn2.2;generalize JpV=H3 at S3 WO t3;intro a ha;have s4:=ei! ha;have S4:=S3.same s4;have a4:O5! (d! H3 a P2!) (C3 []):=Ab;have t4:=HA! t3;have af:a∉Cg!:=λm=>by have#[kvs,e]:=S3.NA (b:=a) (by have:Xe! { G with AY:=Dx!,AK:=bW! }:=rfl;show K?;show m);rw[ha] at e;cases e
 generalize FY! H3 a .dT []=H4 at s4 S4 a4 t4;have#[gT,vK]:=S4.ob;show JZ? gT vK CZ! (Gg _) Ab! S4.dl t4 (JbV 1000) z3;have e5:EL! (ON! Uq!) (tk FX!) (Cz! a)=(a7!).map Uq!:=u7! KT! am! f3
 have S5:=S4.tV FX! a4 af;unfold Hd at S5;rw[<-e5] at S5;have ae:vX! H4 JkM:=xW!
 have t5:=KM ae t4 tn2.2;generalize JkM=H5 at S5 ae t5;have#[kf,ie]:=S5.ob;show JZ? kf ie Jl! (Hm _) G.h S5.dh t5 (G.hand.length<=1000) z1;have e6:JaY ZE! QCg E8! AC Pj! QCg:=u7! j8! Uk! f1
 have S6:=S5.RV (Pj!);unfold C3 at S6;rw[<-e6] at S6;have rY:vX! H5 JoY:=xW!
 have t6:=V5! t5 tn2.2;generalize JoY=H6 at S6 rY t6;show FC?;show Rq? YZ iX YZ iX;rw[Ct];have S7:=S6.fld YZ (Dx!) (Fb!);have UB:∀{b:Addr},cF!->BU!:=λ{b} e=>Ea s1 e;have U':aX! (d! H6 p (av! YZ { G with AY:=Dx!,BG:=Fb!,AK:=Nf!,holds:=a7!,hand:=Pj! })):=λb o e hb hf=>jp hb (V5! (ae _ _ (wP s4 (WO _ _ (RF _ _ (K6! s1) hb) hf)) hf) hf)
 show L? (k t a _ ht ?_ (Ps! tp.1 t6) S7 U');cases q:H a with | none=>rfl | some u =>exfalso;(have nap:a≠p:=λz=>by rw[z,S3.ob.choose_spec] at ha;cases ha);have:sP! u:=KM WO (RF _ _ (wP s1 q) nap) af;show I? ha;cases this
def scT:Ww! Jmt:={}
def J0z(F:Z! "tick" "House.tick" Jmt)(T:Txt):Q4! Jv5:=by show E? scT;have#[p,G,rfl,S,k]:=h;show A?;show B?;show#[_,Ag (Ao Aa!),#[_,A!,p,C,dx,_,_,A!,hp,w!,T.nT,Dt G,k]]
open E
def S_{a b c:Str}{k:NameKind}{cl:Bc!}{y:Str}(hc:fK!)(h:JZo):I4!:=M9!
def Jt0(s:TD)(x:JUH):JfF:=Ax (SW! (by have#[ka,e1,e2]:=h9;show#[ka,NF! s,Ut! s])) x
open S
def J8w:XY! Jms:={}
def Sj(f:α->β)(l:R!):MO! Db (λt=>(t,f t))=l:=U! AX (MQ l)
def J0y(F:Z! Y4! "House.told" Jms)(T:Txt):tJ! Jpu:=by
 show E? J8w;have#[p,t,G,th,wt,a,hl,hs,rfl,S,ht,f1,f2,YI,pm,pw,k]:=h;show A?;show H?;show B?;have g1:GW H v6 KP! (mm! wt):=ms! (QBm S.dO) gp! f1
 have g2:Jac:=JS8 S.dl f2
 have g3:JPy:=S.hl _ (BE f2);show C3? (Ao (Ce (TD! EQ Ng! (XQ! (po! Ng!)))));show#[U?,_,A!,p,C,dx,_,_,A!,hp,w!,Dq!,E5 G,_,A!,v6,_,A!,g1,_,A!,p,C,dx,_,_,A!,hp,w!,CZ!,Gg G,_,A!,Ab!,_,A!,g2,a,_,hs,A!,Jss g3,PE! YI,JXa,pw,λr as hr ha=>?_];show#[r,_,A!,Fg! Mm! (λx2 yw=>JDo 3 Ie!)];have s1:=VH! Bd! hr;have s2:=QD6 Bd! yw;have s3:=PA! [An! t,AM! wt,rt!] hx;have ss:=Rg!;show k x _ ss #[x,t,x2,as,A!,Ab,P! ss ht,HE! Ab,pM! ss ha]
def w8:UM! [Bm!,A4!,EQ!,C4!] Tz:={}
def Jxp{f fT:Addr}{fd fdT:FuncData}(F:JFQ "House.state" Tz)(T:Txt)(FT:HM K Y4! "House.told" Jms fT fdT)(bT:Tp! fdT Gi!)(mT:vX K C Y4! fT) : t7! Rv:=by
 have GT:Gj! fT fdT Gi! Jpu:=J0y FT T;show E? w8;have#[p,G,hs,os,rs,rfl,S,z1,z2,z3,pm,pw,R,pmr,pwr,k]:=h;show A?;show P?;show B?;show Cd? w8.nd (XQ! (po! Aa!)) (ar! 2 w8.nd (XQ! (Dk (AJ!:=LM!) A! JPg A! ZV A! ZV A! Pf! UZ! Pg! ZV TX! (Gk! (Ar EQ w! mT GT HJ bT a! A9 lk!)))) 3 w8.nd (lR! Jfr T.tuple GO (QAr (Tg A! (qj hr)) T.sorted (Jb5 DY JMn PySem.F.type_dict_items Jx2 Aa!))) (U5! (JSX AF!)));show EK? dx hp Jl! (Hm G) G.h hs Jss Jm! z1 JXa pw (λr1 MM JJU ha1=>#[r1,_,A!,Fg! Mm! (λx1 aE=>?_)]);have s1:=VH! MM.map JJU;have s2:=QD6 MM.map aE;have ss1:=fG!;have S1:=Jp! ss1;have q1:PH! JXV x1 eg! x1 eg!:=Ab;have JBU:CB (V0! r1 bN! x1 eg!) MM hs:=pM! ss1 ha1;generalize d! JXV x1 eg!=H1 at ss1 S1 q1 JBU;show W?;have e0:JVX OV! PB!:=Mo!
 show EK? HX JA Dq! (E5 G) v6 ri! Jye S1.dO z2 (o! e0 R.pm) R.pw (λr2 XZ NF rV=>#[r2,A!,tn!,Ba!]);have s3:=Jad;have er2:z! (d! H1 r2 QD!) r2 QD!:=Ab;have S2:=S1.same s3;have ss2:=Af ss1 s3;have JBR:CB JYU XZ (Dj! EG!):=JOn rV;have JBT:CB JYU MM hs:=JOn JBU;have q1b:=HE! q1;generalize d! H1 r2 QD!=H2 at s3 er2 S2 ss2 JBR JBT q1b hq;have hlen:XZ.length=os.length:=by have:=AA! rV;show I? ZA;show this
 have vL:os.length<64:=by have h1:=R.pm.length_eq;rw[ZA,ZA] at h1;show h1▸z2
 show Qc? r2 (IU! XZ.map) (yI C Y4! (Jpu) [] E0 (Cz 1) UH!) LM! [CM!,Dt! x1,none,none] (λi ys H3=>rY! H3 q/\BV H2 H3/\TZ! (UN H3) ys Se! i) #[Ab,Ah hq,U! QF a!] (λi ys H3 _ h=>oR! Pc! er2 pi);.rintro i x ys H3 N hx ⟨e3,s4,pr⟩ hN;show f?;show Ak?;cases rT:XZ[i]? with | none=>show Bq? rT | some ai =>rw[rT] at hx;cases hx;(have vN:i<os.length:=JG8 Df!);have#[qo,hqo]:=Aw vN;have eth:=A6 JBR i ai qo.1 rT (Ui! hqo);have#[f1,a,hl,f2,f3,f4,f5]:=Fp! R.at_ qo hqo;have S3:=S2.same s4;show BY?;show#[U?,p,UW,_,A!,UE,DJ!,_,A!,p,ai,G,qo.1,qo.2.1,a,hl,qo.2.2,A!,S3,HA! eth,f1,f2,f3,f4,f5,λx2 H5 s5 rep=>#[P! s5 e3,?_,ot! Ab In!]];(.have:=AA! pr;show K?;show C5 (AA (xz List.length_take_le) (AA (A_ (AE (A_ vN) vL)) FB)));(.have nb:b≠q:=Am e hq;rw[Ae nb];show wo!);·show Rw? H5 (sN! H5 q rt!) (P! s5 e3);(have et:Se! (Am!)=Se! i++[qo]:=WN! hqo);rw[et];show Fa (rep.keep kq) (Ax (λ_ _ r=>(Sf! (JS s5)).keep kq) pr)
 .rintro ys H3 ⟨e3,s4,pr⟩;rw[ZA,Df!,BS] at pr;show Gm? q e3 (λx2 yw=>?_);have s5:=PA! ys yw;have ss3:=uG! ss2 s5;have S4:=(S2.same s4).same s5;have q2:oq! x2 Kr! x2 Kr!:=Ab;have q1c:=xv! q1b;have JBS:CB JYu MM hs:=Ax (λ_ _ e=>wo!) JBT;have pr':Tc! UN JYu ys os:=pE! s5 pr;generalize d2! H3 x2 ys=H4 at s5 ss3 S4 q2 q1c JBS pr';have#[gT,vK]:=S4.ob;have dr4:=S4.dr;show#[Q5? C gT vK Hy! (Ei G) (Ao! (T0! dr4)) BN! dr4];have s6:=Ah (o:=Jli v BN!) hv;show#[v,BN!,Ai!,rs,A!,Ab,K5! dr4,z3,pmr,pwr,λr3 as3 H7 s7 TX e7 pr7=>#[r3,_,A!,GP! e7,λx3 ob3 hx3 pl3=>?_]];have s8:=Ah (o:=.IV ob3 (WP (as3.map Cz!))) hx3;show#[_,A!,_,A!,_,A!,QA1 3,Ie!];have s9:=PA! [An! x1,rt!,An! x3] hx;have yc:=Af s6 (G7! s7 s8 s9);show k x _ (Af ss3 yc) #[x1,x2,x3,MM,ys,as3,Ab,P! yc q1c,pM! yc JBS,P! yc q2,pE! yc pr',#[ob3,Pk! s9,pl3],Jt0 (Af s8 s9) pr7]
open E
open S
def v_:Mn! [FN!,Jj!,ke!] FN! Jj! Jr5:={}
inductive Jv9(vs:C!)(H:Hp)(Q:VK)(E:XK):B!
 | mk (a:Addr) (ns:q!) (k:Int) (_:vs=[BQ!,g! k]) (_:wa!) (_:JCO) (_:0<=k) (_:k<=1000) (_:∀v:KE,Kf! v)
def J08(F:Z! Y7! Y7! Jr5)(hn:Qx!):IL! [FN!,Jj!] Jv9:=by
 show E? v_;have#[a,ns,k,rfl,hS,hl,h0,JpQ,kk]:=h;show A?;have hlen:AZ! Bj! A2!=ns.length:=Vg!;have item:∀i:KE,K0!->i<ns.length->∃v,WZ (Bj! A2!) i=D! (FU! v):=λi a b=>by have#[x,hx]:=JF2 ns i.toNat;show#[x,xk! a hx]
 show Z? (Ac (TR! (J8! Sa EQ x4!) (As Cd SC EQ)) (JOX 2 v_.nd (KG! Ia v0!) (t0! x4!) (QAC v_.nd (Pl! (Co Ia (KG! P2 (As Cd SC (Co Er v0! x4!))) v0!))) (Pl! (Co P2 FM FM))));show#[U?,Qf?];show Gf (λc1=>?_) (PK!);.have c1:=BN c1;have#[v,hv]:=item k h0 (by rw[Df!] at c1;show c1);show#[_,A!,_,A!,a,_,_,_,A!,A!,hS,hv,kk v]
 .show#[_,A!,_,_,A!,A!,pc!,_,_,A!,A!,?_];show#[Qf?];show Gf (λc2=>?_) (PK!);(.have c2:=BN c2;(have tG:TN! JDr:=by rw[Df!] at c2;show c2);have#[v,hv]:=item (k*7 % JDr) (DQ _ (KZ (hlen▸c2))) (DR _ tG);show#[_,A!,_,A!,_,_,A!,A!,pc!,_,A!,a,_,A!,h! hS,_,_,A!,A!,df! tG,a,_,_,_,A!,A!,hS,df! hv,_,_,A!,A!,pc!,Pl?];show#[D0? _ A! (h! sm!) _ _ A! JJz (kk _)];(.have:=JTT Jgl;show Jd2 FB this);.have:=JSZ Jgl 2147483647;show L4! BL this);.show#[D0? _ A! (Fg! W! W!) _ _ A! JJz (kk _)]
open E
def Jk4(h1:WY!)(h2:LB b c):LB a c:=JFn
def Jk5(h:Rk!)(h1:¬WY!):LB b a:=JsJ
def Rx(key:CA!)(x:α):JrU
 | [],_,_=>JQk
 | y::s,h,ne=>JxJ
def sorts(key:CA!):Jlm
 | [],_=>JQj
 | x::l,nd=>JwF
structure Good(G:CU):B! where
 h1:G.hand.Nodup
 h2:qx!
 o1:JFu
 o2:qy!
 r1:JFv
 r2:qz!
 at_:∀q∈G.AK,HN λa hl=>QBB JTl=D! (H!,a,hl)/\hl.Nodup/\hl.length<64
structure Told(G:CU)(hs:F!)(os:sK)(rs:Q!):B! where
 pm:xN!
 pw:eH!
 ND:fL!
 pr:DY!
 wr:F6!
def JD{l:Q!}(nd:WM!){q:ES!}(hq:OR!):QBB Li!=D! q:=by induction l with | nil=>cases hq | cons x l ih =>show AW?;obtain rfl|hq:=ZM hq;(.simp);.have ne:¬BK!=H!:=uM! (KF! OQ!);rw[CM,AN ne];show ih PN.2 hq
def Jr6(g:Good G):∀{s:Q!},(∀q∈s,q∈G.AK)->∃os:sK,Dj! (λq=>(H!,WF))=s/\JvW
 | [],_=>#[[],A!,QEg]
 | x::s,h=>by have#[os,e,k]:=Jr6 g JaT;have hx:=Ft! x;have#[a,hl,f,nd,z]:=g.at_ x hx;have#[hs,p,q]:=JTx hl (o! MQ nd);rw[MQ] at q;show#[(BK!,x.2,hs)::os,AO! AI e,Io!];obtain rfl|hy:=ZM hy;(.show#[JD g.o1 hx,a,hl,f,z,p,q]);.show k y hy
def Good.told(g:Good G):M_ λhs os rs=>Bw!:=by
 have#[hs,p1,q1]:=JTx Bk! (o! MQ g.h1);have#[so,p2,q2]:=JXA g.o1;have#[rs,p3,q3]:=JXA g.r1;have#[os,e,k]:=Jr6 g (A8! (p2.mem_iff.mp hq));have e1:Fs! Dj! so.map:=by rw[<-e,AX];rfl
 rw[MQ] at q1;show#[hs,os,rs,p1,q1,#[da! (p2.map _),da! q2,k],p3,q3]
inductive Jry(vs:C!)(H:Hp)(Q:VK)(E:XK):B!
 | mk (p dx:Addr) (_:HO!) (_:Fi! (S8! CP [])) (_:∀(d:Addr)(H':Hp),rr!->KU CP H' p d 0 []->(JNd)->KQ!)
inductive Kh(vs:C!)(H:Hp)(Q:VK)(E:XK):B!
 | mk (p d:Addr) (c:Int) (ls:X!) (k s g a:V) (_:vs=[Cc!,k,s,g,a]) (_:wP!) (_:ls.length<=2700) (_:∀(t:Addr)(H':Hp),di!->ok! (WP [En! (c+1),k,s,g,a])->KU CP H' p d (c+1) (ls++[(c+1,t)])->(QBO (b≠d) Mb!)->ng! (c+1))
inductive Jbf(vs:C!)(H:Hp)(Q:VK)(E:XK):B!
 | mk (p d:Addr) (c:Int) (ls:X!) (_:HO!) (_:wP!) (_:JfP Hr!)
inductive Jbe(vs:C!)(H:Hp)(Q:VK)(E:XK):B!
 | mk (p d:Addr) (c:Int) (ls:X!) (n:Int) (_:Qv!) (_:wP!) (_:((M_ λ(l1:List (Int×Addr))(l2:List (Int×Addr))(t:Addr)=>ls=QBM/\∀(H':Hp),KU CP H' p d c (OU!)->(cP! (b≠d))->oi!)\/((qo!)/\JGl)))
open S
def J85:Ww! Jbp:={}
def Jxr(F:WD! JWr Jbp)(T:Tj):Q4! Jry:=by
 show E? J85;have#[p,dx,rfl,hp,k]:=h;show A?;show Z? (Ac x9! (Ag Wp!));show Pk? CP hp w! CZ!;intro d hd;have yz:SO!:=λz=>by rw[<-z,Ab] at hd;cases hd
 have XY:rr!:=by rw[JGp] at hd;show hd
 show Ie? CP yz T.nW JZp;show k d _ XY #[Gw! Ab,FZ! JGp Ab,FI! (by simp at hl),EH] (JU! ?_);rw[Es!,PU! XY,Es!];show e
def J83:Ap! aC! aC! Pp:={}
def O8(F:Z! "put" "Post.put" Pp)(T:Tj):IL! aC! Kh:=by
 show E? J83;have#[p,d,c,ls,kk,ss,gg,aa,rfl,S,hl,k]:=h;show A?;show H?;show Gt?;have yk:SO!:=S.ne;show Z? (Ac MW! (Ac (Jzq Aa! (Ce (Aa Aa! (lY! EQ FM AF! Br!)))) (KB! Aa!)));show#[_,A!,p,CP,dx,_,_,A!,h1,w!,CZ!,dz!,_,_,A!,A!,dx,_,h1,(by rw[R6];change 2<1000;decide),?_];rw[Jt5];have h2:JFB d7!:=Ab;have d2:z! d7! d s9!:=JEr yk.symm
 show#[_,A!,p,CP,dx,_,_,A!,h2,w!,CZ!,dz!,_,A!,_,A!,_,A!,_,A!,JMi,?_];intro t ht;have npt:p≠t:=Am h2 ht;have ndt:d≠t:=Am d2 ht;have ht':di!:=by rw[Ae npt.symm] at ht;show ht
 have h3:∀o,JFB (d! d7! t o):=zo! npt h2
 have d3:∀o,PH! d7! t o d s9!:=zo! ndt d2
 show#[_,A!,p,CP,dx,_,_,A!,h3 _,w!,T.nW,d0!,_,A!,p,CP,dx,_,_,A!,h3 _,w!,CZ!,dz!,d,_,A!,JTj (c+1) (d3 _) hl,?_];have JJX:De (Hs! ls) (BI! (c+1):Key)=none:=vy! (by have:=le l hl;simp;lia)
 have JJo:QFB ls (BI! (c+1):Key) t (ls++[(c+1,t)]):=Jee JJX
 rw[JJo];show#[_,A!,p,CP,dx,_,_,A!,Ps! yk (h3 _),w!,CZ!,dz!,?_];show k t _ ht' (Ck! (Ae ndt.symm) Ab) (JcO (h3 _) Fy!) λb o e hp hb=>?_;.obtain hl|hl:=ZI hl;(.have:=le l hl;show CA this);·(have e:l=(c+1,t):=by simpa using hl);rw[e];show AJ _
 .rw[ZF];show Il nd Un!;have#[l,hl,e]:=Ey!;have:=le l hl;have e':As!=c+1:=e;show JoH this
 .rw[Es!,PU! ht',Ae hp];show e
def J84:Ww! K4:={}
def Jnz(F:JFS JXJ K4)(T:Tj):Q4! Jbf:=by
 show E? J84;have#[p,d,c,ls,rfl,S,k]:=h;show A?;show Gt?;show AS? (JYX Ww T.list (Jb5 DY LQ SJ We Aa!));show#[Q5? CP dx h1 T.nW d0! (Ao! (h! #[_,hd])) d hd];have ndv:d≠v:=Am hd hv;show#[v,d,_,A!,Ab,JEr ndv,Fy!];have nvl:l≠v:=λz=>by rw[z,Ab] at hl;cases hl
 have fq:Pb!:=by rw[Ae nvl] at hl;show hl
 show k l _ fq (by rw[Ab];unfold kvsOf;rw[AX];rfl) In!;rw[PU! fq,PU! hv];show e
def J82:JSO Rz:={}
def Jib(F:Z! "taken" "Post.taken" Rz)(T:Tj):tH! KJ! Jbe:=by
 show d? J82;have#[p,d,c,ls,n,rfl,S,k]:=h;show A?;show H?;show Gt?;have yk:SO!:=S.ne;show DA? (hV! T.cNL) (JhG EQ);show#[Rz? CP h1 w! T.nW d0! d (QDo hd)];obtain⟨l1,l2,t,rfl,k⟩|⟨pV,k⟩:=k;·(have ev:QAQ zD!=D! KP!:=JOL);rw[ev];show e?;show#[Gz? CP dx,A!,h1,w!,T.nW,d0!,d,A!,h! #[_,h! hd],_,A!,_,Z7!,_,hd,A!,ev,?_];rw[Jo9 nd];(show k _ (JcO h1 (FI! (le l ?_))) JAl);(.obtain hl|hl:=ZI hl;(.show BE! hl);.show CI! (Ec! hl));.rw[ZF,AI] at nd;rw[ZF];show SL! #[V4! nd,(N8! JXK).2,λa ha b hb=>o1! a ha b (Ec! hb)]
 ·(have ev:qF!:=vy! (Tf! (pV l hl)));rw[ev];show C4 k
open E
open S
inductive Jrw(vs:C!)(H:Hp)(Q:VK)(E:XK):B!
 | mk (p t:Addr) (G:CU) (th:T2) (_:HP!) (_:Op) (_:HR!) (_:sf! (z! (Jo! (EZ! P8!)).map B1! 0))
def J8z:XY! Jbn:={}
def Jxq(F:Z! "is_spent" JW4 Jbn)(T:Txt):tJ! Jrw:=by show E? J8z;show CP?;show A?;show H?;show B?;show AS? (O6 Cv (QBa Jxh Aa! EQ) Ai (A4 _));show RQ? (L9 S.dr ht);cases e:mI! Jo! P8! with | none =>rw[e] at k;show#[A!,k] | some q =>rw[e] at k;show#[A!,?_];(have e2:KB (TE!=A2! 0)=KB (z! (AC! q).map B1! L6!):=ci);change Q (E8! (Rj! (TE!=A2! 0))) H;rw[e2];show k
open E
open S
inductive E9(vs:C!)(H:Hp)(Q:VK)(E:XK):B!
 | mk (p:Addr) (h:Int) (W:EF) (_:Qu!) (_:wn) (_:QAz (sA! q))
def Jwi:f4! Fi:={}
def Ez(F:Z! SQ! "World.house" Fi)(T:Txt)(TW:He):tH! Gg! E9:=by
 show d? Jwi;have#[p,h,W,rfl,S,k]:=h;show A?;show B?;show DA? (bm! (yj! (ai! Sa EQ) (J8! Jsd EQ QDq)) TW.cNH) (pF! EQ);show HC?
 show DG?;obtain⟨o,k⟩|⟨q,G,i,k⟩:=k;.show Gf (λ_=>C4 k) (λc=>?_);have c:¬h<0:=QCB;show RB?;rw[e0,AM (show qr! from o.resolve_left c)];show C4 k
 .have#[i1,i2]:=i.lt;rw[AN (show ¬h<0 by show YY! i1)];show e?;show RB?;rw[e0,AN (show ¬qr! by show NU.mpr (e0▸i2))];show e?;show#[Gf?,_,A!,hp,wE,Hz!,Ey W,_,A!,C5!,_,_,_,A!,A!,V9!,i.WZ,k]
inductive Ot(vs:C!)(H:Hp)(Q:VK)(E:XK):B!
 | mk (p:Addr) (h:Int) (W:EF) (_:Qu!) (_:wn) (_:JMc Jju)
def Jz7:f4! Jj3:={}
def Jnq(F:Z! EP! "World.make" Jj3)(T:Txt)(TW:He)(MH:I7!)(M1:lc! EP! "House.make" Jmw f1 d1)(G1:GQ 1 f1 d1 BD! (Jju)):KL! 2 Gg! Ot:=by
 show On? Jz7;show AB?
 show Qy?
inductive Ou(vs:C!)(H:Hp)(Q:VK)(E:XK):B!
 | mk (p:Addr) (h:Int) (va vb:V) (W:EF) (_:hh!) (_:wn) (_:ws! Jjv)
def Jz8:xm! Jj5:={}
def Jnt(F:Z! BM! "World.hold" Jj5)(T:Txt)(TW:He)(MH:I7!)(M1:l4! BM! "House.hold" Jmz f1 d1)(G1:GQ 3 f1 d1 Zl! (Jjv)):KL! 4 JyW Ou:=by
 show EU? Jz8;show AB?
 show Eq?
inductive Ow(vs:C!)(H:Hp)(Q:VK)(E:XK):B!
 | mk (p:Addr) (h:Int) (va vb:V) (W:EF) (_:hh!) (_:wn) (_:ws! Jjx)
def J0b:xm! Jj7:={}
def Jnv(F:Z! FC! "World.drop" Jj7)(T:Txt)(TW:He)(MH:I7!)(M1:l4! FC! "House.drop" Jm1 f1 d1)(G1:JoJ Jjx):JSg Ow:=by
 show EU? J0b;show AB?
 show Eq?
inductive Oq(vs:C!)(H:Hp)(Q:VK)(E:XK):B!
 | mk (p:Addr) (h:Int) (va vb:V) (W:EF) (_:hh!) (_:wn) (_:ws! Jjr)
def Jz6:xm! Jj1:={}
def Jno(F:Z! FD! "World.take" Jj1)(T:Txt)(TW:He)(MH:I7!)(M1:l4! FD! "House.take" Jmu f1 d1)(G1:JoJ Jjr):JSg Oq:=by
 show EU? Jz6;show AB?
 show Eq?
inductive Ov(vs:C!)(H:Hp)(Q:VK)(E:XK):B!
 | mk (p:Addr) (h:Int) (vb:V) (W:EF) (_:vs=[Cc!,Gh!,vb]) (_:wn) (_:QAz (QAW Jjw [FS q,vb]))
def J0a:Ap! U3! U3! Jj6:={}
def Jnu(F:Z! FE! "World.free" Jj6)(T:Txt)(TW:He)(MH:I7!)(M1:B4! C FE! "House.free" Jm0 PY! f1 d1)(G1:yJ! PY! Jjw):KL! 3 U3! Ov:=by
 show FT?;show d? J0a;have#[p,h,vb,W,rfl,S,k]:=h;show A?;show P?;show B?;show Z? (Ag (Cg (JGE nN! Dp! G1 hr CY! FM)));show#[o?,dx,_,A!,hp,Ff!,_,A!,p,h,W,A!,S,?_];obtain k|⟨q,G,i,k⟩:=k;show AB?
 .show A5?;show x! #[q,G,i,q,HX,_,A!,hq,DJ!,_,A!,k]
inductive E8(vs:C!)(H:Hp)(Q:VK)(E:XK):B!
 | mk (p:Addr) (h:Int) (W:EF) (_:Qu!) (_:wn) (_:JMc Rv)
def Jwg:f4! Lr:={}
def Jt9(F:JFQ "World.state" Lr)(T:Txt)(TW:He)(MH:I7!)(M1:QFQ f1 d1)(G1:yJ! BD! Rv):JNO E8:=by
 show On? Jwg;show AB?
 show Qy?
open E
abbrev aT(G:CU)(tb:T2)(wt:Int):Q!:=if Fz! then JIR else G.AK
def J10{l:Q!}{t:T2}(h:dF!):zb!:=Mf! yg!
def Sr(hd:sq!)(ht:HR!)(f:QDT P8! th v):fY! (mm! v):=by have:=L9 hd ht;show I? f;show this
open S
inductive Jr0(vs:C!)(H:Hp)(Q:VK)(E:XK):B!
 | mk (p b:Addr) (G:CU) (tb:T2) (wt:Int) (_:f9!) (_:Op) (_:BW!) (_:M6!) (_:UD! JPc)
def J9b:ga! Jbt:={}
def Jxt{f:Addr}{fd:FuncData}(F:Z! "given" JWx Jbt)(T:Txt):JHC Jr0:=by
 show E? J9b;show FB?;show A?;show H?;show B?;show Jo? (TF! (JaJ EQ) JTc A5);show F6? C w! Dq! (E5 G) v6 (L9 S.dO hb);by_cases h:Fz!;.have fo:=Sw h;rw[fo];show f?;show MD?;show MP? (QDt S.dO);rw[Ga];show Ea? oN! oN!;show W?;show Ag?;rw[Ct];(have e:pi!=JIR:=by unfold aT;rw[Bz!]);rw[e] at k;show Gu? oN!
 .rw[J10 h];show e?;(have e:pi!=G.AK:=by unfold aT;rw[B9!]);rw[e] at k;show Rq? dx hp dx hp;rw[Ct];show k _ (S.fld dx G.AY (Fb!)) λb' o e h1 h2=>Z8! h1
abbrev cy(G:CU)(tb:T2)(H_:Bool):F!:=if H_=true then TV! else G.hand
abbrev j_(G:CU)(tb:T2)(sh:Int)(H_:Bool):Q!:=Ck ii tb (aM!+(Be! (H_=true) (sh-1) (2*sh-1)))
inductive Jml(vs:C!)(H:Hp)(Q:VK)(E:XK):B!
 | mk (p b:Addr) (G:CU) (tb:T2) (sh:Int) (H_:Bool) (_:vs=[Cc!,Dv!,g! sh,AI! H_]) (_:Op) (_:BW!) (_:M6!) (_:Vt!) (_:Fz!) (_:JKQ cj! hT!)
def J80:Ap! VM! VM! Ry:={}
def Juc(F:Z! "passed" JW0 Ry)(T:Txt):IL! VM! Jml:=by show E? J80;have#[p,b,G,tb,sh,H_,rfl,S,hb,z1,z2,h,k]:=h;show A?;show H?;show B?;show Jo? (Cb (Hz (pv 3)) (IQ! JNf (JdK FM)) (Ag (JdK (Co P2 Ai FM))));have fo:=Sw h;show Gc? H_;cases H_ with | true =>show f?;show Nr? (QAd Jm! z2);rw[Ho];show EV?;(show Mk?);show PE?;show O7?;show Hf?;show W?;show OE? (Aj ii tb) (Sr S1.dO b1 fo);show#[Ci? C HX,_,A!,JA,w!,Dq!,E5 _,_,A!,Ai? v6 _ A! g1 _ A! _ _ A! A! _ (JZa (C5 (QBD (G.AK.length<=1000) z1)))];rw[Ga];have S2:=S1.OI (Ck ii tb (JNN));show OV? JNN;show A1?;show EZ?;rw[Ct];show MB? | false =>show e?;show MD?;show#[o?,C,dx,_,_,A!,hp,w!,Dq!,E5 _,_,A!,v6,_,A!,g1,_,Ai? A! _ _ A! A! (Fg! Au! Au!) _ _ A! A! _ JTC];rw[Ga];show Ea? vY! vY!;show W?;show Ag?;rw[Ct];show Gu? vY!
open E
open E Lake.K52
open N Lake.FX
open PySem PySem.Spec PyProof.Rows L2
open S
def Jot(I:I!)(e:WU!):JYz VE!:=by
 have ok:=TY! d e;have#[_,_,vs,_,o,es,ep,g,_]:=id ok;show#[o,g,P6 I #[_,e] xO! xP! (JrS) (qi!) #[g,?_]];show ok.PZ (SD!) (ct!) cu!;show Fj?
 show F4?
def J25(I:I!)(hg:KC! VE!)(hd:P6!):∃vs,D7!/\WL!/\JmR s.heap.DictAt:=by have#[g,z,lo,vs,rel,o',ri,vQ,g',c',q',k',p',n']:=nx! VE! hg;rw[g] at g';cases g';rw[hd] at q';injection q' with q1 q2;subst q1;subst q2;show#[vs,rel,lo,o,es,g,c',hd,k',p',n']
open E
abbrev yP(d:Addr)(kvs:Bb!)(o:Obj):It :=
 JjQ VE! (∃k,kvs[i]?=D! (k,x)) VE!
def Jl9{P:Program}{w:World}{K:W.Frag}{tg:Expr}(d it:Addr)(kvs:Bb!)(o:Obj)(es:EB!)(ep:Nat)(hd:P6!):JN1 yP (h.IsValIter it d i YS! ep) where
 mem:=ci
 obj:=JK! (by
  show At?
  subst e
  have#[oi,e,c,q]:=st
  show Lh?)
 keep:=JnI
 item:=by
  show CL?
  show Y?
  show j?
  show OM?
  show KR?
  show N0?
  have hy:vs[i]?=D! (vs[i]' v!):=QCk jE!
  have#[ek,rv]:=A6 rel i _ _ hx hy
  show ON?
  show wpAny_pyNext_values_item SS da (k:=(vs[i]' JOR).1) (v:=(vs[i]' JOR).2) hy λh' pG sb=>?_
  show LQ?
  have#[oi,e,c,q]:=id pG
  show L? (vj (s:=CU!) e c q FB #[kvs[i].2,H,I1,rv,#[A!,kvs[i].1,hx],o! hl pG,QAB hf])
 done:=by
  show CL?
  show Y?
  show j?
  show OM?
  show KR?
  show ON?
  show wpAny_pyNext_values_end (I.ok.hd hc) SS da (o! List.getElem?_eq_none_iff (hl▸hi)) JjI
 self:=ca! wpAny_pyIter_valiter
open S
abbrev J69(td:TE):TI:=JMC (M_ λp d kvs=>cw!/\r8! H1/\NA! d KO!/\∀o,R (yP d GE o) JNL)
def Jh8{l:Expr}{td:TE}(hl:Bo! l td):vG! J69 td:=by
 show AO?;show Bn?;rintro v s1 ⟨x,H1,I1,r1,p,d,kvs,ex,hp,hd,hR⟩;subst ex;cases r1;have#[o,g,I2]:=Jot I1 hd;have#[z,lo,vs,rel,o',es,ep,g',c',q',k',p',n']:=IF! (E_ EI! X.w H1 s1.heap d KO!) (I1.EK d _ hd);rw[g] at g';cases g';have hlen:i9!:=U1!;have da:JmR s1.heap.DictAt:=#[o,es,g,c',q',k',p',n'];have hv:s1.heap.IsValuesView p d:=(I1.EK p _ hp).1;show wpAny_pyIter_values hv da ?_;show HY?;show Lc? JNL "dict_valueiterator" (#[ZZZ,Gz!,nm!,PP Lg! 0,PP ep 0]);show Qr? yP (Jl9 d _ GE o es ep q') (by rw[Df!];show#[_,Dy!,A!,A!]);show Bz?
 show LS?
open E
def Jc8{d:Addr}{kvs:Bb!}{ob:Obj}{g:TG}{tb:TS}{D:Ends}{σ:L2.St}{H:Hp}(Pv:sU!)(h0:Qz!)(hf:JaR .dK)(hs:∀i k v σ H,vI!->aA!->oH! v)(hd:JNq) : XR! Pz! (VU! (Rh! (yP d GE ob).stop (yP d GE ob).go Pz! (Mv! (yP d GE ob).SM))):=by
 show QF?;.show Ff? #[fz,IP] JCI;have#[e,k,ek]:=y;subst e;show hs i k x σ _ ek pv
 show NF?
open S
open E
def Jk4(h1:WY!)(h2:LB b c):LB a c:=JFn
def Jk5(h:Rk!)(h1:¬WY!):LB b a:=JsJ
def Rx(key:CA!)(x:α):JrU
 | [],_,_=>JQk
 | y::s,h,ne=>JxJ
def sorts(key:CA!):Jlm
 | [],_=>JQj
 | x::l,nd=>JwF
def S_{a b c:Str}{k:NameKind}{cl:Bc!}{y:Str}(hc:fK!)(h:JZo):I4! :=gz! (by show CO?;obtain rfl|rfl|rfl:=hp;(.show Rv?);(.show Rv?);.show hc)
def J94{a b c d:Str}{k1 k2:NameKind}{cl:Bc!}{y:Str}(hc:fK!)(hd:JLW)(h:UO! JpA JpA):I4! :=gz! (by show CO?;obtain rfl|rfl|rfl|rfl:=hp;show C2?;show C2?;(.show hc);.show hd)
def Ol{K:W.Frag}{a p:Addr}{xs:C!}{tt:TT}{te:TE}{caps:By!}{σ:L2.St}{H:Hp}{Q:EA!}(Pv:LA!)(h0:LP!)(hl:JQu)(hs:g5!)(hd:RN!) : JjV:=by
 show DM?;show B9?
 show B5?
def J5r:∀{ds:Ir!},(∀d∈ds,d.canLay0=true/\d.depth<=n)->JYY/\JMf<=n
 | [],_=>#[JDU,JDV]
 | d::ds,h=>by show k? (J5r XA!);have#[h3,h4]:=Ft! d;show#[by simp[PyData.canLayAll0,h1,h3],Jhv h4 h2]
@[reducible]abbrev HS:=F!×sK×Q!
inductive tN(K:W.Frag)(H:Hp)(v:V)(r:Ef!):B!
 | mk (a t hd:Addr) (cs:S!) (_:Mz!) (_:bl! JjJ) (_:JIS) (_:JOm hd) (_:JOV)
inductive tO(K:W.Frag)(H:Hp)(v:V)(q:ES!):B!
 | mk (a t:Addr) (_:Mz!) (_:bl! [TP!,g! Rs]) (_:JzI H!)
inductive YK(K:W.Frag)(H:Hp)(x:Addr)(S:HS):B!
 | mk (y1 y2 y3:Addr) (as:S!) (bs ds:C!) (_:Ia! x [FS y1,FS y2,FS y3]) (_:wA! y1) (_:PQ! S.1) (_:Ia! y2 bs) (_:WA! tN bs Pi!) (_:Ia! y3 ds) (_:WA! tO ds S.2.2)
open S
variable {K:W.Frag}{H H':Hp}
def tN.keep(k:Ae!){v:V}{r:Ef!}(h:tN K H v r):Ik! tN r:=by have#[a,t,hd,cs,e,e1,e2,e3,th]:=h;show#[a,t,hd,cs,e,Hi! e1,WV!,Hi! e3,eI! th]
def tO.keep(k:Ae!){v:V}{q:ES!}(h:tO K H v q):Ik! tO q:=by have#[a,t,e,e1,e2]:=h;show#[a,t,e,Hi! e1,WV!]
def YK.keep(k:Ae!){x:Addr}{S:HS}(h:YK K H x S):YK K H' x S:=by have#[y1,y2,y3,as,bs,ds,e,e1,t1,e2,t2,e3,t3]:=h;show#[y1,y2,y3,as,bs,ds,Hi! e,Hi! e1,eI! t1,Hi! e2,uZ! t2,Hi! e3,uZ! t3]
open E
open S
variable {p:Addr}{b:T2->Bool}{ts:List T2}{H:Hp}{tt:TT}{caps:List (Str×Nat)}{σ:L2.St}{Q:Hp->Prop}
def Jo5{K:W.Frag}{l:Addr}{as:S!}(hp:G1!)(hz:dD!)(hl:wA! l)(th:F5!)(ht:xK!)(k:JUz) : Ew! (Eu! (Ep! (YA K l).stop DK! (YA K l).go (YA K l).SM (Kw! (Fv! (hK! x IT!))))):=by
 show RW? Ol;show LJ? ((JS sm).sq hl)
 show Qt?
 show Oi?
open E
inductive Jwz(K:W.Frag)(x:V)(vs:C!)(H:Hp)(Q:VK):B!
 | mk l b xs zs (_:QS!) (_:vs=[Dv!]) (_:Nk!) (_:Ia! b zs) (_:qU!) (_:JTg)
def Jqp{X:E!}:sC X JEs (Jwz Kx):=by
 show AF?;show Ew?;show J?;show BV?;cases ru;show Bw?;have#[UM,r2,#[o2,e2,c2,n2,q2],z2]:=JI! hB;have l1:=r.length;have l2:=r2.length;show MX?
 show O9?
 show DG JEv Q1! JEw ?_ (xz JEx);show Bf? (JIG l Pd! GM);show JC?;show ZR (Ya! (T:=E7!) #[o2,e2,c2] ?_);have ht:Av! (mV! E7! == mV! E7!):=by rfl
 rw[tK! AF ht];show ZR (ji! e2 q2 (ZR (ji! e A! ?_)));rw[AD ox];show ZR (jj! e A! ?_ JcQ (show(JE4).size<=qk! by rw[JWS];show Fh! Aw!));show ZS (Bp! #[AS!,_,JfB,A!,q]);rw[ZE];assumption
abbrev rowsOf(L:D8!):sK:=Oi! Hm!
abbrev Kk(l:Q!)(t:T2):KE:=xt!
abbrev addW(a:Q!)(q:ES!):Q!:=Ck a H! (Kk a H!+Rs)
abbrev Dz(L:D8!):Q!:=(Oi! Ja!).foldl Dr! []
inductive Led(L:D8!):db
 | hand {S:HS} {t:T2} (h:S∈L) (m:t∈S.1):Nn!
 | out {r:Ef!} (h:qq!) (m:Dz!≠Kk (Dz L) AT):Led L AT
 | step {r:Ef!} {u:T2} (h:qq!) (m:u∈DF!) (l:Led L AT):Led L u
structure Found(L:D8!)(ts:F!):B! where
 pw:ts.Pairwise LB
 mem:∀t,t∈ts↔(sM!/\¬Nn!)
def Im(a:T2):¬LB a a:=λh=>by rw[Gc] at h;lia
def Jkg:∀{l m:F!},l.Pairwise LB->m.Pairwise LB->(∀t,Hq!↔t∈m)->l=m
 | [],[],_,_,_=>rfl
 | [],b::m,_,_,h=>JX6 (h b).mpr
 | a::l,[],_,_,h=>JX6 (h a).mp
 | a::l,b::m,h1,h2,h=>by have ik:=SF! h1;have YJ:=SF! h2;(have e:a=b:=by obtain e|ha:=ZM ((h a).mp Dw!);(.show e);.show NE? (ZM ((h b).mpr Dw!)) (Jk4 (ik.1 b hb) (YJ.1 a ha)) (Im a));subst e;congr 1;show Jkg ik.2 YJ.2 λt=>#[λht=>?_,λht=>?_];(.show Ph? (h t).mp (ik.1 a ht));.show Ph? (h t).mpr (YJ.1 a ht)
def Found.one(a:Found L ts)(b:Found L us):ts=us:=Jkg a.pw b.pw λt=>(a.mem t).trans (Fk! b.mem t)
open E Lake.FX
open N Lake.K52
open PySem L2 FX
def Jr9(hd:KC! (Hd l))(ht:HR!)(f:m8! P8!=D! (th,a,hl)):fY! (AC! (Cz! a)):=JS8 hd f
open S
abbrev tX(t t':TE):TE:=YB! (bb!\/FW! t' Q)
def tX.wk{t t':TE}{S:Zc! G!}(go:∀Q':VK,(∀x H',S x H'->Q' Is! H')->tX t t' σ H Q')(fin:∀x H',S x H'->IN!):tX t t' σ H Q:=go Q AH!
def J6u{X:E!}{e:Expr}{t t':TE}(h:el!)(h':Bo! e t'):Bo! e (tX t t'):=λAB s σ H Q I o=>o.elim (h AB s σ H Q I) (h' AB s σ H Q I)
inductive QM(H:Hp)(l:Addr)(a:Addr)(ts:F!):B!
 | d (_:Ce! (C3 ts)) (_:a≠l)
 | t (cs:S!) (_:bl! (cs.map Cz!)) (_:CB H cs ts)
inductive Tt(vs:C!)(H:Hp)(Q:VK)(E:XK):B!
 | mk (sa l:Addr) (as:S!) (ts:F!) (hl:HL) (n:Nat) (R:F!) (_:vs=[FS sa,IR!]) (_:AY! sa Fr!) (_:F5!) (_:dD!) (_:AY! l (Hd hl)) (_:∀q∈hl,q.2.2.length<=900/\QM H l WF BS!) (_:OX (RM hl) n (ts.filter cH!) [] R) (_:n<=6000) (_:∀(x:Addr)(H':Hp),rs!->TD->Tb! (C3 R)->IN!)
def scR:Mn! [Ob!,am,Dh!,CX!,"ahead"] Ob! am K3:={}
def Jca(F:Z! Y6! Y6! K3):JkB f fd:=by
 show E? scR;have#[sa,l,as,ts,hl,n,R,rfl,es,th,zt,el,hq,rch,zn,k]:=h;show A?;show H?;show Bh? scR.nd G9 (JP1 (zK! te G4! i 4 cW! scR.nd (Em (pv 0)) Pf! UZ! Pg! (Gk! (Fj (F2 (Jb6 hu SC EQ)))) U2!) (Jw3 PassesOwn.never (Jng Br! p8!) (IQ! (Zf! 3 scR.nd (Jb5 EI PySem.F.slot_list_pop PySem.F.type_list_pop J4q Br!)) (Cb (F2 (Fl hu AF! FM)) (Ac (Tl! FM AF! K8) (aE! (bX! JfC JfE Jul Br! (J6u (PE.a_ (JtZ Jaq)) (JtZ E4))))) A5))));intro fa zF;have s1:=ei! zF;show GV? fa fa (C3 []);show Jg? fa;have th1:f7! H1:=nI! s1 th;show#[Aj? sa #[_,TS! s1 es] (λaa zK=>?_)];show Wp (b:=cH!) (AJ!:=cW!) zK zt (wP s1 es) th1 (JCW) λH2 bs sm ea tb=>?_;.have#[o,g,eo]:=Jlc (k:=KT!) (f:=am!) (DC! (IY! sm s1 el)) ha;show#[_,A!,_,A!,l,o,A!,g,?_];rw[eo];show L? q
 have naa:Bn! aa:=by cases c:H aa with | none=>rfl | some o=>rw[QA! c] at zK;cases zK
 have nfa:fa≠aa:=λz=>by rw[<-z,e1] at zK;cases zK
 show#[λm σ H'=>a9 λ(ahead:List T2)(found:List T2)(PU:List Addr)(u3:Option V)=>σ=[Dt! sa,K9!,Dt! fa,u3,Dt! aa]/\TD/\L7! fa (C3 Jh!)/\L7! aa (S9! PU.map)/\CB H' PU ahead/\OX (RM hl) m ahead Jh! R/\found.length+m<=6000/\Yz! UA!,#[n,_,[],bs,_,A!,Af s1 sm,NF! sm,ea,tb,rch,by simpa using zn,JCM],?_];rintro m σ H' ⟨ahead,found,PU,u3,rfl,sh,ef,gL,tha,rc,zm,hk⟩;show#[_,A!,_,h! (El! (GP! gL)),?_];cases m with | zero =>have#[e0,eR]:=rc;rw[e0] at tha;have e2:PU=[]:=SB! (HZ! tha);rw[e2];show Cq (Bp! (k fa H' zF sh ?_));rw[eR];show ef | succ m =>have zl1:=rc.len;have#[a,t,ea0,rc]:=rc;rw[ea0] at tha zl1;have#[QP,c,e2,thb,ec]:=Jvu tha;subst e2;(have em:IU! (QP++[c]).map=tW!++[An! c]:=Qq!);rw[em] at gL ⊢;rw[show Av! (!(tW!++[An! c]).isEmpty) by cases QP<;>rfl];show C4 #[_,λGF H' h=>#[m,TN m,h],?_];show#[_,A!,Uc! gL,aa,_,_,A!,A!,gL,J1n _ _,?_];rw[show(tW!++[An! c]).dropLast=QP.map Cz! by simp];(have s3:Ds! yT!:=Bg! (JzT naa (KH! sh)));(have c_:DM H' yT!:=Kb! gL);(have rq:Jh3 fa (C3 Jh!):=jp nfa ef);have ea3:Jh3 aa m6!:=Ab;have vy:CB yT! QP a:=My! c_ thb;have ec3:=P! c_.BI ec;generalize d! H' aa m6!=H3 at s3 c_ rq ea3 vy ec3;show#[_,A!,_,A!,fa,_,A!,Pb rq ec3,_,A!,?_];obtain⟨hf,rc⟩|⟨hf,rc⟩:=rc;(.rw[AF hf];show Cq #[a,Jh!,QP,_,A!,s3,rq,ea3,vy,rc,BU zm,GJ! (hk u JSG)]);.rw[AD hf];show C4 #[_,A!,_,A!,fa,_,A!,aH! t rq ec3 (Ek! Jbh),?_];rw[Ho,show C7 Jh! t=IV! by unfold C7;rw[AD hf]];(have s4:Ds! x5!:=JMT zF);(have SO:DM H3 x5!:=Kb! rq);have xi:JcW fa (C3 (IV!)):=Ab;(have ea4:JcW aa m6!:=jp nfa.symm ea3);have vx:CB x5! QP a:=My! SO vy;have ec4:=P! SO.BI ec3;show AX? (dU! (IV!).map Kd!=C3 (IV!));generalize FY! H3 fa C3 (IV!)=H4 at s4 SO xi ea4 vx ec4;have tin:UA!:=hk t (o! ea0 sZ!);have#[ad,zQ]:=Jlq tin;have mq:=BE zQ;have#[q2,q1]:=hq _ mq;have q2:Ci! FD hl t 900:=q2;have q1:QM H l ad p4!:=q1;show#[_,A!,Uc! ea4,?_];change tX _ _ _ _ _;show tX.wk (S:=λpl H6=>∃gX,BV H4 H6/\z! H6 pl (S9! gX.map)/\JUA) (λQ' fin=>?_) λpl H6 #[gX,s6,ep6,eS]=>?_;(.cases q1 with | d q1 q3 =>show l! #[_,A!,_,A!,l,_,A!,JmP,ad,_,A!,HA! q1,λob pl UT=>?_];show Oj! Wq b JIF AJ! cW! l (FD hl t) wv (λq=>q) val Uk! ob ob UT q2 Ab (JwI (Ps! q3.symm (HA! el))) (λH5 gX sm5 ep5 pF=>?_);have f5:z! H5 ad (.IV ob (C3 p4!)):=Pk! sm5;show Gl? (FY! H5 ad C3 p4!) ad f5;show JD? ad q1;(have npl:pl≠ad:=λz=>by rw[z,Ab] at UT;cases UT);show P! AH! #[gX,In!,jp npl ep5,?_];(.by_cases hb:b=ad;(.show SF? (HA! q1));.rw[Ae hb];show JEE sm5);·(have pF:CB H5 gX (RM hl t):=by rw[MQ] at pF;show pF);show Ax (nO!) pF;rw[Ae (bt! f5)];show e | t cs q1 q3 =>show IN #[_,A!,_,A!,l,_,A!,JmP,ad,A!,#[_,vP! q1],λpl UT=>?_];show Jo5 (K:=K) (ts:=FD hl t) (b:=λu=>KB (u∈GQ! (KT!))) (AJ!:=cW!) UT q2 (vP! q1) (gX! s4 q3) (JwI (wP s4 el)) λH6 gX s6 ep6 (eS:CB H6 gX (RM hl t))=>P! AH! #[gX,s6,ep6,eS]);.have eS:JUA:=eS;have zz:=rc.len;rw[ZE] at zz;show Fv? vx;have l2:=AA! eS;show#[aa,pl,_,_,A!,A!,K5! ea4,ep6,JTd,?_];rw[<-ZF];(have kF:DM H6 (d! H6 aa (S9! (QP++gX).map)):=Kb! (K5! ea4));show#[a++RM hl t,IV!,QP++gX,_,A!,In!,?_,Ab,Jg! kF (Jjj (gX! s6 vx) eS),rc,?_,M3!];(.rw[Ae (Am e naa)];show Ch! s6 s4 e);(.rw[Ae nfa];show K5! xi);(.rw[ZE];change found.length+1+m<=6000;lia);.show BR?;(.show hk u JSG);.have:=US! hu;show AQ?
open E
open S
def J6s{Kx:W.Frag}{X:E!}{tg l:Expr}{tl:TE}(hl:RM!):PI X tg l JmM:=λAB s σ H R I h=>Ld! (JvK Em) (JvK E4)
def J5b{Kx:W.Frag}{tl:TE}{a:Addr}{xs:C!}{g:TG}{tb:TS}{D:Ends}{σ:L2.St}{H:Hp}(hv:∀R:VK,R Bs! H->FW! tl R)(Pv:sU!)(h0:Qz!)(hl:(fS! wp!)\/(fS! vf!))(hs:hj!)(hd:vl!):J59 JmM g tb D σ H:=by
 obtain hl|hl:=hl;show w? (JvY Su)
 show AK? (JvY Mb)
inductive Jpw(vs:C!)(H:Hp)(Q:VK)(E:XK):B!
 | mk (p ta:Addr) (G:CU) (as:S!) (ts:F!) (_:JSa) (_:Op) (_:x0!) (_:AY! ta Fr!\/AY! ta a6!) (_:F5!) (_:UD! Bq!)
def JAy:JFE [Bm!,EQ!,CX!] yN:={}
def Jse(F:Z! "lose" "House.lose" yN)(T:Txt):IL! PT! Jpw:=by
 show E? JAy;have#[p,ta,G,as,ts,rfl,S,ke,et,th,k]:=h;show A?;show H?;have lt:=od!;show Z? (Ag (JeJ (J6s (pv 1)) (sx! JAy.nd) (Ag (Cb (JaJ FM) (Ac (Cg (QET FM)) (JHu FM)) A5))));show J5b (a:=ta) (xs:=oy!) (λR r=>Bp! r) (JRf (JR7 (Dt! ta)/\ID! H2 (Ay G (Jf! i))/\aX! H2)) #[_,A!,O7! QF Jra S,λb o e _ _=>e] (et.imp (JCX (GP! (fr _ _ et (S.XO et).1 (S.XO et).2))) (JCX (FF! (fr _ _ et (S.tup_ne et).1 (S.tup_ne et).2)))) ?_ ?_;.rintro i x σ H2 hx ⟨u2,rfl,S2,RF⟩;show Ak?;cases ea:as[i]? with | none=>show Bq? ea | some a =>rw[ea] at hx;have hx:MQ!=x:=ZO hx;subst hx;have#[t,ht]:=mL! ts (by have:=DH! ea;show lt▸this);have ha:=A6 th i a t ea ht;have rV:=JkI RF;show A1?;have#[o,g,eo]:=Jlc (k:=IJ!) (f:=G6!) (DC! S2.dO) rV;have f1:=JSF ii ht;have f2:=Nx (KT!) AK! ht;show#[CZ?,p,C,MJ,_,_,A!,JJ,w!,Dq!,E5 _,v6,o,A!,g,_,A!,?_];rw[eo];(have ks:Fs! (Ay G (Jf! i)).holds.map JCY:=by show Gy? JXc JXc;rw[JdF JCJ,F6 (IJ!) ii (TL! JCJ),ke]);by_cases h:J9! JCY;(.rw[AM h];have#[v1,hv1]:=JrT qu! G6! h;have#[v2,hv2]:=JrT qe! am! (o! ks h);show C4 #[ME? MJ JJ Dq! (E5 _) v6 S2.dO S2.dO rV hv1];rw[Oa (k:=IJ!) (f:=G6!)];have S3:=S2.OI (Pq! Uw!);(have WO:aX! JNV:=ZF! (jp JVi (mQ! RF)));have ha3:=JkI WO;show AX? (dU! (Pq! Uw!).map F4!=Et (Pq! Uw!));have S3:ID! JNV JWT:=S3;generalize d! H2 v6 (Et (Pq! Uw!))=H3 at S3 WO ha3;show BY?;show#[ME? UW UE CZ! (Gg _) Ab! S3.dl S3.dl ha3 hv2];have e3:x6! (JWT:CU).holds.map Uq! t dI! Uw! Uq! :=Oa (k:=KT!) (f:=am!) _ t;rw[e3];have S4:=S3.pB (hl:=TW! dI! (H!≠t)) IZ;(have eG:Ay G (Jf! xL)={ QFV with AK:=QC1 Pq!,holds:=QC1 dI! }:=by unfold Ay;rw[f1,f2]);show#[_,A!,U! eG S4,ZF! ?_];rw[Ae λz=>h2 (by rw[z];change G.l∈Cg!;simp[CC])];show mQ! WO);.rw[AN h];have no1:∀q∈qu!,H!≠t:=JWK;have no2:∀q∈qe!,H!≠t:=λq hq z=>TG! h ks (PN! (KF! z));(have eG:Ay G (Jf! xL)=QFV:=by (have a1:zS! Pq! qu!:=JcF no1);(have a2:zS! dI! qe!:=JcF no2);unfold Ay at a1 a2 ⊢;rw[f1,f2,a1,a2]);show Cq #[_,A!,U! eG S2,RF]
 .rintro σ H2 ⟨u2,rfl,S2,RF⟩;rw[ZA,lt,BS] at S2;show k H2 S2 RF
open E
open S
abbrev Cr(G:CU)(rs:Q!):Q!:=TW! JZ2 U8!
inductive Jp0(vs:C!)(H:Hp)(Q:VK)(E:XK):B!
 | mk (p:Addr) (G:CU) (n:Nat) (rs:Q!) (_:HO!) (_:Op) (_:sw) (_:Vi!) (_:XD!) (_:XT!) (_:DY!) (_:F6!) (_:∀(x:Addr)(as:S!)(H':Hp),rs!->Tb! Fr!->LO H' as (Cr G rs)->QG! (IC G)->o4!->IN!)
def gr:UM! [Bm!,Sh!,"holder",CX!,"unheld",GV!] yM:={}
abbrev J55:TE:=Jzv (Dr (Cz 0) (Dr JPA Ht))
abbrev J52:TT:=JkG JPA
def Jsf(F:JFR "House.give_back" yM)(T:Txt)(Tx:J2h):Q4! Jp0:=by
 show E? gr;have#[p,G,n,rs,rfl,S,ok,zn,rL,rK,pm,pw,k]:=h;show A?;show H?;show B?;show Ah? (JXp 1 Si! (lR! (Jrh (qj hr)) Tx.dict PyProof.Rows.boot_dict Aa!)) (Ac (QAN xd! 2 Si! (aE! (Hb DY JUr PySem.F.type_dict_update (J1e hu) EQ (DA! t5!)))) (T_.a_ (Ac (Lx (te:=G4!) (i:=4) (AJ!:=[(Sh!,1)]) Si! A! A! A! A! JPg A! ZV A! ZV A! Pf! UZ! Pg! ZV vq! U2!) (QCz (zJ! te J55 J52 i 5 LM! Si! vb! JkE (Gk! (Ce (Tn! ph!)))) (QAN vb! 3 Si! (JHu AF!)) 5))));show CR?;have z2:=ok.P';have z3:=ok.rz;show#[_,A!,p,C,dx,_,_,A!,hp,w!,Jl!,Hm G,G.h,_,A!,Jm!,Jc3 SX! rL,λhd xU=>?_];have e0:rj! (JXQ [] ZE!) ZE!:=by have:=Nt Bk! [];show I? (P! Jfu (by simpa using ok.hn));show AQ?
 rw[e0];have s1:=Ah (o:=C3 Bk!) xU;show FU? hd tQ! hd tQ!;show AX? (dU! ZE! Kd!=C3 Bk!);show FD? (FY! H hd C3 Bk!);show r?;show W?;have xE:d4!:=xh!
 have rG:∀{b:Addr} {o:HO},Ee!->b≠hd:=qN! xU;have npl:p≠G.l:=JmW Ab!;show F5? HX JA CZ! (Gg G) Ab! S1.dl (λob=>?_);show Jyo (d:=Ab!) (ob:=ob) (JRf (JW5 [CM!,dr!,u2,none,none,none] (MT! hd (C3 (Ee Bk! (kf! i)))) (d! H1 Ab! (.IV ob (Hd AK!))) (b≠hd) H2)) (JLB (FZ! (Ae JYi) e1)) (kg! (let#[_,_,_,fr]:=h;Uv! Ab (rG S.dl))) ?_ ?_;.rintro i a kk v σ H2 hx ha ⟨u2,rfl,eh,fr⟩;show Ak?;cases eq:G.holds[i]? with | none=>show Bq? eq | some q =>rw[eq] at hx;have hx:(O6!,An! WF)=(kk,v):=ZO hx;have mq:=ZP eq;have e2:kk=O6!:=qc! hx;rw[e2,Jvt] at ha;have hpp:bL! (JN! C HX (Df G)):=Uv! (Ps! npl JA) (rG hp);show PF?;(have hqq:MT! WF (C3 BS!):=by have h0:=S.hl q mq;show Uv! ?_ (rG h0);rw[Ae (S.fN.2.2.2 q mq).2.2.1];show S1.hl q mq);(have gv:De (ON! Uq!) (tk H!)=D! (Cz! WF):=FZ! QE1 (FX.JD (k:=KT!) xE mq));have l0:=Ls! q mq;(have l1:(Ee Bk! (kf! i)).length<=62+62*62:=by have h1:=Xq (B:=62) (qs:=kf! i) (hand:=Bk!) (FG! (T4! (Ls! r (Jgi hr)).2 (AA this zn)));(have h2:JOJ<=G.holds.length:=U! CO (NZ _ _));have h3:JOJ*62<=62*62:=EL _ (AA (AA h2 z2) zn);lia);show#[_,A!,x! (lZ! (Ao! (T0! eh))),_,A!,p,C,HX,_,_,A!,hpp,w!,CZ!,Gg G,_,A!,Ab!,_,A!,x! #[_,O6!,a,Cj! ob WC,A!,ha,gv.symm],hd,WF,_,_,A!,A!,eh,h! hqq,(rG (S.hl q mq)).symm,?_,λ_=>Jc3 l0.1 (rK q mq),?_];(.rw[ZA,ZA];show A_ (Jbh v!));.rw[Nt,<-Jlo Bk! eq];show Ia? Ab (IG! fr hb)
 .rintro σ H2 ⟨u2,rfl,eh,fr⟩;rw[ZA,BS] at eh;show PF?;show Gl? JkA Ab! WC;show JD? Ab! S.dl;(have s3:Ds! (MG! Ab! (Hd AK!)):=Bg! (by by_cases hb:b=G.l;(.show SF? S.dl);.rw[Ae hb];show Uv! (o! Es! (KH! s1)) (rG e)));(have e3:tF! Ab! (Hd AK!) hd (C3 (Ee Bk! AK!)):=jp JYi eh);generalize JkA=H3 at s3 e3;show Gr?;show BY?;show EK? UW UE Hy! (Ei G) BN! (ww Lk!) Jye S3.dr (L4! AE (AA z3 zn)) ?_ pw (λsl xo uD tsl=>#[sl,A!,tn!,λul hul=>?_]);(·(have e4:JVX G.AL.map n3!:=Mo!);rw[e4];show SN! _);have s4:=VH! xo.map uD;have i5:oq! sl dx! sl dx!:=Ab;have t4:CB (d! H3 sl dx!) xo (Lk! EG!):=uw! tsl;generalize d! H3 sl dx!=H4 at s4 i5 t4 hul;(have lrs:rs.length<=62:=by show FE?;show this▸(AA z3 zn));show Wp (b:=vO!) (AJ!:=[(Sh!,1)]) hul (PE! (Fh! lrs)) i5 t4 (λH5 a t Q' sm ha ht q=>?_) λH5 bs sm eu tu=>?_;(.show Li? hd (IY! sm s4 e3);(have e5:JHq gv! (! DL G t):=by rw[<-Juz];show C? gv!;(.rw[BZ!,AM c];rfl);.rw[AD c,AN c];rfl);rw[e5];show L? q);have eU:(Lk! (·.1)).filter (vO!)=MO! Sg! QJ!:=(F6 y9! rs vO!).symm;rw[eU] at tu;have s5:Ds! H5:=uG! s3 sm;have vt:∀q∈Sg! (QJ!),q∈rs:=A8! mq!;(have usz:Fn! Sg! QJ! 62:=T4! (BC (QJ!) rs) (AA this lrs));have hbk:Cr G rs=JZ2 (EZ! U8!):=rfl;(have und:JFx Sg! QJ!:=by have h1:og!:=QCR SN! Oa!;show se! h1.sublist);generalize hus:(Sg! QJ!)=us at tu vt usz hbk und;have S5:=Jp! s5;have yu:=AA! tu;rw[ZA] at yu;have val:∀q∈us,Jo! (QAI H!)=D! q:=A8! (FX.JD (k:=IJ!) Oa! (pm.subset (vt q hq)));show BK? ul eu (λbl xX=>?_);show Fo (K:=K) (a:=ul) (p:=bl) (xs:=IU! E4!) (tt:=J52) (te:=J55) (AJ!:=LM!) (λi ys H6=>∃cs:S!,ys=IU! cs.map/\rY! H6 bl/\BV H5 H6/\LO H6 cs ((us.take i).filter JEf)) #[[],A!,Ab,Ah xX,a!] (λi ys H6 _ h=>let#[_,_,e,sm,_]:=h;oR! sm eu e) ?_ ?_;(.rintro i x ys H6 N hx ⟨cs,ey,e6,s6,ba⟩ hN;show Ak?;cases eb:bs[i]? with | none=>show Bq? eb | some b =>rw[eb] at hx;have hx:ag!=x:=ZO hx;subst hx;show OH?;have hb:=A6 tu i b H! eb JL9;have hb6:=K5! hb;show Gs?;show FC?;have gv:GW H6 BN! Pd! (mm! Rs):=Sr S6.dr hb6 (val q (ZP hq));have ft:=Jlr (b:=λq:T2×Int=>KB U8!) hq;show#[_,A!,p,C,YZ,_,_,A!,Ai? iX w! Hy! (Ei G) _ A! BN! _ A! gv _ A!];show C? U8!;(.rw[AM c] at ft ⊢;show C4 #[_,A!,_,A!,p,NJ? C YZ iX w! Hy! (Ei G) BN! gv (λx1 aE=>?_)];have s7:=G2! ag! TE! aE;have x7:PH! H6 x1 JZA x1 JZA:=Ab;have e7:=P! s7 e6;generalize d2! H6 x1 [ag!,TE!]=H7 at s7 x7 e7;show K3? (sN! H7 bl (An! x1)) e7;(have lcs:cs.length<=us.length:=U! (AA! ba) (Wh _ us i));show#[e7,eD! ey (Jbh (AA (AA lcs usz) FB)),Em! #[cs++[x1],bk! ey,Ab,λd o e=>?_,?_]];(.show GY? xX s7 s6);.rw[ft,BY!];show Lz (LO.keep YG (LO.keep (JS s7) ba)) #[b,P! YG.BI x7,Ch! YG.BI s7 hb6]);.rw[AN c] at ft ⊢;show Cq (wP hN #[cs,ey,e6,s6,?_]);rw[ft,bM!,AO];show ba);.rintro ys H6 ⟨cs,ey,e6,s6,ba⟩;rw[ZA,yu,BS,<-hbk] at ba;rw[ey] at e6;show Gs?;have eu6:=K5! eu;have tu6:VJ! H6 Ok! EG!:=JL5 tu;(have JJB:bl≠G.r:=λz=>by rw[z,S5.dr] at xX;cases xX);(have JJf:Bn! bl:=by cases c:H bl with | none=>rfl | some o=>rw[P! s5 c] at xX;cases xX);show BK? ul eu6 ?_;have JR2:∀j,JM7 (QFK JJ7:CU).AL (H!∉JJ7):=LY!;show Fc? Su ul (IU! E4!) (λi σ H7=>∃u3:Uy!,JW5 [CM!,dr!,u2,u3,Dt! ul,Dt! bl] (ID! H7 JRL) H6 (b≠G.r) H7) (JLB ?_) (λi σ H7 _ h=>let#[_,_,_,fr]:=h;GP! (Uv! eu6 (λz=>by rw[z,S6.dr] at eu6;cases eu6)));(·(have e8:mI! Ji! (H!∉(Ok! (·.1)).take 0)=G.AL:=vt!);rw[e8];show S6);(.rintro i x σ H7 hx ⟨u3,rfl,S7,U'⟩;show Ak?;cases eb:bs[i]? with | none=>show Bq? eb | some b =>rw[eb] at hx;have hx:ag!=x:=ZO hx;subst hx;show OH?;(have hqm:(Ok! (·.1))[i]?=D! H!:=l7! hq);have hb:=A6 tu6 i b H! eb hqm;(have hb7:=KM U' hb (λz=>by rw[z,S6.dr] at hb;cases hb));have#[uM,y_]:=S7.ob;(have qin:H!∈MO! Ji! (λr=>KB (AT∉QC5)):=by show B2! #[q,Nx! #[pm.subset (vt q (ZP hq)),?_],A!];have:H!∉QC5:=λz=>Xj und hqm z;show AQ?);have#[v,hv]:=Tq (l:=Ji! λ(r:T2×Int)=>KB (AT∉(Ok! λ(z:T2×Int)=>z.1).take i)) (k:=λ(q:T2×Int)=>H!) (f:=λ(q:T2×Int)=>TE!) (t:=H!) qin;show#[_,A!,p,C,uM,_,_,A!,y_,Fe? w! Hy! (Ei _) BN! S7.dr O6! b S7.dr hb7 hv];(have e9:x6! ((JRL:CU).AL).map F4! H! Ji! JTD F4!:=U! (JSF Ai! hqm) (Oa (k:=IJ!) (f:=G6!) _ _));rw[e9];have S8:=S7.XR (Ji! JTD);show Ia? S8 (KM U' e hb));.rintro σ H7 ⟨u3,rfl,S7,U'⟩;rw[ZA,yu,<-ZA (f:=IJ!),BS] at S7;have kF:DM H6 H7:=#[λb xs e=>Jew,λb o v e=>Jew];show L? (k bl cs H7 JJf (U' _ _ e6 JJB) (LO.keep kF ba) ?_ (ZF! (KM U' (IY! s6 s5 e) JVi)));(have eK:IC G=QFK (ww Ok!):=by unfold IC;(have:JM7 (Ji! zV!) JIW:=FZ (A8! (by show C? (T! (DL G H!));(·(have nm:JIW:=λz=>by have#[r,hr,er]:=ZN z;rw[<-hus] at hr;have:=US! hr;show n? er c;cases this);rw[c,AM nm]);·show Gd? (A0! (DL G H!));(have im:Um! H! Ok!:=JSL hus (QM! (pm.symm.subset hq) (Ed! c)));rw[c];simp only[im,not_true_eq_false,decide_false])));show K?);rw[eK];show S7
open E
open S
inductive Jjy(vs:C!)(H:Hp)(Q:VK)(E:XK):B!
 | mk (p:Addr) (G:CU) (n m:Nat) (rs:Q!) (R:F!) (_:HO!) (_:Op) (_:sw) (_:Vi!) (_:XD!) (_:XT!) (_:DY!) (_:F6!) (_:JMY) (_:m<=5000) (_:ti!) (_:JqP QFr DE!)
def v9:UM! [Bm!,"lent","kept"] Jbu:={}
abbrev J8i:TT:=JkG (p1! Di!)
def Jxv(F:JFP JW1 Jbu)(T:Txt)(Tx:J2h)(MR:JgJ)(ML:JeB)(MG:Jd5) : t7! Jjy:=by
 have GR:JkB fR dR:=Jca MR.fn;show Pu?;show PG?;show E? v9;have#[p,G,n,m,rs,R,rfl,S,ok,zn,rL,rK,pm,pw,rc,zm,kC,k]:=h;show A?;show H?;show B?;show Ah? (QFn te G4! tt J8i i 1 LM! v9.nd xd! Pf! UZ! Pg! JkE U2!) (T_.a_ (Ac (JXp 2 v9.nd (TI! GR hr MR.mg MR.fn.kp MR.bd (FT! (Co Jqh (JYX Jfs Tx.list Aa!) EQ) Aa!))) (bO! (Cg (JkC (DA! (PE.a_ (lb! G4! (dd! 2) xd! Pf! UZ! Pg! vq! (pv 0)))))) MW! JwV)));have z0:=ok.oz;show CR?;have z2:=ok.P';have yj:p≠G.o:=JmW v6;show F5? dx hp Dq! (E5 G) v6 S.dO (λob ll WC=>?_);show Oj! Wq b s0! AJ! LM! l ii wv (λq=>H!) val G6! ob ob WC JaZ Ab (JCW) (λH2 bs sm el tl=>?_);.have JJ:bL! JGz:=P! sm (Ps! yj hp);(have gv:De (OV! F4!) (tk t)=D! (A2! (Aj ii t)):=FZ! gp! (Sw ht));show#[Ge?,JJ,w!,Dq!,E5 G,_,A!,v6,_,A!,JUq (Cj! ob (Pk! sm)) gv.symm,_,_,A!,A!,_,A!,q]
 have zC:MT! v6 (.IV ob (Et ii)):=Pk! sm;show Gl? Jjm v6 zC;show Oa?
 have nll:ll≠G.o:=λz=>by rw[z,Ab] at WC;cases WC
 have s3:Ds! JNU:=JUg S.dO (P! sm (o! Es! e))
 have aw:tF! v6 (Et ii) ll QCx:=jp nll el
 have tl3:VJ! JNU Pq G:=Jdu tl zC
 generalize Jjm=H3 at s3 aw tl3;show Gr?;show BY?;show F5? UW UE Jl! (Hm G) G.h (h! S3.dh) (λl1 MM rR ky1=>?_);have t1:CB H3 MM Bk!:=Jsl (val:=Uk!) ky1;have s4:=VH! MM.map rR;have e4:oq! l1 bN! l1 bN!:=Ab;have t4:CB JYt MM Bk!:=uw! t1;have i5:=HA! aw;have tl4:VJ! JYt Pq G:=uw! tl3;generalize d! H3 l1 bN!=H4 at s4 e4 t4 i5 tl4;have n1:=AA! t4;have n2:=AA! tl4;have n3:tS! Pq 62:=by have:tS! Pq (OV! (·.1)).length:=BC _ _;show Ck?;show AA (AA this z0) zn
 show#[_,A!,l1,ll,_,_,A!,A!,e4,i5,JTd,λcl hcl=>?_];rw[<-ZF];have s5:=VH! (MM++bs).map hcl;have e5:PH! H4 cl e2! cl e2!:=Ab;have t5:CB (d! H4 cl e2!) (MM++bs) (xZ!):=nI! s5 (Jjj t4 tl4);generalize d! H4 cl e2!=H5 at s5 e5 t5;have S5:=S3.same (Af s4 s5);have#[kf,ie]:=S5.ob;show#[o?,C,kf,_,_,A!,ie,w!,CZ!,Gg G,cl,Ab!,MM++bs,xZ!,AK!,m,R,A!,e5,t5,JD0 ZE (MT (AA z1 zn) n3),S5.dl,A8! #[T4! (Ls! q hq).2 (Fh! (AA this zn)),.d (S5.hl q hq) (S.fN.2.2.2 q hq).2.2.1],rc,Fh! zm,λkp H6 hkp s6 ek=>?_];show Gs?;show FC?;show#[_,A!,p,YZ,_,A!,iX,DJ!,_,A!,p,C,YZ,_,_,A!,iX,w!,Dq!,E5 G,v6,_,A!,S6.dO,λob2 gl hgl=>?_];have nkp:kp≠G.o:=λz=>by rw[z,S5.dO] at hkp;cases hkp
 show Oj! Wq b n5! AJ! (dd! 2) l ii wv (λq=>H!) val G6! ob ob2 hgl JaZ Ab (λH7 a t Q' ur ha ht q=>?_) (λH7 gs ur eg tg=>?_);.show Li? kp (ur kp (C3 R) (Ps! nkp ek));(have e8:JHq C7! (KB (t∉R)):=by show C? C7!;(.rw[AF c];simp[c]);.rw[AD c];simp[c]);rw[e8];show L? q
 have ho7:z! H7 v6 (.IV ob2 (Et ii)):=Pk! ur;show#[JlO,#[v6,ob2,_,ho7,λo v z=>?_,A!],?_];show Oa?
 have ngl:gl≠G.o:=λz=>by rw[z,Ab] at hgl;cases hgl
 have s8:BV H6 JdX:=JUg S6.dO (JEE ur)
 have eg8:eZ! v6 (Et ii) gl (S9! gs.map):=jp ngl eg
 have tg8:CB JdX gs (e9! n5!):=Jdu tg ho7
 generalize JlO=H8 at s8 eg8 tg8;have S8:=S6.same s8;show#[p,gl,G,gs,_,A!,S8,Ht!,h! eg8,tg8,JCZ];rw[Jlu Ht!] at S9;have#[gN,rQ]:=S9.ob;show Og?;rw[Ct];have lI:=S9.fld gN (keepR G R).AY ((keepR G R).BG+1);show Ki? (a8 p G H8 Jd0)
 have lI:ID! Jd0 (KQ DE!):=lI;show Kj? (av! gN { o7! with BG:=(keepR G R).BG+1 });have#[wQ,wH]:=lI.ob;have s08:Ds! H8:=uG! s3 (G7! s5 s6 s8);show RX? DE!;show Kk? (br _ _ (K6! s08) h1 h2);show JvT (K6! s08) (λz=>h2 (List.Sublist.subset (Jc9 (G:={ G with AK:=(keepR G R).AK }) IZ) z))
open E
open E Lake.K52
open N Lake.FX
open PySem PySem.Spec PyProof.Rows L2
inductive NP(H:Hp)(t:Addr)(n:Int)(kind:Str)(s g:Int)(tb:T2)(x:Int):B!
 | mk a b (_:cI! (QEH BA! BQ!)) (_:QCw Dv! x) (_:BW!)
def NP.keep(h:JUu)(k:Ae!):NP H' t n BA! s g tb x:=let#[a,b,e1,e2,e3]:=h;#[a,b,su!,WV!,TK! e3]
open E Lake.FX
open N Lake.K52
open PySem L2 FX
abbrev Qam(G:CU)(tb:T2)(wt:Int)(G':CU):B!:=(Up!/\tX! (G'=QCd TV! JIQ))\/(HD!/\G'=Jg4)
abbrev Wt(kind:Str)(G:CU)(tb:T2)(wt:Int)(G':CU):B!:=(dJ!/\Qam G tb wt G')\/(q0!/\G'=JOC)\/(H0! GV!/\G'=JPc)
def Wt.CC(h:vk!):Xe! G':=by obtain⟨_,⟨_,o,_,rfl⟩|⟨_,rfl⟩⟩|⟨_,rfl⟩|⟨_,rfl⟩:=h<;>rfl
open S
abbrev Sz(G:CU):B!:=Vt!/\M6!/\M4!
inductive Ks(vs:C!)(H:Hp)(Q:VK)(E:XK):B!
 | mk (p t:Addr) (W:EF) (n s g:Int) (kind:Str) (tb:T2) (wt:Int) (q:Addr) (G G':CU) (_:HP!) (_:wn) (_:NP H t n BA! s g tb wt) (_:n4!) (_:vk!) (_:Sz G) (_:∀H',Td! (kB! JLo)->KX!->KQ!)
def NV:JcS "kind" SQ! CX! GR! Nh:={}
def Jqi(F:Z! JXO JXP Nh)(T:Txt)(TW:He)(M1:l5! "came" "House.came" Jm2 f1 d1)(G1:gi! lO! Jp1)(M2:l5! "added" JWv Jbv f2 d2)(G2:pd! lO! Jjz)(M3:l5! "given" JWx Jbt f3 d3):vN! Ks:=by
 have G3:Gj! f3 d3 lO! Jr0:=Jxt M3.fn T;show pt! NV;.have#[p,t,W,n,s,g,kind,tb,wt,q,G,G',rfl,_]:=h;rfl
 .have#[p,t,W,n,s,g,kind,tb,wt,q,G,G',rfl,S,#[a,b,e1,e2,e3],i,cm,#[z1,z2,z3],k]:=h;show P?;show B?;show L6? NV.nd NV.nd (pF! DG!) NV.nd NV.nd b9! (JRH (QD5 AF! Dp! G1 CY! u5!) (JRH (QD5 AF! Jn! G2 GU! u5!) (aE! (S6! AF! w! M3.mt G3 HJ M3.bd A9 u5!))));show KB?;show#[Gf?,_,A!,hp,wE,Hz!,Ey W,_,A!,Ai? t _ _ _ A! A! ah! A! C5! _ V9! i.WZ];show D6?;show D6?;show A5?;(have dn:Done q G H G' λH'=>KQ!:=λH' S' fr=>by have#[x1,x2]:=S.step be S' fr (SZ (l! (by rw[cm.CC] at hb;show hb)));show k H' x1 x2);obtain⟨rfl,cm⟩|⟨rfl,rfl⟩|⟨rfl,rfl⟩:=cm;(.show yC #[v? q,HX,_,A!,hq,DJ!,_,A!,_,A!,q,b,G,tb,wt,A!,i.at S,e3,z1,z2,z3,?_];obtain⟨h1,o,h2,rfl⟩|⟨h1,rfl⟩:=cm;(.show F? #[h1,o,h2,dn]);.show G? #[h1,dn]);(.show fF (yC (JvN z3)));.show fF (fF (JvN z2))
abbrev Gp(G:CU)(tb:T2)(sh:Int)(H_:Bool):CU:=QCd cj! hT!
abbrev sJ(p:Addr)(W:EF)(H:Hp)(x:Addr):B!:=E6! (Ee!->HC!->b≠x)
inductive Rt(vs:C!)(H:Hp)(Q:VK)(E:XK):B!
 | mk (p t:Addr) (W:EF) (n s OZ goal:Int) (tb:T2) (q:Addr) (G:CU) (_:HP!) (_:wn) (_:NP H t n H1! s OZ tb goal) (_:MO W OZ q G) (_:Sz G) (_:Fz!) (_:HK!) (_:((goal=OZ/\∀(x t1:Addr)(H':Hp),nh! (hZ! AC) CG! m4!->NP H' t1 T2! ZG! OZ s tb ET!->KX!->kh!->nH!->JSk->IN!)\/(goal≠OZ/\∀(x t1 t2:Addr)(H':Hp),QEn (hZ! IR) Pt! (m4!++JXU) t1 BM! OZ goal ET! (NP H' t2 (CG!+1) ZG! OZ s tb ET!) (KX!->kh!->nH!->Tb! (XV [En! CG!,En! Pt!])->IN!))))
def RX:JcS "home" CX! "goal" "went" Jbm:={}
def Jxn(F:Z! "pass_came" JXR Jbm)(T:Txt)(TW:He)(TP:Tj)(M1:B4! C "passed" JW0 Ry VM! f1 d1)(M3:Rd!) : Ma! IA! Rt:=by
 show L9? VM! Jml Juc RX;.have#[p,t,W,n,s,OZ,goal,tb,q,G,rfl,_]:=h;rfl
 .have#[p,t,W,n,s,OZ,goal,tb,q,G,rfl,S,#[a,b,e1,e2,e3],i,#[z1,z2,z3],ho,zl,k]:=h;show B?;show FW? RX.nd (ar! 3 RX.nd b9! 4 RX.nd b9! (P1! (Cg (JUj (JF8 Aa! (JNs FM)))) (Zf! 5 RX.nd Ms!) (JYL Br! FM Gy! (JvD Br!)) (Cg (bX! IT IS Gs Gy! (JvD DG!))) (bR! 5)));show KB?;show D6?;show D6?;show A5?;show#[o?,CW,dx,_,_,A!,hp,wE,Hz!,Ey W,_,A!,C5!,_,_,_,A!,A!,V9!,i.WZ,q,HX,_,A!,hq,DJ!,_,A!,_,A!,p,CW,dx,_,_,A!,hp,wE,TW.nS,M9 W,_,A!,_,A!,A!,q,b,G,tb,ET!,v8!,A!,i.at S,e3,z2,z1,ho,T3!];show DI?;show Au?;show#[Ax!,Ie!];have s2:=aj! hx;have ex:CF! (d! H1 x (XV [])) Zo!:=Ab;show DT?;have xN:=CK! SQ.trans s2;(have uj:kh!:=λz=>by rw[z] at hx;rw[W1.hs] at hx;cases hx);(have xnw:nH!:=λb o e hb z=>by rw[<-z,IG! JI hb] at hx;cases hx);have xj:=NF! xN.BI;have rq:=P! xN.BI e3;show A2?;show FF?;have wm:x∉Cy p (kB! (hZ! (Rj! (XH! goal OZ)))):=W2.XN ex uj;show G7? A! _ A!;obtain⟨rfl,k⟩|⟨ne,k⟩:=k;(.rw[show DD! (! JOj) by simp];show e?;show#[RC? JLQ MJ JJ UW QO xj,Nv?];show Kg?;show DU?;show Np?;show ED?;show DO?;show Mn?;show MJ?;show Lq?;show L? (k x t1 _ ?_ JqS zC! uj xnw Ab);show Os? W4.keep iK! (bF! (T! JOj));·(show Eg?);rw[Ae zI];show JjW);.rw[show Av! (! v8!) by simp[ne]];show f?;show#[_,A!,JLQ,_,A!,p,CW,MJ,_,_,A!,JJ,wE,Sj!,Fh _,CE!,UW,_,A!,QO,MX!,_,A!,_,Nv?];show Kg?;show DU?;show Np?;show ED?;show DO?;show Mn?;show MJ?;show Lq?;have l1:NP pv! t1 T2! BM! OZ goal tb ET!:=JqS;(have W5:=W4.keep (H':=iK!) λb' o' LK e'=>U! (PW! (li! wm LK)) e');have ex5:JE2 pv!:=Ab;have JBX:=QDs xj;have JBW:=QDs rq;(have wf5:∀b' o',AY! b' o'->b'∉Gv!->z! pv! b' o':=λb' o' e' LK=>by (show Eg?);rw[Ae zI];show JjW);generalize iK!=H5 at l1 W5 ex5 JBX JBW wf5;have#[kf,ie]:=W5.ob;have#[YZ,hq5]:=W5.po.ob;show#[RC? (Uc! ex5) kf ie YZ hq5 JBX,SE? A! _ A! CW kf ie wE TW.nS (M9 _) (λa6 ha6=>?_)];have s6:=QDx ha6;have W6:=W5.same s6;show FQ? CG! m4! W6.po (by rw[ZE];change _+1<=2700;show AE zl FB) (λt2 H7 ht7 et7 S7 U'=>?_);have#[W7,wu]:=W6.MB S7 U';have kF:=Ol! W6 wu;have ex7:JE2 H7:=KM wu (wP s6 ex5) wm;show#[x,_,_,A!,A!,ex7,D3 (by change 1<=20000;decide),?_];(have kr:DM H7 (a4! H7 x oM! JGr):=Kb! ex7);show L? (k x t1 t2 _ ?_ (l1.keep (((JS s6).trans kF).trans kr)) #[a6,b,P! kr.BI et7,JYD Ab,JYD (wP s6 JBW)] zC! uj xnw Ab);show Os? W7.keep (G0! H7 x (oM!++[JGr])) (show A0! v8! by simp[ne]);·(show Eg?);rw[Ae zI];show QEI U' s6 wf5
open E
open S
inductive Lp(vs:C!)(H:Hp)(Q:VK)(E:XK):B!
 | mk (p:Addr) (W:EF) (_:HO!) (_:wn) (_:JfP Om!)
def Jp4:Ww! Kv:={}
def Jnr(F:JFS JXM Kv)(TW:He)(TP:Tj)(M1:B4! CP "letters" JXJ K4 BD! f1 d1):t7! Lp:=by show Cp? BD! Jbf (Jnz Oh! TP);show E? Jp4;have#[p,W,rfl,S,k]:=h;show A?;show B?;show FG?;show AS? (D4 (pl:=_) Aa! TP.cl Dp! G1 hr CY! a! A9);show#[Iv?,hp,wE,Sj!,Fh W,CE!,HX,_,A!,hq,MX!,CE!,W.pd,W.c,FJ!,A!,S.po,k]
structure yD(G:CU)(i:Nat):B! where
 eq:JY4
def MF:Ap! [Bm!,"n",Hu!,"kind"] KJ! Oz:={}
inductive Jam(vs:C!)(H:Hp)(Q:VK)(E:XK):B!
 | mk (p b:Addr) (h g:Int) (W:EF) (tb:T2) (q:Addr) (G:CU) (_:vs=oz! Cc!) (_:wn) (_:BW!) (_:Bt!) (_:(HN JnP)) (_:M6!) (_:M4!) (_:W.ls.length<=2700) (_:JlZ (∃o,QAx G.AK.find? o/\L9! Jo! aQ!=none/\∀(t:Addr)(H':Hp),QEn (Lp! h.toNat (q,JPb (o+W.share))) CG! (W.ls++nd!) t BM! h g ET! KX! (ng! T2!)) ((wt=0/\Zt! NW)\/(wt=1/\JVA (Ck Ai! tb 0) H1! tb.1 g)\/(2<=wt/\JVA (mr! qw!) BM! g (wt / 2))))
def RW:Ap! [Bm!,"h","g","b",SQ!,GR!] nA! Jj2:={}
def Ji0(h:QDT BR! t w9):L9! (Ck l t v).find? BR!=D! (t,v):=by have m:Et!:=PN! (El! (BE h));unfold Ck;rw[AF m];clear m;induction l with | nil=>simp at h | cons q l ih =>rw[AI];show z?;(.rw[AF e,CM];simp[e]);.rw[AD e,CM];rw[CM] at h;simp only[e,decide_false] at h ⊢;show ih h
def Jxm(F:Z! GK! "World.send" Jj2)(T:Txt)(TW:He)(TP:Tj)(MH:I7!)(M1:B4! C "part" "House.part" Jmv U4! f1 d1)(G1:GQ 3 f1 d1 U4! (Jpv))(M2:B4! C "is_spent" JW4 Jbn Gi! f2 d2)(M3:Rd!) : KL! 4 nA! Jam:=by
 show FT?;have G2:GQ 1 f2 d2 Gi! (Jrw):=cA! Jxq M2.fn T;have G3:GQ 1 f3 d3 aC! (Kh):=cA! O8 M3.fn TP;show d? RW;have#[p,b,h,g,W,tb,q,G,rfl,S,hb,i,#[q2,G2',i2],z1,z2,z3,k]:=h;show A?;show P?;show B?;show H5? RW.nd nN! (Ac (Cg (QBW MH.mt GH HJ MH.bd)) (JOY 5 RW.nd (mc! Br! w! Dp! G1 CY! (lh! Aa!)) (Hz (JGE Br! Jn! G2 HJ GU! AF!)) (JvI sB! FM) (JvI FM Gy!)));show A5?;show Lj? (x! #[LB? g (x! #[q2,G2',i2,?_])]);show#[_,A!,q,HX,_,A!,hq,DJ!,_,A!,_,A!,p,CW,dx,_,_,A!,hp,wE,TW.nS,M9 W,q,b,G,tb,ET!,A!,i.at S,hb,z1,z2,?_];obtain k|⟨h1,h2,o,h3,h4,k⟩|⟨h1,h2,wt,h3,k⟩:=k;show AB?
 .show BI? #[h1,h2,o,h3,T3!];show DI?;show Au?;show FH?;show Em?;(have e4:JN7 Jo!:=Ed! h4);rw[e4];show e?;show FI?;show FJ?;show O5?;have s2:=QDx ha;show DT?;show EO?;show EF?;show EG?;show k t H3 W3 #[a,b,et,Pk! c_.BI,Ch! c_.BI s2 (wP SQ.BI hb)] QA6;show Hs?
 .show AC? #[h1,h2,wt,h3,?_];obtain k|⟨rfl,k⟩|⟨h4,k⟩:=k;(.show F? k);(.show GD? Au!;(have eg:IX!-Lf 1=0:=Au!);rw[eg] at S1;show DI?;show Au?;show FH?;show Em?;(have e4:T! (KB ((((Ck Ai! tb 0).find? (EZ! aQ!)).map B1!)=D! 0)):=by rw[Ji0 h3];rfl);rw[e4];show f?;show FI?;show FJ?;have hb1:=Py! hb;show#[o?,CW,UW,_,_,A!,UE,wE,Sj!,Fh _,CE!,gT,_,A!,vJ,MX!,_,A!,_,A!,b,_,_,_,A!,A!,DB! hb1,A!,_,A!,_,A!,aY!,Uo!];show Kf? (AM! g);show DT?;show EO?;show EF?;show EG?;show KA?;show QEI WO s2 JI);.show GD? (KZ (Jd2 FB h4));(have eg:Lf wt=wt / 2:=by unfold Lf;rw[AD (KZ h4)]);rw[eg] at S1;show DI?;show Au?;show FH?;show Em?;(have e4:JN7 (Ck Ai! tb (qw!)).find?:=by rw[Ji0 h3];show AN Fw!;have:qw!=0:=ZO z;lia);rw[e4];show e?;show FI?;show FJ?;have hb1:=Py! hb;show O5?;rw[eg] at *;show Kf? (A2! (wt / 2));show DT?;show EO?;show EF?;show EG?;show KA?;show Hs?
open E
structure Jtl(H:Hp)(c h:Int)(L:X!)(bs:Q!):B! where
 BX:b2!=(AR! kM!).map QEi
 OY:KW! (λ(y:Int×Addr)(q:T2×Int)=>NP H Bi! BJ! GV! h q.1.1 H! Rs) L bs
open S
inductive Jan(vs:C!)(H:Hp)(Q:VK)(E:XK):B!
 | mk (p l:Addr) (h:Int) (W:EF) (as:S!) (bs:Q!) (_:Zq! Gh! IR!) (_:wn) (_:JME) (_:l∉Gv!) (_:LO H as bs) (_:bs.length<=60) (_:HK!) (_:yr! (JHb (TH! kM!)) (iN! H' bs))
def Jz9:Ap! at! at! Tv:={}
abbrev J54:TE:=yI CP "put" (Kh) [] E0 (sM K (Cz 2) Ah!) (Dr (as! GV!) (Dr (Cz 1) (Dr (V_ (uV K) (V_ (uV K) (Cz 0) mw!) mw!) (Dr (Cz 0) Ht))))
def Jxo(F:JFR "World.give_back" Tv)(TW:He)(TP:Tj)(M3:Rd!):Ma! at! Jan:=by
 show Fb?;show E? Jz9;have#[p,l,h,W,as,bs,rfl,S,el,lno,bk,zb,zl,k]:=h;show A?;have lab:=AA! bk;show RF? J54 Jgh (Em (pv 2)) #[A!,A!,A3!] (J94 BT! BT! h) #[KE!,KE!,A3!] (Aq FM A!) (JH9 (L3! b8!) SC);show BK? l el dK!;show Hh?;have nrl:l≠r:=Am el J';have xA:r∉Gv!:=S.RZ J';have S0:Jhe:=cE! JLg AO Jp! s0
 show Qc? l oy! J54 Jgh [CM!,IB! h,K9!] (JUJ (MT! l Fr!) (JCG/\JKK/\iN! H2 (bs.take i)/\LO H2 as bs/\sn!)) #[Ab,P! s0 el,[],A!,S0,r6!,CK! bk.keep s0,JMt] (bA! #[GP! Pc!,pi]);.rintro i v ys H2 N hi ⟨er,zX,L,rfl,W2,b2,bk2,SN⟩ hN;show f?;rw[ZH] at hi;cases rT:as[i]? with | none=>rw[rT] at hi;cases hi | some ai =>rw[rT] at hi;cases hi;(have hib:i<bs.length:=JG8 lab);have#[q,hq]:=Aw hib;have#[cc,ea,ec]:=A6 bk2 i ai q rT hq;(have lL:L.length=i:=by have:=AA! b2.OY;show I? CO;lia);show A2?;show FF?;show#[If? MJ,Pp? JJ UW QO ai _ _ Qb! cc _ _ A! A! (DB! ec) _];show J4? W2.po lL;have#[W4,VZ]:=W2.MB S4 f_;have SO:=Ol! W2 VZ;have gI:bh! r au!:=KM VZ er xA;have i5:bh! l Fr!:=KM VZ zX lno;show JA? (a4! H4 r QEl s6!);show#[gI,JOt,Em! #[Ab,jp nrl i5,JWV,Qq!,?_,?_,bk2.keep (ki! kq),QA6]];show MN?;(.rw[CK,hq];show#[?_,Fa ?_ (Ax (λ_ _ rr=>rr.keep (ki! kq)) b2.OY)];(.have n1:=b2.BX;(have n2:AZ! bs.take i=i:=U! CO (JiE (A_ hib)));rw[n2] at n1;rw[ZF,n1,ZE,n2];change _=JED xL;rw[HD,ZF];congr 1;show Gv?;congr 1;show u3!);.show#[ai,cc,b1! et,QAb ea,QAb ec]);·(show Ne?);rw[Ae zJ];show g7! VZ JLX
 .rintro ys H2 ⟨er,zX,L,rfl,W2,b2,bk2,SN⟩;rw[ZA,lab] at W2 b2;rw[BS] at b2;show k r L H2 W2 b2 SN (λz=>nj! xA (BE! lT!)) (λb o e _ z=>by rw[<-z,e] at J';cases J') er
def P8:JrM DE!:=SZ (by unfold CC at hb ⊢;have hb:b∈xY! (Du! SV! (UL!) Hm!):=hb;simp only[BY] at hb ⊢;obtain h|h|h|h|h:=hb;(.show O?);(.show B0?);(.show G? tL!);(.show BH? tL!);.have#[q,hq,e]:=ZN h;show JEa (IN (B2! #[q,mq!,e])))
inductive Ru(vs:C!)(H:Hp)(Q:VK)(E:XK):B!
 | mk (p:Addr) (h:Int) (W:EF) (q:Addr) (G:CU) (n m:Nat) (rs:Q!) (R:F!) (_:Qu!) (_:wn) (_:Bt!) (_:sw) (_:Vi!) (_:XD!) (_:XT!) (_:DY!) (_:F6!) (_:JMY) (_:m<=5000) (_:ti!) (_:g0! DE!) (_:HK!) (_:yr! (nh! t3! (TH! (Cr (keepR G R) rs).length) On!) (iN! H' QFr))
def Jmr:f4! Jao:={}
def Jub(F:JFP "World.clean" Jao)(T:Txt)(TW:He)(MH:I7!)(M1:lc! GL! JW1 Jbu f1 d1)(G1:gi! BD! Jjy)(M2:JeC)(G2:JdG):bo! Gg! Ru:=by
 have GH:JF0 fH dH Gg! E9:=kj! (Ez MH.fn T TW);show E? Jmr;have#[p,h,W,q,G,n,m,rs,R,rfl,S,i,ok,zn,rL,rK,pm,pw,rc,zm,kC,zb,zl,k]:=h;show A?;show P?;show B?;show A5?;show AS? (JlW (ml! (JO8 (JHx MH.mt GH HJ MH.bd Kp!) w!)));show#[_,A!,p,dx,_,A!,hp,Ff!,_,Jd? (x! #[q,G,i,q,HX,_,A!,hq,DJ!,q,RO? m rs R rc zm])];show Is? P8;show OO?;show QM?;show QQ? t3! t3! P8
 show#[RG? h];show k y L H2 W2 b2 JRC ui JRD ey
open E
open E Lake.K52
open N Lake.FX
open PySem PySem.Spec PyProof.Rows L2
abbrev VY(G:CU)(t:T2):B!:=OX!\/∃q∈G.holds,UQ!
def Iv(h:t∈FD AK! ta):DS!:=by unfold FD at h;cases e:JHN (H!=ta) with | none=>show Ad? | some q=>show x?;show x! #[q,BE e,h]
abbrev sP(m:Nat)(t:T2):B!:=a7 t/\AV!<m
structure Sd(m:Nat)(G:CU)(n:Nat):B! where
 ok:sw
 nn:∀q∈G.AL,0<=Rs
 ip:∀t,DS!->gV!
 rk:∀t,DS!->dB!->du!
 ir:JK2 gV!
 n0:0<=G.BX
 n1:G.BX<m
 m0:0<=G.AY
 m1:G.AY<=n
def Jif(h:q∈Ck l t v):q=(t,v)\/OR!:=by
 unfold Ck at h;show C? Et!;.rw[BZ!] at h;have#[r,hr,e]:=ZN h;by_cases d:Vo!;(.rw[AF d] at e;show l! (by rw[<-e,d]));.rw[AD d] at e;show JK7 hr
 .rw[Ez!] at h;show Bl?;(.show y?);.show l! (by simpa using h)
def En(l:Q!)(t:T2)(v:Int):J9! (Ck l t v).map/\(∀u∈bI!,u∈JHI)/\∀u∈JHI,u=t\/u∈bI!:=by
 rw[K6];show C? Et!;.rw[AF c];show#[c,λu hu=>hu,GJ! (x! hu)]
 .rw[AD c];show#[sZ!,GJ! (BE! hu),M3!];show BR?;(.show G? hu);.show l! (by simpa using hu)
def Eg:q2! (Aj (Ck l t v) u=xa!):=by
 have app:q2! (dF!->Aj (l++Ev! t) u=xa!):=λl t u v h=>by unfold Aj;rw[JSJ];by_cases e:u=t;(.rw[AF e,e];(have:zb!:=Mf! yg!);show K?;simp);.rw[AD e];have:¬t=u:=Tk! e;cases m8! (H!=u)<;>simp[this]
 have mp:q2! (Et!->Aj (Db vu!) u=xa!):=λl t u v h=>by induction l with | nil=>simp at h | cons q l ih =>unfold Aj;rw[AI,CM,CM];show z?;(.rw[AF e];by_cases e2:u=t;(.rw[AF e2,e2,e];simp);.rw[AD e2];have n1:¬H!=u:=λz=>e2 (z▸e);rw[AN n1];by_cases hl:Et!;(.have:=ih hl;show I? (AD e2);show this);·(have:(Db vu!)=l:=by show(DH K2!).trans (List.map_id l);have:¬Vo!:=λz=>hl (B2! #[r,hr,z]);rw[AD this];rfl);show K?);.rw[AD e];(have hl:Et!:=by show D? (ZM h);(.show M? h.symm e);.show h);by_cases e2:H!=u;(.rw[AM e2];have:¬u=t:=Gs! e e2.trans;rw[AD this]);.rw[AN e2];show ih hl
 intro l t u v;unfold Ck;show C? Et!;.rw[AF c];show mp l t u v c
 .rw[AD c];show app l t u v c
def Fg(l:Q!)(P9:ux!)(t:T2):JbT=Be! (T! (P9 t)) Ml! 0:=by induction l with | nil=>by_cases c:T! (P9 t)<;>simp[c,Aj] | cons q l ih =>rw[FN];show z?;(.show C? (Ej! P9 H!);(.rw[BZ!,mo! AF c];unfold Aj;rw[CM,CM,AM e]);.rw[Ez!,ih,JF1,JF1]);·(have e1:Aj (q::l) t=Ml!:=Jea);rw[e1];show C? (Ej! P9 H!);(.rw[AF c];(have:Aj (q::FH! λq=>P9 H!) t=JbT:=Jea);rw[this,ih]);.rw[AD c,ih]
def P7(h:JBQ)(t:T2):0<=Ml!:=by unfold Aj;cases e:pH! with | none=>show AJ _ | some q=>show h q (BE e)
open S
def Sd.of(x:CC!)(rF:VO! G')(nu:ZH!)(md:kk!)(hd:ZI! (DS!\/(gV!/\(dB!->JFY))))(hl:∀q∈G'.holds,∀t∈BS!,DS!)(nn:∀q∈G'.AL,0<=Rs)(ir:∀t∈ww G'.AL.map,du!\/gV!)(ks:∀t,VY G' t->du!->JFY):tc!:=by
 show#[rF,nn,D0!,M5!,Ak! ((ir t ht).elim (x.ir t) id),rc! x.n0,rc! x.n1,U! md x.m0,by rw[md];have:=x.m1;show CA this];.show FK?;(.show D? (hd t ht);(.show x.ip t h);.show pi);.show x.ip t (hl q hq t ht)
 .rw[nu] at e;obtain h|⟨q,hq,h⟩:=id ht;(.show D? (hd t h);(.show ks t ht (FL! t h e));.show A6! e);.show ks t ht (FL! t (hl q hq t h) e)
def Sd.up(x:CC!):G3! G:=x.of (x.ok.mono (DX n)) A! A! nu! (λq hq t ht=>bK!) x.nn be! ZJ!
def Sd.tk(x:CC!):Sd m (KQ G) n:=#[x.ok.KQ,x.nn,x.ip,FL!,x.ir,x.n0,x.n1,x.m0,x.m1]
def Sd.make(x:CC!)(hm:Fx!)(hn:SL)(a:Addr):G3! JPf:=by
 show Sd.tk #[x.ok.YF a,x.nn,D0!,M5!,x.ir,x.n0,x.n1,by change 0<=Dx!;have:=x.m0;show CA this,by change Dx!<=JFc;have:=x.m1;show Int.lt_add_one_of_le this];.have h1:=x.m1;have h2:=x.n1;show FK?;(.show GK?;show B2?;(.show x.ip t sO!);·show G3?;show K?;show#[#[x.n0,KN! (G.BX<12) (BL h2 (EM! hm)),x.m0,KN! (G.AY<60) (GK h1 (C0! hn))],x.n1]);.show Hi?;show BO?;(.show x.ip t JGH);·show D7?
 .show FK?;(.show GK?;show B2?;(.show FL! t sO! e);·show G3?;show Fd! (Ed! this) e);.show Hi?;show BO?;(.show FL! t JGH e);·show D7?
def Ok.o8(ok:sw)(h:Up!->Fz!):VO! UI!:=by
 show(ok.mono (DX n)).hand (Jcd _ SX!) (by have:=Zu! O9;have:=ok.hz;lia) M5!;show A9?;.show v6!
 .rw[ht];show TG! h ht e
abbrev Mq(G:CU)(ta tb:T2):CU:=JHo ur!
abbrev Lg(G:CU)(ta tb:T2):CU:=JHo va!
abbrev Xt(G:CU)(tb:T2):CU:=KQ UI!
abbrev Xu(G:CU)(tb:T2):CU:=KQ qv!
def Sd.hold(x:CC!)(hb:BP!):G3! fF!:=by
 show Kl? ur! (by show Ke?;show JAP (Jcd _ g1) (QF! (O9 QAh tb)) M5!;show A9?;(.show g3 t ht e);.rw[ht];show x.ok.hk tb hb (JXd))
 show QS?;.show q?;show A9?;(.show Iv ht);.rw[ht];show h! hb
 show AK? (KF! ht)
def Sd.drop(x:CC!)(ta tb:T2):G3! cl!:=by
 show Kl? va! (by show Ke?;show JAP (g1.sublist IZ) (by show JL? QAh;unfold Lh;show AA this (AA g2 bH!)) (JWL g3))
 show QS?;.show q?;show Iv VK!
 show AK? (KF! ht)
def Sd.take(x:CC!)(hb:P7!):G3! vV!:=by
 show JO? (x.ok.o8 λe=>(x.ok.get ta).2.2 tb hb e) (Eb! (h! ?_));show w? ht
 .rw[ht];show Iv hb
def Sd.free(x:CC!)(tb:T2):G3! vW!:=by show R5? ((x.ok.mono (DX n)).hand (l:=Zu! Lh) (x.ok.hn.sublist IZ) (by show JL? Bk!;have:=x.ok.hz;unfold Lh;lia) (JWL x.ok.hk)) (Eb! (Z9! VK!)) x.nn be! ZJ!
abbrev qG(G:CU)(tb:T2)(v:Int):CU:=KQ JCD
abbrev Mz(G:CU)(tb:T2)(v:Int):CU:=KQ (kL! (Pv! Ai!))
def Sd.out(x:CC!)(h:Fz!)(v:Int):es! qG :=mT! x.of ((x.ok.AK h v).mono (DX n)) nu! bK! x.nn be! ZJ!
def Sd.wB(x:CC!)(hf:HD!)(hi:gb!)(hv:0<=v):es! Mz:=by
 have okc:=(x.ok.JBY hf v).hand (l:=Bk!) x.ok.hn (CJ x.ok.hz) x.ok.hk;show mT! x.of okc nu! bK! (Ba!) Iw! JWW;show Ov?
 show Nk?
abbrev Gv(G:CU)(R:F!):CU:=KQ (IC DE!)
def Sd.clean(x:CC!)(kC:ti!):G3! sS!:=by
 show Po?;show Cu? hk;show L1?;rw[e];unfold DL;obtain ht|⟨r,hr,ht⟩:=ht;.have ht:t∈(keepR G R).hand:=ht;rw[AM ht];rfl
 .show Jz? (by simpa using ht);show GO?
def OX.ofN(ok:sw)(hn:QT!):HN λk R=>k<=5000/\XK!:=by
 have l1:JNG ON!:=by rw[Ht!,ZA];have:=ok.oz;show AA this hn
 have l2:tS! Lr! 200:=by unfold startT Pq;show AA nW! ?_;rw[ZE];have h1:=ok.hz;have h2:=BC (s0!) (S2! OV!);rw[ZA] at h2;have h3:=ok.oz;lia
 have l3:JSm uV!:=ek! l1;have#[k,R,h1,h2]:=OX.ex (nx:=RM AK!) (keys:=JEG) (B:=60) (Jxy AK!) (λt=>AA nW! (AA (ok.get t).2.1 hn)) 5000 (Lr! G) [] (Jts G) (by have:AZ! uV! (TL! (t∉([]:F!)))*(60+1)<=60*(60+1):=EL _ l3;lia);show#[k,R,h1,h2]
def Ok.clean(ok:sw)(rc:XK!):JIN:=ok.keepR rc.sub.2 (rc.closed JFe)
open E
open S
abbrev Jyv(G:CU)(tb:T2)(v:Int):CU:=KQ { G with hand:=TV!,AK:=Pv! ii }
abbrev Jyw(G:CU)(tb:T2)(v:Int):CU:=KQ JWM
def Sd.JBt(x:CC!)(KH:Fz!)(hi:gb!)(v:Int):es! Jyv:=by
 show JO? (FX.Ok.AK (G:=UI!) (Ok.o8 x.ok λ_=>KH) KH v) Iw!;show An? ht
 .rw[ht];show Cj! hi (λe=>CT! (x.ok.new tb KH).1 e)
def Sd.JBu(x:CC!)(hf:HD!)(hi:gb!)(hv:0<=v):es! Jyw:=by
 show R5? (x.ok.JBY hf v) Iw! (Ba!) Iw! JWW;.show A9?;(.show CY? ht);.rw[ht];show Cj! hi (λ_=>(En _ _ _).1)
 show Ov?
 show Nk?
def O4(l:Q!)(t:T2)(v:Int):(Ck l t v).length<=qs!:=by
 unfold Ck;split;.rw[ZA];show QE!
 .rw[ZE];show Ay!
open E
open E Lake.FX
open N Lake.K52
open PySem L2 FX
structure LT where
 kind:Ag!
 s:KE
 g:KE
 th:T2
 x:KE
abbrev RN(t:T2)(l:LT):KE:=La! Oo! (if K3! then 1 else l.x) 0
abbrev Dx(t:T2):cr->KE
 | []=>0
 | l::r=>WR! r
def Kr(t:T2):∀(a b:cr),Dx t DN!=Dx t a+Dx t b
 | [],b=>by simp[Dx]
 | l::a,b=>by change WR! DN!=(WR! a)+Dx t b;rw[Kr t a b];show(kl! _ _ _).symm
def G0(t:T2)(a b:cr)(l:LT):Dx t (a++l::b)=Dx t DN!+RN t l:=by rw[Kr,Kr];change Dx t a+(WR! b)=_;lia
def Kq(t:T2)(a:cr)(l:LT):Dx t (a++[l])=Dx t a+RN t l:=by rw[Kr];change Dx t a+(RN t l+0)=_;lia
abbrev QR(t:T2)(G:CU):KE:=JHD
abbrev Ko(t:T2):qC! KE
 | []=>0
 | q::r=>QR t Rs+Ko t r
abbrev T6:qC! ut
 | []=>0
 | q::r=>q.2.AL.length+T6 r
def Jmh:∀{l:No} {i:Nat} {q r:SH!},U9!->Ko t pL!=e1!-QR t Rs+QR t r.2
 | [],i,q,r,h=>B7!
 | x::l,0,q,r,h=>Je5 (nq! r.2) (JTr x.2)
 | x::l,i+1,q,r,h=>by show Am? U9!;change QR t x.2+Ko t pL!=JTr Rs;rw[Jmh h];lia
def Jm9:JT0 (JMe+q.2.AL.length) (T6 l+r.2.AL.length)
 | [],i,q,r,h=>B7!
 | x::l,0,q,r,h=>Je5 (r.2.AL.length+T6 l+x.2.AL.length) Je7
 | x::l,i+1,q,r,h=>by show Am? U9!;have:=Jm9 (r:=r) h;change x.2.AL.length+JMe+q.2.AL.length=Je7;lia
def Jjn:JR3 (∀(j:Nat) r,l[j]?=D! r->xq!) e1!
 | [],_=>Gu!
 | x::l,k=>by have h1:=k 0 x A!;show Cv? Jjn (λj r h=>k (j+1) r bw!);change 0<=nq! x.2;show QH h1 h2
def Jrv:∀{l:No} {i:Nat} {q:SH!},U9!->(∀(j:Nat) r,l[j]?=D! r->SK!->xq!)->QR t Rs<=e1!
 | [],i,q,h,_=>B7!
 | x::l,0,q,h,k=>by show Am? (x=q);subst h;show Cv? Jjn (λj r h=>JlQ);show K6? x.2;show QK h2
 | x::l,i+1,q,h,k=>by show Am? U9!;have h1:=k 0 x A! v!;have h2:=Jrv h λj r h ne=>JlQ;show K6? Rs;show BL h2 (FU h1)
abbrev NQ(m:Nat)(l:LT):B!:=0<=l.g/\l.g<m/\sP m sB /\
 ((JCd/\dL!)\/(q4!/\dL!/\l.g≠GW!)\/(q3!/\dL!/\dM!)\/(K3!/\dM!/\0<=l.x/\l.x<m/\0<=l.s/\l.s<m/\l.s≠GW!))
def Gd:JFX H1!:=ZV
def Es:sH! H1!:=ZV
def Ge:sK! H1!:=ZV
def NQ.w(h:P3!):1<=RN sB l:=by grind [RN,Es,Gd,Ge,LT,NQ]
def NQ.nn(h:P3!)(t:T2):0<=RN t l:=by
 by_cases e:Oo!;.rw[<-e];have:=h.w;show BL FB this
 .unfold RN;rw[AD e];show AJ _
def Jak:∀{ls:cr},(qn!)->0<=Dx t ls
 | [],_=>Gu!
 | l::ls,h=>by have h1:=(h l Dw!).nn t;show Cv? Jak XA!;change 0<=WR! ls;show QH h1 h2
def Jmi(h:qn!)(hl:Sk!):1<=Dx sB ls:=by have#[a,b,e]:=HI hl;rw[e,G0];have h1:=(h l hl).w;have h2:=Cs! Jak t sB ls A5! (Al! (h z (by rw[e];show AI?;(.show BE! hz);.show CI! mb!)));show BL h1 (FU h2)
structure Wl(C:db)(m n:Nat)(sh:Int)(qs:No)(ls:cr):B! where
 len:qs.length=m
 m12:Fx!
 sd:∀(i:Nat)(q:Addr)(G:CU),Sc->CC!/\q5!
 ok:qn!
 sum:∀t,C t->Ko t qs+Dx t ls=0
 sh:2<=sh
open S
variable {C:T2->Prop}{m n:Nat}{sh:Int}{qs:List (Addr×CU)}{ls:List LT}
def J2e{P9:JXI}{l:No}{i:Nat}{q:Addr}{G':CU}(h:∀j q G,Zd! (l[j]?)->SK!->P9 G j)(hi:P9 G' i):∀j q' G,Jdd G->P9 G j:=by
 intro j q' G e;show HO?;by_cases z:i=j;.rw[AF z] at e;by_cases z2:kG!;(.rw[AF z2] at e;have:H9!=(q',G):=ZO e;rw[<-QAq this,<-z];show hi);.show A4? (AD z2)
 .rw[AD z] at e;show h j q' G e λz'=>z z'.symm
def Wl.next(x:CO!){i:Nat}{q:Addr}{G G':CU}{QL:cr}(hi:Sc)(sd':tc!)(nu:ZH!)(rF:∀l∈QL,P3!)(JId:∀t,C t->QR t G'+Dx t QL=QR t G+Dx t ls)(JpR:G'.AL.length+QL.length<=G.AL.length+ls.length+1):bc! Eo! QL:=by show#[JDy x.len,x.m12,J2e (P9:=λG j=>G3! G/\G.BX=lc) (λj q G e _=>JcN j j) #[sd',Kq! nu (x.sd i q G hi).2],rF,λt hC=>?_,x.sh];have h1:=Sl! t hC;have h2:=JId t hC;rw[Jmh hi];change Ko t qs-QR t G+QR t G'+Dx t QL=0;lia
def Wl.up(x:CO!):Wl C m Fc! sh qs ls:=JoM (λi q G e=>JcN i i) Sl!
def Wl.JA2(x:CO!){t:T2}{j:Nat}{r:SH!}(e:JLj)(ne:fg!):FV! r.2.AK=0:=by have#[s,nu]:=x.sd j AT r.2 e;show Gh λz=>ne (by rw[(Op! t z).1,nu])
def Wl.JBc(x:CO!){t:T2}{j:Nat}{r:SH!}(e:JLj)(ne:fg!):xq!:=by have h1:=x.JA2 e ne;have h2:=P7 (x.sd j AT r.2 e).1.nn t;unfold QR;show JjT (h1▸h2)
def Wl.there(x:CO!){l:LT}(hl:Sk!)(hC:C sB){i:Nat}{q:Addr}{G:CU}(hi:Sc)(e:Uf! GW!):QCh:=by
 show Classical.byContradiction λno=>?_;have h1:=Jmi x.ok hl;have h2:=Cs! Jjn t sB l qs (λj r ej=>by show C? (GW!=lc);(.have:i=j:=Oq! (j2! FB! c);subst this;have er:L2!=r:=ZO (hi.symm.trans ej);have h3:=P7 (x.sd i AT r.2 ej).1.nn sB;unfold QR;rw[<-er] at h3 ⊢;have h4:aK! ii=0:=Gh no;change 0<=aK! Ai!-aK! ii;have h3:0<=aK! Ai!:=h3;show JjT (h4▸h3));.show x.JBc ej c)
 have h3:=Sl! sB hC;lia
def Wl.wY(x:CO!){i:Nat}{q:Addr}{G:CU}(hi:Sc)(t:T2)(hC:Fm!->C t):0<=MB!:=by
 show C? Fm!;.show Av?;(have e1:Uf! AV!:=JYC c);have h1:=Jrv (t:=t) hi λj r ej ne=>x.JBc ej v!;show Cv? Jak x.ok;have h3:=Sl! t (hC c);have h4:Fe!=0:=Gh λz=>s.ok.rk t z (Op! t c).1;have h1:JHD<=Ko t qs:=h1;lia
 .rw[Gh c];show Gu!
open E
open S
variable {C:T2->Prop}{m n:Nat}{sh:Int}{qs:List (Addr×CU)}{ls:List LT}{i:Nat}{q:Addr}{G:CU}
def mem_mid(hz:z∈A5!):z∈a++l::b:=M9!
def Wl.same(x:CO!)(hi:Sc){G':CU}(sd':tc!)(nu:ZH!)(hr:G'.AL=G.AL)(ho:G'.AK=G.AK):Wl C m Fc! sh Eo! ls :=GX! hi sd' nu x.ok (λt _=>by unfold QR;rw[hr,ho]) (o! hr QE!)
def Wl.make(x:CO!)(hi:Sc)(hn:SL)(a:Addr):QBc Wl C Q8!:=by
 show Av?;show GX! hi (s.make x.m12 hn a) A! x.ok (aa!) (by show C7?;show QE!);have fr:FX!∉PB!:=λz=>by show Cf? z;show zd! r hr e
 have e:Aj (Nf!) t=MB!:=by rw[<-Jw0 fr,Eg];show C? QAT;(.rw[BZ!,c,Gh fr]);.rw[AD c]
 show G9? Nf! ls;rw[e]
def O7(h:∀z∈ls,NQ m z)(hl:P3!):∀z∈ls++[l],NQ m z:=Al! (by show AI?;(.show h z hz);.rw[ZK hz];show hl)
def Wl.VM(x:CO!)(hi:Sc){b:T2}(hb:Or!)(hn:b.1=G.BX){g:Int}(g0:Fu!)(g1:g<m):JL3 qG cf! ue!:=by
 show Av?;have hs:=x.sh;show GX! hi (s.out (s.ok.hk b hb hn) _) A! (O7 x.ok (JhR JPp)) (aa!) (by rw[ZE,GA];show C7?;show ZG _);rw[Kq];show G4? (Fe!-FV! (Ck ii b (cf!))) QCL;rw[Eg];unfold RN;show C? (t=b);show QB? (_+sh)
 show ER?
def Sy(h:b∈n3!)(v:Int):km! (Mz G b v).AL.length:=Jnf h v
def Wl.XS(x:CO!)(hi:Sc){b:T2}(hb:Or!)(hf:dA!){g:Int}(g0:Fu!)(g1:g<m)(w2:2<=Z5!) : JL3 Mz pX! iB!:=by
 show Av?;show Qn? (s.ip b (l! hb)) v! (JhR (h! (Ao! (mF! (1<=JzW)))));rw[Kq];show G4? (QEc b (pX!)) JjC;rw[Eg];unfold RN;show C? (t=b);show QB? (_+JzW)
 show ER?
def Wl.VL(x:CO!)(hi:Sc){b:T2}(hb:Or!)(hf:dA!){g:Int}(g0:Fu!)(g1:g<m)(w1:Z5!=1) : bc! JGP iC!:=by
 show Av?;have ib:=Kh! s.ip b hb;have hil:i<m:=JG7 x.len
 show Qn? ib PJ! #[ib.1.1,ib.2,ib,JEa #[A!,A!,g0,g1,by change 0<=AN!;show DI!,by change AN!<m;show C0! hil,by rw[nu] at hf;show Tk! hf]];rw[Kq];show G4? (QEc b 0) JjD;rw[Eg];unfold RN;show C? (t=b);.rw[BZ!,AF (show b=t from c.symm),BY!,c,w1];lia
 show ER?
def Wl.wt(x:CO!){a b:cr}{l:LT}(es:dH!)(np:q6!)(hC:oJ! (C sB))(hi:JE5) : ∃G',h3!/\bc! QEv DN!:=by
 show Dh?
 show I0?;show PH?;rw[QL!] at nu;show Mo?;show OP?
 have lw:∀t,RN t l=if Oo! then l.x else 0:=xX! np
 obtain⟨k,x1⟩|⟨k,x1,ne⟩|⟨k,x1,eg⟩|⟨k,_⟩:=kk;· show C? (GW!=G.BX);(.have KH:=hc! (hC (by rw[k];show u?)) (by rw[QL!,c,nu]);show#[Jyv G sB (oO!),Fg! k (h! #[c,_,Sw KH,A!]),fs! (s.JBt KH ib _) wv!];show NS? DN!;show Du?;show Aq?;(.show Ds?);.show Dr?);.have r0:=P7 s.nn sB;show#[Jyw G sB (QA7),Fg! k (Cj! c A!),fs! (JtJ s.JBu) JrG];show Oh?;show Du?;show Aq?;(.show Ds?);.show Dr?
 · (have c:GW!≠G.BX:=rc! (Tk! ne));have r0:=P7 s.nn sB;show#[Mz G sB (QA7),UW! #[k,A!],fs! (JtJ s.wB) JrG];show Oh?;show Du?;show Aq?;(.show Ds?);.show Dr?
 · by_cases KH:QCh;(·(have e1:Jde=Ck ii sB (oO!):=by unfold aT;rw[AF KH]);show#[qG G sB (oO!),Jab,fs! (s.out KH _) wv!];show NS? DN!;show Du?;show Aq?;(.show Ds?);.show Dr?);·(have e1:Jde=G.AK:=by unfold aT;rw[AD KH]);show#[KQ G,Jab,GX! hi s.up.tk A! tw Iw! wv!];change JzJ DN!=JzJ ls;rw[es,G0,lw];by_cases d:Oo!;(.show Fd! (hc! (o! d ht) (Ck! QL! eg)) KH);.rw[AD d];lia
 show Al? k np
def Sd.pass(s:CC!)(KH:Fz!)(hi:gb!)(sh:Int)(H_:Bool):G3! JUo:=by
 have okh:VO! JCS:=by cases H_;(.show s.ok.mono (DX n));.show FX.Ok.o8 s.ok λ_=>KH
 show mT! s.of (FX.Ok.AK (G:=JCS) okh KH _) Iw! bK! s.nn be! ZJ!;have ht:t∈cj!:=ht;unfold cy at ht;cases H_;show An? ht
 .show A9?;(.show CY? ht);.rw[ht];show Cj! hi (λe=>CT! (Op! tb KH).1 e)
def Wl.pass(x:CO!){a b:cr}{l:LT}(es:dH!)(hp:K3!)(hC:C sB)(hi:JE9):JgT (JL2 AC uo!) (JL2 IR up!):=by
 show Dh?
 show I0?;show PH?;have hs:=x.sh;have KH:=hc! hC (ee! ib.1.1);show Mo?;show OP?
 have fin:dM!/\0<=l.x/\l.x<m/\0<=l.s/\l.s<m/\l.s≠GW!:=by obtain⟨h,_⟩|⟨h,_⟩|⟨h,_⟩|⟨_,h⟩:=kk;(.show G6? Es);(.show G6? Gd);(.show G6? Ge);.show h
 have#[eg,x0,x1,s0,s1,sne]:=fin;have okM:NQ m aO!:=#[s0,s1,ib,UW! #[A!,KN! (1<=sh) (BL FB hs),sne]];have okH:NQ m nJ!:=#[x0,x1,ib,JPp];have lwP:∀t,RN t l=Be! Oo! 1 0:=λt=>by unfold RN;rw[AF hp]
 have lwM:Jdt aO!:=xX! Gd
 have lwH:Jdt nJ!:=xX! Es
 show#[KH,JvU AC (O7 tw okM),JvU IR (O7 (O7 tw okH) okM)];.show G9? (j_ G sB sh AC) _;unfold j_;rw[Kq,es,G0,Eg,lwP,lwM,BY!];show Aq?;(.show Ou?);.show OU?
 .rw[ZE,GA];show C7?;show len▸KD!
 .show G9? (j_ G sB sh IR) _;unfold j_;rw[Kq,Kq,es,G0,Eg,lwP,lwM,lwH,AD AR];show Aq?;(.show Ou?);.show OU?
 .rw[ZE,ZE,GA,GA];show C7?;lia
open E
abbrev Li(i:Int)(y:ES!):LT:=#[GV!,i,y.1.1,BJ!,Bi!]
def Joy(q:ES!)(l:Q!)(t:T2):Aj (q::l) t=Be! BR! Rs Ml!:=by
 unfold Aj;rw[CM];show z?;.rw[AM e,K7!];rfl
 .rw[AN e,AD e]
def Jft(i:Int)(t:T2):∀{l:Q!},WM!->(JBQ)->Dx t ((FH! JEf).map (Li i))=Ml!
 | [],_,_=>rfl
 | q::l,nd,nn=>by show AW?;have ih:=Jft i t PN.2 (JR5 nn);have q0:=Ta! nn q;rw[Joy,FN];(have lw:RN t (Li i q)=JcI:=by unfold RN;rw[AD (show ¬(Li i q).kind=H1! from Ge)];rfl);show C? U8!;(.rw[AF (AM c)];change RN t (Li i q)+Dx t _=_;rw[lw,ih];show z?;(.rw[K7!,K7!,JZu];show kn! _);.rw[AD e,AD e];show ko! _);.rw[AD (by simpa using c),ih];show z?;(.rw[AF e,JZu];show kp! q0 (IQ.mp c));.rw[AD e]
def Jc6(p:a.Perm b)(nd:CH! b.map)(t:T2):FV! a=FV! b:=by
 have nda:CH! a.map:=(p.map _).nodup_iff.mpr nd;show C? (J9! b.map);.show Cu? c;have h1:=JD nd hq;have h2:=JD nda (jh! hq);rw[e] at h1 h2;unfold Aj;rw[h1,h2]
 .rw[Gh c,Gh (m9! (p.map _).mem_iff.mp)]
def Sx(P9:Qp!):∀l:R!,JEu P9+JEu (λx=>! P9 x)=l.length
 | []=>rfl
 | x::l=>by have:=Sx P9 l;rw[FN,FN];cases e:P9 x<;>simp<;>lia
open S
variable {C:T2->Prop}{m n:Nat}{sh:Int}{qs:List (Addr×CU)}{ls:List LT}{i:Nat}{q:Addr}{G M:CU}
def Wl.clean(x:CO!)(hi:Sc)(hC:QCZ (C t)){k:Nat}{R:F!}(rc:XK!){rs:Q!}(pm:DY!) : bc! JGO JMa:=by
 show Av?;show GX! hi (s.clean (s.ok.clean rc)) A! cn! (aa!) ?_;show Q7? x.ok
 .rw[Kr];show Km?;show Pw? DE! I0!;show NQ? Wt!;show LG? I0! UL!;rw[Fg Ai! (λt=>Wt!) t,Fg ii (TL! C7!) t];(have e2:(Be! (T! (KB C7!)) MB! 0)=MB!:=by show C? C7!;(.rw[AF (AM c)]);.rw[AD (by simpa using c)];have h1:=x.wY hi t (hC t);by_cases d:Fm!;(.have h2:¬0<MB!:=λz=>c (rc.sub.2 t (by unfold startT Pq;show Nx! #[CI! (Nx! #[d,AM z]),?_];rw[ZL!];show AM d));show kp! h1 (IQ.mp h2));.rw[Gh d]);rw[e2];cases Wt!;(.show LU?);.show LT?
 .show P8? DE! I0! I0! I0! I0!
def Wl.good(x:CO!)(hn:QT!)(hi:Sc):Good G:=by show Av?;have h1:=s.ok.hz;have h2:=s.ok.oz;have h3:=s.ok.rz;show#[s.ok.hn,No! h1,s.ok.on,No! h2,s.ok.rn,No! h3,K2!];have#[a,fd]:=Cs! Jlq l AK! t AT (o! ZL! yF!);have#[g1,g2,_]:=s.ok.get AT;show#[a,_,fd,g1,No! g2]
open E
inductive sR(qs:No)(t:T2):B!
 | mk (j:Nat) (q:Addr) (G:CU) (_:nV!) (_:Fm!)
structure TB(qs:No)(ls:cr)(X:db):B! where
 hand:Vu! (SR! (¬X t))
 YN:OS! (oJ! (¬X sB))
 hold:Vu! (∀r∈G.holds,c8! (X t->X AT))
 old:Vu! (∀t,X t->AV!=lc->c9!)
abbrev OC(qs:No)(ls:cr)(qs':No)(QL:cr):B!:=∀X,QP! X->TB qs' QL X
def OC.refl(qs:No)(ls:cr):Zw! qs ls:=λ_ h=>h
abbrev XF(ls:cr)(j:Int)(t:T2):B!:=∃l∈ls,Oo!/\((K3!/\l.s=j)\/(q4!/\l.g=j))
abbrev XE(qs:No)(ls:cr):B!:=Vu! (∀t,DS!->fg!->1<=Fe!\/JQe)
open S
variable {qs:List (Addr×CU)}{ls QL:List LT}{i:Nat}{q:Addr}{G G':CU}{X:T2->Prop}
def F8{l:No}{j:Nat}{q':Addr}{G2:CU}(e:Jdd G2):(j=i/\G2=G'/\q'=q)\/(SK!/\l[j]?=D! (q',G2)):=by
 show HO?;by_cases z:i=j;.rw[AF z] at e;by_cases z2:kG!;(.rw[AF z2] at e;have:H9!=(q',G2):=ZO e;show F? #[OQ!,JAL this,qc! this]);.show A4? (AD z2)
 .rw[AD z] at e;show Cj! (λy=>z y.symm) e
def TB.next(x:QP! X)(hi:Sc)(h1:ZI! (OX!\/¬X t))(h2:JCe (Sk!\/¬X sB))(h3:∀r∈G'.holds,c8! ((∃r0∈G.holds,r0.1=AT/\t∈r0.2.2)\/¬X t))(h4:H2!):TB Eo! QL X:=by
 show#[λj q' G2 e t ht=>?_,λl hl nb=>?_,λj q' G2 e r hr t ht xt=>?_,λj q' G2 e t xt et=>?_];.show Cy?;(.rw[e2] at ht;show D? eo!;(.show Jd! i q G hi t h);.show h);.show Jd! j q' G2 e t ht
 .show D? (h2 l hl nb);(.show x.YN l h nb);.show h
 .show Cy?;(.rw[e2] at hr;obtain⟨r0,m0,e0,t0⟩|h:=h3 r hr t ht;(.rw[<-e0];show x.hold i q G hi r0 m0 t t0 xt);.show M? xt h);.show x.hold j q' G2 e r hr t ht xt
 .obtain⟨ej,e2,_⟩|⟨_,e⟩:=F8 e;(.rw[e2];have:=Mq! x.old t xt (Ck! et ej);show BL this h4);.show x.old j q' G2 e t xt et
def OC.less(hi:Sc)(h1:ZI! OX!)(h2:JCe Sk!)(h3:∀r∈G'.holds,JWX)(h4:H2!):wc! :=λX x=>GX! hi (QC8 h1) (λl hl nb=>h! (h2 l hl nb)) (kq! (l! (h3 r hr t ht))) h4
def XE.next(x:wk!)(hi:Sc)(hp:∀(j:Nat) t,SK!->JQe->XF QL lc t)(h':JS9 (1<=dl!\/XF QL AN! t)):ww!:=by
 intro j q' G2 e t ht ne;obtain⟨ej,e2,_⟩|⟨ne2,e⟩:=F8 e;.subst ej;rw[e2] at ht ⊢;show h' t ht ne
 .show D? (x j q' G2 e t ht ne);(.show O?);.show IN (hp j t ne2 h)
def XF.mono(h:JB5)(p:XF ls j t):XF QL j t:=let#[l,hl,r]:=p;#[l,h l hl,r]
def XE.less(x:wk!)(hi:Sc)(hl:JB5)(h':JS9 (DS!/\Fe!<=dl!)):ww! :=GX! hi (λj t _ p=>p.mono hl) λt ht ne=>by show k? (h' t ht ne);show D? (Mq! x t h1 ne);(.show F? (BL h h2));.show IN (h.mono hl)
open E
structure Wg(D:db)(m n:Nat)(sh:Int)(qs:No)(ls:cr):B! where
 wl:JyZ Jet
 sD:QP! D
 rc:wk!
def Wl.mono{C C':db}{m n:Nat}{sh:Int}{qs:No}{ls:cr}(x:CO!)(h:∀t,C' t->C t):JyZ C':=JoM x.sd (λt c=>Sl! t (h t c))
open S
variable {D:T2->Prop}{m n:Nat}{sh:Int}{qs:List (Addr×CU)}{ls QL:List LT}{i:Nat}{q:Addr}{G G':CU}
def sR.set(hi:Sc){t:T2}(h:sR Eo! t):sR qs t\/J9! G'.AK.map:=by
 have#[j,q',G2,e,m]:=h;show Cy?;.rw[e2] at m;show x! m
 .show F? #[j,q',G2,e,m]
def Wg.step(x:B0!)(hi:Sc)(w9:Wl Jet m Fc! sh Eo! QL)(ho:QBS (Fm!\/¬D t))(st:wc!)(rc:ww!):Ue! Eo! QL :=#[w9.mono λt h=>by show A0?;(.show O?);.show D? (h.set hi);(.show y?);.show D? (ho t h);(.show G? #[i,q,G,hi,h]);.show O?,st D x.sD,rc]
def Wg.BX(x:B0!)(hi:Sc):CC!/\q5!:=x.wl.sd i q G hi
def Jmj(hi:Sc)(nu:q5!)(a:Addr):JzF Q8! ls:=λX x=>by (have nx:¬X FX!:=λz=>by have:=Mq! x.old _ z nu;show Az?);show GX! hi Iw! (q7!) (kq! ?_) (KN! (G.AY<=Dx!) (CA (AJ _)));(.show GK?;show F9?;(.show O?);.rw[ZK h];show x! nx);.show GU?;show GA?;(.show F? JLT);.rw[ZK h] at ht;cases ht
def Wg.make(x:B0!)(hi:Sc)(hn:SL)(a:Addr):QBc Wg D Q8!:=by
 show AL?;show x.step hi (x.wl.make hi hn a) Iw! (Jmj hi nu a) (x.rc.less hi (λl h=>h) λt ht ne=>?_);.show Oj?;rw[ZF] at ht;show F9?;(.show O?);·show Gj?;show h? Fw!;rw[e] at z;have:=Mq! x.sD.old _ z nu;show Az?
 .show#[?_,Gu!];show CS?;(.show I2?;show Bl?;(.show O?);·show Gj?;show Fd! JM4 ne);.show GU?;show BQ?;(.show G? #[r,hr,h]);.show As? (ZK hr)
def Jc7(h:t∈FD l ta):∃r0∈l,r0.1=ta/\t∈r0.2.2:=by unfold FD at h;cases e:WZ! (H!=ta) with | none=>show Ad? | some r =>show x?;show#[r,BE e,Q7!,h]
def La(hr:r∈LN l ta h):(dG!/\DF!=h)\/r∈l:=by
 unfold LN at hr;have#[r0,m0,e]:=ZN hr;show C? (r0.1=ta);.rw[BZ!] at e;show Fg! QEM (by rw[<-e])
 .rw[Ez!] at e;show JK7 m0
def Wg.hold(x:B0!)(hi:Sc){ta tb:T2}(hb:BP!):gK! Wx! Wx!:=by
 show AL?;show Cz? Wx! (JCh l9! q7! (by show Hj?;(.rw[e2] at ht;show D? PZ!;(.have#[r0,m0,e0,t0]:=Jc7 h;show h! #[r0,m0,AO! e0 e1,t0]);.rw[h];show JuN tb);.show F? JLT));show D4? (s.hold hb);show CS?;show Bt?
 .obtain⟨e1,e2⟩|h2:=La hr;(.rw[e2] at h;show D? (OY! h);(.show Iv h);.rw[h];show h! hb);.show G? #[r,h2,h]
def Wg.drop(x:B0!)(hi:Sc)(ta tb:T2):gK! Wy! Wy!:=by
 show AL?;have key:∀r∈(Lg G ta tb).holds,JWX:=kq! (by show Hj?;(.rw[e2] at ht;have#[r0,m0,e0,t0]:=Jc7 VK!;show#[r0,m0,AO! e0 e1,t0]);.show#[r,h,A!,ht])
 show Cz? Wy! (OC.less hi (λt ht=>ht) (λl hl _=>hl) wv PJ!);show D4? (s.drop ta tb);show CS?;show Bt?
 .have#[r0,m0,_,t0]:=wv r hr t h;show x! #[r0,m0,t0]
def Wg.take(x:B0!)(hi:Sc){ta tb:T2}(ha:At!)(hb:P7!):gK! Wu! Wu!:=by
 show AL?;show Cz? Wu! (JCh (Eb! (by show D? PZ!;(.show O?);.show h? Fw!;rw[h] at z;have#[r0,m0,e0,t0]:=Jc7 hb;show Mq! y.hand ta ha (DO! e0 (y.hold i q G hi r0 m0 tb t0 z)))) q7! JPq);show D4? (s.take hb);obtain h|h:=ht;.show D? (OY! h);(.show O?);.rw[h];show Iv hb
 show BC?
def Wg.free(x:B0!)(hi:Sc)(tb:T2):gK! Wv! Wv!:=by
 show AL?;show Cz? Wv! (QBg OC.less (Eb! VK!) (λl hl _=>hl) #[r,hr,A!,ht]);show D4? (s.free tb);obtain h|h:=ht;show w? (JC.mp h).1
 show BC?
def Ja8(hi:Sc){l:LT}(hb:l.th∈G.hand)(h1:JlP)(h2:kr!)(h3:kk!):Zw! Eo! (ls++[l]):=JnQ (Eb! (cG! h1 ht)) (λl' hl _=>by show p? hl;(.show O?);.rw[ZK h];show JuN _)
def Jq6(h1:JlP)(h2:kr!)(h:VY G' t):DS!:=by unfold VY at *;rw[h1,h2] at h;show h
def Wg.VM(x:B0!)(hi:Sc){b:T2}(hb:Or!)(hn:b.1=G.BX){g:Int}(g0:Fu!)(g1:g<m):JTH qG cf! ue! JaG ue!:=by
 show AL?;have st:=Ja8 (ls:=ls) (G':=JaG) (l:=QCL) hi hb A! A! A!;show NL? (x.wl.VM hi hb hn g0 g1) #[Jq6 (G:=G) A! A! ht,Gu!];have ht:J9! (Ck ii b (cf!)).map:=ht;show Fs?;.rw[h];show s.ok.hk b hb hn
 .show h
def Wg.XS(x:B0!)(hi:Sc){b:T2}(hb:Or!)(hf:dA!){g:Int}(g0:Fu!)(g1:g<m)(w2:2<=Z5!) : JTH Mz pX! iB! JaH iB!:=by
 show RP? JaH JjC x.wl.XS w2 _;.rw[AF c];show Ek! l!
 show Qa?
def Wg.VL(x:B0!)(hi:Sc){b:T2}(hb:Or!)(hf:dA!){g:Int}(g0:Fu!)(g1:g<m)(w1:Z5!=1) : Ue! JGP iC!/\JzF (Mz G b 0) iC!:=by
 show RP? (Mz G b 0) JjD x.wl.VL w1 0;.show G? #[_,sa!,ZM!,h! DQ!]
 show Qa?
open E
open S
def Jlf:sH! GV!:=ZV
def Jld:Ze! H1! GV!:=ZV
def Sn:sH! ZG!:=ZV
def Jlg:sK! ZG!:=ZV
def Jlh:sK! BM!:=ZV
def Jle:JFX BM!:=ZV
def Wt.JAu(h:vj!):(ZI! (OX!\/(dJ!/\Je!)))/\kr!/\kk!/\ZH!/\G'.BG=Fb!/\(∀t,Fe!=FV! G'.AL\/(Je!/\dl!=Fe!+x))/\(QBS Fm!) /\ (q0!->Aj G'.AL tb=rA!)/\(dJ!->HD!->Aj G'.AL tb=rA!):=by
 have put:∀t,FV! (Ck Ai! tb (ja Ai! tb+x))=Be! Je! rA! Fe!:=λt=>Ed! Eg
 obtain⟨k,⟨c,o,f,e⟩|⟨c,e⟩⟩|⟨k,e⟩|⟨k,e⟩:=h;.show Jl? JWG D0! Sn (λ_ z=>CT! c z);(.show q?;show D? PZ!;(.show O?);.show G? #[k,h]);.show q?;show D? QAt;(.rw[h];show PN! (El! (BE f)));.show h
 .show Jl? c5! JQ3 Sn (λ_ _=>JlJ);(.show q?;show D? PZ!;(.show O?);.show G? #[k,h]);.rw[e];show MR?;by_cases d:Je!;(.show NB?);.show I5?
 .show#[JQ4,KZ!,KZ!,KZ!,KZ!,c5!,JQ3,λ_=>JlJ,pW! Jle];rw[e];show MR?;by_cases d:Je!;(.show NB?);.show I5?
 .show#[JQ4,KZ!,KZ!,KZ!,KZ!,JWG,D0!,pW! Jlg,pW! Jlh];show q?;have ht:J9! (aT G tb x).map:=ht;unfold aT at ht;show C? Fz!;(.rw[BZ!] at ht;show D? QAt;(.rw[h];show c);.show h);.rw[Ez!] at ht;show ht
def Wg.wt(x:B0!){a b:cr}{l:LT}(es:dH!)(np:q6!)(hi:JE5) : ∃G',h3!/\Ue! QEv DN!/\JYa:=by
 show Dh?
 have hC:oJ! (¬D sB\/sR qs sB):=λnb=>h! (x.sD.YN l hl nb);have#[G',wt,w9]:=x.wl.wt es np hC hi;have#[h1,h2,h3,h4,_,h5,h6,h7,h8]:=wt.JAu;show AL?;show I1?;rw[QL!] at nu;show OI?
 have st:JYa:=JnQ (Eb! (by obtain h|⟨k,e⟩:=eo!;(.show O?);.rw[e];show x! (y.YN l hl (o! k Jlf)))) (λz hz _=>h! (BO! z hz));have x1:dL!:=by obtain⟨_,h⟩|⟨_,h,_⟩|⟨_,h,_⟩|⟨k,_⟩:=kk;(.show h);(.show h);(.show h);.show BD? k
 show#[G',wt,mS! w9 JQB (x.rc.next hi (λj t ne p=>?_) λt ht ne=>?_),st];.have#[z,hz,e,c]:=p;rw[es] at hz;show AI?;(.show#[z,BE! hz,e,c]);.show Ft?;(.rw[hz] at c;obtain⟨k,_⟩|⟨_,g⟩:=c;(.show BD? k);.show Fd! (Ed! g) ne);.show#[z,CI! hz,e,c]
 .rw[QL!] at ne;have r0:=P7 s.nn t;show Aq?;(.subst d;obtain⟨k,_⟩|⟨k,_⟩|⟨k,_,eg⟩|⟨k,_⟩:=kk;(.show l! (by rw[h8 k (o! nu ne)];lia));(.show l! (by rw[h7 k];lia));(.show M? eg.symm ne);.show BD? k);·(have hd:DS!:=by show CS?;(.obtain h|⟨_,h⟩:=h1 t h;(.show O?);.show Ar? d);.show G? #[r,AE! h2 hr,h]);(have er:dl!=Fe!:=by obtain h|⟨h,_⟩:=h5 t;(.show h.symm);.show Ar? d);obtain h|⟨z,hz,e,c⟩:=JoU (o! QL! ne);(.show KV! l! er h);.show h? #[z,?_,e,c];rw[es] at hz;show AI?;(.show BE! hz);.show Ft?;(.show M? (by rw[<-e,hz]) d);.show CI! hz
def R4(KH:Fz!):∀t∈ww (j_ G tb sh H_).map,Fm!:=Ak! (by unfold j_ at ht;show Fs?;(.rw[h];show KH);.show h)
def Wg.pass(x:B0!){a b:cr}{l:LT}(es:dH!)(hp:K3!)(hi:JE9):JgT (JbC AC uo! AC uo!) (JbC IR up! IR up!):=by
 show Dh?
 have nb:l.kind≠GV!:=U! hp Jld
 have#[KH,p1,p2]:=x.wl.pass es hp (l! (x.sD.YN l hl nb)) hi;show AL?;show I1?;show OI?
 have stp:JCi ((∀z∈more,z.th=l.th)->Zw! (QAj H_) (rB!)):=λH_ more hm X y=>QBg y.next (Eb! (by have ht:t∈cy G sB H_:=ht;unfold cy at ht;cases H_;(.show F? ht);.show D? PZ!;(.show O?);.rw[h];show x! JOv)) (λz hz _=>by show AI?;(.show F? (BO! z hz));.rw[HG! hm];show x! JOv) JPq;have rcn:JCi ((aO!:LT)∈more->XE (QAj H_) (rB!)):=λH_ more hm=>by (have pn:∀(j:Int) t,XF ls j t->XF (rB!) j t:=λj t #[z,hz,e,c]=>by rw[es] at hz;show AI?;(.show#[z,BE! (Gq! hz),e,c]);.show Ft?;(.rw[hz] at c e;obtain⟨_,c⟩|⟨k,_⟩:=c;(.show#[_,CI! hm,e,x! (Ao! c)]);.rw[hp] at k;show CT! k ZV);.show#[z,BE! (D4! hz),e,c]);show x.rc.next hi (λj t _ p=>pn _ t p) JCg;(have hd:DS!:=by obtain h|h:=ht;(.have h:t∈cy G sB H_:=h;unfold cy at h;cases H_;(.show O?);.show D? (OY! h);(.show O?);.show CT! ?_ ne;rw[h,BM ib.1.1]);.show y?);show D? (JoU ne);(.show O?);.show G? (pn _ t h)
 show#[KH,QR!,QR!];·(have st:=stp AC z3! (Al! (by rw[ZK hz])));show#[mS! (p1 e) JRM (rcn AC _ m5!),st]
 ·(have st:=stp IR JLs (Al! (by obtain hz|hz:=ZI hz<;>rw[ZK hz])));have rn:=rcn IR JLs (D4! m5!);rw[<-BH] at st rn;show#[mS! (p2 e) JRM rn,st]
def Jop(h:VY sS! t):DS!/\T! Wt!:=by
 obtain h|⟨r,hr,h⟩:=h;show LL? (JG6 (AM (show t∈(keepR G R).hand from h)))
 .have hr:r∈(keepR G R).holds:=hr;show K7?;unfold DL;show Jz? aR!;show GO?
def Wg.clean(x:B0!)(hi:Sc)(rc:XK!)(pm:DY!) : Ue! JGO JMa/\QDJ cO! DE!:=by
 show PI? cO! DE!;show NL? (x.wl.clean hi (Eb! (x! #[i,q,G,hi,ht])) rc pm) ?_;.show QAH ht
 show PO? Jop I0! Wt!
open E
abbrev Ph(t:T2)(rs:Q!):KE:=(Lk! λq=>JcI).sum
def Jiu(t:T2):∀(rs a:Q!),Kk (rs.foldl Dr! a) t=Kk a t+Ph t rs
 | [],a=>by simp[Ph]
 | q::rs,a=>by rw[List.foldl_cons,Jiu t rs];have e:Kk (Dr! a q) t=FV! (Ck a H! JbA):=rfl;rw[e,Eg];unfold Ph;rw[AI,DO];show C? (t=H!);(.rw[BZ!,AF ZM!,c];show P! kl! _);.rw[AD c,AD (Tk! c)];change Kk a t+_=_;lia
def Jvz(t:T2)(a b:Q!):Ph t DN!=Ph t a+Ph t b:=by unfold Ph;rw[ZF,OQ]
def Jhx(t:T2):∀(L:D8!),Ph t (Oi! Ja!)=JUE
 | []=>rfl
 | S::L=>by rw[DJ,Jvz,Jhx t L,AI,DO]
def Ju4(t:T2)(L:D8!):Kk (Dz L) t=JUE:=by unfold Dz;rw[Jiu,Jhx];change 0+_=_;show ko! _
def Jmg{t:T2}:∀{rs:Q!},og!->Ph t rs=FV! rs
 | [],_=>rfl
 | q::rs,nd=>by show AW?;have ih:=Jmg (t:=t) PN.2;rw[Joy];unfold Ph at *;rw[AI,DO,ih];show C? BR!;(.rw[BZ!,BZ!,TG! Gh c PN.1];show kn! _);.rw[AD c,Ez!];show ko! _
def Po{α:Go}{f:d6!}{b:Qp!}:∀{l:R!},(∀x∈l,0<=f x)->Jeg<=JAZ/\∀j∈l,A0! (b j)->Jeg+f j<=JAZ
 | [],_=>#[ci,λj hj=>Fa! hj]
 | a::l,h=>by have#[i1,i2]:=Po (f:=f) (b:=b) (l:=l) λx hx=>h x (Ec! hx);have h0:=tk!;rw[FN];cases c:b a with | true =>rw[BY!,AI,DO,AI,DO];show#[Int.add_le_add_left i1 _,JCj];obtain e|hj:=ZM hj;(.rw[e,c] at bj;cases bj);.have:=i2 j hj bj;lia | false =>rw[AD AR,AI,DO];show#[BL i1 (FU h0),JCj];obtain e|hj:=ZM hj;(.rw[e];lia);.have:=i2 j hj bj;show BL this (FU h0)
abbrev cq(t:T2)(qs:No)(h:Nat):KE:=JT7 p.2.AL
abbrev fE(t:T2)(qs:No)(h:Nat):KE:=JT7 p.2.AK
def Ja6(t:T2):∀(qs:No),Ko t qs=yP! (cq t qs h)-yP! fl!
 | []=>by simp[Ko]
 | p::qs=>by have ih:=Ja6 t qs;show KL?;simp only[AI,AX,DO];(have e1:x8! (gf! cq h) (cq t qs h):=by funext h;simp[cq]);(have e2:x8! (gf! fE h) fl!:=by funext h;simp[fE]);rw[e1,e2];change QR t AQ!+Ko t qs=_;rw[ih];unfold QR;(have e3:gf! cq 0=FV! p.2.AL:=by simp[cq]);(have e4:gf! fE 0=FV! p.2.AK:=by simp[fE]);rw[e3,e4];lia
def Jru{f:F0!}{h0:Nat}:∀{m:Nat},h0<m->(∀h,h≠h0->f h=0)->QDr f=f h0
 | 0,hl,_=>W!
 | m+1,hl,h=>by rw[HD,ZF,OQ];simp only[AI,GZ,DO,PK];show C? (h0=m);(.subst c;(have:∀k,k<=h0->((AR! k).map f).sum=0:=λk=>by induction k with | zero=>intro _;simp | succ k ih =>intro hk;rw[HD,ZF,OQ,ih (BU hk)];simp only[AI,GZ,DO,PK];rw[h k (BP hk)];lia);rw[this h0 B6!];lia);.rw[Jru (m:=m) (LY (HV hl) c) h,h m (Tk! c)];show kn! _
structure Jth(G:CU)(S:HS):B! where
 hand:SR! (t∈S.1)
 row:∀t∈PB!,∃r∈Pi!,Vo!
 JIl:q8! (z9! AT/\Dz!=Aj ii AT)
 JIm:q8! (SG! (H!=AT->∀t∈BS!,t∈DF!))
 AL:∀t,Ph t S.2.2=Fe!
 JR1:∀t∈S.1,OX!
 JRz:q8! (c8! (t∈FD AK! AT))
abbrev Lb(m:Nat)(b:NO!)(S1:Ix!):D8!:=Du! qJ! b S1
abbrev GS(m:Nat)(b:NO!)(S1:Ix!)(t:T2):B!:=J9! (EV! p6!).map/\¬Led p6! t
def XM{m:Nat}{b:NO!}{S1:Ix!}{S:HS}:S∈Lb m b S1↔∃h,AW!/\gI!/\S1 h=S:=by
 unfold Lb;rw[AQ];show g?;.rintro⟨h,hh,e⟩;show k? (JE! hh);show#[h,OJ! h1,h2,e]
 .rintro⟨h,h1,h2,e⟩;show#[h,QM! (Rp! h1) h2,e]
def PJ{L:D8!}{r:Ef!}:qq!↔∃S∈L,r∈Pi!:=by unfold rowsOf;show EC
open S
variable {D:T2->Prop}{m n:Nat}{sh:Int}{qs:List (Addr×CU)}{ls:List LT}
def Wg.snap(x:B0!){b:NO!}{S1:Ix!}(hs:∀(h:Nat) q G,r7!->gI!->Jth G (S1 h)):JaK S1:=by
 have lm:=x.wl.len;have key:io! ((M_ λ(h:Nat)(q:Addr)(G:CU)=>r7!/\gI!/\AV!=bv/\Fm!)/\Dx t ls=0/\JQ5 (Fe!=0)):=λt #[ht,nl]=>by show GP?;have#[S,hS,NF]:=sW!;have#[h,hm,bh,e2]:=XM.mp hS;subst e2;show Kn? h (lm▸hm);have T:=hs h q G eq bh;have#[o1,o2]:=T.JIl r NF;show GG?;rw[e] at o1 o2;(have t1:AV!=bv:=JYC o1);have ew:Dz!=Kk (Dz p6!) AT:=y3! (λz=>mo! nl (.out hr z));rw[e,Ju4] at ew;(have eR:∀k,k<m->HN λq G=>Zd! (qs[k]?)/\pI!=Fe!/\fE t qs k=MB!:=OL! (by show Kn? k (lm▸hk);show#[q,G,eq,by unfold cq;rw[eq];rfl,JSf]));(have eA:((Lb m b S1).map λS=>Ph t S.2.2).sum=((qJ! b).map JCk).sum:=by unfold Lb;rw[AX];congr 1;show DH Vn!;show k? (JE! hk);show Mp? h1;change Ph t (S1 k).2.2=pI!;rw[e3,(hs k q' G' WD h2).AL t]);rw[eA] at ew;(have nnR:∀k∈AR! m,0<=pI!:=OL! (by show Mp? hk;rw[e3];show P7 (Dn! WD).1.nn t));(have sO:QDr (λk=>fE t qs k)=fl!:=Jru hm λk nk=>by by_cases hk:k<m;(.have#[q',G',WD,_,e4]:=eR k hk;rw[e4];show x.wl.JA2 (r:=(q',G')) WD (o! t1 (Gs! nk.symm Oq!)));.unfold fE;rw[EW (lm▸(Cy! hk))];rfl);(have oh:fl!=MB!:=JSf);have sm:=x.wl.sum t (IN #[h,q,G,eq,o1]);rw[Ja6,lm,sO,oh,<-o2] at sm;have l0:=Jak (t:=t) x.wl.ok;have#[f1,f2]:=Cs! Po f JCk b b nnR;show#[#[h,q,G,eq,bh,t1,o1],W!,λj q' G' WD bj=>?_];(have hj:j<m:=Z0! lm WD);have f3:=f2 j (Rp! hj) bj;(have e5:cq t qs j=FV! G'.AL:=by unfold cq;rw[WD];rfl);have nn5:=nnR j (Rp! hj);rw[e5] at f3 nn5;lia
 have nol:io! (OS! (l.th≠t)):=λt ht l hl e=>by have:=Jmi x.wl.ok hl;show n? e (wv t ht).2.1;lia
 have far:io! (JQ5 (¬DS!)):=λt ht j q G eq bj hd=>by have#[#[h,q',G',WD,bh,t1,_],_,z]:=wv t ht;(have nj:fg!:=λy=>by show MK? y;rw[this,bj] at bh;cases bh);obtain r|⟨l,hl,e,_⟩:=x.rc j q G eq t hd nj;(.have:=z j q G eq bj;show CT! r (YY! (JO this)));.show nol t ht l hl e
 show#[λj q G eq t ht gs=>?_,λl hl _ gs=>nol _ gs l hl A!,λj q G eq r0 aS t ht gs=>?_,λj q G eq t gs tj=>?_];.cases bj:b j with | false=>show far t gs j q G eq bj sO! | true =>show Jv?;show gs.2 (GY! (XM.mpr JjA) ((hs j q G eq bj).hand t ht))
 .cases bj:b j with | false=>show DL! IN #[r0,aS,ht] (far t gs j q G eq bj) | true =>show Jv?;have T:=hs j q G eq bj;show GG?;have#[r,hr,e]:=T.row r0.1 (AE! ZL! (mg! r0 aS));have mr:r∈EV! (Lb m b S1):=PJ.mpr #[_,XM.mpr JjA,hr];show#[PN! #[r,mr,e],λld=>gs.2 ?_];show .step mr (T.JIm r hr r0 aS FB! t ht) (o! e ld)
 .have#[#[h,q',G',WD,bh,t1,o1],_]:=wv t gs;show MK? tj;subst this;have e:(q',G')=L2!:=ZO (WD.symm.trans eq);show GG?;show(Op! t (DO! vA! o1)).2
open E
abbrev Wu(G:CU)(ts:F!):CU:=KQ (IC Bq!)
open S
variable {D F:T2->Prop}{m n:Nat}{sh:Int}{qs:List (Addr×CU)}{ls:List LT}{i:Nat}{q:Addr}{G:CU}{ts:List T2}
def Jk9{t:T2}(h:VY d1! t):DS!/\T! Ws!:=by
 obtain h|⟨r,hr,h⟩:=h;show LL? (JG6 (AM (show t∈(Ay G ts).hand from h)))
 .have hr:r∈(Ay G ts).holds:=hr;show K7?;unfold DL;show SG? (Ay G ts).holds.any #[r,hr,aR!];show GO?
def J6y(ok:sw)(h1:SR! (t∉ts))(h2:∀r∈G.holds,AT∉ts->c8! (t∉ts)):RA!:=by
 have sub:(kJ! λq=>decide (mX!)).Sublist ii:=IZ;show#[SX!,ok.hz,JV3 (sub.map _),AA sub.length_le ok.oz,?_,Oa!,ok.rz,FG! (Ls! r (JE! hr).1),Ak! (SY! t ((sub.map _).subset ht)),M5!,λr hr t ht e=>?_,ok.rk];.show Gy? Ux! Ux!;(have e1:MO! SV! Ux!=uV! sz!:=sc!);(have e2:MO! kJ! Ux!=e9! sz!:=sc!);rw[e1,e2,Ht!]
 .have m:=v6!;have#[o,ho,eo]:=Ey!;show B2! (JoQ eo!)
 .have#[HJ,NF]:=JE! hr;have m:=ok.lk r HJ t ht e;have#[o,ho,eo]:=Ey!;show B2! (JoQ (h2 r HJ (by simpa using NF) t ht))
def J6e(x:CC!)(kC:RA!):G3! d1!:=by show Po?;show Cu? hk;show L1?;rw[e];show(Cs! Jk9 G G ts ts ht).2
def Wg.JJH(x:B0!)(hi:Sc)(sF:QP! F)(fD:JSh)(ht:∀t,t∈ts↔(F t/\Uf! AV!)){rs:Q!}(pm:DY!) : Ue! (qs.set i (q,bY!)) (ls++(Cr Bq! rs).map (Li AN!))/\QDJ bY! Bq!/\RA!:=by
 show AL?;have okL:RA!:=J6y s.ok (λt m z=>Mq! sF.hand t m JNB) λr hr nr t m z=>nr ((ht AT).mpr #[sF.hold i q G hi r hr t m JNB,AO! (Op! AT (DO! ZL! yF!)).1 nu]);show PI? bY! Bq!;have gone:Y1! (¬JSN):=λt m z=>by have#[f,t1]:=(ht t).mp m;obtain z|⟨j,q',G2,e,o⟩:=z;(.show z (fD t f));.obtain⟨_,e2,_⟩|⟨nj,e⟩:=F8 e;(.rw[e2] at o;have#[y,hy,ey]:=ZN o;have:=US! hy;show I? ey;show(BN this) m);.have#[s2,nu2]:=Dn! e;have:=(s2.ok.new t o).1;lia
 have C':∀t,JSN->(¬D t\/sR qs t):=λt h=>by show A0?;(.show O?);.show D? (h.set hi);(.show y?);.show G? #[i,q,G,hi,JD8]
 show#[#[(x.wl.mono C').next hi (J6e s okL) A! cn! (λt ct=>?_) ?_,st D x.sD,x.rc.less hi (λl h=>IS!) JCg],st,okL];show Q7? x.wl.ok
 .rw[Kr];show Km?;show Pw? Bq! Iz!;show NQ? Ws!;show LG? Iz! Ux!;rw[Fg Ai! (λt=>Ws!) t,Fg ii (sz!) t];rw[AF (AM (IF! (¬t∈ts) (λz=>gone t z ct)))];cases Ws!;(.show LU?);.show LT?
 .show P8? Bq! Iz! Iz! Iz! Iz!
 show PO? Jk9 Iz! Ws!
def Wg.more(x:B0!)(sF:QP! F):Wg (λt=>D t\/F t) m n sh qs ls :=#[x.wl.mono λt h=>by show A0?;(.show F? (Gs! h l!));.show y?,#[λj q G e t ht z=>OP! (x.sD.hand j q G e t ht) (sF.hand j q G e t ht),λl hl nb z=>OP! (x.sD.YN l hl nb) (sF.YN l hl nb),λj q G e r hr t ht z=>OP! (JoT l! x.sD.hold) (JoT IN sF.hold),λj q G e t z tj=>OP! (λz=>x.sD.old j q G e t z tj) λz=>sF.old j q G e t z tj],x.rc]
open E
open E Lake.K52
open N Lake.FX
open PySem PySem.Spec PyProof.Rows L2
abbrev rg(n:Nat):q!:=Du! AR! n rC!
def Pz(n:Nat):AZ! rg n=n:=by unfold rg;rw[ZA,DV]
def TJ:x∈rg n↔(0<=x/\x<n):=by
 unfold rg;rw[AQ];show g?;.rintro⟨k,hk,rfl⟩;have:=OJ! hk;show#[NE!,(C0! this)]
 .show A3?;show#[x.toNat,ne!,QA3 BM]
open S
open E
open E Lake.FX
open N Lake.K52
open PySem L2 FX
inductive LL where
 | w (l:LT)
 | ask (s g n u:Int)
 | MN (s g n u tick:Int) (S:HS)
 | lt (s g:Int) (ts:F!)
abbrev wOf:LL->L1! LT
 | .w l=>D! l
 | _=>none
abbrev vd(n u:Int):LL->CJ!
 | .ask _ g n' u'=>JYd g
 | _=>none
abbrev xw(n u:Int):LL->Xr! (c1!)
 | .MN s _ n' u' tick S=>JYd Im!
 | _=>none
abbrev Dy(al:V!)(n u:Int):q!:=Jhd vd
abbrev Dp(al:V!)(n u:Int):F3!:=Jhd xw
abbrev LM(al:V!):cr:=al.filterMap wOf
def C9(a b:V!)(n u:Int):Ka! A5! u=VC! a++VC! b:=VR ..
def C1(a b:V!)(n u:Int):JNe=VD! a++VD! b:=VR ..
def Ek(a b:V!):o5!=LM a++LM b:=VR ..
def Hq(z:LL)(b:V!)(n u:Int):Ka! (z::b) u=(vd n u z).toList++VC! b:=by unfold Dy;rw[I_];cases vd n u z<;>rfl
def Fu(z:LL)(b:V!)(n u:Int):Pm! (z::b) u=(xw n u z).toList++VD! b:=by unfold Dp;rw[I_];cases xw n u z<;>rfl
abbrev Qaj(al:V!):B!:=∀n u,JeK
def Wd:∀ls:cr,Qaj (Hr! .w)
 | []=>Os! DQ!
 | l::ls=>Os! #[by rw[AI,Hq];show qG!,by rw[AI,Fu];show qH!]
def Jvl:∀ls:cr,JT4=ls
 | []=>rfl
 | l::ls=>by change l::JT4=_;rw[Jvl ls]
structure zp(h:Int)(S:HS):B! where
 nd:CH! S.2.1.map
 hz:S.1.length<=60
 rz:S.2.2.length<=60
 oz:∀w∈Pi!,w.1.1=h/\0<=w.1.2/\w.2.2.length<=60
structure Me(qs:No)(r:c1!):B! where
 tk:JQ6 (Dz!<=G.BG/\(Dz!=G.BG->Jth G DF!))
 so:zp AT DF!
 nw:JQ6 (∀w∈r.2.2.2.1,w.1.2<G.AY)
abbrev Lk(fi:F3!)(h:Nat):KE:=JGD Ot! Hm!
abbrev My(fi:F3!)(h:Nat):HS:=((Ot! QN!).map Ja!).getD ([],[],[])
abbrev Still(qs:No)(al:V!)(n:Int)(fi:F3!)(se:QX!)(h:Nat):B! :=
 (∃r∈se,wz! cM!)\/(∃r∈ta!,AT=bv/\Dz!=cM!)\/(bv∈Dy al n 2/\HN λq G=>r7!/\G.BG=cM!)
structure UI(m:Nat)(qs:No)(ls:cr)(al:V!)(n:Int)(fi:F3!)(se:QX!):B! where
 t1:JOd tR! al QBz
 t2:(ks!/\JlY)\/(Ou!/\JlX)
 f1:∀r∈fi,Me qs r
 f2:q9! tZ!
 s2:Ou!->∀b:NO!,(Vs! (AW!->gI!->Still qs al n fi se h))->JaK (My fi)
def J23{m:Nat}{fi:F3!}(pm:v2!){h:Nat}(hh:AW!):∃r∈fi,t8!/\JVZ/\JeL:=by have m1:Um! bv fi.map:=JhM;have#[r0,aS,e0]:=ZN m1;cases e:Ot! QN! with | none =>show K1? | some r =>show#[r,BE e,Q7!,?_,?_];(.unfold Lk;rw[e];rfl);.unfold My;rw[e];rfl
open S
variable {m:Nat}{qs qs':List (Addr×CU)}{ls QL:List LT}{al al':List LL}{n:Int}{fi:List (Int×Int×HS)}{se:List (Int×Int)}{i:Nat}{q:Addr}{G G':CU}
def UI.whole(x:LL!)(e:Ou!):tR!=[]/\nc! 1/\v2!:=by have l:=x.t1.length_eq;rw[ZE,ZE,ZA,ZA,Pz] at l;have e1:tR!=[]:=Q0!;have e2:nc! 1:=Q0!;show#[e1,e2,?_];have t:=x.t1;rw[e1,e2] at t;show t
def UI.wD(x:LL!)(ha:JZ4)(hb:JZ5)(st:Zw! qs QL):UI m qs QL AL! n fi se:=by show OW? x.f1 (U! hb x.f2);have:=hs h hh bh;show FL?;show n? ha hb;show this
def UI.oj(x:LL!)(hi:Sc)(tk:Sm!)(md:H2!)(ha:JZ4)(hb:JZ5)(st:wc!):UI m Eo! QL AL! n fi se:=by
 have fo:∀r,Me qs r->QBt Me r:=λr h=>JW8 (by show Hk?;(.have:=h.tk i q G hi JYj;rw[e2];show#[BL OW! (UP tk),λz=>CT! (BL tk (JO OQ!)) (YY! OW!)]);.show h.tk j q2 G2 e ej) h.so (by show Hk?;(.have:=Mq! h.nw JYj w9 hw;rw[e2];show BL this md);.show h.nw j q2 G2 e ej w9 hw);show OW? (FG! (fo r (x.f1 r hr))) (FG! (fo r (x.f2 r (DO! hb hr))));have:=hs h hh bh;show FL?;show n? ha hb;obtain h1|h1|⟨h1,q2,G2,e2,e3⟩:=this;show w? h1
 .show Bj? h1
 .obtain⟨e4,e5,_⟩|⟨_,e4⟩:=F8 e2;(.exfalso;have#[r,hr,er,et,_]:=J23 (x.whole e).2.2 hh;have:=((x.f1 r hr).tk i q G hi (Ck! er e4)).1;rw[e5] at e3;lia);.show BH? #[h1,q2,G2,e4,e3]
def UI.asked(x:LL!)(es:JLO .ask)(g0:Fu!)(hi:Zd! (qs[g.toNat]?))(et:tick=G.BG)(tl:Jth G S)(so:zp g S)(nw:∀w9∈Pi!,cs!<G.AY):mC! JP8 fi se:=by
 have A:∀n u2,Ka! uf! u2=Ka! A5! u2:=λn u2=>by rw[C9];change _++[]=_;rw[AO]
 have A0:∀u2,Dy al n u2=Dy a n u2++(QAS (n'=n) Jq! g++Dy b n u2):=λu2=>cB! es C9 Hq
 have B:∀u2,Pm! uf! u2=Dp al n u2++QAS (n'=n) Jq! Wf!:=λu2=>by rw[C1,C1,es,C1,Fu,Fu];change RE! (n'=n) Jq! Wf! []=_;rw[AO];rfl
 have eG:∀(j:Nat) q2 G2,qs[j]?=D! (q2,G2)->g=lc->G=G2:=λj q2 G2 e ej=>by (have:j=g.toNat:=W!);rw[this,hi] at e;show(Yy! (ZO e)).2
 have fo:Me qs Wf!:=JW8 (by rw[<-JUi];show#[by change tick<=G.BG;show(JO et),λ_=>tl]) so (AE! JUi (nw w9 hw));have pmv:∀(P9 Q R T:q!)(y:Int),(P9++([y]++Q)++R++T).Perm (P9++Q++(R++[y])++T):=λP9 Q R T y=>by show MX T ?_;have h1:(P9++([y]++Q)).Perm (y::(P9++Q)):=List.perm_middle;(have h2:(P9++Q++(R++[y])).Perm (y::(P9++Q++R)):=AE! BH (JW (l₂:=[y])));show WQ! h1.append_right R h2.symm
 have tok:∀u2 (T:q!),JZU (Dy al n u2) al->JZU (Ka! uf! u2) JP8:=λu2 T h=>by rw[A,B,C9,ZF];rw[A0] at h;show C? (n'=n/\Jq!);(.rw[BZ!] at h ⊢;show(pmv _ _ _ _ g).symm.trans h);.rw[Ez!] at h ⊢;simpa using h
 show#[tok 1 _ x.t1,?_,x.f1,K2!,JnR];.obtain⟨z1,z2,z3,z4⟩|⟨z1,z2⟩:=x.t2;(.rw[A0] at z2;(have nc:¬(n'=n/\u=2):=λc=>by rw[BZ!] at z2;simp at z2);rw[AD nc] at z2;show l! #[z1,?_,?_,z4];(.rw[A,C9];simpa using z2);.rw[B,AD nc,z3];rfl);.show G? #[z1,tok 2 _ z2]
 .rw[B] at hr;show BQ?;(.show x.f2 r hr);.show C? (n'=n/\u=1);(.rw[BZ!] at hr;(have:r=Wf!:=by simpa using hr);show K?;show fo);.rw[Ez!] at hr;cases hr
 .have:=hs h hh bh;show FL?;obtain h1|⟨r,hr,e1,e2⟩|⟨h1,h2⟩:=this;(.show F? h1);(.rw[B] at hr;show BQ?;(.show Bj? JTW);.show C? (n'=n/\u=2);(.rw[BZ!] at hr;(have er:r=Wf!:=by simpa using hr);rw[er] at e1 e2;have e1:g=bv:=e1;have e2:tick=cM!:=e2;(have eh:h=g.toNat:=W!);show AC? #[?_,q,G,rb! hi,UJ! e2 et];rw[A0,BZ!,<-e1];show CI! (Gq! m5!));.rw[Ez!] at hr;cases hr);.rw[A,C9] at h1;show AC? #[?_,h2];rw[A0];obtain h1|h1:=ZI h1;(.show BE! h1);.show CI! (D4! h1)
open E
open S
abbrev Ex(m:Nat)(g n u:Int):V!:=JNH (λi:Nat=>.ask g AN! n u)
def Lj:Dy iA! n2 u2=Be! (n=n2/\Jq!) (rg m) []:=by
 unfold Dy Ex;rw[JD4];show C? (n=n2/\Jq!);.rw[AF c];show OY? (λi:Nat=>D! AN!) (by funext i;change aL! (n=n2/\Jq!) AN!=_;rw[AF c]);show K?;unfold rg;show congrFun List.filterMap_eq_map' _
 .rw[AD c];show OY? (λ_:Nat=>none) (by funext i;change aL! (n=n2/\Jq!) AN!=_;rw[AD c]);show K?;simp
def Pe:Dp iA! n2 u2=[]:=by simp_all [Dp,Ex,xw]
def Jtd:LM (cY! u)=[]:=by simp_all [LM,Ex,wOf]
def J2t(m:Nat):MM! rg m:=JmF
def Qav(m1:1<=m)(h1:∀u,mt!=[])(h2:∀u,nc! u)(g:Int):mC! (al++cY! 1) [] []:=by
 have A:∀u,Ka! JCm u=Be! (u=1) (rg m) []:=λu=>by rw[C9,h1,Lj];show C? (u=1);(.rw[AF (Ao! ZM!),BZ!];rfl);.rw[AD (λz=>c z.2.symm),Ez!];rfl
 have B:∀u,Pm! JCm u=[]:=λu=>cB! C1 h2 Pe
 show#[?_,h! #[KN! (0<m) m1,?_,B 2,A!],FG! (lu! hr),K2!,QR!];.rw[A,B,BY!];simp
 .rw[A,bM!]
 .rw[B] at hr;cases hr
 .have:0=m:=e;show Mx! m1 (gU! this.symm)
def UI.first(x:LL!)(es:JvA 1) : ks!/\rD!/\(rE!≠m->JKS DN!)/\(rE!=m->JYF N->∀g,JKS (A5!++cY! 2)):=by
 show Oz?
 have B1:Jpf tZ! 1 1:=by rw[es,C1,Fu];change RE! (n=n) (IX!=1) Im! _=_;rw[AF DQ!];rfl
 have B2:ta!=Pm! A5! 2:=by rw[es,C1,Fu,C1];change RE! (n=n) (IX!=2) Im! _=_;show LC?;rfl
 show RK? (JOd e6! DN! (ww (Ur!).map)) x.t1 B1 e6! (QDf a) (QDf b) QBz
 show PA? Ur!
 show PJ? rD!
 show Q3? ks! Im! c1!
 have z2:JlY:=by obtain⟨_,h⟩|⟨h,_⟩:=x.t2;(.show h);.lia
 have#[z2a,z2b,z2c]:=z2;have f1:q9! Ur!:=FG! (JZt hr x.f1 r (x.f2 _ (JEY B1)))
 have f2:q9! ve!:=FG! (x.f2 r (by rw[B1];rw[C1] at hr;show GA?;(.show IS!);.show Cg?));have ln:Fq! Ur!=rE!:=JF4
 show#[lt,sn,λne=>#[pm,h! #[W!,AE! A z2a,AE! B2 z2b,z2c],f1,f2,λe=>W!],λee wg g2=>?_];have A1:Ka! hM! 1=e6!:=by rw[C9,Lj,AD (λz=>QF! z.2),AO]
 have A2:Ka! hM! 2=rg m:=by rw[C9,Lj,JE1,<-A,z2a];rfl
 have C:∀u,Pm! hM! u=JNe:=JR6 Pe
 have C2:Pm! hM! 2=[]:=by rw[C,<-B2,z2b]
 have pf:JOc Ur!:=by have l:=pm.length_eq;rw[ZE,ZE,ZA,ZA,Pz,ln] at l;have e1:e6!=[]:=Q0!;have e2:ve!=[]:=Q0!;have t:=pm;rw[e1,e2] at t;show t
 show#[O7! A1 C pm,Cj! (j2! ln ee) (by rw[A2,C2,z2c];simp),f1,U! C f2,λ_ bb hs=>wg.snap λh q G eq bh=>?_];have hh:AW!:=Z0! wg.wl.len eq
 obtain⟨r,hr,_⟩|⟨r,hr,_⟩|⟨_,q2,G2,e2,e3⟩:=hs h hh bh;.rw[z2c] at hr;cases hr
 .rw[C2] at hr;cases hr
 .rw[eq] at e2;have eG:G=G2:=g8! e2;have#[r,hr,er,et,e4]:=J23 pf hh;rw[e4];show((f1 r hr).tk h q G eq er).2 (by rw[<-et,<-e3,eG])
def UI.second(x:LL!)(es:JvA 2) : Ou!/\se.length<m/\JCn/\mC! DN! fi (rF!):=by
 show Oz?
 have B2:Jpf ta! 2 2:=by rw[es,C1,Fu];change RE! (n=n) (bi 2=2) Im! _=_;rw[AF DQ!];rfl
 have B1:tZ!=ve!:=by rw[es,C1,Fu,C1];change RE! (n=n) (bi 2=1) Im! _=_;show LC?;rfl
 have t2:Ou!/\JlX:=by obtain⟨_,_,h,_⟩|h:=x.t2;(.rw[B2] at h;simp at h);.show h
 show RK? ((JKq++o9! DN!++ww (rF!).map).Perm (rg m)) t2.2 B2 JKq (o9! a) (o9! b) nS!
 show PA? rF!
 show PJ? JCn
 show Q3? (se.length<m) (s,FQ!) js!
 show#[t2.1,lt,sn,#[by rw[<-A,<-B1];show x.t1,Cj! t2.1 pm,x.f1,AE! B1 x.f2,JnR]];obtain⟨r,hr,e1,e2⟩|⟨r,hr,e1,e2⟩|⟨h1,h2⟩:=hs h hh bh;.show BQ?;(.show F? JTW);.have er:=ZK hr;rw[er] at e1 e2;show UW! #[Im!,PX! B2,e1,e2]
 .show BI? #[r,?_,e1,e2];rw[B2];rw[C1] at hr;show GA?;(.show IS!);.show Cg?
 .show BH? (nR! A h1 h2)
def UI.done(x:LL!)(e:Ou!){c:F0!}(hc:∀h,AW!->∃r∈se,wz! (c h)):QP! (GS m (λh=>Gn! (Lk fi h) (c h)) (My fi)) :=x.s2 e _ λh hh bh=>by have#[r,hr,e1,e2]:=hc h hh;show h! #[r,hr,e1,Kq! e2 (Fk! BN bh)]
open E
open S
inductive Jpy(vs:C!)(H:Hp)(Q:VK)(E:XK):B!
 | mk (p ta:Addr) (G:CU) (n:Nat) (rs:Q!) (ts:F!) (as:S!) (_:JSa) (_:Op) (_:sw) (_:Vi!) (_:XD!) (_:XT!) (_:DY!) (_:F6!) (_:AY! ta a6!) (_:F5!) (_:RA!) (_:JqP QFq Bq!)
def J6h:JFE PT! Jmx:={}
def J04(F:Z! GS! "House.let" Jmx)(T:Txt)(Tx:J2h)(ML:JeB)(MG:Jd5) : Ma! PT! Jpy:=by
 show Pu?;show PG?;show E? J6h;have#[p,ta,G,n,rs,ts,as,rfl,S,ok,zn,rL,rK,pm,pw,et,th,kC,k]:=h;show A?;show H?;show B?;show Bm? (JkC Kp!) (Wr! MW! JwV);show#[F8?,_,A!,hp,DJ!,_,A!,p,ta,G,as,ts,A!,S,Ht!,x! et,th,JCZ];have#[gN,rQ]:=S9.ob;show Og?;rw[Ct];have lI:=S9.fld gN (Ay G ts).AY ((Ay G ts).BG+1);show Ki? (aX! Jd1)
 have lI:ID! Jd1 (KQ Bq!):=lI;show Kj? (av! gN { Ay G ts with BG:=(Ay G ts).BG+1 });have#[wQ,wH]:=lI.ob;show RX? Bq!;show Kk? (mQ! br);show JvT e (λz=>h2 (Qa1 ts z))
open E
inductive TH(H:Hp)(t:Addr)(k:Int)(kind:Str)(s g n u:Int):B!
 | mk a (_:JjS BA!) (_:QCw IO! u)
inductive XG(H:Hp)(t:Addr)(k s g:Int)(ts:F!):B!
 | mk (a:Addr) (as:S!) (_:JjS GS!) (_:Ce! a6!) (_:F5!)
def TH.keep(h:yd! BA!)(kt:Ae!):TH H' t k BA! s g n u:=let#[a,e1,e2]:=h;#[a,NF! ST!,Ut! ST!]
def XG.keep(h:JQz)(kt:Ae!):XG H' t k s g ts:=let#[a,as,e1,e2,th]:=h;#[a,as,NF! ST!,Ut! ST!,My! kt th]
structure QC(H:Hp)(c b n turn:Int)(L:X!)(m:Nat):B! where
 BX:JUT
 OY:JoR (TH H Bi! BJ! AU! b AN! n GC!)
def QC.len(x:QC H c b n GC! L m):kt!:=JQS
open S
def Qa6(x:Cq!):yf! EU! { W with G_:=l } EU!:=by
 show HJ?;show EB? (b≠W.en) EU!
 show KD? g1 g2 a6 b5 c4 (KM f x.fi d3) Ab;show CA? EU!
 show DY?
def Qar(x:Cq!):yf! Dm! { W with IF:=l } Dm!:=by
 show HJ?;show EB? (b≠W.fi) Dm!
 show KD? d1 d2 a5 b4 c3 Ab (JNY d3);show CA? Dm!
 show DY?
open E
open S
inductive Kt(vs:C!)(H:Hp)(Q:VK)(E:XK):B!
 | mk (p:Addr) (b n turn:Int) (W:EF) (_:vs=[Cc!,g! b,IO!,g! GC!]) (_:wn) (_:Vv!) (_:HK!) (_:∀(l:Addr)(L:X!)(H':Hp),JHb MK!->JUQ b GC!->KX!->bQ! au!->l≠W.hs->sJ p W H l->JF5)
def Jtx:Ap! Me! Me! Kz:={}
def Jqk(F:Z! "ask_all" "World.ask_all" Kz)(T:Txt)(TW:He)(TP:Tj)(M3:Rd!) : Ma! Me! Kt:=by
 show Fb?;show E? Jtx;have#[p,b,n,turn,W,rfl,S,z1,z2,k]:=h;show A?;show B?;show RF? Jtn JnO JTk #[A!,A!,A!,A!,A3!] (J93 BT! BT! BT! BT! h) #[KE!,KE!,KE!,KE!,A3!] (Aq EQ A!) (lq! FM SC (QA8 Br!));show HC?
 show#[C5?,dx,_,_,A!,hp,wE,Hz!,Ey W,C5!,_,A!,QDM,n0!,(by rw[e0]),DI!,JQQ,dK!];rw[CL];show Hh?;have S0:=Jp! s0;have S0':Jhe:=O7! JLg AO S0
 show Oj! Jfq lo 0 n SP! tt PR! te Jtn AJ! JnO σ [CM!,JGK,JGJ,IB! GC!] (JUJ ku! (JCG/\JKK/\QC H2 W.c b n GC! L i/\sn!)) #[Ab,A!,[],A!,S0',r6!,JMt] JLZ ?_ ?_;.rintro i ys H2 N hi ⟨er,ly,L,eys,W2,l2,SN⟩ hN;show f?;have xA:r∉Cy p { W with c:=TH! i,ls:=On! }:=λm=>S.RZ J' m;show A2?;show FF?;show#[SA? MJ JJ,Fh _,CE!,UW,_,A!,QO,MX!,_,A!,_,A!,_,A!,_,A!,aY!,Uo!];have s3:=G2! (AM! n) (AM! GC!) ha;show DU?;show J4? W3.po l2.len;show ED?;have c_:=JS s3;show DO?;have gI:u1! r:=KM VZ (T7! er) xA;show#[gI,Ek! D3,Em! #[Ab,nZ! ly,JWV,bk! eys,?_,?_,?_]];show MN?;(·show JA? (sN! H4 r s6!);have kk:=WQ! c_.trans SO kq;show#[by rw[ZF,l2.BX,HD,ZF];congr 1;show Gv?;congr 1;show u3!,?_];rw[HD];show Fa ?_ (JS0 l2.OY);have ea:=P! SO.BI (show O5! (MG! a JZB) JZB from Ab);have e2:uj!:=JFg;rw[e2] at et;show#[a,b1! et,b1! ea]);.intro b' o' e' LK;(show Ne?);rw[Ae zJ];show g7! VZ (T7! JLX)
 .rintro ys H2 ⟨er,ly,L,eys,W2,l2,SN⟩;show k r L H2 W2 l2 SN (DO! eys er) (λz=>by rw[z,S.hs] at J';cases J') λb o e _=>Am e J'
open E
structure Tells(G:CU)(hs:F!)(os:sK)(rs:Q!):B! where
 z1:qx!
 z2:qy!
 z3:qz!
 pm:xN!
 pw:eH!
 ND:fL!
 pr:DY!
 wr:F6!
def Qax{H:Hp}{x:Addr}{hs:F!}{os:sK}{rs:Q!}(h:JUt):YK K H x Ph!:=by have#[y1,y2,y3,as,bs,ds,e,e1,t1,e2,t2,#[ob,e3,_],t3]:=h;show#[y1,y2,y3,as,bs,IU! ds.map,FF! e,ah!,t1,mK!,Ax (λv r h9=>by have#[a,t,hd,cs,e,e1,e2,e3,th]:=h9;show#[a,t,hd,cs,e,ah!,e2,DB! e3,th]) t2,sd! #[ob,e3],?_];clear e e1 t1 e2 t2 e3;induction t3 with | nil=>show a? | cons r _ ih =>have#[ka,e1,e2]:=r;show Os #[_,ka,A!,ah!,e2] ih
open S
inductive Hv(vs:C!)(H:Hp)(Q:VK)(E:XK):B!
 | mk (p t:Addr) (W:EF) (k s g n u:Int) (q:Addr) (G:CU) (hs:F!) (os:sK) (rs:Q!) (_:HP!) (_:wn) (_:yd! AU!) (_:n4!) (_:JHH) (_:HK!) (_:JCq) (_:(∀e∈W.G_,e.1≠CG!)) (_:∀(x t1 e xs:Addr)(H':Hp),Td! wF!->TH H' t1 T2! Jr! g s n u->L7! e (WP [g! GM!,FS xs])->YK K H' xs Ph!->Jen JSk)
def dm:oY! [Bm!,Hu!,"asked",SQ!,C1!] Ky:={}
def Jnw(F:Z! "ask_came" JXt Ky)(T:Txt)(TW:He)(TP:Tj)(M1:lc! "tick" "House.tick" Jmt f1 d1)(M2:QFQ f2 d2)(G2:pd! BD! Rv)(M3:Rd!):vN! Hv:=by
 show L9? BD! Jv5 J0z dm;.have#[p,t,W,k,s,g,n,u,q,G,hs,os,rs,rfl,_]:=h;rfl
 .have#[p,t,W,k,s,g,n,u,q,G,hs,os,rs,rfl,S,#[a,et,ea],i,tl,z1,z2,ne,kk]:=h;show H?;show P?;show B?;show FW? dm.nd (QDd dm.nd (pF! FM) (QDA dm.nd (Jfp (lq! FM DG! DG!)) (Jzq Br! (eQ! (D4 (pl:=_) AF! w! Dp! G1 HJ CY! a! A9) (D4 (pl:=_) AF! w! Jn! G2 hr GU! a! A9))) (Ag (Ao (Fw JEA)))));show D9?;show#[Gf?,_,A!,hp,wE,Hz!,Ey W,_,A!,C5!,_,_,An! q,A!,A!,V9!,i.WZ,?_];have#[gT,vJ]:=S.po.ob;show#[Iv?,Pp? hp gT vJ t 2 (AM! s) Mg! _ A! t 4 MQ! A! Mg!];show FQ? W.c FJ! S.po (Fh! z1) (λt1 H1 ht1 et1 S1 ON=>?_);have#[W1,JI]:=S.MB S1 ON;show Au?;have HA:=i.at (W:=JWU) W1;have#[kf,hq5]:=HA.ob;show#[_,A!,q,kf,_,A!,hq5,DJ!,q,G,A!,HA,?_];show#[v? q,kf,_,A!,hq5,DJ!,q,G,hs,os,rs,A!,HA,tl.z1,tl.z2,tl.z3,tl.pm,tl.pw,tl.ND,tl.pr,tl.wr,λxs H2 s2 sx=>?_];show#[JMk,K1!];have s3:=G2! (AM! GM!) oV! he;have ee:tF! e JZD e JZD:=Ab;generalize FY! H2 e WP [AM! GM!,oV!]=H3 at s3 ee;have uw:=Af s2 s3;have W3:=W1.same uw;have#[YZ,iX]:=W3.ob;show#[Hw? YZ iX TW.nE (Jvn _) EU! (JN.k (k:=BI! (CG!)) W3.en (o! Sl (D3 (QBD (W.G_.length<=_) z2))))];have ek:Jlx W.G_:=Jlb ne;change _;rw[show Jlx (JWU:EF).G_ from ek];have#[W4,VZ]:=Qa6 W3 (l:=Tg!);show DO?;have i0:JR p W H Xb!:=Ov! (VZ b o (wP uw ew!) hb);have ka:DM H Xb!:=Ol! S i0;have ek1:DM H1 Xb!:=(JS uw).trans SO;have W4:AV CW C CP Xb! p wF!:=W4;change _;generalize Xb!=H4 at W4 SO i0 ka ek1;show#[_,A!,(bE! (EJ! 1)),Ie!];have s5:=NN! oM! hx;have k5:=JS s5;show kk x t1 e xs _ (W4.same s5) #[a,Ch! k5.BI ek1.BI et1,Ch! k5.BI ka.BI ea] (IY! k5.BI SO.BI ee) (((((Qax sx:YK K H2 xs Ph!).keep (JS s3)).keep SO).keep k5)) (Ov! (P! s5 x7!)) Ab WK! (Ov! (Am (i0 b o eb hb) hx));have:=W4.hs;show Mq? wF! hx;cases this
def Jda:JrM Bq!:=SZ (Qa1 ts hb)
inductive Hu(vs:C!)(H:Hp)(Q:VK)(E:XK):B!
 | mk (p t:Addr) (W:EF) (k s g:Int) (ts:F!) (q:Addr) (G:CU) (n:Nat) (rs:Q!) (_:HP!) (_:wn) (_:JQz) (_:n4!) (_:sw) (_:Vi!) (_:XD!) (_:XT!) (_:DY!) (_:F6!) (_:RA!) (_:g0! Bq!) (_:HK!) (_:yr! (nh! v4! (TH! (Cr (Ay G ts) rs).length) On!) (Jtl H' W.c g L QFq))
def ud:oY! [Bm!,Hu!,"h"] Kw:={}
def Jns(F:Z! "let_came" JXx Kw)(T:Txt)(TW:He)(M1:B4! C GS! "House.let" Jmx PT! f1 d1)(G1:gi! PT! Jpy)(M2:JeC)(G2:JdG):vN! Hu:=by
 show pt! ud;.have#[p,t,W,k,s,g,ts,q,G,n,rs,rfl,_]:=h;rfl
 .have#[p,t,W,k,s,g,ts,q,G,n,rs,rfl,S,#[a,as0,et,ea,th],i,ok,zn,rL,rK,pm,pw,kC,zb,zl,kk]:=h;show B?;show A5?;show FW? ud.nd (KB! (JlW (bj! (JUj ND!))));show D9?;show#[U?,p,dx,_,A!,hp,Ff!,_,A!,_,A!,p,CW,dx,_,_,A!,hp,wE,Hz!,Ey W,_,A!,C5!,_,_,An! q,A!,A!,V9!,i.WZ,q,HX,_,A!,hq,DJ!,_,A!,t,_,4,MQ!,A!,A!,Mg!,A!,q,a,RO? rs ts as0 ea th];show Is? Jda;show OO?;show QM?;(show QQ? v4! v4! Jda);show#[RG? g];show kk y L H2 W2 b2 JRC ui JRD ey
open E
open E Lake.K52
open N Lake.K52F
open PySem L2 FX K52
def Hi(h:n<=20000):Yg!:=We!
structure ug(H:Hp)(d:Addr)(L:Nb!):B! where
 ob:KC! (.dK (CD! λq=>(h! H!,FS WF)))
 st:∀q∈L,YK K H WF BS!
open S
abbrev QM(H:Hp)(hl:HL):B!:=∀q∈hl,∃cs:S!,JOm WF/\CB H cs BS!
def QM.keep(k:Ae!)(h:QM H hl):QM H' hl:=A8! (let#[cs,e,th]:=er!;#[cs,Hi! e,eI! th])
open E
def Joz(a:Q!)(t:T2):((De (a.map F4!) (tk t)).getD (PP 0))=PP (Kk a t):=by rw[gp!];unfold Kk;cases TW! a.find? BR! with | none=>rfl | some r=>rfl
def Jzf(a:Q!)(q:ES!):Ci! Dr! a q Vr!:=by have lp:=Io (a.map F4!) (tk H!) (PP JbA);rw[Ga,ZA,ZA] at lp;show lp
def Jiy:∀(l a:Q!),Ci! Yl! Dr! a (a.length+l.length)
 | [],a=>Ay!
 | q::l,a=>by have h1:=Jiy l (Dr! a q);have h2:=Jzf a q;change(Yl! Dr! (Dr! a q)).length<=_;simp only[BD];lia
@[reducible]abbrev IU(L:Nb!):D8!:=CD! Ja!
def Qat{H:Hp}{d:Addr}{L:Nb!}{i:Nat}{k:Key}{v:V}(h:(CD! JzA)[i]?=D! (k,v)):∃q,L[i]?=D! q/\v=FS WF:=by rw[ZH] at h;cases e:L[i]? with | none=>show Ad? | some q =>show x?;have h:((h! H!:Key),An! WF)=(k,v):=ZO h;show#[q,A!,JAL h]
open S
def oV:JIY [Do!,"weights","state",CX!,GR!] K0:={}
inductive Jbd(vs:C!)(H:Hp)(Q:VK)(E:XK):B!
 | mk (d:Addr) (L:Nb!) (_:vs=[Gz!]) (_:ug H d L) (_:Fn! Jg2 Ja! 1200) (_:∀(r:Addr)(H':Hp),V7!->TD->Qs! (Et aN!)->TC! r)
def Jnx{f:Addr}{fd:FuncData}(F:Z! kU! kU! K0):IL! Vf! Jbd:=by
 show E? oV;have#[d,L,rfl,S,zl,k]:=h;show A?;show H?;show IY? oV.nd G9 (wq! JWn oV.nd (JzN (P4! FM) (Ly A! (Cu (eO! oV.nd) (Cu (eP! oV.nd) Hk))) (Ag (Tl! EQ AF! (JNK EQ AF! Br!))))) (T_.a_ (Ag (Ao (pv 1))));intro r aS;have s1:=ei! aS;show GV? r r (Et []);show Jg? r;have ed1:=QA! S.ob;show Qd? ed1 ed1;have s2:=Jhb;have e2:r8! (d! H1 p P5!):=Ab;generalize Ku! H1 P5!=H2 at s2 e2;have ed2:=P! s2 ed1;have er2:=NF! s2;have pM:r≠d:=λz=>by rw[z,S.ob] at aS;cases aS
 show#[p,d,_,A!,e2,ed2,λo=>?_];have kd:∀{H':Hp} {u:HO},na! JzL->DM H' (d! H' d u):=λ{H'} {u} e=>X_ λo' e'=>by show i?;cases e';show#[O9!,PC!]
 show Jc8 (d:=d) (ob:=o) (λi σ H'=>M_ λ(u2:Option V)(u3:Option V)(u4:Option V)=>σ=[WB!,sD!,u2,u3,u4]/\QDw/\Qs! (Et (((IU (L.take i)).flatMap (·.2.2)).foldl Dr! []))/\DM H2 H'/\QFT) #[_,_,_,A!,Ab,JEp er2,kd ed2,Jg7 s2 s1] (λi σ H' _ h9=>by have#[_,_,_,_,e,_]:=h9;show e) ?_ ?_;.rintro i kk v σ H3 hi ⟨u2,u3,u4,rfl,ef,er,kt,fr⟩;show Px?;have mq:=ZP eq;have VW:=DH! eq;have tY:=JiP s1 s2 kt;have#[y1,y2,y3,as,bs,ds,f0,f1,t1,f2,t2,f3,t3]:=tY;show Nu? 2 y3 f0 y3 f3;(have KQ:So! (Am!)=So! i++[q]:=WN! eq);(have lT:AZ! m3! Ja!+q.2.2.2.2.length<=1200:=by show El?;rw[e5,DI,ZE,KQ] at zl;rw[JrR,DI,ZE] at zl;simp only[DJ,K_,AO] at zl;show AA KD! zl);show L8? y3 ds (HN λ(w3:Option V)(w4:Option V)=>σ=[WB!,sD!,JFO,w3,w4]/\QDw/\Qs! (Et ((QFt++t2!).foldl Dr! []))/\DM H2 H'/\un!/\QFT) #[_,_,A!,ef,JSV er,kt,rh!,fr] (by have#[_,_,_,_,_,_,k3,_]:=h9;show k3.sq f3);(.rintro j v σ H4 hj ⟨w3,w4,rfl,xi,gI,SO,k34,f_⟩;have#[x,ex]:=wD! q.2.2.2.2 t3;have#[a,t,rfl,g1,g2]:=(A6 t3 j v x hj ex).keep k34;have rS:=DH! ex;show#[a,_,A!,g1,A!,_,_,A!,_,_,A!,A!,?_];show#[v? r,A!,T0! (h! gI),_,A!,_,GW.t (k:=tk BK!) gI g2,_,A!,_,x.2,Joz _ _,A!,_,A!,_,A!,r,_,A!,JN.t (k:=tk BK!) gI g2 (by rw[ZA];have:=Jiy (QFt++t2!) [];show n? ZE CO;simp only[BZ] at this;show Ek! Hi),?_];rw[Ga];(have xM:∀u:HO,DM H4 (d! H4 r u):=λu=>Kb! gI);show#[_,_,A!,NC! pM xi,?_,ki! (xM _),k34.trans (xM _),JCr aS (KM f_ e n)];(have e7:∀l:Q!,(l++[x]).foldl Dr! []=Dr! (Yl! Dr! []) x:=λl=>Ed! RJ);(have e8:JRd++q.2.2.2.2.take (j+1)=(JRd++t2!)++[x]:=by rw[CK,ex,<-BH];rfl);rw[e8,e7];show Ab);.rintro σ H4 ⟨w3,w4,rfl,xi,gI,SO,k34,f_⟩;rw[AA! t3,BS] at gI;show#[_,_,_,A!,xi,?_,SO,f_];rw[KQ,JrR,DI];simp only[DJ,K_,AO];show gI
 .rintro σ H3 ⟨u2,u3,u4,rfl,ef,er,kt,fr⟩;rw[ZA,BS] at er;show Om? (d! H3 d JzL);show Nb?;show L? (k r _ aS (Yo! ?_) (JEp er));by_cases hb:b=d;(.show L2?);.rw[Ae hb];show fr b ob e hb
open E
structure bz(L:D8!):B! where
 nd:JFy
 rz:Fn! EV! L 60
 hz:(Oi! (·.1)).length<=800
 oz:∀r∈n7!,r.2.2.length<=60
 tz:JHZ Ja! 1200
abbrev Ed(ws:Q!)(L:D8!):F!:=Oi! λS=>S.1++S2! (S.2.1.filter λr=>! Gn! Dz! ug!).map
def Ln(ws:Q!):∀L:D8!,Ci! Ed ws L ((Oi! (·.1)).length+AZ! EV! L)
 | []=>by simp[Ed]
 | S::L=>by have ih:=Ln ws L;have h:=JJ3 ug! Pi!;unfold Ed rowsOf at *;simp only[DJ,ZE,ZA] at *;lia
def RA:t∈Ed ws L↔(∃S∈L,t∈S.1)\/∃r∈n7!,Vo!/\Dz!≠ug!:=by
 unfold Ed rowsOf;simp only[EC,OR,AQ,AH];show g?;.rintro⟨S,hS,(h|⟨r,⟨hr,c⟩,e⟩)⟩;(.show F? #[S,hS,h]);.show G? #[r,#[S,hS,hr],e,by simpa using c]
 .rintro(⟨S,hS,h⟩|⟨r,⟨S,hS,hr⟩,e,c⟩);(.show#[S,hS,MI!]);.show#[S,hS,x! #[r,#[hr,QBy],e]]
abbrev TC(hl:HL)(rows:sK):B!:=GQ! (RF!)=kv! λr=>(AT,DF!)
def TC.keys(h:yo!):Fs! GQ! kv!:=JpG Prod.fst h
def TC.get(h:yo!)(nd:CH! kv!)(hr:r∈rows):FD hl AT=DF!:=by
 have m:(AT,DF!)∈GQ! RF!:=U! h yF!
 have#[q,hq,e]:=Ey!;have e1:=(Yy! e).1;have e2:=vA!;unfold FD;rw[<-e1,JTh (o! Sp! nd)];show e2
def J1l(nd:JFy)(h:JUa)(rc:JUG) : ∀t,sM!->(C7!↔Nn!):=by
 have start:∀t,t∈Ed (Dz L) L->Nn!:=Ak! (by obtain⟨S,hS,m⟩|⟨r,hr,e,c⟩:=RA.mp ht;(.show GY! hS m);.rw[<-e];show .out hr c)
 have row:∀t,UA!->∃r∈n7!,Vo!:=Ak! (by rw[Sp!] at ht;show GP?;show#[r,hr,e])
 have cl:SU! Nn!:=OX.least (S:=λt=>Nn!) (λt lt u hu=>by have yx:=JE! hu;show C? UA!;(.have#[r,hr,e]:=row t c;subst e;have hu1:=yx.1;rw[h.get nd hr] at hu1;show .step hr hu1 lt);.exfalso;show MA?;rw[this] at yx;show M? yx.1 (CN)) rc JFe (Ak! (start t (JE! ht).1));have closed:=OX.closed rc (Ak! (Fa! ht));have sub:=(OX.sub rc).2;have back:∀t,Nn!->sM!->C7!:=λt lt=>by induction lt with | hand hS m=>show L0? l! #[_,hS,m] | out hr c=>show L0? IN #[_,hr,A!,c] | @step r u hr m _ ih =>intro ht;show closed _ (ih (B2! (El! hr))) u (Nx! #[U! (h.get nd hr) m,by rw[Sp!];simpa using ht])
 show Ak! #[λm=>cl t m,λl=>back t l ht]
def Jww(F:bz L)(h:JUa):HN λn R=>n<=6000/\JUG:=by
 have lk:JNG GQ!:=eD! Sp! F.rz
 have ls:=Ln (Dz L) L;have l2:=BC (cH!) (Ed (Dz L) L);have sz:∀t,Ci! RM hl t 60:=λt=>by show AA nW! ?_;show C? UA!;(.rw[Sp!] at c;show Cf? c;rw[<-e,h.get F.nd hr];show F.oz r hr);·show MA?;show K?;simp
 have:=F.rz;have:=F.hz;have#[n,R,h1,h2]:=OX.ex (nx:=RM hl) (keys:=QCn) (B:=60) (Jxy hl) sz 6000 ((Ed (Dz L) L).filter cH!) [] (Eb! (QDH ht)) (by have:JSm (GQ! (·.1)).filter:=ek! lk;have:=EL (60+1) this;lia);show#[n,R,h1,h2]
open S
def W_:JIY [Do!,"weights",am,Ob!,"state",CX!,"out",Sh!,"kept"] Hx:={}
inductive PM(vs:C!)(H:Hp)(Q:VK)(E:XK):B!
 | mk (d:Addr) (L:Nb!) (_:vs=[Gz!]) (_:ug H d L) (_:bz (IU L)) (_:JrV L)
def TC.snoc(h:yo!)(r:Ef!)(a:Addr):TC (hl++[(AT,a,DF!)]) (rows++[r]):=by unfold TC at *;rw[ZF,ZF,h];rfl
def XX(F:Z! kT! kT! Hx)(T:J70)(MR:JgJ)(MD:Jdh fD dD):Ma! Vf! PM:=by
 have GR:Gj! fR dR [Ob!,am] Tt:=Jca MR.fn;have GD:Gj! fD dD Vf! Jbd:=Jnx MD.fn;show E? W_;have#[d,L,rfl,S,fi,k]:=h;show A?;show H?;show P?;show IZ? Sq! (TI! GD HJ MD.mg MD.fn.kp MD.bd lk!) Sq! G9 (Zz! 3 Sq! Ms! (JLL JWn Sq! (IQ! (Cg (bX! JfC JfE Jqp AF! JFI)) (wj! Br! (sy! 5) (sy! 6) (sy! 7) (IQ! (Tl! FM Gy! Us!) (JYL Fo! (Jb4 hu EQ Gy! Ai KE!) AF! Gy!))))) (T_.a_ (Ac (JE3 8 Sq! (TI! GR HJ MR.mg MR.fn.kp MR.bd (lh! FM))) (KB! (XQ! (lb! G4! (dd! 8) (Em (po! FM)) Pf! (λy h=>FX.S_ BT! h) Pg! vq! (pv 0)))))));show#[_,A!,d,L,A!,S,fi.tz,λws H1 hws s1 ew=>?_];intro hd xU;have s2:=ei! xU;have e2:z! (d! H1 hd P2!) hd (Hd []):=Ab;generalize FY! H1 hd .dT []=H2 at s2 e2;show#[Au!,λsl uD=>?_];have s3:=aj! uD;have e3:z! (d! H2 sl (XV [])) sl Zo!:=Ab;generalize G0! H2 sl []=H3 at s3 e3;have fA:=Rg!;have ew3:=Ch! s3 s2 ew;have eh3:=HE! e2;have nh0:Bn! hd:=Ea s1 xU;have ns0:Bn! sl:=Ea s1 (Ea s2 uD);have nwh:ws≠hd:=Am ew xU;have nws:ws≠sl:=Am (wP s2 ew) uD;have nhs:hd≠sl:=Am e2 uD;have uK:=P! fA S.ob;have ndh:hd≠d:=λz=>by rw[z,S.ob] at nh0;cases nh0
 have fN:sl≠d:=λz=>by rw[z,S.ob] at ns0;cases ns0
 have ndw:ws≠d:=λz=>by rw[z,S.ob] at hws;cases hws
 show Qd? uK uK;have s4:=Jhb;have e4:r8! (d! H3 p P5!):=Ab;generalize Ku! H3 P5!=H4 at s4 e4;have ed4:=HA! uK;show#[p,d,_,A!,e4,ed4,λo=>?_];have JRy:∀i,EV! aP!=m3! Hm!:=λi=>rfl;have stT:∀{i:Nat} {q:Int×Addr×HS},L[i]?=D! q->IU (So! xL)=IU (So! i)++[BS!]:=λ{i q} eq=>by rw[CK,eq];change kw! _ (So! i++[q])=_;rw[ZF];rfl
 show Jc8 (d:=d) (ob:=o) (λi σ H'=>vo λ(u4:Option V)(u5:Option V)(u6:Option V)(u7:Option V)(hl:HL)(as:List Addr)=>JqZ [WB!,JFM,dr!,JFN,u4,u5,u6,u7,none] (TC hl (EV! aP!)) (CB H' as (Ed aN! aP!)) (DM H4 H')) #[_,_,_,_,[],[],A!,Ab,rz! ndw ew3,rz! ndh eh3,A!,(QEg),rz! fN e3,a!,X_ (λo' e'=>by rw[ed4] at e';cases e';show#[O9!,PC!]),Jg7 s4 fA] (λi σ H' _ h9=>by have#[_,_,_,_,_,_,_,e,_]:=h9;show e) ?_ ?_;.rintro i kk v σ H5 hi ⟨u4,u5,u6,u7,hl,as,rfl,ef,ew5,eh5,pZ,hht,zV,pF,xM,ae⟩;show Px?;have mq:=ZP eq;have jv:=JiP fA s4 xM;have#[y1,y2,y3,MM,bs,ds,f0,f1,t1,f2,t2,f3,t3]:=jv;(have spl:EV! (IU L)=Xf!++(l8!++EV! (IU (L.drop xL))):=by show El?;rw[e5,stT eq];unfold rowsOf;simp only[DI,DJ,K_,AO,BH]);(have JIe:ww Jg2=ww m3!++(q.2.2.1++ww (IU (L.drop xL)).flatMap):=by show El?;rw[e5,stT eq];simp only[DI,DJ,K_,AO,BH]);have zr:=fi.rz;have zh:=fi.hz;have ls:=Ln aN! aP!;have lth:=AA! pF;show Fv? t1;rw[spl,ZE,ZE] at zr;rw[JIe,ZE,ZE] at zh;have nd:=fi.nd;rw[spl] at nd;show#[U?,Uc! zV,_,A!,WF,_,0,An! y1,A!,A!,f0,A!,sl,y1,_,_,A!,A!,zV,f1,A_ (Hi (by rw[ZA,ZA];lia)),?_];rw[<-ZF];(have uC:DM H5 yD!:=Kb! zV);(have rY:JbE H5 (b≠sl) yD!:=JCs);have zU:or! sl oB! sl oB!:=Ab;have eS:CB yD! (as++MM) JqA:=Jg! uC (Jjj pF t1);generalize d! H5 sl oB!=H6 at uC rY zU eS;show Nu? 1 y2 (uC.sq f0) y2 (uC.sq f2);show L8? y2 bs (sQ λ(w5:Option V)(w6:Option V)(w7:Option V)(hl:HL)(as:List Addr)=>JqZ [WB!,JFM,dr!,JFN,JFO,w5,w6,w7,none] (TC hl (Xf!++ez!)) (CB H' as (JqA++MO! (QBv j).filter (λr=>! Gn! Dz! QBU))) (DM H6 H')) #[_,_,_,hl,as++MM,A!,Mk! rY ef fN,V5! ew5 nws,V5! eh5 nhs,JSV pZ,hht.keep uC,zU,by rw[QF];simpa using eS,rh!,λb ob e n=>V5! (ae _ _ e n) (Am e ns0)] (by have#[_,_,_,_,_,_,_,_,_,_,_,_,_,k3,_]:=h9;show(uC.trans k3).sq f2);(.rintro j v σ H7 hj ⟨w5,w6,w7,YH,ze,rfl,ef7,ew7,xh,bo,wJ,es7,uo,yv,U'⟩;have#[r,er]:=wD! l8! t2;have#[a,t,ha,cs,rfl,g1,g2,g3,g4]:=(A6 t2 j v r hj er).keep (uC.trans yv);have rS:=DH! er;(have KQ:uk!=ez!++[r]:=WN! er);(have uA:AT∉ww YH.map:=by rw[bo.keys];intro z;have e9:l8!=uk!++q.2.2.2.1.drop (j+1):=(HF _ _).symm;rw[e9,KQ,<-BH,<-BH,<-BH,BH (Xf!++ez!++[r])] at nd;(have YX:CH! (Xf!++ez!++[r]).map:=by rw[ZF] at nd;show V4! nd);rw[ZF] at YX;show QDP AT z AT Ix A!);(have lh:YH.length<=60:=by show AU? bo.keys;rw[ZA,ZA,ZE,CO] at this;lia);have lf:=JJ3 QBU (QBv j);rw[CO] at lf;have la7:=AA! uo;rw[ZE,ZE,ZA] at la7;show FR? a g1;show#[_,A!,_,A!,_,A!,hd,_,A!,aH! AT xh g2 (Hi (AA lh FB)),?_];rw[O3 (Cz! ha) (λq hq z=>JJ2 uA)];rw[show(YH.map LF!)++[(tk AT,An! ha)]=(Km!).map LF! by rw[ZF];rfl];show K3? JdW xh;(have rX:JbE H7 (b≠hd) JdW:=JCs);have eh8:eZ! hd QEO hd QEO:=Ab;show AX? (dU! (Km!).map LF!=Hd (Km!));generalize FY! H7 hd Hd (Km!)=H8 at YG rX eh8;(have JBN:QM H8 (Km!):=λq' kL=>by obtain kL|kL:=ZI kL;(.show(wJ.keep YG) q' kL);.rw[ZK kL];show#[cs,YG.sq g3,My! YG g4]);(have JBP:TC (Km!) (Xf!++uk!):=by rw[KQ,<-BH];show bo.snoc r ha);have ew8:=KM rX ew7 nwh;have es8:=Mk! rX es7 nhs;have rm:=Mk! rX ef7 ndh;have g28:=P! YG.BI g2;have yZ:=My! YG uo;show#[_,A!,_,A!,ws,A!,T0! (h! ew8),_,A!,_,GW.t (k:=tk AT) ew8 g28,?_];rw[Joz];show#[A!,_,A!,?_];show GR?;(·(have c:¬JN6:=λz=>by rw[z] at c;simp at c);show Pz? es8 sl es8 (Hi (by rw[ZA];lia));(have kt9:DM H8 (a4! H8 sl (IU! ze.map) (An! t)):=Kb! es8);show#[_,_,_,Km!,ze++[t],A!,NC! fN rm,jp nws ew8,jp nhs eh8,JBP,JBN.keep kt9,xg!,?_,WQ! yv.trans YG kt9,JCr ns0 JqT];rw[KQ,LZ,ZF,<-BH];(have xj:JcJ=[r]:=by simp[c]);rw[xj];show Lz (Jg! kt9 yZ) (wP kt9.BI g28));·show Gd? JN6;show#[_,_,_,Km!,ze,A!,rm,ew8,eh8,JBP,JBN,es8,?_,yv.trans YG,λb ob e n=>JqT];rw[KQ,LZ];(have xj:JcJ=[]:=by simp[c]);rw[xj,AO];show yZ);.rintro σ H7 ⟨w5,w6,w7,YH,ze,rfl,ef7,ew7,xh,bo,wJ,es7,uo,yv,U'⟩;rw[AA! t2,BS] at bo uo;show#[_,_,_,_,YH,ze,A!,ef7,ew7,xh,?_,wJ,es7,?_,WQ! xM.trans uC yv,U'];(.rw[stT eq];unfold rowsOf at bo ⊢;simp only[DI,DJ,K_,AO];show bo);.rw[stT eq];unfold Ed at uo ⊢;simp only[DI,DJ,K_,AO];rw[BH] at uo;show uo
 .rintro σ H5 ⟨u4,u5,u6,u7,hl,as,rfl,ef,ew5,eh5,pZ,hht,zV,pF,xM,ae⟩;rw[ZA,BS] at pZ pF;show Om? Jdf;show Nb?;(have s6:Ds! gm!:=Yo! (by by_cases hb:b=d;(.show L2?);.rw[Ae hb];show ae b ob e hb));(have sq6:∀{b:Addr} {xs:C!},DF K H5 b xs->DF K gm! b xs:=λ{b xs} z=>by obtain (z|⟨ob,z⟩)|z:=z;(.show CY? (o! Jeu z));(.show l! (IN #[ob,U! Jeu z]));.show G? z);have eS:∀{as:S!} {ts:F!},f7! H5->f7! gm!:=λ{as ts} z=>Ax (λb t e=>l2! (Ae (λy=>by rw[y,ef] at e;cases e))) z;(have JBO:QM gm! hl:=A8! (by have#[cs,e,t]:=hht q hq;show#[cs,sq6 e,eS t]));have JAv:=eS pF;(have zU:JcX sl Fr!:=jp fN zV);(have eh6:JcX hd (Hd hl):=jp ndh eh5);clear sq6 eS;generalize Jdf=H6 at s6 JBO JAv zU eh6;have#[n,R,zn,rc]:=Jww fi pZ;have ls:=Ln aN! (IU L);have zr:=fi.rz;have zh:=fi.hz;(have lh:hl.length=(EV! (IU L)).length:=by show AU? ZN!;show FY?;show this);show#[C4?,A!,sl,hd,as,_,hl,n,R,A!,zU,JAv,W!,eh6,A8! #[?_,let#[cs,e,t]:=JBO q hq;.t cs e t],rc,zn,λx H7 hx s7 ex=>?_];(·(have m:H!∈JHK:=JSL ZN! hq);(have e8:FD hl H!=BS!:=JG5 (JTh (o! ZN! fi.nd)));have#[r,J',e]:=Ey!;rw[<-e,pZ.get fi.nd J'] at e8;rw[<-e8];show By? (fi.oz r J'));have xh:=P! s7 eh6;have#[so,pm,pw]:=FX.sorts (λt:T2=>t) (l:=JHK) (o! MQ fi.nd);(have pw:so.Pairwise LB:=by simpa using pw);(have dr:Rd H7 hd (.dT ((GQ! JGo).map nB!)):=by (have e:((GQ! JGo).map nB!)=GQ! LF!:=Mo!);rw[e];show F? xh);show#[_,A!,hd,_,so,A!,dr,JYe (lh▸zr),?_,pw,λr2 XZ NF YE=>?_];(.rw[AX];change so.Perm (GQ! EG!);rw[ZN!];show pm);have s8:=Jad;have e8:eZ! r2 QD! r2 QD!:=Ab;have yZ:=nI! s8 YE;generalize d! H7 r2 QD!=H8 at s8 e8 yZ;have ex8:=P! s8 ex;show#[r2,A!,aT! e8,λp2 JJ=>?_];(have lso:so.length<=60:=eD! pm.length_eq zr);show Wp (b:=λt=>! KB C7!) (AJ!:=dd! 8) JJ (nY! lso) e8 yZ (λH9 a t Q' sm ha ht q=>?_) λH9 bs sm ea tb=>?_;(.show#[_,A!,_,A!,x,_,A!,Pb (wP sm ex8) ha,_,A!,?_];show C? C7!;(.rw[AF c];rw[show DD! JRo by simp[c]] at q;show q);.rw[AD c];rw[show Av! JRo by simp[c]] at q;show q);.show Gm? p2 ea (λtt htt=>?_);have s9:=JQm htt;show k tt bs _ _ (Af s6 (Af s7 (Af s8 (Af sm s9)))) Ab (gX! s9 tb) #[pw.filter _,c5!];have li:=J1l fi.nd pZ rc;rw[AH];show g?;(.show A3?;have m:=ZK! h1;show#[m,λz=>by rw[(li t m).mpr z |> AM] at h2;simp at h2]);.show A3?;show#[JnS h1,by have:t∉R:=Gs! h2 (li t h1).mp;simp[this]]
open E
open E Lake.K52F
open N Lake.FX
open PySem PySem.Spec PyProof.Rows L2
def Jb7:∀{es:dS!} {vs:JDw} {ns:q!},JkK->JcP N9!->JhQ es.map
 | _,_,ns,.nil,e=>by cases ns with | nil=>show a? | cons n ns=>cases e
 | _,_,ns,.cons (e:=d) (kv:=kv) h _ t,e=>by cases ns with | nil=>cases e | cons n ns =>have e:Hg!::_=Z7!::Bj! BI!:=e;have#[e1,e2]:=kE! e;have ih:=Jb7 t e2;obtain⟨i,tk,e3,e4⟩|⟨x,tk,e3,e4⟩:=Cs! D2 k Hg! v d.key h;(.rw[e1] at e3;have:n=i:=Yw! e3;rw[AI,e4,<-this];show Os n tk ih);.rw[e1] at e3;cases e3
def Jzg{es:EB!}{acc:Az!}(ha:JoA):acc.toList=SS! Sr!:=by
 show Kx?;·show LH?;show OC?;(have e5:JPj:=by simp[hj]);rw[e5] at e3;cases e3;(have h2:JWp:=by simp[h1]);(have h3:JPi:=by simp[hj]);rw[h2,ZH,h3,e4];rfl
 .rw[EW (JfK),EW (cE! ZA DZ Cy! Aw!)]
open S
variable {X:Cx Kx}
inductive Rh(xs:C!)(H:Hp)(Q:VK):B!
 | mk (d:Addr) (kvs:Bb!) (ns:q!) (_:eq!) (_:WU!) (_:JcP GG!) (_:ns.length<64) (_:∀(r:Addr)(ms:q!),V7!->ms.Perm ns->JRe->S5! r (EY! r (r3! ms.map)))
def Th(hc:A1!):fH! Rh:=by
 show E4?;have#[d,kvs,ns,rfl,hd,ek,YI,q]:=h;have#[u,rfl,rx]:=vals1 rv;show J?;have#[z,lo,vs,rel,o,es,ep,g1,g2,g3,g4,g5,g6]:=nx! KO! hd;have ev:∀{a:Bb!} {b:JDw},KV a b->Fs! b.map a.map:=λ{a b} r=>by induction r with | nil=>rfl | cons h _ ih=>rw[AI,AI,ih,pi]
 have hI:JhQ SS!:=Jb7 g5 (Ck! (ev rel) ek);have hl:es.size=ns.length:=JLG (IntsAre.length hI) DZ
 show im! (by show E2?;show O2? h6! (QC! hl CZ ef!);rw[Jzg ha];show Jq?;show ZR (JKy ?_ (by rw[ZA,DZ,hl,CZ];show ef!));have e1:z! (h1.push (Yp! F7! (JH1 Sr!) 0)).get? Hn! (ni! SS! Sr! 0):=Dy!;show R? EO (DG slot_list_sort (El! e1) entry_list_sort (list_sort_tree e1 hI (by rw[ZA,DZ,hl];show YI) λout ms a1 a2 a3=>oe!) (args_list_sort _));show G8?;have#[c,ec]:=sortedHeap_at (out:=out) e1;(have old:∀b ob,bJ! Nv!->bJ! (sortedHeap (h1.push (Yp! F7! (JH1 Sr!) 0)) Hn! (SS! Sr!) out).get?:=λb ob hb=>by have IP:=AU hb;rw[sortedHeap_old (BP IP) (o! size_push' (Nat.lt_succ_of_lt IP))];show ZT _ hb);show Ej? (I1.laid (a:=Hn!) (o:=XV (ms.map A2!)) (t':=tk) old B6! #[?_,out.toList,c,Jhr a1,by simpa using ec]) (q _ ms hn a2 a3);rw[ZA,a2.length_eq,CZ];show ef!)
open E
open E Lake.FX
open N Lake.K52F
open PySem L2 FX K52
abbrev iN(os:BF!):C!:=Dj! λk:Nat=>AM! Ac!
def J6n(n:Nat):Du! rg n A2!=iN (AR! n):=by unfold rg iN;rw[AX];rfl
def Jtp{L:Nb!}{h:Int}(n:h∉b2!):JgW CD! h:=by
 unfold De;rw[QG,BR.mpr];.rfl
 .intro q hq z;(have z:(BI! H!:Key)=MI!:=rX!);injection z with z;show JJ2 n
def q1:sJ! Hx!:=ZV
def q2:sJ! GT!:=ZV
def q3:sJ! Do!:=ZV
def q4:JFW Hx!:=ZV
def q5:JFW GT!:=ZV
def q6:Ze! GT! Hx!:=ZV
abbrev Iu(m:Int)(sd fd cd:Addr):Eq!:=e0! Hx! cd (lI! GT! fd Do! sd (Zg! Og! m))
open S
def Jsy:bi! (Iu m sd fd cd).lookup Og! (FU! m):=by unfold Iu;rw[Cp,AD q1,Cp,AD q2,Cp,AD q3,Cp,BY!]
def Jiz:tw! Do! sd:=by unfold Iu;rw[Cp,AD q4,Cp,AD q5,Cp,BY!]
def Sv:tw! GT! fd:=by unfold Iu;rw[Cp,AD q6,Cp,BY!]
def Wo:tw! Hx! cd:=by unfold Iu;rw[Cp,BY!]
def d_{x:Str}(h1:¬x=Hx!)(h2:¬x=GT!)(h3:¬x=Do!)(h4:¬x=Og!):EX! (Iu m sd fd cd).lookup x:=by unfold Iu;rw[Cp,AD h1,Cp,AD h2,Cp,AD h3,Cp,AD h4];rfl
open E
structure Iq where
 m:KE
 sd:G!
 fd:G!
 cd:G!
 ss:Bb!
 fs:Bb!
 cs:Bb!
structure IG(H:Hp)(p:Addr)(I:Iq):B! where
 ob:∃dx,JKo QFd
 s:re! Js! I.ss
 f:re! Ca! GZ!
 c:re! C9! Ga!
 sf:I.sd≠I.fd
 sc:I.sd≠I.cd
 fc:I.fd≠I.cd
def IG.keep(x:Rb!)(k:QFU (b=p) (∀o,Ee!->Mb!)):wJ! :=#[Kn! (k p IK! _ e),k _ ed! _ x.s,k _ (Eg! ed!) _ x.f,k _ (Eg! JK9) _ x.c,x.sf,x.sc,x.fc]
def IG.same(x:Rb!)(s:TD):wJ!:=x.keep λb _ o e=>s b o e
open S
inductive QU(vs:C!)(H:Hp)(Q:VK)(E:XK):B!
 | mk (p dx:Addr) (n:Int) (_:Qv!) (_:JKo []) (_:∀(H':Hp)(I:Iq),JGC H' (wJ!->I.m=n->I.ss=[]->I.fs=[]->I.cs=[]->Bn! Js!->Bn! Ca!->Bn! C9!->KQ!))
def J9a:Ap! NH! NH! Jbr:={}
def XU(F:WD! JXg Jbr)(T:sE):IL! NH! QU:=by
 show E? J9a;have#[p,dx,n,rfl,hp,k]:=h;show A?;show IN? EQ (Ac Wp! (Ac Wp! (Ag (Eo SC Ha A!))));have l1:=Cc Og! b5! [];show#[_,A!,_,A!,p,CI,dx,[],A!,hp,w!,T.nM,mh! (0<1000),λd1 h1=>?_];have t9:p≠d1:=Am Ab h1;have l2:=λv=>Cc Do! v JHg;show NC? t9 T.nS (by show FM?;show Ke!) (λd2 h2=>?_);have xB:p≠d2:=Am Ab h2;have l3:=λv u=>Cc GT! u (A3 Do! v JHg);show NC? xB T.nF (by have:=Pr! l2 d1;show FM?;show Ke!) (λd3 h3=>?_);have ym:p≠d3:=Am Ab h3;show Ie? CI ym T.nT (by have:=Pr! l2 d1;have:=l3 (UV d1) (UV d2);show FM?;show Ke!);have g1:Bn! d1:=by rw[Na!] at h1;show h1
 show OK? Na!
 have g2:Bn! d2:=by rw[WW!,lS! rH,WW!] at h2;show h2
 show Mm? WW!
 show OL? Na! Na!
 have g3:Bn! d3:=by rw[eU!,lS! vB,eU!,lS! vC,eU!] at h3;show h3
 show k _ #[n,d1,d2,d3,[],[],[]] (Sd! ?_) #[Gw! Ab,?_,?_,?_,rH,vC,vB] A! A! A! A! g1 g2 g3;.have m1:=Am e g1;have m2:=Am e g2;have m3:=Am e g3;rw[Es!,Ae m3,Es!,Ae m2,Es!,Ae m1,Es!];show e
 .rw[Na!,Ae vC,Na!,Ae rH,Na!];show Ab
 .rw[WW!,Ae vB,WW!];show Ab
 .rw[eU!];show Ab
inductive eD(vs:C!)(H:Hp)(Q:VK)(E:XK):B!
 | mk (p:Addr) (I:Iq) (h t:Int) (v:V) (_:vs=[Cc!,Gh!,g! t,v]) (_:Rb!) (_:JCt) (_:JCu) (_:∀H',IG H' p { I with ss:=EL! I.ss U0! v,fs:=JYq GZ! }->(E6! (Ee!->b≠I.sd->b≠I.fd->Mb!))->JGA (XH! (bi (putK GZ! (.inl h) (.int t)).length) I.m))
def scF:Ap! VQ! VQ! R1:={}
def pD(F:Z! "first" JXh R1)(T:sE)(hl:Qx!):IL! VQ! eD:=by
 show E? scF;have#[p,I,h,t,v,rfl,S,zf,zs,k]:=h;show A?;show H?;show B?;show JS? (Wr! (cR! AF!) JpW);have npf:p≠I.fd:=xx! S.f
 have nps:p≠I.sd:=xx! S.s
 show Lk? T.nF Sv Ca! S.f zf;show Ko? JXW npf
 show OQ? Ca! VG! S.sf
 have c1:IW! Ca! VG! C9! (.dK Ga!):=NC! S.fc S.c
 have f1:IW! Ca! VG! Ca! VG!:=Ab;have k1:JUF JXW:=λb o e _ n=>QDE
 show Hl? Ca! (JzD GZ!);show#[CZ?,FO? CI dx JA w! T.nS Jiz Js! (JN.k (k:=oT!) s1 (Hi (AA zs FB)))];have JJ:S4! JYV (S8! CI QFd):=jp nps JA
 have s2:yh! Js! (.dK QAy):=Ab;have c2:yh! C9! (.dK Ga!):=NC! S.sc c1
 have f2:yh! Ca! VG!:=NC! S.sf f1
 have k2:JUF JYV:=λb o e n1 n2=>jp n1 (k1 b o e n1 n2)
 generalize FY! H1 Js! .dK QAy=H2 at JJ s2 c2 f2 k2;show#[NX? JJ T.nF Sv Ca! f2 dx JJ w! T.nM Jsy (k H2 #[Gw! JJ,s2,f2,c2,S.sf,S.sc,S.fc] k2)]
inductive YS(vs:C!)(H:Hp)(Q:VK)(E:XK):B!
 | mk (p:Addr) (I:Iq) (h t:Int) (_:Zq! Gh! (g! t)) (_:Rb!) (_:JCv) (_:∀H',IG H' p { I with cs:=JYq Ga! }->(cP! kx!)->JGA (XH! (bi (putK Ga! (.inl h) (.int t)).length) I.m))
def w8:Ap! U7! U7! Nn:={}
def hZ(F:Z! "second" JXm Nn)(T:sE)(hl:Qx!):IL! U7! YS:=by
 show E? w8;have#[p,I,h,t,rfl,S,zc,k]:=h;show A?;show H?;show B?;show JS? (KB! JpW);have npc:p≠I.cd:=xx! S.c
 show Lk? T.nT Wo C9! S.c zc;show Ko? JXX npc
 show OQ? C9! cN! S.sc
 have c1:IW! C9! cN! C9! cN!:=Ab;have f1:IW! C9! cN! Ca! (.dK GZ!):=jp S.fc S.f
 have k1:lK! Ee! kx! JXX:=λb o e n=>QDE
 show Hl? C9! (JzD Ga!);show#[NX? JA T.nT Wo C9! c1 dx JA w! T.nM Jsy (k H1 #[Gw! JA,s1,f1,c1,S.sf,S.sc,S.fc] k1)]
structure Full(I:Iq)(n:Nat)(f c:F0!)(a:NP!):B! where
 ks:∃os:BF!,ul! os.Perm/\ww I.fs.map=Dj! λk:Nat=>(Uh! Ac!:Key)
 fs:JUZ GZ! f
 cs:JUZ Ga! c
 ss:∀k<n,Kh! De I.ss Ac!=D! (.ref (a k))
abbrev El(n:Nat)(f c:F0!):BF!:=(AR! n).filter λk=>Ti! f k c k
def Jtu:∀{ms:q!} {n:Nat},ms.Perm (rg n)->JRe->ms=rg n:=λ{ms n} pm pw=>by (have pr:(rg n).Pairwise (·<=·):=by unfold rg;rw[EY];show QFF (EM! (A_ h)));show pm.eq_of_pairwise (λa b _ _ h1 h2=>kp! h1 h2) pw pr
inductive XQ(vs:C!)(H:Hp)(Q:VK)(E:XK):B!
 | mk (p:Addr) (I:Iq) (n:Nat) (f c:F0!) (a:NP!) (_:HO!) (_:Rb!) (_:QT!) (_:JfT) (_:∀(l:Addr)(H':Hp),Pb!->TD->JcY->TC! l)
def J8y:Ww! R0:={}
abbrev J50:TT:=Mg (V_ tf (p1! GT!) (p1! Hx!))
def pC(F:Z! "still" JXn R0)(T:sE)(hso:eN!):Q4! XQ:=by
 show E? J8y;have#[p,I,n,f,c,a,rfl,S,hz,fu,k]:=h;show A?;show H?;show B?;show AS? (JxR J50 LM! (Em (QAr (Th A!) hso Aa!)) (Gk! (Fj (Au Cv ph! ph! (A4 _)))));have#[os,pm,ek]:=fu.ks;have lo:os.length=n:=AO! pm.length_eq DV
 show#[o?,CI,dx,_,_,A!,hp,w!,T.nF,Sv,Ca!,GZ!,Dj! (rC!),A!,S.f,FZ! ek AX,JYe (lo▸hz),λr ms J' pm2 pw=>?_];have em:ms=rg n:=Jtu (pm2.trans (SN! _)) pw;subst em;rw[J6n];have s1:=NN! QBd J';show FU? r JEN r JEN;show FD? (G0! H r QBd);show#[r,A!,aT! e1,Fy!];show O4? Fo r (ul! iN) J50 LM! (λi ys H'=>bQ! (XV ys)/\NX! H1/\ys=iN (El i f c)) #[Ab,Ah hl,A!] (λi ys H' _ z=>oR! z.2.1 e1 z.1);.rintro i v ys H2 N hi ⟨el,s2,rfl⟩ hN;have VW:=DH! hi;show M2?;rw[li] at VW;(have hi:AM! AN!=v:=by unfold iN at hi;rw[ZH,List.getElem?_range VW] at hi;show ZO hi);subst hi;have pH:=fG!;have S2:=Jp! pH;show A1?;(have gf:JmG Ca! f:=Jdl S2.f fu.fs);(have gc:JmG C9! c:=Jdl S2.c fu.cs);(have BK:(El i f c).length<=i:=JQT (AR! i));(have st1:El (Am!) f c=El i f c++Tx! hJ! [i] []:=by unfold El;rw[HD,LZ];congr 1;by_cases z:hJ!;(.rw[AF z];simp[z]);.rw[AD z];simp[z]);show#[Gz? CI MJ,A!,JJ,w!,T.nF,Sv,_,A!,Ca!,_,A!,gf,_,A!,p,CI,MJ,_,_,A!,JJ,w!,T.nT,Wo,_,A!,C9!,_,A!,gc,A!,_,A!,?_];show Gf (Fw!) WK!;(·(have z:hJ!:=by have:=BN z;injection this);show#[_,A!,el,Hi (by unfold iN;rw[ZA];lia),ot! Ab JZq];rw[st1,AF z];unfold iN;rw[ZF];rfl);.have z:¬hJ!:=λy=>tK! z y;show Em! #[el,s2,?_];rw[st1,AD z,AO]
 .rintro ys H2 ⟨el,s2,rfl⟩;show M2?;rw[li] at el;show k l H2 (Ea s1 hl) vD! el
abbrev OF(n:Nat)(f c:F0!)(a:NP!)(S:Ix!):Nb!:=(El n f c).map JUY
inductive VJ(vs:C!)(H:Hp)(Q:VK)(E:XK):B!
 | mk (p:Addr) (I:Iq) (n:Nat) (f c:F0!) (a:NP!) (S:Ix!) (_:HO!) (_:Rb!) (_:QT!) (_:JfT) (_:(∀k<n,Gp! YK (a k) S k)) (_:bz (IU JcE)) (_:JrV JcE)
def oq:UM! [Bm!,Do!,"h"] Np:={}
def Jzs{a:NP!}{S:Ix!}{ks:BF!}{k:Nat}(h:k∉ks):JgW (R3! JUY).map Ac!:=by show Jtp Un!;rw[AX] at m;have#[j,hj,e]:=Ey!;have e:lc=Ac!:=e;show KV! h (show k=j by show Oq! FB!) hj
def Jv1(n:Nat)(f c:F0!):(El n f c).Nodup:=JtK _
def h_{f fS fU:Addr}{fd dS dU:FuncData}(F:Z! "result" JXo Np)(T:sE)(MS:B4! CI "still" JXn R0 BD! fS dS)(GS:Gj! fS dS BD! XQ)(MU:Jdg fU dU)(GU:ET 2 fU dU Vf! (PM)):bo! BD! VJ:=by
 show E? oq;have#[p,I,n,f,c,a,Sf,rfl,S,hz,fu,st,fi,k]:=h;show A?;show H?;show P?;show AM?;show B?;show Cd? oq.nd Ha (Wr! (wq! (Em (D4 (pl:=_) SC w! MS.mt GS HJ MS.bd a! A9)) oq.nd (Tl! EQ FM t5!)) (TI! GU NF MU.mg MU.fn.kp MU.bd Kp!));intro d hd;have s1:=eh! hd;show FU? d HN! d HN!;show FD? (FY! H d .dK []);show r?;show W?;show#[U?,p,HX,_,A!,JA,d_ ZV ZV ZV ZV,p,I,n,f,c,a,A!,S1,hz,fu,λl H2 hl s2 el=>?_];show#[l,A!,aT! el,?_];have xE:d≠l:=λz=>by rw[z] at e1;rw[e1] at hl;cases hl
 have ls:AZ! iN (El n f c)=(El n f c).length:=by unfold iN;rw[ZA]
 have lz:(El n f c).length<=n:=JQT (AR! n)
 show Su (K:=K) (a:=l) (xs:=iN (El n f c)) (λj σ H'=>∃u2,JR7 WB!/\TD/\JcY/\na! (.dK (((El n f c).take j).map (λk:Nat=>(Ac!,a k,Sf k)) |>.map JzA))) #[_,A!,fG!,el,NF! s2] (λj σ H' _ h9=>by have#[_,_,_,z,_]:=h9;show GP! z) ?_ ?_;.rintro j v σ H3 hj ⟨u2,rfl,s3,aw,uK⟩;have rS:=DH! hj;rw[ls] at rS;have#[kk,ekk]:=Aw (xs:=El n f c) rS;(have hj:AM! dX!=v:=by unfold iN at hj;rw[ZH,ekk] at hj;show ZO hj);subst hj;have mk:=ZP ekk;have hk:kk<n:=JPG mk;show Gr?;show BY?;(have gs:GW H3 Js! (FU! dX!) (AC! (.ref (a kk))):=QDb dX! S3.s (fu.ss kk hk));(have uA:kk∉(El n f c).take j:=λz=>by have#[i,hi,e]:=List.mem_iff_getElem.mp z;rw[CO] at hi;rw[List.getElem_take] at e;have e3:=(ZJ ekk).2;have:=(N_ (Jv1 n f c)).mp (e.trans e3.symm);lia);show#[U?,p,CI,UW,_,_,A!,UE,w!,T.nS,Jiz,_,A!,Js!,_,A!,gs,_,A!,_,A!,d,_,A!,JN.k (k:=h! dX!) uK (Hi (by show Bp?;lia)),?_];rw[K5 _ (Jzs uA)];show#[_,A!,JMT hd,NC! xE aw,?_];rw[Ab,CK,ekk];simp only[Option.toList_some,ZF,AI,GZ]
 .rintro σ H3 ⟨u2,rfl,s3,aw,uK⟩;rw[ls,BS] at uK;show#[_,A!,d,OF n f c a Sf,A!,#[uK,Ba!],fi,λx as ts H4 s4 ex th fo=>k x as ts H4 (Af s3 s4) ex th fo];have#[j,hj,rfl]:=ZN hq;show CK! (st j (OJ! (JE! hj).1)).keep s3
open E
open E Lake.K52F
open N Lake.K52
open PySem L2 FX
def P3:∀{R U:F!},R.Nodup->(SU! (t∈U))->R.length<=U.length
 | [],U,_,_=>Ax!
 | a::R,U,nd,h=>by show AW?;have ha:=tk!;have ih:=P3 (R:=R) (U:=U.erase a) PN.2 (Ak! ((JVp (λz=>li! PN.1 ht)).mpr (h t (ZD _ ht))));rw[JVq ha] at ih;have:=JVs ha;simp only[BD];lia
abbrev Jzo(p:Addr)(W:EF)(io:Addr)(I:K52F.Iq):B!:=QFU (b=io) HC!
structure xu(H:Hp)(c b:Int)(ts:F!)(L:X!)(m:Nat):B! where
 BX:JUT
 OY:JoR (XG H Bi! BJ! b AN! (ts.filter QEf))
def xu.len(x:xu H c b ts L m):kt!:=JQS
open S
inductive Ts(vs:C!)(H:Hp)(Q:VK)(E:XK):B!
 | mk (p:Addr) (b n:Int) (W:EF) (io:Addr) (I:K52F.Iq) (m:Nat) (f c:F0!) (a:NP!) (S:Ix!) (_:Zq! (g! b) IO!) (_:wn) (_:JfL) (_:yI!) (_:m<=60) (_:K52F.Full I m f c a) (_:JVK) (_:JTe) (_:Vv!) (_:HK!) (_:rG!) (_:(JCw)) (_:Jg9 (Jdv->JYx MK!->JTo SP!->xs!->cU!->Jen n6!))
def YQ:Ap! [Bm!,"beginner","n",Dh!,"went","h","there"] nv! Ni:={}
abbrev J8j:TT:=Jez
def Jqj(F:Z! "let_all" JXz Ni)(T:Txt)(TW:He)(TP:Tj)(TI:sE)(M1:B4! CI "result" JXo Np BD! f1 d1)(G1:ET 3 f1 d1 BD! (K52F.VJ))(M3:Rd!):JhZ f fd:=by
 show Fb?;show E? YQ;have#[p,b,n,W,io,I,m,f,c,a,Sf,rfl,S,vi,SI,zm,fu,st,fi,z1,z2,z3,nf,k]:=h;show A?;show H?;show P?;show B?;have#[uL,vN]:=SI.ob;show Ah? (JyP 3 YQ.nd (JO8 t5! TI.cl)) (Ac (uF! AF!) (QDA YQ.nd Ms! (JzN JTk (Cj (i:=5) YQ.nd A! (OG! A!)) (JKO YQ.nd (XQ! (JxR J8j [("h",5)] (Wc! 3) Jex)) (QFW Br! (Jfp (JH9 Gy! Fo!))))) (bR! 4)));have gi:GW H B3! b5! JGX:=QDb n S.iq vi
 show#[_,A!,p,CW,dx,_,_,A!,hp,wE,Ow!,Tp W,_,A!,B3!,_,A!,gi,io,uL,_,A!,vN,xH!,io,I,m,f,c,a,Sf,A!,SI,zm,fu,st,fi,λxf as ts H1 s1 ag th fo=>?_];have W1:=Jp! s1;have#[HX,JA]:=W1.ob;show#[CZ?,FO? CW HX JA wE TW.nF (Ja0 W) Dm! (JN.k (k:=Z7!) W1.fi (o! Sl (D3 (by show By? z3))))];rw[Jlb nf];have#[W2,SN]:=Qar W1 (l:=UF!);have xN:=Ol! W1 SN;show MH? (d! H1 Dm! (.dK (Hs! (UF!))));have wO:=P! xN.BI ag;have YE:=My! xN th;generalize JSd Dm! UF!=H2 at W2 xN i0 wO YE;show#[Au!,dK!];show Io?;have e3:z! JMU r Zo!:=Ab;show DU?;generalize JOu=H3 at s3 e3 W3;have JA1:∀W':EF,LB!=Gv!->r∉LB!:=λW' e m=>by rw[e] at m;show W2.RZ J' m
 have#[UW,UE]:=W3.ob;show HC?
 show#[C5?,UW,_,_,A!,UE,wE,Hz!,Ey _,C5!,_,A!,PV! W3.hs,n0!,(by rw[<-e0]),oK! AG,by show JQQ,?_];rw[CL];have c9:as.length=ts.length:=AA! YE;have JJG:ts.length<=60:=by have nd:kO!:=j6! (JB2) fo.pw;have:=P3 nd (Ak! ((fo.mem t).mp ht).1);show Ck?;show AA this fi.rz
 show il! 0 SP! (λi σ H'=>M_ λ(u5:Option V)(u6:Option V)(L:List (Int×Addr))=>σ=[CM!,JGK,JGJ,Dt! xf,sD!,u5,u6]/\Qs! au!/\JYx (TH! i)/\JTo i/\un!/\KX!) #[_,_,[],A!,e3,by (have e:({ W with c:=mk! 0,ls:=W.ls++[],IF:=UF! }:EF)=JCx:=ci);rw[e];show W3,r6!,rh!,Ov! (HE! x7!)];.rintro i σ H4 hi ⟨u5,u6,L,rfl,er,W4,l4,k4,VZ⟩;rw[show uj! by lia];have JBV:=Ch! k4.BI s3 wO;have th4:=My! k4 (gX! s3 YE);show#[Aj? xf (rq! JBV) Ba!];show Jo5 (K:=K) (b:=QEf) (AJ!:=[("h",5)]) hq (by show By? JJG) (FF! JBV) th4 (λH5 a5 t5 Q' sm ha ht qq=>?_) λH5 bs sm ep tb=>?_;(.show#[v? a5,_,0,AM! t5.1,A!,A!,rw!,A!,_,A!,A!,_,A!,?_];rw[show QAP t5.1 AN!=Gn! t5.1 AN! by by_cases z:Uf! t5.1;(.rw[z];simp);.rw[AN z,AN λy=>z (by injection y)]];show qq);show Gm? q ep (λx6 hx6=>?_);have s6:=JQm hx6;have e6:or! x6 tO! x6 tO!:=Ab;have tb6:=JL5 tb;have rD:=Af sm s6;generalize d! H5 x6 tO!=H6 at s6 e6 tb6 rD;have W6:=W4.same rD;have#[YZ,iX]:=W6.ob;have#[uM,hq7]:=W6.po.ob;have er6:=P! rD er;show#[v? (Uc! er6),If? YZ,iX,wE,Sj!,Fh _,CE!,uM,_,A!,hq7,MX!,_,A!,_,A!,_,A!,?_];show FQ? _ _ W6.po (by rw[ZE,l4.len];lia) (λt7 H7 ht7 et7 S7 U'=>?_);have#[W7,wu]:=W6.MB S7 U';have kF:=Ol! W6 wu;have er7:z! H7 r au!:=KM wu er6 (JA1 _ A!);show#[r,_,_,A!,A!,er7,D3 (JX9 l4.len (AA hi z1)),?_];show Rw? H7 (a4! H7 r QEl s6!) er7;have kk:=((JS rD).trans kF).trans kq;show#[_,_,L++[(JzU,t7)],A!,xg!,?_,sm!,k4.trans kk,?_];(·(have e1:mk! Am!=JzU:=W!);rw[e1,<-BH];show W7.keep (QCV (JA1 _ A! (dj! hb))));(.rw[ZF,l4.BX,HD,ZF];congr 1;show Gv?;congr 1;show u3!);(.rw[HD];show Fa #[x6,bs,b1! et7,Ch! kq.BI kF.BI e6,Jg! kq (Jg! kF tb6)] (JS0 l4.OY));.intro b' o' e' LK;have zJ:b'≠r:=Am (g7! i0 e') J';rw[Ae zJ];show g7! wu (wP rD (VZ b' o' e' LK))
 .rintro σ H4 ⟨u5,u6,L,rfl,er,W4,l4,k4,VZ⟩;show L? (k r xf as ts L H4 fo W4 l4 (IY! k4.BI s3 wO) (Jg! k4 (Jg! (JS s3) YE)) VZ er (λz=>by have:=W2.hs;show Mq? JCx J';cases this) (Ov! (Am (i0 b o eb hb) J')))
open E
abbrev YL(p:Addr)(W:EF)(I:K52F.Iq)(H H':Hp):B!:=E6! (Ee!->HC!->b≠I.sd->b≠I.fd->kx!->Mb!)
open S
def YL.FV(x:wn)(y:yI!)(f:pj!):Ae!:=by
 have ne:∀{b:Addr} {o:HO} {d:Addr} {kvs:Bb!},Ee!->(∀kvs,o≠.dK GE)->WU!->b≠d:=λ{b o d kvs} e n ed z=>by rw[z,ed] at e;injection e with e;show n _ FB!
 show#[SA! (JtY (x.o9 e)),λa ob u e=>JtY (JfO)]
def AV.off(x:wn)(f:cP! cv!):JGY:=x.keep λb o m e=>UU! m
def Js2(nd:bP! QEJ):QD7 zE! k=D! dW!/\E6 (Hs! zE!) (l! k)=Hs! (Lx!):=#[JOL,Jo9 nd]
open E
open S
inductive Jbc(vs:C!)(H:Hp)(Q:VK)(E:XK):B!
 | mk (p t:Addr) (W:EF) (k s g n u:Int) (e1 e2:X!) (e xs:Addr) (tick:Int) (io:Addr) (I:K52F.Iq) (_:HP!) (_:wn) (_:yd! Jr!) (_:W.G_=QEJ) (_:JFw) (_:Jh2) (_:JfL) (_:yI!) (_:ia!) (_:JCt) (_:JCu) (_:JCv) (_:Vv!) (_:HK!) (_:((u=1/\JiI GZ! Jg8/\JHp GZ! (∀(x:Addr)(L:X!)(H':Hp),Td! { W with G_:=Lx!,c:=MK!,ls:=On! }->JUQ g 2->pa! Jg8->pj!->n6!->IN!))\/(u≠1/\JiI Ga! xb!/\JHp Ga! (sQ λ(m:Nat)(f:Nat->Int)(c:Nat->Int)(a:Nat->Addr)(S:Nat->HS)=>m<=60/\K52F.Full xb! m f c a/\JVK/\JTe/\rG!/\(JCw)/\Jg9 (Jdv->Td! { W with G_:=Lx!,c:=MK!,ls:=On!,IF:=UF! }->xu H' W.c g ts L SP!->xs!->cU!->pa! xb!->pj!->n6!->IN!)))))
def VH:oY! [Bm!,Hu!,"sender","beginner","n",Ln!,"last"] F9:={}
def J0x(F:Z! JXu JXv F9)(T:Txt)(TW:He)(TI:sE)(M1:B4! CI "first" JXh R1 VQ! f1 d1)(M2:B4! CI "second" JXm Nn U7! f2 d2)(M3:QFb f3 d3)(G3:ET 2 f3 d3 Me! (Kt))(M4:B4! CW "let_all" JXz Ni nv! f4 d4)(G4:JhZ f4 d4) : ET 5 f fd IA! (Jbc):=by
 show Cp? VQ! K52F.eD (K52F.pD Oh! TI T.len);have G2:Gj! f2 d2 U7! K52F.YS:=K52F.hZ M2.fn TI T.len;show pt! VH;.have#[p,t,W,k,s,g,n,u,e1,e2,e,xs,tick,io,I,rfl,_]:=h;rfl
 .have#[p,t,W,k,s,g,n,u,e1,e2,e,xs,tick,io,I,rfl,S,#[a,et,ea],ee,nde,he,vi,SI,off,zf,zs,zc,z1,z2,kk]:=h;show H?;show P?;show AM?;show B?;show L6? Ox! Ox! DG! Ox! Ox! (JhG DG!) (JLk (aU! b9!) (JKO Ox! (JcV Dp! G1 CY! (TD! FM sC! sC!)) (KB! (JlD (JHx M3.mt G3 NF M3.bd (JF8 Br! Ai))))) (QCy Ox! (JcV Jn! G2 GU! (bj! sC!))) (JlD (QAY wE M4.mt G4 M4.bd QDI)));have JA6:=nde;rw[ee] at JA6;have#[ev,ed]:=Js2 JA6;show#[_,A!,t,_,2,AM! s,A!,A!,Mg!,A!,?_];show D9?;show#[U?,t,_,4,MQ!,A!,A!,Mg!,A!,a,_,0,AM! n,A!,A!,Qb!,A!,?_];have en':=S.en;rw[ee] at en';show#[Gz? CW dx,A!,hp,wE,TW.nE,Jvn W,EU!,A!,h! #[_,h! en'],_,A!,t,_,0,AM! k,A!,A!,Mg!,A!,_,BI! k,_,en',A!,ev,?_];rw[ed];have#[W1,JI]:=Qa6 S (l:=Lx!);show Au?;have SI1:K52F.IG (EY! EU! JJ6) io I:=y5! SI.keep JI;generalize d! H EU! JJ6=H1 at W1 JI SQ SI1;have et1:=Py! et;have ea1:=Py! ea;have he1:=Py! he;have#[HX,JA]:=W1.ob;have#[uL,vN]:=SI1.ob;(have gi:GW H1 B3! b5! JGX:=ms! (GW.k (k:=h! n) W1.iq) (Yt! (({ W with G_:=Lx! }:EF).MY=W.MY)) vi);show#[_,A!,t,_,4,MQ!,A!,A!,DB! et1,A!,a,_,1,AM! u,A!,A!,DB! ea1,A!,A!,_,A!,?_];have JI0:=off Js! ed!;have JI1:=off Ca! (IN ed!);have JI2:=off C9! (IN JK9);obtain⟨u1,k1,k2⟩|⟨u1,k1,k2⟩:=kk;(.subst u1;show f?;show#[Ci? CW HX,_,A!,JA,wE,Ow!,Tp _,_,A!,B3!,_,A!,gi,io,uL,_,A!,vN,xH!,_,A!,_,A!,e,_,0,AM! FQ!,A!,A!,rx!,A!,_,A!,e,_,1,oV!,A!,A!,rx!,A!,?_];show#[io,I,s,FQ!,FS xs,A!,SI1,zf,zs,JCy];show I3? (JgQ (RF b o eb (λz=>nl! JI0) (zt! JI1)));show Mr? (RF b o ew! n1 n2);show A2?;show DD?;show HZ? GZ!;(.rw[JTE];show f?;show Qk? g n 2 (λx L H3 W3 l3 cn ex _ _=>?_);show k2 c x L H3 W3 l3 (JDO xq.keep) JVL ex);.show Qi? Ab);.rw[AN (λz=>u1 (by injection z))];show e?;show#[C5?,HX,_,_,A!,JA,wE,Ow!,Tp _,_,A!,B3!,_,A!,gi,io,uL,_,A!,vN,xH!,_,A!,_,A!,e,_,0,AM! FQ!,A!,A!,rx!,A!,?_];show#[io,I,s,FQ!,A!,SI1,zc,JCy];show I3? (JgQ (RF b o eb (λz=>nl! JI2)));show Mr? (RF b o ew! n3);show A2?;show DD?;show HZ? Ga!;(.rw[JTE];show f?;have#[m,f,cf,af,Sf,zm,fu,st,fi,z3,nf,k3]:=k2 c;have kt:=YL.FV S SI xb;show#[o?,MJ,_,A!,JJ,C8 _ ZV,_,A!,_,A!,p,g,n,_,io,_,m,f,cf,af,Sf,A!,W2,vi,xq,zm,fu,λj hj=>(st j hj).keep kt,fi,z1,z2,z3,nf,λx xf as ts L H3 fo W3 l3 ag th cn ex _ _=>?_];show k3 x xf as ts L H3 fo W3 l3 ag th (xq.keep λb hb o eb=>cn b o eb (off b hb)) JVL ex);.show Qi? Ab
inductive Jjq(vs:C!)(H:Hp)(Q:VK)(E:XK):B!
 | mk (p:Addr) (h:Int) (W:EF) (q:Addr) (G:CU) (_:Qu!) (_:wn) (_:Bt!) (_:Vv!) (_:HK!) (_:W.MY.length<=400) (_:(∀l∈W.MY,As!≠md!)) (_:∀(io:Addr)(I:K52F.Iq)(L:X!)(H':Hp),Td! { W with MY:=pQ!,c:=MK!,ls:=On! }->QC H' W.c h zB! 1 L SP!->pa! I->ia!->(JTu)->I.m=n0!->I.ss=[]->I.fs=[]->I.cs=[]->KX!->ng! zB!)
def b_:Ap! [Bm!,"h","n"] Gg! Jr4:={}
def J0w(F:Z! AU! "World.ask" Jr4)(T:Txt)(TW:He)(TI:sE)(MH:I7!)(zv:Mk K CI fI)(FI:JZ9 fI dI)(bI:Tp! dI NH!)(M1:QFb f1 d1)(G1:gi! Me! Kt):JNO Jjq:=by
 show FT?;have GI:GQ 1 fI dI NH! (K52F.QU):=cA! K52F.XU FI TI;have G1':yJ! Me! Kt:=Kz! G1;show d? b_;have#[p,h,W,q,G,rfl,S,i,z1,z2,z3,h1,k]:=h;show A?;show H?;show P?;show B?;show Bm? nN! (mN! 2 b_.nd (KG! Ia (A8 Wx J5! T.len CT (DA! Aa!))) (JP1 (uF! (R7 zv GI hr J5! TI.pN bI a! Ci (DA! QDq))) (Cg (mc! SC wE Dp! G1' CY! (JSX Ai)))));show Lj? (x! #[q,G,i,?_]);show#[C5?,dx,_,_,A!,hp,wE,Ow!,Tp W,B3!,_,A!,S.iq,_,_,A!,A!,?_];rw[Sl];show#[_,A!,p,CW,dx,_,_,A!,hp,wE,Hz!,Ey W,C5!,_,A!,QDM,λio uL nio pL nex=>?_];show#[io,uL,_,A!,Ab,λH1 I kp1 A1 im is if' ic n1 n2 n3=>HF!];have s0:Ds! (V0! uL (JD! io) io (JN! CI uL [])):=px! nio pL
 have s1:K8!:=JO6 s0 nio;have GJ:JTu:=SZ (by show P6?;(.show nio);(.show Ea s0 n1);(.show Ea s0 n2);.show Ea s0 n3)
 have off:ia!:=SZ (S.RZ (GJ b hb));show r?;show W?;show#[Hw? HX JA Ow! (Tp W) B3! (JTj md! S1.iq z3)];rw[Jlb h1];have#[W2,SN]:=S1.JJN (l:=pQ!);have A2:K52F.IG JeZ io I:=y5! A1.keep SN;show MH? JeZ;generalize JSd B3! pQ!=H2 at W2 SN A2 i0;show A2?;show Qk? h md! 1 (λx L H3 W3 l3 cn _ _ _=>?_);show L? (k io I L H3 W3 l3 (JDO A2.keep) off GJ ?_ is if' ic (Ov! (cn b o x7! hb)));rw[im];simp
open E
open S
inductive Px(vs:C!)(H:Hp)(Q:VK)(E:XK):B!
 | mk (p:Addr) (n:Int) (W:EF) (l1 l2:X!) (t:Addr) (m s g:Int) (kind:Str) (v:V) (_:Qv!) (_:wn) (_:JLh) (_:cI! [g! m,bn BA!,g! s,g! g,v]) (_:∀H1,WH! { W with ls:=OU! }->NY!->((q1!/\QEC Rt)\/JEX (H0! AU!) Hv\/JEX JCb Jbc\/(H0! GS!/\QEC Hu)\/((JLb/\¬H0! AU!/\JLc/\¬H0! GS!)/\Ks [Cc!,TP!] H1 (λ_ H2=>∀r,b3! r->S5! r JMU) E)))
def J0v(F:Z! "deliver" "World.deliver" Oz)(TW:He)(TP:Tj)(M1:B4! CP "taken" "Post.taken" Rz KJ! f1 d1)(M2:To! JXO JXP Nh f2 d2)(G2:tp! f2 d2 Ks)(M3:To! "pass_came" JXR Jbm f3 d3)(G3:ET 2 f3 d3 IA! (Rt))(M4:To! "ask_came" JXt Ky f4 d4)(G4:tp! f4 d4 Hv)(M5:To! JXu JXv F9 f5 d5)(G5:ET 5 f5 d5 IA! (Jbc))(M6:To! "let_came" JXx Kw f6 d6)(G6:tp! f6 d6 Hu):KL! 6 KJ! Px:=by
 have G1:GQ 1 f1 d1 KJ! (Jbe):=Jib Oh! TP;have G2':JKk f2 d2 Ks:=Kz! G2;have G3':P0! f3 d3 IA! Rt:=Kz! G3;have G4':GQ 3 f4 d4 IA! (Hv):=Kz! G4;have yS:GQ 5 f5 d5 IA! (Jbc):=Kz! G5;have G6':JKk f6 d6 Hu:=Kz! G6;show ok1 F MF (λvs H Q E h=>?_) (λER A outer s H vs Q E hr h=>?_);.have#[p,n,W,l1,l2,t,m,s,g,kind,v,rfl,_]:=h;rfl
 .have#[p,n,W,l1,l2,t,m,s,g,kind,v,rfl,S,el,et,k]:=h;show P?;show AM?;show AN?;show B?;show FG?;show IM? MF.nd (Jeo TP.cl HJ EQ) MF.nd (L3! FM) (QEy M3.mt G3' NF M3.bd) (P1! (JRA M4.mt G4' M4.bd) (QEy M5.mt yS hr M5.bd) (JRA M6.mt G6' M6.bd) (Cg (QBW Jn! G2' TX GU!)) (Ag (Ao (Fw Ad))));show#[SA? dx hp,Fh W,CE!,HX,_,A!,hq,MX!,_,A!,CE!,W.pd,W.c,FJ!,n,A!,S.po,?_];show l! #[l1,l2,t,el,T3!];have#[W1,JI]:=S.MB S1 (ZF! (IG! ON h2));show Au?;have#[MJ,JJ]:=W1.ob;show#[_,A!,t,_,_,_,A!,A!,Mc! SQ.BI et,A!,?_];have k2:=k H1 W1 JI;clear k;obtain⟨rfl,k⟩|⟨rfl,k⟩|⟨rfl,k⟩|⟨rfl,k⟩|⟨nk,k⟩:=k2;(.show yC #[_,A!,p,MJ,_,A!,JJ,C8 _ ZV,_,A!,k]);(.show fF (yC (QCT k)));(.show fF JhJ);(.show fF (fF JhJ));.show fF (ne:=nk.1) (fF (ne:=nk.2.1) (fF (ne:=nk.2.2.1) (fF (ne:=nk.2.2.2) (QCT ?_))));have#[p',t',W',n',s',g',JBj,tb,wt,q,G,G',e1,h1,h2,h3,h4,h5,h6]:=k;show#[p',t',W',n',s',g',JBj,tb,wt,q,G,G',e1,h1,h2,h3,h4,h5,λH2 a1 a2=>#[Ax!,h6 H2 a1 a2]]
open E
abbrev Ew(qs:No):KE:=(qs.map λq=>Ip!).sum
def Jig:JT0 (Ew pL!) (LC!-Ip!+r.2.AY)
 | [],i,q,r,h=>B7!
 | a::l,0,q,r,h=>by (have e:a=q:=by simpa using h);subst e;simp only[List.set_cons_zero,Ew,AI,DO];lia
 | a::l,i+1,q,r,h=>by have ih:=Jig (l:=l) (i:=i) (q:=q) (r:=r) bw!;simp only[List.set_cons_succ,Ew,AI,DO] at *;lia
abbrev pO(qs:No)(h:Nat):KE:=(qs[h]?.map λq=>Ip!).getD 0
def Jcu:∀{qs:No},(∀q∈qs,0<=Ip!)->Cf! (yP! Jgf)=Ew qs
 | [],_=>by simp[Ew]
 | q::qs,nn=>by have ih:=Jcu (qs:=qs) (Al! (nn z mb!));show KL?;simp only[AI,AX,DO];(have e1:x8! (pO (q::qs) h).toNat Jgf:=by funext h;simp[pO]);rw[e1];(have e2:pO (q::qs) 0=Ip!:=by simp[pO]);have:=Ta! nn q;rw[e2];change _=Ip!+Ew qs;lia
abbrev unv(m:Nat)(mx:sT!):F!:=(AR! m).flatMap λk:Nat=>(AR! (mx k)).map λj:Nat=>((Ac!,lc):T2)
def Jzt(m:Nat)(mx:sT!):(unv m mx).length=JQa:=by simp_all [unv]
abbrev PF(qs:No)(t:T2):B!:=M_ λ(j:Nat)(q:Addr)(G:CU)=>nV!/\AV!=lc/\0<=A7!/\c9!
def PF.set{qs:No}{i:Nat}{q:Addr}{G G':CU}{t:T2}(hi:Sc)(md:H2!)(h:PF qs t):PF Eo! t:=by
 have#[j,r,M,e,h1,h2,h3]:=h;show C? (j=i);.subst c;rw[hi] at e;cases e;show#[j,q,G',Kq! JQ (DH! hi),h1,h2,BL h3 md]
 .show#[j,r,M,l2! (OK (X6! c)),h1,h2,h3]
abbrev QS(G:CU)(t:T2):B!:=DS!\/du!
structure Mk(qs:No)(ls:cr):B! where
 has:Vu! (∀t,D6!->PF qs t)
 lt:JB6 qs
def Mk.next{qs:No}{ls QL:cr}{i:Nat}{q:Addr}{G G':CU}(x:Mk qs ls)(hi:Sc)(md:H2!)(h1:wf! Eo!)(h2:∀l∈QL,Sk!\/PF qs sB):QBt Mk QL :=#[λj r M e t ht=>by show Cy?;(.subst e2;show D? eo!;(.show(x.has i q G hi t h).set hi md);.show h);.show(x.has j r M e t ht).set hi md,FI! (by show D? (h2 l hl);(.show(x.lt l h).set hi md);.show h.set hi md)]
abbrev MZ(H:Hp)(G_:X!)(y:Lm!):sG!
 | .w l=>QFi H
 | .ask s g n u=>JsY AU!
 | .MN s g n u tick S=>JsY Jr!/\HN λe xs=>(BJ!,e)∈G_/\Jh2/\YK K H xs S
 | .lt s g ts=>pw! Bi! BJ!
def MZ.keep(h:XS!)(k:Ae!):MZ H' G_ y z:=by cases z with | w l=>show NP.keep h k | ask s g n u=>show TH.keep h k | MN s g n u tick S =>show QL?;show#[h1.keep k,e,xs,h2,TK! h3,h4.keep k] | lt s g ts=>show XG.keep h k
def MZ.more(h:XS!)(sb:∀e,(BJ!,e)∈G_->(BJ!,e)∈JJq):MZ H JJq y z:=by cases z with | w l=>show h | ask s g n u=>show h | MN s g n u tick S =>show QL?;show#[h1,e,xs,sb e h2,h3,h4] | lt s g ts=>show h
def Fn(x:JSo al)(k:Ae!):Cd! (MZ H' G_) ys al:=uZ! x
structure Qy where
 n:KE
 io:G!
 I:K52F.Iq
 fi:F3!
 se:QX!
abbrev Ej(y:Qy):S!:=[y.io,y.I.sd,y.I.fd,y.I.cd]
def HU:qK!↔(b=y.io\/b=y.I.sd\/b=y.I.fd\/b=y.I.cd):=by simp[Ej]
structure VF(H:Hp)(m:Nat)(y:Qy):B! where
 at_:K52F.IG H y.io y.I
 many:y.I.m=BV!
 fs:y.I.fs=y6! y.fi.map Dz!
 cs:y.I.cs=y6! y.se.map r.2
 ss:KW! (λ(kv:Key×V)(r:Int×Int×HS)=>∃a,kv=(BI! AT,MQ!)/\QCG) ZO! Jt!
open S
variable {H H':Hp}{m:Nat}{y:Qy}
def VF.has(x:hs!)(hb:qK!):∃o,Ee!/\(JRp)/\(∀xs,o≠XV xs)/\(JB8):=by
 obtain rfl|rfl|rfl|rfl:=HU.mp hb;.have#[dx,e]:=x.at_.ob;show SK? e
 show H6? x.at_.s
 show H6? x.at_.f
 .show SK? x.at_.c
def VF.keep(x:hs!)(k:o8! qK!)(kt:Ae!):VF H' m y :=#[x.at_.keep λb hb o e=>KK! k (HU.mpr hb),x.many,x.fs,x.cs,JqC x.ss]
open E
abbrev Kn(ns:q!):sG!
 | .ask _ _ n u=>JgU
 | .MN _ _ n u _ _=>JgU
 | _=>True
abbrev ZX(l:LT):ut:=Be! K3! 5 (Be! q3! 1 2)
abbrev pJ(w:Nat):LL->ut
 | .w l=>w*ZX l
 | .ask _ _ _ u=>yY!
 | .MN _ _ _ u _ _=>JbD
 | .lt _ _ _=>1
abbrev Ih(m:Nat)(y:Qy):ut:=Be! (y.fi.length<m) (3*y.fi.length) (if y.se.length<m then y.se.length else 0)
abbrev Gb(w:Nat)(al:V!):ut:=(al.map (pJ w)).sum
abbrev Pi(m:Nat)(ys:i!):ut:=(CS! (Ih m)).sum
abbrev yi(w m:Nat)(qs:No)(al:V!)(ys:i!):ut:=Gb w al+Pi m ys+w*T6 qs
abbrev PB(m A B:Nat)(qs:No)(al:V!)(ys:i!):B!:=A<=yi 0 m qs al ys/\yi 1 m qs al ys<=B
def Eu(w9:Nat)(a b:V!):Gb w9 (A5!)=Ne! a+Gb w9 b:=by unfold Gb;rw[ZF,OQ]
def K7(w9:Nat)(a b:V!)(z:LL):Gb w9 (a++z::b)=Gb w9 (A5!)+pJ w9 z:=by rw[Eu,Eu];change Ne! a+(pJ w9 z+Gb w9 b)=_;lia
def Jqc(w9:Nat)(ls:cr):Gb w9 (Hr! .w)=w9*QEP:=by induction ls with | nil=>simp[Gb] | cons l ls ih =>change w9*ZX l+Gb w9 (Hr! .w)=w9*(ZX l+QEP);rw[ih,Nat.mul_add]
def Jni:∀al:V!,al.length<=fZ!
 | []=>Ax!
 | z::al=>by have ih:=Jni al;(have h:1<=pJ 1 z:=by cases z with | w l=>change 1<=1*ZX l;unfold ZX;split<;>(try split)<;>decide | ask s g n u=>change 1<=yY!;split<;>decide | MN s g n u t S=>change 1<=JbD;split<;>decide | lt s g ts=>show ZG 1);change al.length+1<=pJ 1 z+fZ!;show AA Uz! (Nat.add_lt_add_of_lt_of_le h ih)
def J0i{qs:No}{i:Nat}{q:Addr}{G G':CU}(hi:Sc):Ju! (T6 Eo!)=ky! (T6 qs):=Jm9 (r:=H9!) hi
def PB.next{m A B A' B':Nat}{qs:No}{al al':V!}{ys:i!}{i:Nat}{q:Addr}{G G':CU}(x:JUf)(hi:Sc)(h0:A'=0\/Gb 0 al+A'<=Gb 0 AL!+A)(h1:ky! (Gb 1 AL!)+B<=Ju! fZ!+B'):JkD Eo!:=by have h2:=J0i (G':=G') hi;have#[x1,x2]:=x;unfold PB yi at *;show#[?_,W!];obtain h0|h0:=h0<;>lia
structure WI(H:Hp)(p:Addr)(W:EF)(D:db)(m n d A B:Nat)(al:V!)(ys:i!):B! where
 wa:wn
 wg:oE! D n A9! Mh!
 md:UY!<=n
 ob:∀(j:Nat) q G,Tq! (W.qs[j]?) JPZ
 m1:1<=m
 m5:Fx!
 lw:Cd! (MZ H W.G_) FJ! al
 en:JFw
 ec:∀e∈W.G_,e.1<=W.c
 ez:W.G_.length<=d
 fz:W.IF.length<=d
 ma:Mk A9! (LM al)
 pb:PB m A B A9! al ys
 iz:ys.length<=n
 iq:W.MY=CS! gy!
 pS:CS! ZP!=(AR! jQ!).map JWY
 nd:JY6
 off:JC0 HC!
 at_:∀y∈ys,hs!
 iv:∀y∈ys,UI m A9! Mh! al y.n Jt! y.se
 kn:∀z∈al,JnZ
 ff:∀e∈W.IF,∃y∈ys,y.n=e.1/\JvZ
 lt:JwN (yb!∈al) JSh
abbrev Wz(p:Addr)(W:EF)(ys:i!)(H H':Hp):B!:=JKN HC! (b∉RI!)
open S
variable {p:Addr}{H H1:Hp}{W W':EF}{D:T2->Prop}{m n:Nat}{al al':List LL}{ys:List Qy}
def WI.same(x:k!)(s:K8!):JFj H1 :=JC1 (x.wa.same s) (Fn x.lw (JS s)) (iv! Q2!) (JS s)
def WI.len(x:k!):W.ls.length=al.length/\al.length<=B:=by have h1:=AA! x.lw;have h2:=Jni al;have h3:=x.pb.2;unfold yi at h3;lia
def WI.P'(x:k!)(hB:Bx!):HK!:=by have:=x.len;lia
def Jl5{i:Nat}{q:Addr}{G G':CU}{c:Int}{Ls:X!}(hi:dm!)(nw:Nl!):JID (Cy p JC2):=SZ (by show BP?;(.show F? (Gq! hb));.have#[z,hz,hm]:=EB.mp hb;have hz:z∈ch!:=hz;obtain hz|rfl:=RB hz;(.show F? (D4! (Lo! #[z,hz,hm])));.have mq:=ZP hi;obtain hm|hm:=hm;(.show F? (JaD (h! hm)));.show D? (nw b hm);(.show F? (JaD (IN h)));.show y?)
def zq(f:NY!):Wz p W ys H H1:=λb o e h _=>UU! h
def WI.dt(x:k!)(f:NY!)(hy:St!):VF H1 m y:=(Ss! y hy).keep (Bh! (UU! (Jv! y hy b hb))) (Ol! Cb! f)
def WI.JIp(x:k!)(sub:JID LB!):JC0 (b∉LB!):=λy hy b hb m=>by show D? (BO! b m);(.show Jv! y hy b hb h);.show Fp?;show x?;cases h
def WI.oj(x:k!){j:Nat}{q:Addr}{G G':CU}{c:Int}{Ls:X!}(hi:JE6)(W1:WH! JWZ)(wf:NY!)(nw:Nl!)(tk:Sm!)(md:H2!)(mk:dN!)(ou:gB!)(wg:oE! D Fc! ck! (LM AL!))(st:OC A9! Mh! ck! (LM AL!))(hA:∀n u,VC! AL!=mt!)(hB:∀n u,VD! AL!=Dp al n u)(lw:Cd! (MZ H1 W.G_) Ls AL!)(mk':Mk ck! (LM AL!))(pb':JkD ck!)(hc:W.c<=c)(sub:∀z∈al',Oy!\/∃l,z=.w l):WI H1 p JWZ D m Fc! Pp! A' B' AL! ys:=by
 show BZ?;have a2:=x.ez;have a3:=x.fz;show Ba?;show#[W1,wg,?_,λj2 q2 G2 e2 t ht=>?_,x.m1,x.m5,lw,JY!,He! (BL (x.ec e he) hc),Jc4,yk!,mk',pb',CJ a4,FK!,x.pS,Aj!,x.JIp (Jl5 hi nw),JV4,GF! ((Jw! y hy).oj hi tk md (hA y.n) (hB y.n) st),ME!,x.ff,oP!];.change Ew (Lp! j H9!)<=_;rw[Jig hi];change UY!-G.AY+G'.AY<=JFc;lia
 .have e2:(W.qs.set j (q,G'))[j2]?=D! (q2,G2):=e2;obtain⟨_,e3,_⟩|⟨_,e3⟩:=F8 e2;(.rw[e3] at ht;show D? (ou t ht);(.show x.ob j q G hi t h);.show h);.show x.ob j2 q2 G2 e3 t ht
 .obtain h|⟨l,rfl⟩:=HG! BO!;(.show Jx! z h);.trivial
 .obtain h|⟨l,h⟩:=BO! _ hz;(.show Pa? (st F sF) fD);.cases h
open E
def D5{as:R!}{bs:B8!}{cs:R!}{ds:B8!}(p:gn!)(q:JZX):Jdz:=J0s p q
def Fb{α β γ:Go}{f:β->γ}{R:lg! γ}{l:R!}{m:B8!}(p:KW! (λa b=>R a (f b)) l m):TZ! R l m.map f:=J2w (g:=f) (λ_ _ h=>h) p
def Ji1(h:Et!):JUU:=by unfold Aj;cases e:WZ! BR! with | none =>show Fu?;show Dg?;simp[e2] at this | some q =>have:=FL e;have:BR!:=BN this;rw[<-this];rfl
abbrev nums(c:Int)(k:Nat):q!:=Du! AR! k QEi
def Jn4(c:Int):[c+1]=nums c 1:=by unfold nums;simp
def J60(c:Int):[c+1,c+1+1]=nums c 2:=by unfold nums;simp[HD]
structure Nv(W W':EF)(WB L:X!):B! where
 ls:W'.ls=WB++L
 nu:xz!
 c:W'.c=W.c+bi L.length
 sh:kz!
structure Nw(W W':EF)(WB L:X!):B! extends fN! where
 fi:Jy!
def Nv.zero{W W':EF}{WB:X!}(h:W'.ls=WB)(c:W'.c=W.c)(e:kz!):aq! WB []:=#[AO! h AO,A!,Tr! c,e]
def Nv.one{W W':EF}{WB:X!}{t:Addr}(h:W'.ls=WB++nd!)(c:W'.c=CG!)(e:kz!):aq! WB nd!:=#[h,Jn4 _,c,e]
abbrev Fp(p:Addr)(W:EF)(ys:i!)(W':EF)(EA:i!)(H:Hp):B!:=∀b,(b∈LB!\/b∈uS!)->b∈Gv!\/b∈RI!\/BU!
def Jq7{p:Addr}{W:EF}{ys:i!}{H:Hp}{i:Nat}{q:Addr}{G G':CU}{c:Int}{Ls:X!}(hi:dm!)(nw:Nl!):Fp p W ys JC2 ys H:=SZ (by obtain h|h:=hb;(.show D? (Jl5 hi nw b h);(.show O?);.show BH? h);.show B0?)
def Jlp{p:Addr}{W W':EF}{ys i1 i2:i!}{y y':Qy}{H:Hp}(ey:XW!)(qf:Ej y'=Ej y)(ew:LB!=Gv!):Fp p W ys W' (Mi!) H:=SZ (by obtain h|h:=hb;(.show cG! ew h);.show BI? ?_;rw[ey,DI,DJ,<-qf];rw[DI,DJ] at h;show h)
abbrev KT(p:Addr)(K:W.Frag)(W:EF)(m n d A' B':Nat)(ys:i!)(H:Hp)(Q:VK)(R:V->EF->V!->Zc! i!):B!:=∀(v:V)(W':EF)(D':db)(al':V!)(EA:i!)(H':Hp),R v W' AL! EA H'->cZ!->Jzr Fc! Pp! A'->VS!->k0!->T1!
open S
variable {p:Addr}{H H1:Hp}{W W':EF}{D:T2->Prop}{m n:Nat}{al:List LL}{ys:List Qy}{Q:VK}{E:XK}{h:Int}{q:Addr}{G G':CU}
def J1y{a:Addr}(ha:NJ!):∀b∈JhL,b∈Cg!\/BU!:=SZ (by rw[Jyp] at hb;show BP?;(.show F? hb);.rw[ZK hb];show x! ha)
def Jiw(ta:T2)(l:F!):Xe! { G with BG:=Fb!,holds:=LN AK! ta l }:=by unfold CC;change xY! ((LN AK! ta l).map Hm!)=_;rw[Jwd]
def J45(ok:sw):d4!:=xh!
def Jyj{a:Addr}(h:QS (KQ (YF G a)) t):D6!\/QAT:=by
 show Fh?;.show I2?;show Bl?;(.show B1?);.show IN (by simpa using h)
 .show GU?;show BQ?;(.show F? (PO! IN #[r,hr,ht]));·(have e:r=(FX!,a,[]):=by simpa using hr);show q?;cases ht
 .show Cm?
def Jyk(hb:BP!)(h:QS fF! t):D6!:=by
 show Fh?;show An? h
 .obtain⟨_,e⟩|hr:=La hr;(.show q?;show D? PZ!;(.show l! (Iv h));.rw[h];show QDF);.show IP?
 show BC?
def Jyl(h:QS cl! t):D6!:=by
 show Fh?;show An? h
 .obtain⟨_,e⟩|hr:=La hr;(.show q?;show l! (Iv VK!));.show IP?
 show BC?
def Jox{l:F!}(hl:∀t∈l,D6!)(h:QS (KQ jt!) t):D6!:=by
 show CT?;.show hl t h
 .show Cm?
 show BC?
def Jsr{v:Int}(hr:tb∈n3!)(h:QS (Mz G tb v) t):D6!:=by
 show Bs?;show Bt?
 .show D? ((En _ _ _).2.2 t h);(.rw[h];show x! hr);.show y?
def Ju1(h:QS sS! t):D6!:=by
 show Bs?;show w? (Jop h).1
 show Ky?
def J1v(h:QS d1! t):D6!:=by
 show Bs?;show w? (Jk9 h).1
 show Ky?
def Jpj{X:CU}{rs:Q!}(pm:rs.Perm X.AL):(Cr X rs).length+(IC X).AL.length<=X.AL.length:=by show Fd? X gc!;have h2:=(pm.filter λq=>! gc!).length_eq;have h3:=Sx (λq:T2×Int=>gc!) X.AL;change _+AZ! X.AL.filter (λq=>gc!)<=_;lia
def Jay{f:ES!->LT}(hf:∀r,(f r).kind=GV!):∀rs:Q!,JiN=rs.length
 | []=>rfl
 | r::rs=>by have ih:=Jay hf rs;(have e:ZX (f r)=1:=by unfold ZX;rw[hf];rfl);change ZX (f r)+JiN=rs.length+1;lia
def Jjf{G:CU}{rs bs:Q!}{f:ES!->LT}(hf:∀r,(f r).th=AT)(pm:DY!)(sub:∀z∈bs,z∈rs):∀l∈E4! f,QS G sB:=FI! (by show Fz? hl;rw[hf];show G? (BJ (ZK! (BO! r hr))))
def WI.IW(x:k!)(i:Bt!)(W1:WH! qp!)(wf:NY!)(nw:Nl!)(tk:Sm!)(md:H2!)(mk:dN!)(ou:gB!)(wg:w1! Mh!)(hs:wf! (Lp! h.toNat H9!))(rl:G'.AL=G.AL)(cA:Gb!)(cB:Jz!)(st:w4! Mh!)(k:Cr!)(v:V)(hr:∀W',nn!->W'.qs=JzO->R v W' al ys H1):fD! :=k v qp! D al ys H1 (hr qp! #[Nv.zero A! A! A!,A!] A!) (Jq7 (c:=W.c) (Ls:=FJ!) be nw) (x.oj (c:=W.c) (Ls:=FJ!) be W1 wf nw tk md mk ou wg st oI! oI! Jrm (k1! be md hs (FI! (h! hl))) (k2! be (IN (LH cA _)) (o! rl (LH cB _))) PJ! (Al! (h! hz))) (zq wf) A!
def J14(x:k!)(hn:SL)(hB:Bx!)(i:Bt!)(cA:Gb!)(cB:Jz!)(k:Cr!)(hR:∀t a W' H',JON->nn!->JC3 Q8!->R KP! W' al ys H'):JNS:=by
 show Ax?;have z1:=s.ok.hz;have z2:=s.ok.oz;have z3:=s.ok.P';show#[p,h,W,A!,Cb!,x! #[q,G,i,q,G,A!,i.at Cb!,bZ!,t4!,JyX (AE z3 hn),s.ok.fresh.1,zd!,s.ok.fresh.2.2,λt a H1 ht ha et S1 ON=>?_]];have cz:=J1y (G:=G) ha;show CB? Q8!;show x.IW i W1 JI cz JzY JzX PJ! Iw! (x.wg.make be hn a) (JT6 Jyj QR!) A! cA cB (Jmj be nu a) k _ λW' c e=>hR t a W' H1 et c e;rotate_left;.show#[h.toNat,q,Q8!,Kq! JQ (DH! be),JM4,b0! s.m0,by rw[e];change G.AY<Dx!;show AJ _]
 show Oj?;rw[ZF] at ht;show F9?;show Bt?
 ·show Gj?;rw[e];show G? s.m0
def J15(x:k!)(hn:SL)(hB:Bx!)(i:Bt!)(ea:G5!)(eb:BW!)(ha:At!)(hb:BP!)(hh:G8!)(cA:Gb!)(cB:Jz!)(k:Cr!)(hR:g9! Wx!):oF! Ou:=by show Ax?;show EI?;have z1:=(s.ok.get ta).2.1;show Bi? h (x! #[q,G,i,q,a,b,G,ta,tb,A!,i.at Cb!,ea,eb,IN (IN #[ha,hb,hh,ad,_,fd,bZ!,T3!])]);show Pv?;show Pj? Mq ur!;show CB? Wx!;have#[g1,g2]:=x.wg.hold be (ta:=ta) hb;show QFl (Eb! (h! (Jyk hb ht)))
def J17(x:k!)(hn:SL)(hB:Bx!)(i:Bt!)(ea:G5!)(eb:BW!)(ha:At!)(hb:P7!)(hh:G8!)(cA:Gb!)(cB:Jz!)(k:Cr!)(hR:g9! Wy!):oF! Ow:=by show Ax?;show EI?;show Bi? h (x! #[Im? hh xy!]);show Pv?;show Pj? Lg va!;show CB? Wy!;have#[g1,g2]:=x.wg.drop be ta tb;show QFl (QBj Jyl)
def J12(x:k!)(hn:SL)(hB:Bx!)(i:Bt!)(ea:G5!)(eb:BW!)(ha:At!)(hb:P7!)(hh:G8!)(cA:Gb!)(cB:Jz!)(k:Cr!)(hR:g9! Wu!):oF! Oq:=by show Ax?;show EI?;have z1:=s.ok.hz;show Bi? h (x! #[JI? hh xy!]);show Lm? vV!;show CB? Wu!;have#[g1,g2]:=x.wg.take be ha hb;show Jl1 ((OY! hu).elim (λz=>Z9! z) λz=>U! z (l! (Iv hb)))
def J16(x:k!)(hn:SL)(hB:Bx!)(i:Bt!)(eb:BW!)(hb:BP!)(cA:Gb!)(cB:Jz!)(k:Cr!)(hR:g9! Wv!):Jhf:=by show#[p,h,_,W,A!,Cb!,JxD xy!];show Lm? vW!;show CB? Wv!;have#[g1,g2]:=x.wg.free be tb;show Jl1 (Z9! (JC.mp hu).1)
def WI.sU(x:k!)(i:Bt!){c:Int}{L:X!}{ls:cr}(W1:WH! vQ!)(wf:NY!)(nw:Nl!)(tk:Sm!)(md:H2!)(mk:dN!)(ou:gB!)(wg:w1! (Mr!++ls))(st:w4! (Mr!++ls))(hs:∀t,QS G' t->D6!)(lm:OS! (QS G sB))(cA:Gb!)(cB:JCz+B<=G.AL.length+B')(hc:W.c<=c)(nu:xz!)(ec:JC4)(lw:JlU)(k:Cr!)(v:V)(hr:JhA Wi! JMh):fD!:=by
 have e:LM (JCl)=Mr!++ls:=JYB
 show JxS vQ! JMh vQ! JCl (Os! (cK! C9 qG!)) (Os! (cK! C1 qH!)) Jrm;.rw[e];show k1! be md (QC8 hs) Fy!;show GB?;(.show O?);.show IN (JsX (lm l h))
 .show k2! be (Eg! ?_) ?_;(.rw[Eu];show MT KD! cA);.rw[Eu,Jqc];lia
 .show p? hz;(.show O?);.show K0?
abbrev UC(sh h g:Int)(tb:T2)(G G':CU)(l:LT):B!:=(Up!/\G'=qG G tb (aM!+sh)/\l=#[BM!,h,g,tb,sh])\/(HD!/\aF!=1/\G'=Mz G tb 0/\l=#[H1!,h,tb.1,tb,g])\/(HD!/\JN9/\G'=Mz G tb (JVu)/\l=#[BM!,h,g,tb,aF! / 2])
def J13(x:k!)(hn:SL)(hB:Bx!)(i:Bt!){g:Int}(g0:Fu!)(g1:g<m){b:Addr}{tb:T2}(eb:BW!)(hb:BP!)(cA:Gb!)(cB:B+5<=B')(k:Cr!)(hR:∀W' G' l t H',JkV h g->JIT->W'.qs=JzO->R (FU! T2!) W' (al++[.w l]) ys H')(kE:HD!->st!->Zt! NW):JFi Jam:=by
 show Ax?;have z1:=s.ok.oz;have z2:=s.ok.rz;show Ae?;show Ms?;have ig:HN JnP:=by have#[y,hy]:=lV! A9! g.toNat (a2! k3!);show#[BJ!,Bi!,g0,hy]
 show#[p,b,h,g,W,tb,q,G,A!,Cb!,eb,i,ig,bZ!,t4!,JGj,?_];by_cases near:Up!;.have ho:=s.ok.hk tb hb Gc!;show BI? #[hb,Gc!,_,Ji1 ho,Mf! ME!,λt H1 W1 l1 JI=>?_];(.have:=s.ok.rk z.1 (B2! xu!);have:¬z.1=tb:=λe=>KV! this e Gc!;show AQ?);have#[wg,st]:=x.wg.VM be hb Gc! g0 g1;show C0?;show JVC qG (aM!+W.share) (Eb! (l! (by show Fs?;(.rw[h];show ho);.show h))) (λt h=>h) (Px! (rH!+B<=_)) (DC! #[Gc!,A!,A!])
 .have hr:=s.rk tb (DC! hb) Gc!;have nn:=P7 s.nn tb;show AC? #[hb,Gc!,_,Ji1 hr,?_];by_cases w0:st!;(.show F? #[w0,kE Gc! w0]);.by_cases w1:aF!=1;(.show BI? (JDp w1);show PK? x.wg.VL w1;show C0?;show QFo (Mz G tb 0) (SZ (h! hb)) l9! JMg (FI! (U! (ZK hl) QDF)) (JlB (Ju! 5)) (CA (AJ _)) (Jn4 _) A! (ak! l1) (λ_ c e=>hR _ _ _ _ _ (lZ! (Zi! Gc! w1)) c e));·(have w2:JN9:=W!);show AC? (JDp w2);show PK? x.wg.XS w2;show C0?;show JVC Mz JVu l9! JMg (JlB rH!) (mp! (Zi! Gc! w2))
def Jyx(x:k!)(hn:SL)(hB:Bx!)(i:Bt!)(cA:Gb!)(cB:Jz!)(k:Cr!)(hR:∀y W' kk R' (rs:Q!) H' L,JZN kk R'->DY!->F6!->Wi!->JC3 (Gv G R')->QD4->QDi (al++JqF (keepR G R') h)):cL! Ru:=by
 show Ax?;show Ae?;show Ms?;show Gn?;have#[kk,R,hk,rc]:=FX.OX.ofN s.ok (BU hn);have zb:g0! DE!:=by show Fd? DE! I0!;have h2:=JSw I0!;have h3:=GX.pr.length_eq;have h4:=s.ok.rz;lia
 show#[p,h,W,q,G,n,kk,rs,R,A!,Cb!,i,s.ok,JHM,Jg1 s.ip,JhB s.ip,H3!,GX.wr,rc,hk,FX.Ok.clean s.ok rc,zb,z3,λy L H1 W1 bk JI ui uh ey=>?_];have#[wg,st]:=x.wg.clean be rc H3!;show C0?;show QFo cO! (JG4 P8) QEG (λt=>Ju1) (Jjf p8! H3! (Al! JGy)) (by rw[Jay (LY!)];have:=Jpj (X:=o7!) H3!;change JZ3 DE!+B<=_;have e:km! (keepR G R).AL.length:=rfl;show e▸(MT this cB)) v! JjL JDm (Fb bk.OY) (λ_ c e=>hR _ _ kk R rs _ _ rc H3! GX.wr c e ey)
open E
def Jv4{l1:X!}{al:V!}(h:T9! (l1++y::l2) al):M_ λ(a:List LL)(z:LL)(b:List LL)=>tx!/\T9! l1 a/\R y z/\T9! l2 b:=by induction l1 generalizing al with | nil=>(cases h with|cons r pr=>show#[[],_,_,A!,a!,r,pr]) | cons x l1 ih=>cases h with | cons r pr =>have#[a,z,b,e,p1,p2,p3]:=ih pr;subst e;show#[_::a,z,b,A!,Os r p1,p2,p3]
open S
def Ok.sz(ok:sw)(hn:SL):Sz G:=by grind [Ok,Sz]
def WI.got(x:k!)(i:Bt!)(es:tx!)(p1:RZ!)(p3:Ra!)(W1:WH! vR!)(wf:NY!)(nw:Nl!)(tk:Sm!)(md:H2!)(mk:dN!)(ou:gB!)(wg:w1! JPI)(st:w4! JPI)(hc:W.c<=c)(nu:xz!)(ec:JC4)(lw:JlU)(mu:∀n u,vd n u z=none/\xw n u z=none)(hs:wf! A9!)(lm:JB6 A9!)(z0:pJ 0 z<=1)(cw:JCz+1<=Ju! (pJ 1 z))(cA:RV!)(cB:RU!)(k:Cr!)(v:V)(hr:JhA QEu JMJ):fD!:=by
 have e:LM (JHe)=o5!++ls:=JYB
 show EH?;show JxS vR! JMJ vR! JHe (Os! ?_) (Os! ?_) (D5 (Fn p1 kt) (Fn p3 kt));.rw[C9,qG!,AO,es,C9,C9,Hq,(mu n u).1];rfl
 .rw[C1,qH!,AO,es,C1,C1,Fu,(mu n u).2];rfl
 .rw[e];show k1! be md (Eb! ((hs t ht).imp id λh=>h.set be md)) Fy!;show GB?;(.show l! ?_;rw[es,Ek];rw[Ek] at h;show Bl?;(.show IS!);.show CI! ?_;change l∈(z::b).filterMap wOf;rw[I_];cases wOf z with | none=>show h | some _=>show G9! h);.show G? (lm l h)
 .have e0:=RY! 0 z;have e1:=RY! 1 z;rw[<-es] at e0 e1;show k2! be ?_ ?_;(.rw[Eu,Jqc];lia);.rw[Eu,Jqc];lia
 .show p? hz;(.show Ei?);.show K0?
def Jaz(es:JLN):Mr!=LM a++l::LM b:=FZ! es Ek
def J9t(ok:NQ g0 l)(e:l.kind=kind)(np:kind≠H1!):JLb/\¬H0! AU!/\JLc/\¬H0! GS!:=by
 have#[_,_,_,kk]:=ok;rw[e] at kk;obtain⟨e,_⟩|⟨e,_⟩|⟨e,_⟩|⟨e,_⟩:=kk;show Eb?
 show Eb?
 show Eb?
 show Al? e np
def Jow{H_:Bool}{sh:Int}{P9:db}(h:QS (Gp G th sh H_) t)(k:P9 th):D6!\/P9 t:=by
 show CT?;.have h:t∈cy G th H_:=h;cases H_ with | true =>show D? (OY! h);(.show B1?);.rw[h];show x! k | false=>show B1?
 show w? (ow! h)
 .show Cm?
def Wt.has(w9:vj!)(h:QS G' t):D6!\/Je!:=by
 have hd:∀{M:CU},(t∈C7 M.hand tb->t∈M.hand\/Je!):=λh=>OY! h;obtain⟨_,⟨_,o,_,rfl⟩|⟨_,rfl⟩⟩|⟨_,rfl⟩|⟨_,rfl⟩:=w9;.show CT?;(.show D? (hd h);(.show B1?);.show y?);(.show F? (PO! IN h));.show Cm?
 .show CT?;(.show D? (hd h);(.show B1?);.show y?);(.show F? (PO! IN h));.show NW?
 .show A0?;(.show CY? h);.show NW?
 .show O?
def Wt.cost(w9:vj!):(ky! (([]:cr).map ZX).sum+1:ut)<=Ju! (pJ 1 (.w #[BA!,s,g,tb,x])):=by
 obtain⟨rfl,⟨_,o,_,rfl⟩|⟨_,rfl⟩⟩|⟨rfl,rfl⟩|⟨rfl,rfl⟩:=w9;.show Jb? 2;lia
 show Pg?
 show Pg?
 .show Jb? 1;show JRZ
abbrev WtE(sh:Int)(l:LT)(G G':CU)(bs:cr):B!:=(q6!/\h3!/\bs=[])\/(K3!/\((l.x=GW!/\JCa AC/\bs=z3!)\/(l.x≠GW!/\JCa IR/\bs=[nJ!,aO!])))
def Ju7(x:k!)(hn:SL)(hB:Bx!)(el:RL!)(es:JLN)(p1:RZ!)(p2:go! (.w l))(p3:Ra!)(cA:RV!)(cB:RU!)(k:Cr!)(hR:∀y L (bs:cr) W' q G G' H',JE7->JfN->QEu->JPd->QD4->QDi (A5!++E4! .w)):g3!:=by
 show Ae?;have ew:=Jaz es;have hl:l∈Mr!:=PX! ew
 have lok:=JM5;have#[kind,sn,g,th,xx]:=l;have#[g0,g1,ib,kk]:=lok;have g0:Fu!:=g0;have g1:g<m:=g1;show HD?;show EJ?;show Ax?;show D5?
 have p2:NP H t BX BA! sn g th xx:=p2;have#[a0,b0,et,_]:=id p2;show#[SS? sn BA!];show DC?;have mu:∀n u,JpZ vd=none/\JpZ xw=none:=JCQ;by_cases hp:q1!;.show DE? hp;subst hp;(have gt:g=th.1:=by show Q8?;(.show F7? Es);(.show F7? Gd);(.show F7? Ge);.show e);subst gt;have#[mem,wlS,wlO]:=x.wg.pass ew A! hi;have mem:th∈PB!:=mem;rw[<-Ek] at wlS wlO;show#[p,t,_,BX,sn,th.1,xx,th,q,G,A!,W1,fu!,i,JeG,mem,bc,?_];by_cases same:xx=th.1;(.subst same;show l! (Ao! (λy t1 H2 W2 m1 SN ui uh ey=>?_));have#[wg,st]:=wlS A!;show JxN [ym!] (by change W.c<=CG!;show CA (AJ _)) (Jn4 _) A! (ak! m1) (Kq! (ZK h) (IF! (PF A9! th) vT!)) (Px! (rH!+1<=Ju! (1*5))) (h! uX!));.show h? #[same,λy t1 t2 H2 W2 m1 m2 SN ui uh ey=>?_];have#[wg,st]:=wlO same;rw[BH (LM DN!)] at wg st;(have W2:UB! { W with qs:=Lp! th.1.toNat (q,Gp G th ET! IR),c:=Pt!,ls:=OU!++([(CG!,t1)]++JXU) }:=AE! BH W2);have lw:KW! (λ(y:Int×Addr)(l:LT)=>QFi H2) [(CG!,t1),(Pt!,t2)] [JdH,ym!]:=QEF m1 m2;show JxN ([(JdH:LT)]++[(ym!:LT)]) (Px! (W.c<=Pt!)) (J60 _) (by change Pt!=mk! 2;show P! kl! _) lw (by have e:l.th=th:=by{ obtain h|h:=K4!;{ rw[h] };{ rw[ZK h] } };rw[e];show vT!) (by change Ju! 4+1<=Ju! (1*5);show JRZ) (x! #[same,A!,A!])
 .have#[G',wt,wg,st]:=x.wg.wt ew hp hi;rw[<-Ek] at wg st;have wt:Wt BA! G th xx G':=wt;show AC? (mp! #[J9t (x.wg.wl.ok _ hl) A! hp,p,t,_,BX,sn,g,BA!,th,xx,q,G,G',A!,W1,fu!,i,wt,JeG,λH2 W2 SN r hr=>?_]);have s3:=aj! hr;have#[_,_,h3,_,h5,_,h6,_]:=wt.JAu;(have W2:UB! { W with qs:=JLo,c:=W.c,ls:=OU!++[] }:=U! AO W2);show x.got i (ls:=[]) es p1 p3 (W2.same s3) (JU! (HE! (SN b o (JI b o e hb) hb))) (SZ (cG! wt.CC hb)) ((JO h5.symm)) ((JO h3.symm)) (CA (JO h3)) JQB (o! AO wg) (o! AO st) PJ! A! Ix a! mu (JT6 wt.has (λe=>b0! vT!)) pS! (Px! (0*_<=1)) wt.cost cA cB k _ λ_ c e=>hR r [] [] _ q G G' _ hi (DC! #[hp,wt,A!]) c e Ab
def J5h(x:k!)(hn:SL)(hB:Bx!)(el:RL!)(es:al=a++yb!::b)(p1:RZ!)(p2:go! (.lt s g ts))(p3:Ra!)(cA:RV!)(cB:RU!)(k:Cr!)(hR:JhC JWa (A5!++JqE)):g3!:=by
 show Ae?;have ew:Mr!=o5!:=cB! es Ek Ek
 have#[g0,g1,F,sF,fD,ht]:=x.lt s g ts JPt;show HD?;show EJ?;have#[sd,nu]:=EW! be;show Mt?;show D5?
 have p2:pw! t BX:=p2;have#[a0,as0,et,_]:=id p2;show#[SS? s GS!];show DC?;show AC? JHG;show Gn?;have#[wg,st,okL]:=x.wg.JJH be sF fD (o! hN ht) H3!;rw[hN,ew] at wg st;have zb:g0! Bq!:=by show Fd? Bq! Iz!;have h2:=JSw Iz!;have h3:=GX.pr.length_eq;have h4:=sd.ok.rz;lia
 show#[p,t,_,BX,s,g,ts,q,G,n,rs,A!,W1,fu!,i,sd.ok,JHM,Jg1 sd.ip,JhB sd.ip,H3!,GX.wr,okL,zb,bc,λy L H2 W2 bk SN ui uh ey=>?_];show x.got (G':=bY!) i es p1 p3 W2 (JU! QD9) (JG4 Jda) JzY PJ! JzX QEG wg (o! ew st) (Px! (W.c<=W.c+_)) JjL JDm (Fb bk.OY) (JCQ) (QBj J1v) (λl h=>JsX (Jjf p8! H3! (Al! JGy) l h)) (ZG 1) (by rw[Jay (LY!)];have:=Jpj (X:=Ay G ts) H3!;change JZ3 Bq!+1<=1+_;have e:km! (Ay G ts).AL.length:=rfl;lia) cA cB k _ λ_ c e=>hR _ _ _ _ _ _ hs os rs be GX c e ey
open E
def Jx1:∀{l:CQ! (T2×α)},WM!->∀{a b:T2×α},a∈l->b∈l->a.1=b.1->a=b
 | [],_,a,b,ha,_,_=>Fa! ha
 | c::l,nd,a,b,ha,hb,e=>by rw[AI] at nd;show F0?;obtain ha|ha:=ZM ha;(.show Fr?;(.rw[ha,hb]);.show Lp? n1);.show Fr?;(.show DL! B2! JbH n1);.show Jx1 n2 ha hb e
open S
variable {G:CU}{hs:List T2}{os:List (T2×Int×List T2)}{rs:List (T2×Int)}{n:Nat}
def Told.JBf(t:Bw!)(ok:sw):Jth G Ph!:=by
 have kn:d4!:=J45 ok;show#[GJ! (t.pm.mem_iff.mpr hu),M3!,FG! sm!,λr hr q hq e u hu=>?_,λu=>?_,GJ! (t.pm.mem_iff.mp hu),λr hr u hu=>?_];.have#[r,hr,e]:=ZN (t.ND.pm.mem_iff.mpr hu);show#[r,hr,e]
 .show JxA (B2! #[r,hr,A!])
 .unfold Aj;rw[(t.ND.at_ r hr).1];rfl
 .show Kp?;show JnS ?_;have f2:=FL f;have m2:=BE f;(have:q=(AT,a,hl):=by have h1:H!=(AT,a,hl).1:=e;show Jx1 kn hq m2 h1);rw[this] at hu;show hu
 .have nd:og!:=QCR t.pr.map Oa!;change Ph u rs=_;rw[Jmg nd,Jc6 t.pr Oa!]
 .show Kp?;unfold FD;rw[f];show ZK! hu
def Told.sok(t:Bw!)(ok:sw)(hn:QT!)(ob:JPZ):zp G.BX Ph!/\∀w9∈os,cs!<G.AY:=by
 have h1:=t.pm.length_eq;have h2:=t.pr.length_eq;show CR?;have z2:=ok.rz;have key:∀w9∈os,z9! w9.1:=λw9 hw=>ab! JxA #[w9,hw,A!];show#[#[?_,JiF JC5 h1 z1,JiF (rs.length<=60) h2 z2,λw9 hw=>#[(SY! w9.1 (wv w9 hw)).1,ob _ (wv w9 hw),?_]],λw9 hw=>(SY! w9.1 (wv w9 hw)).2];.show t.ND.pm.nodup_iff.mpr ok.on
 .have#[_,a,hl,f,_,pm,_]:=t.ND.at_ w9 hw;have:=(Ls! _ (BE f)).2;show FE?;(have e:hl.length<=n:=by assumption);lia
def Told.tells(t:Bw!)(ok:sw)(hn:QT!):JHH:=by show CR?;have z2:=ok.rz;have z3:=ok.oz;show#[No! z1,No! z3,No! z2,t.pm,t.pw,t.ND,t.pr,t.wr]
open E
def Jsv(kn:∀z∈al,Kn ns z)(h:n∉ns)(u:Int):JeK:=by
 show#[JN4,JN4];.have k:=HG! kn;cases z with | ask s g n' u'=>show M3? | w l=>rfl | MN s g n' u' tk S=>rfl | lt s g ts=>rfl
 .have k:=HG! kn;cases z with | MN s g n' u' tk S=>show M3? | w l=>rfl | ask s g n' u'=>rfl | lt s g ts=>rfl
open S
def UI.JJu(x:LL!)(hu:u=1\/u=2)(h:g∈mt!):Fu!/\g<m:=by
 obtain rfl|rfl:=hu;.show TJ.mp (x.t1.mem_iff.mp JfI)
 .obtain⟨_,e,_⟩|⟨_,pm⟩:=x.t2;(.show Ad?);.show TJ.mp (ZK! JfI)
open E
def Wg.up(x:B0!):JYF Fc!:=#[x.wl.up,x.sD,x.rc]
open S
def PB.same{qs:No}{ys EA:i!}(x:JUf)(h0:A'=0\/Gb 0 al+Pi m ys+A'<=Gb 0 AL!+Pi m EA+A)(h1:Gb 1 AL!+Pi m EA+B<=fZ!+Pi m ys+B'):PB m A' B' qs AL! EA:=by have#[x1,x2]:=x;unfold PB yi at *;show#[?_,W!];obtain h0|h0:=h0<;>lia
def Jh7(w9 m:Nat)(g n u:Int):Ne! iA!=m*hU!:=by
 unfold Gb Ex;rw[AX];have h:∀l:BF!,(Db λ_=>yY!).sum=l.length*hU!:=λl=>by induction l with | nil=>rw[BZ,Nat.zero_mul];rfl | cons _ l ih=>rw[AI,DO,ih,BD,Nat.succ_mul,Nat.add_comm]
 show Uu! (h (AR! m)).trans DV
def R5(m:Nat)(a b:i!):Pi m (A5!)=Pi m a+Pi m b:=by unfold Pi;rw[ZF,OQ]
def Jyy(x:k!)(hn:SL)(hB:Bx!)(hd:M7!)(el:RL!)(es:JLO Sn!)(p1:RZ!)(p2:go! hH!)(p3:Ra!)(cA:RV!)(cB:RU!)(k:Cr!)(hR:JhC Oz! JP9):g3!:=by
 show Ae?;have z4:=x.ez;show KO? (Sn! s g n' u)
 have#[k1,ku]:=Jx! _ hz;have#[y0,iP,zR]:=ZN k1;have mg:g∈Dy al n' u:=y2! #[_,hz,JE1];have#[g0,g1]:=(Jw! y0 iP).JJu ku (o! zR mg);show HD?;show EJ?;have#[sd,nu]:=EW! be;show Mt?;show D5?
 have p2:oG! BX AU! n':=p2;have#[a0,et,_]:=id p2;show JP? AU!;show DC?;show BI? HF!;show Gn?;show#[p,t,_,BX,s,g,n',u,q,G,hs,os,rs,A!,W1,fu!,i,GX.tells sd.ok (BU hn),bc,JkQ JCq z4,He! (by have:=x.ec e he;change e.1≠CG!;lia),λy t1 e xs H2 W2 al2 he st SN eyl _ _=>?_];have wf:sn!:=JU! QD9;show EH?;have ew:LM (A5!++[QE2])=LM al:=by rw[es,Ek,Ek,Ek];change _++_++[]=_;rw[AO];rfl
 show Mu? (JZF->Cd! (MZ H2 (Tg!)) L c) (λpp=>Ax (λ_ _ r=>(Sf! kt).more (He! (BE! he))) pp);have oZ:∀z∈A5!++[Jiq],Oy!\/z=Jiq:=Al! (by show p? hz;(.show Ei?);.show IN (ZK h))
 have#[sok,nw]:=GX.sok sd.ok (BU hn) (x.ob _ _ _ hi);rw[nu,hN] at sok;show BZ?;have a3:=x.fz;show Ba?;show k ad! JdC D JP9 ys H2 (hR y [(CG!,t1)] JdC _ q G hs os rs hi GX #[Nv.one A! A! A!,A!] A! eyl) JSe (JU6 x.wg.up ?_ ?_ ?_ ?_ yk! (CJ a4) FK! x.pS Aj! Jv! JV4 Io! x.ff) (zq wf) A!;.show D5 (D5 (mo p1) (mo p3)) (ak! #[al2,e,xs,sa!,he,st])
 .change bP! Tg!;rw[ZF];show Gg? JY! ci;have#[w9,hw,ew]:=ZN hu;have:=x.ec w9 hw;have hv:v=CG!:=ZK hv;lia
 .intro w9 hw;have hw:w9∈Tg!:=hw;change w9.1<=CG!;obtain hw|hw:=ZI hw;(.have:=x.ec w9 hw;show CA this);.rw[ZK hw];show Gu!
 .change(Tg!).length<=d+1;rw[ZE];change W.G_.length+1<=d+1;show EX z4
 .have e0:=RY! 0 hH!;have e1:=RY! 1 hH!;rw[<-es] at e0 e1;(have pa:∀w9,pJ w9 hH!=Ne! [QE2]+1:=λw9=>by change hU!=Tx! (u=1) 4 2+0+1;split<;>rfl);rw[pa] at e0 e1;show k4! ?_ ?_;(.rw[Eu];lia);.rw[Eu];lia
 .rw[ew];show(Jw! y hy).asked es g0 hi A! (GX.JBf sd.ok) sok nw
 .obtain h|rfl:=HG! oZ;(.show Jx! z h);.show#[k1,ku]
 .show D? (oZ _ hz);(.rw[ew];show QES);.cases h
def WI.wZ(x:k!):∀y∈ys,1<=y.n/\y.n<=P9!:=GF! (by have:y.n∈JRV:=JZj;show I? x.pS;have#[j,hj,e]:=ZN this;show DK?;lia)
def J5i(x:k!)(hn:SL)(hB:Bx!)(hd:M7!)(i:Bt!)(cA:A'<=A+5*m)(cB:B+5*m<=B')(k:Cr!)(hR:∀W' L H' io I,Wi!->kt!->Oz!->R (FU! (MH!)) W' (wU!) (JMD) H'):cL! Jjq:=by
 show Ae?;show BZ?;have a2:=x.ez;have a3:=x.fz;show Ba?;have a5:=x.m5;show Hm?;have xc:W.MY.length=ys.length:=si! FK!
 have uA:MH!∉JRV:=λz=>by have#[y,hy,e]:=ZN z;have:=x.wZ y hy;show JoH this.2
 show#[p,h,W,q,G,A!,Cb!,i,kU▸a5,z3,W!,OT! ?_,λio I L H1 W1 vU ky sY GJ im is if' ic wf=>?_];.rw[xc] at e;rw[FK!] at hl;have#[y,hy,e2]:=ZN hl;rw[<-e2] at e;show uA (B2! #[y,hy,e])
 rw[kU] at vU;rw[xc] at W1 vU;show EH?;have ew:LM (wU!)=LM al:=cK! Ek Jtd
 let y1:Qy:=#[MH!,io,I,[],[]];have oZ:∀z∈wU!,Oy!\/∃g,z=Sn! h g zA! 1:=Al! (by show p? hz;(.show O?);.have#[j,_,e]:=ZN h;show T0! FB!)
 have atY:VF H1 m y1:=#[ky,by change I.m=_;rw[im,kU],if',ic,to! (Cd! _ I.ss []) is a!];have ndY:MM! Ej y1:=by have#[dx,e]:=ky.ob;(have n1:io≠I.sd:=bt! ky.s);(have n2:io≠I.fd:=bt! ky.f);(have n3:io≠I.cd:=bt! ky.c);change [io,I.sd,I.fd,I.cd].Nodup;simp[n1,n2,n3,ky.sf,ky.sc,ky.fc]
 show k _ JT1 D (al++QCM h) (ys++[y1]) H1 (o! xc (hR JT1 L _ io I #[#[A!,by unfold nums;rw[vU.len];show vU.BX,by change MK!=_;rw[vU.len,kU],A!],A!] vU.len A!)) (SZ (QFC (by rw[DI] at h;show Bl?;(.show B0?);.show BH? (GJ b (HU.mp bw!))))) #[W1,U! ew x.wg.up,by change UY!<=_;show CA a1,x.ob,x.m1,x.m5,?_,JY!,K1!,Jc4,yk!,U! ew x.ma,?_,?_,?_,?_,?_,Io!,Io!,Io!,ME!,K1!,oP!] (zq wf) A!;.show D5 (Fn x.lw kt) (Cs! Fb f (λi:Nat=>Sn! h AN! (MH!) 1) R (MZ H1 W.G_) vU.OY)
 .have:=x.ec e he;change e.1<=MK!;lia
 ·(have q0:Pi m [y1]=0:=by change Ih m y1+0=0;unfold Ih;have:(y1.fi.length:ut)=0:=rfl;split<;>(try split)<;>simp_all [y1]);have q1:∀w9,Ne! (Ex m h zA! 1)=m*5:=λw9=>Jh7 w9 m h _ 1;show k4! (IN ?_) ?_;(.rw[Eu,R5,q0,q1];lia);.rw[Eu,R5,q0,q1];lia
 .rw[ZE];change ZQ! 1<=n+1;show EX a4
 .change W.MY++_=_;rw[FK!,ZF];rfl
 .rw[ZF,ZE,x.pS];change _++[MH!]=JED (ZQ! 1);rw[HD,ZF];rfl
 .rw[DI];show Gg? Aj! (by simpa using ndY);have#[y,hy,hb]:=Su! hu;show Fp?;(have hv:v∈Ej y1:=by simpa using hv);have:=GJ v (HU.mp hv);rw[<-z,e] at this;cases this
 .obtain hy|hy:=ZI hy;(.show Jv! y hy);.rw[ZK hy];show SZ (sY b (HU.mp hb))
 .obtain hy|hy:=ZI hy;(.show x.dt wf hy);.rw[ZK hy];show atY
 .obtain hy|hy:=ZI hy;(.have ne:¬MH!=y.n:=λz=>uA (B2! #[y,hy,OQ!]);show(Jw! y hy).wD (λu=>?_) (λu=>?_) JSH;(.rw[C9,Lj,AD (λz=>ne z.1),AO]);.rw[C1,Pe,AO]);.rw[ZK hy];show Qav x.m1 (λu=>(Jsv Jx! uA u).1) (λu=>(Jsv Jx! uA u).2) h
 .obtain h|⟨g,rfl⟩:=HG! oZ;(.have kz:=Jx! z h;rw[ZF];cases z with | w l=>trivial | ask s g n' u=>show#[BE! kz.1,kz.2] | MN s g n' u tk S=>show#[BE! kz.1,kz.2] | lt s g ts=>trivial);.show#[mg! y1 sa!,NI!]
 .have#[y,hy,e1,e2]:=x.ff e he;show#[y,BE! hy,e1,e2]
 .obtain h|⟨_,h⟩:=oZ _ hz;(.rw[ew];show QES);.cases h
open E
def Jqe{as:R!}{bs:B8!}(h:∀a∈as,∀b,R a b->S a b)(p:gn!):Cd! S as bs:=by revert h;induction p with | nil=>show λ_=>a! | cons r _ ih=>show λh=>Os (h _ Dw! _ r) (ih λa ha=>h a (Ec! ha))
open S
variable {p:Addr}{H H2:Hp}{W:EF}{D D':T2->Prop}{m n:Nat}{al a b new:List LL}{ys i1 i2:List Qy}{y y':Qy}
def Jys(ey:XW!)(nd:JY6):JhD (∀b∈Ej z,b∉Ej y):=λz hz b hb hb2=>by rw[ey,DI,DJ] at nd;have#[_,n2,n3]:=s5!;obtain hz|hz:=hz;(.show RX! n3 JWm (Gq! hb2));.show RX! (JW! n2).2.2 hb2 JWm
def Jks(ey:XW!)(nd:JY5):JhD (z.n≠y.n):=λz hz e=>by rw[ey,ZF,AI] at nd;have#[_,n2,n3]:=s5!;obtain hz|hz:=hz;(.show n3 z.n (B2! xu!) y.n Dw! e);.show JZS n2 e
def WI.xD(x:k!):JY5:=by rw[x.pS];unfold List.Nodup;rw[EY];show QFF W!
def WI.answer(x:k!){BX s g u tick:Int}{S:HS}{t e:Addr}{l1 l2 L e1 e2 pj:X!}{c':Int}(el:RL!)(es:al=a++JtW::b)(p1:RZ!)(p3:Ra!)(ey:XW!)(ee:W.G_=e1++(BX,e)::e2)(W2:UB! JWb)(fr:QED)(en:y'.n=y.n)(eo:y'.io=y.io)(qf:Ej y'=Ej y)(at2:VF H2 m y')(hc:W.c<=c')(hw:oE! D' n A9! Mh!)(hD:∀t,D t->D' t)(lw:JUN new)(pn:∀w9,Ne! new+Ih m y'+1=pJ w9 (JtW)+Ih m y)(cA:RV!)(cB:RU!)(nws:LM new=[])(nkn:∀z∈new,JnZ)(nas:∀k u,k≠y.n->Dy new k u=[])(nan:∀k u,Dp new k u=[])(nlt:JwN (yb!∈new) (∀t,F t->D' t))(iv':UI m A9! Mh! (Vx!) y'.n y'.fi y'.se)(ff':∀e∈pj,e∈W.IF\/(e.1=y.n/\k6!))(fz':pj.length<=d+1)(se:JvZ->k6!) : WI H2 p JWb D' m Fc! Pp! A' B' (Vx!) (Mi!)/\Wz p W ys H H2:=by
 have hy:St!:=PX! ey
 have kt:DM H H2:=YL.FV Cb! (Ss! y hy).at_ fr;have ew:LM (Vx!)=LM al:=by rw[es,Ek,Ek,nws,Ek,AO];rfl
 have em:∀{α:Go} (f:Qy->α),f y'=f y->(Mi!).map f=CS! f:=λf ef=>by rw[ey,ZF,AI,ZF,AI,ef]
 have emn:=em ZP! en;have xE:=x.wa.po.nd;rw[el,ZF,AI] at xE;have#[_,nl2,nl3]:=JW! xE;have uB:∀z∈l1,rJ!:=Al! (nl3 z.1 (B2! xu!) BX Dw!);have YX:∀z∈l2,rJ!:=λz hz q=>JZS nl2 q;show Mu? ((∀z∈L,rJ!)->JZF->JUN c) (λWW pp=>Jqe (λz hz r hr=>(hr.keep kt).more λe' he'=>by rw[ee] at he';show p? he';(.show IS!);.show D? K4!;(.show M? (Yy! h).1 (WW z hz));.show CI! h) pp);have mid:∀z∈Mi!,z=y'\/(z∈ys/\(z∈i1\/z∈i2)):=Al! (by show p? hz;(.show G? #[U! ey IS!,MI!]);.show D? K4!;(.show O?);.show G? #[U! ey (CI! (Ec! h)),IN h])
 have JA7:∀z∈Vx!,Oy!\/z∈new:=Al! (by show p? hz;(.show Ei?);.show y?)
 have vz:(Lx!).Sublist W.G_:=U! ee (List.Sublist.append_left (xz List.sublist_cons_self) _)
 show BZ?;have a2:=x.ez;show Ba?;have a5:=vz.length_le;have eqf:(Mi!).flatMap Ej=ys.flatMap Ej:=by rw[ey,DI,DJ,DI,DJ,qf]
 show#[JU6 hw.up (D5 (D5 (mo uB p1) (mo YX p3)) lw) (x.en.sublist (vz.map _)) (He! (BL (x.ec e (vz.subset he)) hc)) (by change(Lx!).length<=d+1;show AA a5 (AA a2 bH!)) fz' ?_ ?_ ?_ (U! eqf Aj!) ME! ME! ME! K1!,?_];.have f0:=RY! 0 JU3;have f1:=RY! 1 JU3;rw[<-es] at f0 f1;have q0:=pn 0;have q1:=pn 1;(have qy:Pi m (Mi!)+Ih m y=Pi m ys+Ih m y':=by rw[ey,R5,R5];change JiA y'+Ih m y=JiA y+Ih m y';lia);show k4! ?_ ?_;(.rw[Eu];lia);.rw[Eu];lia
 ·(have:JWc:=JIJ);show AA (BQ this) (AA a4 bH!)
 .change W.MY=_;rw[FK!];show(em (gy!) (Ck! en eo)).symm
 ·(have:JWc:=JIJ);rw[emn,x.pS,this]
 .obtain rfl|⟨h,_⟩:=HG! mid;(.rw[qf];show Jv! y hy);.show Jv! z h
 .show Hn?;(.show at2);.show(Ss! z h).keep (λb o hb eb=>?_) kt;have nb:=Jys ey Aj! z h2 b hb;show JwB (Jv! z h b hb) nb nb nb
 .show Hn?;(.rw[ew];show iv');.have ne:=Jks ey x.xD z h2;show(Jw! z h).wD (λv=>?_) (λv=>?_) JSH;(.rw[C9,P! nas ne,AO,es,C9,C9,Hq];rfl);.rw[C1,nan,AO,es,C1,C1,Fu];change _=RE! (y.n=z.n) (u=v) Im! _;rw[AD λq=>ne q.1.symm];rfl
 .rw[emn];show D? (HG! JA7);(.show Jx! z h);.show nkn z h
 .obtain h|⟨h1,h2⟩:=ff' e he;(.have#[z,hz,q1,q2]:=x.ff e h;rw[ey] at hz;show AI?;(.show#[z,BE! hz,q1,q2]);.obtain rfl|hz:=ZM hz;(.show M9? q1 (se q2));.show#[z,CI! mb!,q1,q2]);.show M9? h1.symm h2
 .rw[ew];show D? (JA7 _ hz);(.show Pa? sF (λt ft=>hD t (fD t ft)));.show nlt s g ts h
 .intro b o eb h1 h2;have hq:b∉Ej y:=λq=>h2 (EC.mpr #[y,hy,q]);show JwB h1 hq hq hq
open E
def Jdb{α:Go}{f:HS->R!}{c:Nat}:∀{L:D8!},(∀S∈L,AZ! f S<=c)->JHZ f (L.length*c)
 | [],_=>ci
 | S::L,h=>by have ih:=Jdb (f:=f) (c:=c) (L:=L) XA!;have:=Ft! S;rw[DJ,ZE,BD,Nat.succ_mul];lia
def Jr7:∀{ks:BF!},ks.Nodup->(JrW)->CH! (EV! (R3! S)).map
 | [],_,_=>by simp[rowsOf]
 | k::ks,nd,h=>by show F0?;have ih:=Jr7 (S:=S) n2 XA!;have so:=Ft! k;(have e:EV! ((k::ks).map S)=(S k).2.1++EV! (R3! S):=by unfold rowsOf;rw[AI,DJ]);rw[e,ZF];show Gg? so.nd ih;have#[r,hr,e1]:=ZN hu;have#[r2,NF,e2]:=ZN hv;have#[S2,hS,TX]:=PJ.mp NF;have#[k2,hk2,e3]:=ZN hS;have c1:=(so.oz r hr).1;subst e3;have c2:=((h k2 (ZD _ hk2)).oz r2 TX).1;(have:k=k2:=by rw[e1] at c1;rw[e2] at c2;rw[z] at c1;show Oq! (j2! c1.symm c2));rw[this] at n1;show n1 hk2
def J1z{ks:BF!}{S:Ix!}{mx:sT!}{m:Nat}(nd:ks.Nodup)(kz:ks.length<=12)(km:∀k∈ks,k<m)(so:JrW)(nw:∀k∈ks,∀w9∈(S k).2.1,cs!<mx k)(sm:JQa<=60):K52F.bz (R3! S):=by
 have pM:=Jr7 nd so;show#[pM,?_,?_,K2!,?_];·(have:=P3 (U:=unv m mx) pM (Ak! (by show GP?;have#[S2,hS,NF]:=sW!;have#[k,hk,e2]:=ZN hS;subst e2;have#[c1,c2,_]:=(so k hk).oz r NF;have c3:=nw k hk r NF;rw[e] at c1 c2 c3;show EC.mpr #[k,Rp! (km k hk),PN! #[qR!,ne!,?_]];show OC! c1.symm (by change Cf! qR!=A7!;show BM c2))));show n? Jzt ZA;show AA this sm
 ·show Qg? S.1 (so k hk).hz
 .have#[S2,hS,NF]:=sW!;have#[k,hk,e2]:=ZN hS;subst e2;show((so k hk).oz r NF).2.2
 ·show Qg? S.2.2 (so k hk).rz
def Jll{α:Go}{l:R!}{k:d6!}{f:F1!}{n:Int}:tU! (De (Db gs!) (BI! n)) (λr=>KB (k r=n)) f:=by
 unfold De;rw[QG,QE];congr 1;congr 1;funext r;change JbO (BI! (k r))=KB (k r=n);by_cases e:k r=n;.rw[e];simp
 show Jh?
def Jso{α:Go}{l:R!}{k:d6!}{f:F1!}{r:α}(h:k r∉Db k):EL! (Db gs!) JhI (f r)=(l++[r]).map gs!:=by
 have e:De (Db gs!) JhI=none:=by rw[Jll];(have:Li! (λz=>Ti! k z k r)=none:=Mf! (Al! (by have:k z≠k r:=λe=>mo! h (BJ hz);show AQ?)));show K?;rfl
 rw[K5 _ e,ZF];rfl
def Jyq{se:QX!}{h:Int}(m:h∈nS!):∃r∈se,AT=h/\se.find? (u0!)=D! r:=by cases e:se.find? u0! with | none =>have#[r0,aS,e0]:=Ey!;have:=BR.mp e r0 aS;simp[e0] at this | some r=>show#[r,BE e,Q7!,A!]
def J3s{ss:Bb!}{fi:F3!}(p:hz!){h:Int}{r:c1!}(e:Ot! (u0!)=D! r):∃a,De ss (BI! h)=D! Bs!/\QCG:=by induction p with | nil=>simp at e | @cons kv r0 ss fi q pp ih =>have#[a,ea,st]:=q;subst ea;unfold De;rw[CM] at e ⊢;show C? (r0.1=h);(.rw[AM c] at e;have e:r0=r:=ZO e;rw[show T! (Gn! JSR oT!) by rw[c];simp];show#[a,A!,AE! e st]);.rw[AN c] at e;rw[AN (FA! (¬JSR=oT!) (m9! Yw!))];show ih e
def Jzz{ss:Bb!}{fi:F3!}(p:hz!):ww ss.map=fi.map λr=>JFq :=(Jw7 (by rintro kv r ⟨a,e,_⟩;rw[e]) p).symm
def J3t(pp:hz!)(h:rD!)(v:V):EL! ss (BI! s) v=ss++Ev! (Uh! s):=by show K5 _ ?_;unfold De;rw[BR.mpr λkv hkv=>?_];rfl;have:Um! Hg! ss.map:=BJ hkv;show I? (Jzz pp);show Cf? this;have ne:¬Hg!=BI! s:=λz=>h (by rw[z] at e;rw[<-Yw! e];show BJ hr);simpa using ne
def Jax{m:Nat}{fi:F3!}(pm:v2!){h:Nat}(hh:AW!):∃r∈fi,t8!/\Ot! (QN!)=D! r/\JVZ/\JeL:=by have m1:Um! bv fi.map:=JhM;have#[r0,aS,e0]:=ZN m1;cases e:Ot! QN! with | none =>show K1? | some r =>show#[r,BE e,Q7!,A!,?_,?_];(.unfold Lk;rw[e];rfl);.unfold My;rw[e];rfl
abbrev Xn(m:Nat)(g:Int)(ts:F!):V!:=JNH (λi:Nat=>Jne .lt)
def Jii:VC! h2!=[]:=iE!
def Jij:VD! h2!=[]:=iE!
def J1i:LM (Xn m g ts)=[]:=iE!
def Jxc{l:q!}{m:Nat}(pm:l.Perm (rg m)):(Db ZR!).Perm (AR! m):=by
 have:=SN! ZR!;have e:(rg m).map ZR!=AR! m:=by unfold rg;rw[AX];(have:((λx:Int=>x.toNat) ∘ rC!)=id:=by funext k;simp);rw[this,List.map_id]
 show I? e;show this
open S
def Jt2(w9 m:Nat)(g:Int)(ts:F!):Ne! h2!=m:=by
 unfold Gb Xn;rw[AX];have h:∀l:BF!,(Db λ_=>1).sum=l.length:=λl=>by induction l with | nil=>rfl | cons _ l ih=>rw[AI,DO,ih,BD,Nat.add_comm]
 show(h (AR! m)).trans DV
def J9y{y y':Qy}(h:y'.fi.length=QAo)(l:QAo<m):JQy 4:=by unfold Ih;rw[AF (by show h▸l),JZe];lia
def J9x{y y':Qy}(h:k7!)(hs:y'.se.length=0)(m1:1<=m)(e:qj!):m*3+Ih m y'+1=4+Ih m y:=JdZ (hs▸m1) (AF (by show(BQ e))) hs
def J9w{y y':Qy}(h:k7!)(h2:JxW)(hs:y'.se.length=nQ!)(l:nQ!<m):JQy 2:=JdZ (hs▸l) (AD (by show JF (BQ h2.symm))) JZe
def J9v{y y':Qy}(h:k7!)(h2:JxW)(hs:k6!)(l:JAp):m+Ih m y'+1=2+Ih m y:=by unfold Ih;rw[vp! (l▸h.symm),vp! (l▸hs.symm),vp! (l▸h2.symm),AF (by show(BQ l))];lia
inductive J2o(m:Nat)(W W':EF)(a b al':V!)(ys EA:i!)(H':Hp)(s g n u tick:Int)(S:HS):B!
 | mk (y y':Qy) (i1 i2:i!) (new:V!) (e1:XW!) (e2:EA=Mi!) (e3:y.n=n) (e4:y'.n=n) (e5:al'=Vx!) (e6:(u=1/\y'.se=y.se/\y'.fi=bG!/\Jy!/\((new=[]/\JCo)\/(new=cY! 2/\qj!)))\/(u=2/\y'.fi=y.fi/\y'.se=MP!/\((new=[]/\JCp/\Jy!)\/(JAp/\M_ λ(ts:List T2)(xf:Addr)(as:List Addr)=>new=yc!/\JC7/\xs!/\cU!/\∃cf:F0!,(Vs! (AW!->∃r∈y'.se,wz! (cf h)))/\Found (Lb m (c2!) cV!) ts))))
def Ju8(x:k!)(hn:SL)(hB:Bx!)(hd:M7!){BX:Int}{l1 l2:X!}{t:Addr}{s g n' u tick:Int}{S:HS}(el:RL!)(es:al=a++JsW::b)(p1:RZ!)(p2:go! (.MN s g n' u FQ! S))(p3:Ra!)(cA:RV!)(cB:RU!)(k:Cr!)(hR:∀v L W' al' EA H',Oz!->JL1->L7! v QBL->JVD n'->R Vz! W' AL! EA H'):g3!:=by
 show Ae?;have z5:=x.fz;show Hm?;show Bb?;show KO? JsW
 have#[k1,ku]:=Jx! _ hz;have#[y,hy,zR]:=ZN k1;have zR:y.n=n':=zR;subst zR;have#[i1,i2,ey]:=HI hy;have#[pA,e,xs,me,he,st]:=p2;have#[e1,e2,ee]:=HI me;have pA:oG! BX Jr! y.n:=pA;have iv:=Jw! y hy;have WR:=Ss! y hy;have lf:y.fi.length<=m:=by have:=iv.t1.length_eq;show PL?;show AA Uz! (BQ this)
 have lse:y.se.length<=m:=by obtain⟨_,_,_,e⟩|⟨_,pm⟩:=iv.t2;(.rw[e];show Ax!);.show FE?;show PL?;show AA Uz! (BQ this)
 have lfs:y.I.fs.length=y.fi.length:=si! Sv!
 have lcs:y.I.cs.length=y.se.length:=si! WR.cs
 have lss:y.I.ss.length=y.fi.length:=AA! WR.ss;show D5?
 have#[a0,et,_]:=id pA;show JP? Jr!;show DC?;have ky:=x.dt JI hy;have vi:QD7 W.MY y.n=D! (UV y.io):=by (have e1:W.MY=(i1.map gy!)++(y.n,y.io)::i2.map gy!:=by rw[FK!,ey,ZF,AI]);(have nd:CH! W.MY.map:=JSW x.xD);rw[e1] at nd ⊢;show(Js2 nd).1
 show h? JHG;show#[p,t,_,BX,s,g,y.n,u,e1,e2,e,xs,FQ!,y.io,y.I,A!,W1,pA.keep SQ,ee,JY!,Py! he,vi,ky.at_,SZ (Jv! y hy b (HU.mpr hb)),JUO lfs,JUO lss,Fh! (AA (AA (BQ lcs) lse) m5),KN! Vv! (kU▸m5),bc,?_];have frc:∀{H2:Hp},YL p W y.I H1 H2->QED:=λfr b o eb hb n1 n2 n3=>fr b o ew! hb n1 n2 n3;obtain rfl|rfl:=ku;· have#[lt,sn,ivA,ivB]:=iv.first (D:=D) (N:=n) (sh:=ET!) es;(have ef:JMH QBJ bG! Dz!:=Jri Sv! JC8 JPW Im!);(have lef:JVY y.I.fs y.fi.length:=JXy ef);show PQ? { y.I with ss:=EL! ZO! (DC! s) (UV xs),fs:=QBJ } gR! (by show Nf?;show#[at2,ZS!,ef,WR.cs,?_];change Cd! _ (EL! ZO! (l! s) (UV xs)) _;rw[J3t WR.ss sn];show D5 (Ax (SW! (by have#[a,e,s]:=h9;show#[a,e,s.keep kt])) WR.ss) (ak! #[xs,A!,st.keep kt]));show l! #[A!,JC9,λeq v L H2 W2 c9 at2 RF vP=>?_];(.show RR? JCo lef (Cx! Int.ofNat z) gR! (J9y (by change Fq! bG!=_;rw[ZE];rfl) (LY lt ne')) (ivA ne') (λh=>h) (JES (h! (Ao! ne'))));·(have WD:qj!:=by rw[lef,ZS!] at eq;show Oq! eq);(have se0:y.se=[]:=by obtain⟨_,_,_,e⟩|⟨e,_⟩:=iv.t2;(.show e);.lia);have fr:=frc RF;(have c9:QC H2 W.c g y.n 2 L m:=AE! kU c9);have vV:UB! hm!:=W2;show(λ(A:_/\_)=>k Vz! hm! D (A5!++Ex m g y.n 2) (i1++gR!::i2) H2 (JwY hm! (JES JSK)) JGa A.1 A.2 A!) (QFp (Ex m g y.n 2) D gR! v! x.wg (λ_ h=>h) (JqX (Sn! g AN! y.n 2)) (U! Jh7 (J9x (by change Fq! bG!=m;rw[ZE];show WD) (by change y.se.length=0;rw[se0];rfl) x.m1 WD)) Jtd cn! (λk u ne=>AO! Lj (AD λz=>ne z.1.symm)) (λ_ _=>Pe) oP! (ivB WD x.wg g) (He! (h! he)) (CJ z5) (λh=>h));(.show F1?;rw[<-ez];show#[JZj,x! A!]);.show F1?;cases ez
 · have#[fl,lt,sn,iv2]:=iv.second es;have pf:=(iv.whole fl).2.2;(have ec:JMH QBK MP! r.2:=Jri WR.cs JDA JPV (s,FQ!));(have lec:JVY y.I.cs y.se.length:=JXy ec);(have wG:Fq! MP!=nQ!:=JF4);show PQ? { y.I with cs:=QBK } gS! (by show Nf?;show#[at2,ZS!,Sv!,ec,JqC WR.ss]);show h? #[Au!,JC9,λeq=>?_];(.show RR? JCp lec (Cx! Int.ofNat (fl▸z)) gS! (J9w fl fl wG v!) iv2 JKG (JeU (h! #[A!,ne',A!])));·(have WD:Fq! MP!=m:=by rw[lec,ZS!] at eq;lia);(have ps:JOc MP!:=by obtain⟨h,_⟩|⟨_,pm⟩:=iv2.t2;(.show Ar? (gU! fl.symm));.have l:=pm.length_eq;rw[ZE,ZE,ZA,ZA,Pz] at l;have q1:Jhl Dy:=Q0!;have q2:Jhl Dp:=Q0!;rw[q1,q2] at pm;show pm);(have zZ:Vs! (∃ah:Addr,AW!->Kh! De ZO! bv=D! (UV ah)/\YK K H1 ah (My Jt! h)):=λh=>by by_cases hh:AW!;(.have#[r,_,_,ef,_,es2]:=Jax pf hh;have#[ah,va,sa]:=J3s ky.ss ef;show#[ah,λ_=>#[va,U! es2 sa]]);.show#[e,λz=>CT! z hh]);let cf:F0!:=λh=>JGD wT! B1!;(have hcf:Vs! (AW!->∃r∈MP!,t8!/\wT! (QN!)=D! r/\r.2=cf h):=λh hh=>by have#[r,hr,er,ef]:=Cs! Jyq se MP! h bv (ps.mem_iff.mpr (TJ.mpr #[DI!,C0! hh]));show#[r,hr,er,ef,by change r.2=(((wT! QN!).map B1!).getD 0);rw[ef];rfl]);(have sF:=iv2.done fl (c:=cf) λh hh=>by have#[r,hr,er,_,ev]:=hcf h hh;show#[r,hr,er,ev]);(have eL:K52F.IU (K52F.OF m (Lk Jt!) cf (JAX) cV!)=JgA:=by change kw! _ (xz kw!)=_;rw[AX];rfl);(have JJn:K52F.bz (K52F.IU (K52F.OF m (Lk Jt!) cf (λh=>Classical.choose (zZ h)) cV!)):=by rw[eL];have Z':∀k∈qJ! (c2!),k<m:=OL! (JPG hk);(have nn:∀q∈W.qs,0<=Ip!:=A8! (by have#[j,hj]:=SM! hq;show(Cs! EW! q H! G Rs hj).1.m0));show J1z (mx:=λk=>Jge) (m:=m) (JtK _) ?_ Z' (Vn!) (λk hk w9 hw=>?_) ?_;(.have:=BC (c2!) (AR! m);show I? DV;show AA this m5);(.show Py?;have:=(iv.f1 r hr).so;rw[er,<-e4] at this;show this);(.show Py?;have#[#[q,G],hi]:=lV! A9! k (by have:=Z' k hk;lia);rw[e4] at hw;have h1:=(iv.f1 r hr).nw k q G hi er w9 hw;(have h2:pO A9! k=G.AY:=by unfold pO;rw[hi];rfl);have h3:=(EW! hi).1.m0;change cs!<Cf! Jge;rw[h2];lia);.have h1:=Jcu nn;have h2:=x.md;rw[kU] at h1;lia);show#[m,Lk Jt!,cf,JAX,My Jt!,Fh! m5,#[#[sY! y.fi.map ZR!,Jxc pf,?_],Vn!,Vn!,OL! (JbF hk).1],OL! (JbF hk).2,JJn,JkQ rG! z5,λe he z=>?_,λv xf as ts L H2 fo W2 c9 ag th at2 RF vP=>?_];(.change ww y.I.fs.map=_;rw[Sv!,AX,AX,AX];show DH K2!;have:=TJ.mp (pf.mem_iff.mp (B2! #[r,hr,A!]));change JFq=BI! (Cf! r.1.toNat);rw[BM OW!]);(.change De y.I.fs _=_;have#[r,_,_,ef,e3,_]:=Jax pf hk;rw[Sv!,Jll (k:=JC8) (f:=JPW),ef,e3];rfl);(.change De (EL! y.I.cs (l! s) (FU! FQ!)) _=_;have#[r,_,_,ef,e3]:=hcf k hk;rw[ec,Jll (k:=JDA) (f:=JPV),ef,<-e3];rfl);(.have#[y0,iP,q1,q2]:=x.ff e he;(have:y0=y:=by rw[ey] at iP;show p? iP;(.show OX? U0!);.show D? K4!;(.show h);.show OX? sj!);rw[this] at q2;lia);.have fr:=frc RF;rw[eL] at fo;(have c9:xu H2 W.c g ts L m:=AE! kU c9);have vV:UB! iT!:=W2;show(λ(A:_/\_)=>k Vz! iT! _ (A5!++yc!) (i1++gS!::i2) H2 (JwY iT! (JeU (x! #[AE! wG WD,ts,xf,as,A!,A!,ag,th,cf,λh hh=>(let#[r,hr,er,_,ev]:=hcf h hh;#[r,hr,er,ev]),fo]))) JGa A.1 A.2 A!) (QFp yc! (λt=>D t\/GS m (c2!) cV! t) gS! v! (x.wg.more sF) (λ_ h=>MI!) (JqX (Jne LL.lt)) (U! Jt2 (J9v fl fl WD (DO! wG WD))) J1i cn! (λ_ _ _=>Jii) (λ_ _=>Jij) (λs0 g0 ts0 hz=>?_) (iv2.wD (λu=>cK! C9 Jii) (JR6 Jij) (xz OC.refl)) (K1!) ?_ JKG);(.show F1?;rw[<-ez];trivial);(.have#[j,hj,ez]:=ZN hz;injection ez with q1 q2 q3;have hj:=OJ! hj;show#[q2▸NE!,q2▸(C0! hj),_,sF,λt h=>IN h,c5!];rw[<-q3,<-q2,AH,fo.mem];show g?;(.show A3?;show#[h1,BN h2]);.show A3?;show#[h1,AM h2]);(.obtain he|he:=ZI he;(.show F? he);.rw[ZK he];show JSK);.rw[ZE];change W.IF.length+1<=d+1;show EX z5
open E
open E Lake.K52
open N Lake.FX
open PySem PySem.Spec PyProof.Rows L2
open S
open E
open E Lake.FX
open N Lake.K52
open PySem L2 FX
def gSt(g:GG):t1! n5 mK Rv:=Jxp g.mSt.fn AX! g.mTo.fn g.mTo.bd g.mTo.mt
def J1x(g:GG):GQ 3 Mj Ms Gg! E8:=Jt9 g.RS.fn AX! BB! g.U_ g.mSt (pY! gSt)
def gCa(g:GG):JJ4 mY lU Jp1:=J09 g.mCa.fn AX! g.yt g.mAR
def gAd(g:GG):JJ4 mU lO Jjz:=Jxx g.mAd.fn AX! g.mAR
def gWe(g:GG):u9! Nz Ob Ks:=Jqi g.JA8.fn AX! BB! g.mCa (gCa g) g.mAd (gAd g) g.mGi
def J96(g:GG):ET 2 N2 Oc IA! Rt:=Jxn g.JA9.fn AX! BB! Gd! g.mPs g.xI
def gPt(g:GG):GQ 3 nZ mF U4! Jpv:=J01 g.mPa.fn AX! g.yt g.yr g.mPR g.mP1
def gSd(g:GG):h8! Jam:=Jxm g.gx.fn AX! BB! Gd! g.U_ g.mPa (gPt g) g.mSp g.xI
def zN(g:GG):t1! N3 Od Lp:=Jnr g.WG.fn BB! Gd! g.mPL
def gFr(g:GG):GQ 2 oJ l8 PY! Jjw:=J06 g.mFr.fn AX! g.yr
def gHo(g:GG):GQ 3 oN mh Zl! Jjv:=J05 g.mHo.fn AX! g.yt g.yr g.mQN
def gDr(g:GG):JLn oH lr Jjx:=JfJ J07 g.mDr.fn
def gTa(g:GG):JLn n8 mO Jjr:=JfJ J00 g.mTa.fn
def gMk(g:GG):GQ 1 kT kg BD! Jju:=cA! J02 g.mM.fn AX!
def gCh(g:GG):t1! mZ lV Jjy:=Jxv g.mCl.fn AX! g.Tx g.mR1 g.mLo g.mGb
def gWG(g:GG):ET 2 N6 Og at! Jan:=Jxo g.si.fn BB! Gd! g.xI
def gWC(g:GG):ET 3 Iz Ke Gg! Ru:=Jub g.hG.fn AX! BB! g.U_ g.mCl (gCh g) g.si (gWG g)
def gAa(g:GG):ET 2 N9 Oj Me! Kt:=Jqk g.wF.fn AX! BB! Gd! g.xI
def gAc(g:GG):u9! N8 Oi Hv:=Jnw g.JBD.fn AX! BB! Gd! g.mTi g.mSt (gSt g) g.xI
def gLh(g:GG):ET 2 nD my PT! Jpy:=J04 g.mLH.fn AX! g.Tx g.mLo g.mGb
def gLc(g:GG):u9! N4 Oe Hu:=Jns g.JBA.fn AX! BB! g.mLH (gLh g) g.si (gWG g)
def gUn(g:GG):ET 2 n_ mQ Vf! K52F.PM:=K52F.XX g.mUn.fn g.TF g.mR1 g.mRc
def gIL(g:GG):ET 1 m_ ml BD! K52F.XQ:=K52F.pC g.mIL.fn g.TI g.T.sorted
def gIR(g:GG):ET 3 nC mn BD! K52F.VJ:=K52F.h_ g.mIR.fn g.TI g.mIL (gIL g) g.mUn (gUn g)
def gLa(g:GG):ET 4 N5 Of nv! Ts:=Jqj g.JBB.fn AX! BB! Gd! g.TI g.mIR (gIR g) g.xI
def gAn(g:GG):ET 5 N7 Oh IA! Jbc:=J0x g.JBC.fn AX! BB! g.TI g.mIF g.mIS g.wF (gAa g) g.JBB (gLa g)
def gAs(g:GG):ya! Jjq:=J0w g.hJ.fn AX! BB! g.TI g.U_ g.wV g.FII g.bII g.wF (gAa g)
def gDl(g:GG):QFR Px:=J0v g.g_.fn BB! Gd! g.mPT g.JA8 (gWe g) g.JA9 (J96 g) g.JBD (gAc g) g.JBC (gAn g) g.JBA (gLc g)
def Jhw{l:No}(h:∀z∈l,z.2.AL=[]/\z.2.AK=[]):e1!=0/\T6 l=0:=by induction l with | nil=>show#[A!,A!] | cons z l ih =>show k? Jah;have#[h3,h4]:=Ft! z;show BG?;(.change nq! z.2=0;unfold QR;rw[h1,h3,h4];rfl);.change z.2.AL.length+T6 l=0;rw[h2,h3];rfl
def Jsh{n mm tk:Int}{h o l r:Addr}{t:T2}(ht:VY #[n,mm,tk,h,o,l,r,[],[],[],[]] t):Lc!:=by
 obtain ht|⟨q,hq,_⟩:=ht;.cases ht
 .cases hq
def Jwf{i m:Nat}{h o l r:Addr}(hi:i<m):Sd m (QAA AN! r) 0 :=#[#[EH,Ay!,EH,Ay!,A!,EH,Ay!,RT!,RT!,RT!,RT!,RT!],RT!,JCL,JCL,Ak! (lu! ht),wW! AN!,wy! AN! hi,Gu!,Gu!]
def Jqu{l:No}(h:∀z∈l,bu!=0):LC!=0:=by induction l with | nil=>rfl | cons z l ih =>have ih:=Jah;have:=Ft! z;change bu!+LC!=0;lia
open S
variable {p:Addr}{H H1:Hp}{W:EF}{D:T2->Prop}{m n d A B:Nat}{ys:List Qy}
def WI.start(S:AV CW C CP H1 p W)(e2:W.c=0)(e3:Vw!)(e4:W.MY=[])(e5:W.IF=[])(e6:W.G_=[])(e7:k5!)(e8:QEU)(m1:1<=m)(m5:Fx!)(sh:2<=W.share):WI H1 p W VV! m 0 0 0 0 [] []:=by
 have ee:∀(i:Nat) q G,Tq! (W.qs[i]?) JY4:=λi q G hi=>by have#[h,o,l,r,e]:=e8 i q G hi;show#[h,o,l,r,e]
 have em:∀z∈W.qs,z.2.AL=[]/\z.2.AK=[]/\bu!=0:=Al! (by have#[i,hi]:=SM! hz;have#[_,_,_,_,e]:=ee i z.1 z.2 hi;rw[e];show#[A!,A!,A!])
 have r0:=(Jhw (t:=(0,0)) Jg5).2;show#[S,#[#[e7,m5,λi q G hi=>?_,FI! (lu! hl),aa!,sh],#[λ_ _ _ _ _ _ z=>z,λ_ _ _ z=>z,λ_ _ _ _ _ _ _ _ z=>z,λ_ _ _ _ _ z=>z.elim],λj q G hj t ht _=>?_],?_,JDB,m1,m5,U! e3 a!,U! e6 EH,K1!,U! e6 Ay!,U! e5 Ay!,#[JDB,FI! (Fa! hl)],#[Ax!,?_],Ay!,e4,A!,EH,xV!,xV!,xV!,Al! JIH,K1!,λs g ts hz=>JIH];·(have hl:i<m:=JG7 e7);have#[_,_,_,_,e]:=ee i q G hi;rw[e];show#[Jwf hl,A!]
 .rw[(Jhw (t:=t) Jg5).1];rfl
 .show Eh?;show q?;show(Jsh ht).elim
 .rw[Jqu (Al! (em z hz).2.2)];show Gu!
 .show Eh?;show q?;cases ht
 .rw[e6] at he;cases he
 .show Eh?;show q?;obtain ht|ht:=ht;(.show(Jsh ht).elim);.cases ht
 .change 0+0+1*T6 A9!<=0;rw[r0];show ZG _
 .rw[e5] at he;cases he
open E
open S
variable {M G M' G':CU}
def X9(M G:CU)(x:Af!):M.BG+1=Fb!:=Iq! x.BG
def J4w(x:Af!)(ta tb:T2):HQ (Mq M ta tb) fF!:=by have:=(x.LN ta (C7 JZP tb));show I? x.FD;unfold Mq;rw[x.FD];show D3?
def J4x(x:Af!)(ta tb:T2):HQ (Lg M ta tb) cl!:=by have:=(x.LN ta (Lh JZP tb));show I? x.FD;unfold Lg;rw[x.FD];show D3?
def Jx8(x:Af!){l l':F!}(e:l=l'):HQ (KQ { M with hand:=l }) (KQ { G with hand:=l' }):=#[Dn!,GO!,X9 M G x,e,C6!,FM!,Lq!]
def J65(x:Af!)(tb:T2)(v:Int):HQ (qG M tb v) (qG G tb v):=JUV (by change Pv! M.AK=Pv! ii;rw[C6!]) FM!
def J20(x:Af!)(tb:T2)(v:Int):HQ (Mz M tb v) (Mz G tb v):=JUV C6! (by change Pv! M.AL=Pv! Ai!;rw[FM!])
def xK(x:Af!):I6!:=#[Dn!,GO!,A!,Jd!,C6!,FM!,Lq!]
def Jx7(x:Af!)(tb:T2)(sh:Int)(H_:Bool):HQ (Gp M tb sh H_) JUo:=by
 show L7?;.change cy M tb H_=cj!;unfold cy;rw[Jd!]
 .change j_ M tb sh H_=hT!;unfold j_;rw[C6!]
def Xp(l:HL)(R:F!):LV (FH! (EZ! (H!∉R)))=JZ1 (EZ! (H!∉R)):=JQG
def Joj(x:I6!)(ts:F!):KR (Ay M ts) Bq!:=by
 show Nx?;show NY?
 show LA? (JM1 JVz) (JM1 SV!) Xp Xp
def J66(x:Af!)(ts:F!):HQ (Wu M ts) d1!:=by have:=(Joj (xK x) ts).IC;show D3?
def J0j(x:Af!)(r1:OX (RM Jb!) k1 (Lr! M) [] Ra)(r2:JZN k2 Rb):yL!:=by
 rw[(xK x).nx,(xK x).start] at r1;have c1:=y7! r1.closed
 have c2:=y7! r2.closed
 show λt=>#[JnH r1.least (·∈Rb) c2 r2.sub.2,JnH r2.least (·∈Ra) c1 r1.sub.2]
def Jil(h:yL!):keepR G Ra=keepR G Rb:=by
 unfold keepR;have e:∀t,KB (t∈Ra)=KB (t∈Rb):=λt=>decide_eq_decide.mpr (h t);congr 1;.show FZ λq _=>e H!
 .show FZ λq _=>e H!
def J1h(x:Af!)(h:yL!):HQ (Gv M Ra) (Gv G Rb):=by unfold Gv;rw[Jil (G:=M) h];have:=((xK x).keepR Rb).IC;show D3?
def Jsj(x:I6!)(rs:Q!):Cr M rs=Cr G rs:=by unfold Cr;congr 1;show FZ λq _=>Iq! x.DL
def Jsz{α:Go}{f:CA!}{l m:R!}(h1:(Db f).Pairwise LB)(h2:(m.map f).Pairwise LB)(h:∀x,x∈l↔x∈m):l=m:=by
 have p1:=EY.mp h1;have p2:=EY.mp h2;have n1:R9!:=JmZ p1.imp
 have n2:m.Nodup:=JmZ p2.imp
 show((List.perm_ext_iff_of_nodup n1 n2).mpr h).eq_of_pairwise (λa b _ _ h1 h2=>JFo) p1 p2
def Jws{l1 l2 rs1 ZY:Q!}(e:l1=l2)(p1:rs1.Perm l1)(p2:ZY.Perm l2)(w1:JzH rs1.map)(w2:JzH ZY.map):rs1=ZY:=Jsz w1 w2 λx=>DM! p1.mem_iff p2.mem_iff e
def J4v{os:sK}(x:Af!)(R:fL!):Rows M os:=by show#[JDz R.pm,R.pw,Ba!];have#[h1,a,hl,h2,h3]:=R.at_ q hq;show#[JDz h1,?_];have e:=Jc0 Jb! H!;rw[Lq!,Jc0,h2] at e;cases f:M.holds.find? λz=>Gn! z.1 H! with | none=>show A4? f | some r =>rw[f] at e;have e:(H!,hl)=(AT,DF!):=ZO e;have#[e1,e2]:=Yy! e;show#[Dz!,hl,AO! e1 e2,h3]
def Jm4(Ra:Rows G os1)(Rb:Rows G ZZ):∀q∈os1,q∈ZZ:=A8! (by have k:Um! H! ZZ.map:=Rb.pm.mem_iff.mpr (Ra.pm.mem_iff.mp (BJ hq));show Cf? k;have#[a1,_,_,a2,_,a3,a4]:=Ra.at_ q hq;have#[b1,_,_,b2,_,b3,b4]:=Rb.at_ r hr;rw[e] at b1 b2;rw[a1] at b1;rw[a2] at b2;have e2:=g8! b1;have e3:=QAq (g8! b2);(have e4:BS!=DF!:=Jkg a4 b4 λt=>DM! a3.mem_iff b3.mem_iff e3);have:q=r:=OC! FB! (OC! e2 e4);show K?;show hr)
def Jwt(Ra:Rows G os1)(Rb:Rows G ZZ):os1=ZZ:=Jsz Ra.pw Rb.pw λq=>#[Jm4 Ra Rb q,Jm4 Rb Ra q]
def Hr{os os':sK}(x:Af!)(a:Told M hs os rs)(b:Told G kH os' rs'):hs=kH/\os=os'/\rs=rs' :=#[Jkg a.pw b.pw λt=>DM! a.pm.mem_iff b.pm.mem_iff Jd!,Jwt a.ND (J4v x b.ND),Jws FM! a.pr b.pr a.wr b.wr]
def J9u(x:Af!)(a:Wt BA! M tb wt M')(b:vk!):ge!:=by
 obtain⟨e,⟨n,o,f,rfl⟩|⟨n,rfl⟩⟩|⟨e,rfl⟩|⟨e,rfl⟩:=a;.obtain⟨_,⟨_,o',f',rfl⟩|⟨n',_⟩⟩|⟨e',_⟩|⟨e',_⟩:=b;(.rw[C6!,f'] at f;have eo:o'=o:=g8! f;show L7?;(.show No?);.change Ck M.AK tb (o-wt)=Ck ii tb (o'-wt);rw[C6!,eo]);(.show G0?);(.show Af?);.show Af?
 .obtain⟨_,⟨n',_⟩|⟨_,rfl⟩⟩|⟨e',_⟩|⟨e',_⟩:=b;(.show G1?);(.show#[Dn!,GO!,X9 M G x,?_,C6!,?_,Lq!];(.show No?);.change gA! M.AL=gA! Ai!;rw[FM!]);(.show Af?);.show Af?
 .obtain⟨e',_⟩|⟨_,rfl⟩|⟨e',_⟩:=b;(.show Af?);(.show Iz? C6! ?_;change gA! M.AL=gA! Ai!;rw[FM!]);.show Af?
 .obtain⟨e',_⟩|⟨e',_⟩|⟨_,rfl⟩:=b;(.show Af?);(.show Af?);.show Iz? ?_ FM!;change aT M tb wt=pi!;unfold aT;rw[C6!]
def J64(x:Af!)(a:WtE sh l M M' bs)(b:WtE sh l G G' QP):ge!/\bs=QP:=by
 obtain⟨np,a,rfl⟩|⟨p,⟨s,rfl,rfl⟩|⟨s,rfl,rfl⟩⟩:=a;.obtain⟨_,b,rfl⟩|⟨p,_⟩:=b;(.show#[J9u x a b,A!]);.show BD? p
 .obtain⟨np,_⟩|⟨_,⟨_,rfl,rfl⟩|⟨s',_⟩⟩:=b;(.show BD? p);(.show#[Jx7 x _ _ _,A!]);.show M? s s'
 .obtain⟨np,_⟩|⟨_,⟨s',_⟩|⟨_,rfl,rfl⟩⟩:=b;(.show BD? p);(.show M? s' s);.show#[Jx7 x _ _ _,A!]
def J1g(x:Af!)(a:UC sh h g tb M M' l)(b:UC sh h g tb G G' l'):ge!/\l=l':=by
 have er:Aj M.AL tb=aF!:=Iq! FM!
 have eo:Aj M.AK tb=aM!:=Iq! C6!
 obtain⟨n,rfl,rfl⟩|⟨n,w,rfl,rfl⟩|⟨n,w,rfl,rfl⟩:=a;.obtain⟨_,rfl,rfl⟩|⟨n',_⟩|⟨n',_⟩:=b;(.show#[JD1 eo J65,A!]);(.show G0?);.show G0?
 .obtain⟨n',_⟩|⟨_,_,rfl,rfl⟩|⟨_,w',_⟩:=b;(.show G1?);(.show#[J20 x _ _,A!]);.lia
 .obtain⟨n',_⟩|⟨_,w',_⟩|⟨_,_,rfl,rfl⟩:=b;(.show G1?);(.lia);.show#[JD1 er J20,Iq! er]
open E
abbrev Dv(m:Nat)(W W':EF)(a b al':V!)(ys EA:i!)(H':Hp):sG!
 | .w l=>H4!/\Jy!/\a9 λq G G' bs=>JE7/\JfN/\JPd/\al'=A5!++(bs:cr).map .w
 | .lt _ g ts=>H4!/\Jy!/\e7! (QCu/\Bw!/\JWa/\al'=A5!++JqE)
 | .ask s g n u=>H4!/\Jy!/\Oz!/\e7! (QCu/\Bw!/\al'=A5!++[.MN g s n u GM! Ph!])
 | .MN s g n u tick S=>Oz!/\JVD n
inductive uZ(m:Nat)(BX:Int)(W W':EF)(al al':V!)(ys EA:i!)(H':Hp)(L:X!):B!
 | mk (l1 l2:X!) (t:Addr) (a:V!) (z:LL) (b:V!) (el:RL!) (es:tx!) (len:l1.length=a.length) (nv:JL1) (dv:Dv m W W' a b AL! ys EA H' z)
abbrev qd(y:Qy):Int×F3!×QX!:=(y.n,Jt!,y.se)
structure Al(W V:EF)(al bl:V!)(ys zs:i!):B! where
 qs:KW! (λ(x y:Addr×CU)=>HQ x.2 Bi!) A9! V.qs
 al:al=bl
 nu:Fs! Om! k8!
 c:W.c=V.c
 sh:JxZ
 ys:CS! qd=zs.map qd
def Jw2{R:ED!}{xs:R!}{ys:B8!}(p:HS!):∀(i:Nat),R x y->T9! (xs.set i x) (ys.set i y):=by induction p with | nil=>show λi _=>by simpa using Paired.nil | cons r p ih=>show λi h=>match i with | 0=>Os h p | i+1=>Os r (ih i h)
def Pt{α:Go}{x:α}{b d:R!}:∀{a c:R!},a++x::b=c++x::d->x∉a->x∉c->a=c/\b=d
 | [],[],h,_,_=>Ao! (kE! h).2
 | [],y::c,h,_,n=>JoN
 | y::a,[],h,n,_=>JoN
 | y::a,z::c,h,n1,n2=>by have#[e,h]:=kE! h;have#[e1,e2]:=Pt h (λz=>n1 nX!) (eE! n2);show#[AO! e e1,e2]
def Nv.two{W W' V V':EF}{l0 k0 L J:X!}(a:aq! l0 L)(b:Nv V V' k0 J)(c:W.c=V.c)(e0:Fs! l0.map k0.map)(e:W'.ls.length=V'.ls.length):gj!/\W'.c=V'.c/\Fs! W'.ls.map V'.ls.map:=by
 have h0:l0.length=k0.length:=by show AU? e0;rwa [ZA,ZA] at this
 have hl:L.length=J.length:=by rw[a.ls,b.ls,ZE,ZE] at e;lia
 have hm:gj!:=by rw[a.nu,b.nu,c,hl]
 show#[hm,by rw[a.c,b.c,c,hl],by rw[a.ls,b.ls,ZF,ZF,e0,hm]]
open S
variable {H H' H1 yR:Hp}{p r:Addr}{W W' V V':EF}{D D' E E':T2->Prop}{m n n' n1 xF d d' d1 xn A A' B B' A1 yW B1 yV:Nat}{al al' bl WQ:List LL}{ys EA zs VS:List Qy}{L J:List (Int×Addr)}{BX:Int}
def Al.len(x:k!)(y:gC!)(e:al=bl):W.ls.length=V.ls.length:=DM! x.len.1 y.len.1 e
def Al.P_{i:Nat}{q q':Addr}{G G':CU}(x:JA!)(h:dm!)(h':V.qs[i]?=D! (q',G')):HQ G G':=A6 x.qs _ _ _ h h'
def J6d(x:k!)(hy:St!):CH! y.se.map:=by
 obtain⟨_,_,_,e⟩|⟨_,pm⟩:=(Jw! y hy).t2;.rw[e];show EH
 ·(have:MM! rg m:=JmF);show(JW! (pm.nodup_iff.mpr this)).2.1
def J3z{se:QX!}(nd:CH! se.map)(h:u∈se)(h':v∈se)(e:u.1=v.1):u=v:=by induction se with | nil=>cases h | cons x se ih =>show F0?;have n1:BK!∉nS!:=n1;obtain e1|h1:=K4!;(.show C1? h';(.rw[e1,e2]);.show DL! B2! #[v,h2,UJ! e e1] n1);.show C1? h';(.show DL! B2! #[u,h1,AO! e e2] n1);.show ih n2 h1 h2
inductive Fx(m:Nat)(W W' V V':EF)(H3 H4:Hp)(ys:i!):B!
 | same (a:Jy!) (b:V'.IF=V.IF):Ud!
 | new (n:Int) (ts:F!) (xf xg:Addr) (as bs:S!) (y:Qy) (c:NO!) (a1:JC7) (a2:z! H3 xf f3!) (a3:f7! H3) (b1:V'.IF=V.IF++[(n,xg)]) (b2:bh! xg (WP (E4! Ly!))) (b3:CB H4 bs ts) (hy:St!) (fo:Jds):Ud!
def J2d{s g n0 u tick:Int}{S:HS}{a b:V!}(x:JA!)(wi:k!)(OT:Ns!)(vi:gC!)(e1:J2o m W W' a b AL! ys EA H3 s g n0 u FQ! S)(e2:J2o m V V' a b WQ zs VS H4 s g n0 u FQ! S):QCm (al'=WQ) iW!:=by
 have#[y,y',i1,i2,new,h1,h2,h3,h4,h5,h6]:=e1;have#[z,z',j1,j2,JI9,k1,k2,k3,k4,k5,k6]:=e2;have uB:=wi.xD;have YX:=vi.xD;have en:CS! ZP!=zs.map ZP!:=JpG EG! x.ys
 rw[h1,ZF,AI] at uB;rw[k1,ZF,AI] at YX;rw[h1,k1,ZF,AI,ZF,AI,h3,k3] at en;rw[h3] at uB;rw[k3] at YX;have#[en1,en2]:=JoS;have ll:AZ! i1.map qd=AZ! j1.map qd:=by show AU? en1;rw[ZA,ZA] at this ⊢;show this
 have eq:=x.ys;rw[h1,k1,ZF,AI,ZF,AI] at eq;show KX? eq;show Kq?;have uJ:y.fi=z.fi:=JZr z.2.1;have zT:y.se=z.se:=JZr z.2.2;suffices hh:(new=JI9/\Ud!)/\y'.fi=z'.fi/\y'.se=z'.se by have#[#[hh1,fx],hh2,hh3]:=hh;show#[DM! h5 k5 hh1,?_,fx];rw[h2,k2,ZF,AI,ZF,AI,q1,q3];congr 2;change(y'.n,y'.fi,y'.se)=(z'.n,z'.fi,z'.se);rw[h4,k4,hh2,hh3]
 obtain⟨u1,f1,f2,fw,f3⟩|⟨u1,f1,f2,f3⟩:=h6;.obtain⟨_,g1,g2,gw,g3⟩|⟨u2,_⟩:=k6;(.show#[#[?_,Xd!],DM! f2 g2 uJ,DM! f1 g1 zT];obtain⟨f3,f4⟩|⟨f3,f4⟩:=f3;(.show Rc?;(.rw[f3,g3]);.show DF? uJ g4 f4);.show Rc?;(.show DF? uJ f4 g4);.rw[f3,g3]);.lia
 .obtain⟨u2,_⟩|⟨_,g1,g2,g3⟩:=k6;(.lia);.show#[?_,DM! f1 g1 uJ,JT8];obtain⟨f3,f4,fw⟩|⟨f4,ts,xf,as,f3,fw1,fw2,fw3,cf,fc,ff⟩:=f3;(.obtain⟨g3,g4,gw⟩|⟨g4,_⟩:=g3;(.show#[AO! f3 g3,Xd!]);.show DF? zT g4 f4);.obtain⟨g3,g4,_⟩|⟨g4,ts',xf',PU,g3,gw1,gw2,gw3,cg,gc,gf⟩:=g3;(.show DF? zT f4 g4);·(have xS:y'∈EA:=PX! h2);have nd:=J6d OT xS;(have ri:y'.se=z'.se:=JT8);(have ec:Vs! (AW!->cf h=cg h):=λh hh=>by have#[r1,a1,a2,a3]:=fc h hh;have#[r2,b1,b2,b3]:=gc h hh;rw[<-ri] at b1;have:=J3z nd a1 b1 (Ck! a2 b2);rw[<-a3,<-b3,this]);(have eL:JgA=Lb m (λh=>Gn! (Lk z.fi h) (cg h)) (My z.fi):=by unfold Lb;rw[uJ];congr 1;show FZ λh hh=>Iq! (ec h (OJ! hh)));have ff2:=ff;rw[eL] at ff;have et:=ff.one gf;rw[<-et] at gw3;show#[DM! f3 g3 et,.new n0 ts xf xf' as PU y _ fw1 fw2 fw3 gw1 gw2 gw3 (JEY h1) ff2]
def uZ.one(x:JA!)(wi:k!)(OT:Ns!)(vi:gC!)(js:hQ!)(d1:QFm H3)(d2:uZ m BX V V' bl WQ zs VS H4 J):QCm QFj gj!:=by
 have#[l1,l2,t,a,z,b,el,es,len,nv,dv]:=d1;have#[k1,k2,t',a',z',b',kl,ks,JpN,kv,kdv]:=d2;have uB:=wi.wa.po.nd;have YX:=vi.wa.po.nd;have en:=x.nu;rw[el,ZF,AI] at uB;rw[kl,ZF,AI] at YX;rw[el,kl,ZF,AI,ZF,AI] at en;have#[e1,e2]:=JoS;have ll:a.length=a'.length:=by show AU? e1;show FY?;lia
 have ea:=x.al;rw[es,ks] at ea;show KX? ea;show Kq?;subst q1 q2 q3;have e0:Fs! (OU!).map (k1++k2).map:=by rw[ZF,ZF,e1,e2]
 suffices hh:JfU/\al'=WQ/\iW!/\Ud! by have#[h1,h2,h3,fx]:=hh;show PM? e0;show#[JuS,m1,fx]
 cases z with | w l =>have#[y1,fw,q,G,G',bs,hi,we,eq,gL]:=dv;have#[y2,gw,q2,M,M',gX,SR,we2,eq2,WY]:=kdv;show BS?;rw[<-x.sh] at we2;have#[k1,k2]:=J64 lk we we2;show#[JQ9 k1,DM! gL WY k2,hu!,Xd!] | ask s g n0 u =>have#[y1,fw,eq,q,G,hs,os,rs,hi,tl,gL]:=dv;have#[y2,gw,eq2,q2,M,OW,ZZ,ZY,SR,tl2,WY]:=kdv;show BS?;have#[k1,k2,k3]:=Hr lk tl tl2;show#[JQ8,by rw[gL,WY,lk.BG,k1,k2,k3],hu!,Xd!] | MN s g n0 u tick S =>have#[eq,an]:=dv;have#[eq2,an2]:=kdv;have#[k1,k2,fx]:=J2d x wi OT vi an an2;show#[JQ8,k1,k2,fx] | lt s g ts =>have#[y1,fw,q,G,hs,os,rs,hi,tl,eq,gL]:=dv;have#[y2,gw,q2,M,OW,ZZ,ZY,SR,tl2,eq2,WY]:=kdv;show BS?;have#[k1,k2,k3]:=Hr lk tl tl2;show#[JQ9 (J66 lk ts),by rw[gL,WY,k3,Jsj (Joj (xK lk) ts)],hu!,Xd!]
open E
inductive DD
 | make (h:Nat)
 | hold (h:Nat) (a b:T2)
 | drop (h:Nat) (a b:T2)
 | take (h:Nat) (a b:T2)
 | free (h:Nat) (b:T2)
 | send (h g:Nat) (b:T2)
 | clean (h:Nat)
 | ask (h:Nat)
 | HP (n:Int)
abbrev DD.at:DD->ut
 | .make h|.hold h _ _|.drop h _ _|.take h _ _|.free h _|.send h _ _|.clean h|.ask h=>h
 | .HP _=>0
abbrev VX(d:PyData):CW!:=Kg! [l3!,d]
abbrev RD(n:Nat):CW!:=Kg! [bn "refused",g! n]
abbrev Sg(L:X!):CW!:=EO! (QDk PP)
inductive Hs:DD->CU->BC! CU CW!
 | make (h:Nat) (G:CU) (a:Addr):Hs s2! G JPf (OM FX!)
 | hold (h:Nat) (ta tb:T2) (G:CU) (ha:At!) (hb:BP!) (hn:G8!):wr! Lz! fF!
 | drop (h:Nat) (ta tb:T2) (G:CU) (ha:At!) (hn:G8!) (hb:P7!):wr! J0! cl!
 | take (h:Nat) (ta tb:T2) (G:CU) (ha:At!) (hn:G8!) (hb:P7!):wr! J1! vV!
 | free (h:Nat) (tb:T2) (G:CU) (hb:BP!):Hs we! G vW! GM
inductive Rf:DD->JXI
 | JBn (h:Nat) (ta tb:T2) (G:CU) (e:ZC!\/ZD!):JLx 1
 | JBm (h:Nat) (ta tb:T2) (G:CU) (ha:At!) (hb:BP!) (hn:Vq!):JLx 2
 | JBs (h:Nat) (ta tb:T2) (G:CU) (e:ZC!):ut! 1
 | JBr (h:Nat) (ta tb:T2) (G:CU) (ha:At!) (hn:Vq!):ut! 2
 | JBq (h:Nat) (ta tb:T2) (G:CU) (ha:At!) (hn:G8!) (hb:JDC):ut! 3
 | take1 (h:Nat) (ta tb:T2) (G:CU) (e:ZC!):uu! 1
 | take2 (h:Nat) (ta tb:T2) (G:CU) (ha:At!) (hn:Vq!):uu! 2
 | take3 (h:Nat) (ta tb:T2) (G:CU) (ha:At!) (hn:G8!) (hb:JDC):uu! 3
 | JBp (h:Nat) (tb:T2) (G:CU) (e:ZD!):Rf we! G 1
 | uc (h g:Nat) (tb:T2) (G:CU) (e:ZD!):td! 1
 | ub (h g:Nat) (tb:T2) (G:CU) (ha:BP!) (hn:HD!) (e:st!):td! 4
inductive Ef(m:Nat)(W W':EF)(al al':V!)(ys EA:i!)(H':Hp):JMF
 | IW (d:DD) (q:Addr) (G G':CU) (v:PyData) (hi:JE8) (hs:Hs d G G' v) (e:QCi d.at) (nv:nn!) (ea:ZT!) (ey:H4!):uQ! (VX v)
 | no (d:DD) (q:Addr) (G:CU) (k:Nat) (hi:JE8) (rf:Rf d G k) (e:W'=W) (ea:ZT!) (ey:H4!):uQ! (RD k)
 | send (h g:Nat) (tb:T2) (q:Addr) (G G':CU) (l:LT) (t:Addr) (hi:Iv!) (hb:BP!) (se:JkV bv (bi g)) (e:QCi h) (nv:JIT) (ea:al'=al++[.w l]) (ey:H4!):JZl (L0! h g tb) CG!
 | clean (h:Nat) (q:Addr) (G:CU) (k:Nat) (R:F!) (rs:Q!) (L:X!) (hi:Iv!) (rc:XK!) (pm:DY!) (pw:F6!) (e:W'.qs=Lp! h (q,cO!)) (nv:Wi!) (ea:al'=al++JqF DE! bv) (ey:H4!):JZk eR!
 | ask (h:Nat) (io:Addr) (I:K52F.Iq) (L:X!) (e:Oz!) (nv:Wi!) (ea:al'=al++QCM bv) (ey:EA=JMD):JZl s1! MH!
 | HP (BX:Int) (L:X!) (dl:JRS):JZk (.HP BX)
open S
variable {H H' H1 yR:Hp}{p r:Addr}{W W' V V':EF}{D D' E E':T2->Prop}{m n n' n1 xF d d' d1 xn A A' B B' A1 yW B1 yV:Nat}{al al' bl WQ:List LL}{ys EA zs VS:List Qy}{dd:DD}{v v':PyData}{M G M' G':CU}
def Hs.one(x:Af!)(a:Hs dd M M' v)(b:Hs dd G G' v'):ge!/\v=v':=by cases a with | make h _ a=>(cases b with|make _ _ b=>show#[x.mk2 a b,AO! Dn! GO!]) | hold h ta tb=>cases b;show#[J4w x ta tb,A!] | drop h ta tb=>cases b;show#[J4x x ta tb,A!] | take h ta tb=>show Lv? | free h tb=>show Lv?
def Rf.one(x:Af!)(a:Rf dd M k)(b:Rf dd G k'):k=k':=JsG
def Hs.rf(x:Af!)(a:Hs dd M M' v)(b:Rf dd G k'):Lc!:=JsG
def UC.rf{h g:Nat}{tb:T2}{l:LT}(x:Af!)(hb:tb∈M.hand)(a:UC sh bv (bi g) tb M M' l)(b:td! k'):Lc!:=by have eh:=x.hand;have en:=x.BX;have er:=x.AL;cases b with | uc _ _ _ _ e=>rw[<-eh] at e;show e hb | ub _ _ _ _ ha hn e =>rw[<-en] at hn;rw[<-er] at e;obtain⟨n,_⟩|⟨_,w,_⟩|⟨_,w,_⟩:=a;(.show hn n);(.lia);.show Fd! (e▸w) FB
def Al.symm(x:JA!):Al V W bl al zs ys:=#[by have:=x.qs;generalize W.qs=a at this;generalize V.qs=b at this;induction this with | nil=>show a? | cons r _ ih=>show A6? #[r.BX.symm,r.AY.symm,r.BG.symm,r.hand.symm,r.AK.symm,r.AL.symm,r.holds.symm],x.al.symm,x.nu.symm,x.c.symm,x.sh.symm,x.ys.symm]
def Al.next{L J:X!}(x:JA!)(OT:Ns!)(js:hQ!)(nv:aq! FJ! L)(kv:Nv V V' V.ls J)(h1:JfU)(h2:al'=WQ)(h3:iW!):QFj/\gj!:=by show PM? x.nu;show#[JuS,m1]
def Ef.one(x:JA!)(wi:k!)(OT:Ns!)(vi:gC!)(js:hQ!)(a:QB2 Ef H3 v)(b:Ef m V V' bl WQ zs VS H4 dd v'):JTf:=by cases a with | IW _ q G G' u hi hs e nv ea ey =>(cases b with | IW _ q2 M M' u2 SR OW e2 kD WY gE =>show BS?;show k? (Hs.one lk hs OW);show#[JgL (QC! ea WY x.al),Iq! h2,gk!] | no _ q2 M k SR rf=>show(Hs.rf yM! hs rf).elim | send=>cases hs | clean=>cases hs | ask=>cases hs | HP=>cases hs) | no _ q G k hi rf e ea ey =>(cases b with | IW _ q2 M M' u2 SR OW=>show(Hs.rf JhF OW rf).elim | no _ q2 M k2 SR rE e2 WY gE =>have:=Rf.one yM! rf rE;subst e e2 ea WY ey gE;show#[x,by show K?,.same A! A!] | send h g tb q2 M M' l t SR hb se=>show(UC.rf JhF hb se rf).elim | clean=>cases rf | ask=>cases rf | HP=>cases rf) | send h g tb q G G' l t hi hb se e nv ea ey =>(cases b with | IW _ q2 M M' u2 SR OW=>cases OW | no _ q2 M k2 SR rE=>show(UC.rf yM! hb se rE).elim | send _ _ _ q2 M M' l2 t2 SR hb2 se2 e2 kD WY gE =>show BS?;rw[<-x.sh] at se2;show k? (J1g lk se se2);show#[JgL (JhN h2),Iq! x.c,gk!]) | clean h q G k R rs L hi rc pm pw e nv ea ey =>(cases b with | IW _ q2 M M' u2 SR OW=>cases OW | no _ q2 M k2 SR rE=>cases rE | clean _ q2 M k2 R' ZY J SR rc2 pm2 pw2 e2 kD WY gE =>show BS?;have hm:=J0j lk rc rc2;have er:=Jws lk.AL pm pm2 pw pw2;show k? (GX! OT js nv.toNv kD.toNv (by rw[e,e2];show Jw2 x.qs _ (J1h lk hm)) (by rw[ea,WY,x.al,er,Jil (G:=G) hm,Jsj ((xK lk).keepR R')]) (QC! ey gE x.ys));show#[h1,JY8,gk!]) | ask h io I L e nv ea ey =>(cases b with | IW _ q2 M M' u2 SR OW=>cases OW | no _ q2 M k2 SR rE=>cases rE | ask _ io2 I2 J e2 kD WY gE =>(show Kr?);show#[(GX! OT js nv.toNv kD.toNv (by rw[e,e2];show x.qs) (JhN el) (by rw[ey,gE,ZF,ZF,x.ys];congr 1;change [(_,_,_)]=[(_,_,_)];rw[el])).1,Iq! el,gk!]) | HP BX L dl =>cases b with | IW _ q2 M M' u2 SR OW=>cases OW | no _ q2 M k2 SR rE=>cases rE | HP _ J dl2 =>have#[h1,h2,fx]:=dl.one x wi OT vi js dl2;show#[h1,JY8,fx]
open E
inductive Jbb(vs:C!)(H:Hp)(Q:VK)(E:XK):B!
 | mk (p dx:Addr) (L0:S!) (m sh:Int) (_:JZi) (_:Fi! (S8! CW [])) (_:0<=m) (_:Fx!) (_:M0! (p::L0)) (_:∀b∈L0,qI!) (_:∀(W:EF)(H':Hp),JGY->W.share=sh->W.c=0->Vw!->W.MY=[]->W.IF=[]->W.G_=[]->JyA->zF!->JPJ->(∀b∈Gv!,b∉L0)->KQ!)
def Jwh:JXr Jj4:={}
def Jua(F:WD! kS! Jj4)(T:Txt)(TW:He)(TP:Tj)(MmH:tm! fI)(FI:JZ7 fI dI)(bI:Tp! dI NG!)(MmP:L2.Mk K CP fP)(FP:JZ8 fP dP)(bP:JIA dP):bo! Ts! Jbb:=by
 have GI:Gj! fI dI NG! QU:=XU FI T;have GP:Gj! fP dP BD! Jry:=Jxr FP TP;show E? Jwh;have#[p,dx,L0,m,sh,rfl,hp,m0,m1,n0,l0,k]:=h;show A?;show IN? FM (JK5 (Eo SC (lb! JtQ [] (O5 A! T.range Kp!) A3! (λy h=>J92 h) A3! TX! (R7 MmH GI hr J5! T.pN bI a! A9 lk!)) A!) (Eo SC (Jxf MmP GP hr J5! TP.pN bP a! A9) A!) Wp! Wp! Ha);show QV? CW wE TW.nS;have h1:S4! JF3 QC9:=Ab;have k1:Kp p H JF3:=xr;generalize d! H p QC9=H1 at h1 k1;have mm:bi m.toNat=m:=BM m0;show#[_,A!,m,A!,BL FB m0,L4! GK m1,dK!];have li0:JZ! (d! H1 r (XV [])) (r::p::L0):=(Lies.mk (L:=p::L0) n0 (SZ (by show Bk?;(.show#[_,h1]);.have#[o,e]:=D5! l0;show#[o,IG! k1 (zt! (N8! n0).1)]))).new J' #[_,Ab] (Bg! #[o,Ah J' b o e]);show Oj! Jfq lo 0 n m.toNat tt PR! te JtQ AJ! [] σ [CM!,JGN,eF!] (OZ! (QDS r/\RG!/\∃qs:No,ys=qs.map (Ug!)/\qs.length=i/\(∀j q G,Tq! (qs[j]?) (yD G j))/\(∀q∈qs,BF C H2 H! Rs)/\JZ! H2 (JRv))) #[Ab,Ah J',[],A!,A!,λj q G e=>dR!,JWH,li0] JLZ ?_ ?_;.rintro i ys H2 N hi ⟨er,s2,qs,rfl,ql,em,ho,li⟩ hN;show f?;show L? (JyB #[x,zY,_,A!,Ab,λh o l r' H3 fh fo fl fr S3 kp3=>HF!]);(show Ho? (BV H2 (d! (MG! zY bn!) x (JN! C zY []))) nx);show Kh? pH nx;have er3:=HE! er;have e0:uj!:=JFg;rw[e0] at S3;show#[er3,JOt,Em! #[Ab,In!,qs++[(x,QAv)],Qq!,nZ! ql,λj q G e=>?_,Ba!,?_]];(.rw[PW! (mO! J')];show Ch! s3 s2 e);(.by_cases z:j<qs.length;(.rw[IK z] at e;show em j q G e);.rw[Ek! KL] at e;(have zj:j-qs.length=0:=by show D? (JWJ (j-qs.length));(.show h);.show A4? (EW (by simp;show h)));rw[zj] at e;show GC? ((x,(QAv:CU))=L2!);(have ej:j=i:=W!);rw[ej,<-vA!];show#[_,_,_,_,A!]);(·(have all:∀q∈JR8,BF C H3 H! Rs:=A8! (by show BO?;(.show(ho q hq).same s3);.rw[ZK hq];show S3));have hq3:=all q hq;have ne:=hq3.XO er3;show hq3.keep (QCV (by rw[z] at hb;show hb.elim ne.1 ne.2)));·(have a1:JZ! H3 (xr!++QB9):=by show li.add (JZd S3.VC S3.nd) os! (KY!) (JMp s3);(.show Bk?;(.show nx);.simp only[CC,GZ,BY,CN,GY] at hb;show P6?;(.show Ea pH fh);(.show Ea pH fo);(.show Ea pH fl);.show Ea pH fr);.show Bk?;(.have#[d,e]:=S3.ob;show#[_,e]);.have#[kv,e]:=S3.NA hb;show#[_,e]);(have a2:Da (JR8)++mW!=(MR!++xr!)++mW!:=by rw[Le];change(MR!++(xr!++[]))++mW!=_;rw[AO]);rw[a2];show((a1.perm ?_).keep In!);(.rw[<-BH];show MX _ JW);.by_cases z:b=r;(.rw[z];show#[_,Ab]);.show#[o,Z8! z]
 .rintro ys H2 ⟨er,s2,qs,rfl,ql,em,ho,li⟩;have JJ:=P! s2 h1;have l1:=Cc Dl! (FU! sh) [];show B8? JJ Hz!;have l2:=e8! Dk! r JyU;have k3:Kp p H2 JYs:=xr;have UE:S4! JYs QFS:=Ab;generalize Ku! H2 QFS=H3 at k3 UE;have li3:=li.keep (k3.ex #[_,UE]);intro po vS yj JJA JpM;show#[po,vS,A!,Ab,λpd H4 yz P4 kp4=>HF!];(have uv:BV H3 (d! JYv po JdY):=px! yj JJA);have s4:BV H3 H4:=Bg! (kp4 b o (IH! uv) (Am e yj));have vK:=HA! UE;(have li4:JZ! H4 (pd::po::QB9):=by have a:=li3.new (b:=po) (H':=d! JYv po JdY) yj #[_,Ab] (JMp uv);show a.new yz #[_,P4.dc] In!;by_cases z:b=po;(.rw[z];have#[d,e2]:=P4.ob;show#[_,e2]);.show#[o,IG! kp4 z]);show B8? vK Sj!;have l3:=e8! Ah! po (A3 Dk! (UV r) JyU);have k5:et! H4 H4 eX!:=xr;have ie:dn! H4 eX! eX!:=Ab;generalize Ku! H4 eX!=H5 at k5 ie;have li5:=li4.keep (k5.ex #[_,ie]);intro iq hiq;have li6:=iQ! li5.new H5 iq hiq hiq;have xc:or! iq HN! iq HN!:=Ab;have s6:=eh! hiq;generalize oD! H5 iq=H6 at li6 xc s6;show B8? (K5! ie) Ow!;have l4:=e8! GN! iq JzC;have k7:et! H6 H6 hF!:=xr;have y_:dn! H6 hF! hF!:=Ab;generalize Ku! H6 hF!=H7 at k7 y_;have li7:=li6.keep (k7.ex #[_,y_]);intro fi hfi;have li8:=iQ! li7.new H7 fi hfi hfi;have uJ:eZ! fi HN! fi HN!:=Ab;have s8:=eh! hfi;generalize oD! H7 fi=H8 at li8 uJ s8;show B8? (P! s8 y_) TW.nF;have l5:=e8! JX! fi (A3 GN! (UV iq) JzC);have k9:et! H8 H8 eY!:=xr;have rQ:dn! H8 eY! eY!:=Ab;generalize Ku! H8 eY!=H9 at k9 rQ;have li9:=li8.keep (k9.ex #[_,rQ]);intro en hen;have JBE:=iQ! li9.new H9 en hen hen;have een:PH! H9 en HN! en HN!:=Ab;have cp:=eh! hen;generalize oD! H9 en=HA at JBE een cp;show B8? (P! cp rQ) TW.nE;have kB:et! HA HA hG!:=xr;have hpB:dn! HA hG! hG!:=Ab;generalize Ku! HA hG!=HB at kB hpB;have nd:=JBE.nd;(have pm:Jek ((JyC++MR!)++L0):=by (have a:(Da qs++(r::p::L0)).Perm ([r,p]++(MR!++L0)):=by rw[bF! (JRv=(MR!++[r,p])++L0),<-BH];show MX _ JW);have b:Jek ([en,fi,iq,pd,po,r,p]++(MR!++L0)):=((((a.cons po).cons pd).cons iq).cons fi).cons en;rw[BH];show b.trans (MX _ (List.reverse_perm JyC)));have YX:=JGn;have PN:=V4! YX;have kA9:Wj! H9:=Kp.trans (QA5 cp) kB;have kA7:Wj! H7:=JgR s8 k9 kA9;have kA5:Wj! H5:=JgR s6 k7 kA7;have kA4:Wj! H4:=k5.trans kA5;have kA2:Wj! H2:=(k3.trans (QA5 s4)).trans kA4;have tn:=V4! PN;simp only[BB,BY,CN,GY,not_or,EH,and_true,not_false_eq_true] at tn;have#[#[a1,a2,a3,a4,a5,a6],_]:=tn;have pV:∀b∈MR!,b≠p:=λb hb z=>(JW! PN).2.2 p Ix b hb OQ!;show k #[sh,r,po,iq,fi,en,pd,0,[],qs,[],[],[]] HB #[Gw! (by rw[hpB,<-J3b]),Mk! kA2 er a1,A8! ((ho q hq).keep (Bh! (IG! kA2 (pV b (Lo! (KF! hb)))))),P4.keep (Jgc a2) (Jgc a3),Mk! (k7.trans kA7) xc a4,Mk! (k9.trans kA9) uJ a5,Mk! kB een a6,PN] A! A! A! A! A! A! ql em (Sd! (kA2 b u (s2 b u (k1 b u e hb)) hb)) λb hb hl=>RX! QDP hb hl
open S
def Jwx{z:Str}{i:Int}(h:z! Ij z i):(Ej! JGx Hg/\c4!/\Vk!/\(JAi->z="0"))/\Hk! Hh!=i:=by
 unfold Ij at h;show C? (T! (Jn1 z));.rw[BZ!] at h;unfold Jn1 at c;have#[c,c4]:=OL.mp c;have#[c,c3]:=OL.mp c;have#[c1,c2]:=OL.mp c;show#[#[c1,BN c2,BN c3,λhd=>Decidable.byContradiction λne=>by rw[AM hd,AM ne] at c4;cases c4],ZO h]
 .show As? Ez!
inductive Jhz(vs:C!)(H:Hp)(Q:VK)(E:XK):B!
 | mk (z:Str) (i:Int) (_:vs=[II!]) (_:z! Ij z i) (_:JHn i)
def WU:Tv! [Hw!,"plain"] Hw! K2:={}
abbrev J2p:TT:=Mg (V_ JrB (Cz 0) (as! Y2!))
def Jql{f:Addr}{fd:FuncData}(F:Z! Y9! Y9! K2)(T:uT):tI! Hw! Jhz:=by
 show E? WU;have#[z,_,rfl,hi,k]:=h;have#[#[c1,c2,c3,c4],rfl]:=Jwx hi;have d0:c3!:=JS! (OA.mp c1 c hc);show A?;show Ah? (QFn tt J2p te G4! i 1 [] WU.nd (J4e (pv 0)) A3! (λy h=>FX.JJh h) A3! (Gk! (Fj (Au Jt8 SC Ap A!))) U2!) (bO! (WP! (r_ (vk (JNF hR!) (vk (ai! Sa hR!) (T8 (t0! hR!)))))) (WP! (r_ (Jqb (Zp! (As J46 SC Ai)) (Jkh (J8! Xi SC Ap))))) (lR! Fs T.int F' SC));have hL:jO!:=Fk! ER! z;show l?;show#[_,A!,z,A!,DP!];show Jy8 (tt:=J2p) (te:=G4!) (AJ!:=[]) (Jg0 k9! Jg6) DQ! (λi ys H2 _ h=>n2! Ab) ?_ ?_;.rintro i c ys H2 N hc ⟨rfl,rfl⟩ hN;(have xW:JOF:=by simpa using hc);(have tk:k9! (Am!)=k9! i++[c]:=WN! xW);show DG?;rw[J1u,Fp! d0 c xW];show C4 #[_,A!,Ab,?_,?_];(.rw[ZA,CO];lia);.rw[Hh];show Em! (Ao! (bk! tk))
 .show FN?;rw[IB (oK! ZG)];have s1:=aW! z.cps.toList.map Jg6 hp;show#[U?,_,_,A!,te!,_,A!,z,A!,W!,A!,_,A!,?_];rw[ZA,Td,hL,show Av! (Cf! EN!==ra!) from NY _];show PT?;show L5? ra! 1 C0! c2;show PT?;show L5? (bi 9) ra! EM! c3;show e?;have#[c,r,e]:=KO (l:=Hh!) (λq=>by rw[q] at hL;simp at hL;show M? c2 (gU! hL.symm));show#[_,A!,z,0,c,A!,A!,W!,Gw (AJ 0) (d8!),A!,_,A!,?_];show Gf (cq!) (cq!);(·(have hc:c=48:=by have:=BN q;injection this with this;have:=Cx! (λy:Str=>y.cps.toList) this;show List.head_eq_of_cons_eq this);show S?;rw[AM (show AT! z=AT! "0" by rw[<-c4 (FZ! e hc)])];show Cq #[_,A!,z,A!,d0,c2,c3,Wo!]);.show Cq #[_,A!,z,A!,d0,c2,c3,Wo!]
open E
open S
def Jqa{z:Str}{a:FX.Arg}(h:z! Lw z a):a9 λx y i j=>vz!=[x,y]/\CF! Ij i/\S7! Ij j/\a=.t i j:=by unfold Lw at h;match e:vz!,h with | [x,y],h =>have#[i,e1,h]:=JD7;have#[j,e2,rfl]:=JO! h;show#[x,y,i,j,A!,e1,e2,A!]
inductive Lq(vs:C!)(H:Hp)(Q:VK)(E:XK):B!
 | mk (b:Bool) (z:Str) (a:FX.Arg) (_:vs=[QV! fm b,II!]) (_:z.length<=1000) (_:Lv b z=D! a) (_:∀v H',TD->OO H' v a->T1!)
def VO:Mn! ["form",Hw!,"parts"] "form" Hw! K1:={}
def Jny{f f1:Addr}{fd d1:FuncData}(F:Z! kW! kW! K1)(T:uT)(M1:JfS):Ma! JVx Lq:=by show Cp? [Hw!] Jhz (Jql Oh! T);show E? VO;have#[b,z,a,rfl,hz,ra,k]:=h;show A?;show Z? (Ac (TR! (Zp! SC) (TI! G1 hr M1.mg M1.fn.kp CY! Kp!)) (Zz! 2 VO.nd JtN (WP! (ai! Xi JLu)) (U5! (FT! JUy JUy))));show l?;show S?;cases b with | true =>have#[i,e,rfl]:=JO! (show z! (Ij z).map FX.Arg.n a from ra);rw[AM (show JhS AC from rfl)];show C4 #[_,A!,z,i,A!,e,λH' s1=>k _ H' s1 A!] | false =>have#[x,y,i,j,e,e1,e2,rfl]:=Jqa (show z! Lw z a from ra);rw[AN (FA! (¬JhS IR) (λq=>DL! kC! q ZV))];show Cq #[AT? A! _ _ A! A! W! Fy!];rw[e];show Lz? [x,y].map;show#[AT? _ _ A! te! _ A! ?_];rw[ZA,Td];show Cq #[D0? l _ Mm! A! x i e1 (λH' s2=>?_)];show#[D0? l _ (TS! s2 Ab) A! y j e2 (λH2 s3=>lL! D0!)];have s4:=G2! (AM! i) (AM! j) ht;show KM k (Af s1 (G7! s2 s3 s4)) #[t,A!,Ab]
inductive Xf(vs:C!)(H:Hp)(Q:VK)(E:XK):B!
 | mk (v:Str) (l:Addr) (ws:j!) (as:Vy!) (_:vs=[bn v,IR!]) (_:u2!) (_:∀y∈ws,JDE) (_:Jap v ws=D! as) (_:∀r xs H',pD! (Qs! Tu!) (JYb H') r)
def UD:Mn! [Sa!,Hv!,"forms"] Sa! Hv! Lu:={}
def Jkq{f f1 f2:Addr}{fd d1 d2:FuncData}(F:Z! Y8! Y8! Lu)(T:uT)(D:Jzp)(M1:JfS)(M2:JoX f2 d2) : bo! JVw Xf:=by have G2:pd! JVx Lq:=Jny M2.fn T M1;show E? UD;have#[v,l,ws,as,rfl,hl,hw,ND,kQ]:=h;show A?;show H?;have#[kvs,dk,pf]:=D.at_;show Bh? UD.nd (Jxg hu A! D.mg dk SC KE!) (Wr! (WP! (r_ (vk (F2 (J4j (pv 2))) (T8 (JNF JLu))))) (Jxj (te:=Jag) (AJ!:=[]) A! (J4d A! T.zip (bj! EQ)) A! ZV A! ZV A! A! A3! ls! A3! ZV TX! (Gk! (Ca G2 hr J5! M2.mg M2.fn.kp GU! a! A9 (Tn! EQ)))));show#[_,A!,E5! v,A!,?_];unfold Jap at ND;cases e:Ym! v with | none=>rw[e] at ND;cases ND | some fs =>rw[e] at ND;have ND:(JV9)=D! as:=ND;show C? (ws.length=fs.length);(.rw[BZ!] at ND;have#[t,e1,sq]:=Jsw pf e;rw[e1];show Ca? (Cq #[v? l,_,A!,PV! hl,_,A!,t,_,A!,IN (sq _),A!,_,A!,?_]);rw[ZA,ZA,Td,show Av! (bi ws.length==bi fs.length) by rw[c];simp];show Cq #[_,A!,_,A!,t,l,_,_,A!,sq _,r5!,DP!];show Jy7 (te:=Jag) (AJ!:=[]) (OZ! (Ei!/\Gr!/\∃as,JMx/\Tc! OO H2 ys as/\ku!)) #[Ah hp,Ab,[],A!,a!,A!] (by rw[ZA,ZA,c]) (bA! #[sq _,JHB hl,Pc!]) ?_ ?_;(.rintro i x z ys H2 T0 N hx hz ⟨s1,JA,PU,ra,pa,yl⟩ hT hN;rw[ZH] at hx hz;have#[f0,hf0,rfl]:=tA!;have#[w0,hw0,rfl]:=JO! hz;have sT:=G2! (AT! (fm f0)) (AT! w0) hT;cases e2:hb! with | none =>rw[Jh6 i ZM! hf0 hw0 e2] at ND;cases ND | some a =>show#[_,A!,_,A!,f0,w0,a,A!,Fp! hw w0 hw0,e2,λu H' s2 ha=>?_];have s3:=Af sT s2;have UE:=HE! JA;have zf:i<fs.length:=DH! hf0;have zf3:h5! 3:=(Jsu e).2.2;show#[UE,C5 (JS2 (AA (AE (BQ yl) zf) zf3)),Em! #[λb o hb=>?_,Ab,PU++[a],Jbz i ra hf0 hw0 e2,Fa (ha.put UE) (Ax (λ_ _ h=>(h.same s3).put UE) pa),JMM]];rw[Ae (Am hb hp)];show Ch! s3 s1 hb);.rintro ys H2 ⟨s1,JA,PU,ra,pa,yl⟩;rw[ZA] at ra;rw[IB (ZG _),IB ((BQ c)),ND] at ra;cases ra;show kQ p ys H2 s1 JA pa);.rw[Ez!] at ND;cases ND
open E
open S
inductive F5(vs:C!)(H:Hp)(Q:VK)(E:XK):B!
 | mk (a:Addr) (t:T2) (_:WT!) (_:u8!) (_:cC!) (_:cD!) (_:JHm QE0)
def Jtw:RB! CX! CX! Ng:={}
abbrev Rq:TE:=tCB (λxs H Q=>W8! Gz\/W8! Pr) UH!
def Jb9{f:Addr}{fd:FuncData}(F:Z! kX! kX! Ng)(T:uT):tI! CX! F5:=by
 show E? Jtw;have#[a,t,rfl,ha,z1,z2,k]:=h;show A?;show P5? (Wc! 0);show#[A!,_,A!,a,A!,#[_,ha],DP!];show l?;show Fa? Pd Rq (Jg0 JAM m2!) DQ! (JCc (E7 (Ah hp) ha));.show Rd?;show f?;(have key:∀j:KE,x=AM! j->Sm j->(JAM xL).map (m2!)=wV!++[AT! (EZ j)] -> Rq [D! x] (Zh! JXl) λv H5=>S4! H5 JXl/\rK! (([AV!,A7!]:q!).take i).map m2!/\N (wV!++[v]) (Zj! H5 (wV!++[v])):=λj e z e2=>by subst e;show L? (h! #[j,A!,Dj z,Ab,?_,?_]);(.show LO?);.rw[Hh];show Em! HF!;rw[e2];rfl);match i,hx with | 0,hx=>show Ng? AV! z1 | 1,hx=>show Ng? A7! z2 | i+2,hx=>simp at hx
 .show FN?;have l1:=Dg AV! z1;have l2:=Dg A7! z2;show QT? "." gO! (Ah hp);show Fw? ".";show Re?;show By? (JG2 (MT l1 l2))
open E
open S
inductive Lo(vs:C!)(H:Hp)(Q:VK)(E:XK):B!
 | mk (a:Addr) (n h g:Int) (kd:Str) (x:V) (_:WT!) (_:bl! [IO!,bn kd,Gh!,g! g,x]) (_:Sm n) (_:Sm h) (_:Sm g) (_:kd.length<=10) (_:nD! (Jvm n kd h g))
def Jp3:RB! Hu! Hu! Ku:={}
def Jnp{f:Addr}{fd:FuncData}(F:Z! kY! kY! Ku)(T:uT):tI! Hu! Lo:=by
 show E? Jp3;have#[a,n,h,g,kd,x,rfl,ha,z1,z2,z3,z4,k]:=h;show A?;show P5? (JiV Jkk xe!);show l?;show#[A!,_,A!,_,A!,a,_,A!,ha,mh! (¬(JQ! 5 0 SB=0/\JQ! 5 5 (AC! 4)=5)),A8! #[q,A!,JEe,DP!]];show Cb? ny! hq;have kK:IW! q QCr q QCr:=Ab;change lW! Go! [] (Zj! JPs []) _;have hp:EX! JPs p:=hp;generalize VB! q ny!=H1 at s1 kK hp;show Pd (xs:=ny!) (tt:=PR!) (te:=Rq) (AJ!:=[]) (OZ! (H2=G0! H1 p ys/\ys=ll! QBw i)) DQ! (bA! (by rw[pi];show#[FF! (Ah hp _ _ kK),Ab])) ?_ ?_;.show Rd?;show f?;(have nx:∀z:Ag!,ll! QBw xL=wi!++[AT! z]->S4! JLq (ma! QDc)/\rK! QDc AT!/\N (wi!++[AT! z]) (Zj! JLq (wi!++[AT! z])):=λz e=>by show#[Ab,?_,?_];(.show LO?);.rw[Hh];show Em! HF!;rw[e]);match i,hx,nx with | 0,hx,nx=>show ET? n z1 | 1,hx,nx=>show Ch? hx (x! #[kd,A!,nx _ A!]) | 2,hx,nx=>show ET? h z2 | 3,hx,nx=>show ET? g z3 | i+4,hx,_=>simp at hx
 .show FN?;have l1:=Dg n z1;have l2:=Dg h z2;have l3:=Dg g z3;show QT? ":" [EZ n,kd,EZ h,EZ g] (Af s1 (Ah hp));show Fw? ":";show Re?;lia
inductive Nd(vs:C!)(H:Hp)(Q:VK)(E:XK):B!
 | mk (l:Addr) (ws:j!) (_:sp!) (_:u2!) (_:JDF) (_:JDD) (_:Q JZR H)
def Jwj:RB! Hv! Hv! O2:={}
def Wa{f:Addr}{fd:FuncData}(F:Z! kZ! kZ! O2):yV! f fd:=by show E? Jwj;have#[l,ws,rfl,hl,z1,z2,k]:=h;show A?;show AS? (Jb3 (Jng SC (by intro _;rfl)) JuW Ap);show#[_,A!,!(ws.map AT!).isEmpty,h! (El! r5!),?_];cases ws with | nil=>show Cq k | cons w r =>show C4 #[A!,_,A!,Bl!,l,w::r,A!,A!,r5!,?_,k];have e:=L_ (B:=100) (w::r) z2;show Fw? Bl!;show K?;show QC? (w::r);lia
inductive Ox(vs:C!)(H:Hp)(Q:VK)(E:XK):B!
 | mk (a:Addr) (xs:C!) (ts:F!) (_:WT!) (_:DT!\/DU!) (_:JQE) (_:dE!) (_:JCN) (_:W7! Ho!)
def Jty:RB! EQ! EQ! Nl:={}
def Jl6{t:T2}(h1:cC!)(h2:cD!):Fn! A7 t 100:=by have l1:=Dg AV! h1;have l2:=Dg A7! h2;unfold A7;have:=JV "." gO!;have q:mM! ".":=rfl;show Rf?;lia
def Jqm{f f1 f2:Addr}{fd d1 d2:FuncData}(F:Z! ka! ka! Nl)(T:uT)(M1:JiB f1 d1)(M2:hx! f2 d2):Ma! cy! Ox:=by
 show Cp? [CX!] F5 (Jb9 Oh! T);have G2:yV! f2 d2:=Wa M2.fn;show E? Jty;have#[a,xs,ts,rfl,ha,pt,z1,z2,k]:=h;show A?;show AS? (Ca G2 hr A! M2.mg M2.fn.kp GU! a! A9 (QBk (Pn (F5) [] E0 UH!) (J4f (pv 0)) G1 hr A! M1.mg M1.fn.kp CY!));show A7? pt;show l?;have step:∀(p:Addr),G1!->∀i x ys (H2:Hp) (N:Go!),PP!->(Ei!/\Gr!/\pn!)->(∀ys H2,Jhi xL (N ys H2)) -> Pn (F5) [] E0 UH! [D! x] H2 a0!:=by rintro p hp i x ys H2 N hx ⟨s1,JA,rfl⟩ hN;have#[z,_]:=ZJ hx;have#[t,ht]:=cJ! ts (hl▸z);have#[b,rfl,sb]:=A6 pt i x t hx ht;have#[y1,y2]:=pg! z2;show#[_,A!,b,t,A!,E7 s1 sb,y1,y2,λH' s2=>Jem (P! s2 JA)];(.show Bp?;lia);(.show GY? hp s2 s1);.rw[CK,ht];simp
 have fin:∀(p:Addr) ys (H2:Hp),Jhi Hd! (Nd [An! p] H2 Q E0):=by rintro p ys H2 ⟨s1,JA,rfl⟩;rw[IB ((BQ hl.symm))] at JA;show#[p,Ho! A7,A!,JA,Fj! z1,Io!,Wo!];have#[t,ht,rfl]:=NK!;show Jl6 (z2 t ht).1 (z2 t ht).2
 show Gc? a;obtain ha|ha:=ha;.show l! #[#[_,ha],DP!];show JxK Fo (h.1.seq ha)
 .show h? #[#[_,ha],DP!];show JxK Pd (E7 pi ha)
open E
structure FE(H:Hp)(p pw:Addr)(W:EF):B! where
 ob:JWI
 wo:Jha C
open S
def FE.ne{H:Hp}{p pw:Addr}{W:EF}(x:CB!):p∉Cy pw W:=let#[_,e]:=x.ob;x.wo.tU e
def FE.same{H H':Hp}{p pw:Addr}{W:EF}(x:CB!)(s:TD):FE H' p pw W:=#[Kn! Q2!,x.wo.same s]
def D7{v:V}:bi! JZO SZ! v:=A!
def Jpd{v:V}{m:Str}(h:¬m=SZ!):UR! JZO:=FZ! IE (YK! h)
inductive Jr1(vs:C!)(H:Hp)(Q:VK)(E:XK):B!
 | mk (p dx:Addr) (m sh:Int) (_:JZi) (_:np! []) (_:0<=m) (_:Fx!) (_:∀(pw:Addr)(W:EF)(H':Hp),FE H' p pw W->W.share=sh->W.c=0->Vw!->W.MY=[]->W.IF=[]->W.G_=[]->JyA->zF!->(mx! H')->KQ!)
def J0c:JXr Jkc:={}
def Jxu{f f1:Addr}{fd d1:FuncData}(F:WD! kV! Jkc)(TK:z9)(TW:He)(Mm:L2.Mk K CW f1)(b1:tf! d1)(G1:ET 3 f1 d1 Ts! (Jbb)):ET 5 f fd Ts! (Jr1):=by
 show E? J0c;have#[p,dx,m,sh,rfl,hp,m0,m1,k]:=h;show A?;show Z? (Ag (Eo SC (R7 Mm G1 QEk J5! TW.pN b1 a! A9 (ml! FM)) A!));show Ca? (JyB #[x,zY,[],m,sh,A!,Ab,m0,m1,ci,(SZ (Fa! hb)),λW H' S e1 e2 e3 e4 e5 e55 e6 e7 kp _=>HF!]);have k0:∀b u,Tj!->TJ! H':=λb u e=>kp b u (QC! (PU! nx) (PU! pL) e) (Am e nx);have WN:=P! k0 hp;have pn:p∉Cy x W:=λhb=>by show BP?;(.show CM?;show CN?;(.show Am hp nx A!);(.have e:=S.hs;rw[WN] at e;cases e);(.have#[dx,e]:=S.po.ob;rw[WN,R6] at e;show M? (HO.ins.inj (ZO e)).2.2 (QBC));(.have e:=S.po.dc;rw[WN] at e;cases e);(.have e:=S.iq;rw[WN] at e;cases e);(.have e:=S.fi;rw[WN] at e;cases e);.have e:=S.en;rw[WN] at e;cases e);.show Cx?;show E6?;(.have#[dx,e]:=(S.ho q hq).ob;rw[WN] at e;show M? (HO.ins.inj (ZO e)).2.2 (by intro z;unfold Df at z;cases z));.have#[kvs,e]:=(S.ho q hq).NA hb;rw[WN] at e;cases e
 show Pk? CD WN Sx! TK.nW;show k x W _ #[Gw! Ab,S.keep (Bh! ?_)] e1 e2 e3 e4 e5 e55 e6 e7 (Sd! ?_);.rw[PW! (nl! pn)];show e
 .rw[Ae hb];show k0 b u e
def Ii{vs:C!}{H:Hp}{Q Q':VK}{E:XK}(h:PG! E8)(m:ys!):xo! E8:=by have#[p,h,W,e,S,k]:=h;show#[p,h,W,e,S,k.imp id ?_];rintro⟨q,G,i,p',G',hs,os,rs,e1,e2,e3,e4,e5,e6,e7,e8,e9,e10,k⟩;show#[q,G,i,p',G',hs,os,rs,e1,e2,e3,e4,e5,e6,e7,e8,e9,e10,λx H' s t=>P! m (k x H' s t)]
inductive Jr2(vs:C!)(H:Hp)(Q:VK)(E:XK):B!
 | mk (p pw a:Addr) (W:EF) (ta:T2) (_:JGS) (_:CB!) (_:G5!)
   (_:E8 [FS pw,g! ta.1] H (λv H'=>M_ λhs os rs=>TD/\Ik! HC pz!/\(∀r∈os,dG!->∀x xs,W3! x->Cd! (de K H') xs DF!->IN!)/\((∀r∈os,AT≠ta)->nG! MI)) E0)
def RY:Ap! [Bm!,"a",CX!,"out",Sh!] [Bm!,"a"] T3:={}
def Jue{f f1:Addr}{fd d1:FuncData}(F:Jhc)(T:Txt)(TK:z9)(TW:He)(M1:yn!)(G1:yl!):JNR Jr2:=by
 show H8?;have#[p,pw,a,W,ta,rfl,S,ha,k]:=h;show A?;show B?;show AH?;show Z? (Ac (PS.t_ (wj! (S6! Aa! wE Dp! G1 hr CY! J6v ND!) (sx! RY.nd) (eO! RY.nd) (eP! RY.nd) Jhm)) (Ag (G8 A! A! T.cMI Hj)));show#[_,A!,p,CD,dx,_,_,A!,hp,Sx!,TK.nW,D7,R1? pw RP RO Ff! a rw!];show Gh?;show Rg?;show Hp?;have#[c,bs,rfl,sc,pc]:=uR r2;show A7? pc;rw[ZA] at hl;show Ot? ?_;show Mb (K:=K) (a:=c) (xs:=bs) (λj σ H2=>H2=H1/\vw! (JDG CM!)/\∀r∈Se! j,AT≠ta) #[A!,g1!,ci] (rL! sc) ?_ (λσ H2 h=>?_);.rintro j v σ H2 hj ⟨rfl,⟨u1,u2,u3,rfl⟩,no⟩;have#[zj,_]:=ZJ hj;have#[r,J']:=s8! os (hl▸zj);have#[a',ys,rfl,sa,pr]:=uR (fm! pc (yB r) (Ui! J'));(obtain⟨y1,y2,y3,rfl,q1,q3⟩:M_ λy1 y2 y3=>ys=[y1,y2,y3]/\fM! y1 (OM AT)/\fM! y3 (JR! (co! OM)):=by cases pr with|cons z1 pr=>cases pr with|cons z2 pr=>cases pr with|cons z3 pr=>cases pr;show#[_,_,_,A!,z1,z3]);show FR? a' sa;show MM? (.one q1) (wP s1 ha);rw[Jjk];show GR?;(.have c:dG!:=BN c;have#[x,xs,rfl,sx,px]:=uR q3;show L? (kQ r (ZP J') c x xs sx (Jke px)));·show Gd? (¬dG!);show#[A!,g1!,λr' hm=>?_];rw[CK,J',OR] at hm;obtain hm|hm:=hm;(.show no r' hm);·(have:r'=r:=by simpa using hm);show K?;show c
 .show Rh?;show kE Jl4
open E
def J0n{X:E!}{tg iter:Expr}{body:QU!}{pos:Pos}{te:TE}(he:Bo! iter te)(hs:JrL:=by show Aa?):JrD (λ_ σ H=>FW! te JH!):=by show V?;show JY? he (λv s1 h1=>?_);have#[_,_,_,_,f]:=h1;show f.elim
inductive Jmp(vs:C!)(H:Hp)(Q:VK)(E:XK):B!
 | mk (p pw a:Addr) (W:EF) (ta:T2) (_:JGS) (_:CB!) (_:G5!) (_:Xa W ta.1) (_:eT!)
def Jqn{f f1:Addr}{fd d1:FuncData}(F:Jhc)(TK:z9)(TW:He)(M1:yn!)(G1:yl!):JNR Jmp:=by show H8?;have#[p,pw,a,W,ta,rfl,S,ha,o,k]:=h;show A?;show B?;show AH?;show Z? (Ac (J0n (L3! (Jeo wE hr DG!))) Fk);show#[_,A!,p,CD,dx,_,_,A!,hp,Sx!,TK.nW,D7,pw,RP,_,A!,RO,O1? rw! pw ta.1 S.wo f5!]
abbrev Jmo:Sp:=cg! Jr2 Jmp
def Jy2{vs:C!}{H:Hp}{Q Q':VK}{E:XK}(k:PG! Jmo)(m:ys!):xo! Jmo:=by
 obtain k|k:=k;.have#[p,pw,a,W,ta,e,S,ha,k]:=k;show l! #[p,pw,a,W,ta,e,S,ha,Ii k nz!];show Rg?;show#[hs,os,rs,s1,rep,λr hr er x xs sx px=>P! m (kQ r hr er x xs sx px),kE]
 .have#[p,pw,a,W,ta,e,S,ha,o,k]:=k;show x! #[p,pw,a,W,ta,e,S,ha,o,k]
def J30:JSO Oy:={}
inductive Pw(vs:C!)(H:Hp)(Q:VK)(E:XK):B!
 | mk (p:Addr) (n:Int) (W:EF) (_:Qv!) (_:wn) (_:((∀l∈W.MY,As!≠n)/\JGm)\/((∃l∈W.MY,Pa!)/\∀(x y:Addr)(b:Bool)(H':Hp),TD->Tb! JZC->((JLP=none/\S7! H' (WP []))\/JLP=D! ad!)->IN!))
def Jto{vs:C!}{H:Hp}{Q Q':VK}{E:XK}(k:PG! Pw)(m:ys!):xo! Pw:=by
 have#[p,n,W,e,S,k]:=k;show#[p,n,W,e,S,?_];obtain k|⟨k1,k⟩:=k;show AB?
 .show G? #[k1,λx y b H' s ex z=>P! m (k x y b H' s ex z)]
def J40(ls:X!)(n:Int):qF!\/JDH:=by rw[Ir];cases q:j9! Vp! with | none=>show F? A! | some v=>show G? BT!
def J1o{ls:X!}{n:Int}(h:∃l∈ls,Pa!):JDH:=by have#[l,hl,e]:=h;rw[Ir];cases q:j9! Vp! with | none=>show M? e (by simpa using BR.mp q l hl) | some v=>show#[_,A!]
def J7l(g:GG):JTF Ml Mt:=by
 show AR? g.sZ.fn J30;have#[p,n,W,rfl,S,k]:=h;show A?;show H?;show B?;show IO? (hV! g.cNI) (lo! (F2 (Fl hu EQ Aa!)) (FT! K8 (Ce Ad))) (FT! K8 Ng!);show F6? CW Ge! g.TW.nI (Tp W) B3! (QDo S.iq);obtain⟨h1,k⟩|⟨h1,k⟩:=k;.rw[Jya h1];show C4 k
 have#[y1,e1]:=J1o h1;rw[e1];show Cq #[Rz? CW hp Ge! g.TW.nF (Ja0 W) Dm! JQW];obtain e2|⟨y,e2⟩:=J40 W.IF n;.rw[e2];show C4 (JDo 0 (He! #[aY!,Ie!]));show Cb? [] he;have s2:=G2! (AI! IR) (FS e) hx;show k x e IR _ (λb o z=>Ch! s2 s1 z) Ab (DC! #[e2,t9!])
 .rw[e2];show Cq #[o?,NJ? CW dx hp Ge! g.TW.nF (Ja0 W) Dm! (JEm JQW) Ie!];show k x y AC _ (Ah hx) Ab (Eg! e2)
def uY{x y:Str}(e:x=y):zQ!:=JXN
def K9{x y:Str}(e:¬x=y):qE!:=JOb
abbrev Tl(ts:F!):B!:=dE!/\JCN
open S
abbrev iE(l:qd!):Ag!:=Jvm As! l.2.1 dc! dQ!
abbrev J76(K:W.Frag)(H:Hp)(y:Lm!)(l:qd!):B!:=∃x,Ia! Bi! [g! As!,bn l.2.1,g! dc!,g! dQ!,x]
abbrev Re(ls:tN!):B!:=ls.length<=5000/\OS! (Sm As!/\Sm dc!/\Sm dQ!/\l.2.1.length<=10)
inductive Jpx(vs:C!)(H:Hp)(Q:VK)(E:XK):B!
 | hand (p pw r:Addr) (W:EF) (h:Int) (_:DZ! A4!) (_:CB!) (_:XI!)
   (_:Jpn (Tl hs) Lj!)
 | things (p pw r:Addr) (W:EF) (h:Int) (_:DZ! EQ!) (_:CB!) (_:XI!)
   (_:Jpn (Tl (Dj! EG!)) fE!)
 | holds (p r a:Addr) (_:DZ! am) (_:HN λdx fs=>np! fs/\EX! fs.lookup ("held_by":Ag!)) (_:mB! Fl!)
   (_:Jmo [Cc!,BQ!] H (λv H'=>M_ λx xs ts=>v=Ko!/\W3! x/\JQD/\Tl ts/\JbZ) E)
 | found (p pw r:Addr) (W:EF) (n:Int) (_:DZ! Dh!) (_:CB!) (_:JMR)
   (_:JZw Pw (sQ λx b y xs ts=>v=Ko!/\Tb! (WP [b,FS y])/\W3! y/\JQD/\Tl ts/\JbZ))
 | post (p pw r:Addr) (W:EF) (ls:tN!) (_:DZ! Ah!) (_:CB!) (_:WA! J76 FJ! ls) (_:Re ls) (_:QEE (Dm (Hr! iE)))
def J32:xn! Jj9:={}
abbrev yJ(K:W.Frag):TE:=V_ (uV K) (Cz 0) mw!
def J03{f f1 f2 f3 f4 f5 f6 f7:Addr}{fd d1 d2 d3 d4 d5 d6 d7:FuncData}(F:Z! "look" "Desk.look" Jj9)(T:Txt)(TR:uT)(TK:z9)(TW:He)(M1:yn!)(G1:yl!)(M2:B4! CD "held_by" "Desk.held_by" T3 [Bm!,"a"] f2 d2)(G2:JaA f2 d2)(M3:B4! CW "inquiry" "World.inquiry" Oy KJ! f3 d3)(G3:JTF f3 d3)(M4:B4! CW "letters" JXM Kv BD! f4 d4)(G4:ET 2 f4 d4 BD! (Lp))(M5:JiD f5 d5)(G5:ET 2 f5 d5 cy! (Ox))(M6:hx! f6 d6)(M7:JiC f7 d7) : KL! 5 aI! Jpx:=by have G4':P0! f4 d4 BD! Lp:=Kz! G4;have yS:P0! f5 d5 cy! Ox:=Kz! G5;have G6:GQ 1 f6 d6 [Hv!] Nd:=kd! (Wa M6.fn);have G7:Gj! f7 d7 [Hu!] Lo:=Jnp M7.fn TR;show d? J32;show#[by cases h<;>(rename_i e _ _;subst_vars;rfl),λER A outer s hr=>?_];show P?;show AM?;show AN?;show Je? (JTv Dp! G1 TX CY!) (QFg (DA! (JzZ (yJ K) (P4! (QAE wE Dp! G1 TX CY! TQ!)) iM!))) (QFg (DA! (S6! SC Sx! Jn! G2 hr GU! Ci (DA! TQ!)))) (JTv M3.mt G3 HJ M3.bd) G6 M6.mg M6.fn.kp M6.bd (QBk JOq (Em (D4 (pl:=_) Aa! wE M4.mt G4' NF M4.bd a! Ci)) G7 HJ A! M7.mg M7.fn.kp M7.bd);show l?;cases h with | hand p pw r W h e S PR k =>subst e;show B?;show AH?;show S?;show Ac?;show EL?;show Gh?;show Ri?;have#[b,x1,x2,x3,rfl,sb,r1,_,_]:=Jp8 rep;have#[c,cs,rfl,sc,pc]:=uR r1;show#[b,_,0,_,A!,A!,sb,A!,c,cs,hs,A!,x! sc,Jke pc,FR!,FS!,QFY kq] | things p pw r W h e S PR k =>subst e;show B?;show AH?;show S?;show T?;show Q?;show Ac?;show EL?;show Gh?;show Ri?;show Hp?;have#[c,cs,rfl,sc,pc]:=uR r2;show A7? pc;rw[ZA] at hl;have sm1:=FR!;rw[ZA] at sm1;show Ot? Ba!;show Fa? Pd (yJ K) (OZ! (H2=G0! H1 q ys/\TZ! (de K H1) ys JHP EG!/\ku!)) JK6 (JCc (E7 (Ah hq) sc));(.rintro i x ys H2 N hx ⟨rfl,pys,yl⟩ hN;have#[zi,_]:=ZJ hx;have#[rr,JBJ]:=cJ! os (hl▸zi);have#[a',EA,rfl,sa,pr]:=uR (A6 pc i x (yB rr) hx (Ui! JBJ));(obtain⟨y1,y2,rfl,q1⟩:HN λy1 y2=>EA=y1::y2/\HC K H1 y1 (OM rr.1):=by cases pr with|cons z1 pr=>show#[_,_,A!,z1]);show C4 #[_,A!,a',_,0,y1,A!,A!,E7 (Ah hq) sa,QFZ,Ab,W!,?_];rw[Hh];show Em! #[A!,?_,JMM];rw[CK,JBJ,ZF];show Fa q1.th pys);.rintro ys H2 ⟨rfl,pys,yl⟩;rw[hl,BS] at pys;show#[q,ys,ri!,A!,te!,s3! (Sy! (Ah hq)) pys,FR!,FS!,λH2 s2=>kq H2 (G7! s1 (Ah hq) s2)] | holds p r a e zB PR k =>subst e;have#[dx,fs,hp,pV]:=zB;show S?;show T?;show Q?;show T?;show Q?;show Ac?;show C4 #[U?,R1? p dx hp pV r TT!];show Jy2 k nz!;have#[x,xs,ts,rfl,sx,px,sm,kq]:=z;show#[x,xs,ts,A!,x! sx,px,FR!,FS!,kq] | found p pw r W n e S PR k =>subst e;show B?;show AH?;show S?;show T?;show Q?;show T?;show Q?;show T?;show Q?;show Ac?;show EL?;show Jto k nz!;have#[x,b,y,xs,ts,rfl,ex,sy,py,sm,kq]:=z;show#[x,_,1,_,A!,A!,IE!,A!,y,xs,ts,A!,x! sy,py,FR!,FS!,kq] | post p pw r W ls e S pl sm kq =>subst e;show B?;show AH?;show S?;show T?;show Q?;show T?;show Q?;show T?;show Q?;show T?;show Cq #[Ci? CD dx,_,A!,hp,Sx!,TK.nW,D7,pw,RP,_,A!,RO,Ff!,pw,W,A!,S.wo,λl H1 hl h1 s1=>?_];have len:=AA! pl;have sm1:=FR!;show#[l,A!,aT! h1,Ba!];show Fa? Fo JOq (OZ! (RG!/\QDS q/\QAu ls.take iE)) #[Ah hq,Ab,A!] (λi ys H2 _ h=>JOH h1 Pc!);(.rintro i x ys H2 N hx ⟨s2,QO,rfl⟩ hN;show Ak?;have#[y,hy,rfl]:=tA!;have#[zi,_]:=ZJ hy;have#[le,hle]:=cJ! ls (len▸zi);have#[xx,sx]:=A6 pl i y le hy hle;show Ml? FS!;show C4 #[U?,Bi!,J2!,Mj!,M8!,bB!,xx,A!,E7 vD! sx,b1,b2,b3,b4,λH' s3=>Jem (HE! QO)];(.show Bp?;lia);(.show GY? hq s3 s2);.rw[CK,hle,ZF,ZF];rfl);.rintro ys H2 ⟨s2,QO,rfl⟩;rw[ZA,len,BS] at QO;show#[q,Hr! iE,A!,QO,Fj! sm1,Io!,kq _ vD!];have#[le,hle,rfl]:=NK!;have#[b1,b2,b3,b4]:=FS! le hle;have l1:=Dg J2! b1;have l2:=Dg Mj! b2;have l3:=Dg M8! b3;unfold iE Jvm;have:=JV ":" [EZ J2!,bB!,EZ Mj!,EZ M8!];have q:mM! ":":=rfl;show Rf?;lia
open E
def Jo3{CX:gm}{k:Nat}{f:Addr}{fd:FuncData}{ps:j!}{a b:Sp}(F:xL! a)(G:xL! b):xL! (cg! a b) :=#[λvs H Q E h=>Ld! (PG! N6!) (G.len vs H Q E),λA outer s H args us vs Q E hr e bd rv h=>Ld! (JxM N7!) (JxM G.run)]
def gHs(g:GG):GQ 1 oA mR Gg! E9:=Ez g.U_.fn AX! BB!
inductive Jrz(vs:C!)(H:Hp)(Q:VK)(E:XK):B!
 | mk (p:Addr) (h:Int) (W:EF) (_:Qu!) (_:wn) (_:Xa W h) (_:eT!)
inductive J2q(vs:C!)(H:Hp)(Q:VK)(E:XK):B!
 | mk (p:Addr) (h t:Int) (b:V) (W:EF) (_:vs=[Cc!,Gh!,g! t,b]) (_:wn) (_:Xa W h\/(HN λq G=>Bt!)/\Xa W t) (_:eT!)
inductive J2r(vs:C!)(H:Hp)(Q:VK)(E:XK):B!
 | mk (p:Addr) (n:Int) (W:EF) (_:Qv!) (_:wn) (_:ZV! (As!≠n)) (_:JGl)
def J62(g:GG):ya! Jrz:=by show AR? g.hJ.fn b_;have#[p,h,W,rfl,S,o,k]:=h;show A?;show B?;show#[_,Ry? (Ac (Cg JsR) Fk) h S f5!]
def J4o(g:GG):h8! J2q:=by
 show AR? g.gx.fn RW;have#[p,h,t,b,W,rfl,S,o,k]:=h;show A?;show B?;show P?;show#[_,Ac (JyP 4 RW.nd (JzQ Ge! g.U_.mt (gHs g) g.U_.bd)) (JOz Ge! g.U_.mt (gHs g) g.U_.bd Fk),_,A!,p,dx,_,A!,hp,Ff!,_,A!,p,h,W,A!,S,?_];obtain o|⟨⟨q,G,i⟩,o⟩:=o;show w? #[o,k]
 show AK? #[LB? t f5!]
def J61(g:GG):QFR J2r:=by show AR? g.g_.fn MF;have#[p,n,W,rfl,S,o,k]:=h;show A?;show B?;show FG?;have G1:GQ 1 nY mE KJ! Jbe:=Jib g.mPT.fn Gd!;show#[_,Ac (QCt MF.nd (QAE g.TP.cl g.mPT.mt G1 QEk g.mPT.bd EQ)) Fk,_,A!,p,CW,dx,_,_,A!,hp,Ge!,g.TW.nP,Fh W,CE!,HX,_,A!,hq,MX!,_,A!,CE!,W.pd,W.c,FJ!,n,A!,S.po,Cj! o k]
def J1d(g:GG):JbS Jrz:=by show AR? g.hG.fn Jmr;have#[p,h,W,rfl,S,o,k]:=h;show A?;show B?;show#[_,Ag (Ao (Jt6 (pl:=_) SC Ge! g.si.mt (ml! (Jxe (pl:=_) JsR)))),_,A!,p,dx,_,A!,hp,Ff!,_,Jd? f5!]
abbrev Jal:Sp:=cg! Jam J2q
abbrev Jjp:Sp:=JNr Jjq
abbrev Rr:Sp:=JNr Ru
abbrev Jjo:Sp:=cg! Px J2r
def J7e(g:GG):h8! Jal:=yu! gSd J4o
def J7h(g:GG):ya! Jjp:=yu! gAs J62
def J7g(g:GG):JbS Rr:=Jo3 (pY! gWC) (J1d g)
def J7f(g:GG):JRN:=yu! gDl J61
def Qac(g:GG):GQ 4 Mn Mu JyW Ou:=JpB
def Qae(g:GG):JST Mp Mx Ow:=JpC
def Qab(g:GG):JST Mi Mr Oq:=JpD
def Qad(g:GG):GQ 3 Mo Mw U3! Ov:=JpE
def gDM(g:GG):GQ 2 jS i_ Gg! Ot:=JpF
def Dq(W:EF)(n:Str)(h:T! (([EP!,BM!,FC!,FD!,FE!,GK!,GL!,AU!,"deliver"]:j!).contains n)):EX! (Gk W).lookup n:=by simp only[QI,List.contains_nil,Bool.or_false,Bool.or_eq_true,NT] at h;obtain h|h|h|h|h|h|h|h|h:=h<;>(rw[h];show Ff!)
def M8{x y:Str}(e:x=y):zQ!:=JXN
def Gq{x y:Str}(e:¬x=y):qE!:=JOb
abbrev J58(t:TE):TE:=YB! (∃Q0:VK,FW! t Q0/\∀v H',Q0 v H'->T1!)
def Jsc{X:E!}{e:Expr}{t:TE}(h:el!):PE X e (J58 t):=λAB s σ H Q I #[Q0,h0,m]=>FF (h AB s σ H Q0 I h0) (SW! (by have#[x,H',I',r,q]:=h9;show#[x,H',I',r,P! m q])) λ_ _ z=>z
abbrev Jti(v:V)(H:Hp)(Q:VK):B!:=HN λ(l:Addr)(ns:List Int)=>v=IR!/\hW!/\JCP/\(rM!)/\QEE (Dm (Bj! EZ))
inductive Jv7(vs:C!)(H:Hp)(Q:VK)(E:XK):B!
 | hold (p pw r a b:Addr) (W:EF) (h:Int) (_:DZ! BM!) (_:CB!) (_:w5!) (_:us! Ou)
 | drop (p pw r a b:Addr) (W:EF) (h:Int) (_:DZ! FC!) (_:CB!) (_:w5!) (_:us! Ow)
 | take (p pw r a b:Addr) (W:EF) (h:Int) (_:DZ! FD!) (_:CB!) (_:w5!) (_:us! Oq)
 | free (p pw r b:Addr) (W:EF) (h:Int) (_:DZ! FE!) (_:CB!) (_:mB! [Gh!,Dv!]) (_:QAW Ov [FS pw,Gh!,Dv!])
def J31:xn! Jwl:={}
def gMo(g:GG):GQ 6 nX mC aI! Jv7:=by show AR? g.mMo.fn J31;show Jn?;show AN?;show Dn?;show Z? (Ag (Cb (Zp! EQ) (JHv g.gy.mt Qac pU g.gy.bd QFO) (JqD g.g7.mt Qae g.g7.bd (JqD g.gu.mt Qab g.gu.bd (JHv g.gz.mt Qad TX g.gz.bd (FT! TQ! TQ!))))));cases h with | hold p pw r a b W h e S PR k =>show PS?;show C4 #[ST?,RO,Ff!,_,A!,r,_,0,_,A!,A!,TT!,A!,_,A!,r,_,SH?] | drop p pw r a b W h e S PR k =>show Qv? | take p pw r a b W h e S PR k =>show KE?;show C4 #[ST?,RO,lf!,_,A!,r,_,0,_,A!,A!,TT!,A!,_,A!,r,_,SH?] | free p pw r b W h e S PR k =>subst e;show B?;show AH?;show S?;rw[Gq ZV];show Q?;rw[Gq ZV];show Q?;rw[Gq ZV];show Cq #[Ci? CD dx,_,A!,hp,g.TK.cl,g.TK.nW,D7,pw,RP,_,A!,RO,lf!,_,A!,r,_,0,_,A!,A!,TT!,A!,_,A!,r,_,1,_,A!,A!,TT!,A!,k]
inductive J2s(vs:C!)(H:Hp)(Q:VK)(E:XK):B!
 | make (p pw r:Addr) (W:EF) (h:Int) (_:DZ! EP!) (_:CB!) (_:XI!) (_:pl! Ot (F5 [v] H' Q E))
 | send (p pw r b:Addr) (W:EF) (h g:Int) (_:DZ! GK!) (_:CB!) (_:mB! [Gh!,g! g,Dv!]) (_:Jal (oz! (FS pw)) H (λv H'=>Gz [v] H' Q) E)
 | ask (p pw r:Addr) (W:EF) (h:Int) (_:DZ! AU!) (_:CB!) (_:XI!) (_:pl! Jjp (Gz [v] H' Q))
 | clean (p pw r:Addr) (W:EF) (h:Int) (_:DZ! GL!) (_:CB!) (_:XI!) (_:pl! Rr (Jti v H' Q))
 | HP (p pw r:Addr) (W:EF) (n:Int) (_:DZ! JT!) (_:CB!) (_:JMR) (_:JZw Jjo (Jti v H' Q))
def J6i:xn! J35:={}
def Jv2{H H':Hp}{l:Addr}{xs:C!}(s:TD)(h:DW K H l xs):ub! l:=by
 show Fg?;show An? (K6! s)
 show Fk? Q2!
 show AK? z
def Jid{p l:Addr}{H:Hp}{ns:q!}{σ:L2.St}{Q:EA!}(hp:G1!)(el:hW!)(z1:JCP)(z2:rM!)(k:∀H2,Ei!->bL! (ma! (Bj! EZ).map)->DK!) : Ew! (Eu! (Ep! (VA K l).stop DK! (VA K l).go (VA K l).SM (bd! xQ! H3 (Fv! (bd! Rq H4 IT!))))):=by
 show KF? l (Bj! A2!) Rq (QAu ns.take EZ) (Jv2 pi el);.rintro i x ys H2 N hx ⟨s2,rfl,e2⟩ hN;show Ak?;have#[n,hn,rfl]:=tA!;show C4 (Bp! (h! #[n,A!,Dj (z2 n (ZP hn)),e2,?_,QFP hp s2]));(.show Bp?;show Ek! D3);.rw[CK,hn,ZF,ZF];rfl
 .rintro ys H2 ⟨s2,rfl,e2⟩;rw[ZA,BS] at e2;show k H2 s2 e2
def J95(g:GG):ET 1 oB mS [CX!] F5:=Jb9 g.yq.fn g.TR
def J7t(g:GG):yV! nJ m6:=Wa g.rJ.fn
def Jcb{ns:q!}(z2:rM!):JAI (Bj! EZ):=GF! (by have#[n,hn,rfl]:=NK!;show Fh! (Dg n (z2 n hn)))
def gAt(g:GG):GQ 7 mW lQ aI! J2s:=by show AR? g.mAt.fn J6i;show Jn?;show P?;show AM?;show AN?;show Dn?;show Je? (JbY J95 g.yq.mg g.yq.fn.kp g.yq.bd (DA! (QE7 g.xH.mt gDM NF g.xH.bd))) (JL0 (S6! Aa! Ge! g.gx.mt (J7e g) pU g.gx.bd Ci QFO)) (JL0 (JRE g.hJ.mt J7h g.hJ.bd)) (JbY J7t g.rJ.mg g.rJ.fn.kp g.rJ.bd (JjF (JRE g.hG.mt J7g g.hG.bd))) (pY! J7t) g.rJ.mg g.rJ.fn.kp g.rJ.bd (JjF (QE7 g.g_.mt J7f hr g.g_.bd));cases h with | make p pw r W h e S PR k =>show PS?;show Ic? | send p pw r b W h t e S PR k =>show Qv? | ask p pw r W h e S PR k =>show KE?;show Ic? | clean p pw r W h e S PR k =>subst e;show B?;show AH?;show S?;rw[Gq ZV];show Q?;rw[Gq ZV];show Q?;rw[Gq ZV];show Q?;rw[M8 A!];show C4 JY1;show Rj?;show Qj? | HP p pw r W n e S PR k =>subst e;show B?;show AH?;show S?;rw[Gq ZV];show Q?;rw[Gq ZV];show Q?;rw[Gq ZV];show Q?;rw[Gq ZV];show Cq JY1;show Rj?;show Qj?
open E Lake.K52
open N Lake.FX
open PySem PySem.Spec PyProof.Rows L2
def Jrb:∀d,d<10->(JyD d).toNat=48+d:=Au!
def Juh(a:BF!)(c:Nat):Hk! (a++[c])=Hk! a*10+(c-48):=by unfold numOf;rw[RJ];rfl
def Jie:∀n:ut,Hk! (fr! Le!)=n:=λn=>by induction n using Nat.strongRecOn with | _ n ih =>show JK?;show C? (n<10);(.rw[AF c];change 0*10+(JVv-48)=n;rw[Jrb n c];lia);.rw[AD c,ZF];change Hk! (_++[(JyD (n % 10)).toNat])=n;rw[Juh,ih (n / 10) v!,Jrb _ (Nat.mod_lt _ FB)];lia
def Jyi:∀n:ut,(fr! Le!).head?=D! 48->n=0:=λn=>by induction n using Nat.strongRecOn with | _ n ih =>show JK?;show C? (n<10);(.rw[AF c];intro h;have h:JVv=48:=ZO h;rw[Jrb n c] at h;lia);.rw[AD c,ZF];intro h;have ne:(jX! 10 (n / 10)).map Le!≠[]:=Gs! JHA jY!;have#[a,r,e]:=KO ne;have:=ih (n / 10) v! (by rw[e];show x?;show h);lia
def Jlv{i:Int}(h:Sm i):tQ (EZ i):=Jpb pi (T4! A6! JSS)
def Jby{i:Int}(h:Sm i):z! Ij (EZ i) i:=by
 have d:=Jlv h;show HX? pi;have e:Vm! D1!=fr! Le!:=Ny n;have ok:T! (Jn1 (EZ D1!)):=by unfold Jn1;rw[OA.mpr d.d,AM d.l];(have l1:1<=Ki! D1!:=U! ER! (O0! d.n));rw[AM l1];show C? ((EZ D1!).cps.toList.head?=D! 48);(.have z:n=0:=Jyi n (QEM);subst z;rfl);.rw[AN c];rfl
 unfold Ij;rw[AF ok,e,Jie]
def Om{i:Int}(h:Sm i):32∉(EZ i).cps.toList/\46∉(EZ i).cps.toList:=(Jlv h).free
def Ri(t:T2):(A7 t).cps.toList=Vm! AV!++46::Vm! A7!:=Eh 46 (EZ AV!) (EZ A7!) []
def Jp9{t:T2}(h1:cC!)(h2:cD!):z! Lw (A7 t) (.t AV! A7!):=by
 have e:Hj! (A7 t) "."=gO!:=JaS 46 (F9! (by show DS?;(.show(Om h1).2);.rw[ZK hp];show(Om h2).2))
 unfold Lw;rw[e];change((Ij (EZ AV!)).bind λi=>(Ij (EZ A7!)).map JWA)=_;rw[Jby h1,Jby h2];rfl
abbrev Gj:Arg->Ag!
 | .n i=>EZ i
 | .t i j=>A7 RO!
abbrev sG:Arg->BH!
 | .n _=>true
 | .t _ _=>false
abbrev Xw:J7! Arg
 | .n i=>Sm i
 | .t i j=>Sm i/\Sm j
def J5q{a:Arg}(h:Xw a):Lv (sG a) (Gj a)=D! a:=by cases a with | n i=>change(La! (true=true) ((Ij (EZ i)).map Arg.n) _)=_;rw[BY!,Jby h];rfl | t i j=>change Tx! Ry! _ (Lw (A7 RO!))=_;rw[bM!,Jp9 (t:=RO!) pi A6!]
def Jze{a:Arg}(h:Xw a):32∉(Gj a).cps.toList:=by cases a with | n i=>show(Om h).1 | t i j =>change 32∉(A7 RO!).cps.toList;rw[Ri];intro z;obtain z|z:=ZI z;(.show(Om pi).1 z);.obtain z|z:=ZM z;(.cases z);.show(Om A6!).1 z
def Pf{a:Arg}(h:Xw a):Fn! Gj a 19:=by cases a with | n i=>show By? (Dg i h) | t i j =>change AZ! A7 RO!<=19;rw[ER!,Ri,ZE,BD,<-ER!,<-ER!];have h1:=Dg i pi;have h2:=Dg j A6!;change Ki! i+(Ki! j+1)<=19;show AE (MT h1 h2) FB
def Jna:∀{as:dT!},(dO!)->JpU=D! as
 | [],_=>rfl
 | a::as,h=>by change((Lv (sG a) (Gj a)).bind λb=>(Hy (Bd! sG) (Bd! Gj)).map λr=>b::r)=_;rw[J5q (h a Dw!),Jna (SZ (h b (Ec! hb)))];rfl
abbrev E3(v:Str)(as:dT!):Ag!:=Dg! Bl! (v::pG!)
def Jbw{v:Str}{as:dT!}(hl:JTQ)(h:dO!):Hj! (E3 v as) Bl!=v::pG!/\Jap v (Bd! Gj)=D! as/\Jh1 1000:=by
 have fr:=Jsu hl;show#[JaS 32 DP!,?_,?_];.show DS?;(.show fr.1);.have#[a,ha,rfl]:=ZN hp;show Jze (h a ha)
 .unfold Jap;rw[hl];change(if nU! Gj=nU! sG then JpU else none)=_;rw[AF (by rw[ZA,ZA]),Jna h]
 .show N2?;show Gb?;(have l3:lA! 3:=pC! fr.2.2 ZA);(show OJ? (GF! (by have#[a,ha,rfl]:=NK!;show Pf (h a ha))));show Rk?;have f2:=fr.2.1;show NP? l3;unfold E3;lia
open E Lake.FX
open N Lake.K52
open PySem L2 FX
def Jpe(xs:C!)(k:Nat):uU xs (AC! Ac!) SB=xs.drop k:=by
 unfold uU HT.KI;rw[IB];.by_cases h:k<=xs.length;(.congr 1;simp;show JiE h);.rw[JyE (by simp;lia),JyE (BU (Nat.not_le.mp h))]
 .rw[jL!];simp
abbrev WA:C!:=[bn BM!,bn FC!,bn FD!,bn FE!]
abbrev Y':C!:=[bn EP!,bn GK!,bn AU!,bn GL!,bn JT!]
inductive Nc(vs:C!)(H:Hp)(Q:VK)(E:XK):B!
 | mk (p:Addr) (v:Str) (as:Vy!) (_:Zn! (bn (E3 v as))) (_:JTQ) (_:dO!) (_:JXw)
   (_:∀r xs H1,K8!->NA! r Tu!->JYb H1->(Wn! v->Jv7 [Cc!,bn v,FS r] H1 (λ_ H'=>Q (wp "ok") H') E)/\(JJ9->RD! v->JNl J2s)/\(JJ9->Q6! v->JNl Jpx))
def gRw(g:GG):GQ 3 nq mI JVw Xf:=kd! (Jkq g.mRw.fn g.TR g.FK g.mRn g.mRd)
def Qaa(g:GG):ET 2 nG mz cy! Ox:=Jqm g.mLg.fn g.TR g.yq g.rJ
def gDh(g:GG):JaA oF lZ:=Jo3 (Jue g.mDh.fn AX! g.TK BB! g.RS (J1x g)) (Jqn g.mDh.fn g.TK BB! g.RS (J1x g))
def gLk(g:GG):GQ 5 nK m7 aI! Jpx:=J03 g.mLk.fn AX! g.TR g.TK BB! g.RS (J1x g) g.mDh (gDh g) g.sZ (J7l g) g.WG (zN g) g.mLg (Qaa g) g.rJ g.mWl
def dq:Ap! [Bm!,"row",Hv!,Sa!,"given"] QCq J33:={}
def gSy(g:GG):GQ 8 n6 mL QCq Nc:=by show AR? g.mSy.fn dq;have#[p,v,as,rfl,hl,ha,#[dx,x,hp],k]:=h;have#[es,ra,hz]:=Jbw hl ha;generalize E3 v as=z at es hz;show A?;show AN?;show Mv?;show Mw?;show Bh? dq.nd JtN (ar! 3 dq.nd TQ! 4 dq.nd (Ca (gRw g) TX A! g.mRw.mg g.mRw.fn.kp g.mRw.bd a! Ci (lh! (Jb2 Jz2 FM xe! Jkk))) (JLk (Jrj JUB) (Ac (Cg (JoL g.mMo.mt gMo hr6 g.mMo.bd)) (KB! Ap)) (TR! (Jrj (Aa Ap JUB)) (mc! SC g.TK.cl g.mAt.mt (gAt g) g.mAt.bd QDI)) (JoL g.mLk.mt gLk hr5 g.mLk.bd)));show l?;have w0:∀y∈Hj! z Bl!,JDE:=GF! (AA (PyProof.Rows.part_short hy) hz);show#[AT? A! z Bl! A! A! W! Fy!];show Lz? (Hj! z Bl!).map;rw[es] at s1 w0 ⊢;show NK? l Mm!;show#[_,A!,_,A!,1,A!,l,_,A!,Mm!,Ba!];show Nz?;have s2:=aW! (Bd! Gj).map AT! hq;show#[v,q,pG!,as,A!,Ab,GF! (w0 y (Ec! hy)),ra,λr xs H1 s3 HJ pa=>?_];have s4:=Rg!;show#[_,A!,(ao!),Ak! (Ju6 t WA)];have s5:=sl! WA;show OR? (Af s4 s5) (wP s5 HJ) (Sy! s5);show MS? WA;cases c:OV (AT! v) WA with | true=>show Id? (xv! hp) (k1 c) | false =>show Cq #[_,A!,JMi,λt2 kG=>Ju6 t2 Y'];have s6:=PA! Y' kG;show OR? (G7! s4 s5 s6) (IY! s6 s5 HJ) (Sy! (Af s5 s6));show MS? Y';cases c2:OV (AT! v) Y' with | true=>show Id? Jhj (k2 c c2) | false=>show Cq #[_,A!,p,dx,_,A!,Jhj,Jpd ZV,_,A!,_,A!,k3 c c2]
def Jwe{A B:TS}{D:Ends}{σ:L2.St}{H:Hp}(R:Pz!)(h1:∀nx,(mi! R (nx GF H'))->A { D with nx:=nx } σ H)(h2:mi! R (B D GF H')):J56 A B D σ H:=h1 _ h2
def gCl(g:GG):ET 1 mX lR [FN!,Jj!] Jv9:=J08 g.pQ.fn g.T.len
def YR:Mn! [Sb!,FO!,ZB!,ke!,Jj!] Sb! FO! Jj8:={}
inductive Jv6(vs:C!)(H:Hp)(Q:VK)(E:XK):B!
 | mk (c:Int) (m:Nat) (_:vs=[g! c,g! m]) (_:m<=20) (_:∀(l:Addr)(xs:q!)(H':Hp),TD->Pb!->bQ! (XV (Cv! A2!))->xs.length=m->(JCE)->JF5)
def gSm(g:GG):ET 1 ny mJ [Sb!,FO!] Jv6:=by
 show c? g.mSm.fn.KG YR;have#[c,m,rfl,hm,k]:=h;show A?;show IM? YR.nd Ms! YR.nd (Pl! SC) (JLL (O5 A! g.T.range Kp!) YR.nd (QDd YR.nd (Pl! (KG! Ia (KG! P2 AF!))) (QFW FM AF!))) (bR! 2);show#[Au!,Fy!];show G7? _ A! (aZ! 2147483647);show#[_,A!,BV!,A!,DI!,QDN hm,?_];rw[CL];show il! 0 m (λi σ H2=>M_ λ(xs:List Int)(z:Int)(u:Option V)=>σ=[JGL,JGN,K9!,IB! z,u]/\Ei!/\MT! l (r3! Cv!)/\xs.length=i/\JCE) #[[],_,_,A!,Ah hl,Ab,A!,JV7];.rintro i σ H2 hi ⟨xs,z,u,rfl,s2,e2,len,nn⟩;show#[Pl?];have y0:=JTT (z*48271+12345);generalize (z*48271+12345) % 2147483647=y at y0;show Pz? e2 l e2 JOs;show#[xs++[y],_,_,A!,JZq,xg!,nZ! len,Ie!];show p? hx;(.show nn x h);.rw[ZK h];show y0
 .rintro σ H2 ⟨xs,z,u,rfl,s2,e2,len,nn⟩;show L? (k l xs H2 s2 hl e2 len nn)
def Ff{l:aD!}{cl:Bc!}{y:Str}(h:JlC)(h2:yG!):I4!:=by
 show QP?
 obtain e|e:=h2;show KJ?
 show LN?
abbrev vT(n:Nat):D3!:=[n==0,n==1,n==2,n==3,n==4,n==5,n==6,n==7]
inductive Jr3(ex:Addr)(vs:C!)(H:Hp)(Q:VK):B!
 | mk (cls:Addr) (n:Nat) (_:vs=[dY!]) (_:AY! ex (yA ex AD!)) (_:dQ AD! n) (_:JHn n)
def XT:Tv! [Oc!,"_law_some"] Oc! Jkd:={}
def Jxw{f:Addr}{fd:FuncData}(F:Z! ZA! ZA! Jkd)(g:GG):JmL f fd:=by
 show Hx?;show J5c lk UG XT (λex vs H Q h=>?_) λex A outer s H vs Q hr h=>?_;.have#[cls,n,rfl,_]:=h;rfl
 .have#[cls,n,rfl,he,xf,k]:=h;show Cd? XT.nd (JoV NH g.TW.cNH.mg NG g.T.JBa.mg OD g.T.JBZ.mg MI g.T.cMI.mg) (JOY 1 XT.nd (Co Jqh EQ (JoV NW g.T.cNW.mg NL g.TP.cNL.mg NI g.cNI.mg NR g.cNR.mg)) (yj! (Jki (Hz (A8 Fq J5! g.T.WM DA (Tn! (if! Lh! g.y11 J2a))))) (ai! Xi (nC! (Jxi (te:=G4!) (AJ!:=[]) A! (Jxb (pv 1)) A! ZV A! ZV A! A3! (λy h=>Ff A! h) A3! ZV (Gk! (Fj (Hz (pv 0)))) (Gk! (pv 0)))))) (J6t J3c Ai) (bX! PySem.F.slot_list_index PySem.F.type_list_index Juk EQ K8));have WM:∀{D:Addr} {b:Bool} {H':Hp} {Q':VK},TD->JyR AD! (UV D) b->Q' (AI! b) H'->Jfy K [dY!,by!] H' Q':=λ{D b H' Q'} s' kk q=>#[ex,AD!,by!,by!,b,A!,A!,P! s' he,xf.isX,kk,q];show L? (JZ0 Kc! xf.k0 Kc! xf.k1 Kc! xf.k2 Kc! xf.k3 (λa1 h1=>?_));have s1:=NN! (JnN 0 1 2 3) h1;show Ca? (JZ0 s1 xf.k4 s1 xf.k5 s1 xf.k6 s1 xf.k7 (λa2 h2=>?_));have s2:=NN! (JnN 4 5 6 7) h2;show#[a1,a2,_,_,A!,A!,t9!,Ab,QA1 8,λa3 h3=>?_];have s3:=Ah (o:=XV (QAK 0 1 2 3++QAK 4 5 6 7)) h3;have fA:=Rg!;have e3:z! (d! JqB a3 (XV JXj)) a3 (XV ((vT n).map E8!)):=Ab;generalize G0! JqB a3 JXj=H3 at fA e3 ⊢;show L? #[ex,AD!,.ty Lh!,Jzh,AC,A!,A!,P! fA he,xf.isX,xf.kV,AC,A!,?_];show e?;show BK? a3 e3 (λp4 h4=>?_);show Jrc (C:=AD!) (ex:=ex) (xs:=Du! vT n E8!) (tt:=tB (Cz 0)) (te:=G4!) (AJ!:=[]) (σ:=[oa!,Dt! a3]) (λi ys H4=>BV H3 H4/\u1! p4/\ys=Du! JLd id E8!) #[Ah h4,Ab,A!] (λi ys H4 _ h=>#[JHB e3,Pc!,Ch! pi fA he]) ?_ ?_;(.rintro i x ys H4 N hi ⟨s4,e4,rfl⟩ hN;rw[ZH] at hi;have#[b,hb,rfl]:=JO! hi;have hlen:rK! JLd id:=AE (BC ..) (AE (JyF ..) (mh! (8<sizeLine)));show Gc? b;cases b with | false =>show Cq (wP hN #[s4,e4,?_]);rw[CK,hb];simp | true =>show C4 #[_,A!,e4,Fj! Df!,ot! (λb' o e=>?_) Ab];(.rw[Ae (Am e h4)];show KH! s4);.rw[CK,hb];simp);.rintro ys H4 ⟨s4,e4,rfl⟩;rw[ZA,BS] at e4;have#[l1,l2]:=(bE! (∀n,n<8->AZ! (vT n).filter id=1/\(vT n).idxOf AC=n)) n xf.lt;show#[p4,_,A!,PV! e4,?_];rw[ZA,l1];show#[A!,IR,ci,Cq ?_];show#[_,A!,h! #[A!,_,TS! s4 e3],a3,vT n,n,A!,A!,HA! e3,l2,xf.lt,k _ (Af fA s4)]
def gCs(g:GG):JmL oC lX:=Jxw g.vF.fn g
def WI.upn(x:k!)(cA:Gb!)(cB:Jz!):WI H p W D m Fc! Pp! A' B' al ys:=by show BZ?;have a2:=x.ez;have a3:=x.fz;show Ba?;show{ x with wg:=x.wg.up,md:=CA a1,ez:=CJ a2,fz:=CJ a3,iz:=CJ a4,pb:=#[AA cA x.pb.1,AA x.pb.2 cB] }
abbrev RU(H:Hp)(x:Addr):Qf!
 | .make h=>yC! EP!
 | .hold h ta tb=>in! BM!
 | .drop h ta tb=>in! FC!
 | .take h ta tb=>in! FD!
 | .free h tb=>JeQ [bn FE!,Gh!,Dv!]
 | .send h g tb=>JeQ (oz! (bn GK!))
 | .clean h=>yC! GL!
 | .ask h=>yC! AU!
 | .HP n=>lU! x [bn JT!,g! n]
def RU.keep(k:Ae!)(h:w3!):RU H' x dd:=by cases dd with | make h'=>show DW? | hold h' ta tb=>show Eo? | drop h' ta tb=>show Eo? | take h' ta tb=>show Eo? | free h' tb=>show Oc? | send h' g tb=>show Oc? | clean h'=>show DW? | ask h'=>show DW? | HP n=>show DW?
abbrev zw(W:EF)(m:Nat):Qf!
 | .send h g _=>AW!/\g<m
 | .HP n=>M_ λl1 l2 t=>JLh
 | d=>d.at<m
abbrev DoA(p:Addr)(H:Hp)(Q:VK)(E:XK):Qf!
 | .make h=>JNS
 | .hold h ta tb=>iO! Ou
 | .drop h ta tb=>iO! Ow
 | .take h ta tb=>iO! Oq
 | .free h tb=>JGv Jhf
 | .send h g tb=>JGv (JFi Jal)
 | .clean h=>cL! Rr
 | .ask h=>cL! Jjp
 | .HP n=>Z3! Jjo IO!
structure vh(H:Hp)(v:V)(d:PyData):B! where
 rep:vc!
 ok:JNm
def Jn3{H:Hp}:∀L:X!,Q5! (CD! λz=>AM! z.1) QDk PP
 | []=>a!
 | z::L=>Os (PP _) (Jn3 L)
def Km{H:Hp}{y:Addr}{L:X!}(e:AY! y QBL):vh H ad! (Sg L):=by
 show#[XV (GP! e) (Jn3 L),?_];show k? (Cs! J5r n 1 ds (sY! CD! ZW!) (λd hd=>by have#[i,_,rfl]:=ZN hd;show#[A!,JDZ]))
 unfold Sg;show#[by simp only[PyData.canLay0,h1],JWy h2]
open S
variable {H:Hp}{p:Addr}{W:EF}{D:T2->Prop}{m n d B B':Nat}{al:List LL}{ys:List Qy}{dd:DD}{Q:VK}{E:XK}
def J5g(g:GG)(x:sR!)(hn:SL)(hB:Bx!)(hd:M7!)(m4:Fx!)(cB:fi!)(ok:w8!)(k:JvX JS3)(kE:JmA Ef):JsI:=by
 have kk:KT p K W m n d 0 B' ys H Q (λv W' al' EA H'=>∃dv,vh H' v dv/\JS3):=λv W' D' al' EA H' r fp wi fr ehs=>by have#[dv,h1,h2]:=r;show k v dv W' D' AL! EA H' h1 h2 wi fr fp ehs
 have rM:∀{h:Nat},AW!->HN λq G=>Iv!/\om!:=λ{h} hh=>by show Mx? hh;show#[q,G,e,DI!,e]
 have tn:∀H',vh H' AS! GM:=λH'=>#[.one AS!,A!,Au!];have ti:∀H' i,vh H' V8! (PP i):=λH' i=>#[.one (PP i),A!,JDZ];cases dd with | make h =>show Bo?;show JwA J14 (λt a W' H' et nw e=>#[_,#[cb! et,(Ja5 _).1,Fh! (Ja5 _).2],.IW _ q G _ _ hi (Sw! h G a) e nw A! A!]) | hold h ta tb =>show Bo?;intro a b ea eb;by_cases c1:At!/\BP!;(.have#[ha,hb]:=c1;show F2?;(.show pq! J15 i ea eb ha hb c2 cc! (QEj (JcC Lz!)));.show R6? (UW! #[ha,hb,c2,mU! g.X2 2 (JcC .JBm)]));.show I9? c1 .JBn (Classical.not_and_iff_not_or_not.mp c1) | drop h ta tb =>show Bo?;intro a b ea eb;by_cases ha:At!;(.show F2?;(.show HN?;(.show pq! J17 i ea eb ha hb c2 cc! (JQ7 J0!));.have#[ad,fd]:=(EW! be).1.ok.find ha c2;show Bi? _ (x! #[Im? c2 (JpK .JBq)]));.show R6? (JwD .JBr));.show I9? ha .JBs ha | take h ta tb =>show Bo?;intro a b ea eb;have z1:=(EW! be).1.ok.hz;by_cases ha:At!;(.show F2?;(.show HN?;(.show pq! J12 i ea eb ha hb c2 cc! (JQ7 J1!));.have#[ad,fd]:=(EW! be).1.ok.find ha c2;show Bi? _ (x! #[JI? c2 (JpK .take3)]));.show In? (JwD .take2));.show In? (QFH ha .take1 ta ha) | free h tb =>show Bo?;intro b eb;by_cases hb:BP!;(.show J16 x hn hB i eb hb MF! cc! kk (QEj (Ha! h tb G hb)));.show#[p,_,_,W,A!,Cb!,JxD (Fg! hb (mU! g.X1 1 (.JBp h tb G hb)))] | send h g' tb =>have#[o1,o2]:=ok;have#[q,G,hi,i]:=rM o1;intro b eb;show l! ?_;by_cases hb:BP!;(.show J13 x hn hB i NE! (C0! o2) eb hb MF! (AA (LH FB _) cB) kk (λW' G' l t H' se nw e=>#[_,ti _ _,L0! h g' tb q G G' l t hi hb se e nw A! A!]) λc2 w0=>mU! g.X4 4 (.ub h g' tb G hb c2 w0));.have z1:=(EW! be).1.ok.oz;have z2:=(EW! be).1.ok.rz;show Ae?;have#[q2,G2,_,i2]:=rM o2;show#[p,b,_,_,W,tb,q,G,A!,Cb!,eb,i,#[q2,G2,i2],bZ!,t4!,JGj,QFH hb .uc g' hb] | clean h =>show LI? (JwA Jyx (λy W' k9 R' rs H' L rc pm pw nw e ey=>#[_,Km ey,ZU! h q G k9 R' rs L hi rc pm pw e nw A! A!])) | ask h =>show LI? (J5i x hn hB hd i MF! v! kk λW' L H' io I nw el e=>#[_,ti _ _,.ask h io I L e nw A! A!]) | HP BX =>show l! ?_;have#[l1,l2,t,el]:=ok;have lw:=x.lw;rw[el] at lw;have#[a,z,b,es,p1,p2,p3]:=Jv4 lw;have ll:=AA! p1;cases z with | w l=>show RJ? Ju7 (λy L bs W' q G G' H' hi we nw e ey=>QEX #[l1,l2,t,a,_,b,el,es,ll,nw.toNv,A!,nw.fi,q,G,G',bs,hi,we,e,A!]) | ask s g n' u=>show Ql? Jyy (JwO e q G hs os rs hi tl) | MN s g n' u tk S=>show Ql? Ju8 (λv L W' al' EA H' e nv ey an=>QEX #[l1,l2,t,a,_,b,el,es,ll,nv,e,an]) | lt s g ts=>show RJ? J5h (JwO q G hs os rs hi tl e)
abbrev J5s(m:Nat):Qf!
 | .send h g _=>¬(AW!/\g<m)
 | .HP _=>False
 | d=>¬d.at<m
inductive RR(m:Nat)(W W':EF)(al al':V!)(ys EA:i!)(H':Hp):JMF
 | ok (d:DD) (v:PyData) (o:zw W m d) (e:uQ! v):JLw v
 | out (d:DD) (o:J5s m d) (e:W'=W) (ea:ZT!) (ey:H4!):JLw VF!
 | WH (n:Int) (o:n∉JEI) (e:W'=W) (ea:ZT!) (ey:H4!):JzB RR (.HP n) (RD 5)
def Jy5{dd:DD}{W:EF}(o:w8!)(n:J5s m dd):Lc!:=by cases dd with | HP=>show n | send h g tb=>show n o | make h=>show n o | hold h ta tb=>show n o | drop h ta tb=>show n o | take h ta tb=>show n o | free h tb=>show n o | clean h=>show n o | ask h=>show n o
def J2z{n:Int}{W:EF}(o:zw W m (.HP n)):n∈JEI:=by have#[l1,l2,t,e]:=o;rw[e];simp
def RR.one{H' H1 yR H3 H4:Hp}{r:Addr}{W' V V':EF}{D' E1 E':db}{n' n1 xF d' d1 xn A A' A1 yW B1 yV:Nat}{al' bl WQ:V!}{EA zs VS:i!}{v v':PyData}(x:JA!)(wi:k!)(OT:Ns!)(vi:QBo H1 E1)(js:hQ!)(a:QB2 RR H3 v)(b:Jlz H4 dd v'):JTf:=by cases a with | ok _ _ o e =>(cases b with | ok _ _ o2 e2=>show Ef.one x wi OT vi js e e2 | out _ o2=>show(Jy5 o o2).elim | WH n o2=>show(o2 (AE! x.nu (J2z o))).elim) | out _ o e ea ey =>(cases b with | ok _ _ o2=>show(Jy5 o2 o).elim | out _ o2 e2 WY gE=>show Ob? | WH n o2=>show o.elim) | WH n o e ea ey =>cases b with | ok _ _ o2=>show(o (o! x.nu (J2z o2))).elim | out _ o2=>show o2.elim | WH n o2 e2 WY gE=>show Ob?
def Gy(g:GG)(x:sR!)(hn:SL)(hB:Bx!)(hd:M7!)(m4:Fx!)(cB:fi!)(k:JvX v9!)(kE:JmA RR):JsI:=by
 show C? w8!;.show J5g g x hn hB hd m4 cB c (λv dv W' D' al' EA H' tl ef=>k v dv W' D' AL! EA H' tl Jhk) (λcls i xf ef=>kE AD! i xf Jhk)
 have ow:∀{h:Nat},¬AW!->Xa W bv:=λ{h} z=>JY0 (EM! (Cy! z));have no:∀(o:J5s m dd),eT!:=λo=>KM kE g.X0 (.out dd o A! A! A!);cases dd with | make h=>show#[p,_,W,A!,Cb!,QCH] | hold h ta tb=>show Er? | drop h ta tb=>show Er? | take h ta tb=>show Er? | free h tb=>show λb _=>#[p,_,_,W,A!,Cb!,QCH] | clean h=>show P2? | ask h=>show P2? | send h g' tb =>show λb _=>x! #[p,_,_,_,W,A!,Cb!,?_,no c];by_cases c1:AW!;(.show Mx? c1;show Cj! #[q,G,DI!,e] (ow λz=>c #[c1,z]));.show l! (ow c1) | HP BX =>have nl:ZV! (As!≠BX):=OT! (c (by have#[l1,l2,e2]:=HI hl;show#[l1,l2,l.2,by rw[e2,<-e]]));show x! #[p,BX,W,A!,Cb!,nl,KM kE g.X5 (.WH BX (λz=>by have#[l,hl,e]:=ZN z;show nl l hl e) A! A! A!)]
open E
def OU(k:tb D σ H)(ex:JZI wd)(hv:JMw:=by rfl)(ne:¬wd=c:=by show BB?):JtP :=JwP (U! (JPl (AT! wd=AT! c) ne kC!) (Cq k))
def uX(k:ta D σ H)(ex:JZI c)(hv:JMw:=by rfl):JtP :=JwP JhO
def J97(g:GG):tr! jS i_ Ot:=JpF
def J7n(g:GG):ts! Mn Mu Ou:=JpB
def J7p(g:GG):ts! Mp Mx Ow:=JpC
def J7i(g:GG):ts! Mi Mr Oq:=JpD
def J7o(g:GG):GQ 6 Mo Mw U3! Ov:=JpE
def J7j(g:GG):GQ 6 Iw Kc nA! Jal:=tq! J7e
def J7r(g:GG):tr! Iz Ke Rr:=tq! J7g
def J7s(g:GG):tr! Ka Kf Jjp:=tq! J7h
def J7q(g:GG):JRN:=J7f g
def SX:JK4 [C8!,FP!,lB!,Oc!] FP! Jwo:={}
inductive J3v(vs:C!)(H:Hp)(Q:VK)(E:XK):B!
 | mk (p xa:Addr) (W:EF) (D:db) (m n d B B':Nat) (al:V!) (ys:i!) (dd:DD) (_:Zn! (FS xa)) (_:sR!) (_:SL) (_:Bx!) (_:M7!) (_:Fx!) (_:fi!) (_:RU H xa dd)
   (_:∀(t:Addr)(dv:PyData)(W':EF)(D':db)(al':V!)(EA:i!)(H0 H':Hp),NX! H0->vY K H' KP! dv->df dv->hX!->Jzr Fc! Pp! 0->VS!->cZ!->k0!->oi!)
def J18(h:dv.canLay0=true/\dv.depth<=5):df (VX dv):=by
 show CH?;show BG?;.unfold VX;show Rl?;show u?
 .unfold VX;show CU?;lia
def yK(n:Nat):df (RD n):=by
 show BG?;.unfold RD;show Rm?;show u?
 .unfold RD;show CU?;lia
def Jm7(k:TD)(r:vc!):Ik! Rep d:=by cases r with | one r=>show .one (Sf! (JS k)) | BK h p=>show XV (by obtain (e|⟨o,e⟩)|z:=h;{ show Z9! (K6! k) };{ show sd! #[o,KH! k] };{ show V6! }) (wn! (CK! Sf! k))
def Fp.back{p:Addr}{W W':EF}{ys EA:i!}(f:JL6)(s:K8!):cZ!:=SZ (by obtain h|h|h:=D5! f;(.show O?);(.show B0?);.show AC? ?_;cases e:H b with | none=>rfl | some o=>show As? Q2!)
def gDn(g:GG):ET 7 oG lb [C8!,FP!] J3v:=by
 show c? g.mDn.fn.KG SX;have#[p,xa,W,D,m,n,d,nB,nB',al,ys,dd,rfl,wi,hn,hB,hd,m4,cB,hx,k]:=h;show A?;show P?;show RV? SX.nd SX.nd (Ag (vL! g.xH.mt J97 g.xH.bd ND! g.gy.mt J7n g.gy.bd (vL! g.g7.mt J7p g.g7.bd (TD! DG! DG! DG!) g.gu.mt J7i g.gu.bd (vL! g.gz.mt J7o g.gz.bd (FT! DG! DG!) g.gx.mt J7j g.gx.bd (QAi g.hG.mt J7r g.hG.bd ND! (QAi g.hJ.mt J7s g.hJ.bd ND! (QAC SX.nd (QAL Ge! g.g_.mt J7q g.g_.bd ND!)))))))) (Ag (QCt SX.nd JwQ));show JQ?;show NU?;show My?;show F3?;have aE:=CK! hx.keep s1;have#[dx,hp]:=tW.wa.ob;have fin:∀(v:V)(dv:PyData)(W':EF)(D':db)(al':V!)(EA:i!)(H':Hp)(t:Addr),vh H' v dv->v9!->WI H' p W' D' m Fc! Pp! 0 nB' AL! EA->Wz p W ys H1 H'->JL6->k0!->a1! t->b7! (d! H' t JE0):=λv dv W' D' al' EA H' t tl ef OT fr fp eh ht=>by have s2:=sl! [l3!,v];show JtS (VX dv) W' D' AL! EA H' s2 (Jm7 s2 tl.rep) (J18 tl.ok) (OT.same s2) (λb o e n1 n2=>P! s2 (fr b o (K6! s1) n1 n2)) (fp.back s1) eh
 have XD:∀(i:Nat)(H2:Hp)(t:Addr),RR m W W al al ys ys H1 dd (RD i)->RG!->b3! t->JNE fn!:=λi H2 t ef s2 ht=>by have s3:=sl! JYP;have YW:=Rg!;show JtS (RD i) W D al ys H1 (Af s2 s3) (.one (PP _)) (yK i) ((ZX! YW).upn B6! (AA KD! cB)) (λb o e _ _=>KH! YW) JSe A!
 have run:=λ(Q:VK)(E:XK)=>Gy (dd:=dd) (Q:=Q) (E:=E) g tW hn hB hd m4 cB;cases dd with | make h =>have ex:=aE;dsimp only [RU] at ex;show uX (#[SR?]) ex;show QFM | hold h ta tb =>show Ef? hO! | drop h ta tb =>show Ef? (MC! hO!) | take h ta tb =>show Ef? (MC! (MC! hO!)) | free h tb =>show Le? (MC! (MC! (MC! (uX (#[F8?,_,A!,hp,lf!,_,A!,xa,_,Ai? _ _ A! A! IE! A! _ A! xa _ IE! A!]) ex)))) | send h g9 tb =>show Le? (QBF hO!) | clean h =>have ex:=aE;dsimp only [RU] at ex;show OU (MC! (QBF JMW)) ex;show QFM | ask h =>show Jk? JMW | HP BX =>show Jk? (OU (#[SR?]) ex)
abbrev x_(n:Int)(kind:Str)(s g:Int)(th:T2)(x:Int):CW!:=Jel [OM th,g! x]
abbrev vZ(n:Int)(kind:Str)(s g k u:Int):CW!:=Jel [g! k,g! u]
abbrev xJ(n s g:Int)(ts:F!):CW!:=Kg! (QEH GS! (vx! Ho!))
def J1j{H:Hp}{t:Addr}{n:Int}{kind:Str}{s g:Int}{tb:T2}{x:Int}(h:JUu):ty! (x_ n BA! s g tb x):=by have#[a,b,e1,e2,e3]:=h;show QO! e1 (tT! (x2! Os Er! Os Er! Os (JUP (Kg e3)) a!))
def Jte{H:Hp}{t:Addr}{n:Int}{kind:Str}{s g k u:Int}(h:oG! n BA! k):ty! (vZ n BA! s g k u):=by have#[a,e1,e2]:=h;show QO! e1 (tT! (x2! Os Er! Os Er! Os (JUP Er!) a!))
def J4s{H:Hp}{t:Addr}{n s g:Int}{ts:F!}(h:pw! t n):ty! (xJ n s g ts):=by have#[a,as,e1,e2,th]:=h;show QO! e1 (tT! (x2! Os Er! Os Er! Os (w6! e2 th) a!))
def J1k{n:Int}{kind:Str}{s g:Int}{th:T2}{x:Int}(hk:dJ!\/q0!\/H0! GV!\/q1!):T! (x_ n BA! s g th x).canLay0/\(x_ n BA! s g th x).depth<=20:=by
 have t1:T! (OM th).canLay0:=(Ll th).1;show BG?;.obtain rfl|rfl|rfl|rfl:=hk;all_goals unfold x_;simp only[PyData.canLay0,PyData.canLayAll0,t1,SH,SF];show u?
 .unfold x_;simp[PyData.depth,PyData.depthAll,OM]
def Jtf{n:Int}{kind:Str}{s g k u:Int}(hk:H0! AU!\/JCb):T! (vZ n BA! s g k u).canLay0/\(vZ n BA! s g k u).depth<=20:=by
 show BG?;.obtain rfl|rfl:=hk;all_goals unfold vZ;show Rm?;show u?
 .unfold vZ;show E3?
def Jzu(ts:F!):∀d∈Ho! OM,JNm:=λd hd=>by have#[t,_,rfl]:=ZN hd;show#[(Ja5 t).1,by unfold OM;show E3?]
def J4t{n s g:Int}{ts:F!}:T! (xJ n s g ts).canLay0/\(xJ n s g ts).depth<=20:=by
 show k? (J5r (Jzu ts));show BG?;.unfold xJ;show Rl?;show u?
 .unfold xJ;show CU?;show AE (JG2 h2) FB
def NQ.kd{m:Nat}{l:LT}(h:P3!):JCd\/q4!\/q3!\/K3!:=by
 obtain⟨h,_⟩|⟨h,_⟩|⟨h,_⟩|⟨h,_⟩:=h.2.2.2;show Bt?
 .show B0?
 .show G? tL!
 show AK? (mp! h)
abbrev llD(n:Int):LL->CW!
 | .w l=>x_ n l.kind l.s l.g sB l.x
 | .ask s g k u=>vZ n AU! s g k u
 | .MN s g k u _ _=>vZ n Jr! s g k u
 | .lt s g ts=>xJ n s g ts
abbrev Jol:q!->V!->Ir!
 | n::ns,l::ls=>llD n l::Jol ns ls
 | _,_=>[]
def J4u{H:Hp}{G_:X!}{y:Lm!}{z:LL}(h:XS!):Pe! (UV Bi!) (llD BJ! z):=by cases z with | w l=>show J1j h | ask s g k u=>show Jte h | MN s g k u t S=>show Jte pi | lt s g ts=>show J4s h
def Jok{H:Hp}{G_:X!}{ys:X!}{ls:V!}(p:JSo ls):Cd! (HC K H) (CS! λy=>An! Bi!) (Jol (S2! CS!) ls):=by induction p with | nil=>show a? | cons h _ ih=>show Os (J4u h) ih
def Jcx{m:Nat}:∀{ns:q!} {ls:V!},(∀l∈LM ls,P3!)->∀d∈Jol ns ls,QBZ 20
 | [],_,_,d,h=>Ic!
 | _::_,[],_,d,h=>Ic!
 | n::ns,l::ls,k,d,h=>by obtain rfl|h:=K4!;(.cases l with | w l=>show J1k (k l Dw!).kd | ask s g k u=>show Jtf (l! A!) | MN s g k u t S=>show Jtf (IN A!) | lt s g ts=>show J4t);.show Jcx (Al! (k z ?_)) d h;cases l with | w l=>show G9! hz | ask s g k u=>show hz | MN s g k u t S=>show hz | lt s g ts=>show hz
def Juq{R:BC! Lm! LL}{ys:X!}{ls:V!}(p:T9! ys ls)(ne:ys≠[]):A0! (JAA CS!):=by cases p with | nil=>show M? A! ne | cons _ _=>rfl
def Jur{ls:V!}:T! (JAA ([]:X!).map):=rT! ls
def MZ.BI{H:Hp}{G_:X!}{y:Lm!}{z:LL}(h:XS!):∃xs,JGs (g! BJ!::xs):=by cases z with | w l=>show IA? | ask s g k u=>show IB? | MN s g k u t S=>show IC? | lt s g ts=>show ID?
def Jo7(ds:Ir!):Yi! (EO! ds) (EO! [])=ds.isEmpty:=rT! ds
def Jxz:df (EO! []):=Jb8 λd hd=>Fa! hd
def Jjk:JvC:=JsF
inductive J9m(K:W.Frag)(x:V)(y:V)(H:Hp)(Q:VK):B!
 | mk (p xs i v) (_:cw!) (_:cx!) (_:W9!\/fa!) (_:Xa!) (_:WO!)
def J47{X:E!}:wI! J9m:=by
 show CJ?;obtain⟨p,xs,i,z,e1,e2,hq|hq,he,q⟩:=h;.show JxE Cd
 .show JxE Az
abbrev UH(t:T2):B!:=cC!/\cD!
abbrev zx:Qf!
 | .make h=>Ib!
 | .hold h a b=>w9!
 | .drop h a b=>w9!
 | .take h a b=>w9!
 | .free h b=>Ib!/\UH b
 | .send h g b=>Ib!/\Sm (bi g)/\UH b
 | .clean h=>Ib!
 | .ask h=>Ib!
 | .HP n=>Sm n
abbrev om:Qf!
 | .HP n=>0<=n/\n<=99000
 | d=>zx d
def om.sm{d:DD}(h:om d):zx d/\∀n,d=.HP n->n<=99000:=by cases d with | HP n=>show#[#[pi,L4! BL A6!],λn e=>by cases e;show A6!] | _=>show#[h,λn e=>by cases e]
def J81:Ap! Xg! Xg! Jwk:={}
inductive J3u(vs:C!)(H:Hp)(Q:VK)(E:XK):B!
 | mk (s:Addr) (x:Int) (v:V) (as:S!) (_:vs=[FS s,g! x,v]) (_:Gp! DW s Bd! Cz!\/wA! s) (_:WO!) (_:∀a∈as,sA! a)
def gPk(g:GG):ET 1 ng mG Xg! J3u:=by
 show c? g.fe.fn.KG J81;have#[s,x,v,as,rfl,sq,k0,k1]:=h;show#[A!,λER A outer s' hr=>?_];show DA? (TF! (aU! JLv) (Ao (pv 2)) A5) (As J47 SC (uY! EQ SC));show#[AT? s _ A! sq _ A! ?_];show Gf (λ_=>Bp! k0) (dP!);have bX:TN! W4!:=by (have:¬XH! W4! 0:=by simpa using cc);have h2:W4!≠0:=λz=>Uu! this z;lia
 have j0:=DQ x (JWC W4!);have j1:=DR x bX;have#[a,ha]:=lV! as (D2! (x % W4!)) (by rw[ZA] at j0 j1 ⊢;lia);show#[C4?,A!,_,A!,s,_,A!,sq,_,_,A!,A!,bX,s,_,_,_,A!,A!,sq,xk! j0 ha,Fp! k1 a ha]
def sX:Mn! [Od!,Lu!,Lv!,"_law_out","_law_holds"] Od! Lu! Jkb:={}
inductive Jv8(vs:C!)(H:Hp)(Q:VK)(E:XK):B!
 | mk (x y1 y2 y3 a:Addr) (bs:C!) (os:sK) (ta:T2) (_:vs=[Ko!,BQ!]) (_:JIP) (_:JYZ) (_:h9!) (_:JWf) (_:G5!) (_:∀(hd:Addr)(cs:S!)(H':Hp),TD->L7! hd JHQ->(JDJ (L7! c (J6! t)))->TC! hd)
def Jmb(h:CB H cs hl)(sm:∀t∈hl,UH t):JDJ JYh:=JS! (by have#[j,hj]:=SM! hc;have#[t,ht]:=QCE hl (HZ! h);show#[t,pg! sm,A6 h j c t hj ht])
def gHb(g:GG):ET 1 oK l9 [Od!,Lu!] Jv8:=by
 show c? g.vD.fn.KG sX;have#[x,y1,y2,y3,a,bs,os,ta,rfl,ex,e2,rows,sm,ea,k]:=h;show A?;show Ah? (JeJ (P4! SC) (Ly A! (Cu (sx! sX.nd) (Cu (eO! sX.nd) (Cu (eP! sX.nd) Hk)))) Jhm) (U5! Ad);show#[_,A!,x,_,_,_,A!,A!,IE!,A!,y2,A!,dh!,?_];show KC? (λj σ H2=>H2=H/\vw! (JDG WC!)) JUh (rL! mK!);.rintro j v σ H2 hj ⟨rfl,u1,u2,u3,rfl⟩;have#[r,J']:=wD! os rows;show Rn? (fm! rows r J');show JX?;show MM? (cb! e4) ea;show Gf (λ_=>Bp! (k hd cs _ Kc! e5 (Jmb e6 (sm r (ZP J'))))) (λ_=>JUh)
 .have#[rfl,u1,u2,u3,rfl]:=h;show#[Ax!,Ak! (k t [] _ UX! Ab pS!)]
def JAz:JK4 [C8!,Sc!,"_law_lying"] Sc! Jwq:={}
inductive J3x(vs:C!)(H:Hp)(Q:VK)(E:XK):B!
 | mk (p:Addr) (x:Int) (W:EF) (D:db) (m n d A B:Nat) (al:V!) (ys:i!) (_:Zn! (g! x)) (_:k!) (_:JnT) (_:JrX (∀j,dd≠.ask j))
def gCo(g:GG):ET 3 mf lW [C8!,Sc!] J3x:=by
 show c? g.mCo.fn.KG JAz;have#[p,x,W,D,m,n,d,nA,nB,al,ys,rfl,wi,sl,k]:=h;show A?;show AM?;show Bh? JAz.nd hP! (JOZ (QDp FM Ms!) (lQ! (L3! (As Cd FM (As Cd (Fw (TD! Ai (KG! Jko (nC! FM)) (uY! (KG! Jar EQ) FM))) (Pl! EQ))))));show Bc?;show#[SQ? dx hp Sz! (λl H2 hl el s2=>?_)];have rA:=cm! s2;show#[_,A!,Ax!,JxH el rA.lw rA.wg.wl.ok];show Io?;generalize JOu=H3 at s3;have YW:=Af s2 s3;have aw:=HE! el;by_cases e0:Vw!;.rw[Jo7,e0,Jur];show C4 (lv! (k t (Sw! 0) _ (vm! YW) Ab XG! JVM))
 .rw[Jo7,Juq rA.lw e0];show e?;(have bX:TN! nw!:=by rw[ZA];have:=O0! e0;show C0! this);have x0:=uW! x 3;have x1:=JTS x;have z0:=DQ (x / 3) (JWC nw!);have z1:=DR (x / 3) bX;(obtain⟨j,ej,hj⟩:∃j:Nat,WZ JnM (x % 3)=D! (FU! lc)/\j<W.ls.length:=by have hl:=ZA (as:=FJ!) (f:=mH!);obtain e|e|e:=(Te! (x % 3=0\/x % 3=1\/x % 3=2));(.show#[0,d8!,O0! e0]);(.show#[W.ls.length-1,by rw[e];change D! (A2! _)=_;congr 2;rw[hl];have:=O0! e0;lia,by have:=O0! e0;lia]);.show#[D2! (x / 3 % nw!),by rw[e];change D! (A2! _)=_;congr 2;show ee! z0,by rw[hl] at z0 z1 ⊢;lia]);have#[#[BX,t2],hy]:=Aw hj;have hat:WZ (Om! mH!) lc=D! (UV t2):=JiS ZH CL hy;have#[lt,IP]:=s8! al (AE! (AA! wi.lw) hj);have#[a1,et2]:=MZ.BI (A6 rA.lw _ _ _ hy IP);have et2:MT! t2 (WP (AM! BX::a1)):=et2;have#[l1,l2,esp]:=HI (ZP hy);show#[C4?,A!,l,_,A!,JH4,_,_,A!,A!,_,A!,_,_,A!,A!,XG!,_,A!,l,_,A!,JH4,_,_,A!,A!,bX,QCv,Vj!];have s4:=NN! JnM hc;show#[_,A!,_,_,A!,A!,JJy,c,_,_,_,A!,A!,Mm!,ej,l,_,_,_,A!,A!,TS! s4 aw,hat,t2,_,0,_,A!,A!,DB! (IY! s4 s3 et2),Gw FB A!,aY!,Ak! (k t (.HP BX) _ (G7! YW s4 UX!) Ab (sl _ (ZP hy)) JVM)]
def bE:Ap! [C8!,ZB!,FO!,kb!,Od!,"_law_near",Lu!,"_law_b","_law_way"] fP! Jwp:={}
abbrev J51:TT:=Jez
inductive J3w(vs:C!)(H:Hp)(Q:VK)(E:XK):B!
 | mk (p l:Addr) (W:EF) (D:db) (m n d A B:Nat) (al:V!) (ys:i!) (x0 x1 x2 x3 x4 x5 x6:Int) (_:JKn IR!) (_:JLE) (_:k!) (_:SL) (_:JnT) (_:JrX hd!)
def Jo1(g:GG):ET 3 Mj Ms Gg! (QEh E8):=kj! (J1x g)
def Sk{l:No}(m0:JWd){q:SH!}(h:OR!):Ip!<=LC!:=by induction l with | nil=>cases h | cons z l ih =>have h0:=Ta! m0 z;(have hl:0<=LC!:=by (have:JR3 JWd LC!:=λ{l} h=>by induction l with | nil=>show AJ _ | cons y l ih =>have h1:=Ft! y;have h2:=ih XA!;change 0<=y.2.AY+LC!;show QH h1 h2);show this JOy);change Ip!<=bu!+LC!;obtain rfl|h:=K4!;(.show QK hl);.have:=ih (JOy) h;show BL this (FU h0)
def WI.sm{H:Hp}{p:Addr}{W:EF}{D:db}{m n d A B:Nat}{al:V!}{ys:i!}(x:k!)(hn:SL){j:Nat}{q:Addr}{G:CU}(hj:JE6){t:T2}(h:D6!):UH t:=by
 have#[i,q2,G2,e,h1,h2,h3]:=x.ma.has j q G hj t h;show Bb?;have il:i<m:=QDC e
 have md:=x.md;have h4:G2.AY<=UY!:=Sk (Al! (by have#[k,hk]:=SM! hz;show(Cs! EW! q z.1 G z.2 hk).1.m0)) (ZP e);show#[bx! (h1▸NE!),bx! h2]
def gDe(g:GG):ET 4 oE lY fP! J3w:=by
 show c? g.mDe.fn.KG bE;have#[p,l,W,D,m,n,d,nA,nB,al,ys,x0,x1,x2,x3,x4,x5,x6,rfl,el,wi,hn,sl,k]:=h;show A?;show P?;show AM?;show AN?;show Ah? (JE3 3 O1! v7!) (mN! 4 O1! (p2! (DA! AF!)) (JFp (zJ! i 5 J51 te G4! JXT O1! (P4! Br!) Jex U2!) O1! (QFe Gy! (QA8 uC!)) (ar! 7 O1! (QFe JFI (eQ! v7! Ai)) 8 O1! uC! (P1! (TR! (r_ (Jqb XJ! (Jkh (J8! (Jqg (qj hr)) hP! Ms!)))) (Zs! gCo TX g.mCo.mg g.mCo.fn.kp g.mCo.bd (Tn! (As Cd EQ Ai)))) (JLy XJ!) (QEx XJ! Fo! Us!) JvQ (P1! JvQ (lo! XJ! (TD! Ap AF! Us!)) (QEx XJ! v7! Us!) (JLy (yj! (aU! al!) (t0! (nC! hP!)))) (U5! (lQ! AF!)))))));have bS:TN! BV!:=by have:=wi.m1;show C0! this
 show#[_,A!,l,_,_,_,A!,A!,b6!,A!,_,A!,_,_,A!,A!,bS,?_];have h0:=DQ x1 (show BV!≠0 by lia);have h1:=DR x1 bS;obtain⟨h,eh,hm⟩:∃h:Nat,x1 % BV!=bv/\AW!:=#[D2! (x1 % BV!),by show ee! h0,W!];rw[eh];clear h0 h1 eh;show Di? hm;have i:om!:=#[DI!,hq];have gd:=JyG (by show BU hn) hq;show CV?;show Bc?;show#[o?,dx,_,A!,hp,Ff!,_,A!,p,bv,W,A!,Sz!,QAm i (i.at Sz!) (λx H1 s1 st=>?_)];show Bd?;have wz:JDK:=JU0;have smR:JWf:=λr hr u hu=>by have#[_,ad,hl,a2,_,a3,_]:=JLp;show JdO wi.sm a2 (a3.mem_iff.mp hu)
 have iF:Ib!:=JW3;have las:as.length=hs.length:=JFh;have lhs:=GX.pm.length_eq;have zhd:=gd.h2;show#[_,A!,x,_,_,_,A!,A!,IE!,A!,y1,A!,JEd,λnr hnr=>?_];have s4:=aj! hnr;show O4? Ol y1 oy! J51 JXT (λj ys Hc=>BV H1 Hc/\rY! Hc nr/\∃zs:S!,ys=IU! zs.map/\zs.length<=j/\∀z∈zs,∃t,UH t/\NA! z (J6! t)) #[s4,Ab,[],A!,Ay!,Al! (Fa! hz)] (λj ys Hc _ hc=>#[Mc! hc.1 e1,hc.2.1]);.rintro j x' ys Hc N hj ⟨sc,en,zs,rfl,zl,al⟩ rW;rw[ZH] at hj;cases ph:as[j]? with | none=>rw[ph] at hj;cases hj | some aj =>rw[ph] at hj;cases hj;have vM:=DH! ph;have#[tj,htj]:=s8! hs (AE! las vM);have ej:NA! aj (J6! tj):=A6 t1 _ _ _ ph htj;show#[v? aj,_,_,_,A!,A!,Mc! sc ej,A!,_,A!,A!,_,A!,?_];show Gf (dP!) (dP!);(.show#[_,A!,en,JOs,P! rW #[In!,Ab,zs++[aj],Qq!,cE! ZE GA EX zl,ME!]];(.rw[Ae (Am e hnr)];show sc b o e);.show AI?;(.show al z hz);.rw[ZK hz];show#[tj,Fp! wz tj htj,ej]);.show P! rW #[sc,en,zs,A!,by show CJ zl,al]
 rintro EA H2 ⟨j3,enr,zs,rfl,_,azs⟩;have s2:=Af s1 j3;show CW?;show Jwe (LU! (HN λa ta=>GF=[CM!,K9!,LE!,eG!,WC!,sF!,Ks!,none,none]/\NX! H2/\UH ta/\WI! (J6! ta))) (rN!) ?_;.show#[Gx?,_,_,A!,A!,JLC,A!,_,A!,_,A!,l,_,_,_,A!,A!,JLC,A!,_,_,A!,A!,JJy,TA!,Vj!];have s3:=G2! (g! bv) (En! (x2 % 3)) hc;show#[nr,x2,_,zs,A!,PV! (T7! enr),f0! c (bv,x2 % 3) s3 #[iF,DQ _ FB,by have:=JTS x2;change x2 % 3<=100000;lia] Ab,Uo!];have#[t,st,et]:=azs a ha;show f0! a t s3 st (Ch! s3 j3 et)
 rintro iA H3 ⟨a,ta,rfl,uw,ye,ea⟩;have s3:=Af s2 uw;have YW:=Af j3 uw;show Jwe (LU! (HN λb tb=>GF=[CM!,K9!,LE!,eG!,WC!,sF!,Ks!,JFL,none]/\NX! H3/\UH tb/\Z6! JyT)) (rN!) ?_;.show#[U?,x,_,_,_,A!,A!,Mc! YW ex,A!,_,A!,l,_,_,_,A!,A!,JLD,A!,_,A!,l,_,_,_,A!,A!,JLD,A!,_,A!,_,_,A!,A!,bS,TA!,Vj!];have s4:=PA! [En! rO!,g! 0] hc;show#[y1,x3,_,as,A!,IN (FF! (IY! s4 YW e1)),f0! c (rO!,0) s4 #[#[DQ _ (by show KZ bS),by have:=DR x3 bS;have:=wi.m5;change rO!<=100000;lia],#[AJ 0,by change L6!<=100000;decide]] Ab,KY!];have#[t,st,et]:=Jmb t1 wz b hb;show f0! b t s4 st (Ch! s4 YW et)
 rintro σ4 H4 ⟨b,tb,rfl,uv,yd,eb⟩;have s4:=Af s3 uv;have yg:=Af YW uv;have ea:=P! uv ea;have el:=HA! el;have ex:=P! yg ex;have e2:=Ut! yg;have r2:Tc! UN H4 bs os:=pE! yg r2;have wi4:=cm! s4;clear s3 YW uv uw j3 s2 s1 azs enr t1 e1;show#[v? l,_,_,_,A!,A!,b6!,A!,_,_,A!,A!,aZ! 20,?_];generalize x0 % 20=wy;have go:∀(t:Addr)(dd:DD)(H5:Hp)(xs:C!),BV H4 H5->EX! H5 t->RU JZW t dd->om dd->∀(ia:hd!:=by intro j e;show Ay? e hm),b7! JZW:=λt dd H5 xs s5 ht at' rF ia=>k t dd _ (G7! s4 s5 UX!) at' rF ia;have x4b:∃g9:Nat,x4 % BV!=bi g9/\g9<m:=#[D2! (x4 % BV!),QF! JTV,by have:=DR x4 bS;have:=JTV;lia];have#[gT,vK]:=wi4.wa.ob;show CW?;show Jwe (LU! (GF=[CM!,K9!,LE!,eG!,WC!,sF!,Ks!,JFL,IB! wy]/\NX! H4)) (rN!) ?_;.show DG?;by_cases c6:wy<6;(.rw[AM c6];show IF? gT vK wi4.wa (λl5 H5 hl5 el5 s5=>?_);have wq:=wi4.same s5;show#[Ax!,JxH el5 wq.lw wq.wg.wl.ok];have s6:=QDV;generalize G0! H5 r []=H6 at s6;have rD:=Af s5 s6;show Gf (PK!) (λ_=>P! uE (Ao! rD));show#[U?,_,A!,l,_,_,_,A!,A!,UV! rD,A!,p,x4,W,D,m,n,d,nA,nB,al,ys,A!,wq.same s6,sl,λt dd H7 s67 at7 ok7 na=>k t dd H7 (G7! s4 rD s67) at7 ok7 λj e=>(na j e).elim]);.rw[AN c6];show Cq (Cq (wP uE (Ao! (BV.refl _))))
 rintro σ5 H5 ⟨rfl,PY⟩;show GN? (JkR s2!);show GN? #[_,A!,_,A!,_,A!,ao!,QE4 (Lz! h ta tb) #[a,b,Ab,QDW ea,QDW eb] #[iF,ye,yd]];show RY? J0! J0!;show RY? J1! J1!;show GN? #[Aj? _ QCv (QE4 we! JaW #[iF,yd])];show#[_,A!,_,_,A!,A!,_,A!,mP! PK!];.have#[g9,eg,hg]:=x4b;show#[Gx?,_,_,A!,A!,UV! PY,A!,_,A!,_,_,A!,A!,bS,_,A!,ao!,D0!];rw[eg];show go t (L0! h g9 tb) H5 _ PY ht JaW #[iF,JW3,yd]
 have wq:=wi4.same PY;have#[kf,ie]:=wq.wa.ob;show S?;by_cases c18:XH! wy 18;.rw[AM c18];show C4 (C4 (JkR eR!))
 .rw[AN c18];show Cq #[SQ? kf ie wq.wa (λl6 H6 hl6 el6 s6=>#[l6,_,A!,PV! el6,_,_,A!,A!,_,A!,Gf (JmT eR!) (JmT s1!)])]
def Hw(a b:Str):(a++b).length=a.length+b.length:=by change(a.cps++b.cps).size=a.cps.size+b.cps.size;simp
def Jvb(t:T2):EZ AV!++"."++EZ A7!=A7 t:=Lm (by rw[Jy9,Ri])
def J88:RB! Lv! Lv! Jka:={}
inductive Jmn(vs:C!)(H:Hp)(Q:VK)(E:XK):B!
 | mk (a:Addr) (t:T2) (_:WT!) (_:u8!) (_:UH t) (_:Q QE0 H)
def xY(g:GG):ET 1 nV mB [Lv!] Jmn:=by
 show c? g.WV.fn.KG J88;have#[a,t,rfl,ha,sm,k]:=h;show A?;have l1:=HL! FR!;have l2:=HL! FS!;show l?;show AS? (pN! (UG! b8!) (UG! b8!));show#[_,A!,a,_,0,_,A!,A!,ha,A!,AV!,A!,Dj FR!,_,_,A!,A!,?_,_,A!,a,_,1,_,A!,A!,ha,A!,A7!,A!,Dj FS!,EZ AV!++".",EZ A7!,A!,A!,?_,?_];.change EJ! JPv;lia
 .rw[Hw];change JPv+Ki! A7!<=_;lia
 .rw[Jvb];show k
inductive J9q(K:W.Frag)(x:V)(y:V)(H:Hp)(Q:VK):B!
 | mk (a b:Addr) (xs:C!) (_:BX!) (_:Vc!) (_:DT!) (_:DW K H b []) (_:Kt! xs.isEmpty)
def J4m{X:E!}(hu:Wg!):JTG J9q:=by
 show AP?;have#[a,b,xs,rfl,rfl,ha,hb,q]:=h;show J?;cases ry;have#[its,v1,l1,_]:=GA! ha;have#[jts,v2,l2,_]:=GA! hb;have e2:jts=[]:=by cases v2;rfl
 subst e2;have ll:JEl:=AA! v1;cases its with | nil =>have e1:xs=[]:=SB! ll;subst e1;show SeqAt.eq_listAt (e:=λ_=>true) l1.isList l2.isList A! JYm (λj h1 _=>Mx! h1 (Nat.not_lt_zero _)) (cT! oj!) | cons z r =>(have e1:xs.isEmpty=false:=by cases xs;{ cases ll };{ rfl });rw[e1] at q;show SeqAt.eq_list_lengthsAt l1.isList l2.isList Ix JYm (cT! (AI! IR))
def J89:RB! Oe! Oe! Jbq:={}
inductive Jtt(vs:C!)(H:Hp)(Q:VK)(E:XK):B!
 | mk (l:Addr) (ws:j!) (_:sp!) (_:u2!) (_:JDF) (_:JDD) (_:JHm JZR)
def zM(g:GG):ET 1 nQ m8 [Oe!] Jtt:=by show c? g.YY.fn.KG J89;have#[l,ws,rfl,el,z1,z2,k]:=h;show A?;show DA? (TR! (J8! (J4m (qj hr)) SC Ms!) Ap) JuW;show#[_,A!,Ax!,λr J'=>#[l,r,_,A!,A!,GP! (Ah J' _ _ el),Mm!,_,A!,?_]];have s1:=QDV;cases ws with | nil=>show C4 (k _ s1) | cons y r =>show Cq #[A!,_,A!,Bl!,l,y::r,A!,A!,UV! s1,?_,Wo!];have e:=L_ (B:=100) (y::r) z2;show Gb?;rw[q];show l?;show QC? (y::r);lia
abbrev Y_:DD->Ag!
 | .make _=>EP!
 | .hold _ _ _=>BM!
 | .drop _ _ _=>FC!
 | .take _ _ _=>FD!
 | .free _ _=>FE!
 | .send _ _ _=>GK!
 | .clean _=>GL!
 | .ask _=>AU!
 | .HP _=>JT!
abbrev TZ:DD->Vy!
 | .make h=>[.n h]
 | .hold h a b=>hY!
 | .drop h a b=>hY!
 | .take h a b=>hY!
 | .free h b=>[.n h,.t b.1 b.2]
 | .send h g b=>[.n h,.n g,.t b.1 b.2]
 | .clean h=>[.n h]
 | .ask h=>[.n h]
 | .HP n=>[.n n]
def J26(dd:DD):z! Ym! (Y_ dd) ((TZ dd).map sG)/\Fn! Y_ dd 5/\Fn! TZ dd 3:=by cases dd<;>show#[A!,by simp only[Y_];show u?,by simp only[TZ,BD,BZ];decide]
def Js7{dd:DD}(h:zx dd):∀a∈TZ dd,Xw a:=by cases dd with | make h'=>show Dj? | clean h'=>show Dj? | ask h'=>show Dj? | HP n=>show Dj? | hold h' x y=>show D2? | drop h' x y=>show D2? | take h' x y=>show D2? | free h' y=>intro a ha;simp only[TZ,BY,CN,GY] at ha;obtain rfl|rfl:=ha;{ show pi };{ show A6! } | send h' g y=>show D2?
def RU.row(h:w3!):∃xs,lU! x (QV! Y_ dd::xs)/\JlT H:=by cases dd with | make h'=>show Dk? | clean h'=>show Dk? | ask h'=>show Dk? | HP n=>show Dk? | hold h' ta tb=>show EA? | drop h' ta tb=>show EA? | take h' ta tb=>show EA? | free h' tb=>have#[b,e,eb]:=h;show#[_,e,QEF A! #[b,A!,eb]] | send h' g tb=>have#[b,e,eb]:=h;show#[_,e,ML! A! (Tm! A! #[b,A!,eb])]
def Jwu(v:Str)(as:Vy!)(a:FX.Arg):E3 v (c7!)=E3 v as++Bl!++Gj a:=by unfold E3;rw[ZF,<-List.cons_append,Jor Bl! Ix Ix];rfl
def J0f{v:Str}{as:Vy!}(hv:v.length<=5)(ha:dO!)(l:lA! 3):Jh1 100:=by
 show N2?;show Gb?;show OJ? (GF! (by have#[a,zL,rfl]:=NK!;show Pf (ha a zL)))
 show Rk?;show NP? l;unfold E3;lia
def oU:Tv! [FP!,Jk!,"_law_one"] FP! Jp5:={}
inductive Jz1(vs:C!)(H:Hp)(Q:VK)(E:XK):B!
 | mk (x:Addr) (dd:DD) (_:vs=[Ko!]) (_:w3!) (_:zx dd) (_:nD! Jdy)
def Jf8{K:W.Frag}:JWq (Cu! LW!) E7! IR:=by rfl
def gRo(g:GG):ET 2 ni mH [FP!] Jz1:=by
 show c? g.mRo.fn.KG oU;have#[x,dd,rfl,hx,sm,k]:=h;show A?;show l?;show Cd? oU.nd b8! (IQ! (wq! (JiV xe! Jkk) oU.nd (TF! (Hz (JKU (bj! (if! E7! g.T.tuple GO)))) (JSP (pN! EQ (Zs! xY hr g.WV.mg g.WV.fn.kp g.WV.bd JD9))) (Ag (JSP (JTX EQ))))) (Ao (pv 1)));have#[xs,ex,pa]:=hx.row;have#[_,lv,la]:=J26 dd;have as:=Js7 sm;have lx:=AA! pa;show NK? x IE!;show#[AT? 1 A! x _ IE! ?_ Ba!];.rintro⟨z,_⟩;have z:JmB=0:=z;have e:JmB=min 1 (kD! 1):=P! HT.tT 1;rw[e] at z;show DN _ (BQ z)
 show Nz?;show Cb? xs hq;show#[q,A!,JEe,?_];have eq:IW! q PM! q PM!:=Ab;change lW! Pz! _ JPr _;have pa1:JlT JPr:=s3! (Sy! s1) pa;generalize VB! q xs=H1 at s1 eq pa1;show Fc? Mb q xs (λj σ H2=>H2=H1/\∃u2,σ=[WC!,D! (wp (E3 (Y_ dd) (bD! j))),u2]) #[A!,_,A!] (rL! (DB! eq));.rintro j v σ H2 hj ⟨rfl,u2,rfl⟩;have#[a,ha]:=QCE (TZ dd) lx;have av:=fm! pa1 a ha;have ma:=ZP ha;have sa:=as a ma;(have tk:bD! (j+1)=JJ8++[a]:=WN! ha);have l1:=J0f lv (as:=JJ8) (SZ (as b (Jgi hb))) (AA (xz JyF) la);(have l2:(QEY++Bl!).length<=101:=by rw[Hw];change(E3 (Y_ dd) (bD! j)).length+1<=101;show AE l1 FB);have l3:=Pf sa;have q1:mM! Bl!:=rfl;(have nx:QEY++Bl!++Gj a=E3 (Y_ dd) (bD! (j+1)):=AO! tk Jwu);cases a with | n i =>obtain rfl:v=IM!:=av;show L? #[_,_,_,IR,A!,IM!,Jf8,IR,A!,?_];show Cq #[C4?,_,A!,A!,JK3,_,A!,i,A!,Dj sa,_,_,A!,A!,?_,A!,JGM,?_];(.show IV? (Gj (.n i)).length;lia);.rw[<-nx];rfl | t i j' =>have#[t,rfl,et]:=av;show L? #[_,_,_,AC,A!,WP et,Jon,AC,A!,?_];show C4 #[_,A!,_,_,A!,A!,JK3,_,A!,t,(i,j'),A!,Mg!,sa,_,_,A!,A!,?_,A!,Dt! t,?_];(.show IV? (AZ! Gj (.t i j'));lia);.rw[<-nx];rfl
 .rintro σ H2 ⟨rfl,u2,rfl⟩;rw[lx,BS];show L? Wo!
structure Mv(p:Addr)(W:EF)(ys:i!)(W':EF)(EA:i!)(H H':Hp):B! where
 fr:VS!
 fp:cZ!
def Mv.refl{p:Addr}{W:EF}{ys:i!}(s:TD):Mv p W ys W ys H H':=#[λb o e _ _=>Q2!,SZ (QFC (UW! h))]
def Mv.trans{p:Addr}{W W' W2:EF}{ys EA ys2:i!}(a:JNw)(b:Mv p W' EA W2 ys2 H1 H2):Mv p W ys W2 ys2 H H2:=by
 have key:∀c o,AY! c o->c∉Gv!->c∉RI!->PF! H1 c/\c∉LB!/\c∉uS!:=ju! (by (have no:¬(c∈LB!\/c∈uS!):=λz=>by obtain h|h|h:=a.fp c z;(.show n1 h);(.show n2 h);.show Ad?);show#[JUv,Gs! no l!,Gs! no IN])
 show#[ju! ?_,Vj!];.have#[e1,n3,n4]:=wv c o e n1 n2;show b.fr c o e1 n3 n4
 .obtain h|h|h:=b.fp c hc;(.show a.fp c U0!);(.show a.fp c sj!);.cases e:H c with | none=>show BH? A! | some o =>by_cases n1:c∈Gv!;(.show F? n1);.by_cases n2:c∈RI!;(.show Bj? n2);.have:=JUv;show I? h;cases this
def Mv.pre{p:Addr}{W W':EF}{ys EA:i!}(s:K8!)(b:Mv p W ys W' EA H1 H2):JNx:=(Mv.refl s).trans b
def Mv.post{p:Addr}{W W':EF}{ys EA:i!}(b:JNw)(s:RG!):JNx:=b.trans (Mv.refl s)
def WI.FV{H H':Hp}{p:Addr}{W:EF}{D:db}{m n d A B:Nat}{al:V!}{ys:i!}(x:k!)(f:VS!):Ae!:=by
 have no:E6! (Ee!->((∃xs,o=WP xs)\/HN λob u=>o=.IV ob u)->HC!/\b∉RI!):=λb o e c=>by show#[Fw!,Fw!];(.have#[o',e',h1,h2]:=x.wa.some_at z;show i?;cases e';show Ro?;(.show h1 _ c);.show P! h2 c);.have#[y,hy,hb]:=Su! z;have#[o',e',h1,_,h2]:=QB0;show i?;cases e';show Ro?;(.show h1 _ c);.show P! h2 c
 show#[SA! (JmD JX2 JX2),λa o u e=>JmD JYG JYG]
abbrev LsK(hs:Addr)(H H':Hp):B!:=∀b xs,ru!->b≠hs->Z6! Tu!
def WI.lists{H H':Hp}{p:Addr}{W:EF}{D:db}{m n d A B:Nat}{al:V!}{ys:i!}(x:k!)(f:VS!):LsK C5! H H':=λb xs e ne=>f b _ e (x.wa.XN e ne) λz=>by have#[y,hy,hb]:=Su! z;have#[o,e2,_,h,_]:=QB0;rw[e] at e2;cases e2;show h _ A!
abbrev Ft(p:Addr)(W:EF)(ys:i!)(b:Addr):B!:=b∈Gv!\/b∈RI!
open S
variable {H H':Hp}{p r:Addr}{W W' V V':EF}{D D' E:T2->Prop}{m n d A B n1 d1 A1 B1:Nat}{al bl:List LL}{ys EA zs VS:List Qy}
def WI.JBk(x:k!)(k:o8! pp!)(kt:Ae!):JFj H' :=JC1 (x.wa.keep (Bh! (KK! k (DC! hb)))) (Fn x.lw kt) (Bh! (KK! k (IN (EC.mpr #[y,hy,hb])))) kt
def WI.lies(x:k!)(h:pp!):qI!:=by
 show Bs?;.have#[o,e,_]:=x.wa.some_at h;show#[o,e]
 .have#[y,hy,hb]:=Su! h;show Fp?;show#[o,e]
abbrev vp(p:Addr)(W:EF)(ys:i!)(r:Addr)(V:EF)(zs:i!):B!:=∀b,pp!->¬Ft r V zs b
def vp.symm(a:Job):vp r V zs p W ys:=λb h1 h2=>a b h2 h1
def vp.mv(a:Job)(x:k!)(y:WI H r V E m n1 d1 A1 B1 bl zs)(mv:JNv):QBo H' E/\vp p W' EA r V zs:=by
 show#[y.JBk (Bh! (mv.fr b o e (λz=>a b (DC! z) hb) (λz=>a b (Eg! z) hb))) (x.FV mv.fr),JDL];obtain h|h|h:=mv.fp b h1;.show a b U0! h2
 .show a b sj! h2
 .have#[o,e]:=y.lies h2;rw[h] at e;cases e
open E
open S
variable {H H' H1:Hp}{p r b:Addr}{W W' V V':EF}{D E:T2->Prop}{m n d A B n1 d1 A1 B1:Nat}{al bl:List LL}{ys EA zs:List Qy}{S:Nat->HS}
def Mv.off{o:HO}(mv:JNv)(e:Ee!)(n:zm!):Mb!/\¬Ft p W' EA b:=by
 show#[mv.fr b o e (λz=>n (l! z)) (Gs! n IN),Fw!];obtain h|h|h:=mv.fp b z;.show n (l! h)
 .show n (IN h)
 .show Ad?
def WI.new(x:k!)(h:BU!):zm!:=λz=>by have#[o,e]:=x.lies z;rw[h] at e;cases e
abbrev vW(d:PyData):B!:=∀es,d=Kg! es->∀e∈es,JT2 IO!
def Jw9{v:PyData}(h:∀ds,v=EO! ds->∀x∈ds,∃n,x=ZW! n):vW (VX v):=λes e1 e he ds e2=>by cases e1;show Fy?;(.show GS?);.rw[ZK h1] at e2;show h ds e2
def Jnj(L:X!):vW (VX (Sg L)):=Jw9 λds e x hx=>by cases e;have#[n,_,rfl]:=ZN hx;show#[n,A!]
def P0{v:PyData}(h:∀ds,v≠EO! ds):vW (VX v):=Jw9 λds e=>CT! e (h ds)
def Ef.pln{dv:PyData}(h:JzB Ef dd dv):vW dv:=by cases h with | IW _ q G G' v hi hs =>(cases hs with | make=>show Aw? | hold=>show Aw? | drop=>show Aw? | take=>show Aw? | free=>show Aw?) | no _ q G k =>intro es e1 e he ds e2;cases e1;show Fy?;(.show GS?);.show Cj? (ZK h1) | send=>show Aw? | clean=>show Jnj _ | ask=>show Aw? | HP=>show Jnj _
def RR.pln{dv:PyData}(h:JOl):vW dv:=by
 have rf:∀k,vW (RD k):=λk es e1 e he ds e2=>by cases e1;show Fy?;(.show GS?);.show Cj? (ZK h1)
 cases h with | ok _ _ _ e=>show e.pln | out=>show rf 0 | WH=>show rf 5
def J0h{v:L2.V}{e:PyData}(y:JoZ)(fr:JtM)(h:n8! e)(pl:JT2 (ZW! n)):Ik! Rep e:=by have kt:=y.FV fr;cases h with | one h=>show .one (h.keep kt) | @BK a xs ds h p =>show XV ?_ (wn! (Sf! kt));obtain (e|⟨o,e⟩)|z:=h;(.show l! (l! (y.lists fr a xs e Fw!));rw[z,y.wa.hs] at e;have e:V.qs.map (λq=>Ly! H!)=xs:=HO.BK.inj (ZO e);have#[q,hq]:=QAD V.qs 0 y.wg.wl.len y.m1;(have hx:xs[0]?=D! (Ly! H!):=by rw[<-e,ZH,hq];rfl);have#[d0,hd0]:=me! ds 0 (AA! p) hx;have rp:=A6 p 0 _ _ hx hd0;have#[k,rfl]:=pl ds A! d0 (ZP hd0);cases rp);(.show l! (IN #[o,JZs]));.show G? z
def Jwv{v:L2.V}{e:PyData}(y:JoZ)(fr:JtM)(h:vY K H v e)(pl:vW e):Ik! vY e:=by cases h with | @BI a xs ds h p =>show WP ((y.FV fr).sq h) (Fm (HZ! p) λj x d0 hx hd=>J0h y fr (A6 p j x d0 hx hd) (pl ds A! d0 (ZP hd)))
def Al.start(w0:Vw!)(v0:V.ls=[])(wc:W.c=0)(vc:V.c=0)(sh:JxZ)(wl:k5!)(vl:JyH)(we:QEU)(ve:∀i q G,Tq! (V.qs[i]?) (yD G i)):Al W V [] [] [] []:=by show#[Fm (Ck! wl vl) λj x y hx hy=>?_,A!,AO! w0 v0,AO! wc vc,sh,A!];have#[h,o,l,r',e]:=we j BK! x.2 hx;have#[h2,o2,l2,r2,e2]:=ve j BJ! Bi! hy;rw[e,e2];show#[A!,A!,A!,A!,A!,A!,A!]
open E
structure Nm(W:EF)(i:Nat):B! where
 c0:0<=W.c
 c1:W.c<=2400*AN!
 ls:ZV! (0<=As!/\As!<=W.c)
open S
variable {H H':Hp}{p:Addr}{W W':EF}{D D':T2->Prop}{m n d A B i:Nat}{al al':List LL}{ys EA:List Qy}{dd:DD}{dv:PyData}
def Nm.sm(x:RQ!)(h:i<=40):ZV! (Sm As!):=FI! (by have h1:=x.ls l hl;have h2:=x.c1;show#[h1.1,W!])
def Nm.up(x:RQ!):Nm W (Am!):=#[x.c0,by have:=x.c1;lia,x.ls]
def Nm.nv{WB L:X!}(x:RQ!)(nv:fN!)(sub:rP!)(ll:rQ!):Nm W' (Am!)/\JWg:=by
 have hl:L.length<=2400:=by rw[nv.ls,ZE] at ll;show AA Uz! ll
 have c0:=x.c0;have c1:=x.c1;have new:JWg:=λl fq=>by (have h1:As!∈nums W.c L.length:=rv! nv.nu BJ fq);have#[j,hj,e]:=QB!;show DK?;rw[nv.c,<-e];constructor<;>lia
 show#[#[U! nv.c (QH c0 NE!),U! nv.c (Int.add_le_add c1 (EM! hl)),λl fq=>?_],new];rw[nv.ls] at fq;show p? fq;.have:=x.ls l (BO! l h);rw[nv.c];show#[OW!,W!]
 .show new l h
def uZ.sub{BX:Int}{L:X!}(h:JRS):∃WB,fN!/\rP!:=by
 have#[l1,l2,t,a,z,b,el,_,_,nv,_]:=h;show#[_,nv,Fy!];rw[el];show GB?;.show IS!
 .show Cg?
def RR.nm(e:JOl)(x:RQ!)(ll:rQ!):Nm W' (Am!):=by show Ks?;cases e with | out _ _ e=>rw[e];show x.up | WH _ _ e=>rw[e];show x.up | ok _ _ _ e =>cases e with | IW _ q G G' v hi hs e nv=>show Dq? | no _ q G k hi rf e=>rw[e];show x.up | send h g tb q G G' l t hi hb se e nv=>show Dq? | clean h q G k R rs L hi rc pm pw e nv=>show Dq? | ask h io I L e nv=>show Dq? | HP BX L dl =>have#[WB,nv,sub]:=dl.sub;show(x.nv nv BO! ll).1
abbrev SmN(L:X!):B!:=L.length<=5000/\∀n∈b2!,Sm n
inductive gh:DD->BC! CW! Ag!
 | make (h:Nat) (t:T2) (s:UH t):gh s2! (OM t) (A7 t)
 | hold (h:Nat) (a b:T2):xA! Lz!
 | drop (h:Nat) (a b:T2):xA! J0!
 | take (h:Nat) (a b:T2):xA! J1!
 | free (h:Nat) (b:T2):gh (Ha! h b) GM "ok"
 | send (h g:Nat) (b:T2) (n:Int) (s:Sm n):JlI (L0! h g b)
 | ask (h:Nat) (n:Int) (s:Sm n):JlI s1!
 | clean (h:Nat) (L:X!) (s:SmN L):JoP eR!
 | HP (n:Int) (L:X!) (s:SmN L):JoP (.HP n)
def RR.tx(e:v9!)(wi:k!)(hn:SL)(x:RQ!)(hi:i<=39)(ll:rQ!):∃z,w7!:=by
 have nums:∀{WB L:X!},fN!->(rP!)->SmN L:=λ{WB L} nv sub=>by show k? (x.nv nv BO! ll);have c1:=h1.c1;rw[nv.ls,ZE] at ll;show#[W!,Vn!];have#[l,hl,rfl]:=ZN hk;have:=h2 l hl;show#[OW!,W!]
 show Ks?;have m5:=wi.m5;generalize ed:VX dv=u at e;cases e with | out=>cases ed | WH=>cases ed | ok _ _ _ e =>cases e with | no=>cases ed | IW _ q G G' v VW hs e nv =>cases ed;(cases hs with | make h _ a =>have#[sd,nu]:=wi.wg.BX VW;(have il:AW!:=Z0! wi.wg.wl.len VW);show Jj? VW;have md:=wi.md;have m0:=sd.m0;have nu:G.BX=bv:=nu;show#[_,Sw! h _ #[#[KN! (0<=G.BX) (nu▸NE!),mF! (G.BX<=100000)],#[m0,mF! (G.AY<=100000)]]] | hold h a b=>show#[_,Lz! h a b] | drop h a b=>show#[_,J0! h a b] | take h a b=>show#[_,J1! h a b] | free h b=>show#[_,Ha! h b]) | send h g tb q G G' l t VW hb se e nv =>cases ed;have:=x.c0;have:=x.c1;show#[_,L0! h g tb _ JM3] | clean h q G k R rs L VW rc pm pw e nv =>cases ed;show#[_,ZU! h L (nums nv.toNv xQ)] | ask h io I L e nv =>cases ed;have:=wi.iz;show#[_,.ask h _ tM!] | HP BX L dl =>cases ed;have#[WB,nv,sub]:=dl.sub;show#[_,.HP BX L (nums nv BO!)]
open E
def fb:HI! EP!/\HI! GK!/\HI! AU!/\HI! GL!/\HI! JT!/\Wn! BM!/\Wn! FC!/\Wn! FD!/\Wn! FE!:=ZV
def zg:RD! EP!/\RD! GK!/\RD! AU!/\RD! GL!/\RD! JT!:=ZV
def bb{P:B!}{b:Bool}(h1:Rv!)(h2:b=false):P:=by rw[h1] at h2;cases h2
def kA{R:ED!}{xs:R!}{a:β}(h:mA! [a]):∃x,xs=[x]/\R x a:=by cases h with|cons r h=>show Ch? h r
def pr2{R:ED!}{xs:R!}{a b:β}(h:mA! N1!):HN λx y=>xs=[x,y]/\R x a/\R y b:=by cases h with|cons r h=>have#[y,rfl,r2]:=kA h;show#[_,_,A!,r,r2]
def pr3{R:ED!}{xs:R!}{a b c:β}(h:mA! Y3!):M_ λx y z=>xs=[x,y,z]/\R x a/\R y b/\R z c:=by cases h with|cons r h=>have#[y,z,rfl,r2,r3]:=pr2 h;show#[_,_,_,A!,r,r2,r3]
def Jm6{H:Hp}{v:V}{ns:q!}(h:n8! (EO! (Bj! PP))):∃l,v=IR!/\hW!:=by generalize e:PyData.list (Bj! PP)=u at h;cases h with | one h=>cases h<;>cases e | @BK a xs ds sq pr =>cases e;show#[a,A!,?_];(have:∀{xs:C!} {ns:q!},Q5! xs Bj! ZW!->xs=Bj! A2!:=λ{xs ns} pr=>by induction ns generalizing xs with | nil=>cases pr;rfl | cons n ns ih =>cases pr with | cons r pr=>cases r;rw[ih pr];rfl);rw[<-this pr];show sq
def Jr8{H:Hp}{v:V}{n:Int}(h:n8! b5!):v=IO!:=by cases h with | one h=>cases h;rfl
def J38{H:Hp}{v:V}{t:T2}(h:Gp! Rep v OM t):yA!:=by generalize e:OM t=u at h;cases h with | one h=>subst e;show h.th | BK=>cases e
open S
variable {H:Hp}{p pw:Addr}{V:EF}{D:T2->Prop}{m n d B B' i:Nat}{al:List LL}{ys:List Qy}{dd:DD}{Q:VK}{E:XK}
def Jy3(g:GG)(S:F2!)(x:WI H pw V D m n d 0 B al ys)(hn:SL)(hB:Bx!)(hd:M7!)(m4:Fx!)(cB:fi!)(hB':B'<=2400)(nm:Nm V i)(hi:i<=39)(sm:zx dd)(k:∀(z:Str) (dv:PyData) (W':EF) (D':db) (al':V!) (EA:i!) (H0 H':Hp),NX! H0->w7!->JqH H0->JwS H'->Mv pw V ys W' EA H H'->tu!)(kE:∀cls i H0 H',TD->dQ AD! i->JqG H0->nG! AD!):QAc Jdy:=by
 show B?;show Rs? (Y_ dd) (TZ dd) (J26 dd).1 (Js7 sm) ?_;show r?;have x1:=S0! s1;have bad:∀cls i,dQ AD! i->JqG H1->E (UV AD!) SB H1:=λcls i xf ef=>kE AD! i H1 H1 s1 xf ef;have fin:∀{v:L2.V} {dv:PyData} {W':EF} {D':db} {al':V!} {EA:i!} {H2:Hp},JqH H2->JwS H2->Wz pw V ys H1 H2->Fp pw V ys W' EA H1->∃z,w7!/\∀H',NX! H2->tu!:=λ{v dv W' D' al' EA H2} ef wi fr fp=>by have#[z,tx]:=ef.tx x1 hn nm hi (wi.P' hB');show#[z,tx,λH' s=>k z dv W' D' AL! EA H2 H' s tx ef (ZX! s) ((Mv.pre s1 #[fr,fp]).post s)]
 cases dd with | make h =>show B7? fb.1 zg.1;show AJ?;show HA? Sw! Sw!;show A8?;show Be?;(cases tx with | make _ t st =>have#[a,rfl,sq]:=J38 tl.rep;show#[a,t,A!,sq,st.1,st.2,λH' s=>AE! ez (kq H' s)]) | hold h ta tb =>show Es? JKa JKa Lz! Lz! | drop h ta tb =>show Es? JEL JEL J0! J0! | take h ta tb =>show Es? JGI JGI J1! J1! | free h tb =>show#[PK!,λc=>bb JJ0 c,λc=>bb JJ0 c];have#[_,_,rfl,rfl,#[b,rfl,eb]]:=pr2 pa;show Ha! p pw r b V h A! S1 er (JxO (Ha! h tb));show A8?;cases tx;show kq _ Kc! | send h t tb =>show B7? fb.2.1 zg.2.1;have#[_,_,_,rfl,rfl,rfl,#[b,rfl,eb]]:=pr3 pa;show L0! p pw r b V h t A! S1 er (JxO (L0! h t tb));show A8?;show Be?;(cases tx with | send _ _ _ j sj =>show OT?) | clean h =>show B7? fb.2.2.2.1 zg.2.2.2.1;show AJ?;show HA? ZU! ZU!;show A8?;show Be?;(cases tx with | clean _ L sL =>show QU?) | ask h =>show B7? fb.2.2.1 zg.2.2.1;show AJ?;show HA? .ask .ask;show A8?;show Be?;(cases tx with | ask _ j sj =>show OT?) | HP BX =>show B7? fb.2.2.2.2.1 zg.2.2.2.2;show AJ?;show .HP p pw r V BX A! S1 er (Gy (dd:=.HP BX) g x1 hn hB hd m4 cB (λv dv W' D' al' EA H2 tl ef wi fr fp eh=>?_) bad);show A8?;show Be?;cases tx with | HP _ L sL =>show QU?
open E
def oW:Mn! [Of!,Jk!,lB!,Oc!] Of! Jk! Jwm:={}
inductive Jpz(vs:C!)(H:Hp)(Q:VK)(E:XK):B!
 | mk (p:Addr) (z:Str) (R:oX!) (RE:r4!) (_:Zn! II!) (_:JXw)
   (_:∀H1,K8!->∀(Q':VK)(E':XK),(∀v H2,R v H2->Q' v H2)->(∀c i H2,dQ c i->RE i H2->E' (UV c) SB H2)->Nc [Cc!,II!] H1 Q' E')
   (_:∀(v:V)(H2:Hp)(t:Addr),R v H2->b3! t->JNE JE0)
   (_:∀(i:Nat)(H2 H4:Hp)(t:Addr),RE i H2->i<8->BV H2 H4->bh! t fn!->b7! H4)
def gLs(g:GG):ET 9 nU m9 [Of!,Jk!] Jpz:=by
 show c? g.pP.fn.KG oW;have#[p,z,R,RE,rfl,#[dx,x,hp],kS,k,kE]:=h;show A?;show P?;show RV? oW.nd oW.nd (JTP (QAL g.TK.cl g.mSy.mt gSy g.mSy.bd Kp!)) (JTP JwQ);show JQ?;show NU?;show My?;show#[LW? (Jpd ZV) (kS H1 s1 _ _ (λv H2 r=>lv! (Bp! ?_)) (λcls c H2 xf re=>#[AD!,Ao! xf.sub,λex hx=>Bp! #[AD!,c,A!,Ab,xf,λH4 s4=>lL! (λt5 h5=>Bp! ?_)]]))];.show k v H2 t r ht
 .show kE c H2 _ t5 re xf.lt (G7! (Ah hx) s4 (Ah h5)) Ab
open E Lake.K52
open N Lake.FX
open PySem PySem.Spec PyProof.Rows L2
abbrev Jvx(K:W.Frag)(wi:TI)(caps:By!)(tt:TT)(te:TE):TE:=hC! (Gr! /\
 hL! (JL7 (BX!/\yB! JyI/\JM8 tt H3 (λb H4 =>
   if Rv! then JM8 te H4 IT!
   else aB!))))
open S
variable {X:Cx Kx}{elt iter:Expr}{x y0 y1 y2 y3:Str}{px cx uz uy ux pt pos:Pos}{kt:Nat}{ifs:List Expr}{sc:Scope}{cl:List (Str×Addr)}{caps:List (Str×Nat)}{wi:TI}{tt:TT}{te:TE}
def Jrf{X:E!}{AB:Ch}{σ:L2.St}{H:Hp}{s:Shared}{Q:VK}{use:XF!}{RQ:NE}(hc:A1!)(hi:JQg)(KA:HV!)(JH:HT!)(ID:Ex!)(II:HW!)(hx:HH!)(iP:ej!)(vH:JHS)(rN:JHR)(vG:JHT)(KH:EF!)(has:HX!)(MA:EE!)(hN:zh!)(ht:JKx)(he:JKv)(I:I!)(h:JU7 Q)(fin:Xm!)(hs:HY!) : JPC fk! [KA! x px,KA! y0 cx,KA! y1 uz,KA! y2 uy,KA! y3 ux]:=by show DR?;have JBI:JOT:=FR iP;have JBH:oo! y1:=FR vH;have JBG:oo! y2:=FR rN;have JBF:oo! y3:=FR vG;show KG? [x,y0,y1,y2,y3] (JL7 (JeT JyI (QAV u v v2 v3 v4)));show Ey?;have#[ay,uu,vv,vv2,vv3,vv4,ey,rP,q]:=b7;.show Gq?;show Ha?;have#[w2,r2,rfl,l2]:=D6 l1;have#[w3,r3,rfl,l3]:=D6 l2;have#[w4,r4,rfl,l4]:=D6 l3;show DH? l4;show RU? (x::y0::y1::y2::y3::TB!) (Cu (Cj (i:=0) hN A! (DC! iS) (Eg! iS)) (Cu (JMl JBI JBI) (Cu (br! 2 JBH JBH) (Cu (br! 3 JBG JBG) (Cu (br! 4 JBF JBF) Hk))))) (w2::w3::w4::O4!) (QAV uu vv vv2 vv3 vv4) #[ay,_,ey,rP,A!,_,_,A!,_,_,A!,_,_,A!,_,_,A!,_,_,A!,A!,A!,A!];show Ez?;show#[[D! uu,D! vv,D! vv2,D! vv3,D! vv4],A!,I8,q]
def Jw4{X:E!}{i:Nat}{y:Str}{py oS:Pos}(rW:X.N.Nodup)(VW:JKe)(hy:JX1)(hsw:JtI fk!)(hc:A1!)(hi:JQg)(KA:HV!)(JH:HT!)(ID:Ex!)(II:HW!)(hx:HH!)(iP:ej!)(vH:JHS)(rN:JHR)(vG:JHT)(KH:EF!)(has:HX!)(MA:EE!)(hN:zh!)(ht:JKx)(he:JKv)(hs:HY!:=by show Aa?) :
 JsV fk! (JU7 Jgs):=by
 show V?
 show MQ?
 show JU?
 show Qw? fk!
 show MI? (Jrf (use:=JDP) (RQ:=JVm) hc hi KA JH ID II hx iP vH rN vG KH has MA hN ht he I h JVJ hs)
 subst hC
 show Ol?
 show Q6?
 have hCa:JH0:=by
  obtain z|z:=ha
  .rw[z];show EM I1.lt
  .intro z2
   show OA?
   show M8?
 show Op?
open E
def Jrd{K:W.Frag}{a p:Addr}{xs:C!}{tt:TT}{te:TE}{caps:By!}{σ:L2.St}{H:Hp}{Q:EA!}(Pv:LA!)(h0:LP!)(hl:JQt)(hs:∀i x ys H2 (N:Go!),PP!->Pv i ys H2->(QAk)->JjK (DF K H2 a' JyJ) H2 (λb H4 =>Z1! (Jdr a0!) (N ys H4)))(hd:RN!) : Ew! (Eu! (Ep! (VA K a).stop DK! (VA K a).go (VA K a).SM (JjK (DF K H3 a' JyJ) H3 (Fv! (Jdr IT!))))):=by
 show DM?;show B9?
 show B5?
open E Lake.FX
open N Lake.K52
open PySem L2 FX
abbrev iL:LL->Str×js!
 | .w l=>(l.kind,l.s,l.g)
 | .lt s g _=>(GS!,s,g)
 | .ask s g _ _=>(AU!,s,g)
 | .MN s g _ _ _ _=>(Jr!,s,g)
abbrev SG(m:Nat)(z:LL):B!:=(0<=xj!/\xj!<m)/\0<=x3!/\x3!<m
open S
variable {H H' H0:Hp}{p:Addr}{W W':EF}{D D':T2->Prop}{m n d A B n' d' A' B' i:Nat}{al al':List LL}{ys EA:List Qy}{dd:DD}{dv:PyData}
def Jz4(x':Ns!){l:LT}(h:LL.w l∈al')(s:0<=l.s/\l.s<m):SG m (.w l):=by
 have#[a,b,e]:=HI h;have hl:l∈LM AL!:=PX! (Jaz e)
 have#[g0,g1,_]:=x'.wg.wl.ok _ hl;show#[s,g0,g1]
def RR.sg(e:hX!)(x:k!)(x':Ns!)(s:rI!):∀z∈al',SG m z:=by
 have inm:∀{h:Nat} {q:Addr} {G:CU},Tq! (W.qs[h]?) (L6!<=bv/\bv<m):=λ{h q G} hi=>by have:=DH! hi;show I? k3!;constructor<;>lia
 cases e with | out _ _ _ ea=>rw[ea];show s | WH _ _ _ ea=>rw[ea];show s | ok _ _ o e =>cases e with | IW _ q G G' v hi hs e nv ea=>rw[ea];show s | no _ q G k hi rf e ea=>rw[ea];show s | send h g tb q G G' l t hi hb se e nv ea =>intro z hz;have fg:=hz;rw[ea] at fg;show DJ?;(.show s z h1);(.rw[ZK h1] at hz ⊢;show Dv?;(have:l.s=bv:=by obtain⟨_,_,rfl⟩|⟨_,_,_,rfl⟩|⟨_,_,_,rfl⟩:=se<;>rfl);show K?;show inm hi) | clean h q G k R rs L hi rc pm pw e nv ea =>intro z hz;have fg:=hz;rw[ea] at fg;show DJ?;(.show s z h1);.have#[l,hl,rfl]:=QB!;show Dv?;have#[r,_,rfl]:=ZN hl;show inm hi | ask h io I L e nv ea =>intro z hz;rw[ea] at hz;show Fx?;(.show s z h1);.have#[j,hj,rfl]:=QB!;show DK?;have o:AW!:=o;show#[#[wW! bv,wy! bv o],wW! lc,wy! lc this] | HP BX L dl =>have#[l1,l2,t,a,z0,b,el,es,_,nv,dv]:=dl;have old:∀z∈A5!,SG m z:=Al! (s z (by rw[es];show p? hz;(.show IS!);.show Cg?));have s0:=s z0 JPt;cases z0 with | w l =>have#[_,_,q,G,G',bs,hi,we,_,ea]:=dv;intro z hz;have fg:=hz;rw[ea] at fg;show DJ?;(.show old z h1);(.have#[l',fq,rfl]:=QB!;show Dv?;(have hl:l∈Mr!:=PX! (Jaz es));have#[g0,g1,_,kk]:=JM5;obtain⟨_,_,rfl⟩|⟨kp,we⟩:=we;(.cases fq);(·(have gt:dM!:=by show Q8?;(.show G5?);(.show G5?);(.show G5?);.show e);(have:l'.s=GW!:=by obtain⟨_,_,rfl⟩|⟨_,_,rfl⟩:=we;(.rw[ZK fq]);.show D? (ZM fq);(.rw[h]);.rw[ZK h]);rw[this,<-gt];show#[g0,g1])) | lt s' g ts =>have#[_,_,q,G,hs,os,rs,hi,_,_,ea]:=dv;intro z hz;have fg:=hz;rw[ea] at fg;show DJ?;(.show old z h1);.have#[l',fq,rfl]:=QB!;show Dv?;have#[r,_,rfl]:=ZN fq;show s0.2 | ask s' g n0 u =>have#[_,_,_,q,G,hs,os,rs,hi,_,ea]:=dv;intro z hz;rw[ea] at hz;show Fx?;(.show old z h1);.rw[ZK h1];show#[s0.2,s0.1] | MN s' g n0 u tick S =>have#[_,y,y',i1,i2,new,e1,e2,e3,e4,e5,e6]:=dv;intro z hz;rw[e5] at hz;show Fx?;(.show old z h1);.have key:∀j:ut,j<m->(Fu!/\g<m)/\L6!<=lc/\lc<BV!:=λj hj=>#[s0.2,DI!,C0! hj];obtain⟨_,_,_,_,⟨rfl,_⟩|⟨rfl,_⟩⟩|⟨_,_,_,⟨rfl,_⟩|⟨_,ts,xf,as,rfl,_⟩⟩:=e6;(.cases h1);(.show PZ?);(.cases h1);.show PZ?
abbrev Z_(ns:q!)(al:V!):tN!:=Du! ns.zip al (λy=>(BJ!,iL Bi!))
def MZ.JJm{G_:X!}{y:Lm!}{z:LL}(h:XS!):∃v,JGs [g! BJ!,bn p5!,g! xj!,g! x3!,v]:=by cases z with | w l=>show IA? | ask s g n u=>show IB? | MN s g n u t S=>show IC? | lt s g ts=>show ID?
def Jq0{G_:X!}:∀{ls:X!} {al:V!},Cd! (MZ H G_) ls al->WA! J76 ls (Z_ (S2! Hr!) al)
 | _,_,.nil=>a!
 | _,_,.cons r t=>Os (by have#[v,e]:=r.JJm;show#[v,FF! e]) (Jq0 t)
def Jx5{ns:q!}{al:V!}{l:qd!}(h:l∈Z_ ns al):As!∈ns/\∃z∈al,l.2=iL z:=by have#[y,hy,rfl]:=ZN h;show#[(LW hy).1,Bi!,(LW hy).2,A!]
def Jz3(x:k!){z:LL}(hz:Oy!):(iL z).1.length<=10:=by cases z with | w l =>have#[a,b,e]:=HI hz;show Js?;change l.kind.length<=10;(obtain h|h|h|h:=JDI<;>(rw[h];show u?)) | lt=>show EQ? GS! | ask=>show EQ? AU! | MN=>show EQ? Jr!
def Jqz(x:k!)(hB:Bx!)(nm:RQ!)(hi:i<=40)(s:rI!):vr!:=by
 show Bb?;show#[?_,Fy!];.unfold Z_;rw[ZA,List.length_zip,ZA];have:=x.P' hB;lia
 .have#[h1,z,hz,e]:=Jx5 hl;have#[y,hy,e1]:=QB!;have e1:BJ!=As!:=e1;have sz:=HG! s;have sl:=Jz3 x hz;rw[e,<-e1];show#[nm.sm hi y hy,#[sz.1.1,QF! sz.1.2],#[sz.2.1,QF! sz.2.2],sl]
open E
def J0g{v vb:Str}{a:FX.Arg}(h:vb.cps.toList=v.cps.toList++[32]):vb++Gj a=E3 v [a]:=by show Lm ?_;have e:(E3 v [a]).cps.toList=v.cps.toList++32::(Gj a).cps.toList:=Eh 32 v (Gj a) [];rw[e];change(vb.cps++(Gj a).cps).toList=_;rw[LJ,h];simp
def Jta(n:Int)(kd:Str)(s g:Int):EZ n++":"++kd++":"++EZ s++":"++EZ g=iE iU!:=by
 show Lm ?_;have e:(iE iU!).cps.toList=(EZ n).cps.toList++58::(kd.cps.toList++58::(Vm! s++58::(EZ g).cps.toList)):=by change(Dg! (BL! 58) [EZ n,kd,EZ s,EZ g]).cps.toList=_;rw[Eh,Eh,Eh];rfl
 rw[e];change((((((EZ n).cps++qg!)++kd.cps)++qg!)++(EZ s).cps++qg!)++(EZ g).cps).toList=_;simp
open S
variable {H:Hp}{p pw:Addr}{V:EF}{D:T2->Prop}{m n d A B i:Nat}{al:List LL}{ys:List Qy}
def pR:HI! A4!/\HI! EQ!/\HI! Ah!/\Q6! A4!/\Q6! EQ!/\Q6! Ah!:=ZV
def J1f:HI! am/\HI! Dh!/\Q6! am/\Q6! Dh!:=ZV
def Wg.uf{D:db}{m n:Nat}{sh}{qs:No}{ls}(x:B0!){j:Nat}{q:Addr}{G:CU}{t:T2}(hj:nV!)(h:Fm!):AV!=lc/\c9!:=by have#[s,nu]:=Dn! hj;have:=Op! t h;show I? nu;show this
def Jun{Q:VK}{E:XK}{h:Nat}{q:Addr}{G:CU}{hs:F!}{os:sK}{rs:Q!}(S:F2!)(x:I9!)(hn:SL)(hq:Qd!)(GX:Bw!)(k:W7! Lj!):JQr:=by
 show JN?;show KS?
 show NZ? W!;show AJ?;show r?;show Il?;show Ee?;show NT? GY! (Ak! (x.sm hn hq (l! (PO! GX.pm.mem_iff.mp ht))));have:=GX.pm.length_eq;have:=gd.h2;lia
def Joi{Q:VK}{E:XK}{h:Nat}{q:Addr}{G:CU}{hs:F!}{os:sK}{rs:Q!}(S:F2!)(x:I9!)(hn:SL)(hq:Qd!)(GX:Bw!)(sm:xc!)(k:W7! fE!):JQs:=by
 show JN?;show KS?
 show Na? W!;show AJ?;show r?;show Il?;show Ee?;show NT? J3! D0!;.have:=GX.ND.pm.length_eq;rw[ZA] at this ⊢;show Ck?;have:=gd.o2;lia
 .show Fz? ht;show sm r hr
def Jum{Q:VK}{E:XK}(S:F2!)(x:I9!)(sm:vs!)(k:nD! (JlR k8!)):QAc Ah!:=by show B?;show Rs? Ah! [] A! (JB4) #[λc=>bb c pR.2.2.1,λ_ c=>bb c pR.2.2.2.2.2,λ_ _=>?_];show J4! p pw r V _ A! (Jp! s1) (Jq0 (S0! s1).lw) sm (QFY k)
open E
def Ja4{p a:Addr}{H:Hp}{xs:C!}{ts:F!}{te:TE}{σ:L2.St}{Q:EA!}(hp:G1!)(ea:dv!)(len:JyK)(z1:dE!)(pr:JuL)(k:Jfw) : Ew! (Eu! (Ep! (YA K a).stop DK! (YA K a).go (YA K a).SM (bd! xQ! H3 (Fv! (JQb IT!))))):=by
 show Ol (K:=K) (a:=a) (p:=p) (xs:=xs) (tt:=PR!) (te:=te) (AJ!:=[]) (σ:=σ) (OZ! (Ei!/\pn!/\Gr!)) #[Ah hp,A!,Ab] (bA! #[Mc! pi ea,h.2.2]) ?_ ?_;show RN?
 show J7?
def Oo{ts:F!}(z2:Y1! (UH t)):JAI (Ho! A7):=GF! (by have#[t,ht,rfl]:=NK!;show AA (Pf (a:=.t AV! A7!) (z2 t ht)) FB)
abbrev uW:TE:=Pn Jmn [] E0 UH!
open E Lake.K52
open N Lake.FX
open PySem PySem.Spec PyProof.Rows L2
open PySem.Builtin PySem.Builtin.Str
abbrev R9(z y:Str):C!:=match JUx with
 | i::_=>JuZ
 | []=>h0!
inductive J6p(x:V)(vs:C!)(H:Hp)(Q:VK):B!
 | mk z y (_:Vb!) (_:so! y) (_:JFr) (_:jN!) (_:JKt (R9 z y))
def Jsi{X:E!}:sC X "str.partition" J6p:=by show AF?;show H0?;show X?;show H1?;show PH F.slot_str_partition ea! F.entry_str_partition (xz F.args_str_partition_2) (meets_str_partition z y t u hy hz) ?_;unfold R9 at q;cases ho:JUx with | cons i is =>show PR? (s.toks+1+1) JuZ | nil =>show PR? (s.toks+1) h0!
def Jnm{c:Nat}{z a b:Str}(hz:z.cps.toList=JAg)(ha:c∉a.cps.toList):R9 z (BL! c)=[bn a,QV! BL! c,bn b]:=by
 have at_:∀i,StrLaws.At z (BL! c) EN! i↔JOF:=λi=>JyL _ c i;have ea:z.cps.toList[a.length]?=D! c:=by rw[hz,ER!];simp
 have e1:JXi=1:=rfl;have ho:∃is,jU! z (BL! c) 0 EN! 1=a.length::is:=by obtain⟨_,h⟩|⟨i,r,e,h1,h2⟩:=JmJ;(.show DL! (at_ _).mpr ea (h _));.show#[r,?_];(have hi:i=a.length:=by have n1:¬a.length<i:=λz=>h2 _ z ((at_ _).mpr ea);(have n2:¬i<a.length:=λz=>by have q:=(at_ i).mp h1;rw[hz,TG! IK ER! z] at q;show ha (ZP q));show DP (Cy! n1) (Cy! n2));rw[<-hi];show e
 have#[is,ho]:=ho;unfold R9;rw[ho];have l1:ZY! z 0 a.length=a:=Lm (by rw[JyM,hz,ER!];simp);have l2:ZY! z (Vr!) EN!=b:=Lm (by rw[JyM,ER! z,hz,ER! a];rw[IB (by simp),bF! (a.cps.toList.length+1=Fq! JAf),bF! (JAg=(JAf)++b.cps.toList),List.drop_left]);change [AT! (ZY! z 0 a.length),QV! BL! c,bn (ZY! z (a.length+JXi) EN!)]=_;rw[e1,l1,l2]
def J0r{c:Nat}{z:Str}(ha:c∉z.cps.toList):R9 z (BL! c)=h0!:=by
 unfold R9;obtain⟨e,_⟩|⟨i,r,e,h1,_⟩:=JmJ;.rw[e]
 show Al? (ZP ((JyL _ c i).mp h1)) ha
open E Lake.FX
open N Lake.K52
open PySem L2 FX
abbrev FdR(H:Hp)(e:Lm!)(q:Int×F!):B!:=H!=e.1/\∃as:S!,AY! e.2 f3!/\PQ! Rs
structure Fd(H:Hp)(W:EF)(fo:DR!):B! where
 at_:JaE W.IF
 sm:∀q∈fo,Tl Rs
def Fd.keep{H H':Hp}{W:EF}{fo:DR!}(x:W6!)(k:Ae!):Fd H' W fo:=#[Ax (SW! (by have#[e,as,h1,h2]:=h9;show#[e,as,TK! h1,h2.keep k])) Ss!,x.sm]
abbrev RG(fo:DR!)(n:Int):F!:=((fo.find? (EZ! (H!=n))).map B1!).getD []
def Fd.small{H:Hp}{W:EF}{fo:DR!}(x:W6!)(n:Int):Tl (RG fo n):=by unfold RG;cases e:TW! fo.find? (H!=n) with | none=>show#[Ax!,λt h=>Ic!] | some q=>show x.sm q (BE e)
def J5e{H:Hp}{ls:X!}{fo:DR!}(p:JaE ls)(n:Int):(qF!/\RG fo n=[])\/HN λ(y:Addr)(as:List Addr)=>QAQ ls=D! ad!/\AY! y f3!/\PQ! (RG fo n):=by rw[Ir];induction p with | nil=>show F? DQ! | @cons e q ls fo r p ih =>have#[e1,as,h1,h2]:=r;show C? (e.1=n);(.show h? #[e.2,as,?_,h1,?_];(.rw[CM,AM c];rfl);.unfold RG;rw[CM,AM (iw! c)];show h2);.have c':¬H!=n:=m9! e1.symm.trans;rw[CM,AN c];(have:RG (q::fo) n=RG fo n:=by unfold RG;rw[CM,AN c']);show K?;show ih
def J53{H:Hp}{as:S!}{ts:F!}(h:F5!):WA! de (Bd! Ly!) ts:=by induction h with | nil=>show a? | cons r p ih=>show A6? (Bp! (DB! r))
abbrev J7z:F!:=JRb (λ(a:Nat)=>JNI (λ(b:Nat)=>(bi a,bi b)))
def Jza{t:T2}(h1:0<=AV!)(h2:AV!<12)(h3:0<=A7!)(h4:A7!<60):t∈J7z:=JdM t.1.toNat (JHX qR! (OC! (BM h1) (BM h3)))
open S
variable {H H':Hp}{p pw:Addr}{W V:EF}{D:T2->Prop}{m n d A B i:Nat}{al:List LL}{ys:List Qy}{fo:List (Int×List T2)}
def Jo2{y:Qy}{c:NO!}{ts:F!}(x:k!)(hn:SL)(hy:St!)(f:Jds):Tl ts:=by
 show Bb?;have key:Y1! JlM:=Ak! (by have#[w,hw,rfl]:=ZN ((f.mem t).mp ht).1;have#[S,hS,hw]:=Su! hw;have#[k,hk,_,rfl]:=XM.mp hS;unfold My at hw;cases e:y.fi.find? (QAI Ac!) with | none=>rw[e] at hw;cases hw | some r =>rw[e] at hw;have hr:=BE e;(have er:AT=Ac!:=Q7!);have f1:=(Jw! y hy).f1 r hr;have#[#[q,G],hi]:=QAD A9! k k3! hk;have h1:=f1.nw k q G hi er w hw;have#[h2,h3,_]:=f1.so.oz w hw;show SI? UY! EW! hi;have md:=x.md;rw[h2,er];show#[DI!,BL (C0! hk) (EM! m5),h3,W!])
 have nd:kO!:=j6! (S:=λa b=>Rk!) (λ{a b} h e=>Im b (by show x?;show h)) f.pw;show#[AA (Jx0 (m:=J7z) nd D0!) ZV,D0!];.show HV?;show Jza h1 h2 h3 h4
 .show HV?;show#[#[h1,JYH h2],#[h3,JYH h4]]
def WI.asked(x:k!)(k:Nat):(∃l∈W.MY,As!=Ac!)↔JVV:=by
 have e:ww W.MY.map=(AR! jQ!).map JWY:=JSW x.pS
 show g?;.rintro⟨l,hl,e1⟩;have:JaQ:=PN! #[l,hl,e1];show I? e;have#[j,hj,ej]:=ZN this;show DK?;show#[W!,B_.mp (BL (JO ej.symm) (C0! this))]
 .show A3?;(have:JaQ:=b0! (JHX (k-1) W!));have#[l,hl,e1]:=ZN this;show#[l,hl,e1]
def Jsp{Q:VK}{E:XK}{k:Nat}(S:wn)(x:k!)(fd:W6!)(k1:JWu (∀(a y:Addr) (b:Bool) (as:S!) (H':Hp),TD->WI! JZC->S7! H' f3!->CB H' as (RG fo Ac!)->TC! a))(kE:JeI JGm):Z3! Pw (g! Ac!):=by
 show#[p,Ac!,W,A!,S,?_];show C? JVV;.show h? #[(x.asked k).mpr c,λa y b H' s ea z=>?_];have zQ:=CK! fd.keep s;obtain⟨e1,e2⟩|⟨y',as,e1,e2,e3⟩:=J5e zQ.at_ Ac!;(.obtain⟨_,z⟩|z:=z;(.show k1 c.1 c.2 a y b [] H' s ea z (o! e2 a!));.rw[e1] at z;cases z);.obtain⟨z,_⟩|z:=z;(.rw[e1] at z;cases z);.rw[e1] at z;have:y'=y:=L2.V.ref.inj (ZO z);subst this;show k1 c.1 c.2 a _ b as H' s ea e2 e3
 .show F? #[OT! (c ((x.asked k).mp #[l,hl,e])),kE c]
def Jqy{Q:VK}{E:XK}{k:Nat}(S:F2!)(x:I9!)(fd:fJ!)(hk:k<=1000)(k1:JWu (W7! Jhu))(kE:JeI (QB4 NI)):QBX Dh! [.n Ac!]:=by show B?;show Ru? Dh! [.n k] DI! uH! J1f.2.1 J1f.2.2.2;show AJ?;show r?;show ZZ! p pw r V k A! S1 er (Jsp S1.wo (S0! s1) yN! (λc1 c2 a y b as H' s ea ey th=>?_) λc=>kE c H1 s1);show#[a,_,y,_,RG fo Ac!,A!,ea,DB! ey,J53 th,fd.small _,λH2 s2=>k1 c1 c2 H2 JUD]
def Jqf(x:k!){h:Nat}(o:H5!):Xa W bv:=JY0 (EM! o)
def Jqx{Q:VK}{E:XK}{h:Nat}(S:F2!)(x:I9!)(hk:h<=1000)(o:H5!)(kE:v1!):JQr:=by show B?;show NZ? uH!;show AJ?;show r?;show GY! p pw r V h A! S1 er JqJ
def Jk6{Q:VK}{E:XK}{h:Nat}(S:F2!)(x:I9!)(hk:h<=1000)(o:H5!)(kE:v1!):JQs:=by show B?;show Na? uH!;show AJ?;show r?;show J3! p pw r V h A! S1 er JqJ
def Jc2(x:k!)(hn:SL){h:Nat}{q:Addr}{G:CU}(hq:Iv!){hs:F!}{os:sK}{rs:Q!}(GX:Bw!){r:Ef!}(hr:Za!):Tl DF!:=by have#[_,a,hl,e1,e2,e3,_]:=JLp;show#[U! e3.length_eq (JyX e2),Ak! (JdO x.sm e1 (e3.mem_iff.mp ht))]
def Jqw{Q:VK}{E:XK}{h k:Nat}(S:F2!)(x:I9!)(hn:SL)(hk:JPL)(k1:∀(q:Addr) (G:CU) (hs:F!) (os:sK) (rs:Q!) (r:Ef!),Qd!->Bw!->Za!->JKI->W7! co!)(kN:∀(q:Addr) (G:CU) (hs:F!) (os:sK) (rs:Q!),Qd!->Bw!->(JWe)->QB4 MI)(kX:H5!->v1!):QBX am JVn:=by
 show B?;show Ru? am [.t h k] (bS! hk.1) (bS! hk.2) J1f.1 J1f.2.2.1;have#[_,rfl,a,rfl,ea]:=kA pa;show r?;have x1:=S0! s1;show Zb! p r a A! #[dx,_,QA! hp,Jpd ZV] er ?_;show C? AW!;.show LY? c;have gd:=x1.wg.wl.good (BU hn) hq;show CV?;show Ee?;show F? #[p,pw,a,V,QA9,A!,S1,ea,pw,bv,V,A!,S1.wo,QAm iw (iw.at S1.wo) (λy H' s st=>#[hs,os,rs,s,st.rep,λr hr e x xs sx px=>#[x,xs,DF!,A!,sx,px,Jc2 x1 hn hq GX hr,λH2 s2=>k1 q G hs os rs r hq GX hr e H2 JUD],λno=>kN q G hs os rs hq GX no H' (Af s1 s)])]
 .have c:=Cy! c;show x! #[p,pw,a,V,QA9,A!,S1,ea,Jqf x c,kX c H1 s1]
open E
inductive Qr
 | hand (h:Nat)
 | things (h:Nat)
 | post
 | found (k:Nat)
 | holds (h k:Nat)
abbrev Qr.sm:J7! Qr
 | .hand h|.things h|.found h=>h<=1000
 | .post=>True
 | .holds h k=>JPL
abbrev qT:Qr->Ag!
 | .hand h=>JQX
 | .things h=>JQY
 | .post=>Ah!
 | .found k=>E3 Dh! [.n Ac!]
 | .holds h k=>E3 am JVn
abbrev ax(z:Str):CW!:=VX (wp z)
inductive UJ(m:Nat)(W:EF)(al:V!)(ys:i!)(fo:DR!):BC! Qr CW!
 | hand (h:Nat) (q:Addr) (G:CU) (hs:F!) (os:sK) (rs:Q!) (hq:Iv!) (t:Bw!):JQN (VL! Lj!)
 | WS (h:Nat) (o:H5!):JQN VF!
 | things (h:Nat) (q:Addr) (G:CU) (hs:F!) (os:sK) (rs:Q!) (hq:Iv!) (t:Bw!):JQO (VL! fE!)
 | PX (h:Nat) (o:H5!):JQO VF!
 | post:lj! J4! (ax (JlR Om!))
 | found (k:Nat) (h1:1<=k) (h2:k<=ys.length):JHy (VL! Jhu)
 | TL (k:Nat) (o:¬(1<=k/\k<=ys.length)):JHy (RD 6)
 | holds (h k:Nat) (q:Addr) (G:CU) (hs:F!) (os:sK) (rs:Q!) (r:Ef!) (hq:Iv!) (t:Bw!) (hr:Za!) (e:JKI):wh! (VL! co!)
 | QW (h k:Nat) (q:Addr) (G:CU) (hs:F!) (os:sK) (rs:Q!) (hq:Iv!) (t:Bw!) (no:JWe):wh! (RD 3)
 | QV (h k:Nat) (o:H5!):wh! VF!
def J4c{os:sK}(pw:JH8){r u:Ef!}(h1:Za!)(h2:u∈os)(e:AT=u.1):r=u:=by induction os with | nil=>cases h1 | cons x os ih =>have#[n1,n2]:=SF! pw;obtain e1|h1:=ZM h1;(.show C1? h2;(.rw[e1,e2]);.show(Im _ (by have:=n1 _ (BJ h2);rw[<-e,e1] at this;show this)).elim);.show C1? h2;(.show(Im _ (ms! (n1 _ (BJ h1)) e e2)).elim);.show ih n2 h1 h2
open S
variable {m:Nat}{W V:EF}{al bl:List LL}{ys zs:List Qy}{fo:List (Int×List T2)}{q:Qr}{a b:PyData}
def UJ.one(x:JA!)(lw:k5!)(lv:JyH)(h1:lj! q a)(h2:UJ m V bl zs fo q b):a=b:=by
 have iw:JWh (W.qs[h]?):=JnU lw
 have iv:JWh (V.qs[h]?):=JnU lv
 show Kr?
 cases h1 with | hand h q G hs os rs hq t =>(cases h2 with | hand _ q2 G2 OW ZZ ZY QO t2=>rw[(Hr (x.P_ hq QO) t t2).1] | WS _ o=>show Dc?) | WS h o =>(cases h2 with | hand _ q2 G2 OW ZZ ZY QO t2=>show Db? | WS=>rfl) | things h q G hs os rs hq t =>(cases h2 with | things _ q2 G2 OW ZZ ZY QO t2=>rw[QCo] | PX _ o=>show Dc?) | PX h o =>(cases h2 with | things _ q2 G2 OW ZZ ZY QO t2=>show Db? | PX=>rfl) | post=>cases h2;rw[x.nu,x.al] | found k c1 c2 =>(cases h2 with | found=>rfl | TL _ o=>show(o #[c1,AE! el c2]).elim) | TL k o =>(cases h2 with | found _ c1 c2=>show(o #[c1,U! el c2]).elim | TL=>rfl) | holds h k q G hs os rs r hq t hr e =>(cases h2 with | holds _ _ q2 G2 OW ZZ ZY r2 QO t2 NF e2 =>have eo:=QCo;rw[<-eo] at NF;rw[J4c t.ND.pw hr NF (e.trans e2.symm)] | QW _ _ q2 G2 OW ZZ ZY QO t2 no =>show Ij? (no r (DO! eo hr) e).elim | QV _ _ o=>show Dc?) | QW h k q G hs os rs hq t no =>(cases h2 with | holds _ _ q2 G2 OW ZZ ZY r2 QO t2 NF e2 =>show Ij? (no r2 (o! eo NF) e2).elim | QW=>rfl | QV _ _ o=>show Dc?) | QV h k o =>cases h2 with | holds _ _ q2 G2 OW ZZ ZY r2 QO=>show Db? | QW _ _ q2 G2 OW ZZ ZY QO=>show Db? | QV=>rfl
open E
open S
variable {H:Hp}{p pw:Addr}{V:EF}{D:T2->Prop}{m n d A B i:Nat}{al:List LL}{ys:List Qy}{fo:List (Int×List T2)}
def P1(x:WI H p V D m n d A B al ys)(hn:SL){h:Nat}{q:Addr}{G:CU}(hq:Qd!){hs:F!}{os:sK}{rs:Q!}(GX:Bw!):xc!:=FG! (by show Bb?;(have hh:AW!:=QDC hq);have mo:=JyN (BJ hr);have#[a1,a2]:=x.wg.uf hq mo;have md:=x.md;show SI? (Ew V.qs) EW! hq;show#[bx! (a1▸NE!),bx! (x.ob h q G hq _ mo)])
def Jva{Q:VK}{E:XK}(g:GG)(S:F2!)(x:I9!)(hn:SL)(fd:fJ!)(eT:vs!)(q:Qr)(sm:q.sm)(k:∀(z:Str) (H':Hp),JO2->TD->tu!)(kE:∀(c:Addr) (i:Nat) (H':Hp),dQ c i->JO1->TD->nG! c):Z3! Nc RP!:=by
 have at_:∀{h:Nat},AW!->e7! (Qd!/\Bw!):=λ{h} hh=>by show LY? hh;show R0? x.wg.wl.good hq;show#[q,G,hs,os,rs,hq,GX]
 cases q with | hand h =>show Pf? (Jun S x hn hq GX (rR! JRT)) Jqx .WS | things h =>show Pf? (Joi S x hn hq GX (P1 x hn hq GX) (rR! JRU)) Jk6 .PX | post=>show Jum S x eT (rR! J4!) | found j=>show Jqy S x fd sm (λc1 c2 H' s=>k _ H' JnW s) λc H' s=>kE _ _ H' g.X6 (.TL j c) s | holds h j=>show Jqw S x hn sm (λq G hs os rs r hq t hr e H' s=>k _ H' (JxF t hr e) s) (λq G hs os rs hq t no H' s=>kE _ _ H' g.X3 (JwU t no) s) λo H' s=>kE _ _ H' g.X0 (.QV h j o) s
open E
def Jvv{p a:Addr}{H:Hp}{xs:C!}{ts:F!}{te:TE}{σ:L2.St}{Q:EA!}(hp:G1!)(ea:DT!)(len:JyK)(z1:dE!)(pr:JuL)(k:Jfw) : Ew! (Eu! (Ep! (VA K a).stop DK! (VA K a).go (VA K a).SM (bd! xQ! H3 (Fv! (JQb IT!))))):=by
 show KF? a xs te pn! (h.1.seq ea);show RN?
 show J7?
def yh{H:Hp}{t:Addr}{i:Nat}(e:cI! JYP):JKl RD i:=JUI Er!
def xm{H:Hp}{t:Addr}{z:Str}(e:cI! JPT):JKl ax z:=JUI (wp _)
def sV:Ap! [C8!,kb!,"_law_at",FO!,JyO] hE! Tw:={}
abbrev tgQ(b:Bool)(h:Nat):Qr:=if b then J3! h else GY! h
inductive J8t(vs:C!)(H:Hp)(Q:VK)(E:XK):B!
 | mk (p:Addr) (W:EF) (D:db) (m n d A B:Nat) (al:V!) (ys:i!) (fo:DR!) (h:Nat) (b:Bool) (_:vs=[Cc!,g! bv,En! JWD,g! BV!]) (_:k!) (_:SL) (_:∀(t:Addr)(a:PyData)(H':Hp),pD! (HC K H' KP! a) (JY2 a) t)
def J8k{m:Nat}{W:EF}{al:V!}{ys:i!}{fo:DR!}{b:Bool}{h:Nat}(o:H5!):JY2 VF!:=by
 cases b;.show .WS h o
 .show .PX h o
def gTg(g:GG):ET 4 n9 mP hE! J8t:=by
 show c? g.mTg.fn.KG sV;have#[p,W,D,m,n,d,nA,nB,al,ys,fo,h,b,rfl,wi,hn,k]:=h;show A?;show P?;show AN?;show l?;have out:H5!->∀t,di!->b7! (EY! t (QBQ L6!)):=λo t ht=>Jeq (J8k o);show Bc?;have pS:AW!->e7! (Iv!/\om!/\Bw!/\JC5/\JDM/\(JDK)/\xc!):=λhh=>by show Di? hh;show R0? JyG hq;show#[q,G,hs,os,rs,hq,#[DI!,U! CL hq],GX,by have:=GX.pm.length_eq;have:=(wi.wg.BX hq).1.ok.hz;lia,JiH,JU0,P1 wi hn hq GX]
 cases b with | false =>show Ow? (WP! tt!) (Wc! 4);show PP?;show Nn?;show EC?;show Kt?;show GT?;show Jx?;show Bd?;show NM? 0;show S?;show Cq #[Aj? y1 JEd (λll WC=>Ja4 (te:=uW) WC e1 (PE! JFh) (nY! lh) (JDN) QCj)];(.rw[ZH] at hj;have#[aj,ph,rfl]:=JO! hj;show#[_,A!,aj,t,A!,Mc! s5 (A6 t1 j aj t ph ht),pg! wz,qq]);show Ed? (Lj! A7) (Fh! lh) wz;show Je6 Lj! JRT | true =>show Ow? (TF! tt! (zK! i 4 te (yJ K) [] sV.nd (Wc! 4) A3! ls! A3! TX! (Gk! iM!)) A5) vb!;show PP?;show Nn?;show EC?;show Kt?;show GT?;show Jx?;show Bd?;show NM? 1;show S?;show GJ?;show C4 #[Aj? y2 dh! (λll WC=>?_)];show Jc? (λi vs H4=>H4=G0! H3 ll vs/\JT9 H3 JHP/\vs.length=i) JK6 JuM;(.rintro i v vs H4 N hv ⟨rfl,pv,vl⟩ hN;have#[zi,_]:=ZJ hv;show Hq?;show Ku?;show O3?;rw[Hh];show Em! #[A!,?_,JML];rw[CK,J',ZF];show Fa #[rt,A!,DB! f2] pv);.rintro vs H4 ⟨rfl,pv,vl⟩;rw[hl,BS] at pv;have s4:=NN! vs WC;have pv4:JT9 (d! H3 ll (XV vs)) Dj!:=s3! (Sy! s4) pv;show BK? ll Ab (λl2 pY=>Jvv (te:=uW) (ts:=ri!) pY (GP! Ab) (HZ! pv4) (PE! JGi) (JDN) QCj);(.have#[aj,rfl,sq]:=fm! pv4 t ht;have#[r,J',rfl]:=ZN (ZP ht);show#[_,A!,aj,_,A!,E7 s5 sq,smO r J',qq]);show#[l2,sY! Dj! A7,A!,el,eD! ZA JGi,Oo (Ak! (by show Fz? ht;show smO r hr)),QBx D0!];show k t (VL! fE!) _ (Af s3 (Af s4 (Af s5 (Af s6 UX!)))) (xm Ab) JRU
def sW:Ap! [C8!,Lu!,FO!,Lv!,"_law_out","_law_holds"] fO! Jbs:={}
inductive J8u(vs:C!)(H:Hp)(Q:VK)(E:XK):B!
 | mk (p a:Addr) (W:EF) (D:db) (m n d A B:Nat) (al:V!) (ys:i!) (fo:DR!) (h j:Nat) (_:JKn BQ!) (_:Ce! (J6! IZ!)) (_:k!) (_:SL) (_:JWi (lj! (Zb! h j) b))
def gHf(g:GG):ET 4 oM l_ fO! J8u:=by
 show c? g.mHf.fn.KG sW;have#[p,a,W,D,m,n,d,nA,nB,al,ys,fo,h,j,rfl,ea,wi,hn,k]:=h;show A?;show P?;show AN?;show Z? (Ac (QAZ (J8! Jsd DG! FM) Ai) (IQ! (wj! (p2! ND!) (eO! sW.nd) (eP! sW.nd) (Cj (i:=5) sW.nd A! (R8! A!)) (Ag (QAZ (QDp AF! EQ) (aG! zM g.YY.mg g.YY.fn.kp g.YY.bd (QFk (Wc! 5)))))) (Ao (Ce (lQ! Ai)))));show#[U?,Ai? a _ 0 _ A! A! Qb! A! _ A! _ A!];show Gf (λc=>lv! (Jeq (.QV h j (B_.mp (BN c))))) (λc=>?_);show EC?;show Bc?;show Di? c;show GT?;show CV?;show It?;show#[o?,dx,_,A!,hp,O1? Qb! p bv Sz! (QD0 Sz!)];show Bd?;show GJ?;show#[_,_,1,_,A!,A!,IE!,A!,y2,A!,dh!,?_];show KC? (λi σ H2=>H2=H3/\vw! [CM!,Ks!,LE!,u1,u2,u3]/\∀r∈Se! i,AT≠IZ!) #[A!,g1!,FG! (Fa! hr)] (kg! (n2! mK!));.rintro i v σ H2 hi ⟨rfl,⟨u1,u2,u3,rfl⟩,no⟩;have#[r,J']:=me! os i hl hi;have hm:=ZP J';have sm:=Jc2 wi hn hq GX hm;show Rn? (A6 r2 i v r hi J');show JX?;show#[_,A!,_,A!,OM AT,OM IZ!,cb! e4,cb! (T7! ea),Ll AT,Ll _,_,A!,?_];rw[Jjk];show GR?;(.have c:JKH:=BN c;show#[Aj? hd (rq! e5) (JU8 e5 (AA! e6) FR!)];show Pq? e6 FS!;show Ed? (r.2.2.map A7) FR! FS!;show Je6 co! (JxF GX hm c));.have c:¬JKH:=QCB;show#[A!,g1!,λr' pX=>?_];rw[CK,J',OR] at pX;obtain pX|pX:=pX;(.show no r' pX);·(have:r'=r:=by simpa using pX);show K?;show c
 .show Rh?;show#[TA!,Ak! (k t (RD 3) _ (vm! s3) (yh (i:=3) Ab) (JwU GX Jl4))]
def oX:Ap! [C8!,ZB!,FO!,kc!,kb!,"_law_way",JyO] fQ! Jwr:={}
inductive J8v(vs:C!)(H:Hp)(Q:VK)(E:XK):B!
 | mk (p l:Addr) (W:EF) (D:db) (m n d A B c:Nat) (al:V!) (ys:i!) (x0 x1 x2 x3 x4 x5 x6:Int) (_:JTa IR! QW!) (_:JLE) (_:k!) (_:SL) (_:c<=60) (_:∀(q:Qr)(H':Hp),TD->q.sm->Q (wp (qT q)) H')
def Jce{i j:Int}(h0:K0!)(h1:i<j):∃k:Nat,i=Ac!/\Ac!<j:=#[i.toNat,ee! h0,U! (BM h0) h1]
def gAk(g:GG):ET 4 mV lP fQ! J8v:=by
 show c? g.mAk.fn.KG oX;have#[p,l,W,D,m,n,d,nA,nB,c,al,ys,x0,x1,x2,x3,x4,x5,x6,rfl,el,wi,hn,hc,k]:=h;show A?;show P?;show AN?;show l?;have m5:=wi.m5;show H5? oX.nd (JOi FM) (mN! 5 oX.nd uC! (P1! JTs JTs (QEs Ap) (QEs (Co C6 Ap (UG! (JOi AF!)))) (JOX 6 oX.nd (Fw (DA! (Ce (QAp (Pl! JP7))))) (J8! Sa Br! FM) (QCy oX.nd (Co Jqh Fo! (JzZ (yJ K) (P4! (p2! JEA)) iM!))) (Co C6 Ap (aG! xY g.WV.mg g.WV.fn.kp g.WV.bd (DA! (As Cd Fo! (uY! JP7 Fo!))))))));have h0:=JOh (BV!+1);have h1:=JcR (BV!+1);show QH? (BV!+1);have#[h,eh,hh]:=Jce h0 h1;rw[show x5 % (BV!+1)=bv from eh];clear eh h0 h1;have hm:h<=m:=jg! (CY.mp hh);have YV:Ib!:=tM!;have lh:=HL! YV;show#[v? l,_,6,_,A!,A!,b6!,A!,_,_,A!,A!,aZ! 6,?_];show GW?;show RL? 5 JQo GY! JQo GY!
 show GW?;show RL? 7 JQp J3! JQp J3!
 show#[_,A!,A!,_,A!,mP! (λ_=>k J4! H Kc! A3!)];show GW?;.have f0:=JOh (QW!+2);have f1:=JcR (QW!+2);have#[j,ej,hj]:=Jce f0 f1;have eW:of!:=tM!;have lj:=HL! eW;show QH? (QW!+2);rw[show x5 % (QW!+2)=lc from ej];show#[lc,A!,Dj eW,_,_,A!,A!,?_,?_];(.change 6+Ki! lc<=_;lia);.have e:JbX=qT (ZZ! j):=J0g (a:=.n lc) A!;change U6! JbX;rw[e];show k (ZZ! j) H Kc! (Te! bv!)
 have v0:=DQ (x5 / 7) (show bi 9≠0 by decide);have v1:=JSZ (x5 / 7) 9;have#[u,eu,hu]:=Jce v0 v1;show#[Gx?,5,_,A!,A!,b6!,A!,_,_,A!,A!,XG!,_,_,A!,A!,aZ! 9,?_];rw[show x5 / 7 % 9=bi u from eu];show#[TA!,λt0 ht0=>#[JyQ 1,λl0 hl0=>?_]];have s1:=Ah (o:=WP (tv QC6)) ht0;have s2:=NN! pe! hl0;have j3:=fG!;show CW?;show Jwe (LU! (TD/\HN λ(lt:Addr)(as:List Addr)=>GF=[CM!,K9!,LE!,IB! QW!,eG!,IB! (x6 % 6),Dt! lt]/\L7! lt (XV (Bd! Ly!))/\1<=as.length/\lA! 100/\∀a∈as,∃j:Nat,bv!/\WI! JFH)) ?_ ?_;.intro nx hx;have e0:JrZ t0 (J6! QC6):=t9!;have el0:JrZ l0 (XV pe!):=Ab;show#[_,A!,_,A!,_,_,A!,A!,_,A!,mP! dP!];(.have cc:AW!:=CY.mp (BN cc);have rA:=cm! j3;have#[dx,hp]:=rA.wa.ob;show Di? cc;have gd:=rA.wg.wl.good (BU hn) hq;show CV?;show It?;(have los:JDM:=JiH);show#[_,Ry? A! bv rA.wa (QD0 rA.wa)];show Bd?;show GJ?;show#[x,_,1,_,A!,A!,IE!,A!,y2,A!,dh!,λll WC=>?_];show Jc? (λi vs H4=>H4=G0! H3 ll vs/\vs.length=i/\∃QP:S!,vs=JVF/\∀a∈QP,∃j:Nat,bv!/\sP! JFH) #[A!,A!,[],A!,JB4] JuM;(.rintro i v vs H4 N hv ⟨rfl,vl,QP,rfl,hb⟩ hN;have#[zi,_]:=ZJ hv;show Hq?;show Ku?;have pX:=ZP J';have sm:=P1 wi hn hq GX r pX;have#[a1,a2]:=wi.wg.uf hq (JyN (BJ pX));have md:=wi.md;show Jj? hq;show O3?;rw[Hh];show Em! #[A!,JML,QP++[rt],Qq!,Uo!];obtain ha|ha:=ZI ha;(.show hb a ha);.rw[ZK ha];show#[r.1.2.toNat,W!,?_];rw[BM sm.2.1,<-a1];show f2);.rintro vs H4 ⟨rfl,vl,QP,rfl,hb⟩;have s4:=aW! QP.map Ly! WC;rw[ZA] at vl;have i5:=Ch! s4 s3 el0;show#[l0,ll,_,_,A!,A!,i5,Ab,by rw[ZA];change 1+QP.length<=_;lia,λlt IP=>?_];have s5:=Ah (o:=XV (pe!++JVF)) IP;show P! hx #[Af j3 (G7! s3 s4 s5),lt,t0::QP,A!,Ab,U! BD (Nat.succ_le_succ (AZ _)),a2! BD,Uo!];obtain rfl|ha:=ZM ha;(.show#[u,W!,xv! (T7! e0)]);.have#[j,hj,e]:=hb a ha;show#[j,hj,wo!]);.show P! hx #[j3,l0,[t0],A!,el0,ZG 1,JMj 100,λa ha=>by rw[ZK ha];show#[u,W!,e0]]
 rintro GF H' ⟨sH,lt,as,rfl,elt,MM,XZ,has⟩;have g0:=DQ (x5 / 70) (show QDl≠0 by rw[ZA];show λz=>EM MM (Oq! z));have g1:=DR (x5 / 70) (Je1);have#[i,ei,hi]:=Jce g0 g1;have#[a,ha]:=mL! as (by rw[ZA] at hi;show CY.mp (ei▸hi));have#[j,hj,ea]:=Fp! has a ha;show I4? hj;show#[CZ?,l,_,5,_,A!,A!,UV! sH,A!,_,_,A!,A!,XG!,_,A!,lt,_,A!,PV! elt,_,_,A!,A!,(Je1),?_];rw[show Uf! (x5 / 70 % QDl) from ei];show#[lt,_,AN!,Ly! a,A!,A!,GP! elt,JiS CL ZH ha,a,IZ!,A!,Qb!,#[YV,eW],_,_,A!,A!,?_,?_];.have:=Jer;change 6+JSM<=_;have e:AZ! Gj JeR=JSM:=rfl;lia
 .have e:JZ6=qT (Zb! h j):=J0g (a:=.t bv lc) A!;change Q (wp JZ6) H';rw[e];show k (Zb! h j) H' sH (show JPK from#[W!,hj])
def Pa{Q:VK}{H:Hp}{j:Nat}(sm:of!)(q:Kf! lc):Ps [QBR] H Q:=by
 have d:=Jlv sm;show#[_,A!,d.d,?_,d.l,?_];.rw[ER!];show O0! d.n
 .rw[show Vm! lc=(jX! 10 j).map Le! from Ny j,Jie];show q
def R8(v:Str)(a:FX.Arg)(hv:JAj):R9 (E3 v [a]) Bl!=[bn v,bn Bl!,QV! Gj a]:=Jnm (c:=32) (Eh 32 v (Gj a) []) hv
def Jxk{h j:Nat}(sm:Ib!):R9 (A7 IZ!) "."=JiL:=Jnm (c:=46) (Ri _) (Om sm).2
def Jt7:R9 Ah! Bl!=JiY:=J0r (c:=32) ZV
def J7k(g:GG):JF0 Ml Mt KJ! Pw:=kj! (J7l g)
def XA:Ap! [C8!,Jk!,FO!,kc!,"_law_word","_law_blank","_law_rest","_law_rows",Oe!,"_law_house","_law_dot",ke!] fR! Jwn:={}
inductive J6c(vs:C!)(H:Hp)(Q:VK)(E:XK):B!
 | mk (p:Addr) (W:EF) (D:db) (m n d A B:Nat) (al:V!) (ys:i!) (fo:DR!) (q:Qr) (_:JTa RP! P9!) (_:k!) (_:SL) (_:W6!) (_:q.sm) (_:vr!) (_:JWi JSr)
def gDu(g:GG):ET 5 oI l7 fR! J6c:=by show c? g.vE.fn.KG XA;have#[p,W,D,m,n,d,nA,nB,al,ys,fo,q,rfl,wi,hn,fd,sm,eT,k]:=h;show A?;show P?;show AM?;show Dn?;show l?;show Z? (Ac (Jvf EQ 4 5 6) (Ac (xw! (Zz! 7 XA.nd hP! (Jw4 (i:=8) (AJ!:=[]) XA.nd A! A! A! A! (Em (pv 7)) A! ZV A! ZV A! A! A! A! A! A3! ls! A3! ZV TX! (Gk! (Co C6 (Co C6 (JTX (pN! (UG! SC) EQ)) Ap) (UG! AF!)))) (U5! (QC3 (DA! al!))))) (bO! (xw! (Wr! (Jvf Fo! 9 10 11) (JP6 gHf g.mHf.mg g.mHf.fn.kp g.mHf.bd SC (eQ! (QCC dV!) (QCC (pv 11))) FM))) (xw! (JOZ (Jki (Jw1 J2y J2y Ai wB! AF!)) (QC3 (QFk (P4! (S6! SC Ge! g.sZ.mt (J7k g) HJ g.sZ.bd A9 (DA! wB!))))))) (QC4 gTg g.mTg.mg g.mTg.fn.kp g.mTg.bd (lY! SC wB! (JMV (JNs Ap)) FM)))));show Bc?;cases q with | hand h =>show QZ? A4! JQX A4! A4!;show S?;show T?;show Q?;show T?;show Q?;show T?;show NH?;show T?;show#[p,W,D,m,n,d,nA,nB,al,ys,fo,h,IR,A!,ZX! s1,hn,JUm] | things h =>show QZ? EQ! JQY EQ! EQ!;show S?;show T?;show Q?;show T?;show Q?;show T?;show NH?;show Ac?;show#[p,W,D,m,n,d,nA,nB,al,ys,fo,h,AC,A!,ZX! s1,hn,JUm] | post =>show#[AT? A! Ah! Bl! A! A! ao! D0!];rw[Jt7];show Cb? JiY ht;show FZ?;show S?;show Ac?;show F3?;show IF? dx (QA! hp) tW.wa (λl H3 hl aw s3=>?_);have wi3:=tW.same s3;show BK? l aw Ba!;have lsk:=Jq0 wi3.lw;have len:=AA! lsk;show Oj! Jrd K K a l p q xs (Om! mH!) tt PR! AJ! [] (λi ys H4=>BV H3 H4/\ys=ll! ((Z_ (S2! Om!) al).take i).map iE/\u1! q) #[Ah hq,A!,Ab] (λi ys H4 _ h=>JOH aw h.2.2) ?_ ?_;(.rintro j v ys H4 N hv ⟨s4,rfl,e4⟩ hN;rw[ZH] at hv;have#[y,hy,rfl]:=JO! hv;have#[le,hle]:=me! JlG j len hy;have#[xx,sx]:=A6 lsk j y le hy hle;show Ml? eT.2;have l1:=HL! b1;have l2:=HL! b2;have l3:=HL! b3;show Kv?;show#[Bi!,_,_,_,_,_,A!,vP! sx,C4 #[_,A!,J2!,A!,Dj b1,_,_,A!,A!,by rw[c1];change Ki! J2!+1<=_;lia,_,A!,_,_,A!,A!,?_,_,_,A!,A!,?_,_,A!,Mj!,A!,Dj b2,_,_,A!,A!,?_,_,_,A!,A!,?_,_,A!,M8!,A!,Dj b3,_,_,A!,A!,?_,e4,?_,QFP hq s4]];(.change(EZ J2!++":").length+_<=_;rw[Hw,c1];lia);(.change(EZ J2!++":"++bB!).length+_<=_;rw[Hw,Hw,c1];lia);(.change(JZv++":").length+Ki! Mj!<=_;rw[Hw,Hw,Hw,c1];lia);(.change(JZv++":"++EZ Mj!).length+_<=_;rw[Hw,Hw,Hw,Hw,c1];lia);(.change(JkS++":").length+Ki! M8!<=_;rw[Hw,Hw,Hw,Hw,Hw,c1];lia);(.show Bp?;have:=eT.1;show Ek! D3);.rw[CK,hle,ZF,ZF];change _++[AT! (JkS++":"++EZ M8!)]=_++[AT! (iE le)];rw[Jta]);rintro EA H4 ⟨s4,rfl,e4⟩;rw[ZA,len,BS] at e4;show#[_,A!,q,_,A!,e4,Fj! eT.1,Io!,QBx (λt2 kG=>?_)];(.have#[le,hle,rfl]:=NK!;have#[b1,b2,b3,b4]:=eT.2 le hle;have l1:=HL! b1;have l2:=HL! b2;have l3:=HL! b3;show Kv?;change AZ! iE (J2!,bB!,Mj!,M8!)<=100;rw[<-Jta,Hw,Hw,Hw,Hw,Hw,Hw,c1];lia);.show k t2 _ _ (JfA s4 (Ah kG)) (xm Ab) J4! | found j =>have sm:bv!:=sm;have eW:of!:=bS! sm;show SN? Dh! [.n lc] (λa ha=>U! (ZK ha) eW);show R9? (E3 Dh! [.n lc]);rw[R8 Dh! (.n lc) ZV];show R7? Dh! QBR;show FZ?;show S?;show T?;show Q?;show T?;show Q?;show Ac?;show C4 (Bp! (Pa eW #[_,_,A!,A!,_,A!,?_]));have bad:¬(1<=j/\j<=ys.length)->∀t2,EX! (EY! t JhY) t2->S5! t2 (V0! t JhY t2 (QBQ (bi 6))):=λc t2 kG=>k t2 (RD 6) _ (Af s1 (Ah kG)) (yh (i:=6) Ab) (.TL j c);show JV?;(.have c1:1<=j:=B_.mp (BN c1);show DG?;by_cases c2:j<=ys.length;(.rw[AM (show JV2 from EM! c2)];show F3?;show Cq #[LW? Ff! (Pa eW ?_)];show Jsp tW.wa tW yN! (λ_ _ a y b as H3 s3 ea ey th=>?_) (λc=>(c #[c1,c2]).elim);have sf:=fd.small lc;show#[a,_,1,_,A!,A!,Qb!,A!,y,A!,rq! ey,JU8 ey od! sf.1];show Pq? th sf.2;show Ed? ((RG fo lc).map A7) sf.1 sf.2;show k t _ _ (JfA s5 UX!) (xm Ab) JnW);.rw[JPl JV2 c2 B_.mp];show Jpt (λz=>c2 z.2));.have c1:¬1<=j:=λz=>c1 (AM (EM! z));show L? (Jpt (λz=>c1 z.1)) | holds h j =>have sm:JPK:=sm;have YV:Ib!:=bS! FR!;show I4? FS!;show SN? am z4! (λa ha=>by rw[ZK ha];show#[YV,eW]);have lt:=Jer;show R9? (E3 am z4!);rw[R8 am JeR ZV];show R7? am (QV! A7 IZ!);show FZ?;show S?;show T?;show Q?;show Ac?;show C4 #[AT? A! (A7 IZ!) "." A! A! ?_ (λt2 kG=>?_)];(.have lt:Fn! A7 IZ! 19:=lt;lia);rw[Jxk YV];have s2:=PA! JiL kG;show FR? t2 mZ!;show Ca? (Pa YV (Bp! (Pa eW (lL! (λt3 ht3=>oe!)))));have s3:=Ah (o:=WP (tv IZ!)) ht3;have YW:=Rg!;show#[p,t3,W,D,m,n,d,nA,nB,al,ys,fo,h,j,A!,Ab,cm! YW,hn,λt a H' s' ra an=>k t a H' (Af YW s') ra an]
abbrev Jsm:DD->ut
 | .ask _=>1
 | _=>0
def J5j(dd:DD):(La! (T! (KB (O2! (Y_ dd)=O2! AU!))) IX! 0)=bi (Jsm dd):=by
 have no:∀v:Ag!,¬v=AU!->JvG v=0:=λv h=>Ed! (Gq h)
 cases dd with | ask h=>change JvG AU!=1;rw[M8 A!];rfl | make h=>show no EP! ZV | hold h a b=>show no BM! ZV | drop h a b=>show no FC! ZV | take h a b=>show no FD! ZV | free h b=>show no FE! ZV | send h g b=>show no GK! ZV | clean h=>show no GL! ZV | HP n=>show no JT! ZV
open S
variable {H H' H0:Hp}{p pw:Addr}{W W' V V':EF}{D:T2->Prop}{m n d A B i:Nat}{al al':List LL}{ys EA:List Qy}{dd:DD}{dv:PyData}{fo:List (Int×List T2)}
def uZ.qs{BX:Int}{L:X!}(h:QFm H0):EA.length=ys.length:=by have#[l1,l2,t,a,z,b,el,es,len,nv,dv]:=h;cases z with | w l=>rw[dv.1] | lt s g ts=>rw[dv.1] | ask s g n u=>rw[dv.1] | MN s g n u tick S =>have#[_,y,y',i1,i2,new,e1,e2,_]:=dv;rw[e1,e2,ZE,ZE,BD,BD]
def RR.len(e:hX!)(ia:hd!):EA.length=ZQ! (Jsm dd):=by cases e with | out _ o e ea ey =>rw[ey];(cases dd with | ask j=>show(o (ia j A!)).elim | _=>rfl) | WH _ _ e ea ey=>rw[ey];rfl | ok _ _ _ e =>cases e with | IW _ q G G' v hi hs e nv ea ey=>rw[ey];cases hs<;>rfl | no _ q G k hi rf e ea ey=>rw[ey];cases rf<;>rfl | send h g tb q G G' l t hi hb se e nv ea ey=>rw[ey];rfl | clean h q G k R rs L hi rc pm pw e nv ea ey=>rw[ey];rfl | ask h io I L e nv ea ey=>rw[ey,ZE];rfl | HP BX L dl=>show dl.qs
def Fx.fd{H3 H4:Hp}(x:Ud!)(wi:k!)(hn:SL)(fw:Fd H' W fo)(fv:Fd H' V fo)(k3:un!)(k4:DM H4 H'):∃zO,Fd H' W' zO/\Fd H' V' zO:=by cases x with | same a b=>show#[fo,nR! a fw.at_ fw.sm,nR! b fv.at_ fv.sm] | new n ts xf xg as bs y c a1 a2 a3 b1 b2 b3 hy f =>(have sm:∀q∈fo++[(n,ts)],Tl Rs:=A8! (JZt hq fw.sm q (Jo2 wi hn hy f)));show#[fo++[(n,ts)],JpJ a1 fw.at_ as k3.BI a2 a3.keep k3,JpJ b1 fv.at_ bs k4.BI b2 b3.keep k4]
def J6j{Q:VK}{E:XK}(g:GG)(S:F2!)(x:I9!)(hn:SL)(fd:fJ!)(eT:vs!)(q:Qr)(sm:q.sm)(k:∀(t:Addr) (b:PyData) (H':Hp),pD! (Jjg (ok! JY9) (ok! fn!)) (UJ m V al ys fo q b) t):Z3! Jpz RP!:=by
 show B?;show#[p,qT q,λv H2=>∃z,v=II!/\JO2/\Ei!,λi H2=>JO1/\Ei!,A!,#[dx,_,hp],λH1 s1 Q' E' kq ke=>?_,?_,?_];.show Jva g (Jp! s1) (S0! s1) hn yN! eT q sm (λz H' an s=>P! kq #[z,A!,an,Af s1 s]) (λc i H' xf an s=>ke c i H' xf #[an,Af s1 s])
 .rintro v H2 t ⟨z,rfl,an,s⟩ ht;show k t (ax z) _ (vm! s) (DC! #[z,A!,Ab]) an
 .rintro i H2 H4 t ⟨an,s⟩ _ s4 e;show k t (RD i) H4 (Af s s4) (Eg! #[i,A!,e]) an
open E
abbrev di(z:Str):B!:=∀c∈z.cps.toList,c<1114112
def di.str{z:Str}(h:di z):T! (lC! z):=by unfold PyData.strOk;rw[Array.all_eq_true'];intro c hc;show AM (h c (Array.mem_toList_iff.mpr hc))
def Ib(s:String):di (R5! s):=JS! (by rw[Str.ofString_eq_toList] at hc;have#[ch,_,rfl]:=ZN (show c∈s.toList.map Le! from hc);obtain h|h:=ch.valid;(.show KY h FB);.show A6!)
def Se{c:Nat}(hc:c<1114112):∀{ws:j!},(JWk)->di (Dg! (BL! c) ws)
 | [],_=>JV7
 | [a],h=>tk!
 | a::b::r,h=>λx hx=>by rw[Eh] at hx;obtain hx|hx:=ZI hx;(.show h a Dw! x hx);.obtain hx|hx:=ZM hx;(.rw[hx];show hc);.show Se hc (hk!) x hx
def Juf(t:T2):di (A7 t):=yS! 46 (λw hw=>by show DV?;(.show Ib _);.rw[ZK hw];show Ib _)
def Jn2{ws:j!}(h:JWk):di (Dm ws):=by
 unfold Dm;split;.show Ib _
 .show yS! 32 h
def L8(ts:F!):di (Dm (Ho! A7)):=Jn2 λw hw=>by have#[t,_,rfl]:=ZN hw;show Juf t
def J1a{n s g:Int}{kd:Str}(h:di kd):di (iE iU!):=yS! 58 (λw hw=>by show DV?;(.show Ib _);.show DV?;(.show h);.show DV?;(.show Ib _);.rw[ZK hw];show Ib _)
def J3y{H:Hp}{p:Addr}{W:EF}{D:db}{m n d A B:Nat}{al:V!}{ys:i!}(x:k!){z:LL}(hz:Oy!):di p5!:=by cases z with | w l =>have#[a,b,e]:=HI hz;show Js?;change di l.kind;(obtain h|h|h|h:=JDI<;>(rw[h];show Ib _)) | lt=>show Ib _ | ask=>show Ib _ | MN=>show Ib _
def Jej{z:Str}(h:di z):df (ax z):=by show#[?_,by change PyData.depth (JR! JPT)<=40;show CU?;decide];change Av! (lC! "done" && (lC! z&&true));rw[h.str,(Ib "done").str];rfl
def UJ.okd{H:Hp}{p:Addr}{W:EF}{D:db}{m n d A B:Nat}{al:V!}{ys:i!}{fo:DR!}{q:Qr}{b:PyData}(a:JSr)(x:k!):df b:=by cases a with | hand=>show Dp? | things=>show Dp? | found=>show Dp? | holds=>show Dp? | WS=>show yK _ | PX=>show yK _ | TL=>show yK _ | QW=>show yK _ | QV=>show yK _ | post =>show Jej (Jn2 λw hw=>?_);have#[l,hl,rfl]:=ZN hw;have#[_,z,hz,e]:=Jx5 hl;have:=J3y x hz;show AX? (l=(As!,l.2.1,dc!,dQ!));show KV! J1a (FA! (l.2.1=p5!) (Cx! EG! e)) this
structure RT(H:Hp)(p pw p0:Addr)(m n:Nat)(W V:EF)(D E:db)(al bl:V!)(ys zs:i!)(fo:DR!):B! where
 w:WI H p0 W D m n n 0 (60*n) al ys
 v:WI H pw V E m n n 0 (60*n) bl zs
 a:JA!
 x:vp p0 W ys pw V zs
 ob:JWI
 nw:¬Ft p0 W ys p
 nv:¬Ft pw V zs p
 mw:Nm W n
 mv:Nm V n
 sg:rI!
 fw:W6!
 fv:fJ!
open S
variable {H H':Hp}{p pw p0:Addr}{m n:Nat}{W V:EF}{D E:T2->Prop}{al bl:List LL}{ys zs:List Qy}{fo:List (Int×List T2)}
def RT.JJt(T:gD!):F2!:=#[T.ob,T.v.wa]
def RT.same(T:gD!)(s:TD):QBp H' n :={ T with w:=T.w.same s,v:=T.v.same s,ob:=let#[dx,e]:=T.ob;Gw! Q2!,fw:=CK! T.fw.keep s,fv:=CK! T.fv.keep s }
def RT.eT(T:gD!)(h:n<=40):vr!:=Jqz T.w v! T.mw h T.sg
def RT.ask{q:Qr}{Q0:VK}{E0':XK}(g:GG)(T:gD!)(h:n<=40)(sm:q.sm)(k:∀(t:Addr) (b:PyData) (H1:Hp),K8!->Jjg (NA! t JY9) (NA! t fn!)->(∀(Q2:VK) (E2:XK),(∀(t2:Addr) (H2:Hp),RG!->fM! KP! b/\fM! (UV t2) b/\df b->Gx! Q2 t2 H2)->J6c [FS p0,RP!,g! BV!,g! P9!] H1 Q2 E2)->Gx! Q0 t H1):Jpz [Cc!,RP!] H Q0 E0':=by
 have eT:=T.eT h;have el:Z_ (k8! EG!) bl=JlG:=by rw[<-T.a.nu,<-T.a.al]
 show J6j g T.JJt T.v (AE h FB) T.fv (o! el eT) q sm λt b H1 s1 sh an=>k t b H1 s1 sh λQ2 E2 k2=>?_;show#[p0,W,D,m,n,n,0,60*n,al,ys,fo,q,A!,T.w.same s1,We!,CK! T.fw.keep s1,sm,eT,λt2 b2 H2 s2 r2 an2=>?_];have e:=UJ.one T.a T.w.wg.wl.len T.v.wg.wl.len an2 an;subst e;show k2 t2 H2 s2 #[?_,r2,?_];.obtain⟨z,rfl,e⟩|⟨i,rfl,e⟩:=sh;(.show xm (K6! s2));.show yh (K6! s2)
 .show an2.okd T.w
open E
def J7m(g:GG):ET 3 Wr i9 Ts! Jbb:=Jua g.FWI AX! BB! Gd! g.zv g.FI g.bI g.wU g.FPI g.bPI
def gDI(g:GG):ET 5 Ws i8 Ts! Jr1:=Jxu g.FDI g.TK BB! g.tP g.bWI (J7m g)
def QT:Tv! [FN!,FO!,"_law_share",Of!,C8!,kc!,Jk!,Jj!,ZB!,FP!,"_law_due_here","_law_again",lB!] FN! vg:={}
def J67{xs:q!}(h:xs.length=7):yT λx0 x1 x2 x3 x4 x5 x6=>xs=[x0,x1,x2,x3,x4,x5,x6]:=by have#[x0,r0,rfl,l0]:=D6 h;have#[x1,r1,rfl,l1]:=D6 l0;have#[x2,r2,rfl,l2]:=D6 l1;have#[x3,r3,rfl,l3]:=D6 l2;have#[x4,r4,rfl,l4]:=D6 l3;have#[x5,r5,rfl,l5]:=D6 l4;have#[x6,r6,rfl,l6]:=D6 l5;show DH? l6;show#[_,_,_,_,_,_,_,A!]
def Jh5{H H':Hp}{v:V}{d:PyData}(s:TD)(h:vY K H v d):Ik! vY d:=by cases h with | BI h p=>show WP ((JS s).sq h) (wn! (Jm7 s r))
def J2u{H:Hp}{t:Addr}{x:Str}{d:PyData}(h:Gp! vY KP! JR! [V3!,d]):∃v,Ia! t [V3!,v]/\vc!:=by generalize e:PyData.tuple [V3!,d]=u at h;cases h with | BI sq pr =>cases e;have#[y1,y2,rfl,r1,r2]:=pr2 pr;cases r1 with | one r1=>cases r1;show#[y2,sq,r2]
def Fx.PZ{m:Nat}{W W' V:EF}{H3 H4:Hp}{ys:i!}(x:Fx m W W' V V H3 H4 ys):Jy!:=by cases x with | same a b=>show a | new n ts xf xg as bs y c a1 a2 a3 b1 =>show AU? b1;show I? ZE;show M? this Ix
abbrev qL(q:Qr):CQ! Qr:=[q,GY! 0,J3! 0,ZZ! 1,q,J4!]
def J4b(q:Qr):Du! qL q qT=[qT q,lD!,lE!,lF!,qT q,Ah!]:=by have h1:qT (GY! 0)=lD!:=ZV;have h2:qT (J3! 0)=lE!:=ZV;have h3:JbG=lF!:=ZV;change [qT q,qT (GY! 0),qT (J3! 0),JbG,qT q,qT J4!]=_;rw[h1,h2,h3];rfl
def J6q{q:Qr}(h:q.sm):∀r∈qL q,r.sm:=FG! (by
 simp only[qL,BY,CN,GY] at hr
 obtain rfl|rfl|rfl|rfl|rfl|rfl:=hr
 .show h
 .show AZ 1000
 .show AZ 1000
 .show JMj 1000
 .show h
 .trivial)
inductive J28(a p pw p0:Addr)(m:Nat)(sh:Int)(ns:q!)(i:Nat)(σ:L2.St)(Hc:Hp):B!
 | mk (u7 u8 u9 um:r2!) (W V:EF) (D E:db) (al bl:V!) (ys zs:i!) (fo:DR!) (q:Qr) (e:σ=[Ks!,LE!,eF!,CM!,sE!,IB! P9!,rS!,u7,u8,u9,um,none,none]) (T:QBp Hc i) (sm:q.sm) (hS:k_ K Hc a JLi):JxC
inductive J75(a p pw p0 l t7 t8:Addr)(m i:Nat)(sh x0 x1 x2 x3 x4 x5 x6:Int)(ns:q!)(q:Qr)(W8:EF)(D8:db)(uN:V!)(jn:i!)(GF:L2.St)(H':Hp):B!
 | mk (xp:EF) (yU:db) (hX:V!) (gp:i!) (wN:DR!) (e:GF=[Ks!,LE!,eF!,CM!,sE!,IB! (bi jn.length),rS!,IB! (2+AN!),K9!,Dt! t7,Dt! t8,none,none]) (T:JwX H' wN) (hS:k_ K H' a JLi) (el:bQ! (XV [g! x0,g! x1,g! x2,g! x3,g! x4,g! x5,g! x6])):JxV
inductive AgI(a p p0:Addr)(m:Nat)(sh c:Int)(q:Qr)(u7 u8 u9 um:r2!)(H0:Hp)(σ:L2.St)(H2:Hp):B!
 | mk (u11 u12:r2!) (e:σ=[Ks!,LE!,eF!,CM!,sE!,JGL,rS!,u7,u8,u9,um,u11,u12]) (s:BV H0 H2):JxL c H0
def gW(g:GG):JsH:=by
 show c? g.FW.KG QT;have#[a,ns,rfl,hS,hlen,k]:=h;show A?;show P?;show AM?;show Dn?;show Mv?;show Mw?;have hr7:DU 7 _:=JyS;have hr9:DU 9 _:=JyS;show IZ? QT.nd JbM QT.nd JbM (JRB 3 (JUW g.wW gDI hr6 g.TK.pN g.bDI) 4 (JUW g.tP J7m pU g.TW.pN g.bWI) Ai 6 Ap (bO! (JLM (Jt4 A! g.y1 (JPu Jve g.y7 PyProof.Rows.boot_max (JPu Jvd g.y10 PyProof.Rows.boot_min (FT! Ai JLv)))) 7 (JRB 8 (aG! gSm g.mSm.mg g.mSm.fn.kp g.mSm.bd (FT! (aG! gCl g.pQ.mg g.pQ.fn.kp g.pQ.bd (Tn! Us!)) Ai)) 9 (JP6 gDe g.mDe.mg g.mDe.fn.kp g.mDe.bd Br! al! EQ) (Co Ia Gy! (JMV (O6 Cv (L3! dV!) Ap (A4 _)))) 10 (Zs! gDn hr7 g.mDn.mg g.mDn.fn.kp g.mDn.bd (QAp dV!)) (JFp (JG3 (J8! Xi (L3! (it! (Zs! gRo NF g.mRo.mg g.mRo.fn.kp g.mRo.bd (DA! dV!)))) (L3! (pv 10)))) QT.nd (QC4 gAk g.mAk.mg g.mAk.fn.kp g.mAk.bd (lY! Br! al! EQ Gy!)) (Ag (Cb (JvO (it! Fo!) Fo!) (KB! K8) A5))))) (JLM (Em (Fw (Aa Fo! (Aa Ap (lq! Ap Fo! Ap))))) 11 (IQ! (Zf! 12 QT.nd (it! (pv 11))) (JG3 (r_ (vk (JvO (pv 12) (pv 11)) (T8 (r_ (Jqb (Zp! JFJ) (Jkh (Jki (Hz (JKU (FT! JFJ (if! N2! g.y13 CV)))))))))))))) K8));show QG? 0 (λv0=>JvJ 4);have h00:=uW! v0 4;have h01:=DR v0 (show TN! 4 by decide);have#[m,em,hm]:=Jce (i:=1+v0 % 4) (j:=5) (QH FB h00) v!;rw[show 1+v0 % 4=BV! from em];have m1:1<=m:=W!
 have m4:Fx!:=W!
 clear em hm h00 h01;show QG? 1 (λv1=>JvJ 8);have h10:=uW! v1 8;have sh2:2<=2+v1 % 8:=QK h10;generalize 2+v1 % 8=sh at sh2;clear h10;show DD?;intro p dx np pL nex;show#[p,dx,BV!,sh,A!,Ab,DI!,EM! m4,λpw V H2 S1 e1 e2 e3 e4 e5 e6 e7 e8 kp1=>HF!];show Ho? (Ds! (d! (EY! dx (JD! p)) p (S8! CD []))) np
 have s2:Ei!:=JO6 pH np;clear pH kp1 np pL nex;rw[CL] at e7;have V0:WI H2 pw V VV! m 0 0 0 0 [] []:=JqM S1.wo e2 e3 e4 e5 e6 e7 e8 e1;show DD?;intro p0 dx0 xC JA5 JI8;have fA:BV H2 (d! (MG! dx0 (JD! p0)) p0 (JN! CW dx0 [])):=px! xC JA5
 have#[vS,hp]:=S1.ob;have sY:p0∉Cy pw V:=λz=>Kh! V0.new xC z;have JA3:p0≠p:=λz=>by rw[z,hp] at xC;cases xC
 show#[p0,dx0,p::Cy pw V,BV!,sh,A!,Ab,DI!,EM! m4,OH! #[?_,OH! #[S1.ne,S1.wo.nd]],os!,λW H3 S3 f1 f2 f3 f4 f5 f6 f7 f8 kp3 apart=>HF!];.intro z;obtain z|z:=ZM z;(.show JA3 z);.show sY z
 .show Fr?;(.rw[hb];show#[_,P! fA hp]);.have#[o,e,_]:=S1.wo.some_at hb;show#[o,KH! fA]
 show Kh? fA xC;clear fA kp3 xC JA5 JI8 sY JA3;rw[CL] at f7;have W0:WI H3 p0 W VV! m 0 0 0 0 [] []:=JqM S3 f2 f3 f4 f5 f6 f7 f8 f1;have T0:RT H3 p pw p0 m 0 W V VV! VV! [] [] [] [] []:=by show#[W0,V0.same s3,Al.start f3 e3 f2 e2 (Ck! e1 f1) f7 e7 f8 e8,JDL,#[vS,HE! hp],λh=>?_,λh=>?_,JhP f2 f2 f3,JhP e2 e2 e3,(Al! (Fa! hz)),JaV f5,JaV e5];(.obtain h1|h1:=h1;(.obtain h2|h2:=h2;(.show apart b h1 (Ec! h2));.cases h2);.cases h1);(.show A0?;(.show apart p h (H8!));.cases h);.show A0?;(.show S1.ne h);.cases h
 have hS3:=CK! hS.keep (Af s2 s3);clear W0 V0 S1 S3 e1 e2 e3 e4 e5 e6 e7 e8 f1 f2 f3 f4 f5 f6 f7 f8 apart s2 s3 hp hS;obtain⟨N,eN,N1⟩:∃N:Nat,bi (if JqY > 12 then JqY else 12)=vv!/\N<=30:=by generalize Cf! (AZ! Bj! L2.V.int)=z;by_cases c1:z<32;(.rw[AF c1];by_cases c2:z > 12;(.rw[AF c2];show#[D2! (z-2),W!,W!]);.rw[AD c2];show#[10,W!,W!]);.rw[AD c1,lG! AF];show#[30,W!,W!]
 show#[_,A!,a,_,A!,h! hS3.sq,_,_,A!,_,_,A!,2,vv!,by rw[<-eN],#[Au!,Au!,oK! AG,W!],?_];rw[show D2! (vv!-2)=N by lia];clear eN;show il! 2 N (λi σ Hc=>JxC) #[SB,SB,SB,SB,W,V,_,_,[],[],[],[],[],J4!,A!,T0,A3!,hS3];.clear T0;rintro i σ Hc hi ⟨u7,u8,u9,um,W,V,D,E',al,bl,ys,zs,fo,q,rfl,T,_,hSc⟩;show#[_,A!,_,A!,a,ns,2+AN!,A!,hSc.sq,Df!,DI!,W!,λv=>#[v,7,A!,Au!,λl xs H5 s5 hl0 el xl _=>?_]];have#[x0,x1,x2,x3,x4,x5,x6,rfl]:=J67 xl;have nlw:¬Ft p0 W ys l:=T.w.new hl0;have nlv:¬Ft pw V zs l:=T.v.new hl0;have T5:=T.same s5;have mc:=T.mw.c1;have iz:=T.w.iz;have xR:i<60:=JOU hi;show#[_,A!,_,A!,_,A!,p0,l,W,D,m,i,i,0,60*i,al,ys,x0,x1,x2,x3,x4,x5,x6,A!,el,T5.w,xR,(FI! #[(T.mw.ls l hl).1,QF! (T.mw.ls l hl).2]),λt7 r8 H7 s6 wK sc ia=>?_];have#[ur,_]:=sc.sm;have s57:=Af s5 s6;have T7:=T.same s57;have hS7:=CK! hSc.keep s57;have el7:=K5! el;clear T5 sc el s5 s6 s57 hSc T mc;have#[vs7,ev7,_]:=wK.row;show#[_,A!,_,A!,t7,_,0,_,A!,A!,DB! ev7,QFZ,A!,x! #[_,A!,_,_,A!,A!,?_]];rw[J5j,show P9!+bi (Jsm r8)=Cf! (ZQ! (Jsm r8)) from(Int.natCast_add _ _).symm];show#[_,A!,_,A!,p0,t7,W,D,m,i,i,60*i,60*xL,al,ys,r8,A!,T7.w,xR,W!,L4! KY xR,m4,Ay!,wK,λt8 d8 W8 D8 uN jn H08 H8 s08 rp8 ok8 rm yY rX fp8 _=>?_];rw[<-rm.len ia];have mv8:Mv p0 W ys W8 jn H7 H8:=#[rX,fp8];have#[vi8,x8]:=T7.x.mv T7.w T7.v mv8;have#[uM,ob7]:=T7.ob;have#[ob8,nw8]:=mv8.off ob7 T7.nw;have#[el8,_]:=mv8.off el7 nlw;have YG:=T7.w.FV rX;have hS8:=hS7.keep YG;have JJg:=wK.keep YG;have mw8:=rm.nm T7.mw (yY.P' v!);have sg8:=rm.sg T7.w yY T7.sg;have fw8:=T7.fw.keep YG;have fv8:=T7.fv.keep YG;show CW?;show Jwe (LU! JxV) ?_ ?_;(.intro nx hx;show#[AT? _ A! t7 r8 JJg ur (λH9 s9=>?_)];have uk:=vi8.same s9;have wi9:=yY.same s9;have ob9:=P! s9 ob8;have hS9:=CK! hS8.keep s9;have rp9:=Jh5 s9 rp8;have el9:=P! s9 el8;have fw9:=CK! fw8.keep s9;have fv9:=CK! fv8.keep s9;have k39:DM H08 H9:=JS (Af s08 s9);show#[p,E3 (Y_ r8) (TZ r8),λv H2=>yT λ(z:Str)(dv:PyData)(V':EF)(E1:T2->Prop)(WQ:List LL)(VS:List Qy)(H0:Hp)=>v=II!/\BV H0 H2/\gh r8 dv z/\Jlz H0 r8 (VX dv)/\WI H2 pw V' E1 m xL xL 0 (60*xL) WQ VS/\Mv pw V zs V' VS H9 H2,λc H2=>(∃H0,RR m V V bl bl zs zs H0 r8 (RD c))/\BV H9 H2,A!,#[uM,_,ob9],λH1 s1 Q' E1 kq ke=>?_,?_,?_];(.show Jy3 g #[#[uM,QA! ob9],(uk.same s1).wa] (uk.same s1) xR v! (KY xR FB) m4 B6! v! T7.mv (JS2 (AA hi N1)) ur (λz dv W' D' al' EA H0 H' s0 tx ef OT mv=>P! kq #[z,dv,W',D',AL!,EA,H0,A!,s0,tx,ef,OT,Mv.pre s1 mv]) (λcls c H0 H' s' xf ef=>ke AD! c H' xf #[#[H0,ef],Af s1 s']));(.rintro v oO t10 ⟨z,dv,xp,yU,hX,gp,JJv,rfl,JIk,tx,tL,vq,oY⟩ JJT;have#[JIb,x10]:=x8.symm.mv uk wi9 oY;have#[JI3,JI4]:=oY.off ob9 T7.nv;have#[JJs,_]:=oY.off el9 nlv;show QR? vq;subst ed;have su:=uk.FV oY.fr;have#[v2,sq,rv]:=J2u (Jwv uk oY.fr rp9 rm.pln);have#[zO,fw',fv']:=fx.fd T7.w xR (fw9.keep su) (fv9.keep su) (k39.trans su) (JS JIk);have T10:JwX oO zO:=#[JIb,vq,a10,x10.symm,#[uM,JI3],nw8,JI4,mw8,tL.nm T7.mv (vq.P' v!),sg8,fw',fv'];have w_:=G2! l3! II! JJT;show#[RI? mZ! (E7 w_ sq)];rw[M8 A!];show Cq (wP hx #[xp,yU,hX,gp,zO,A!,T10.same w_,CK! (hS9.keep su).keep w_,P! w_ JJs]));.rintro c H9' oO t10 ⟨⟨JJv,tL⟩,s9'⟩ c8 JIj e10;have cp:=Af s9' JIj;show QR? uk;subst ed;have#[v2,sq,rv]:=J2u (Jh5 cp rp9);have k9:=JS cp;have T10:RT oO p pw p0 m xL W8 V D8 E' uN bl jn zs fo:=#[wi9.same cp,(uk.same cp).upn (ZG _) KD!,a10,x8,#[uM,P! cp ob9],nw8,T7.nv,mw8,T7.mv.up,sg8,#[Kq! fx.PZ (fw9.keep k9).at_,T7.fw.sm],fv9.keep k9];show#[RI? (DB! e10) sq];rw[M8 A!];show Cq (wP hx #[V,E',bl,zs,fo,A!,T10,hS9.keep k9,P! cp el9]));rintro GF yQ ⟨xp,yU,hX,gp,wN,rfl,T11,JJj,JJr⟩;have iz8:=T11.w.iz;show#[_,A!,_,A!,_,A!,_,A!,p0,l,W8,D8,m,Am!,Am!,0,60*xL,jn.length,uN,jn,x0,x1,x2,x3,x4,x5,x6,A!,JJr,T11.w,W!,JOU (AA iz8 hi),λq2 H12 j3 sm2=>?_];show NG? T11.same j3 (AA hi N1) sm2 (λt13 b13 H13 YW JpL due=>?_);show#[_,A!,_,A!,_,A!,_,A!,P! due (λt14 H14 yg h14=>?_)];have#[r1,r2,ok]:=h14;show QN? b13 b13;rw[Jo6 ok];have JA0:=Af j3 (Af YW yg);show Cq #[_,_,_,_,W8,xp,D8,yU,uN,hX,jn,gp,wN,q2,A!,T11.same JA0,sm2,CK! JJj.keep JA0]
 clear T0;rintro σ Hc ⟨u7,u8,u9,um,W,V,D,E',al,bl,ys,zs,fo,q,rfl,T,sm,hSc⟩;show#[Aj? _ (JyQ 6) Fy!];have el:PH! Hc l xl! l xl!:=Ab;have s0:=aW! QCF O2! hl;have eL:(HO.BK [O2! (qT q),bn lD!,bn lE!,bn lF!,RP!,bn Ah!])=XV (QCF O2!):=Ed! J4b
 show#[l,A!,tn!,?_];rw[eL];have T1:=T.same s0;show Fc? Su l (Du! (qL q).map qT O2!) (λi σ H2=>JxL P9! (d! Hc l xl!)) #[_,_,A!,BV.refl _] (kg! (by have#[_,_,_,s]:=h;show UV! s));.rintro i v σ H2 hv ⟨u11,u12,rfl,s2⟩;rw[ZH,ZH,QE] at hv;have#[r,hr,rfl]:=JO! hv;have smr:=J6q sm r (ZP hr);show NG? T1.same s2 N1 smr (λt3 b3 H3 s3 sh3 due=>?_);show#[_,A!,_,A!,_,A!,_,A!,_,A!,P! due (λt4 H4 s4 h4=>?_)];have#[r1,r2,ok]:=h4;show QN? b3 b3;rw[Jo6 ok];have s24:=Af s2 (Af s3 s4);obtain⟨z,rfl,e3⟩|⟨j,rfl,e3⟩:=sh3;(.show QX?;rw[M8 A!];show C4 #[v? t3,_,1,_,A!,A!,Mc! s4 e3,A!,_,_,_,AC,A!,II!,Jon,AC,A!,Cq JTM]);.show QX?;rw[Gq ZV];show Cq (Cq JTM)
 .rintro σ H2 ⟨u11,u12,rfl,s2⟩;show k H2
open E Lake.K52
open N Lake.K52
open PySem L2 FX
def goal_of{P:Program}{w:World}{K:W.Frag}{mg:wS}{C CW CP CI CD HE NH NG OD MI NW NL NI NR FA i4 jI Wr kT oJ nZ mY mU qJ qU mZ n5 qh qO qe qW qS qH qN qI oN oH n8 qX qV qg qR qQ nY jS Mo Iw Iz Iy Mj N3 oA Nz N2 N6 Mn Mp Mi Ml qP qY mX i' qK qM m_ nC nD Ka N8 N7 N4 N9 N5 n_ qZ Ws n6 nX mW nK oF nq qa qb oB qi nJ nG ny oC ng oK mf oE oG nV nQ nU ni n9 oM mV oI dA:Addr}{ki mD i9 kg l8 mF lU lO p6 qE lV mK qz p_ qw qk qD pq p9 p5 mh lr mO qm qF qx qC qB mE i_ Mw Kc Ke Kd Ms Od mR Ob Oc Og Mu Mx Mr Mt qA qr lR mj p7 p8 ml mn my Kf Oi Oh Oe Oj Of mQ qt i8 mL mC lQ m7 lZ mI qu qv mS q8 m6 mz mJ lX mG l9 lW lY lb mB m8 m9 mH mP l_ lP l7 dC:FuncData}:JxX (JMs dA dC):=λ_ X G Ja Jb Jc Jd Je Jf Jg Jh Ji Jj Jk Jl Jm Jn Jo Jp Jq Jr Js Jt Ju Jv Jw Jx Jy Jz J0 J1 J2 J3 J4 J5 J6 J7 J8 J9 Qa Qb Qc Qd Qe Qf Qg Qh Qi Qj Qk Ql Qm Qn Qo Qp Qq Qr Qs Qt Qu Qv Qw Qx Qy Qz Q0 Q1 Q2 Q3 Q4 Q5 Q6 Q7 Q8 Q9 Ua Ub Uc Ud Ue Uf Ug Uh Ui Uj Uk Ul Um Un Uo Up Uq Ur Us Ut Uu Uv Uw Ux Uy Uz U0 U1 U2 U3 U4 U5 U6 U7 U8 U9 Va Vb Vc Vd Ve Vf Vg Vh Vi Vj Vk Vl Vm Vn Vo Vp Vq Vr Vs Vt Vu Vv Vw Vx Vy Vz V0 V1 V2 V3 V4 V5 V6 V7 V8 V9 Ya Yb Yc Yd Ye Yf Yg Yh Yi Yj Yk Yl Ym Yn Yo Yp Yq Yr Ys Yt Yu Yv Yw Yx Yy Yz Y0 Y1 Y2 Y3 Y4 Y5 Y6 Y7 Y8 Y9 Za Zb Zc Zd Ze Zf Zg Zh Zi Zj Zk Zl Zm Zn Zo Zp Zq Zr Zs Zt Zu Zv Zw Zx Zy Zz Z0 Z1 Z2 Z3 Z4 Z5 Z6 Z7 Z8 Z9 Ba Bb Bc Bd Be Bf Bg Bh Bi Bj Bk Bl Bm Bn Bo Bp Bq Br Bs Bt Bu Bv Bw Bx By Bz B0 B1 B2 B3 B4 B5 B6 B7 B8 B9 Eb Ec base=>(Jym (J7d gW) (P,w,K,mg,Bf!,C,CW,CP,CI,CD,HE,NH,NG,OD,MI,NW,NL,NI,NR,FA,λi=>[i4,jI,Wr,kT,oJ,nZ,mY,mU,qJ,qU,mZ,n5,qh,qO,qe,qW,qS,qH,qN,qI,oN,oH,n8,qX,qV,qg,qR,qQ,nY,jS,Mo,Iw,Iz,Iy,Mj,N3,oA,Nz,N2,N6,Mn,Mp,Mi,Ml,qP,qY,mX,i',qK,qM,m_,nC,nD,Ka,N8,N7,N4,N9,N5,n_,qZ,Ws,n6,nX,mW,nK,oF,nq,qa,qb,oB,qi,nJ,nG,ny,oC,ng,oK,mf,oE,oG,nV,nQ,nU,ni,n9,oM,mV,oI,dA].getD i 0,λi=>[ki,mD,i9,kg,l8,mF,lU,lO,p6,qE,lV,mK,qz,p_,qw,qk,qD,pq,p9,p5,mh,lr,mO,qm,qF,qx,qC,qB,mE,i_,Mw,Kc,Ke,Kd,Ms,Od,mR,Ob,Oc,Og,Mu,Mx,Mr,Mt,qA,qr,lR,mj,p7,p8,ml,mn,my,Kf,Oi,Oh,Oe,Oj,Of,mQ,qt,i8,mL,mC,lQ,m7,lZ,mI,qu,qv,mS,q8,m6,mz,mJ,lX,mG,l9,lW,lY,lb,mB,m8,m9,mH,mP,l_,lP,l7,dC].getD i default):JxY) X G Ja Jb Jc Jd Je Jf Jg Jh Ji Jj Jk Jl Jm Jn Jo Jp Jq Jr Js Jt Ju Jv Jw Jx Jy Jz J0 J1 J2 J3 J4 J5 J6 J7 J8 J9 Qa Qb Qc Qd Qe Qf Qg Qh Qi Qj Qk Ql Qm Qn Qo Qp Qq Qr Qs Qt Qu Qv Qw Qx Qy Qz Q0 Q1 Q2 Q3 Q4 Q5 Q6 Q7 Q8 Q9 Ua Ub Uc Ud Ue Uf Ug Uh Ui Uj Uk Ul Um Un Uo Up Uq Ur Us Ut Uu Uv Uw Ux Uy Uz U0 U1 U2 U3 U4 U5 U6 U7 U8 U9 Va Vb Vc Vd Ve Vf Vg Vh Vi Vj Vk Vl Vm Vn Vo Vp Vq Vr Vs Vt Vu Vv Vw Vx Vy Vz V0 V1 V2 V3 V4 V5 V6 V7 V8 V9 Ya Yb Yc Yd Ye Yf Yg Yh Yi Yj Yk Yl Ym Yn Yo Yp Yq Yr Ys Yt Yu Yv Yw Yx Yy Yz Y0 Y1 Y2 Y3 Y4 Y5 Y6 Y7 Y8 Y9 Za Zb Zc Zd Ze Zf Zg Zh Zi Zj Zk Zl Zm Zn Zo Zp Zq Zr Zs Zt Zu Zv Zw Zx Zy Zz Z0 Z1 Z2 Z3 Z4 Z5 Z6 Z7 Z8 Z9 Ba Bb Bc Bd Be Bf Bg Bh Bi Bj Bk Bl Bm Bn Bo Bp Bq Br Bs Bt Bu Bv Bw Bx By Bz B0 B1 B2 B3 B4 B5 B6 B7 B8 B9 Eb Ec
def all_mk{P:Program}{w:World}{K:W.Frag}{h:Heap}{mg:wS}{fa f:Addr}{d:FuncData}(X:V1!)(G:JKT)(zF:QDh Lw!)(hW:GI K Lw! vg f d)(A:JMs f d) : jT! ((∀(s:Shared)(v:Value),QDz [v] (Ev! FN!))/\JlA YC 12 nP! (Xg K)):=by have e:=zF.symm.trans (KC X G hW.a);cases e;have z:=hW.fn;have#[#[oc,od,kV,doc,pm,an,ER,ct,pK,rfl,lk,cd],kp]:=z;show#[W.fnOf Lw! Lw! (Tc vg) (Kb vg) (Ak vg) GM kV doc pm an ER ct,λs v=>.of_eq A!,λbase _ _=>A Bf!]
def walk{l:W.OpenLaw}{q:Program}{loose:j!}{XP:uK!}{YP:uJ!}{d:DefRec}{K:JVP}(hn:l.most=D! 63)(zH:qf!)(hY:JnF)(F:JnG (jT! ((∀(s:Shared) (u:Value),QDz [u] [(FN!,u)])/\JqK YC 12 nP! (Xg (K Yf!))))) : JVB :=L2.tR (n:=63) (k:=12) (x:=FN!) (CX:=λw=>YC) (sp:=λw=>Xg (K Yf!)) hn FB zH #[A!,Au!,Au!] hY F (λ_ H a ns hl hO hS=>#[a,ns,A!,k_.of hO hS,hl,LY!]) λ_ _ _ _ _ z=>z
end
end Lake.K52
open PySem PySem.W PyProof.Rows
set_option maxRecDepth 100000 in
set_option maxHeartbeats 0 in
theorem PySem.Challenge.cw_farhold_k52_desk_asks_holds : PySem.Challenge.rw_farhold_k52_desk_asks.Holds := by
 w_on;o_law;k_head;(case hw=>w_witness2)
 k_fill
 refine K52.walk (l:=PySem.Challenge.rw_farhold_k52_desk_asks) rfl rfl (fun w h Y=>W.kIn_of Y) ?F
 case F =>
  intro w mg fa h KX G hmg
  refine' K52.all_mk KX G hmg ?jP (K52.goal_of KX G ?aj ?ak ?ao ?aq ?au ?aA ?aB ?aC ?aD ?aF ?aG ?aH ?aJ ?aK ?aL ?aM ?aN ?aO ?aP ?aQ ?aR ?aU ?aV ?aW ?aX ?aY ?aZ ?bf ?bk ?bw ?bx ?bA ?bB ?bC ?bD ?bF ?bG ?bH ?bJ ?bK ?bL ?bM ?bN ?bO ?bQ ?bR ?bT ?bU ?bV ?bW ?bY ?bZ ?cg ?cj ?cu ?cA ?cB ?cC ?cD ?cF ?cG ?cH ?cI ?cJ ?cL ?cM ?cN ?cO ?cP ?cQ ?cR ?cT ?cU ?cV ?cW ?cX ?cY ?cZ ?c7 ?dg ?dh ?dj ?dw ?dz ?dB ?dD ?dF ?dG ?dH ?dI ?dJ ?dK ?dM ?dN ?dO ?dR ?dU ?dW ?dX ?dY ?dZ ?d7 ?d8 ?d9 ?eE ?eF ?eG ?eH ?eN ?eO ?eU ?eV ?eX ?eY ?eZ ?fj ?fu ?fB ?fC ?fD ?fG ?fH ?fJ ?fK ?fL ?fM ?fO ?fP ?fQ ?fU ?fV ?fW ?fX ?fY ?fZ ?f9 ?gb ?gj ?gk ?gn ?gq ?gw ?gA ?gB ?gD ?gF ?gG ?gH ?gJ ?gK ?gM ?gO ?gP ?gQ ?gR ?gU ?gV ?gY ?gZ ?g8 ?iu ?iw ?iy ?iz ?iB ?iC ?iD ?iG ?iH ?iJ ?iK ?iM ?iQ ?iR ?iT ?iU ?iV ?iW ?iY ?iZ ?jc ?jd ?je ?jf ?jg ?jh ?ji ?jj ?jk ?jl ?jm ?jo ?jq ?jr ?jt ?ju ?jw ?jx ?jy ?jz ?jA ?jB ?jC ?jD ?jE ?jF ?jG ?jH ?jJ ?jK ?jL ?jM ?jN ?jO ?jP ?jQ ?jR ?jT ?jU ?jV ?jW ?jX ?jY ?jZ ?j4 ?j5 ?j6 ?j7 ?j8 ?j9 ?kh ?kj ?kE ?kI ?kJ ?kO ?kW ?kY ?kZ ?lg ?lq ?lu ?lA ?lB ?lC ?lD ?lE ?lF ?lG ?lH ?lJ ?lK ?lM ?lN)
  case aj|ak|ao|aq|au|aA|aB|aC|aD|aF|aG|aH|aJ|aK|fK=>k_is
  case fL=>exact FX.forms_mk (by k_is) (by repeat (first|exact FX.FmL.nil|refine FX.FmL.cons (by k_is) (FX.fm_vals (by decide +kernel)) ?_)) rfl
  case aL|aM|aY|aZ|bf|bk|bw|bx|bK|bL|bM|bN|bO|bQ|cj|cu|cA|cB|cC|cD|cO|cP|cQ|cR|cT|cU|dj|dw|dz|dB|dD|dF|dR|dU|dW|dX|dY|dZ|eO|eU|eV|eX|eY|eZ|jR|jT|jU|jV|jW|jX|jY|j4|j5|j6|j7|j8|j9|kj|kE|kJ|kO|kW|kY|lg|lq|lu|lA|lB|lC|lD|lE|lF|lG|lH|lJ|lK|lM|lN=>k_is
  case aN|aO|aP|aQ|aR|aU|aV|aW|aX=>k_exc
  case bA|bB|bC|bD|bF|bG|bH|bJ|bR|bT|bU|bV|bW|bY|bZ|cg|cF|cG|cH|cI|cJ|cL|cM|cN|cV|cW|cX|cY|cZ|c7|dg|dh|dG|dH|dI|dJ|dK|dM|dN|dO|d7|d8|d9|eE|eF|eG|eH|eN|fj|fu|fB|fC|fD|fG|fH|fJ=>kit_is
  case fM|fO|fP|iQ|ji=>exact⟨by k_is,by k_is,⟨⟨_,_,_,_,_,_,_,_,_,rfl,by k_is,by k_is⟩,by k_is⟩⟩
  case fQ|fU|fV|fW|fX|fY|fZ|f9|gb|gj|gk|gn|gq|gw|gA|gB|gD|gF|gG|gH|gJ|gK|gM|gO|gP|gQ|gR|gU|gV|gY|gZ|g8|iu|iw|iy|iz|iB|iC|iD|iG|iH|iR|iT|iU|iV|iW|iY|iZ|jc|jd|je|jf|jj|jk|jl|jm|jo=>exact K52.MeI.mth ⟨by k_is,by k_is,⟨⟨_,_,_,_,_,_,_,_,_,rfl,by k_is,by k_is⟩,by k_is⟩⟩
  case iJ|iK|iM|jg|jh|jq|jr|jt|ju|jw|jx|jy|jz|jA|jB|jC|jD|jE|jF|jG|jH|jJ|jK|jL|jM|jN|jO=>exact K52.GI.gdi ⟨by k_is,⟨⟨_,_,_,_,_,_,_,_,_,rfl,by k_is,by k_is⟩,by k_is⟩⟩
  case jP=>exact⟨by k_is,⟨⟨_,_,_,_,_,_,_,_,_,rfl,by k_is,by k_is⟩,by k_is⟩⟩
  case jQ|jZ|kh|kI|kZ=>constructor<;>k_is
